import PyProof.Rows.All
import Wide.All
import OpenK.AllK
import Wide.FinOn
import Lean
import PyProof.EqAt
import PyProof.EqKinds
import PyProof.TupleCall
import PyProof.CallFns
import PyProof.Draws
import PyProof.EnumMake
import PyProof.ExcArgsOwn
import PyProof.FactsAll.dict_1
import PyProof.FactsAll.dict_4
import PyProof.FactsAll.subtypes_4
import PyProof.FactsAll.tuple_2
import PyProof.ListMulRoad
import PyProof.ListRange
import PyProof.MaxThree
import PyProof.NeKinds
import PyProof.ReprRoads
import PyProof.Rows.CallKwBuiltin
import PyProof.Rows.EnumRows
import PyProof.Rows.SetFrom
import PyProof.Rows.SortRev
import PyProof.TupleOfStr
import PySem.Challenge.RW_tienumbers_k74_whole_cuts_and_places
set_option Elab.async false
set_option linter.all false
set_option maxRecDepth 100000
set_option maxHeartbeats 4000000
noncomputable section
section
open PySem PySem.Spec PyProof.Rows
abbrev Dl:=@wpAny_bind
abbrev Dm:=@Heap.get?_push_of_some
abbrev Do:=@List.getElem?_eq_getElem
abbrev Dp:=@List.length_map
abbrev Dq:=@List.length_cons
abbrev Dr:=@wpAny_pure
abbrev Ds:=@List.size_toArray
abbrev Du:=@List.mem_append_right
abbrev Dv:=@List.mem_cons_of_mem
abbrev Dw:=@Heap.get?_push_size
abbrev Dx:=@List.mem_cons
abbrev Dy:=@decide_eq_true
abbrev Dz:=@List.mem_append_left
abbrev DA:=@Heap.lt_size
abbrev DB:=@List.getD_eq_getElem?_getD
abbrev DC:=@List.mem_cons_self
abbrev DD:=@List.length_append
abbrev DE:=@Nat.le_refl
abbrev DF:=@List.mem_of_getElem?
abbrev DG:=@List.getElem?_eq_some_iff
abbrev DH:=@Bool.false_ne_true
abbrev DI:=@of_decide_eq_true
abbrev DJ:=@List.map_cons
abbrev DK:=@List.all_eq_true
abbrev DL:=@List.getElem?_map
abbrev DM:=@Bool.and_eq_true
abbrev DN:=@List.getElem?_append_left
abbrev DO:=@Nat.ne_of_lt
abbrev DP:=@List.mem_map
abbrev DQ:=@List.mem_singleton
abbrev DR:=@List.getElem?_cons_zero
abbrev DS:=@decide_eq_false
abbrev DT:=@List.mem_append
abbrev DU:=@List.map_congr_left
abbrev DV:=@List.length_pos_iff
abbrev DW:=@Nat.lt_of_lt_of_le
abbrev DX:=@List.getElem?_cons_succ
abbrev DY:=@PySem.W.mg_none_of
abbrev DZ:=@Heap.size_push
abbrev Ea:=@List.getElem_mem
abbrev Eb:=@List.getElem?_append_right
abbrev Ec:=@List.append_nil
abbrev Ed:=@List.map_map
abbrev Ee:=@List.nodup_append
abbrev Ef:=@List.pairwise_cons
abbrev Eg:=@List.lookup_cons
abbrev Eh:=@PySem.mem_of_lookup
abbrev Ei:=@wpAny_newObj_type
abbrev Ej:=@wpAny_pyIter_tuple
abbrev Ek:=@wpAny_callSpecial?_slot
abbrev El:=@Option.map_eq_some_iff
abbrev Em:=@List.cons_append
abbrev En:=@List.nodup_cons
abbrev Eo:=@Array.getD_eq_getD_getElem?
abbrev Ep:=@Nat.le_trans
abbrev Er:=@List.length_replicate
abbrev Es:=@wpAny_call_entry
abbrev Et:=@List.not_mem_nil
abbrev Eu:=@List.nil_append
abbrev Ev:=@List.map_append
abbrev Ew:=@Nat.zero_add
abbrev Ex:=@List.getElem?_set_ne
abbrev Ey:=@List.mem_filter
abbrev Ez:=@Array.length_toList
abbrev EA:=@List.mem_range
abbrev EB:=@wpAny_loadPart'
abbrev EC:=@List.length_set
abbrev ED:=@List.replicate_succ
abbrev EE:=@decide_eq_true_eq
abbrev EF:=@List.append_assoc
abbrev EG:=@Heap.get?_update_self
abbrev EH:=@wpAny_field
abbrev EI:=@List.set_cons_zero
abbrev EJ:=@List.set_cons_succ
abbrev EK:=@List.length_nil
abbrev EL:=@Nat.lt_succ_of_lt
abbrev EM:=@Int.toNat_natCast
abbrev EN:=@Bool.and_false
abbrev EO:=@Array.getElem?_eq_getElem
abbrev EQ:=@wpAny_mono
abbrev ER:=@wpAny_holding
abbrev ES:=@List.getElem?_replicate
abbrev ET:=@List.length_range
abbrev EU:=@List.flatMap_append
abbrev EV:=@List.getElem?_set_self
abbrev EW:=@beq_self_eq_true
abbrev EY:=@List.length_take
abbrev EZ:=@List.sum_cons
abbrev E0:=@Array.getElem?_toList
abbrev E1:=@wpAny_setField
abbrev E2:=@List.mem_iff_getElem
abbrev E3:=@wpAny_truthy_bool
abbrev E4:=@wpAny_pyIter_list
abbrev E5:=@List.flatten_cons
abbrev E6:=@List.flatMap_cons
abbrev E7:=@Nat.ne_of_gt
abbrev E8:=@Nat.min_self
abbrev E9:=@Nat.le_of_lt
abbrev Fa:=@List.map_nil
abbrev Fb:=@Nat.zero_le
abbrev Fc:=@List.perm_iff_count
abbrev Fd:=@Bool.and_true
abbrev Fe:=@wpAny_typeNameOfWhole_keyiter
abbrev Ff:=@List.getElem_map
abbrev Fg:=@List.ext_getElem
abbrev Fh:=@List.nodup_nil
abbrev Fi:=@Heap.get?_update_other
abbrev Fj:=@List.length_zip
abbrev Fk:=@List.Perm.of_eq
abbrev Fl:=@PySem.W.mg_of
abbrev Fm:=@Nat.lt_irrefl
abbrev Fn:=@Int.emod_eq_of_lt
abbrev Fo:=@wpAny_seqItems
abbrev Fp:=@List.getElem?_zip_eq_some
abbrev Fq:=@Bool.false_and
abbrev Fs:=@Nat.lt_succ_self
abbrev Ft:=@beq_eq_false_iff_ne
abbrev Fu:=@PySem.W.hideAll_get
abbrev Fv:=@wpAny_typeNameOf_keyiter
abbrev Fw:=@Nat.sub_self
abbrev Fy:=@of_decide_eq_false
abbrev Fz:=@PySem.F.plainAttrs_list
abbrev FA:=@List.find?_cons
abbrev FC:=@Bool.true_and
abbrev FD:=@Bool.or_false
abbrev FE:=@Bool.or_eq_true
abbrev FF:=@Bool.false_or
abbrev FG:=@Bool.false_eq_true
abbrev FH:=@List.pairwise_map
abbrev FI:=@Nat.mul_le_mul
abbrev FJ:=@List.getElem?_eq_none
abbrev FK:=@List.all_map
abbrev FL:=@Bool.true_or
abbrev FM:=@Bool.or_true
abbrev FN:=@Nat.le_add_right
abbrev FO:=@List.flatMap_nil
abbrev FP:=@Int.mul_le_mul_of_nonneg_left
abbrev FR:=@wpAny_newList
abbrev FT:=@wpAny_passesOwn
abbrev FU:=@List.getElem_of_mem
abbrev FV:=@List.filterMap_cons
abbrev FW:=@PySem.F.excBase_ValueError
abbrev FX:=@List.perm_append_singleton
abbrev FY:=@Obj.data_mapFields
abbrev FZ:=@List.zip_cons_cons
abbrev F0:=@List.mem_filterMap
abbrev F1:=@wpAny_runValue
abbrev F2:=@PySem.W.Frag
end
namespace L2
open PySem PySem.Spec PyProof.Rows
abbrev Key:=Sum Int Str
def o7:Key->Value->Bool
 | .inl k,v=>Value.isInt k v
 | .inr x,v=>Value.isStrOf x v
def keyH(w:World):Key->Int
 | .inl k=>hashInt k
 | .inr x=>hashStr w x
theorem bo:∀ {k:Key} {v:Value},o7 k v=true->(∃ i t,k=Sum.inl i/\v=Value.int i t)\/(∃ x t,k=Sum.inr x/\v=Value.str x t)
 | .inl i,v,h=>by
  obtain ⟨t,e⟩:=Value.isInt_shape (k:=i) (v:=v) h;exact .inl ⟨i,t,rfl,e⟩
 | .inr x,v,h=>by
  obtain ⟨t,e⟩:=Value.isStrOf_shape (x:=x) (v:=v) h;exact .inr ⟨x,t,rfl,e⟩
theorem w8(i:Int)(t:Tok):o7 (.inl i) (.int i t)=true:=by simp [o7,Value.isInt]
theorem wZ(x:Str)(t:Tok):o7 (.inr x) (.str x t)=true:=by simp [o7,Value.isStrOf]
theorem key_ll(a b:Int):decide ((Sum.inl a:Key)=Sum.inl b)=(a == b):=by
 by_cases e:a=b
 ·subst e;simp
 ·have h:¬ (Sum.inl a:Key)=Sum.inl b:=fun q=>e (Sum.inl.inj q)
  rw [DS h];exact (Ft.mpr e).symm
theorem key_rr(a b:Str):decide ((Sum.inr a:Key)=Sum.inr b)=decide (a=b):=by
 by_cases e:a=b
 ·subst e;simp
 ·have h:¬ (Sum.inr a:Key)=Sum.inr b:=fun q=>e (Sum.inr.inj q)
  rw [DS h,DS e]
theorem key_lr(a:Int)(b:Str):decide ((Sum.inl a:Key)=Sum.inr b)=false:=DS (fun q=>nomatch q)
theorem key_rl(a:Str)(b:Int):decide ((Sum.inr a:Key)=Sum.inl b)=false:=DS (fun q=>nomatch q)
noncomputable def aW(prog:Program)(w:World):PySem.KeyKind prog w Key where
 is:=o7
 hash:=keyH w
 inj:=fun v a b ha hb=>by
  rcases bo ha with ⟨i,t,rfl,rfl⟩ | ⟨x,t,rfl,rfl⟩
  ·rcases bo hb with ⟨j,u,rfl,e⟩ | ⟨y,u,rfl,e⟩
   ·injection e with e1 _;rw [e1]
   ·exact nomatch e
  ·rcases bo hb with ⟨j,u,rfl,e⟩ | ⟨y,u,rfl,e⟩
   ·exact nomatch e
   ·injection e with e1 _;rw [e1]
 byValue:=fun k v h=>by
  rcases bo h with ⟨i,t,rfl,rfl⟩ | ⟨x,t,rfl,rfl⟩<;>rfl
 pyHash:=fun hv h=>by
  rcases bo hv with ⟨i,t,rfl,rfl⟩ | ⟨x,t,rfl,rfl⟩
  ·exact wpAny_pyHash_int h
  ·exact wpAny_pyHash_str h
 eqBool:=fun hu hv h=>by
  rcases bo hu with ⟨i,t,rfl,rfl⟩ | ⟨x,t,rfl,rfl⟩
  ·rcases bo hv with ⟨j,u,rfl,rfl⟩ | ⟨y,u,rfl,rfl⟩
   ·rw [key_ll] at h;exact wpAny_eqBool_int h
   ·rw [key_lr] at h;exact SeqAt.EqAt.int_str i t y u _ _ _ _ h
  ·rcases bo hv with ⟨j,u,rfl,rfl⟩ | ⟨y,u,rfl,rfl⟩
   ·rw [key_rl] at h;exact SeqAt.EqAt.str_int x t j u _ _ _ _ h
   ·rw [key_rr] at h;exact wpAny_eqBool_str h
 «strs»:=fun k x t v h=>by
  rcases bo h with ⟨i,u,rfl,e⟩ | ⟨y,u,rfl,e⟩
  ·exact nomatch e
  ·injection e with e1 _
   subst e1;cases v<;>rfl
theorem sw(prog:Program)(w:World)(i:Int)(t:Tok):(aW prog w).is (.inl i) (.int i t)=true:=w8 i t
theorem fb(prog:Program)(w:World)(x:Str)(t:Tok):(aW prog w).is (.inr x) (.str x t)=true:=wZ x t
inductive V where
 | non | bl (b:Bool) | int (i:Int) | str (x:Str) | byt (b:Array UInt8) | flt (b:UInt64) | ref (a:Addr) | ty (n:String)
 deriving DecidableEq
noncomputable def aB:V->Value->Prop
 | .non,u=>u=Value.none
 | .bl b,u=>u=Value.bool b
 | .int i,u=>∃ t,u=Value.int i t
 | .str x,u=>∃ t,u=Value.str x t
 | .byt b,u=>∃ t,u=Value.bytes b t
 | .flt b,u=>∃ t,u=Value.float b t
 | .ref a,u=>u=Value.ref a
 | .ty n,u=>u=Value.type n
abbrev aw:List V->List Value->Prop:=Paired aB
theorem aw.length{xs:List V}{us:List Value}(r:aw xs us):xs.length=us.length:=Paired.length r
theorem aw.get:∀ {xs:List V} {us:List Value} {i:Nat} {x:V},aw xs us->xs[i]?=some x->∃ u,us[i]?=some u/\aB x u
 | _,_,_,_,.nil,e=>by simp at e
 | _,_,0,_,.cons r _,e=>by simp at e;subst e;exact ⟨_,rfl,r⟩
 | _,_,i+1,x,.cons _ t,e=>by
  obtain ⟨u,h1,h2⟩:=aw.get (i:=i) (x:=x) t (by simpa using e);exact ⟨u,by simpa using h1,h2⟩
theorem aw.set{x:V}{u:Value}(r:aB x u):∀ {xs:List V} {us:List Value} (i:Nat),aw xs us->aw (xs.set i x) (us.set i u)
 | _,_,_,.nil=> .nil
 | _,_,0,.cons _ t=> .cons r t
 | _,_,i+1,.cons q t=> .cons q (aw.set r i t)
theorem aw.append:∀ {xs ys:List V} {us ws:List Value},aw xs us->aw ys ws->aw (xs++ys) (us++ws)
 | _,_,_,_,.nil,s=>s
 | _,_,_,_,.cons r t,s=> .cons r (aw.append t s)
theorem aw.take:∀ {xs:List V} {us:List Value} (n:Nat),aw xs us->aw (xs.take n) (us.take n)
 | _,_,0,_=> .nil
 | _,_,_+1,.nil=> .nil
 | _,_,n+1,.cons r t=> .cons r (aw.take n t)
theorem aw.drop:∀ {xs:List V} {us:List Value} (n:Nat),aw xs us->aw (xs.drop n) (us.drop n)
 | _,_,0,r=>r
 | _,_,_+1,.nil=> .nil
 | _,_,n+1,.cons _ t=>aw.drop n t
def qP:Option V->Option Value->Prop
 | some v,some u=>aB v u
 | none,none=>True
 | _,_=>False
def KV{κ:Type}:List (κ×V)->List (κ×Value)->Prop:=Paired fun (p:κ×V) (q:κ×Value)=>p.1=q.1/\aB p.2 q.2
def kV:Key->V
 | .inl i=> .int i
 | .inr x=> .str x
inductive HO where
 | lst (xs:List V)
 | tup (xs:List V)
 | dK (kvs:List (Key×V)) | dT (kvs:List (List Key×V))
 | set (S:Int->Bool) (n:Nat)
 | ins (C dx:Addr) (fs:List (Str×V))
 | own (x:Addr)
 | xd (fs:List (Str×V))
 | met (f x:Addr)
 | rng (lo hi:Int)
 | frz (o:Obj) (u:HO)
 | tbl (ps:Array Value)
 | ext (φ:Heap->Prop)
abbrev Hp:=Addr->Option HO
def upd(H:Hp)(a:Addr)(o:HO):Hp:=fun b=>if b=a then some o else H b
theorem av{H:Hp}{a:Addr}{o:HO}:upd H a o a=some o:=by unfold upd;rw [if_pos rfl]
theorem ai{H:Hp}{a b:Addr}{o:HO}(h:b≠a):upd H a o b=H b:=by unfold upd;rw [if_neg h]
theorem ne_of{H:Hp}{a b:Addr}{o u:HO}(h:H a=some o)(h':H b=some u)(d:o≠u):a≠b:=by
 intro e;subst e;rw [h] at h';exact d (Option.some.inj h')
theorem aj{H:Hp}{a b:Addr}{o:HO}(h:H a=some o)(h':H b=none):a≠b:=by
 intro e;subst e;rw [h] at h';cases h'
structure tU(h:Heap)(a:Addr)(items:Array Value):Prop where
 t:IsTup h a items
 nd:∀ o,h.get? a=some o->o.dict=none
theorem tU.new(h:Heap)(items:Array Value):tU (h.push { cls:= .type "tuple",data:= .seq items }) h.objs.size items:=⟨IsTup.new _ _,fun o e=>by rw [Dw _ rfl] at e;cases e;rfl⟩
section
variable(P:Program)(w:World)
noncomputable def bt(H:Hp)(h:Heap)(a:Addr):HO->Prop
 | .lst xs=>xs.length<=sizeLine/\∃ (its:List Value) (n:Nat),aw xs its/\h.get? a=some { cls:= .type "list",data:= .seq its.toArray n }
 | .tup xs=>xs.length<=sizeLine/\∃ its:List Value,aw xs its/\tU h a its.toArray
 | .dK kvs=>kvs.length<=sizeLine/\(a == sysModules)=false/\∃ vs,KV kvs vs/\h.DictOf (aW P w) a vs
 | .dT kvs=>kvs.length<=sizeLine/\(a == sysModules)=false/\∃ xs:List (List Key×Addr×Value),
  Paired (fun (p:List Key×V) (q:List Key×Addr×Value)=>p.1=q.1/\H q.2.1=some (.tup (p.1.map kV))/\aB p.2 q.2.2) kvs xs /\
  ∃ o es ep,h.get? a=some o/\o.ExactDict/\o.data = .dict es ep/\es.toList=xs.map (entryOfKey (tupleKind (aW P w)))/\(xs.map (·.1)).Nodup
 | .set S n=>h.SetOf (intKind P w) a S n
 | .ins C dx fs=>H dx=some (.own a)/\fs.length<=1000/\dx≠a/\h.get? a=some (PySem.W.instObj C dx) /\
  ∃ mA,h.Ns1 dx mA/\(∀ f,qP (fs.lookup f) (mA f))/\PySem.Within mA (fs.map (·.1))
 | .own _=>∃ o,h.get? a=some o
 | .xd fs=>∃ mA,h.Ns1 a mA/\∀ f,qP (fs.lookup f) (mA f)
 | .rng lo hi=>∃ t u v,h.get? a=some { cls:= .type "range",data:= .fields #[.int lo t,.int hi u,.int 1 v] }
 | .frz o u=>h.get? a=some o/\bt H h a u
 | .tbl ps=>h.get? a=some { cls:= .none,data:= .fields ps }
 | .met f x=>h.get? a=some (PySem.W.methodObj (.ref f) (.ref x))
 | .ext φ=>φ h/\(∃ o,h.get? a=some o)/\∀ h1 h2:Heap,φ h1->(∀ o,h1.get? a=some o->h2.get? a=some o)->φ h2
def HOk(H:Hp)(h:Heap):Prop:=∀ a o,H a=some o->bt P w H h a o
end
section
variable{P:Program}{w:World}{H H':Hp}{h h':Heap}{a:Addr}{o:HO}
theorem bt.lt(x:bt P w H h a o):a < h.objs.size:=by
 cases o with
 | lst xs=>obtain ⟨_,_,_,_,e⟩:=x;exact DA e
 | tup xs=>obtain ⟨_,_,_,p⟩:=x;exact p.t.lt
 | dK kvs=>obtain ⟨_,_,_,_,o,_,_,e,_⟩:=x;exact DA e
 | dT kvs=>obtain ⟨_,_,_,_,o,_,_,e,_⟩:=x;exact DA e
 | set S n=>obtain ⟨o,_,_,_,e,_⟩:=x;exact DA e
 | ins C dx fs=>obtain ⟨_,_,_,e,_⟩:=x;exact DA e
 | own y=>obtain ⟨_,e⟩:=x;exact DA e
 | xd fs=>obtain ⟨_,⟨_,_,_,e,_⟩,_⟩:=x;exact DA e
 | rng lo hi=>obtain ⟨_,_,_,e⟩:=x;exact DA e
 | frz ob u=>obtain ⟨e,_⟩:=x;exact DA e
 | tbl ps=>exact DA (show h.get? a=some _ from x)
 | met f y=>exact DA (show h.get? a=some _ from x)
 | ext φ=>obtain ⟨_,⟨_,e⟩,_⟩:=x;exact DA e
theorem Paired.mapP{α β:Type}{F G:α->β->Prop}:∀ {l₁:List α} {l₂:List β},Paired F l₁ l₂->(∀ a b,F a b->G a b)->Paired G l₁ l₂
 | _,_,.nil,_=> .nil
 | _,_,.cons r t,f=> .cons (f _ _ r) (Paired.mapP t f)
theorem bt.stay(x:bt P w H h a o)(k:∀ b u,(b=a\/H b=some (.own a))->h.get? b=some u->h'.get? b=some u)
 (ho:∀ b,H b=some (.own a)->H' b=some (.own a)) (ht:∀ b xs,H b=some (.tup xs)->H' b=some (.tup xs)):bt P w H' h' a o:=by
 induction o with
 | lst xs=>obtain ⟨z,its,n,r,e⟩:=x;exact ⟨z,its,n,r,k _ _ (.inl rfl) e⟩
 | tup xs=>obtain ⟨z,its,r,⟨ob,e,c⟩,nd⟩:=x;exact ⟨z,its,r,⟨ob,k _ _ (.inl rfl) e,c⟩,fun o' e'=>by rw [k _ _ (.inl rfl) e] at e';cases e';exact nd _ e⟩
 | dK kvs=>obtain ⟨z,y,vs,r,ob,es,ep,e,c⟩:=x;exact ⟨z,y,vs,r,ob,es,ep,k _ _ (.inl rfl) e,c⟩
 | dT kvs =>
  obtain ⟨z,y,xs,r,ob,es,ep,e,c⟩:=x;exact ⟨z,y,xs,Paired.mapP r fun p q z=>⟨z.1,ht _ _ z.2.1,z.2.2⟩,ob,es,ep,k _ _ (.inl rfl) e,c⟩
 | set S n=>obtain ⟨ob,es,ep,t,e,c⟩:=x;exact ⟨ob,es,ep,t,k _ _ (.inl rfl) e,c⟩
 | ins C dx fs =>
  obtain ⟨d,z,ne,e,mA,⟨od,es,ep,e2,c⟩,r⟩:=x;exact ⟨ho _ d,z,ne,k _ _ (.inl rfl) e,mA,⟨od,es,ep,k _ _ (.inr d) e2,c⟩,r⟩
 | own y=>obtain ⟨ob,e⟩:=x;exact ⟨ob,k _ _ (.inl rfl) e⟩
 | xd fs=>obtain ⟨mA,⟨od,es,ep,e,c⟩,r⟩:=x;exact ⟨mA,⟨od,es,ep,k _ _ (.inl rfl) e,c⟩,r⟩
 | rng lo hi=>obtain ⟨t,u,v,e⟩:=x;exact ⟨t,u,v,k _ _ (.inl rfl) e⟩
 | frz ob u ih=>obtain ⟨e,q⟩:=x;exact ⟨k _ _ (.inl rfl) e,ih q⟩
 | tbl ps =>
  have e:h.get? a=some { cls:= .none,data:= .fields ps }:=x
  show h'.get? a=some { cls:= .none,data:= .fields ps }
  exact k a _ (.inl rfl) e
 | met f y =>
  have e:h.get? a=some (PySem.W.methodObj (.ref f) (.ref y)):=x
  show h'.get? a=some (PySem.W.methodObj (.ref f) (.ref y))
  exact k a _ (.inl rfl) e
 | ext φ=>obtain ⟨p,⟨o,e⟩,st⟩:=x;exact ⟨st _ _ p fun o q=>k _ _ (.inl rfl) q,⟨o,k _ _ (.inl rfl) e⟩,st⟩
theorem HOk.lt(x:HOk P w H h)(e:H a=some o):a < h.objs.size:=(x a o e).lt
theorem HOk.fresh(x:HOk P w H h)(e:h.objs.size<=a):H a=none:=by
 cases q:H a with
 | none=>rfl
 | some u=>exact absurd (DW (x.lt q) e) (Fm _)
theorem HOk.kept(x:HOk P w H h)(k:∀ b u,h.get? b=some u->h'.get? b=some u):HOk P w H h':=fun a o e =>
 (x a o e).stay (fun b u _ q=>k b u q) (fun _ q=>q) fun _ _ q=>q
theorem HOk.laid(x:HOk P w H h)(k:∀ b u,h.get? b=some u->h'.get? b=some u)(hp:h.objs.size<=a)(new:bt P w (upd H a o) h' a o):HOk P w (upd H a o) h':=fun b u e=>by
 have hn:=x.fresh hp
 by_cases hb:b=a
 ·subst hb;rw [av] at e;cases e;exact new
 ·rw [ai hb] at e
  exact (x b u e).stay (fun c v _ q=>k c v q) (fun c q=>by rw [ai (aj q hn)];exact q) fun c xs q=>by rw [ai (aj q hn)];exact q
end
def Rd(H:Hp)(a:Addr)(u:HO):Prop:=H a=some u\/∃ o,H a=some (.frz o u)
theorem Rd.ok{P:Program}{w:World}{H:Hp}{h:Heap}{a:Addr}{u:HO}(r:Rd H a u)(x:HOk P w H h):bt P w H h a u:=by
 rcases r with r | ⟨o,r⟩
 ·exact x a u r
 ·obtain ⟨_,q⟩:=x a _ r
  exact q
noncomputable def Mut:Option HO->Prop
 | some (.lst _)=>True
 | some (.dK _)=>True
 | some (.dT _)=>True
 | some (.set _ _)=>True
 | some (.ins _ _ _)=>True
 | some (.ext _)=>True
 | _=>False
section
variable{P:Program}{w:World}{H:Hp}{h h':Heap}{x e:Addr}{o':HO}
theorem HOk.write(ok:HOk P w H h)(mu:Mut (H x))(he:e=x\/H e=some (.own x))(k:∀ b u,b≠e->h.get? b=some u->h'.get? b=some u)(heo:∃ u,h'.get? e=some u)
 (new:bt P w (upd H x o') h' x o'):HOk P w (upd H x o') h':=fun b u q=>by
 have nown:∀ c y,H c=some (.own y)->c≠x:=fun c y r z=>by subst z;rw [r] at mu;exact mu
 have ntup:∀ c xs,H c=some (.tup xs)->c≠x:=fun c xs r z=>by subst z;rw [r] at mu;exact mu
 by_cases hb:b=x
 ·subst hb;rw [av] at q;cases q;exact new
 ·rw [ai hb] at q
  by_cases hbe:b=e
  ·have q':H b=some (.own x):=by
    rcases he with z | z
    ·exact absurd (hbe.trans z) hb
    ·rw [hbe];exact z
   rw [q] at q';cases q';obtain ⟨v,hv⟩:=heo;exact ⟨v,by rw [hbe];exact hv⟩
  ·refine (ok b u q).stay (fun c v hc r=>k c v ?_ r) (fun c r=>by rw [ai (nown c b r)];exact r) fun c xs r=>by rw [ai (ntup c xs r)];exact r
   rcases hc with rfl | hc
   ·exact hbe
   ·rintro rfl
    rcases he with z | z
    ·exact nown c b hc z
    ·rw [hc] at z;cases z;exact hb rfl
end
structure Un(fs ex:List Addr)(H H':Hp)(h h':Heap):Prop where
 keep:∀ b o,h.get? b=some o->H b=none->b∉fs->b∉ex->h'.get? b=some o
 slot:∀ b o,h.get? b=some o->H b=none->b∈fs->b∉ex->∃ sl,h'.get? b=some { o with slots:=sl }
 free:∀ b o,h.get? b=some o->H b=none->b∉ex->H' b=none
 there:∀ b o,h.get? b=some o->b∉ex->∃ o',h'.get? b=some o'
 tups:∀ b xs,H b=some (.tup xs)->H' b=some (.tup xs)
 frzs:∀ b o u,H b=some (.frz o u)->H' b=some (.frz o u)
 tbls:∀ b ps,H b=some (.tbl ps)->∃ more,H' b=some (.tbl (ps++more))
section
variable{fs fs' ex ex':List Addr}{H H1 H2:Hp}{h h1 h2 h':Heap}{a x e:Addr}{o:HO}
theorem Un.any(u:Un fs ex H H1 h h1){b:Addr}{ob:Obj}(q:h.get? b=some ob)(n:H b=none)(hx:b∉ex):∃ sl,h1.get? b=some { ob with slots:=sl }:=by
 by_cases hb:b∈fs
 ·exact u.slot b ob q n hb hx
 ·exact ⟨ob.slots,u.keep b ob q n hb hx⟩
theorem Un.kept(k:∀ b u,h.get? b=some u->h'.get? b=some u):Un fs ex H H h h' :=
 ⟨fun b ob q _ _ _=>k b ob q,fun b ob q _ _ _=>⟨ob.slots,k b ob q⟩,fun _ _ _ n _=>n,fun b ob q _=>⟨ob,k b ob q⟩,fun _ _ q=>q,fun _ _ _ q=>q,fun _ ps q=>⟨#[],by rw [q];simp⟩⟩
theorem Un.refl:Un fs ex H H h h:=Un.kept fun _ _ q=>q
theorem Un.laid(k:∀ b u,h.get? b=some u->h'.get? b=some u)(hp:h.objs.size<=a)(hn:H a=none):Un fs ex H (upd H a o) h h' where
 keep:=fun b u q _ _ _=>k b u q
 slot:=fun b u q _ _ _=>⟨u.slots,k b u q⟩
 free:=fun b u q n _=>by rw [ai (DO (DW (DA q) hp))];exact n
 there:=fun b u q _=>⟨u,k b u q⟩
 tups:=fun b xs q=>by rw [ai (aj q hn)];exact q
 frzs:=fun b u xs q=>by rw [ai (aj q hn)];exact q
 tbls:=fun b ps q=>⟨#[],by rw [ai (aj q hn),q];simp⟩
theorem Un.write(mu:Mut (H x))(he:e=x\/H e=some (.own x))(k:∀ b u,b≠e->h.get? b=some u->h'.get? b=some u)(heo:∃ u,h'.get? e=some u):Un fs ex H (upd H x o) h h':=by
 have hx:∀ b,H b=none->b≠x:=fun b n z=>by subst z;rw [n] at mu;exact mu
 have hb:∀ b,H b=none->b≠e:=fun b n z=>by
  subst z
  rcases he with r | r
  ·exact hx b n r
  ·rw [n] at r;cases r
 have hm:∀ b u,H b=some u->¬ Mut (some u)->b≠x:=fun b u q nm z=>by subst z;rw [q] at mu;exact nm mu
 refine ⟨fun b u q n _ _=>k b u (hb b n) q,fun b u q n _ _=>⟨u.slots,k b u (hb b n) q⟩,fun b u q n _=>by rw [ai (hx b n)];exact n,fun b u q _=> ?_,
  fun b xs q=>by rw [ai (hm b _ q fun z=>z)];exact q,fun b u xs q=>by rw [ai (hm b _ q fun z=>z)];exact q,fun b ps q=>⟨#[],by rw [ai (hm b _ q fun z=>z),q];simp⟩⟩
 by_cases hbe:b=e
 ·subst hbe;exact heo
 ·exact ⟨u,k b u hbe q⟩
end
def trk(h:Heap)(H:Hp):List Addr:=(List.range h.objs.size).filter fun a=>(H a).isSome
def qu(h:Heap)(H:Hp):Heap:=PySem.W.hideAll h (trk h H)
theorem xb(h:Heap)(H:Hp):(qu h H).objs.size=h.objs.size:=PySem.W.hideAll_size _ _
theorem zN{h:Heap}{H:Hp}{b:Addr}{o:Obj}(e:h.get? b=some o)(n:H b=none):(qu h H).get? b=some o :=
 Fu _ e fun hm=>by
  have q:(H b).isSome=true:=(Ey.mp hm).2;rw [n] at q;simp at q
theorem BX{h:Heap}{H:Hp}{b:Addr}{o:Obj}(e:(qu h H).get? b=some o):h.get? b=some o/\H b=none:=by
 have e':h.get? b=some o:=PySem.W.of_hideAll (trk h H) e;refine ⟨e',?_⟩
 cases q:H b with
 | none=>rfl
 | some x =>
  have hm:b∈trk h H:=Ey.mpr ⟨EA.mpr (DA e'),by simp [q]⟩;have z:(qu h H).get? b=none:=PySem.W.hideAll_none (trk h H) hm;rw [z] at e;cases e
structure Mod(K:F2)(mg:Str->Option Value)(base:Heap):Prop where
 kin:K.In base
 glob:base.Ns mainGlobals mg
 blt:∃ mb,base.Ns builtinsNs mb/\∀ x:Str,x ≠ "__name__" -> mb x=bootBuiltins x
 nolimit:base.NoLimit
structure Cx where
 prog:Program
 w:World
 K:F2
 mg:Str->Option Value
 base:Heap
 A:Around
 N:List Str
 s₀:Shared
 H₀:Hp
 env:Env
 outer:List Env
 stack:List Env
 ex:List Addr
 fn:Str->Bool
 calm:Bool
 pn:List (Addr×Obj)
 xe:Value->Shared->Prop
def frs(l:List Env):List Addr:=l.filterMap (·.frame)
abbrev Cx.fs(X:Cx):List Addr:=frs X.outer
noncomputable def Vis(sc:Scope)(x:Str):Prop:=sc.names.lookup x=some .local\/sc.names.lookup x=some .cell\/sc.names.lookup x=some .free
def Loc(sc:Scope)(x:Str):Prop:=sc.names.lookup x=some .local\/sc.names.lookup x=some .cell
noncomputable def Look(env:Env)(h:Heap)(m:Str->Option Value)(x:Str)(u:Value):Prop :=
 (env.kindOf x=some .local/\m x=some u)\/((env.kindOf x=some .cell\/env.kindOf x=some .free)/\∃ c,env.cells.lookup x=some c/\h.IsCell c (some u))
structure Cx.Ok(X:Cx):Prop where
 mod:Mod X.K X.mg X.base
 kind:X.env.scope.kind = .function
 glob:X.env.globals=mainGlobals
 blt:X.env.builtins=builtinsNs
 above:X.s₀.heap.objs.size<=X.env.locals
 inj:∀ x y c,X.env.cells.lookup x=some c->X.env.cells.lookup y=some c->x=y
 has:∀ x,(X.env.kindOf x=some .cell\/X.env.kindOf x=some .free)->∃ c,X.env.cells.lookup x=some c
 cab:∀ x c,X.fn x=true->X.env.cells.lookup x=some c->X.s₀.heap.objs.size<=c
 hd:X.calm=true->X.A.handled=none
 frames:X.A.frames=some X.stack
 stk:X.stack=X.outer\/(X.stack=X.env::X.outer/\X.env.frame=some X.env.locals)
 exf:∀ b∈X.ex,b≠X.env.locals/\∀ x c,X.env.cells.lookup x=some c->c≠b
 bs:∀ b o,X.base.get? b=some o->X.s₀.heap.get? b=some o/\X.H₀ b=none
 bsz:X.base.objs.size<=X.s₀.heap.objs.size
 noex:∀ b o,X.base.get? b=some o->b∉X.ex
 exfs:∀ b∈X.ex,b∉X.fs
 funs:X.s₀.heap.FunFrames X.base X.outer
 frf:∀ b∈X.fs,X.H₀ b=none
structure Inv(X:Cx)(pins:List (Addr×Obj))(σ:List (Option V))(H:Hp)(s:Shared):Prop where
 ok:X.Ok
 os:s.os=X.s₀.os
 bare:AllBare s.gens
 base:Un X.fs X.ex X.H₀ H X.s₀.heap s.heap
 loc:∃ m,s.heap.Ns X.env.locals m/\∀ (i:Nat) (x:Str) (v:V),X.N[i]?=some x->σ[i]?=some (some v)->Vis X.env.scope x->∃ u,aB v u/\Look X.env s.heap m x u
 cell:∀ x c,X.env.cells.lookup x=some c->∃ v,s.heap.IsCell c v
 free:H X.env.locals=none
 freeC:∀ x c,X.env.cells.lookup x=some c->H c=none
 pin:∀ p∈X.pn++pins,s.heap.get? p.1=some p.2/\H p.1=none/\p.1≠X.env.locals/\p.1∉X.fs/\∀ v,p.2.data ≠ .cell v
 hok:HOk X.prog X.w H s.heap
 len:σ.length=X.N.length
section
variable{X:Cx}{pins:List (Addr×Obj)}{σ:List (Option V)}{H H':Hp}{s:Shared}{h':Heap}
theorem Cx.Ok.nofr(ok:X.Ok){b:Addr}{o:Obj}(e:X.base.get? b=some o):b∉X.fs:=fun hb=>by
 have:=(ok.funs.mem hb).1;rw [e] at this;cases this
theorem Inv.bs(I:Inv X pins σ H s):∀ b o,X.base.get? b=some o->s.heap.get? b=some o/\H b=none:=fun b o e =>
 ⟨I.base.keep b o (I.ok.bs b o e).1 (I.ok.bs b o e).2 (I.ok.nofr e) (I.ok.noex b o e),I.base.free b o (I.ok.bs b o e).1 (I.ok.bs b o e).2 (I.ok.noex b o e)⟩
theorem Inv.bk(I:Inv X pins σ H s):∀ b o,X.base.get? b=some o->s.heap.get? b=some o:=fun b o e=>(I.bs b o e).1
theorem Inv.mod(I:Inv X pins σ H s):Mod X.K X.mg X.base:=I.ok.mod
theorem Inv.kIn(I:Inv X pins σ H s):X.K.In s.heap:=I.ok.mod.kin.keeps I.bk
theorem Inv.fr(I:Inv X pins σ H s):∃ m,Fr X.base X.env.locals s.heap m :=
 let ⟨m,hn,_⟩:=I.loc
 ⟨m,hn,I.bk,Ep I.ok.bsz I.ok.above⟩
theorem Inv.lt(I:Inv X pins σ H s):X.env.locals < s.heap.objs.size:=let ⟨_,hn,_⟩:=I.loc;hn.lt
theorem Inv.sz(I:Inv X pins σ H s):X.s₀.heap.objs.size<=s.heap.objs.size:=Ep I.ok.above (E9 I.lt)
theorem Inv.nofs(I:Inv X pins σ H s){a:Addr}(h:s.heap.objs.size<=a):a∉X.fs:=fun hb=>by
 obtain ⟨_,o,ho,_⟩:=I.ok.funs.mem hb;exact absurd (DW (DA ho) (Ep I.sz h)) (Fm _)
theorem Inv.cne(I:Inv X pins σ H s):∀ x c,X.env.cells.lookup x=some c->c≠X.env.locals:=fun x c e z=>by
 obtain ⟨v,o,ho,hd⟩:=I.cell x c e;obtain ⟨m,⟨o',es,ep,ho',hd',_⟩,_⟩:=I.loc;rw [z,ho'] at ho;cases ho;rw [hd'] at hd;cases hd
theorem Inv.funs(I:Inv X pins σ H s):s.heap.FunFrames X.base X.outer:=by
 have all:∀ (l:List Env),(∀ b∈frs l,b∈X.fs)->X.s₀.heap.FunFrames X.base l->s.heap.FunFrames X.base l:=by
  intro l
  induction l with
  | nil=>intro _ _;trivial
  | cons env r ih =>
   intro hs hl;obtain ⟨hk,⟨L,o,hf,hn,ho,hd⟩,hr⟩:=hl;have hL:L∈X.fs:=hs L (by unfold frs;rw [FV,hf];exact DC)
   obtain ⟨sl,e⟩:=I.base.slot L o ho (I.ok.frf L hL) hL fun z=>I.ok.exfs L z hL
   exact ⟨hk,⟨L,_,hf,hn,e,hd⟩,ih (fun b hb=>hs b (by unfold frs;rw [FV,hf];exact Dv _ hb)) hr⟩
 exact all X.outer (fun _ hb=>hb) I.ok.funs
theorem Inv.stack(I:Inv X pins σ H s):s.heap.FunFrames X.base X.stack:=by
 rcases I.ok.stk with e | ⟨e,hf⟩
 ·rw [e];exact I.funs
 ·rw [e]
  obtain ⟨m,hn,_⟩:=I.loc;refine .cons (by rw [I.ok.kind];decide) hf hn ?_ I.funs;exact Heap.get?_none_of_le (Ep I.ok.bsz I.ok.above)
theorem Inv.stkSub(I:Inv X pins σ H s):∀ b∈frs X.stack,b∈X.env.locals::X.fs:=fun b hb=>by
 rcases I.ok.stk with e | ⟨e,hf⟩
 ·rw [e] at hb;exact Dv _ hb
 ·rw [e] at hb
  unfold frs at hb;rw [FV,hf] at hb;exact hb
theorem Inv.stkFree(I:Inv X pins σ H s):∀ b∈frs X.stack,H b=none:=fun b hb=>by
 rcases Dx.mp (I.stkSub b hb) with e | hb
 ·rw [e];exact I.free
 ·obtain ⟨_,o,ho,_⟩:=I.ok.funs.mem hb
  exact I.base.free b o ho (I.ok.frf b hb) fun z=>I.ok.exfs b z hb
theorem Inv.step{g':Array GenState}{t':Nat}{d':Drawn}{ch:List Addr}(I:Inv X pins σ H s)
 (hch:∀ b∈ch,(b∈X.ex\/X.s₀.heap.objs.size<=b)/\b≠X.env.locals/\(∀ x c,X.env.cells.lookup x=some c->c≠b)/\∀ p∈X.pn++pins,p.1≠b)
 (keep:∀ b o,b≠X.env.locals->b∉X.fs->b∉ch->s.heap.get? b=some o->H b=none->h'.get? b=some o)
 (slot:∀ b o,b≠X.env.locals->b∈X.fs->b∉ch->s.heap.get? b=some o->H b=none->∃ sl,h'.get? b=some { o with slots:=sl }) (free:∀ b o,b∉ch->s.heap.get? b=some o->H b=none->H' b=none)
 (there:∀ b o,b∉ch->s.heap.get? b=some o->∃ o',h'.get? b=some o')
 (tups:∀ b xs,H b=some (.tup xs)->H' b=some (.tup xs)) (frzs:∀ b o u,H b=some (.frz o u)->H' b=some (.frz o u)) (tbls:∀ b ps,H b=some (.tbl ps)->∃ more,H' b=some (.tbl (ps++more)))
 (ns:∀ m,s.heap.Ns X.env.locals m->h'.Ns X.env.locals m) (hok:HOk X.prog X.w H' h') (hg:AllBare g') :
 Inv X pins σ H' { s with heap:=h',gens:=g',drawn:=d',toks:=t' }:=by
 have neL:∀ b o,X.s₀.heap.get? b=some o->b≠X.env.locals:=fun b o e=>DO (DW (DA e) I.ok.above)
 have neC:∀ b o,X.s₀.heap.get? b=some o->b∉X.ex->b∉ch:=fun b o e hx hb=>by
  rcases (hch b hb).1 with z | z
  ·exact hx z
  ·exact absurd (DW (DA e) z) (Fm _)
 have cellK:∀ x c,X.env.cells.lookup x=some c->∀ v,s.heap.IsCell c v->h'.IsCell c v:=fun x c e v ⟨o,ho,hd⟩=>by
  have nch:c∉ch:=fun z=>(hch c z).2.2.1 x c e rfl
  by_cases hc:c∈X.fs
  ·obtain ⟨sl,q⟩:=slot c o (I.cne x c e) hc nch ho (I.freeC x c e)
   exact ⟨_,q,hd⟩
  ·exact ⟨o,keep c o (I.cne x c e) hc nch ho (I.freeC x c e),hd⟩
 refine ⟨I.ok,I.os,hg,⟨fun b o e n hb hx=> ?_,fun b o e n hb hx=> ?_,fun b o e n hx=> ?_,fun b o e hx=> ?_,fun b xs e=>tups b xs (I.base.tups b xs e),fun b o xs e=>frzs b o xs (I.base.frzs b o xs e),fun b ps e=> ?_⟩,?_,fun x c e=> ?_,?_,fun x c e=> ?_,fun p hp=> ?_,hok,I.len⟩
 ·exact keep b o (neL b o e) hb (neC b o e hx) (I.base.keep b o e n hb hx) (I.base.free b o e n hx)
 ·obtain ⟨sl,e1⟩:=I.base.slot b o e n hb hx
  obtain ⟨sl',e2⟩:=slot b _ (neL b o e) hb (neC b o e hx) e1 (I.base.free b o e n hx);exact ⟨sl',e2⟩
 ·obtain ⟨o',e1⟩:=I.base.there b o e hx
  exact free b o' (neC b o e hx) e1 (I.base.free b o e n hx)
 ·obtain ⟨o',e1⟩:=I.base.there b o e hx
  exact there b o' (neC b o e hx) e1
 ·obtain ⟨m1,e1⟩:=I.base.tbls b ps e
  obtain ⟨m2,e2⟩:=tbls b _ e1;exact ⟨m1++m2,by rw [e2,Array.append_assoc]⟩
 ·obtain ⟨m,hn,hl⟩:=I.loc
  refine ⟨m,ns m hn,fun i x v e1 e2 e3=> ?_⟩;obtain ⟨u,r,l⟩:=hl i x v e1 e2 e3;refine ⟨u,r,?_⟩
  rcases l with l | ⟨k,c,e,z⟩
  ·exact .inl l
  ·exact .inr ⟨k,c,e,cellK x c e _ z⟩
 ·obtain ⟨v,z⟩:=I.cell x c e
  exact ⟨v,cellK x c e v z⟩
 ·obtain ⟨m,⟨o,_,_,ho,_⟩,_⟩:=I.loc
  exact free _ o (fun z=>(hch _ z).2.1 rfl) ho I.free
 ·obtain ⟨v,o,ho,hd⟩:=I.cell x c e
  exact free c o (fun z=>(hch c z).2.2.1 x c e rfl) ho (I.freeC x c e)
 ·obtain ⟨e,n,ne,nf,d⟩:=I.pin p hp
  have nch:p.1∉ch:=fun z=>(hch p.1 z).2.2.2 p hp rfl
  exact ⟨keep p.1 p.2 ne nf nch e n,free p.1 p.2 nch e n,ne,nf,d⟩
theorem Inv.un{t':Nat}(I:Inv X pins σ H s)(u:Un X.fs [] H H' s.heap h')(hok:HOk X.prog X.w H' h'):Inv X pins σ H' { s with heap:=h',toks:=t' }:=by
 obtain ⟨m,⟨o,es,ep,ho,r⟩,_⟩:=id I.loc;obtain ⟨sl,hL⟩:=u.any ho I.free (by simp)
 exact I.step (g':=s.gens) (d':=s.drawn) (ch:=[]) (fun _ z=>nomatch z) (fun b o _ hb _ e n=>u.keep b o e n hb (by simp)) (fun b o _ hb _ e n=>u.slot b o e n hb (by simp)) (fun b o _ e n=>u.free b o e n (by simp)) (fun b o _ e=>u.there b o e (by simp)) u.tups u.frzs u.tbls (fun m' hm=>by
  obtain ⟨o',es',ep',ho',r'⟩:=hm;rw [ho] at ho';cases ho'
  exact ⟨_,es',ep',hL,r'⟩) hok I.bare
theorem Inv.call{g':Array GenState}{t':Nat}{d':Drawn}{ch:List Addr}(I:Inv X pins σ H s)(u:Un (frs X.stack) ch H H' s.heap h')(hok:HOk X.prog X.w H' h')(hg:AllBare g')
 (hch:∀ b∈ch,(b∈X.ex\/X.s₀.heap.objs.size<=b)/\b≠X.env.locals/\(∀ x c,X.env.cells.lookup x=some c->c≠b)/\∀ p∈X.pn++pins,p.1≠b) :
 Inv X pins σ H' { s with heap:=h',gens:=g',drawn:=d',toks:=t' }:=by
 obtain ⟨m,⟨o,es,ep,ho,r⟩,_⟩:=id I.loc
 obtain ⟨sl,hL⟩:=u.any ho I.free fun z=>(hch _ z).2.1 rfl
 exact I.step (ch:=ch) hch (fun b o hL hb hc e n=>u.keep b o e n (fun z=>(Dx.mp (I.stkSub b z)).elim hL hb) hc) (fun b o _ _ hc e n=>u.any e n hc) (fun b o hc e n=>u.free b o e n hc) (fun b o hc e=>u.there b o e hc) u.tups u.frzs u.tbls (fun m' hm=>by
  obtain ⟨o',es',ep',ho',r'⟩:=hm;rw [ho] at ho';cases ho'
  exact ⟨_,es',ep',hL,r'⟩) hok hg
theorem Inv.turned{t':Nat}{it:Addr}(I:Inv X pins σ H s)(k:∀ b o,b≠it->s.heap.get? b=some o->h'.get? b=some o)(hn:H it=none)(hL:it≠X.env.locals)
 (h1:it∈X.ex\/X.s₀.heap.objs.size<=it) (h2:∀ x c,X.env.cells.lookup x=some c->c≠it) (h3:∀ p∈X.pn++pins,p.1≠it):Inv X pins σ H { s with heap:=h',toks:=t' }:=by
 have nit:∀ b u,H b=some u->b≠it:=fun b u e z=>by rw [z,hn] at e;cases e
 refine I.step (g':=s.gens) (d':=s.drawn) (ch:=[it]) (fun b hb=> ?_) (fun b o _ _ hc e _=>k b o (fun z=>hc (by simp [z])) e) (fun b o _ _ hc e _=>⟨o.slots,k b o (fun z=>hc (by simp [z])) e⟩) (fun _ _ _ _ n=>n)
  (fun b o hc e=>⟨o,k b o (fun z=>hc (by simp [z])) e⟩) (fun _ _ e=>e) (fun _ _ _ e=>e) (fun b ps e=>⟨#[],by rw [e];simp⟩) (fun m hm=> ?_) (fun b u e=> ?_) I.bare
 ·have e:b=it:=by simpa using hb
  subst e;exact ⟨h1,hL,h2,h3⟩
 ·obtain ⟨o,es,ep,ho,r⟩:=hm
  exact ⟨o,es,ep,k _ o (Ne.symm hL) ho,r⟩
 ·refine (I.hok b u e).stay (fun c v hc q=>k c v ?_ q) (fun _ q=>q) fun _ _ q=>q
  rcases hc with z | z
  ·rw [z];exact nit b u e
  ·exact nit c _ z
theorem Inv.tok(I:Inv X pins σ H s)(t:Nat):Inv X pins σ H { s with toks:=t }:=I.un (h':=s.heap) (t':=t) Un.refl I.hok
theorem Inv.kept{t':Nat}(I:Inv X pins σ H s)(k:∀ b u,s.heap.get? b=some u->h'.get? b=some u):Inv X pins σ H { s with heap:=h',toks:=t' }:=I.un (Un.kept k) (I.hok.kept k)
theorem Inv.laid{a:Addr}{o:HO}{t':Nat}(I:Inv X pins σ H s)(k:∀ b u,s.heap.get? b=some u->h'.get? b=some u)(hp:s.heap.objs.size<=a)(new:bt X.prog X.w (upd H a o) h' a o) :
 Inv X pins σ (upd H a o) { s with heap:=h',toks:=t' }:=I.un (Un.laid k hp (I.hok.fresh hp)) (I.hok.laid k hp new)
theorem Inv.write{x e:Addr}{o:HO}{t':Nat}(I:Inv X pins σ H s)(mu:Mut (H x))(he:e=x\/H e=some (.own x))(k:∀ b u,b≠e->s.heap.get? b=some u->h'.get? b=some u)(heo:∃ u,h'.get? e=some u)
 (new:bt X.prog X.w (upd H x o) h' x o):Inv X pins σ (upd H x o) { s with heap:=h',toks:=t' }:=I.un (Un.write mu he k heo) (I.hok.write mu he k heo new)
theorem Inv.weak{σ':List (Option V)}(I:Inv X pins σ H s)(hl:σ'.length=σ.length)(w:∀ (i:Nat) v,σ'[i]?=some (some v)->σ[i]?=some (some v)):Inv X pins σ' H s :=
 ⟨I.ok,I.os,I.bare,I.base,let ⟨m,hn,hl'⟩:=I.loc;⟨m,hn,fun i x v e1 e2 e3=>hl' i x v e1 (w i v e2) e3⟩,I.cell,I.free,I.freeC,I.pin,I.hok,hl.trans I.len⟩
theorem Inv.pins_of{pins':List (Addr×Obj)}(I:Inv X pins σ H s)(h:∀ p∈pins',s.heap.get? p.1=some p.2/\H p.1=none/\p.1≠X.env.locals/\p.1∉X.fs/\∀ v,p.2.data ≠ .cell v):Inv X pins' σ H s :=
 ⟨I.ok,I.os,I.bare,I.base,I.loc,I.cell,I.free,I.freeC,fun p hp=>(DT.mp hp).elim (fun z=>I.pin p (Dz _ z)) (h p),I.hok,I.len⟩
theorem su{N:List Str}(hN:N.Nodup){i j:Nat}{x:Str}(a:N[i]?=some x)(b:N[j]?=some x):i=j:=by
 obtain ⟨h1,e1⟩:=DG.mp a;obtain ⟨h2,e2⟩:=DG.mp b;exact (List.getElem_inj hN).mp (e1.trans e2.symm)
theorem oQ{M:Model}{A:Around}{E:Value->Shared->Prop}{i:Nat}{x:Str}{v:V}{u:Value}{Q:Unit->Shared->Prop}(I:Inv X pins σ H s)(hN:X.N.Nodup)(hi:X.N[i]?=some x)(hx:Loc X.env.scope x)(r:aB v u)
 (h:∀ s',Inv X pins (σ.set i (some v)) H s'->(∃ a,Heap.SameBut a s.heap s'.heap/\(a=X.env.locals\/X.env.cells.lookup x=some a))->Q () s') (hf:X.fn x=true\/X.env.scope.names.lookup x=some .local:=by first | exact .inl rfl | exact .inr rfl | assumption):wpAny M A (storeName X.env x u) Q E s:=by
 obtain ⟨m,hn,hl⟩:=id I.loc
 have hcls:(X.env.scope.kind == .class||(X.env.scope.kind == .module&&X.env.locals != X.env.globals))=false:=by rw [I.ok.kind];rfl
 have hiσ:i < σ.length:=by rw [I.len];exact (DG.mp hi).1
 have cne:=I.cne
 have tracked:∀ {a:Addr} {h':Heap},(∃ o,s.heap.get? a=some o/\H a=none)->Heap.SameBut a s.heap h'->HOk X.prog X.w H h':=fun {a h'} ha hs b ob e=>by
  obtain ⟨_,_,hfree⟩:=ha
  refine (I.hok b ob e).stay (fun c w' hc q=>(hs.2 c ?_).trans q) (fun _ q=>q) fun _ _ q=>q
  rintro rfl
  rcases hc with rfl | hc
  ·rw [hfree] at e;cases e
  ·rw [hfree] at hc;cases hc
 rcases hx with hk | hk
 ·refine wpAny_storeName_local hk hn (fun h' hn' hs=> ?_) hcls
  obtain ⟨oL,_,_,hoL,_⟩:=id hn;refine h _ ⟨I.ok,I.os,I.bare,⟨fun b o e n hb hx=> ?_,fun b o e n hb hx=> ?_,I.base.free,fun b o e hx=> ?_,I.base.tups,I.base.frzs,I.base.tbls⟩,⟨_,hn',fun j y v' e1 e2 e3=> ?_⟩,fun y c e=> ?_,I.free,I.freeC,fun p hp=> ?_,tracked ⟨oL,hoL,I.free⟩ hs,by simpa using I.len⟩ ⟨_,hs,.inl rfl⟩
  ·exact (hs.2 b (DO (DW (DA e) I.ok.above))).trans (I.base.keep b o e n hb hx)
  ·obtain ⟨sl,e1⟩:=I.base.slot b o e n hb hx
   exact ⟨sl,(hs.2 b (DO (DW (DA e) I.ok.above))).trans e1⟩
  ·obtain ⟨o',e1⟩:=I.base.there b o e hx
   exact ⟨o',(hs.2 b (DO (DW (DA e) I.ok.above))).trans e1⟩
  ·by_cases hj:j=i
   ·subst hj
    rw [hi] at e1;cases e1;rw [EV hiσ] at e2;cases e2;exact ⟨u,r,.inl ⟨hk,by simp⟩⟩
   ·rw [Ex (Ne.symm hj)] at e2
    obtain ⟨u',r',q⟩:=hl j y v' e1 e2 e3;refine ⟨u',r',?_⟩
    rcases q with ⟨k,e⟩ | ⟨k,c,e,z⟩
    ·refine .inl ⟨k,?_⟩
     have:y≠x:=fun e=>hj (su hN e1 (e ▸ hi))
     simp [this,e]
    ·exact .inr ⟨k,c,e,z.sameBut hs (cne y c e)⟩
  ·obtain ⟨w',z⟩:=I.cell y c e
   exact ⟨w',z.sameBut hs (cne y c e)⟩
  ·obtain ⟨e,n,ne,nf,d⟩:=I.pin p hp
   exact ⟨(hs.2 p.1 ne).trans e,n,ne,nf,d⟩
 ·have hfn:X.fn x=true:=by
   rcases hf with z | z
   ·exact z
   ·rw [z] at hk;cases hk
  obtain ⟨c,hc⟩:=I.ok.has x (.inl hk);obtain ⟨w',z⟩:=I.cell x c hc;refine wpAny_storeName_cell I.ok.kind hk hc z (fun h' hc' hs=> ?_);obtain ⟨oc,hoc,hocd⟩:=id z;refine h { s with heap:=h' } ⟨I.ok,I.os,I.bare,⟨fun b o e n hb hx=> ?_,fun b o e n hb hx=> ?_,I.base.free,fun b o e hx=> ?_,I.base.tups,I.base.frzs,I.base.tbls⟩,⟨m,hn.sameBut hs (Ne.symm (cne x c hc)),fun j y v' e1 e2 e3=> ?_⟩,fun y c' e=> ?_,I.free,I.freeC,fun p hp=> ?_,tracked ⟨oc,hoc,I.freeC x c hc⟩ hs,by simpa using I.len⟩ ⟨c,hs,.inr hc⟩
  ·exact (hs.2 b (DO (DW (DA e) (I.ok.cab x c hfn hc)))).trans (I.base.keep b o e n hb hx)
  ·obtain ⟨sl,e1⟩:=I.base.slot b o e n hb hx
   exact ⟨sl,(hs.2 b (DO (DW (DA e) (I.ok.cab x c hfn hc)))).trans e1⟩
  ·obtain ⟨o',e1⟩:=I.base.there b o e hx
   exact ⟨o',(hs.2 b (DO (DW (DA e) (I.ok.cab x c hfn hc)))).trans e1⟩
  ·by_cases hj:j=i
   ·subst hj
    rw [hi] at e1;cases e1;rw [EV hiσ] at e2;cases e2;exact ⟨u,r,.inr ⟨.inl hk,c,hc,hc'⟩⟩
   ·rw [Ex (Ne.symm hj)] at e2
    obtain ⟨u',r',q⟩:=hl j y v' e1 e2 e3;refine ⟨u',r',?_⟩
    rcases q with q | ⟨k,c',e,z'⟩
    ·exact .inl q
    ·refine .inr ⟨k,c',e,z'.sameBut hs ?_⟩
     rintro rfl;exact hj (su hN e1 (I.ok.inj _ _ _ e hc ▸ hi))
  ·by_cases hcc:c'=c
   ·subst hcc;exact ⟨_,hc'⟩
   ·obtain ⟨w2,z2⟩:=I.cell y c' e
    exact ⟨w2,z2.sameBut hs hcc⟩
  ·obtain ⟨e,n,ne,nf,d⟩:=I.pin p hp
   refine ⟨(hs.2 p.1 ?_).trans e,n,ne,nf,d⟩;intro q;rw [q,hoc] at e;have q':oc=p.2:=Option.some.inj e;exact d w' (by rw [<- q'];exact hocd)
theorem l8{M:Model}{A:Around}{E:Value->Shared->Prop}{i:Nat}{x:Str}{v:V}{u:Value}{Q:Unit->Shared->Prop}(I:Inv X pins σ H s)(hN:X.N.Nodup)(hi:X.N[i]?=some x)(hx:Loc X.env.scope x)(r:aB v u)
 (h:∀ s',Inv X pins (σ.set i (some v)) H s'->Q () s') (hf:X.fn x=true\/X.env.scope.names.lookup x=some .local:=by first | exact .inl rfl | exact .inr rfl | assumption):wpAny M A (storeName X.env x u) Q E s :=
 oQ I hN hi hx r (fun s' I' _=>h s' I') hf
theorem Inv.call'{s':Shared}{ch:List Addr}(I:Inv X pins σ H s)(ho:s'.os=s.os)(u:Un (frs X.stack) ch H H' s.heap s'.heap)(hok:HOk X.prog X.w H' s'.heap)(hg:AllBare s'.gens)
 (hch:∀ b∈ch,(b∈X.ex\/X.s₀.heap.objs.size<=b)/\b≠X.env.locals/\(∀ x c,X.env.cells.lookup x=some c->c≠b)/\∀ p∈X.pn++pins,p.1≠b):Inv X pins σ H' s':=by
 obtain ⟨h',g',d',t',o'⟩:=s';have e:o'=s.os:=ho;subst e;exact I.call (g':=g') (t':=t') (d':=d') u hok hg hch
end
abbrev XK:=Value->Option Addr->Hp->Prop
abbrev St:=List (Option V)
abbrev VK:=V->Hp->Prop
abbrev TE:=St->Hp->VK->Prop
abbrev TT:=St->Hp->(Bool->Hp->Prop)->Prop
abbrev TA:=St->Hp->(List V->Hp->Prop)->Prop
structure n5 where
 nx:St->Hp->Prop
 rt:VK
 bk:St->Hp->Prop:=fun _ _=>False
 ct:St->Hp->Prop:=fun _ _=>False
abbrev TS:=n5->St->Hp->Prop
noncomputable def EP(X:Cx)(pins:List (Addr×Obj))(σ:St)(Q:VK)(u:Value)(s':Shared):Prop:=∃ v H',Inv X pins σ H' s'/\aB v u/\Q v H'
noncomputable def TP(X:Cx)(pins:List (Addr×Obj))(σ:St)(Q:Bool->Hp->Prop)(b:Bool)(s':Shared):Prop:=∃ H',Inv X pins σ H' s'/\Q b H'
noncomputable def AP(X:Cx)(pins:List (Addr×Obj))(σ:St)(Q:List V->Hp->Prop)(us:List Value)(s':Shared):Prop:=∃ vs H',Inv X pins σ H' s'/\aw vs us/\Q vs H'
noncomputable def SP(X:Cx)(pins:List (Addr×Obj))(D:n5)(f:Flow)(s':Shared):Prop :=
 match f with
 | .next=>∃ σ' H',Inv X pins σ' H' s'/\D.nx σ' H'
 | .brk=>∃ σ' H',Inv X pins σ' H' s'/\D.bk σ' H'
 | .cont=>∃ σ' H',Inv X pins σ' H' s'/\D.ct σ' H'
 | .ret u=>∃ v σ' H',Inv X pins σ' H' s'/\aB v u/\D.rt v H'
noncomputable def PE(X:Cx)(e:Expr)(t:TE):Prop :=
 ∀ (pins:List (Addr×Obj)) (s:Shared) (σ:St) (H:Hp) (Q:VK),Inv X pins σ H s->t σ H Q->wpAny (model X.prog X.w) X.A (eval e X.env) (EP X pins σ Q) X.xe s
noncomputable def PT(X:Cx)(e:Expr)(t:TT):Prop :=
 ∀ (pins:List (Addr×Obj)) (s:Shared) (σ:St) (H:Hp) (Q:Bool->Hp->Prop),Inv X pins σ H s->t σ H Q->wpAny (model X.prog X.w) X.A (isTrue e X.env (eval e X.env)) (TP X pins σ Q) X.xe s
noncomputable def PW(X:Cx)(e:Expr)(t:TT):Prop :=
 ∀ (whole:Sem Value) (pins:List (Addr×Obj)) (s:Shared) (σ:St) (H:Hp) (Q:Bool->Hp->Prop),Inv X pins σ H s->t σ H Q->wpAny (model X.prog X.w) X.A (isTrue e X.env whole) (TP X pins σ Q) X.xe s
theorem PW.pt{X:Cx}{e:Expr}{t:TT}(h:PW X e t):PT X e t:=h _
noncomputable def PA(X:Cx)(es:List Expr)(t:TA):Prop :=
 ∀ (pos:Pos) (pins:List (Addr×Obj)) (s:Shared) (σ:St) (H:Hp) (Q:List V->Hp->Prop),Inv X pins σ H s->t σ H Q->wpAny (model X.prog X.w) X.A (spliced (backTo pos (starEach es X.env))) (AP X pins σ Q) X.xe s
noncomputable def PS(X:Cx)(st:Stmt)(t:TS):Prop :=
 ∀ (pins:List (Addr×Obj)) (s:Shared) (σ:St) (H:Hp) (D:n5),Inv X pins σ H s->t D σ H->wpAny (model X.prog X.w) X.A (exec st X.env) (SP X pins D) X.xe s
noncomputable def PSs(X:Cx)(st:List Stmt)(t:TS):Prop :=
 ∀ (pins:List (Addr×Obj)) (s:Shared) (σ:St) (H:Hp) (D:n5),Inv X pins σ H s->t D σ H->wpAny (model X.prog X.w) X.A (execs st X.env) (SP X pins D) X.xe s
theorem thn{α:Type}{t:Sem α}{Q Q':α->Shared->Prop}{M:Model}{A:Around}{E:Value->Shared->Prop}{s:Shared}(h:wpAny M A t Q E s)(hQ:∀ a s,Q a s->Q' a s):wpAny M A t Q' E s:=EQ h hQ fun _ _ x=>x
section
variable{X:Cx}
theorem bin{a b:Expr}{ta tb:TE}(ha:PE X a ta)(hb:PE X b tb){pins:List (Addr×Obj)}{s:Shared}{σ:St}{H:Hp}{R:V->V->Hp->Prop}(I:Inv X pins σ H s)(h:ta σ H fun x H1=>tb σ H1 fun y H2=>R x y H2)
 {α:Type} {Q:α->Shared->Prop} {f:Value->Value->Sem α}
 (hf:∀ v u s2 x y H2,Inv X pins σ H2 s2->aB x v->aB y u->R x y H2->wpAny (model X.prog X.w) X.A (f v u) Q X.xe s2) :
 wpAny (model X.prog X.w) X.A (eval a X.env) (fun v s₁=>wpAny (model X.prog X.w) X.A (eval b X.env) (fun u s₂=>wpAny (model X.prog X.w) X.A (f v u) Q X.xe s₂) X.xe s₁) X.xe s:=by
 refine thn (ha pins s σ H _ I h) fun v s1 ⟨x,H1,I1,r1,q1⟩=> ?_
 refine thn (hb pins s1 σ H1 _ I1 q1) fun u s2 ⟨y,H2,I2,r2,q2⟩=> ?_
 exact hf v u s2 x y H2 I2 r1 r2 q2
def ye(i:Nat):TE:=fun σ H Q=>∃ v,σ[i]?=some (some v)/\Q v H
def tC(v:V):TE:=fun _ H Q=>Q v H
theorem gN{i:Nat}{x:Str}{pos:Pos}(hN:X.N[i]?=some x)(hv:Vis X.env.scope x)(hd:(x == ("__debug__" : Str))=false:=by decide)(hcd:(x == ("__classdict__" : Str))=false:=by decide):PE X (.Name x pos) (ye i):=by
 intro pins s σ H Q I h;obtain ⟨v,e,h⟩:=h;obtain ⟨m,hn,hl⟩:=I.loc;obtain ⟨u,r,l⟩:=hl i x v hN e hv;have fin:EP X pins σ Q u s:=⟨v,H,I,r,h⟩
 rcases l with ⟨hk,hm⟩ | ⟨hk,c,hc,hcell⟩
 ·exact wpAny_Name (wpAny_loadName_local I.ok.kind hk hn hm fin) hd
 ·rcases hk with hk | hk
  ·exact wpAny_Name (wpAny_loadName_cell I.ok.kind hk hc hcell fin) hd
  ·exact wpAny_Name (wpAny_loadName_free I.ok.kind hk hc hcell fin hcd) hd
theorem mM{i j pos}:PE X (.Constant (.int i) j pos) (tC (.int i)):=fun _ _ _ H _ I h=>wpAny_Constant_int ⟨.int i,H,I.tok _,⟨_,rfl⟩,h⟩
theorem pe_bl{b j pos}:PE X (.Constant (.bool b) j pos) (tC (.bl b)):=fun _ _ _ H _ I h=>Constant_bool ⟨.bl b,H,I,rfl,h⟩
theorem pe_non{j pos}:PE X (.Constant .none j pos) (tC .non):=fun _ _ _ H _ I h=>Constant_none ⟨.non,H,I,rfl,h⟩
theorem pe_str{x j pos}:PE X (.Constant (.str x) j pos) (tC (.str x)):=fun _ _ _ H _ I h=>Calls.Constant_str ⟨.str x,H,I.tok _,⟨_,rfl⟩,h⟩
def Gl(X:Cx)(x:Str):Prop:=X.env.kindOf x=some .globalImplicit
theorem qp{E:Value->Shared->Prop}{pins:List (Addr×Obj)}{s:Shared}{σ:St}{H:Hp}{x:Str}{u:Value}{pos:Pos}{Q:Value->Shared->Prop}(I:Inv X pins σ H s)(hg:Gl X x)(hm:X.mg x=some u)(h:Q u s)
 (hd:(x == ("__debug__" : Str))=false:=by decide):wpAny (model X.prog X.w) X.A (eval (.Name x pos) X.env) Q E s :=
 Calls.Name_function_global I.ok.kind hg (Calls.loadGlobal_global (by rw [I.ok.glob];exact I.mod.glob.keeps I.bk) hm h) hd
theorem ja{E:Value->Shared->Prop}{pins:List (Addr×Obj)}{s:Shared}{σ:St}{H:Hp}{x:Str}{u:Value}{pos:Pos}{Q:Value->Shared->Prop}(I:Inv X pins σ H s)(hg:Gl X x)(hm:X.mg x=none)(hv:bootBuiltins x=some u)(h:Q u s)
 (hn:x ≠ "__name__" := by decide) (hd:(x == ("__debug__" : Str))=false:=by decide):wpAny (model X.prog X.w) X.A (eval (.Name x pos) X.env) Q E s:=by
 obtain ⟨mb,h1,h2⟩:=I.mod.blt;exact Calls.Name_function_global I.ok.kind hg (Calls.loadGlobal_builtin (by rw [I.ok.glob];exact I.mod.glob.keeps I.bk) hm (by rw [I.ok.blt];exact h1.keeps I.bk) ((h2 x hn).trans hv) h) hd
theorem lV{x:Str}{v:V}{u:Value}{pos:Pos}(hg:Gl X x)(hm:X.mg x=some u)(r:aB v u)(hd:(x == ("__debug__" : Str))=false:=by decide):PE X (.Name x pos) (tC v) :=
 fun _ _ _ H _ I h=>qp I hg hm ⟨v,H,I,r,h⟩ hd
theorem BJ{x:Str}{v:V}{u:Value}{pos:Pos}(hg:Gl X x)(hm:X.mg x=none)(hv:bootBuiltins x=some u)(r:aB v u)(hn:x ≠ "__name__" := by decide)(hd:(x == ("__debug__" : Str))=false:=by decide):PE X (.Name x pos) (tC v) :=
 fun _ _ _ H _ I h=>ja I hg hm hv ⟨v,H,I,r,h⟩ hn hd
variable{a b:Expr}{ta tb:TE}{pos:Pos}
noncomputable def PC(X:Cx)(op:CmpOp)(a b:Expr)(t:TE):Prop :=
 ∀ (pins:List (Addr×Obj)) (s:Shared) (σ:St) (H:Hp) (Q:VK),Inv X pins σ H s->t σ H Q ->
  wpAny (model X.prog X.w) X.A (eval a X.env) (fun v s₁=>wpAny (model X.prog X.w) X.A (eval b X.env) (fun u s₂=>wpAny (model X.prog X.w) X.A (compareOp op v u) (EP X pins σ Q) X.xe s₂) X.xe s₁) X.xe s
theorem zn(b:Expr){op:CmpOp}(h:op ≠ .In)(h2:op ≠ .NotIn):behindInMarks op b=false:=by
 have e1:(op == CmpOp.In)=false:=by cases op<;>first | rfl | exact absurd rfl h
 have e2:(op == CmpOp.NotIn)=false:=by cases op<;>first | rfl | exact absurd rfl h2
 cases b<;>simp [behindInMarks,e1,e2]
def tB(t:TE):TT:=fun σ H Q=>t σ H fun x H1=>∃ c,x = .bl c/\Q c H1
theorem pt_cmp{op:CmpOp}{t:TE}(h:PC X op a b t)(h1:behindInMarks op b=false:=by first | exact zn _ (by decide) (by decide) | rfl):PT X (.Compare a [op] [b] pos) (tB t):=by
 intro pins s σ H Q I hw;refine wpAny_isTrue_Compare1 (thn (h pins s σ H _ I hw) fun v s1 h1=>thn h1 fun u s2 h2=>thn h2 fun c s3 ⟨x,H1,I1,r1,q1⟩=> ?_) h1;obtain ⟨d,rfl,q⟩:=q1;cases r1;exact E3 ⟨H1,I1,q⟩
variable{tA tB':TT}{rest:List Expr}
def tOr(t u:TT):TT:=fun σ H Q=>t σ H fun c H1=>if c=true then Q true H1 else u σ H1 Q
def tNot(t:TT):TT:=fun σ H Q=>t σ H fun c H1=>Q (!c) H1
theorem pw_or1(ha:PT X a tA):PW X (.BoolOp .Or [a] pos) tA:=by
 intro wh pins s σ H Q I h;refine isTrue_or (thn (ha pins s σ H Q I h) fun c s1 e=> ?_)
 cases c with
 | false=>exact isTrue_or_nil e
 | true=>exact e
theorem pw_or(ha:PT X a tA)(hb:PW X (.BoolOp .Or (b::rest) pos) tB'):PW X (.BoolOp .Or (a::b::rest) pos) (tOr tA tB'):=by
 intro wh pins s σ H Q I h;refine isTrue_or (thn (ha pins s σ H _ I h) fun c s1 ⟨H1,I1,q1⟩=> ?_)
 cases c with
 | true=>exact ⟨H1,I1,q1⟩
 | false=>exact hb wh pins s1 σ H1 Q I1 q1
theorem pt_not(ha:PT X a tA):PT X (.UnaryOp .Not a pos) (tNot tA):=by
 intro pins s σ H Q I h;exact isTrue_not (ha pins s σ H (fun c H1=>Q (!c) H1) I h)
noncomputable def tAndV(ta tb:TE):TE:=fun σ H Q=>ta σ H fun x H1=>∃ c,x = .bl c/\if c=true then tb σ H1 Q else Q (.bl false) H1
def tNotV(ta:TE):TE:=fun σ H Q=>ta σ H fun x H1=>∃ c,x = .bl c/\Q (.bl (!c)) H1
theorem pe_one{op}{t:TE}(h:PE X a t):PE X (.BoolOp op [a] pos) t:=fun pins s σ H Q I hw=>BoolOp_one (h pins s σ H Q I hw)
theorem pe_and(ha:PE X a ta)(hb:PE X (.BoolOp .And (b::rest) pos) tb):PE X (.BoolOp .And (a::b::rest) pos) (tAndV ta tb):=by
 intro pins s σ H Q I h;refine BoolOp_and (thn (ha pins s σ H _ I h) fun v s1 ⟨x,H1,I1,r1,q1⟩=> ?_);obtain ⟨c,rfl,q1⟩:=q1;cases r1;refine E3 ?_
 cases c with
 | true=>exact hb pins s1 σ H1 Q I1 q1
 | false=>exact ⟨.bl false,H1,I1,rfl,q1⟩
theorem pe_not(ha:PE X a ta):PE X (.UnaryOp .Not a pos) (tNotV ta):=by
 intro pins s σ H Q I h;refine UnaryOp_ (thn (ha pins s σ H _ I h) fun v s1 ⟨x,H1,I1,r1,q1⟩=> ?_);obtain ⟨c,rfl,q1⟩:=q1;cases r1;exact not_of (E3 ⟨.bl (!c),H1,I1,rfl,q1⟩)
def tIf(t:TT)(ta tb:TE):TE:=fun σ H Q=>t σ H fun c H1=>if c=true then ta σ H1 Q else tb σ H1 Q
theorem yV{c:Expr}(hc:PT X c tA)(ha:PE X a ta)(hb:PE X b tb):PE X (.IfExp c a b pos) (tIf tA ta tb):=by
 intro pins s σ H Q I h;refine wpAny_IfExp (thn (hc pins s σ H _ I h) fun d s1 ⟨H1,I1,q1⟩=> ?_)
 cases d with
 | true=>exact ha pins s1 σ H1 Q I1 q1
 | false=>exact hb pins s1 σ H1 Q I1 q1
end
noncomputable def SqL(K:F2)(H:Hp)(a:Addr)(xs:List V):Prop :=
 Rd H a (.lst xs) \/
  ∃ (o:Obj) (its:Array Value) (n:Nat),K.lookup a=some o/\o.cls = .type "list" /\ o.dict=none/\o.data = .seq its n/\its.size<=sizeLine/\aw xs its.toList
noncomputable def SqT(K:F2)(H:Hp)(a:Addr)(xs:List V):Prop :=
 Rd H a (.tup xs) \/
  ∃ (o:Obj) (its:Array Value) (n:Nat),K.lookup a=some o/\o.cls = .type "tuple" /\ o.data = .seq its n/\its.size<=sizeLine/\aw xs its.toList
noncomputable def absV:Value->Option V
 | .none=>some .non
 | .bool b=>some (.bl b)
 | .int i _=>some (.int i)
 | .str x _=>some (.str x)
 | .bytes b _=>some (.byt b)
 | .float b _=>some (.flt b)
 | .ref a=>some (.ref a)
 | .type n=>some (.ty n)
 | _=>none
theorem aB.abs{x:V}{u:Value}(r:aB x u):absV u=some x:=by
 cases x with
 | non=>cases r;rfl
 | bl _=>cases r;rfl
 | int _=>obtain ⟨t,rfl⟩:=r;rfl
 | str _=>obtain ⟨t,rfl⟩:=r;rfl
 | byt _=>obtain ⟨t,rfl⟩:=r;rfl
 | flt _=>obtain ⟨t,rfl⟩:=r;rfl
 | ref _=>cases r;rfl
 | ty _=>cases r;rfl
theorem aB.inj{x y:V}{u:Value}(r:aB x u)(q:aB y u):x=y:=Option.some.inj (r.abs.symm.trans q.abs)
theorem aw.inj:∀ {xs ys:List V} {us:List Value},aw xs us->aw ys us->xs=ys
 | _,_,_,.nil,.nil=>rfl
 | _,_,_,.cons r t,.cons r' t'=>by rw [r.inj r',aw.inj t t']
section
variable{X:Cx}{pins:List (Addr×Obj)}{σ:St}{H:Hp}{s:Shared}{a:Addr}{xs ys:List V}
theorem Inv.list(I:Inv X pins σ H s)(h:SqL X.K H a xs):∃ its:List Value,aw xs its/\PlainL s.heap a its.toArray/\xs.length<=sizeLine:=by
 rcases h with h | ⟨o,its,n,hk,hc,hd,hs,hz,r⟩
 ·obtain ⟨z,its,n,r,e⟩:=h.ok I.hok
  exact ⟨its,r,⟨_,n,e,rfl,rfl,rfl⟩,z⟩
 ·refine ⟨its.toList,r,⟨o,n,I.kIn a o hk,hc,hd,by simpa using hs⟩,?_⟩
  have e:=r.length;simp only [Ez] at e;omega
theorem Inv.tuple(I:Inv X pins σ H s)(h:SqT X.K H a xs):∃ its:List Value,aw xs its/\IsTup s.heap a its.toArray/\xs.length<=sizeLine:=by
 rcases h with h | ⟨o,its,n,hk,hc,hs,hz,r⟩
 ·obtain ⟨z,its,r,p⟩:=h.ok I.hok
  exact ⟨its,r,p.t,z⟩
 ·refine ⟨its.toList,r,⟨o,I.kIn a o hk,hc,n,by simpa using hs⟩,?_⟩
  have e:=r.length;simp only [Ez] at e;omega
theorem Inv.list_inj(I:Inv X pins σ H s)(h:SqL X.K H a xs)(h':SqL X.K H a ys):xs=ys:=by
 obtain ⟨its,r,⟨o,n,e,_,_,d⟩,_⟩:=I.list h;obtain ⟨its',r',⟨o',n',e',_,_,d'⟩,_⟩:=I.list h';rw [e] at e';cases e';rw [d] at d'
 injection d' with d1 _
 have:its=its':=by simpa using congrArg Array.toList d1
 subst this;exact r.inj r'
theorem Inv.tuple_inj(I:Inv X pins σ H s)(h:SqT X.K H a xs)(h':SqT X.K H a ys):xs=ys:=by
 obtain ⟨its,r,⟨o,e,_,n,d⟩,_⟩:=I.tuple h;obtain ⟨its',r',⟨o',e',_,n',d'⟩,_⟩:=I.tuple h';rw [e] at e';cases e';rw [d] at d'
 injection d' with d1 _
 have:its=its':=by simpa using congrArg Array.toList d1
 subst this;exact r.inj r'
end
abbrev Cx.wish(X:Cx)(E:Value->Shared->Prop):Cx:={ X with xe:=E }
abbrev Cx.nox(X:Cx):Cx:=X.wish fun _ _=>False
theorem Cx.Ok.wish{X:Cx}(ok:X.Ok)(E:Value->Shared->Prop):(X.wish E).Ok :=
 ⟨ok.mod,ok.kind,ok.glob,ok.blt,ok.above,ok.inj,ok.has,ok.cab,ok.hd,ok.frames,ok.stk,ok.exf,ok.bs,ok.bsz,ok.noex,ok.exfs,ok.funs,ok.frf⟩
theorem Cx.Ok.unwish{X:Cx}{E:Value->Shared->Prop}(ok:(X.wish E).Ok):X.Ok :=
 ⟨ok.mod,ok.kind,ok.glob,ok.blt,ok.above,ok.inj,ok.has,ok.cab,ok.hd,ok.frames,ok.stk,ok.exf,ok.bs,ok.bsz,ok.noex,ok.exfs,ok.funs,ok.frf⟩
section
variable{X:Cx}{pins:List (Addr×Obj)}{σ:St}{H:Hp}{s:Shared}{E:Value->Shared->Prop}
theorem Inv.wish(I:Inv X pins σ H s)(E:Value->Shared->Prop):Inv (X.wish E) pins σ H s:=⟨I.ok.wish E,I.os,I.bare,I.base,I.loc,I.cell,I.free,I.freeC,I.pin,I.hok,I.len⟩
theorem Inv.unwish(I:Inv (X.wish E) pins σ H s):Inv X pins σ H s:=⟨I.ok.unwish,I.os,I.bare,I.base,I.loc,I.cell,I.free,I.freeC,I.pin,I.hok,I.len⟩
theorem SP.unwish{D:n5}{f:Flow}{s':Shared}(h:SP (X.wish E) pins D f s'):SP X pins D f s':=by
 cases f with
 | next=>obtain ⟨σ',H',I,q⟩:=h;exact ⟨σ',H',I.unwish,q⟩
 | brk=>obtain ⟨σ',H',I,q⟩:=h;exact ⟨σ',H',I.unwish,q⟩
 | cont=>obtain ⟨σ',H',I,q⟩:=h;exact ⟨σ',H',I.unwish,q⟩
 | ret u=>obtain ⟨v,σ',H',I,r,q⟩:=h;exact ⟨v,σ',H',I.unwish,r,q⟩
theorem PSs.nox{st:List Stmt}{t:TS}(h:PSs X.nox st t):PSs X st t:=fun pins s σ H D I hw =>
 EQ (h pins s σ H D (I.wish _) hw) (fun _ _ q=>q.unwish) fun _ _ z=>False.elim z
end
section
variable{X:Cx}{st:Stmt}{rest:List Stmt}{t u:TS}{e:Expr}{te:TE}{pos:Pos}
def tNext:TS:=fun D σ H=>D.nx σ H
def tSeq(t u:TS):TS:=fun D σ H=>t { D with nx:=u D } σ H
theorem BB:PSs X [] tNext:=fun _ _ σ H _ I h=>wpAny_execs_nil ⟨σ,H,I,h⟩
theorem jD(h1:PS X st t)(h2:PSs X rest u):PSs X (st::rest) (tSeq t u):=by
 intro pins s σ H D I h;refine wpAny_execs_cons (thn (h1 pins s σ H { D with nx:=u D } I h) fun f s1 q=> ?_)
 cases f with
 | next =>
  obtain ⟨σ',H',I',q⟩:=q;exact h2 pins s1 σ' H' D I' q
 | ret v=>exact q
 | brk=>exact q
 | cont=>exact q
theorem p8(h1:PS X st t):PSs X [st] t:=by
 intro pins s σ H D I h;refine wpAny_execs_cons (thn (h1 pins s σ H D I h) fun f s1 q=> ?_)
 cases f with
 | next=>exact wpAny_execs_nil q
 | ret v=>exact q
 | brk=>exact q
 | cont=>exact q
theorem Inv.quiet{pins:List (Addr×Obj)}{σ:St}{H:Hp}{s:Shared}(I:Inv X pins σ H s):interactive X.env=false:=by simp [interactive,I.ok.kind]
def tDrop(te:TE):TS:=fun D σ H=>te σ H fun _ H1=>D.nx σ H1
theorem p9(he:PE X e te)(hs:swapsWith e none pos.line X.env=pure false:=by rfl):PS X (.Expr e pos) (tDrop te):=by
 intro pins s σ H D I h;exact wpAny_Expr_any (thn (he pins s σ H _ I h) fun v s1 ⟨x,H1,I1,r1,q1⟩=>⟨σ,H1,I1,q1⟩) I.quiet hs
def tRet(te:TE):TS:=fun D σ H=>te σ H D.rt
theorem um(he:PE X e te):PS X (.Return (some e) pos) (tRet te):=by
 intro pins s σ H D I h;exact wpAny_Return_some (thn (he pins s σ H _ I h) fun v s1 ⟨x,H1,I1,r1,q1⟩=>⟨x,σ,H1,I1,r1,q1⟩)
def tIfS(c:TT)(t u:TS):TS:=fun D σ H=>c σ H fun b H1=>if b=true then t D σ H1 else u D σ H1
theorem ps_if{c:Expr}{a b:List Stmt}{tc:TT}(hc:PT X c tc)(ha:PSs X a t)(hb:PSs X b u):PS X (.If c a b pos) (tIfS tc t u):=by
 intro pins s σ H D I h;refine wpAny_If (thn (hc pins s σ H _ I h) fun d s1 ⟨H1,I1,q1⟩=> ?_)
 cases d with
 | true=>exact ha pins s1 σ H1 D I1 q1
 | false=>exact hb pins s1 σ H1 D I1 q1
end
abbrev TG:=V->St->Hp->(St->Hp->Prop)->Prop
abbrev TGs:=List V->St->Hp->(St->Hp->Prop)->Prop
noncomputable def PG(X:Cx)(target:Expr)(t:TG):Prop :=
 ∀ (pins:List (Addr×Obj)) (s:Shared) (σ:St) (H:Hp) (v:V) (u:Value) (Q:St->Hp->Prop),Inv X pins σ H s->aB v u->t v σ H Q ->
  wpAny (model X.prog X.w) X.A (assign target X.env u) (fun _ s'=>∃ σ' H',Inv X pins σ' H' s'/\Q σ' H') X.xe s
noncomputable def PGs(X:Cx)(ts:List Expr)(t:TGs):Prop :=
 ∀ (pins:List (Addr×Obj)) (s:Shared) (σ:St) (H:Hp) (vs:List V) (us:List Value) (Q:St->Hp->Prop),Inv X pins σ H s->aw vs us->t vs σ H Q ->
  wpAny (model X.prog X.w) X.A (assignInOrder ((assignEach ts X.env).map (·.2)) us) (fun _ s'=>∃ σ' H',Inv X pins σ' H' s'/\Q σ' H') X.xe s
abbrev TSet:=V->V->V->Hp->(Hp->Prop)->Prop
noncomputable def PSet(X:Cx)(t:TSet):Prop :=
 ∀ (pins:List (Addr×Obj)) (s:Shared) (σ:St) (H:Hp) (o i v:V) (ov iv u:Value) (Q:Hp->Prop),Inv X pins σ H s->aB o ov->aB i iv->aB v u->t o i v H Q ->
  wpAny (model X.prog X.w) X.A (setItem ov iv u) (fun _ s'=>∃ H',Inv X pins σ H' s'/\Q H') X.xe s
abbrev TIp:=V->V->Hp->VK->Prop
noncomputable def PIp(X:Cx)(op:Operator)(t:TIp):Prop :=
 ∀ (pins:List (Addr×Obj)) (s:Shared) (σ:St) (H:Hp) (x y:V) (v u:Value) (Q:VK),Inv X pins σ H s->aB x v->aB y u->t x y H Q ->
  wpAny (model X.prog X.w) X.A (inplaceOp op v u) (EP X pins σ Q) X.xe s
section
variable{X:Cx}{pos:Pos}
def vZ(i:Nat):TG:=fun v σ H Q=>Q (σ.set i (some v)) H
theorem lU{i:Nat}{x:Str}(hN:X.N.Nodup)(hi:X.N[i]?=some x)(hx:Loc X.env.scope x)(hf:X.fn x=true\/X.env.scope.names.lookup x=some .local:=by first | exact .inl rfl | exact .inr rfl | assumption):PG X (.Name x pos) (vZ i):=by
 intro pins s σ H v u Q I r h;exact wpAny_assign_Name (l8 I hN hi hx r (fun s' I'=>⟨_,H,I',h⟩) hf)
def gNil:TGs:=fun vs σ H Q=>vs=[]/\Q σ H
def Db(t:TG)(u:TGs):TGs:=fun vs σ H Q=>∃ v r,vs=v::r/\t v σ H fun σ' H'=>u r σ' H' Q
theorem vK:PGs X [] gNil:=by
 intro pins s σ H vs us Q I r h;obtain ⟨e,h⟩:=h;subst e;cases r;exact assignInOrder_nil ⟨σ,H,I,h⟩
theorem mL{e:Expr}{es:List Expr}{t:TG}{u:TGs}(h1:PG X e t)(h2:PGs X es u)
 (hs:(assignEach (e::es) X.env).map (·.2)=assign e X.env::(assignEach es X.env).map (·.2):=by rfl):PGs X (e::es) (Db t u):=by
 intro pins s σ H vs us Q I r h;obtain ⟨v,vr,e1,h⟩:=h;subst e1
 cases r with
 | cons r rr =>
  rw [hs];refine assignInOrder_cons (thn (h1 pins s σ H _ _ _ I r h) fun _ s1 ⟨σ1,H1,I1,q1⟩=> ?_);exact h2 pins s1 σ1 H1 _ _ Q I1 rr q1
def gTup(K:F2)(n:Nat)(t:TGs):TG:=fun v σ H Q=>∃ a xs,v = .ref a/\SqT K H a xs/\xs.length=n/\t xs σ H Q
theorem yS{es:List Expr}{k:Nat}{t:TGs}{n:Nat}(hc:X.calm=true)(h:PGs X es t)
 (hn:(assignEach es X.env).length=n:=by rfl) (hst:(assignEach es X.env).findIdx? (·.1)=none:=by rfl):PG X (.Tuple es k pos) (gTup X.K n t):=by
 intro pins s σ H v u Q I r hw;obtain ⟨a,xs,e1,hq,hl,hw⟩:=hw;subst e1;cases r;obtain ⟨its,rv,ht,hz⟩:=I.tuple hq
 refine assign_Tuple_tuple (I.ok.hd hc) ht (by simp [hn,<- hl,rv.length]) hst fun h' hx=> ?_
 have I1:Inv X pins σ H { s with heap:=h' }:=I.kept (t':=s.toks) fun b o e=>hx b o (DO (DA e)) e
 exact h pins _ σ H xs _ Q I1 (by simpa using rv) hw
noncomputable def gSub(to ti:TE)(t:TSet):TG:=fun v σ H Q=>to σ H fun o H1=>ti σ H1 fun i H2=>t o i v H2 fun H3=>Q σ H3
theorem pg_sub{o i:Expr}{to ti:TE}{t:TSet}(ho:PE X o to)(hi:PE X i ti)(hs:PSet X t)
 (ha:∀ v,assign (.Subscript o i pos) X.env v=(do
   let ov <- holding [v] (eval o X.env)
   let iv <- holding [v,ov] (eval i X.env)
   standAt pos
   holding [v,ov,iv] (setItem ov iv v)
   release [v,ov,iv] []):=by intro _;rfl):PG X (.Subscript o i pos) (gSub to ti t):=by
 intro pins s σ H v u Q I r h;rw [ha];refine Dl (ER (thn (ho pins s σ H _ I h) fun ov s1 ⟨x,H1,I1,r1,q1⟩=> ?_));refine Dl (ER (thn (hi pins s1 σ H1 _ I1 q1) fun iv s2 ⟨y,H2,I2,r2,q2⟩=> ?_));refine Dl (wpAny_standAt (Dl (ER (thn (hs pins s2 σ H2 x y v ov iv u _ I2 r1 r2 r q2) fun _ s3 ⟨H3,I3,q3⟩=> ?_))));exact wpAny_release ⟨σ,H3,I3,q3⟩
def tAsg(te:TE)(g:TG):TS:=fun D σ H=>te σ H fun x H1=>g x σ H1 D.nx
theorem yN{tg e:Expr}{te:TE}{g:TG}(he:PE X e te)(hg:PG X tg g)(hs:swapsWithSole [tg] e pos.line X.env=pure false:=by rfl)(hw:swappedStores [tg] e X.env=pure none:=by rfl)
 (h1:(assignEach [tg] X.env).map (·.2)=[assign tg X.env]:=by rfl):PS X (.Assign [tg] e pos) (tAsg te g):=by
 intro pins s σ H D I h;refine wpAny_Assign_stores (thn (he pins s σ H _ I h) fun v s1 ⟨x,H1,I1,r1,q1⟩=> ?_) hs hw;rw [h1]
 exact thn (hg pins s1 σ H1 x v _ I1 r1 q1) fun _ s2 q=>q
theorem ps_set{i:Nat}{x:Str}{e:Expr}{te:TE}{pos':Pos}(hN:X.N.Nodup)(hi:X.N[i]?=some x)(hx:Loc X.env.scope x)(he:PE X e te)(hs:swapsWith e (some (.Name x pos')) pos.line X.env=pure false:=by rfl)(hf:X.fn x=true\/X.env.scope.names.lookup x=some .local:=by first | exact .inl rfl | exact .inr rfl | assumption) :
 PS X (.Assign [.Name x pos'] e pos) (tAsg te (vZ i)):=by
 intro pins s σ H D I h;refine wpAny_Assign_Name (thn (he pins s σ H _ I h) fun v s1 ⟨y,H1,I1,r1,q1⟩=> ?_) hs;exact l8 I1 hN hi hx r1 (fun s2 I2=>⟨_,H1,I2,q1⟩) hf
noncomputable def tAug(i:Nat)(te:TE)(ti:TIp):TS:=fun D σ H=>∃ x,σ[i]?=some (some x)/\te σ H fun y H1=>ti x y H1 fun z H2=>D.nx (σ.set i (some z)) H2
theorem ps_aug{i:Nat}{x:Str}{e:Expr}{te:TE}{op:Operator}{ti:TIp}{pos':Pos}(hN:X.N.Nodup)(hi:X.N[i]?=some x)(hx:Loc X.env.scope x)(he:PE X e te)(ho:PIp X op ti)(hf:X.fn x=true\/X.env.scope.names.lookup x=some .local:=by first | exact .inl rfl | exact .inr rfl | assumption) :
 PS X (.AugAssign (.Name x pos') op e pos) (tAug i te ti):=by
 intro pins s σ H D I h;obtain ⟨v,e1,h⟩:=h;obtain ⟨m,hn,hl⟩:=I.loc
 have vis:Vis X.env.scope x:=by rcases hx with k | k;exact .inl k;exact .inr (.inl k)
 obtain ⟨u,r,l⟩:=hl i x v hi e1 vis;refine wpAny_AugAssign_Name ?_
 have go:wpAny (model X.prog X.w) X.A (eval e X.env) (fun w s₂=>wpAny (model X.prog X.w) X.A (inplaceOp op u w) (fun r s₃=>wpAny (model X.prog X.w) X.A (storeName X.env x r) (fun _=>SP X pins D .next) X.xe s₃) X.xe s₂) X.xe s:=by
  refine thn (he pins s σ H _ I h) fun w s1 ⟨y,H1,I1,r1,q1⟩=> ?_
  refine thn (ho pins s1 σ H1 v y u w _ I1 r r1 q1) fun z s2 ⟨zv,H2,I2,r2,q2⟩=> ?_
  exact l8 I2 hN hi hx r2 (fun s3 I3=>⟨_,H2,I3,q2⟩) hf
 rcases l with ⟨hk,hm⟩ | ⟨hk,c,hc,hcell⟩
 ·exact wpAny_loadName_local I.ok.kind hk hn hm go
 ·rcases hk with hk | hk
  ·exact wpAny_loadName_cell I.ok.kind hk hc hcell go
  ·rcases hx with k | k
   ·have:X.env.scope.names.lookup x=some .free:=hk
    rw [k] at this;cases this
   ·have:X.env.scope.names.lookup x=some .free:=hk
    rw [k] at this;cases this
def ipI(f:Int->Int->Int):TIp:=fun x y H Q=>∃ i j,x = .int i/\y = .int j/\Q (.int (f i j)) H
theorem zK:PIp X .Add (ipI fun i j=>i+j):=by
 intro pins s σ H x y v u Q I r1 r2 h;obtain ⟨i,j,e1,e2,q⟩:=h;subst e1;subst e2;obtain ⟨t,rfl⟩:=r1;obtain ⟨t',rfl⟩:=r2;exact iadd_int ⟨.int _,H,I.tok _,⟨_,rfl⟩,q⟩
theorem ip_sub:PIp X .Sub (ipI fun i j=>i - j):=by
 intro pins s σ H x y v u Q I r1 r2 h;obtain ⟨i,j,e1,e2,q⟩:=h;subst e1;subst e2;obtain ⟨t,rfl⟩:=r1;obtain ⟨t',rfl⟩:=r2;exact isub_int ⟨.int _,H,I.tok _,⟨_,rfl⟩,q⟩
end
section
variable{X:Cx}{pos:Pos}
end
structure It where
 go:Nat->Hp->Prop
 yld:Nat->Hp->V->Hp->Prop
 stop:Nat->Hp->Prop
noncomputable def oH(X:Cx)(pins:List (Addr×Obj))(H:Hp)(b:Addr):Prop :=
 H b=none/\b≠X.env.locals/\b∉X.fs/\(b∈X.ex\/X.s₀.heap.objs.size<=b)/\(∀ x c,X.env.cells.lookup x=some c->c≠b)/\∀ p∈X.pn++pins,p.1≠b
theorem Inv.fpOk{X:Cx}{pins:List (Addr×Obj)}{σ:St}{H H':Hp}{s:Shared}{b:Addr}(I:Inv X pins σ H s)(hb:s.heap.objs.size<=b)(hn:H' b=none):oH X pins H' b:=by
 refine ⟨hn,E7 (DW I.lt hb),I.nofs hb,.inr (Ep I.sz hb),fun x c e z=> ?_,fun p hp z=> ?_⟩
 ·obtain ⟨v,q⟩:=I.cell x c e
  exact absurd (DW q.lt (by rw [z];exact hb)) (Fm _)
 ·exact absurd (DW (DA (I.pin p hp).1) (by rw [z];exact hb)) (Fm _)
structure xV(P:Program)(w:World)(K:F2)(tg:Expr)(J:It)(fp:List Addr)(it:Addr)(tn:Nat->Heap->Prop):Prop where
 mem:it∈fp
 obj:∀ i h,tn i h->∀ b∈fp,∃ o,h.get? b=some o/\∀ v,o.data ≠ .cell v
 keep:∀ i h h',tn i h->(∀ b∈fp,∀ o,h.get? b=some o->h'.get? b=some o)->tn i h'
 item:∀ (X:Cx),X.prog=P->X.w=w->X.K=K->X.calm=true->∀ (i:Nat) (pins:List (Addr×Obj)) (s:Shared) (σ:St) (H:Hp) (E:Value->Shared->Prop),Inv X pins σ H s->(∀ b∈fp,oH X pins H b)->tn i s.heap->J.go i H ->
  wpAny (model P w) X.A (pyNext (.ref it)) (fun r s1=>∃ u,r=some u /\
   wpAny (model P w) X.A (letOwnedTupleGo tg (.ref it) u) (fun _ s2=>∃ x H',Inv X pins σ H' s2/\aB x u/\J.yld i H x H'/\tn (i+1) s2.heap/\∀ b∈fp,H' b=none) E s1) E s
 done:∀ (X:Cx),X.prog=P->X.w=w->X.K=K->X.calm=true->∀ (i:Nat) (pins:List (Addr×Obj)) (s:Shared) (σ:St) (H:Hp) (E:Value->Shared->Prop),Inv X pins σ H s->(∀ b∈fp,oH X pins H b)->tn i s.heap->J.stop i H ->
  wpAny (model P w) X.A (pyNext (.ref it)) (fun r s1=>r=none/\Inv X pins σ H s1) E s
 self:∀ (A:Around) (i:Nat) (s:Shared) (Q:Value->Shared->Prop) (E:Value->Shared->Prop),tn i s.heap->Q (.ref it) s->wpAny (model P w) A (pyIter (.ref it)) Q E s
abbrev TI:=St->Hp->(It->Hp->Prop)->Prop
noncomputable def PIE(X:Cx)(pins:List (Addr×Obj))(σ:St)(tg:Expr)(R:It->Hp->Prop)(itv:Value)(s2:Shared):Prop :=
 ∃ (it:Addr) (fp:List Addr) (tn:Nat->Heap->Prop) (J:It) (H':Hp),itv = .ref it/\Inv X pins σ H' s2/\xV X.prog X.w X.K tg J fp it tn/\tn 0 s2.heap/\(∀ b∈fp,oH X pins H' b)/\R J H'
noncomputable def PI(X:Cx)(tg iter:Expr)(wi:TI):Prop :=
 ∀ (pins:List (Addr×Obj)) (s:Shared) (σ:St) (H:Hp) (R:It->Hp->Prop),Inv X pins σ H s->wi σ H R ->
  wpAny (model X.prog X.w) X.A (eval iter X.env) (fun v s1=>wpAny (model X.prog X.w) X.A (pyIter v) (PIE X pins σ tg R) X.xe s1) X.xe s
theorem zP{M:Model}{A:Around}{E:Value->Shared->Prop}{s:Shared}{tg:Expr}{it:Addr}{u:Value}{o:Obj}{n:String}{vs:Array Value}{Q:Unit->Shared->Prop}(ho:s.heap.get? it=some o)(hc:o.cls = .type n)(hd:o.data = .fields vs)
 (hn:["enumerate", "zip", "dict_itemiterator", "dict_reverseitemiterator", "odict_iterator", "itertools.zip_longest", "itertools.pairwise"].contains n=false) (hQ:Q () s):wpAny M A (letOwnedTupleGo tg (.ref it) u) Q E s:=by
 unfold letOwnedTupleGo
 cases tg<;>first
  | exact Dr hQ
  | (cases u<;>first
      | exact Dr hQ
      | (refine Dl (wpAny_load ho ?_)
         rw [hc,hd]
         show wpAny M A (if (["enumerate", "zip", "dict_itemiterator", "dict_reverseitemiterator", "odict_iterator", "itertools.zip_longest", "itertools.pairwise"].contains n&&vs[0]? == some (rawInt _))=true then _ else _) Q E s
         rw [if_neg (by intro h;rw [hn,Fq] at h;cases h)]
         exact Dr hQ))
noncomputable def Itl(K:F2)(a:Addr):It :=
 ⟨fun i H=>∃ xs x,SqL K H a xs/\xs[i]?=some x,fun i H x H'=>H'=H/\∀ xs,SqL K H a xs->xs[i]?=some x,fun i H=>∃ xs,SqL K H a xs/\xs.length<=i⟩
noncomputable def Itt(K:F2)(a:Addr):It :=
 ⟨fun i H=>∃ xs x,SqT K H a xs/\xs[i]?=some x,fun i H x H'=>H'=H/\∀ xs,SqT K H a xs->xs[i]?=some x,fun i H=>∃ xs,SqT K H a xs/\xs.length<=i⟩
def Itr(lo:Int)(n:Nat):It:=⟨fun i _=>i < n,fun i H x H'=>H'=H/\x = .int (lo+i),fun i _=>n<=i⟩
theorem wo{P:Program}{w:World}{K:F2}{tg:Expr}(a it:Addr):xV P w K tg (Itl K a) [it] it (fun i h=>h.IsListIter it a i) where
 mem:=by simp
 obj:=fun i h st b hb=>by
  have e:b=it:=by simpa using hb
  subst e;obtain ⟨o,e,c,d⟩:=st;exact ⟨o,e,fun v z=>by rw [d] at z;cases z⟩
 keep:=fun i h h' st k=>st.at fun o e=>k it (by simp) o e
 item:=by
  intro X hP hw hK hc i pins s σ H E I hf st hg;subst hP hw hK;obtain ⟨xs,x,hq,hx⟩:=hg;obtain ⟨its,rv,p,hz⟩:=I.list hq;obtain ⟨u,hu,ru⟩:=rv.get hx;obtain ⟨f0,f1,f2,f3,f4,f5⟩:=hf it (by simp)
  refine wpAny_pyNext_list_item st p.isList (x:=u) (by simpa using hu) fun h' st' sb=> ?_
  have I1:Inv X pins σ H { s with heap:=h' }:=I.turned (t':=s.toks) (fun b o hb e=>(sb.2 b hb).trans e) f0 f1 f3 f4 f5;obtain ⟨o,e,c,d⟩:=id st';exact ⟨u,rfl,zP (s:={ s with heap:=h' }) e c d (by decide) ⟨x,H,I1,ru,⟨rfl,fun ys hy=>by rw [I.list_inj hy hq];exact hx⟩,st',fun b hb=>(hf b hb).1⟩⟩
 done:=by
  intro X hP hw hK hc i pins s σ H E I hf st hg;subst hP hw hK;obtain ⟨xs,hq,hx⟩:=hg;obtain ⟨its,rv,p,hz⟩:=I.list hq;obtain ⟨f0,f1,f2,f3,f4,f5⟩:=hf it (by simp);have hl:=rv.length
  exact wpAny_pyNext_list_end (I.ok.hd hc) st p.isList (by simp;omega) fun h' eb=>⟨rfl,I.turned (t':=s.toks) (fun b o hb e=>eb b o hb e) f0 f1 f3 f4 f5⟩
 self:=fun _ _ _ _ _ st h=>wpAny_pyIter_listiter st h
theorem l6{P:Program}{w:World}{K:F2}{tg:Expr}(a it:Addr):xV P w K tg (Itt K a) [it] it (fun i h=>h.IsTupleIter it a i) where
 mem:=by simp
 obj:=fun i h st b hb=>by
  have e:b=it:=by simpa using hb
  subst e;obtain ⟨o,e,c,d⟩:=st;exact ⟨o,e,fun v z=>by rw [d] at z;cases z⟩
 keep:=fun i h h' st k=>st.at fun o e=>k it (by simp) o e
 item:=by
  intro X hP hw hK hc i pins s σ H E I hf st hg;subst hP hw hK;obtain ⟨xs,x,hq,hx⟩:=hg;obtain ⟨its,rv,p,hz⟩:=I.tuple hq;obtain ⟨u,hu,ru⟩:=rv.get hx;obtain ⟨f0,f1,f2,f3,f4,f5⟩:=hf it (by simp)
  refine wpAny_pyNext_tuple_item st (show s.heap.IsTuple a its.toArray from p) (x:=u) (by simpa using hu) fun h' st' sb=> ?_
  have I1:Inv X pins σ H { s with heap:=h' }:=I.turned (t':=s.toks) (fun b o hb e=>(sb.2 b hb).trans e) f0 f1 f3 f4 f5;obtain ⟨o,e,c,d⟩:=id st';exact ⟨u,rfl,zP (s:={ s with heap:=h' }) e c d (by decide) ⟨x,H,I1,ru,⟨rfl,fun ys hy=>by rw [I.tuple_inj hy hq];exact hx⟩,st',fun b hb=>(hf b hb).1⟩⟩
 done:=by
  intro X hP hw hK hc i pins s σ H E I hf st hg;subst hP hw hK;obtain ⟨xs,hq,hx⟩:=hg;obtain ⟨its,rv,p,hz⟩:=I.tuple hq;obtain ⟨f0,f1,f2,f3,f4,f5⟩:=hf it (by simp);have hl:=rv.length
  exact wpAny_pyNext_tuple_end (I.ok.hd hc) st (show s.heap.IsTuple a its.toArray from p) (by simp;omega) fun h' eb=>⟨rfl,I.turned (t':=s.toks) (fun b o hb e=>eb b o hb e) f0 f1 f3 f4 f5⟩
 self:=fun _ _ _ _ _ st h=>wpAny_pyIter_tupleiter st h
theorem tX{P:Program}{w:World}{K:F2}{tg:Expr}(it:Addr)(lo:Int)(n:Nat):xV P w K tg (Itr lo n) [it] it (fun i h=>IsRangeIter h it (lo+(i:Nat) * 1) ((n:Int) - (i:Nat)) 1) where
 mem:=by simp
 obj:=fun i h st b hb=>by
  have e:b=it:=by simpa using hb
  subst e
  exact ⟨_,st,fun v z=>by
   have z':Data.fields _=Data.cell v:=z
   cases z'⟩
 keep:=fun i h h' st k=>k it (by simp) _ st
 item:=by
  intro X hP hw hK hc i pins s σ H E I hf st hg;subst hP hw hK;obtain ⟨f0,f1,f2,f3,f4,f5⟩:=hf it (by simp);have W:=Walks.range (prog:=X.prog) (w:=X.w) (I.ok.hd hc) it lo 1 n
  refine W.item i s _ _ hg st fun v h' tk hv st' kk=> ?_
  obtain ⟨t,rfl⟩:=hv;have I1:Inv X pins σ H { s with heap:=h',toks:=tk }:=I.turned (fun b o hb e=>kk b o (by simpa using hb) e) f0 f1 f3 f4 f5;refine ⟨_,rfl,zP (s:={ s with heap:=h',toks:=tk }) (n := "range_iterator") st' rfl rfl (by decide) ⟨.int (lo+i),H,I1,⟨t,?_⟩,⟨rfl,rfl⟩,st',fun b hb=>(hf b hb).1⟩⟩;rw [Int.mul_one]
 done:=by
  intro X hP hw hK hc i pins s σ H E I hf st hg;subst hP hw hK;obtain ⟨f0,f1,f2,f3,f4,f5⟩:=hf it (by simp)
  exact wpAny_pyNext_range_end (I.ok.hd hc) st (by have:n<=i:=hg;omega) fun h' eb=>⟨rfl,I.turned (t':=s.toks) (fun b o hb e=>eb b o hb e) f0 f1 f3 f4 f5⟩
 self:=fun _ _ _ _ _ st h=>wpAny_pyIter_rangeiter st h
section
variable{X:Cx}{tg:Expr}
noncomputable def iTup(K:F2)(tl:TE):TI:=fun σ H R=>tl σ H fun x H1=>∃ a,x = .ref a/\(∃ xs,SqT K H1 a xs)/\R (Itt K a) H1
theorem pi_tup{l:Expr}{tl:TE}(hl:PE X l tl):PI X tg l (iTup X.K tl):=by
 intro pins s σ H R I h
 refine thn (hl pins s σ H _ I h) fun v s1 ⟨x,H1,I1,r1,q1⟩=> ?_
 obtain ⟨a,e,⟨xs,hq⟩,q⟩:=q1;subst e;cases r1;obtain ⟨its,rv,p,hz⟩:=I1.tuple hq;refine Ej (show s1.heap.IsTuple a its.toArray from p) ?_;refine ⟨s1.heap.objs.size,[s1.heap.objs.size],_,_,H1,rfl,I1.kept (t':=s1.toks) fun b o e=>Dm _ e,l6 a _,⟨_,Dw _ rfl,rfl,rfl⟩,fun b hb=> ?_,q⟩
 have e:b=s1.heap.objs.size:=by simpa using hb
 subst e;exact I1.fpOk (DE _) (I1.hok.fresh (DE _))
theorem rJ{pins:List (Addr×Obj)}{σ:St}{H:Hp}{s:Shared}{R:It->Hp->Prop}{E:Value->Shared->Prop}{lo hi:Int}{t u v:Tok}{tk:Nat}(I:Inv X pins σ H s)(h1 : -(2 ^ 62)<=lo)(h2:lo < 2 ^ 62)(h3 : -(2 ^ 62)<=hi)(h4:hi < 2 ^ 62)
 (q:R (Itr lo (hi - lo).toNat) H):wpAny (model X.prog X.w) X.A (pyIter (.ref s.heap.objs.size)) (PIE X pins σ tg R) E { s with heap:=s.heap.push { cls:= .type "range",data:= .fields #[.int lo t,.int hi u,.int 1 v] },toks:=tk }:=by
 refine wpAny_pyIter_range (IsRange.new ..) (small_one h1 h2 h3 h4) ?_
 have I1:Inv X pins σ H { s with heap:=s.heap.push { cls:= .type "range",data:= .fields #[.int lo t,.int hi u,.int 1 v] },toks:=tk }:=I.kept fun b o e=>Dm _ e
 refine ⟨(s.heap.push { cls:= .type "range",data:= .fields #[.int lo t,.int hi u,.int 1 v] }).objs.size,[(s.heap.push { cls:= .type "range",data:= .fields #[.int lo t,.int hi u,.int 1 v] }).objs.size],_,_,H,rfl,
  I1.kept (t':=tk) fun b o e=>Dm _ e,tX _ lo (hi - lo).toNat,?_,fun b hb=> ?_,q⟩
 ·have e1:lo+((0:Nat):Int) * 1=lo:=by simp
  have e2:(((hi - lo).toNat:Nat):Int) - ((0:Nat):Int)=Builtin.Range.rangeSize lo hi 1:=by rw [rangeSize_one];split<;>omega
  show IsRangeIter _ _ (lo+((0:Nat):Int) * 1) ((((hi - lo).toNat:Nat):Int) - ((0:Nat):Int)) 1
  rw [e1,e2];exact Dw _ rfl
 ·have e:b=(s.heap.push { cls:= .type "range",data:= .fields #[.int lo t,.int hi u,.int 1 v] }).objs.size:=by simpa using hb
  subst e;exact I1.fpOk (DE _) (I1.hok.fresh (DE _))
noncomputable def iRng1(ta:TA):TI:=fun σ H R=>ta σ H fun vs H1=>∃ j:Int,vs=[.int j] /\ -(2 ^ 62)<=j/\j < 2 ^ 62/\R (Itr 0 j.toNat) H1
noncomputable def iRng2(ta:TA):TI:=fun σ H R=>ta σ H fun vs H1=>∃ i j:Int,vs=[.int i,.int j]/\(-(2 ^ 62)<=i/\i < 2 ^ 62 /\ -(2 ^ 62)<=j/\j < 2 ^ 62)/\R (Itr i (j - i).toNat) H1
theorem oZ{a:Expr}{ta:TA}{p pos:Pos}(hg:Gl X "range")(hm:X.mg "range" = none)(ha:PA X [a] ta)(hs:starEach [a] X.env=[(false,eval a X.env)]:=by rfl):PI X tg (.Call (.Name "range" p) [a] [] pos) (iRng1 ta):=by
 intro pins s σ H R I h;refine Call_ (ja I hg hm boot_range (PyProof.Rows.callWith_type1 (thn (ha pos pins s σ H _ I h) fun us s1 ⟨vs,H1,I1,r1,q1⟩=> ?_) hs rfl));obtain ⟨j,e,q1,q2,q⟩:=q1;subst e
 cases r1 with
 | cons r rr =>
  cases rr;obtain ⟨t,rfl⟩:=r;exact call_range_1 (rJ I1 (by omega) (by omega) q1 q2 (by simpa using q))
theorem wG{a b:Expr}{ta:TA}{p pos:Pos}(hg:Gl X "range")(hm:X.mg "range" = none)(ha:PA X [a,b] ta)(hs:starEach [a,b] X.env=[(false,eval a X.env),(false,eval b X.env)]:=by rfl)(hs2:starEach [b] X.env=[(false,eval b X.env)]:=by rfl) :
 PI X tg (.Call (.Name "range" p) [a,b] [] pos) (iRng2 ta):=by
 intro pins s σ H R I h;refine Call_ (ja I hg hm boot_range (PyProof.Rows.callWith_type1 (thn (ha pos pins s σ H _ I h) fun us s1 ⟨vs,H1,I1,r1,q1⟩=> ?_) (by rw [hs,hs2]) (by rw [hs2];rfl)));obtain ⟨i,j,e,⟨q1,q2,q3,q4⟩,q⟩:=q1;subst e
 cases r1 with
 | cons r rr =>
  cases rr with
  | cons r' rr =>
   cases rr;obtain ⟨t,rfl⟩:=r;obtain ⟨t',rfl⟩:=r';exact call_range_2 (rJ I1 q1 q2 q3 q4 q)
noncomputable def tFor(wi:TI)(g:TG)(tb:TS):TS:=fun D σ H=>wi σ H fun J H1=>∃ W:Nat->Nat->St->Hp->Prop,(∃ m,W 0 m σ H1)/\∀ i m σ H,W i m σ H ->
 (J.stop i H/\D.nx σ H)\/(J.go i H/\∃ N:St->Hp->Prop,(∀ σ' H',N σ' H'->∃ m',m' < m/\W (i+1) m' σ' H')/\∀ x H',J.yld i H x H'->g x σ H' fun σ2 H2=>tb { D with nx:=N,ct:=N,bk:=D.nx } σ2 H2)
def km(fp:List Addr)(h:Heap):List (Addr×Obj):=fp.filterMap fun b=>(h.get? b).map fun o=>(b,o)
theorem dj{fp:List Addr}{h:Heap}{b:Addr}{o:Obj}(hb:b∈fp)(e:h.get? b=some o):(b,o)∈km fp h:=F0.mpr ⟨b,hb,by rw [e];rfl⟩
theorem wR{fp:List Addr}{h:Heap}{p:Addr×Obj}(hp:p∈km fp h):p.1∈fp/\h.get? p.1=some p.2:=by
 obtain ⟨b,hb,e⟩:=F0.mp hp
 cases q:h.get? b with
 | none=>rw [q] at e;cases e
 | some o =>
  rw [q] at e;have e':(b,o)=p:=Option.some.inj e;subst e';exact ⟨hb,q⟩
theorem Inv.pinned{pins:List (Addr×Obj)}{σ:St}{H:Hp}{s:Shared}{fp:List Addr}(I:Inv X pins σ H s)(hf:∀ b∈fp,oH X pins H b)(ho:∀ b∈fp,∃ o,s.heap.get? b=some o/\∀ v,o.data ≠ .cell v):Inv X (pins++km fp s.heap) σ H s :=
 I.pins_of fun p hp=>(DT.mp hp).elim (fun z=>I.pin p (Du _ z)) fun z=>by
  obtain ⟨hb,e⟩:=wR z;obtain ⟨f0,f1,f2,_⟩:=hf p.1 hb;obtain ⟨o,e',d⟩:=ho p.1 hb;rw [e] at e';cases e';exact ⟨e,f0,f1,f2,d⟩
theorem Inv.unpinned{pins pl:List (Addr×Obj)}{σ:St}{H:Hp}{s:Shared}(I:Inv X (pins++pl) σ H s):Inv X pins σ H s:=I.pins_of fun p hp=>I.pin p (Du _ (Dz _ hp))
theorem yM{iter:Expr}{body:List Stmt}{wi:TI}{g:TG}{tb:TS}{pos:Pos}(hp:PassesOwn (model X.prog X.w) X.A X.env X.xe)(hc:X.calm=true)(hi:PI X tg iter wi)(hg:PG X tg g)(hb:PSs X body tb)
 (hs:∀ x,foldedSetIterable iter X.env x=pure x:=by intro _;rfl):PS X (.For tg iter body [] pos) (tFor wi g tb):=by
 intro pins s σ H D I h;refine wpAny_For (thn (hi pins s σ H _ I h) fun v s1 h1=>thn h1 fun itv s2 h2=> ?_) hs;obtain ⟨it,fp,tn,J,H2,e,I2,T,st2,f2,W,⟨m0,w0⟩,turn⟩:=h2;subst e
 have stat:∀ {H':Hp},(∀ b∈fp,H' b=none)->∀ b∈fp,oH X pins H' b:=fun hn b hb=>⟨hn b hb,(f2 b hb).2⟩
 refine codeAny_forLoop_any (fun n s'=>∃ i σ' H',Inv X pins σ' H' s'/\tn i s'.heap/\(∀ b∈fp,H' b=none)/\W i n σ' H') ?_ m0 ⟨0,σ,H2,I2,st2,fun b hb=>(f2 b hb).1,w0⟩;rintro n s3 ⟨i,σ3,H3,I3,st3,fr3,w3⟩
 rcases turn i n σ3 H3 w3 with ⟨stop,qn⟩ | ⟨go,N,hN,step⟩
 ·refine FT hp (thn (T.done X rfl rfl rfl hc i pins s3 σ3 H3 X.xe I3 (stat fr3) st3 stop) fun r s4 ⟨hr,I4⟩=> ?_)
  subst hr;exact wpAny_execs_nil ⟨σ3,H3,I4,qn⟩
 ·refine FT hp (thn (T.item X rfl rfl rfl hc i pins s3 σ3 H3 X.xe I3 (stat fr3) st3 go) fun r s4 ⟨u,hr,h4⟩=> ?_)
  subst hr;refine FT hp (thn h4 fun _ s5 ⟨x,H5,I5,r5,y5,st5,fr5⟩=> ?_);have I5':=I5.pinned (stat fr5) (T.obj _ _ st5);refine FT hp (thn (hg _ s5 σ3 H5 x u _ I5' r5 (step x H5 y5)) fun _ s6 ⟨σ6,H6,I6,q6⟩=> ?_);refine FT hp (thn (hb _ s6 σ6 H6 _ I6 q6) fun f s7 q7=> ?_)
  have again:∀ {σ7:St} {H7:Hp},Inv X (pins++km fp s5.heap) σ7 H7 s7->N σ7 H7->∃ m,m < n/\∃ i σ' H',Inv X pins σ' H' s7/\tn i s7.heap/\(∀ b∈fp,H' b=none)/\W i m σ' H':=fun {σ7 H7} I7 n7=>by
   obtain ⟨m',hm,w7⟩:=hN σ7 H7 n7;refine ⟨m',hm,i+1,σ7,H7,I7.unpinned,T.keep _ _ _ st5 fun b hb o e=>(I7.pin (b,o) (Du _ (Du _ (dj hb e)))).1,fun b hb=> ?_,w7⟩;obtain ⟨o,e,d⟩:=T.obj _ _ st5 b hb;exact (I7.pin (b,o) (Du _ (Du _ (dj hb e)))).2.1
  cases f with
  | next=>obtain ⟨σ7,H7,I7,n7⟩:=q7;exact again I7 n7
  | cont=>obtain ⟨σ7,H7,I7,n7⟩:=q7;exact again I7 n7
  | brk=>obtain ⟨σ7,H7,I7,q7⟩:=q7;exact ⟨σ7,H7,I7.unpinned,q7⟩
  | ret v=>obtain ⟨x7,σ7,H7,I7,r7,q7⟩:=q7;exact ⟨x7,σ7,H7,I7.unpinned,r7,q7⟩
end
theorem for_list{K:F2}{a:Addr}{xs:List V}{g:TG}{tb:TS}{D:n5}{σ:St}{H:Hp}(Pv:Nat->St->Hp->Prop)(h0:Pv 0 σ H)(hl:∀ i σ H,i<=xs.length->Pv i σ H->SqL K H a xs)
 (hs:∀ i x σ H,xs[i]?=some x->Pv i σ H->g x σ H fun σ2 H2=>tb { D with nx:=Pv (i+1),ct:=Pv (i+1),bk:=D.nx } σ2 H2) (hd:∀ σ H,Pv xs.length σ H->D.nx σ H) :
 ∃ W:Nat->Nat->St->Hp->Prop,(∃ m,W 0 m σ H)/\∀ i m σ H,W i m σ H ->
  ((Itl K a).stop i H/\D.nx σ H)\/((Itl K a).go i H/\∃ N:St->Hp->Prop,(∀ σ' H',N σ' H'->∃ m',m' < m/\W (i+1) m' σ' H')/\∀ x H',(Itl K a).yld i H x H'->g x σ H' fun σ2 H2=>tb { D with nx:=N,ct:=N,bk:=D.nx } σ2 H2):=by
 refine ⟨fun i m σ H=>m=xs.length - i/\i<=xs.length/\Pv i σ H,⟨xs.length,by simp,Fb _,h0⟩,?_⟩;rintro i m σ H ⟨rfl,hi,p⟩;have q:=hl i σ H hi p
 by_cases hlt:i < xs.length
 ·refine .inr ⟨⟨xs,xs[i],q,by simp [hlt]⟩,Pv (i+1),fun σ' H' p'=>⟨xs.length - (i+1),by omega,rfl,hlt,p'⟩,fun x H' y=> ?_⟩
  obtain ⟨e,y⟩:=y;subst e;exact hs i x σ _ (y xs q) p
 ·have e:i=xs.length:=by omega
  subst e;exact .inl ⟨⟨xs,q,DE _⟩,hd σ H p⟩
theorem Cg{K:F2}{a:Addr}{xs:List V}{g:TG}{tb:TS}{D:n5}{σ:St}{H:Hp}(Pv:Nat->St->Hp->Prop)(h0:Pv 0 σ H)(hl:∀ i σ H,i<=xs.length->Pv i σ H->SqT K H a xs)
 (hs:∀ i x σ H,xs[i]?=some x->Pv i σ H->g x σ H fun σ2 H2=>tb { D with nx:=Pv (i+1),ct:=Pv (i+1),bk:=D.nx } σ2 H2) (hd:∀ σ H,Pv xs.length σ H->D.nx σ H) :
 ∃ W:Nat->Nat->St->Hp->Prop,(∃ m,W 0 m σ H)/\∀ i m σ H,W i m σ H ->
  ((Itt K a).stop i H/\D.nx σ H)\/((Itt K a).go i H/\∃ N:St->Hp->Prop,(∀ σ' H',N σ' H'->∃ m',m' < m/\W (i+1) m' σ' H')/\∀ x H',(Itt K a).yld i H x H'->g x σ H' fun σ2 H2=>tb { D with nx:=N,ct:=N,bk:=D.nx } σ2 H2):=by
 refine ⟨fun i m σ H=>m=xs.length - i/\i<=xs.length/\Pv i σ H,⟨xs.length,by simp,Fb _,h0⟩,?_⟩;rintro i m σ H ⟨rfl,hi,p⟩;have q:=hl i σ H hi p
 by_cases hlt:i < xs.length
 ·refine .inr ⟨⟨xs,xs[i],q,by simp [hlt]⟩,Pv (i+1),fun σ' H' p'=>⟨xs.length - (i+1),by omega,rfl,hlt,p'⟩,fun x H' y=> ?_⟩
  obtain ⟨e,y⟩:=y;subst e;exact hs i x σ _ (y xs q) p
 ·have e:i=xs.length:=by omega
  subst e;exact .inl ⟨⟨xs,q,DE _⟩,hd σ H p⟩
abbrev R2:=V->V->Hp->VK->Prop
noncomputable def OpR(X:Cx)(f:Value->Value->Sem Value)(r:R2):Prop :=
 ∀ (pins:List (Addr×Obj)) (s:Shared) (σ:St) (H:Hp) (x y:V) (v u:Value) (Q:VK),Inv X pins σ H s->aB x v->aB y u->r x y H Q ->
  wpAny (model X.prog X.w) X.A (f v u) (EP X pins σ Q) X.xe s
noncomputable def ax(X:Cx)(f:Value)(r:List V->Hp->VK->Prop):Prop :=
 ∀ (pins:List (Addr×Obj)) (s:Shared) (σ:St) (H:Hp) (xs:List V) (us:List Value) (Q:VK),Inv X pins σ H s->aw xs us->r xs H Q ->
  wpAny (model X.prog X.w) X.A (call f us) (EP X pins σ Q) X.xe s
noncomputable def TruR(X:Cx)(r:V->Hp->(Bool->Hp->Prop)->Prop):Prop :=
 ∀ (pins:List (Addr×Obj)) (s:Shared) (σ:St) (H:Hp) (x:V) (v:Value) (Q:Bool->Hp->Prop),Inv X pins σ H s->aB x v->r x H Q ->
  wpAny (model X.prog X.w) X.A (truthy v) (TP X pins σ Q) X.xe s
def tOp(r:R2)(ta tb:TE):TE:=fun σ H Q=>ta σ H fun x H1=>tb σ H1 fun y H2=>r x y H2 Q
noncomputable def rI(C:Int->Int->Prop)(g:Int->Int->V):R2:=fun x y H Q=>∃ i j,x = .int i/\y = .int j/\C i j/\Q (g i j) H
def rI0(g:Int->Int->V):R2:=fun x y H Q=>∃ i j,x = .int i/\y = .int j/\Q (g i j) H
section
variable{X:Cx}{a b c:Expr}{ta tb tc:TE}{pos:Pos}
theorem binT(ha:PE X a ta)(hb:PE X b tb){pins:List (Addr×Obj)}{s:Shared}{σ:St}{H:Hp}{R:V->V->Hp->Prop}(I:Inv X pins σ H s)
 (h:ta σ H fun x H1=>tb σ H1 fun y H2=>R x y H2) {Q:Value->Shared->Prop} {f:Value->Value->Sem Value}
 (hf:∀ v u s2 x y H2,Inv X pins σ H2 s2->aB x v->aB y u->R x y H2->wpAny (model X.prog X.w) X.A (f v u) Q X.xe s2) :
 wpAny (model X.prog X.w) X.A (eval a X.env) (fun v s₁=>wpAny (model X.prog X.w) X.A (eval b X.env) (fun u s₂=>wpAny (model X.prog X.w) X.A (f v u) Q X.xe s₂) X.xe s₁) X.xe s:=by
 refine thn (ha pins s σ H _ I h) fun v s1 ⟨x,H1,I1,r1,q1⟩=> ?_
 refine thn (hb pins s1 σ H1 _ I1 q1) fun u s2 ⟨y,H2,I2,r2,q2⟩=> ?_
 exact hf v u s2 x y H2 I2 r1 r2 q2
theorem pe_op{op:Operator}{r:R2}(ho:OpR X (binaryOp op) r)(ha:PE X a ta)(hb:PE X b tb):PE X (.BinOp a op b pos) (tOp r ta tb):=by
 intro pins s σ H Q I h;exact wpAny_BinOp (binT ha hb I h fun v u s2 x y H2 I2 rx ry q=>ho pins s2 σ H2 x y v u Q I2 rx ry q)
theorem opI{f:Value->Value->Sem Value}{C:Int->Int->Prop}{g:Int->Int->Int}
 (rule:∀ (i j:Int) (t u:Tok) (s:Shared) (Q:Value->Shared->Prop) (E:Value->Shared->Prop),C i j->Q (.int (g i j) s.toks) { s with toks:=s.toks+1 }->wpAny (model X.prog X.w) X.A (f (.int i t) (.int j u)) Q E s) :
 OpR X f (rI C fun i j=> .int (g i j)):=by
 intro pins s σ H x y v u Q I rx ry h;obtain ⟨i,j,rfl,rfl,hc,q⟩:=h;obtain ⟨t,rfl⟩:=rx;obtain ⟨t',rfl⟩:=ry;exact rule i j t t' s _ _ hc ⟨.int (g i j),H,I.tok _,⟨_,rfl⟩,q⟩
theorem opI0{f:Value->Value->Sem Value}{g:Int->Int->Int}
 (rule:∀ (i j:Int) (t u:Tok) (s:Shared) (Q:Value->Shared->Prop) (E:Value->Shared->Prop),Q (.int (g i j) s.toks) { s with toks:=s.toks+1 }->wpAny (model X.prog X.w) X.A (f (.int i t) (.int j u)) Q E s) :
 OpR X f (rI0 fun i j=> .int (g i j)):=by
 intro pins s σ H x y v u Q I rx ry h;obtain ⟨i,j,rfl,rfl,q⟩:=h;obtain ⟨t,rfl⟩:=rx;obtain ⟨t',rfl⟩:=ry;exact rule i j t t' s _ _ ⟨.int (g i j),H,I.tok _,⟨_,rfl⟩,q⟩
theorem BV{f:Value->Value->Sem Value}{g:Int->Int->Bool}
 (rule:∀ (i j:Int) (t u:Tok) (s:Shared) (Q:Value->Shared->Prop) (E:Value->Shared->Prop),Q (.bool (g i j)) s->wpAny (model X.prog X.w) X.A (f (.int i t) (.int j u)) Q E s) :
 OpR X f (rI0 fun i j=> .bl (g i j)):=by
 intro pins s σ H x y v u Q I rx ry h;obtain ⟨i,j,rfl,rfl,q⟩:=h;obtain ⟨t,rfl⟩:=rx;obtain ⟨t',rfl⟩:=ry;exact rule i j t t' s _ _ ⟨.bl (g i j),H,I,rfl,q⟩
def CDiv(i j:Int):Prop:=0 < j/\j < 1073741824
def CPow(i j:Int):Prop:=0<=j/\j<=1000000/\i.natAbs < 2 ^ 64
def AL(i j:Int):Prop:=(-(2 ^ 64) < i/\i < 2 ^ 64)\/(-(2 ^ 64) < j/\j < 2 ^ 64)
theorem AL.ok{i j:Int}(h:AL i j):IntMulOk i j:=by
 rcases h with ⟨h1,h2⟩ | ⟨h1,h2⟩
 ·exact .of_left (intBits_le_64 h1 h2)
 ·exact .of_right (intBits_le_64 h1 h2)
theorem op_add:OpR X (binaryOp .Add) (rI0 fun i j=> .int (i+j)):=opI0 fun _ _ _ _ _ _ _ q=>add_int q
theorem op_sub:OpR X (binaryOp .Sub) (rI0 fun i j=> .int (i - j)):=opI0 fun _ _ _ _ _ _ _ q=>sub_int q
theorem op_mul:OpR X (binaryOp .Mult) (rI AL fun i j=> .int (i * j)):=opI fun _ _ _ _ _ _ _ hc q=>mul_int q hc.ok
theorem BR:OpR X (binaryOp .FloorDiv) (rI CDiv fun i j=> .int (i / j)):=opI fun i j _ _ _ _ _ hc q=>by
 have h1:(0:Int) < j:=hc.1;have h2:j < 1073741824:=hc.2;exact floordiv_int (by omega) (by rw [Int.fdiv_eq_ediv_of_nonneg i (by omega)];exact q) (.inl (PyProof.noPylong_small (by omega)))
theorem op_mod:OpR X (binaryOp .Mod) (rI (fun _ j=>0 < j) fun i j=> .int (i % j)):=opI fun i j _ _ _ _ _ hc q=>by
 have h1:(0:Int) < j:=hc;exact mod_int' (by omega) (by rw [Int.fmod_eq_emod_of_nonneg i (by omega)];exact q)
theorem op_pow:OpR X (binaryOp .Pow) (rI CPow fun i j=> .int (i ^ j.toNat)):=opI fun _ _ _ _ _ _ _ hc q=>pow_int_small hc.1 hc.2.1 hc.2.2 q
end
section
variable{X:Cx}{a b c:Expr}{ta tb tc:TE}{pos:Pos}
theorem Af{pins:List (Addr×Obj)}{σ:St}{H:Hp}{s:Shared}{Q:VK}{k k':Bool}(I:Inv X pins σ H s)(q:Q (.bl k) H)(e:k=k'):EP X pins σ Q (.bool k') s:=by
 subst e;exact ⟨.bl k,H,I,rfl,q⟩
theorem op_lt:OpR X (compareOp .Lt) (rI0 fun i j=> .bl (decide (i < j))):=BV fun _ _ _ _ _ _ _ q=>lt_int q
theorem vO:OpR X (compareOp .LtE) (rI0 fun i j=> .bl (decide (i<=j))):=BV fun _ _ _ _ _ _ _ q=>le_int q
theorem C6:OpR X (compareOp .Gt) (rI0 fun i j=> .bl (decide (j < i))):=BV fun _ _ _ _ _ _ _ q=>gt_int q
theorem C7:OpR X (compareOp .GtE) (rI0 fun i j=> .bl (decide (j<=i))):=BV fun _ _ _ _ _ _ _ q=>ge_int q
theorem op_isN:OpR X (compareOp .Is) (fun x y H Q=>y = .non/\Q (.bl (decide (x = .non))) H):=by
 intro pins s σ H x y v u Q I rx ry h;obtain ⟨rfl,q⟩:=h;cases ry;refine is_none_gen (Af I q ?_)
 cases x<;>first
  | (cases rx;rfl)
  | (obtain ⟨t,rfl⟩:=rx;rfl)
theorem BO:OpR X (compareOp .IsNot) (fun x y H Q=>y = .non/\Q (.bl (!decide (x = .non))) H):=by
 intro pins s σ H x y v u Q I rx ry h;obtain ⟨rfl,q⟩:=h;cases ry;refine isnot_none_gen (Af I q ?_)
 cases x<;>first
  | (cases rx;rfl)
  | (obtain ⟨t,rfl⟩:=rx;rfl)
theorem OpR.or{f:Value->Value->Sem Value}{r r':R2}(h:OpR X f r)(h':OpR X f r'):OpR X f (fun x y H Q=>r x y H Q\/r' x y H Q):=by
 intro pins s σ H x y v u Q I rx ry q
 rcases q with q | q
 ·exact h pins s σ H x y v u Q I rx ry q
 ·exact h' pins s σ H x y v u Q I rx ry q
theorem dJ(b:Expr){op:CmpOp}(h:op ≠ .In:=by decide)(h2:op ≠ .NotIn:=by decide):behindInMarks op b=false:=by
 have e1:(op == CmpOp.In)=false:=by cases op<;>first | rfl | exact absurd rfl h
 have e2:(op == CmpOp.NotIn)=false:=by cases op<;>first | rfl | exact absurd rfl h2
 cases b<;>simp [behindInMarks,e1,e2]
theorem BI{op:CmpOp}{r:R2}(ho:OpR X (compareOp op) r)(ha:PE X a ta)(hb:PE X b tb)(hm:behindInMarks op b=false):PE X (.Compare a [op] [b] pos) (tOp r ta tb):=by
 intro pins s σ H Q I h;exact wpAny_Compare1 (binT ha hb I h fun v u s2 x y H2 I2 rx ry q=>ho pins s2 σ H2 x y v u Q I2 rx ry q) hm
def tTest(t:TE):TT:=fun σ H Q=>t σ H fun x H'=>∃ k,x = .bl k/\Q k H'
theorem BA{op:CmpOp}{r:R2}(ho:OpR X (compareOp op) r)(ha:PE X a ta)(hb:PE X b tb)(hm:behindInMarks op b=false):PT X (.Compare a [op] [b] pos) (tTest (tOp r ta tb)):=by
 intro pins s σ H Q I h
 refine wpAny_isTrue_Compare1 (thn (ha pins s σ H _ I h) fun v s1 ⟨x,H1,I1,r1,q1⟩=>thn (hb pins s1 σ H1 _ I1 q1) fun u s2 ⟨y,H2,I2,r2,q2⟩ =>
  thn (ho pins s2 σ H2 x y v u _ I2 r1 r2 q2) fun c s3 ⟨z,H3,I3,r3,k,e,q3⟩=> ?_) hm
 subst e;cases r3;exact E3 ⟨H3,I3,q3⟩
noncomputable def yf(r r':R2)(ta tb tc:TE):TE:=fun σ H Q=>ta σ H fun x H1=>tb σ H1 fun y H2=>r x y H2 fun z H3=>∃ k,z = .bl k /\
 (if k=true then tc σ H3 fun w' H4=>r' y w' H4 Q else Q (.bl false) H3)
theorem yY{op op':CmpOp}{r r':R2}(ho:OpR X (compareOp op) r)(ho':OpR X (compareOp op') r')(ha:PE X a ta)(hb:PE X b tb)(hc:PE X c tc)
 (hm:lastMarks [op,op'] [b,c]=false:=by with_unfolding_all rfl):PE X (.Compare a [op,op'] [b,c] pos) (yf r r' ta tb tc):=by
 intro pins s σ H Q I h
 refine Compare_chain (thn (ha pins s σ H _ I h) fun v s1 ⟨x,H1,I1,r1,q1⟩=>chain_link (thn (hb pins s1 σ H1 _ I1 q1) fun u s2 ⟨y,H2,I2,r2,q2⟩ =>
  thn (ho pins s2 σ H2 x y v u _ I2 r1 r2 q2) fun d s3 ⟨z,H3,I3,r3,k,e,q3⟩=> ?_)) hm
 subst e;cases r3;refine E3 ?_
 cases k with
 | false=>exact ite_ff ⟨.bl false,H3,I3,rfl,q3⟩
 | true=>exact ite_tt (chain_last (thn (hc pins s3 σ H3 _ I3 q3) fun w' s4 ⟨z',H4,I4,r4,q4⟩=>ho' pins s4 σ H4 y z' u w' Q I4 r2 r4 q4))
noncomputable def CC(K:F2)(x:V)(H:Hp)(k:Bool):Prop :=
 match x with
 | .non=>k=false
 | .bl b=>k=b
 | .int i=>k=(i != 0)
 | .str y=>y.length<=sizeLine/\k=((y.length:Int) != 0)
 | .byt y=>y.size<=sizeLine/\k=((y.size:Int) != 0)
 | .ref p=>(∃ xs,SqL K H p xs/\k = !xs.isEmpty)\/(∃ xs,SqT K H p xs/\k = !xs.isEmpty)\/∃ kvs,H p=some (.dK kvs)/\k = !kvs.isEmpty
 | _=>False
theorem uD{κ:Type}{kvs:List (κ×V)}{vs:List (κ×Value)}(r:KV kvs vs):(!vs.isEmpty) = !kvs.isEmpty:=by
 cases r<;>rfl
theorem nu{xs:List V}{its:List Value}(r:aw xs its):(!its.toArray.isEmpty) = !xs.isEmpty:=by
 cases r<;>simp
theorem ku:(sizeLine:Nat) < 2 ^ 63:=by rw [sizeLine_eq];decide
theorem tru_ok:TruR X (fun x H Q=>∃ k,CC X.K x H k/\Q k H):=by
 intro pins s σ H x v Q I rx h;obtain ⟨k,e,q⟩:=h;have hl:=ku;have hs:sizeLine=16777216:=sizeLine_eq
 cases x with
 | non =>
  cases rx;have e':k=false:=e;subst e';exact truthy_none ⟨H,I,q⟩
 | bl b =>
  cases rx;have e':k=b:=e;subst e';exact E3 ⟨H,I,q⟩
 | int i =>
  obtain ⟨t,rfl⟩:=rx;have e':k=(i != 0):=e;subst e';exact PySem.P.truthy_int ⟨H,I,q⟩
 | str y =>
  obtain ⟨t,rfl⟩:=rx;obtain ⟨hy,e'⟩:y.length<=sizeLine/\k=((y.length:Int) != 0):=e;subst e';exact PySem.P.truthy_str (by omega) ⟨H,I.tok _,q⟩
 | byt y =>
  obtain ⟨t,rfl⟩:=rx;obtain ⟨hy,e'⟩:y.size<=sizeLine/\k=((y.size:Int) != 0):=e;subst e';exact PySem.W.truthy_bytes (by omega) ⟨H,I.tok _,q⟩
 | ref p =>
  cases rx;have e':(∃ xs,SqL X.K H p xs/\k = !xs.isEmpty)\/(∃ xs,SqT X.K H p xs/\k = !xs.isEmpty)\/∃ kvs,H p=some (.dK kvs)/\k = !kvs.isEmpty:=e
  rcases e' with ⟨xs,hx,e'⟩ | ⟨xs,hx,e'⟩ | ⟨kvs,hx,e'⟩
  ·subst e'
   obtain ⟨its,r,pl,hz⟩:=I.list hx;have hlen:=r.length;exact wpAny_truthy_list pl.isList (by simp only [Ds];omega) ⟨H,I.tok _,by rw [nu r];exact q⟩
  ·subst e'
   obtain ⟨its,r,pl,hz⟩:=I.tuple hx;have hlen:=r.length;exact truthy_tuple pl (by simp only [Ds];omega) ⟨H,I.tok _,by rw [nu r];exact q⟩
  ·subst e'
   obtain ⟨hz,hS,vs,r,m⟩:kvs.length<=sizeLine/\(p == sysModules)=false/\∃ vs,KV kvs vs/\s.heap.DictOf (aW X.prog X.w) p vs:=I.hok p _ hx;have hlen:kvs.length=vs.length:=Paired.length r;exact wpAny_truthy_dict hS m (by omega) ⟨H,I.tok _,by rw [uD r];exact q⟩
 | _=>exact (show False from e).elim
theorem yK(ha:PE X a ta)(he:∀ whole,isTrue a X.env whole=(do let v <- whole;standAt a.pos;holding [v] (truthy v))) :
 PT X a (fun σ H Q=>ta σ H fun x H'=>∃ k,CC X.K x H' k/\Q k H'):=by
 intro pins s σ H Q I h;exact isTrue_plain (thn (ha pins s σ H _ I h) fun v s1 ⟨x,H1,I1,r1,q1⟩=>tru_ok pins s1 σ H1 x v Q I1 r1 q1) (he _)
theorem bC{x:V}{us:List Value}(r:aw [x] us):∃ u,us=[u]/\aB x u:=by
 cases r with
 | cons r1 r2=>cases r2;exact ⟨_,rfl,r1⟩
theorem qT{x y:V}{us:List Value}(r:aw [x,y] us):∃ u w',us=[u,w']/\aB x u/\aB y w':=by
 cases r with
 | cons r1 r2 =>
  cases r2 with
  | cons r3 r4=>cases r4;exact ⟨_,_,rfl,r1,r3⟩
theorem Ay:ax X (.builtin "abs") (fun xs H Q=>∃ i,xs=[.int i]/\Q (.int (if i < 0 then -i else i)) H):=by
 intro pins s σ H xs us Q I r h;obtain ⟨i,rfl,q⟩:=h;obtain ⟨u,rfl,t,rfl⟩:=bC r
 exact call_abs_int fun u tk=>⟨.int (if i < 0 then -i else i),H,I.tok _,⟨_,rfl⟩,q⟩
theorem xI(hc:X.calm=true):ax X (.builtin "max") (fun xs H Q=>∃ i j,xs=[.int i,.int j]/\Q (.int (if j > i then j else i)) H):=by
 intro pins s σ H xs us Q I r h;obtain ⟨i,j,rfl,q⟩:=h;obtain ⟨u,w',rfl,⟨t,rfl⟩,⟨t',rfl⟩⟩:=qT r
 refine max_two_ints (I.ok.hd hc) fun h' tk k=>⟨_,H,I.kept k,?_,q⟩
 by_cases hj:j > i
 ·rw [if_pos hj,if_pos hj];exact ⟨_,rfl⟩
 ·rw [if_neg hj,if_neg hj];exact ⟨_,rfl⟩
theorem xD(hc:X.calm=true):ax X (.builtin "min") (fun xs H Q=>∃ i j,xs=[.int i,.int j]/\Q (.int (if j < i then j else i)) H):=by
 intro pins s σ H xs us Q I r h;obtain ⟨i,j,rfl,q⟩:=h;obtain ⟨u,w',rfl,⟨t,rfl⟩,⟨t',rfl⟩⟩:=qT r
 refine min_two_ints (I.ok.hd hc) fun h' tk k=>⟨_,H,I.kept k,?_,q⟩
 by_cases hj:j < i
 ·rw [if_pos hj,if_pos hj];exact ⟨_,rfl⟩
 ·rw [if_neg hj,if_neg hj];exact ⟨_,rfl⟩
theorem xN:ax X (.type "int") (fun xs H Q=>(∃ i,xs=[.int i]/\Q (.int i) H)\/∃ k,xs=[.bl k]/\Q (.int (if k then 1 else 0)) H):=by
 intro pins s σ H xs us Q I r h
 rcases h with ⟨i,rfl,q⟩ | ⟨k,rfl,q⟩
 ·obtain ⟨u,rfl,t,rfl⟩:=bC r
  exact call_int_int ⟨.int i,H,I,⟨_,rfl⟩,q⟩
 ·obtain ⟨u,rfl,r1⟩:=bC r
  cases r1;exact call_int_bool ⟨.int (if k then 1 else 0),H,I.tok _,⟨_,rfl⟩,q⟩
end
section
variable{prog:Program}{w:World}{A:Around}{E:Value->Shared->Prop}{s:Shared}{K:F2}{x dx C f:Addr}{mA:Str->Option Value}{name:Str}{v:Value}
end
theorem qP.some_of{v:V}{o:Option Value}(r:qP (some v) o):∃ u,o=some u/\aB v u:=by
 cases o with
 | none=>exact (show False from r).elim
 | some u=>exact ⟨u,rfl,r⟩
section
variable{P:Program}{w:World}{H H':Hp}{h h':Heap}{a C dx:Addr}{fs fs':List (Str×V)}
end
structure Cls(K:F2)(C:Addr):Prop where
 pg:PySem.W.plainGet K C Str.empty=true
 hd:PySem.W.hasDictIn K C=true
 po:PySem.W.plainOver K C=true
 sa:PySem.W.findIn K (.ref C) "__setattr__" = some (some (.builtin "object.__setattr__"))
section
variable{X:Cx}{pins:List (Addr×Obj)}{σ:St}{H:Hp}{s:Shared}{a C dx:Addr}{fs:List (Str×V)}{f:Str}{v:V}{A:Around}{E:Value->Shared->Prop}
end
section
variable{X:Cx}{o e value:Expr}{f:Str}{pos pos' tpos:Pos}{ta tv:TE}
end
section
variable{X:Cx}{pins:List (Addr×Obj)}{σ:St}{H:Hp}{s:Shared}{A:Around}{E:Value->Shared->Prop}{Q:Value->Shared->Prop}{c:Value}{b:Bool}
inductive nZ(K:F2)(H:Hp):V->Value->Prop where
 | non:nZ K H .non (.type "NoneType")
 | bl (x:Bool):nZ K H (.bl x) (.type "bool")
 | int (i:Int):nZ K H (.int i) (.type "int")
 | str (x:Str):nZ K H (.str x) (.type "str")
 | flt (x:UInt64):nZ K H (.flt x) (.type "float")
 | lst {a:Addr} {xs:List V} (e:H a=some (.lst xs)):nZ K H (.ref a) (.type "list")
 | frz {a:Addr} {o:Obj} {xs:List V} (e:H a=some (.frz o (.lst xs))):nZ K H (.ref a) (.type "list")
 | tup {a:Addr} {xs:List V} (e:H a=some (.tup xs)):nZ K H (.ref a) (.type "tuple")
 | dK {a:Addr} {kvs:List (Key×V)} (e:H a=some (.dK kvs)):nZ K H (.ref a) (.type "dict")
 | dT {a:Addr} {kvs:List (List Key×V)} (e:H a=some (.dT kvs)):nZ K H (.ref a) (.type "dict")
 | ins {a C dx:Addr} {fs:List (Str×V)} (e:H a=some (.ins C dx fs)) (cl:Cls K C) (ha:PySem.W.findIn K (.ref C) "__class__" = some (some (.builtin "object.__class__")))
  (hn:PySem.W.specialIn K (.builtin "object.__class__") "__get__" = some (some (.builtin "getset_descriptor.__get__"))) (htk:PySem.W.takesIn K (.builtin "object.__class__")=some true)
  (hm:PySem.W.mroIn K C (.type "object")=some true):nZ K H (.ref a) (.ref C)
end
structure cV(k:Nat)(A:Around):Prop where
 hd:A.handled=none
 dp:A.depth+3 * k+5 < recursionLimit
 un:A.units+16 * k+200 < cLine
 gd:A.guards=some []:=by rfl
theorem cV.mono{j k:Nat}{A:Around}(r:cV k A)(h:j<=k):cV j A:=⟨r.hd,by have:=r.dp;omega,by have:=r.un;omega,r.gd⟩
theorem cV.deeper{k:Nat}{A:Around}(r:cV (k+1) A)(env:Env):cV k (A.deeper env) :=
 ⟨r.hd,by have:=r.dp;show A.depth+1+3 * k+5 < _;omega,by have:=r.un;show A.units+3+16 * k+200 < _;omega,r.gd⟩
theorem cV.depth{k:Nat}{A:Around}(r:cV k A):A.depth < recursionLimit:=by have:=r.dp;omega
theorem cV.units{k:Nat}{A:Around}(r:cV k A):A.units+64 < cLine:=by have:=r.un;omega
def tNil:TA:=fun _ H Q=>Q [] H
def CL(ta:TE)(tr:TA):TA:=fun σ H Q=>ta σ H fun x H1=>tr σ H1 fun xs H2=>Q (x::xs) H2
section
variable{X:Cx}{e:Expr}{es:List Expr}{te:TE}{t:TA}{pos:Pos}
theorem fA:PA X [] tNil:=fun _ _ _ _ H Q I h=>Calls.spliced_nil ⟨[],H,I,.nil,h⟩
theorem dw(ha:PE X e te)(hr:PA X es t)(hs:starEach (e::es) X.env=(false,eval e X.env)::starEach es X.env:=by rfl):PA X (e::es) (CL te t):=by
 intro pos pins s σ H Q I h;rw [hs]
 show wpAny _ _ (spliced ((false,eval e X.env)::backTo pos (starEach es X.env))) _ _ s
 refine Calls.spliced_cons (thn (ha pins s σ H _ I h) fun u s1 ⟨x,H1,I1,r1,q1⟩=> ?_)
 exact thn (hr pos pins s1 σ H1 _ I1 q1) fun us s2 ⟨xs,H2,I2,r2,q2⟩=>⟨x::xs,H2,I2,.cons r1 r2,q2⟩
noncomputable def tTup(t:TA):TE:=fun σ H Q=>t σ H fun xs H1=>xs.length<=sizeLine/\∀ p,H1 p=none->Q (.ref p) (upd H1 p (.tup xs))
noncomputable def tLst(t:TA):TE:=fun σ H Q=>t σ H fun xs H1=>xs.length<=sizeLine/\∀ p,H1 p=none->Q (.ref p) (upd H1 p (.lst xs))
theorem pe_tup{x1}(h:PA X es t):PE X (.Tuple es x1 pos) (tTup t):=by
 intro pins s σ H Q I hq;refine wpAny_Tuple_spliced (thn (h pos pins s σ H _ I hq) fun us s1 ⟨xs,H1,I1,r,z,q⟩=>⟨by rw [<- r.length];exact z,?_⟩);have hf:H1 s1.heap.objs.size=none:=I1.hok.fresh (DE _);refine ⟨.ref s1.heap.objs.size,upd H1 s1.heap.objs.size (.tup xs),I1.laid (t':=s1.toks) (fun b u e=>Dm _ e) (DE _) ?_,rfl,q _ hf⟩;exact ⟨z,us,r,tU.new _ _⟩
theorem yU(h:PA X es t):PE X (.List es pos) (tLst t):=by
 intro pins s σ H Q I hq;refine wpAny_List_spliced (thn (h pos pins s σ H _ I hq) fun us s1 ⟨xs,H1,I1,r,z,q⟩=>⟨by rw [<- r.length];exact z,?_⟩);have hf:H1 s1.heap.objs.size=none:=I1.hok.fresh (DE _);refine ⟨.ref s1.heap.objs.size,upd H1 s1.heap.objs.size (.lst xs),I1.laid (t':=s1.toks) (fun b u e=>Dm _ e) (DE _) ?_,rfl,q _ hf⟩;exact ⟨z,us,0,r,Dw _ rfl⟩
end
abbrev Sp:=List V->Hp->VK->XK->Prop
abbrev CXT:=List Env->Hp->Shared->XK->Value->Shared->Prop
structure CD(P:Program)(w:World)(K:F2)(mg:Str->Option Value)(base:Heap)(A:Around)(outer:List Env)(s:Shared)(H:Hp):Prop where
 frames:A.frames=some outer
 mod:Mod K mg base
 bs:∀ b o,base.get? b=some o->s.heap.get? b=some o/\H b=none
 bsz:base.objs.size<=s.heap.objs.size
 funs:s.heap.FunFrames base outer
 frf:∀ b∈frs outer,H b=none
 hok:HOk P w H s.heap
 bare:AllBare s.gens
noncomputable def CE(outer:List Env)(P:Program)(w:World)(H:Hp)(s:Shared)(Q:VK)(u:Value)(s':Shared):Prop :=
 ∃ v H',s'.os=s.os/\AllBare s'.gens/\Un (frs outer) [] H H' s.heap s'.heap/\HOk P w H' s'.heap/\aB v u/\Q v H'
noncomputable def CR(CX:CXT)(outer:List Env)(P:Program)(w:World)(H:Hp)(s:Shared)(Q:VK)(E:XK)(r:Result)(s':Shared):Prop :=
 match r with
 | .ok (.ret u)=>CE outer P w H s Q u s'
 | .ok _=>False
 | .error e=>CX outer H s E e s'
structure kF(P:Program)(w:World)(K:F2)(mg:Str->Option Value)(base:Heap)(CX:CXT)(k:Nat)(f:Addr)(fd:FuncData)(ps:List Str)(sp:Sp):Prop where
 len:∀ vs H Q E,sp vs H Q E->vs.length=ps.length
 run:∀ (A:Around) (outer:List Env) (s:Shared) (H:Hp) (args:Args) (us:List Value) (vs:List V) (Q:VK) (E:XK),cV k A->CD P w K mg base A outer s H->BindsTo s fd args (ps.zip us)->aw vs us->sp vs H Q E ->
  codeAny (model P w) A (.call (.ref f) args) (CR CX outer P w H s Q E) s
section
variable{X:Cx}{pins:List (Addr×Obj)}{σ:St}{H:Hp}{s s':Shared}
theorem Inv.env0(I:Inv X pins σ H s):CD X.prog X.w X.K X.mg X.base X.A X.stack s H :=
 ⟨I.ok.frames,I.ok.mod,I.bs,Ep I.ok.bsz I.sz,I.stack,I.stkFree,I.hok,I.bare⟩
theorem Inv.after{Q:VK}{u:Value}(I:Inv X pins σ H s)(h:CE X.stack X.prog X.w H s Q u s'):EP X pins σ Q u s':=by
 obtain ⟨v,H',os,bare,un,hok,r,q⟩:=h;obtain ⟨hh,g,d,t,os'⟩:=s';obtain rfl:os'=s.os:=os;exact ⟨v,H',I.call (h':=hh) (g':=g) (d':=d) (t':=t) (ch:=[]) un hok bare (fun b z=>absurd z (by simp)),r,q⟩
end
def yg(sp:Sp)(dvs:List V)(E:XK)(t:TA):TE:=fun σ H Q=>t σ H fun vs H1=>sp (vs++dvs) H1 Q E
noncomputable def lE(K:F2)(fd:FuncData)(ps:List Str)(ds:List Value):Prop :=
 ∀ (s:Shared) (us:List Value),K.In s.heap->(us++ds).length=ps.length->BindsTo s fd ⟨us,[]⟩ (ps.zip (us++ds))
theorem lE.all{K:F2}{fd:FuncData}{ps:List Str}(h:∀ us:List Value,us.length=ps.length->bindArgs fd ⟨us,[]⟩=pure (ps.zip us)):lE K fd ps []:=fun s us _ hl=>by
 rw [Ec] at hl ⊢;exact .of_eq (h us hl)
noncomputable def vh(CX:CXT)(X:Cx)(E:XK):Prop:=∀ (pins:List (Addr×Obj)) (σ:St) (H:Hp) (s:Shared) (e:Value) (s':Shared),Inv X pins σ H s->CX X.stack H s E e s'->X.xe e s'
section
variable{X:Cx}{CX:CXT}{k:Nat}{f C:Addr}{fd:FuncData}{ps:List Str}{sp:Sp}{dvs:List V}{ds:List Value}{E:XK}{x m:Str}{p pos apos:Pos}{e o:Expr}{es:List Expr}{ta:TE}{t:TA}
theorem run_fn{pins:List (Addr×Obj)}{σ:St}{H:Hp}{s:Shared}{Q:VK}{us:List Value}{vs:List V}(F:kF X.prog X.w X.K X.mg X.base CX k f fd ps sp)(hr:cV k X.A)(hb:lE X.K fd ps ds)(hd:aw dvs ds)(hx:vh CX X E)
 (I:Inv X pins σ H s) (r:aw vs us) (h:sp (vs++dvs) H Q E):wpAny (model X.prog X.w) X.A (call (.ref f) us) (EP X pins σ Q) X.xe s:=by
 have r2:aw (vs++dvs) (us++ds):=r.append hd
 have hl:(us++ds).length=ps.length:=by rw [<- r2.length];exact F.len _ _ _ _ h
 refine wpAny_call (codeAny_mono (F.run X.A X.stack s H ⟨us,[]⟩ (us++ds) (vs++dvs) Q E hr I.env0 (hb s us I.kIn hl) r2 h) fun r s' hq=> ?_)
 cases r with
 | error e=>exact hx pins σ H s e s' I hq
 | ok fl =>
  cases fl with
  | ret u=>exact I.after hq
  | next=>exact False.elim hq
  | brk=>exact False.elim hq
  | cont=>exact False.elim hq
theorem vL(F:kF X.prog X.w X.K X.mg X.base CX k f fd ps sp)(hr:cV k X.A)(hg:Gl X x)(hm:X.mg x=some (.ref f))(hk:PySem.W.keepIn X.K (.ref f)=true)(hb:lE X.K fd ps ds)(hd:aw dvs ds)(hx:vh CX X E)
 (ha:PA X (e::es) t) (hdb:(x == ("__debug__" : Str))=false:=by decide) (he:starEach (e::es) X.env=(false,eval e X.env)::starEach es X.env:=by rfl) (hpl:(backTo pos (starEach es X.env)).any (·.1)=false:=by rfl) :
 PE X (.Call (.Name x p) (e::es) [] pos) (yg sp dvs E t):=by
 intro pins s σ H Q I h;refine wpAny_Call_Name_kw (qp I hg hm ?_ hdb);refine PySem.W.callWith_K (h₀:=X.base) I.ok.mod.kin hk (thn (ha pos pins s σ H _ I h) fun us s1 ⟨vs,H1,I1,r,q⟩=>⟨I1.kIn,?_⟩) he hpl;exact run_fn F hr hb hd hx I1 r q
end
section
variable{X:Cx}{CX:CXT}{k:Nat}{f C:Addr}{fd:FuncData}{ps ks:List Str}{sp:Sp}{E:XK}{x m:Str}{p pos apos kpos:Pos}{e o:Expr}{es:List Expr}{kws:List Keyword}{te ta:TE}{t tk:TA}{nm:Option Str}
variable{g:List Value->List Value->List Value}{gV:List V->List V->List V}
end
structure cW(N P:List Str)(sc:Scope):Prop where
 kind:sc.kind = .function
 co:sc.isCoroutine=false
 gen:sc.isGenerator=false
 nd:N.Nodup
 pre:N.take P.length=P
 par:∀ x∈P,sc.names.lookup x=some .local\/sc.names.lookup x=some .cell
 nofree:∀ y∈sc.names,y.2 ≠ .free
theorem pB{kindOf:Str->Option NameKind}{x:Str}:∀ {binds:List (Str×Value)} {m:Str->Option Value},(∀ v,(x,v)∉binds)->bindL kindOf binds m x=m x
 | [],_,_=>rfl
 | (n,v)::r,m,h=>by
  unfold bindL;rw [pB fun w hw=>h w (Dv _ hw)]
  split
  ·have:x≠n:=by rintro rfl;exact h v DC
   simp [this]
  ·rfl
theorem pF{kindOf:Str->Option NameKind}{x:Str}:∀ {binds:List (Str×Value)} {m:Str->Option Value},(∀ v,(x,v)∉binds)->bindC kindOf binds m x=m x
 | [],_,_=>rfl
 | (n,v)::r,m,h=>by
  unfold bindC;rw [pF fun w hw=>h w (Dv _ hw)]
  split
  ·rfl
  ·have:x≠n:=by rintro rfl;exact h v DC
   simp [this]
theorem pC{kindOf:Str->Option NameKind}{x:Str}{v:Value}:∀ {P:List Str} {vs:List Value} {i:Nat} {m:Str->Option Value},P.Nodup->P[i]?=some x->vs[i]?=some v->kindOf x=some .local ->
 bindL kindOf (P.zip vs) m x=some v
 | [],_,_,_,_,h,_,_=>by simp at h
 | _::_,[],_,_,_,_,h,_=>by simp at h
 | p::P,w::vs,0,m,nd,h1,h2,hk=>by
  simp at h1 h2;subst h1;subst h2
  show bindL kindOf ((p,w)::P.zip vs) m p=_
  unfold bindL;rw [pB fun v hv=>(En.mp nd).1 (List.of_mem_zip hv).1,if_pos hk];simp
 | p::P,w::vs,i+1,m,nd,h1,h2,hk=>by
  show bindL kindOf ((p,w)::P.zip vs) m x=_
  unfold bindL;exact pC (i:=i) (En.mp nd).2 (by simpa using h1) (by simpa using h2) hk
theorem pH{kindOf:Str->Option NameKind}{x:Str}{v:Value}:∀ {P:List Str} {vs:List Value} {i:Nat} {m:Str->Option Value},P.Nodup->P[i]?=some x->vs[i]?=some v->kindOf x≠some .local ->
 bindC kindOf (P.zip vs) m x=some v
 | [],_,_,_,_,h,_,_=>by simp at h
 | _::_,[],_,_,_,_,h,_=>by simp at h
 | p::P,w::vs,0,m,nd,h1,h2,hk=>by
  simp at h1 h2;subst h1;subst h2
  show bindC kindOf ((p,w)::P.zip vs) m p=_
  unfold bindC;rw [pF fun v hv=>(En.mp nd).1 (List.of_mem_zip hv).1,if_neg hk];simp
 | p::P,w::vs,i+1,m,nd,h1,h2,hk=>by
  show bindC kindOf ((p,w)::P.zip vs) m x=_
  unfold bindC;exact pH (i:=i) (En.mp nd).2 (by simpa using h1) (by simpa using h2) hk
def eB(N:List Str)(vs:List V):St:=vs.map some++List.replicate (N.length - vs.length) none
noncomputable def bZ(CX:CXT)(P:Program)(w:World)(K:F2)(mg:Str->Option Value)(base:Heap)(N:List Str)(qual:Str)(scope:Scope)(f:Addr)(cd:Value)(A:Around)(outer:List Env)(s:Shared)(H:Hp)(E:XK):Cx where
 prog:=P
 w:=w
 K:=K
 mg:=mg
 base:=base
 A:=A.deeper (envOfC qual scope s.heap.objs.size f cd)
 N:=N
 s₀:=s
 H₀:=H
 env:=envOfC qual scope s.heap.objs.size f cd
 outer:=outer
 stack:=envOfC qual scope s.heap.objs.size f cd::outer
 ex:=[]
 calm:=true
 fn:=fun _=>true
 pn:=[]
 xe:=fun e s'=>wpAny (model P w) (A.deeper (envOfC qual scope s.heap.objs.size f cd)) (leaving (envOfC qual scope s.heap.objs.size f cd) e) (fun _ s''=>CX outer H s E e s'') (fun e' s''=>CX outer H s E e' s'') s'
theorem tH{sc:Scope}{n:Nat}{x:Str}(h:sc.names.lookup x=some .cell):∃ c,(cellsFrom n sc.names []).lookup x=some c:=by
 have q:=PySem.W.cellsFrom_some sc.names n [] (.inl h);exact Option.isSome_iff_exists.mp q
theorem xa{CX:CXT}{P:Program}{w:World}{K:F2}{mg:Str->Option Value}{base:Heap}{N ps:List Str}{qual:Str}{scope:Scope}{f:Addr}{cd:Value}{A:Around}{outer:List Env}{s s1:Shared}{H:Hp}{E:XK}{us:List Value}{vs:List V}
 (S:cW N ps scope) (hd:A.handled=none) (e0:CD P w K mg base A outer s H) (hl:vs.length=ps.length) (r:aw vs us)
 (x:InCallC s s.heap.objs.size (bindL (envOfC qual scope s.heap.objs.size f cd).kindOf (ps.zip us) fun _=>none) (cellsFrom (s.heap.objs.size+1) scope.names []) (bindC (envOfC qual scope s.heap.objs.size f cd).kindOf (ps.zip us) fun _=>none) s1) :
 Inv (bZ CX P w K mg base N qual scope f cd A outer s H E) [] (eB N vs) H s1:=by
 have hpl:ps.length<=N.length:=by have:=congrArg List.length S.pre;rw [EY] at this;omega
 obtain ⟨h1,tk,rfl,hk⟩:=x.done
 have noA:∀ b:Addr,b∉(bZ CX P w K mg base N qual scope f cd A outer s H E).ex:=fun b z=>absurd (show b∈([]:List Addr) from z) (by simp)
 refine ⟨⟨e0.mod,S.kind,rfl,rfl,DE _,fun y z c h1 h2=> ?_,fun y hy=> ?_,fun y c _ h=> ?_,fun _=>hd,Around.frames_deeper e0.frames,.inr ⟨rfl,rfl⟩,fun b z=>absurd z (noA b),e0.bs,e0.bsz,fun b _ _=>noA b,fun b z=>absurd z (noA b),e0.funs,e0.frf⟩,
  rfl,e0.bare,Un.kept hk,⟨_,x.toInCall.ns,fun i y v h1 h2 h3=> ?_⟩,fun y c h=>⟨_,x.cell y c h⟩,e0.hok.fresh (DE _),fun y c h=> ?_,fun p hp=>absurd (show p∈([]:List (Addr×Obj)) from hp) (by simp),e0.hok.kept hk,?_⟩
 ·exact name_of_addr x.apart (Eh h1) (Eh h2)
 ·have hy:scope.names.lookup y=some .cell\/scope.names.lookup y=some .free:=hy
  rcases hy with hy | hy
  ·exact tH hy
  ·exact absurd rfl (S.nofree _ (Eh hy))
 ·exact E9 (x.above y c (Eh h))
 ·have hi:i < vs.length:=by
   unfold eB at h2
   by_cases hi:i < vs.length
   ·exact hi
   ·rw [Eb (by simpa using hi)] at h2
    rw [ES] at h2
    split at h2<;>cases h2
  have ha:vs[i]?=some v:=by
   unfold eB at h2;rw [DN (by simpa using hi),DL] at h2
   cases e:vs[i]? with
   | none=>rw [e] at h2;cases h2
   | some a=>rw [e] at h2;cases h2;rfl
  obtain ⟨u,hu,rv⟩:=r.get ha
  have hp:ps[i]?=some y:=by
   rw [<- S.pre,List.getElem?_take_of_lt (by omega)];exact h1
  have ndP:ps.Nodup:=by rw [<- S.pre];exact S.nd.sublist (List.take_sublist _ _)
  refine ⟨u,rv,?_⟩
  rcases S.par y (DF hp) with k | k
  ·exact .inl ⟨k,pC ndP hp hu k⟩
  ·obtain ⟨c,e⟩:=tH (n:=s.heap.objs.size+1) k
   refine .inr ⟨.inl k,c,e,?_⟩;have q:=x.cell y c e;rw [pH ndP hp hu (by show scope.names.lookup y≠_;rw [k];decide)] at q;exact q
 ·exact e0.hok.fresh (E9 (x.above y c (Eh h)))
 ·unfold eB
  show _=N.length
  rw [DD,Dp,Er];omega
theorem Ac{CX:CXT}{P:Program}{w:World}{K:F2}{mg:Str->Option Value}{base:Heap}{k:Nat}{f:Addr}{name qual:Str}{params:Arguments}{body:List Stmt}{scope:Scope}{dV kV doc pm cdv ct oc:Value}{an od:Option Addr}
 {osl:Array (Option Value)} {N ps:List Str} {sp:Sp} (lk:K.lookup f=some ⟨oc,od,.func (PySem.W.fnOf name qual params body scope dV kV doc pm an cdv ct),osl⟩) (hcd:PySem.W.codeIn K cdv qual=true) (S:cW N ps scope)
 (len:∀ vs H Q E,sp vs H Q E->vs.length=ps.length)
 (hbody:∀ (A:Around) (outer:List Env) (s:Shared) (H:Hp) (vs:List V) (Q:VK) (E:XK),cV k (A.deeper (envOfC qual scope s.heap.objs.size f cdv))->sp vs H Q E ->
   ∃ t,PSs (bZ CX P w K mg base N qual scope f cdv A outer s H E) body t/\t { nx:=fun _ H'=>Q .non H',rt:=Q } (eB N vs) H) :
 kF P w K mg base CX (k+1) f (PySem.W.fnOf name qual params body scope dV kV doc pm an cdv ct) ps sp:=by
 refine ⟨len,fun A outer s H args us vs Q E hr e0 hb r hsp=> ?_⟩;have hl:=len _ _ _ _ hsp
 have KX:K.In s.heap:=e0.mod.kin.keeps fun b o e=>(e0.bs b o e).1
 have lim:s.heap.NoLimit:=e0.mod.nolimit.keeps fun b o e=>(e0.bs b o e).1
 have hkind:∀ y∈ps.zip us,scope.names.lookup y.1=some .local\/(scope.names.lookup y.1=some .cell/\((cellsFrom (s.heap.objs.size+1) scope.names []).lookup y.1).isSome=true):=fun ⟨n,v⟩ hy=>by
  rcases S.par n (List.of_mem_zip hy).1 with q | q
  ·exact .inl q
  ·exact .inr ⟨q,PySem.W.cellsFrom_some _ _ _ (.inl q)⟩
 refine codeAny_call_function hr.depth (KX _ _ lk) rfl S.co S.gen rfl (PySem.W.codeRec_of KX hcd) (hb _ _ _ _ ?_)
 refine wpAny_newFunctionEnv_cells S.kind hkind fun env he s1 x=> ?_
 subst he;refine ⟨lim.keeps x.toInCall.keep,codeAny_func ?_⟩;obtain ⟨t,ht,hq⟩:=hbody A outer s H vs Q E (hr.deeper _) hsp;have I:Inv (bZ CX P w K mg base N qual scope f cdv A outer s H E) [] (eB N vs) H s1:=xa S hr.hd e0 hl r x
 refine EQ (ht [] s1 (eB N vs) H _ I hq) (fun fl s' hs=> ?_) fun e s' hs=>hs
 have fin:∀ {σ':St} {H':Hp} {v:V} {u:Value},Inv (bZ CX P w K mg base N qual scope f cdv A outer s H E) [] σ' H' s'->aB v u->Q v H'->CE outer P w H s Q u s' :=
  fun {σ' H' v u} J rv q=>⟨v,H',J.os,J.bare,J.base,J.hok,rv,q⟩
 cases fl with
 | ret u =>
  obtain ⟨v,σ',H',J,rv,q⟩:=hs;exact fin J rv q
 | next =>
  obtain ⟨σ',H',J,q⟩:=hs;exact fin (v:=V.non) (u:=Value.none) J rfl q
 | brk =>
  obtain ⟨_,_,_,q⟩:=hs;exact False.elim q
 | cont =>
  obtain ⟨_,_,_,q⟩:=hs;exact False.elim q
section
variable{X:Cx}{x:Str}{p pos:Pos}{e:Expr}{es:List Expr}{t:TA}{id T:String}{r:List V->Hp->VK->Prop}
def tCB(r:List V->Hp->VK->Prop)(t:TA):TE:=fun σ H Q=>t σ H fun vs H1=>r vs H1 Q
theorem rT(hc:ax X (.builtin id) r)(hg:Gl X x)(hm:X.mg x=none)(hv:bootBuiltins x=some (.builtin id))(ha:PA X (e::es) t)(hn:x ≠ "__name__" := by decide)(hdb:(x == ("__debug__" : Str))=false:=by decide)
 (he:starEach (e::es) X.env=(false,eval e X.env)::starEach es X.env:=by rfl) (hpl:(backTo pos (starEach es X.env)).any (·.1)=false:=by rfl):PE X (.Call (.Name x p) (e::es) [] pos) (tCB r t):=by
 intro pins s σ H Q I h;refine wpAny_Call_Name_kw (ja I hg hm hv ?_ hn hdb);exact PyProof.Rows.callWith_builtin1 (thn (ha pos pins s σ H _ I h) fun us s1 ⟨vs,H1,I1,r1,q1⟩=>hc pins s1 σ H1 vs us Q I1 r1 q1) he hpl
theorem wI(hc:ax X (.type T) r)(hg:Gl X x)(hm:X.mg x=none)(hv:bootBuiltins x=some (.type T))(ha:PA X (e::es) t)(hn:x ≠ "__name__" := by decide)(hdb:(x == ("__debug__" : Str))=false:=by decide)
 (he:starEach (e::es) X.env=(false,eval e X.env)::starEach es X.env:=by rfl) (hpl:(backTo pos (starEach es X.env)).any (·.1)=false:=by rfl):PE X (.Call (.Name x p) (e::es) [] pos) (tCB r t):=by
 intro pins s σ H Q I h;refine wpAny_Call_Name_kw (ja I hg hm hv ?_ hn hdb);exact PyProof.Rows.callWith_type1 (thn (ha pos pins s σ H _ I h) fun us s1 ⟨vs,H1,I1,r1,q1⟩=>hc pins s1 σ H1 vs us Q I1 r1 q1) he hpl
end
section
variable{κ:Type}[DecidableEq κ]
def eA(kvs:List (κ×V))(k:κ):Option V:=(kvs.find? fun kv=>decide (kv.1=k)).map (·.2)
noncomputable def i0(kvs:List (κ×V))(k:κ)(v:V):List (κ×V) :=
 if (kvs.any fun kv=>decide (kv.1=k))=true then kvs.map (fun kv=>if kv.1=k then (kv.1,v) else kv) else kvs++[(k,v)]
theorem jl{p:κ×V}{r:List (κ×V)}{k:κ}(e:p.1=k):eA (p::r) k=some p.2:=by simp [eA,FA,e]
theorem jm{p:κ×V}{r:List (κ×V)}{k:κ}(e:¬ p.1=k):eA (p::r) k=eA r k:=by simp [eA,FA,e]
theorem qU(k:κ):∀ kvs:List (κ×V),(kvs.any fun kv=>decide (kv.1=k))=(eA kvs k).isSome
 | []=>rfl
 | p::r=>by
  rw [List.any_cons]
  by_cases e:p.1=k
  ·simp only [jl e,Dy e,FL,Option.isSome_some]
  ·rw [jm e,DS e,FF];exact qU k r
theorem kW(kvs:List (κ×V))(k:κ)(v:V):(i0 kvs k v).length<=kvs.length+1:=by
 unfold i0
 split
 ·rw [Dp];omega
 ·rw [DD,Dq,EK];omega
theorem qP.isSome_eq{o:Option V}{u:Option Value}(r:qP o u):o.isSome=u.isSome:=by
 cases o with
 | none=>cases u with
  | none=>rfl
  | some _=>exact (show False from r).elim
 | some _=>cases u with
  | none=>exact (show False from r).elim
  | some _=>rfl
theorem KV.val{kvs:List (κ×V)}{vs:List (κ×Value)}(r:KV kvs vs)(k:κ):qP (eA kvs k) (valueAt vs k):=by
 unfold KV at r
 induction r with
 | nil=>exact True.intro
 | @cons p q ps qs h t ih =>
  obtain ⟨h1,h2⟩:=h
  by_cases e:p.1=k
  ·have e':q.1=k:=h1.symm.trans e
   have b:valueAt (q::qs) k=some q.2:=by simp [valueAt,FA,e']
   rw [jl e,b];exact h2
  ·have e':¬ q.1=k:=fun z=>e (h1.trans z)
   have b:valueAt (q::qs) k=valueAt qs k:=by simp [valueAt,FA,e']
   rw [jm e,b];exact ih
theorem KV.any{kvs:List (κ×V)}{vs:List (κ×Value)}(r:KV kvs vs)(k:κ):(kvs.any fun kv=>decide (kv.1=k))=vs.any fun kv=>decide (kv.1=k):=by
 unfold KV at r
 induction r with
 | nil=>rfl
 | cons h t ih=>rw [List.any_cons,List.any_cons,ih,h.1]
theorem KV.repl{kvs:List (κ×V)}{vs:List (κ×Value)}(r:KV kvs vs)(k:κ){y:V}{u:Value}(ry:aB y u) :
 KV (kvs.map fun kv=>if kv.1=k then (kv.1,y) else kv) (vs.map fun kv=>if kv.1=k then (kv.1,u) else kv):=by
 unfold KV at r ⊢
 induction r with
 | nil=>exact .nil
 | @cons p q ps qs h t ih =>
  rw [DJ,DJ];refine .cons ?_ ih;obtain ⟨h1,h2⟩:=h
  by_cases e:p.1=k
  ·rw [if_pos e,if_pos (h1.symm.trans e)];exact ⟨h1,ry⟩
  ·rw [if_neg e,if_neg (fun z=>e (h1.trans z))];exact ⟨h1,h2⟩
theorem KV.put{kvs:List (κ×V)}{vs:List (κ×Value)}(r:KV kvs vs)(k:κ){y:V}{u:Value}(ry:aB y u):KV (i0 kvs k y) (stored vs k u):=by
 unfold i0 stored;rw [r.any k]
 by_cases e:(vs.any fun kv=>decide (kv.1=k))=true
 ·rw [if_pos e,if_pos e];exact r.repl k ry
 ·rw [if_neg e,if_neg e];exact Paired.snoc r ⟨rfl,ry⟩
theorem KV.length{kvs:List (κ×V)}{vs:List (κ×Value)}(r:KV kvs vs):kvs.length=vs.length:=Paired.length r
end
theorem o8{P:Program}{w:World}{k:Key}{u:Value}(r:aB (kV k) u):(aW P w).is k u=true:=by
 cases k with
 | inl i=>obtain ⟨t,e⟩:=(show ∃ t,u=Value.int i t from r);subst e;exact sw P w i t
 | inr x=>obtain ⟨t,e⟩:=(show ∃ t,u=Value.str x t from r);subst e;exact fb P w x t
theorem o9{P:Program}{w:World}:∀ {ks:List Key} {us:List Value},aw (ks.map kV) us->ItemsAre (aW P w) ks us
 | [],_,r=>by rw [Fa] at r;cases r;exact .nil
 | k::ks,_,r=>by
  rw [DJ] at r
  cases r with
  | cons h t=>exact .cons (o8 h) (o9 t)
abbrev KT(H:Hp):List (List Key×V)->List (List Key×Addr×Value)->Prop:=Paired fun p q=>p.1=q.1/\H q.2.1=some (.tup (p.1.map kV))/\aB p.2 q.2.2
theorem KT.val{H:Hp}{kvs:List (List Key×V)}{xs:List (List Key×Addr×Value)}(r:KT H kvs xs)(k:List Key):qP (eA kvs k) ((atKey xs k).map (·.2)):=by
 induction r with
 | nil=>exact True.intro
 | @cons p q ps qs h t ih =>
  obtain ⟨h1,_,h2⟩:=h
  by_cases e:p.1=k
  ·have e':q.1=k:=h1.symm.trans e
   have b:atKey (q::qs) k=some q.2:=by simp [atKey,FA,e']
   rw [jl e,b];exact h2
  ·have e':¬ q.1=k:=fun z=>e (h1.trans z)
   have b:atKey (q::qs) k=atKey qs k:=by simp [atKey,FA,e']
   rw [jm e,b];exact ih
theorem KT.repl{H:Hp}{kvs:List (List Key×V)}{xs:List (List Key×Addr×Value)}(r:KT H kvs xs)(k:List Key){y:V}{u:Value}(ry:aB y u) :
 KT H (kvs.map fun kv=>if kv.1=k then (kv.1,y) else kv) (xs.map (putAt k u)):=by
 induction r with
 | nil=>exact .nil
 | @cons p q ps qs h t ih =>
  rw [DJ,DJ];refine .cons ?_ ih;obtain ⟨h1,h2,h3⟩:=h;unfold putAt
  by_cases e:p.1=k
  ·rw [if_pos e,if_pos (h1.symm.trans e)];exact ⟨h1,h2,ry⟩
  ·rw [if_neg e,if_neg (fun z=>e (h1.trans z))];exact ⟨h1,h2,h3⟩
theorem KT.put{H:Hp}{kvs:List (List Key×V)}{xs:List (List Key×Addr×Value)}(r:KT H kvs xs)(k:List Key){b:Addr}{y:V}{u:Value}(hb:H b=some (.tup (k.map kV)))(ry:aB y u) :
 KT H (i0 kvs k y) (storedH xs k b u):=by
 have e:(kvs.any fun kv=>decide (kv.1=k))=(atKey xs k).isSome:=by
  rw [qU,(r.val k).isSome_eq,Option.isSome_map]
 unfold i0 storedH;rw [e]
 by_cases q:(atKey xs k).isSome=true
 ·rw [if_pos q,if_pos q];exact r.repl k ry
 ·rw [if_neg q,if_neg q];exact Paired.snoc r ⟨rfl,hb,ry⟩
theorem KT.keeps{H H':Hp}{kvs:List (List Key×V)}{xs:List (List Key×Addr×Value)}(r:KT H kvs xs)(ht:∀ b ys,H b=some (.tup ys)->H' b=some (.tup ys)):KT H' kvs xs :=
 Paired.mapP r fun _ _ z=>⟨z.1,ht _ _ z.2.1,z.2.2⟩
section
variable{P:Program}{w:World}{H:Hp}{h:Heap}{a:Addr}
theorem CQ{u:HO}(ok:HOk P w H h)(e:Rd H a u):bt P w H h a u:=e.ok ok
theorem Ao{kvs:List (Key×V)}(ok:HOk P w H h)(e:Rd H a (.dK kvs)):kvs.length<=sizeLine/\(a == sysModules)=false/\∃ vs,KV kvs vs/\h.DictOf (aW P w) a vs :=
 show bt P w H h a (.dK kvs) from CQ ok e
theorem dk_of{kvs:List (Key×V)}(ok:HOk P w H h)(e:H a=some (.dK kvs)):kvs.length<=sizeLine/\(a == sysModules)=false/\∃ vs,KV kvs vs/\h.DictOf (aW P w) a vs:=Ao ok (.inl e)
theorem uz{ks:List Key}(ok:HOk P w H h)(e:H a=some (.tup (ks.map kV))):(tupleKind (aW P w)).is h ks a:=by
 obtain ⟨_,its,r,⟨o,h1,h2,n,h3⟩,_⟩:=(show bt P w H h a (.tup (ks.map kV)) from ok a _ e);exact ⟨o,its.toArray,n,h1,h2,h3,by simpa using o9 r⟩
theorem De{kvs:List (List Key×V)}(ok:HOk P w H h)(e:Rd H a (.dT kvs)):kvs.length<=sizeLine/\(a == sysModules)=false /\
 ∃ xs,KT H kvs xs/\h.DictOfH (tupleKind (aW P w)) a xs:=by
 obtain ⟨z,y,xs,r,o,es,ep,h1,h2,h3,h4,h5⟩:=(show bt P w H h a (.dT kvs) from CQ ok e);refine ⟨z,y,xs,r,o,es,ep,h1,h2,h3,h4,fun x hx=> ?_,h5⟩
 have all:∀ {l:List (List Key×V)} {m:List (List Key×Addr×Value)},KT H l m->∀ x∈m,(tupleKind (aW P w)).is h x.1 x.2.1:=by
  intro l m q
  induction q with
  | nil=>intro x hx;exact nomatch hx
  | @cons p q ps qs hq t ih =>
   intro x hx
   rcases Dx.mp hx with e | hx
   ·subst e
    exact uz ok (by rw [<- hq.1];exact hq.2.1)
   ·exact ih x hx
 exact all r x hx
theorem dt_of{kvs:List (List Key×V)}(ok:HOk P w H h)(e:H a=some (.dT kvs)):kvs.length<=sizeLine/\(a == sysModules)=false /\
 ∃ xs,KT H kvs xs/\h.DictOfH (tupleKind (aW P w)) a xs:=De ok (.inl e)
end
noncomputable def oI(H:Hp)(a:Addr)(y:V)(r:Option V):Prop :=
 (∃ kvs k,Rd H a (.dK kvs)/\y=kV k/\r=eA kvs k)\/∃ kvs k b,Rd H a (.dT kvs)/\y = .ref b/\H b=some (.tup (k.map kV))/\r=eA kvs k
noncomputable def qR(H:Hp)(a:Addr)(y v:V)(H':Hp):Prop :=
 (∃ kvs k,H a=some (.dK kvs)/\y=kV k/\kvs.length < sizeLine/\H'=upd H a (.dK (i0 kvs k v))) \/
 ∃ kvs k b,H a=some (.dT kvs)/\y = .ref b/\H b=some (.tup (k.map kV))/\kvs.length < sizeLine/\H'=upd H a (.dT (i0 kvs k v))
theorem oI.k{H:Hp}{a:Addr}{kvs:List (Key×V)}{k:Key}(e:H a=some (.dK kvs)):oI H a (kV k) (eA kvs k):= .inl ⟨kvs,k,.inl e,rfl,rfl⟩
theorem oI.t{H:Hp}{a b:Addr}{kvs:List (List Key×V)}{k:List Key}(e:H a=some (.dT kvs))(eb:H b=some (.tup (k.map kV))):oI H a (.ref b) (eA kvs k):= .inr ⟨kvs,k,b,.inl e,rfl,eb,rfl⟩
theorem qR.k{H:Hp}{a:Addr}{kvs:List (Key×V)}{k:Key}{v:V}(e:H a=some (.dK kvs))(hl:kvs.length < sizeLine):qR H a (kV k) v (upd H a (.dK (i0 kvs k v))):= .inl ⟨kvs,k,e,rfl,hl,rfl⟩
theorem qR.t{H:Hp}{a b:Addr}{kvs:List (List Key×V)}{k:List Key}{v:V}(e:H a=some (.dT kvs))(eb:H b=some (.tup (k.map kV)))(hl:kvs.length < sizeLine) :
 qR H a (.ref b) v (upd H a (.dT (i0 kvs k v))):= .inr ⟨kvs,k,b,e,rfl,eb,hl,rfl⟩
section
variable{X:Cx}{pins:List (Addr×Obj)}{σ:St}{H:Hp}{s:Shared}{a:Addr}{y v:V}{u r:Value}{o:Option V}{A:Around}{E:Value->Shared->Prop}
theorem Inv.big(I:Inv X pins σ H s):sysModules < s.heap.objs.size:=by
 have h:mainGlobals < s.heap.objs.size:=(I.mod.glob.keeps I.bk).lt;exact Nat.lt_trans (by decide) h
theorem d_in{Q:Value->Shared->Prop}(hu:A.units+1 < cLine)(I:Inv X pins σ H s)(g:oI H a y o)(ry:aB y u)(h:∀ s',Inv X pins σ H s'->Q (.bool o.isSome) s') :
 wpAny (model X.prog X.w) A (compareOp .In u (.ref a)) Q E s:=by
 rcases g with ⟨kvs,k,e,ey,l⟩ | ⟨kvs,k,b,e,ey,eb,l⟩
 ·subst ey
  obtain ⟨z,hd,vs,rel,dd⟩:=Ao I.hok e;refine wpAny_in_of (o8 ry) hd dd.mapOf ?_;rw [<- (rel.val k).isSome_eq,<- l];exact h _ (I.tok _)
 ·subst ey
  cases (show u=Value.ref b from ry);obtain ⟨z,hd,xs,rel,dd⟩:=De I.hok e;refine wpAny_in_heap (tupleKind_room_in1 hu) (uz I.hok eb) hd dd ?_;have q:=(rel.val k).isSome_eq;rw [Option.isSome_map] at q;rw [<- q,<- l];exact h _ (I.tok _)
theorem v9{h':Heap}{t':Nat}{ob:HO}(I:Inv X pins σ H s)(mu:Mut (H a))(hs:Heap.SameBut a s.heap h')(he:∃ q,h'.get? a=some q)(new:bt X.prog X.w (upd H a ob) h' a ob) :
 Inv X pins σ (upd H a ob) { s with heap:=h',toks:=t' } :=
 I.write (x:=a) (e:=a) mu (.inl rfl) (fun b q hb z=>(hs.2 b hb).trans z) he new
theorem dk_new{P:Program}{w:World}{H':Hp}{h':Heap}{kvs:List (Key×V)}{vs:List (Key×Value)}(z:kvs.length<=sizeLine)(hd:(a == sysModules)=false)(rel:KV kvs vs)(dd:h'.DictOf (aW P w) a vs) :
 bt P w H' h' a (.dK kvs):=⟨z,hd,vs,rel,dd⟩
theorem xo{H':Hp}{Q:Unit->Shared->Prop}(hu:A.units+1 < cLine)(I:Inv X pins σ H s)(g:qR H a y v H')(ry:aB y u)(rv:aB v r)(h:∀ s',Inv X pins σ H' s'->Q () s') :
 wpAny (model X.prog X.w) A (setItem (.ref a) u r) Q E s:=by
 rcases g with ⟨kvs,k,e,ey,l,eH⟩ | ⟨kvs,k,b,e,ey,eb,l,eH⟩
 ·subst ey eH
  obtain ⟨z,hd,vs,rel,dd⟩:=dk_of I.hok e
  have hz:vs.length<=sizeLine:=by rw [<- rel.length];exact z
  have hl:(i0 kvs k v).length<=sizeLine:=by have:=kW kvs k v;omega
  refine wpAny_setItem_pairs (hsz:=hz) (o8 ry) dd fun h' dd' hs=>h _ ?_
  have he:∃ q,h'.get? a=some q:=let ⟨q,_,_,hq,_⟩:=dd';⟨q,hq⟩;exact v9 I (by rw [e];exact True.intro) hs he (dk_new hl hd (rel.put k rv) dd')
 ·subst ey eH
  cases (show u=Value.ref b from ry);obtain ⟨z,hd,xs,rel,dd⟩:=dt_of I.hok e
  have hz:xs.length<=sizeLine:=by rw [<- Paired.length rel];exact z
  have hl:(i0 kvs k v).length<=sizeLine:=by have:=kW kvs k v;omega
  refine wpAny_setItem_heap (hsz:=hz) (tupleKind_room_in1 hu) (uz I.hok eb) dd fun h' dd' hs=>h _ ?_
  obtain ⟨q,es,ep,hq,h2,h3,h4,_,h5⟩:=dd';refine v9 I (by rw [e];exact True.intro) hs ⟨q,hq⟩ ⟨hl,hd,_,(rel.put k eb rv).keeps fun c ys ec=> ?_,q,es,ep,hq,h2,h3,h4,h5⟩;rw [ai (ne_of ec e (fun z=>nomatch z))];exact ec
end
section
variable{X:Cx}{pins:List (Addr×Obj)}{σ:St}{H:Hp}{s:Shared}{a:Addr}{kvs:List (Key×V)}{k:Key}{u:Value}{A:Around}{E:Value->Shared->Prop}
theorem d_len{Q:Value->Shared->Prop}(I:Inv X pins σ H s)(e:Rd H a (.dK kvs))(h:∀ t s',Inv X pins σ H s'->Q (.int kvs.length t) s'):wpAny (model X.prog X.w) A (call (.builtin "len") [.ref a]) Q E s:=by
 obtain ⟨z,hd,vs,rel,dd⟩:=Ao I.hok e;refine call_len_dict hd dd (by rw [<- rel.length];rw [sizeLine_eq] at z;omega) ?_;rw [<- rel.length];exact h _ _ (I.tok _)
end
def NoSl(i:Expr):Prop:=∀ ov iv,subscripted i false ov iv=operate [ov,iv] (getItem ov iv)
theorem A8{prog:Program}{w:World}{A:Around}{E:Value->Shared->Prop}{s:Shared}{env:Env}{value slice:Expr}{pos:Pos}{T id:String}{Q:Value->Shared->Prop}
 (hl:typeLookup (.type T) "__getitem__" = pure (some (.builtin id))) (hs:NoSl slice)
 (h:wpAny (model prog w) A (eval value env) (fun o s₁=>wpAny (model prog w) A (eval slice env) (fun i s₂=>s₂.TypeIs o T/\wpAny (model prog w) A (getItem o i) Q E s₂) E s₁) E s) :
 wpAny (model prog w) A (eval (.Subscript value slice pos) env) Q E s:=by
 refine Subscript_ (EQ h (fun o s₁ h₁=>EQ h₁ (fun i s₂ h₂=> ?_) fun _ _ x=>x) fun _ _ x=>x);obtain ⟨hT,h₂⟩:=h₂;unfold subscriptTail;refine Dl ?_;rw [getitemInPython_of_ne hT.not_modules];refine Dl (wpAny_specialOf hT hl ?_)
 have fin:wpAny (model prog w) A (subscripted slice false o i) (fun r s₃=>wpAny (model prog w) A (letTemporaryGo value o r >>= fun _=>pure r) Q E s₃) E s₂:=by
  rw [hs o i];exact wpAny_operating (EQ h₂ (fun r s₃ h₃=>Dl (wpAny_letTemporaryGo (Dr h₃))) fun _ _ x=>x)
 first
  | exact Dr (Dl fin)
  | exact Dl (Dr (Dl fin))
  | exact Dl fin
noncomputable def sDPut(td ty tv:TE):TS:=fun D σ H=>tv σ H fun v H1=>td σ H1 fun x H2=>ty σ H2 fun y H3=>∃ a H4,x = .ref a/\qR H3 a y v H4/\D.nx σ H4
section
variable{X:Cx}{o i e value:Expr}{pos pos' tpos:Pos}{td ty tv:TE}
theorem BC(hu:X.A.units+1 < cLine)(ho:PE X o td)(hi:PE X i ty)(hv:PE X value tv)(hs:swapsWith value (some (.Subscript o i pos')) pos.line X.env=pure false) :
 PS X (.Assign [.Subscript o i pos'] value pos) (sDPut td ty tv):=by
 intro pins s σ H D I h;refine wpAny_Assign_Subscript (thn (hv pins s σ H _ I h) fun r s1 ⟨v,H1,I1,rv,q1⟩=>thn (ho pins s1 σ H1 _ I1 q1) fun u s2 ⟨x,H2,I2,rx,q2⟩=>thn (hi pins s2 σ H2 _ I2 q2) fun iv s3 ⟨y,H3,I3,ry,a,H4,ex,g,q3⟩=> ?_) hs;subst ex;obtain rfl:u=Value.ref a:=rx
 exact xo hu I3 g ry rv fun s4 I4=>⟨σ,H4,I4,q3⟩
end
theorem Am{P:Program}{w:World}{H:Hp}(h:Heap)(hb:sysModules < h.objs.size):bt P w H (h.push { cls:= .type "dict",data:= .dict #[] }) h.objs.size (.dT []) :=
 ⟨Fb _,Ft.mpr (Ne.symm (DO hb)),[],.nil,_,#[],0,Dw _ rfl,⟨rfl,rfl,rfl⟩,rfl,rfl,Fh⟩
def tDNewT:TE:=fun _ H Q=>∀ p,H p=none->Q (.ref p) (upd H p (.dT []))
section
variable{X:Cx}{pos:Pos}
theorem yW:PE X (.Dict [] [] pos) tDNewT:=fun pins s σ H Q I h =>
 wpAny_Dict_empty ⟨.ref s.heap.objs.size,_,I.laid (a:=s.heap.objs.size) (o:= .dT []) (t':=s.toks) (fun _ _ q=>Dm _ q) (DE _) (Am s.heap I.big),rfl,h _ (I.hok.fresh (DE _))⟩
end
section
variable{X:Cx}{pins:List (Addr×Obj)}{σ:St}{H:Hp}{s:Shared}{a:Addr}{y d:V}{u r:Value}{o:Option V}{A:Around}{E:Value->Shared->Prop}
end
section
variable{X:Cx}{o e f:Expr}{apos cpos:Pos}{td ty tx:TE}
end
section
variable{X:Cx}{pins:List (Addr×Obj)}{σ:St}{H:Hp}{s:Shared}{a:Addr}{kvs:List (Key×V)}{A:Around}{E:Value->Shared->Prop}
end
section
variable{X:Cx}{pins:List (Addr×Obj)}{σ:St}{H:Hp}{s:Shared}{a:Addr}{y:V}{u:Value}{A:Around}{E:Value->Shared->Prop}
end
end L2
namespace HT
open PySem PyProof.Rows
theorem Ak(A:Around)(s:Shared)(a:Int)(t:Tok)(c:Int)(u:Tok):∃ e,SeqAt.EqAt A s (.int a t) (.int c u) e/\(e=true↔a=c) :=
 ⟨(a == c),SeqAt.EqAt.int_int a t c u,by simp⟩
section
open PySem.SeqAt
open PySem.AutoSeq1 (wpAny_loadPart')
open PySem.MeetsSeq PySem.MeetsSeq2 PySem.MeetsSeq3
end
section
variable{prog:Program}{w:World}{A:Around}{E:Value->Shared->Prop}{s:Shared}
theorem Cn{t b:Addr}{vs ws:List Value}{Q:Value->Shared->Prop}(ht:IsTup s.heap t vs.toArray)(hb:IsTup s.heap b ws.toArray)(hv:vs≠[])
 (h1:ws=[]->Q (.ref t) s) (h2:ws≠[]->Q (.ref s.heap.objs.size) { s with heap:=s.heap.push { cls:= .type "tuple",data:= .seq (vs++ws).toArray } })
 (hsz:vs.length+ws.length<=sizeLine):wpAny (model prog w) A (binaryOp .Add (.ref t) (.ref b)) Q E s:=by
 obtain ⟨⟨cls,dd,data,sl⟩,ho,hc,n,hd⟩:=id ht;obtain ⟨⟨cls2,dd2,data2,sl2⟩,ho2,hc2,n2,hd2⟩:=id hb;simp only at hc hd hc2 hd2;subst hc hd hc2 hd2
 have e:vs.toArray++ws.toArray=(vs++ws).toArray:=by simp
 by_cases hw:ws=[]
 ·exact concat_meets ⟨_,ho,rfl⟩ ⟨_,ho2,rfl⟩ noFill_tuple_add seq_tuple_add PySem.F.slot_tuple_add PySem.F.entry_tuple_add (PySem.F.args_tuple_add_2 _ _)
   (tuple_addW1 t b vs.toArray ws.toArray n n2 dd dd2 sl sl2 (by simpa using hv) (by simp [hw])) ⟨ho,ho2,h1 hw⟩
 ·refine concat_meets ⟨_,ho,rfl⟩ ⟨_,ho2,rfl⟩ noFill_tuple_add seq_tuple_add PySem.F.slot_tuple_add PySem.F.entry_tuple_add (PySem.F.args_tuple_add_2 _ _)
   (tuple_addW2 t b vs.toArray ws.toArray n n2 dd dd2 sl sl2 (by simpa using hv) (by simpa using hw) (by rw [Ds,Ds];exact hsz)) ⟨ho,ho2,?_⟩
  rw [e];exact h2 hw
noncomputable def sIx(n d:Nat):Option Int->Nat
 | none=>d
 | some v=>if v < 0 then (v+(n:Int)).toNat else min v.toNat n
theorem ub(n d:Nat)(hd:d<=n)(o:Option Int):sIx n d o<=n:=by
 cases o with
 | none=>exact hd
 | some v =>
  show (if v < 0 then (v+(n:Int)).toNat else min v.toNat n)<=n
  by_cases hv:v < 0
  ·rw [if_pos hv];omega
  ·rw [if_neg hv];exact Nat.min_le_right _ _
theorem wa(v:Int)(n d:Nat):(if v < 0 then max (v+(n:Int)) 0 else min v (n:Int))=((sIx n d (some v):Nat):Int):=by
 show (if v < 0 then max (v+(n:Int)) 0 else min v (n:Int))=(((if v < 0 then (v+(n:Int)).toNat else min v.toNat n):Nat):Int)
 by_cases hv:v < 0
 ·simp only [if_pos hv];omega
 ·simp only [if_neg hv];omega
theorem vc(lo hi:Option Int)(n:Nat):Builtin.Slice.sliceAdjust lo hi 1 (n:Int)=(((sIx n 0 lo:Nat):Int),((sIx n n hi:Nat):Int)):=by
 have h1:¬ ((1:Int) < 0):=by omega
 unfold Builtin.Slice.sliceAdjust;simp only [h1,if_false];refine Prod.ext ?_ ?_
 ·cases lo with
  | none=>rfl
  | some v=>exact wa v n 0
 ·cases hi with
  | none=>rfl
  | some v=>exact wa v n n
theorem uo(i j:Nat):Builtin.Slice.slicePlaces (i:Int) (j:Int) 1=j - i:=by
 unfold Builtin.Slice.slicePlaces
 have h1:(1:Int) > 0:=by omega
 simp only [h1,if_true,Int.ediv_one]
 split<;>omega
theorem mf{v:Value}{o:Option Int}{Q:Option Int->Shared->Prop}(p:IsPart v o)(h:Q o s):wpAny (model prog w) A (Builtin.Slice.slicePartIndex v) Q E s:=by
 cases p with
 | none=>exact slicePart_none h
 | int i t=>exact slicePart_int h
theorem fH{sl:Addr}{vl vu:Value}{lo hi:Option Int}{n:Nat}{Q:Int×Int×Nat->Shared->Prop}(hs:s.heap.IsSliceOf sl vl vu .none)(pl:IsPart vl lo)(pu:IsPart vu hi)
 (h:Q (((sIx n 0 lo:Nat):Int),1,sIx n n hi - sIx n 0 lo) s):wpAny (model prog w) A (Builtin.Slice.sliceApplied (.ref sl) (pure (n:Int))) Q E s:=by
 obtain ⟨os,hos,hcs,hds⟩:=id hs;unfold Builtin.Slice.sliceApplied Builtin.Slice.sliceFields;refine Dl (Dl (EH hos hds (x:=vl) rfl (Dl (EH hos hds (x:=vu) rfl (Dl (EH hos hds (x:= .none) rfl (Dr ?_)))))));refine Dl (slicePart_none ?_)
 show wpAny _ _ (if ((1:Int) == 0)=true then _ else _) _ _ s
 rw [if_neg (by decide)];refine Dl (mf pl (Dl (mf pu (Dl (Dr ?_)))))
 show wpAny _ _ (match Builtin.Slice.sliceAdjust lo hi 1 (n:Int) with | (lo,hi)=>pure (lo,(1:Int),Builtin.Slice.slicePlaces lo hi 1)) _ _ s
 rw [vc lo hi n]
 show wpAny _ _ (pure (((sIx n 0 lo:Nat):Int),(1:Int),Builtin.Slice.slicePlaces ((sIx n 0 lo:Nat):Int) ((sIx n n hi:Nat):Int) 1)) _ _ s
 rw [uo];exact Dr h
theorem yQ(xs:Array Value)(i k:Nat):((List.range k).filterMap fun (m:Nat)=>xs[((i:Int)+(m:Int) * 1).toNat]?).toArray=((xs.toList.drop i).take k).toArray:=by
 have e:(fun (m:Nat)=>xs[((i:Int)+(m:Int) * 1).toNat]?)=fun m=>xs[i+m]?:=by
  funext m
  have:((i:Int)+(m:Int) * 1).toNat=i+m:=by omega
  rw [this]
 rw [e];have:=pick_run xs i k;rw [List.filterMap_map] at this
 have e2:((fun x=>xs[x]?) ∘ fun x=>i+x)=fun m=>xs[i+m]?:=rfl
 rw [e2] at this;rw [this]
theorem jO{t sl:Addr}{items:Array Value}{vl vu:Value}{lo hi:Option Int}{Q:Value->Shared->Prop}(ht:IsTup s.heap t items)(hs:s.heap.IsSliceOf sl vl vu .none)(pl:IsPart vl lo)(pu:IsPart vu hi)
 (hw:¬ (sIx items.size 0 lo=0/\sIx items.size items.size hi=items.size))
 (h:Q (.ref s.heap.objs.size) { s with heap:=s.heap.push { cls:= .type "tuple",data:= .seq ((items.toList.drop (sIx items.size 0 lo)).take (sIx items.size items.size hi - sIx items.size 0 lo)).toArray } })
 (hsz:items.size<=sizeLine):wpAny (model prog w) A (getItem (.ref t) (.ref sl)) Q E s:=by
 have htake:sizeOk (.seq ((items.toList.drop (sIx items.size 0 lo)).take (sIx items.size items.size hi - sIx items.size 0 lo)).toArray):=by
  show ((items.toList.drop (sIx items.size 0 lo)).take (sIx items.size items.size hi - sIx items.size 0 lo)).toArray.size<=sizeLine
  rw [Ds,EY,List.length_drop,Ez];omega
 have hj:sIx items.size items.size hi<=items.size:=ub _ _ (DE _) hi;obtain ⟨os,hos,hcs,hds⟩:=id hs;have hTs:s.TypeIs (.ref sl) "slice" := ⟨os,hos,hcs⟩;unfold getItem
 try with_reducible refine ER ?_
 first | refine Dl (Dr ?_) | skip
 refine Dl (wpAny_sequenceKey ht.typeIs (by decide) ?_)
 refine Dl (Ek (name:=Str.ofString "__getitem__") ht.typeIs PyProof.Rows.slot_tuple_getitem
  (Es PyProof.Rows.slot_tuple_getitem ht.typeIs entry_tuple_getitem ?_ (args_tuple_getitem _ _)))
 show wpAny _ _ (Builtin.Tuple.tupleItemsOf (.ref t) >>= _) _ _ s
 refine Dl (tupleItemsOf_ ht ?_);refine Dl (wpAny_typeOf hTs ?_);rw [if_pos (by decide)];refine Dl (fH hs pl pu ?_)
 have hno:¬ ((((sIx items.size 0 lo:Nat):Int) == 0&&(1:Int) == 1&&(sIx items.size items.size hi - sIx items.size 0 lo) == items.size)=true):=by
  intro q;rw [DM,DM] at q;have q1:((sIx items.size 0 lo:Nat):Int)=0:=eq_of_beq q.1.1;have q2:sIx items.size items.size hi - sIx items.size 0 lo=items.size:=eq_of_beq q.2;exact hw ⟨by omega,by omega⟩
 show wpAny _ _ (if (((sIx items.size 0 lo:Nat):Int) == 0&&(1:Int) == 1&&(sIx items.size items.size hi - sIx items.size 0 lo) == items.size)=true then _ else _) _ _ s
 rw [if_neg hno,yQ]
 first
  | exact Dl (m:=Builtin.Tuple.tupleExact _) (Ei (Dr ⟨_,rfl,Dr h⟩) htake)
  | exact Dl (m:=Builtin.Tuple.tupleExact _) (Ei (Dl (Dr (Dr ⟨_,rfl,Dr h⟩))) htake)
  | exact Dl (Dl (m:=Builtin.Tuple.tupleExact _) (Ei (Dr (Dr ⟨_,rfl,Dr h⟩)) htake))
  | exact Dl (Dl (m:=Builtin.Tuple.tupleExact _) (Ei (Dr ⟨_,rfl,Dr h⟩) htake))
end
end HT
namespace L2
open PySem PySem.Spec PyProof.Rows
abbrev TO:=St->Hp->(Option Int->Hp->Prop)->Prop
noncomputable def PO(X:Cx)(e:Option Expr)(t:TO):Prop :=
 ∀ (pins:List (Addr×Obj)) (s:Shared) (σ:St) (H:Hp) (Q:Option Int->Hp->Prop),Inv X pins σ H s->t σ H Q ->
  wpAny (model X.prog X.w) X.A (evalPart e X.env) (fun u s'=>∃ o H',Inv X pins σ H' s'/\IsPart u o/\Q o H') X.xe s
def A7:TO:=fun _ H Q=>Q none H
def tPart(t:TE):TO:=fun σ H Q=>t σ H fun x H1=>∃ i,x = .int i/\Q (some i) H1
theorem dl{ns:List Int}:∀ {us:List Value},aw (ns.map V.int) us->IntsAre us ns:=by
 induction ns with
 | nil=>intro us r;rw [Fa] at r;cases r;exact .nil
 | cons n ns ih =>
  intro us r;rw [DJ] at r
  cases r with
  | cons r1 r2 =>
   obtain ⟨t,e⟩:=r1;subst e;exact .cons n t (ih r2)
section
variable{X:Cx}{e:Expr}{te:TE}{lo hi:Option Expr}{tl th:TO}{pos p2:Pos}
theorem BD:PO X none A7:=by
 intro pins s σ H Q I h;rw [evalPart_none];exact Dr ⟨none,H,I,.none,h⟩
theorem qa(h:PE X e te):PO X (some e) (tPart te):=by
 intro pins s σ H Q I hw;rw [evalPart_some]
 refine thn (h pins s σ H _ I hw) fun u s1 ⟨x,H1,I1,r1,q1⟩=> ?_
 obtain ⟨i,rfl,q⟩:=q1;obtain ⟨t,rfl⟩:=r1;exact ⟨some i,H1,I1,.int i t,q⟩
noncomputable def SlR(X:Cx)(r:V->Option Int->Option Int->Hp->VK->Prop):Prop :=
 ∀ (pins:List (Addr×Obj)) (s:Shared) (σ:St) (H:Hp) (x:V) (v vl vu:Value) (lo hi:Option Int) (sl:Addr) (Q:VK),Inv X pins σ H s->aB x v->s.heap.IsSliceOf sl vl vu .none->IsPart vl lo->IsPart vu hi->r x lo hi H Q ->
  ∃ T id,typeLookup (.type T) "__getitem__" = pure (some (.builtin id))/\s.TypeIs v T/\wpAny (model X.prog X.w) X.A (getItem v (.ref sl)) (EP X pins σ Q) X.xe s
theorem SlR.or{r r':V->Option Int->Option Int->Hp->VK->Prop}(h:SlR X r)(h':SlR X r'):SlR X (fun x lo hi H Q=>r x lo hi H Q\/r' x lo hi H Q):=by
 intro pins s σ H x v vl vu lo hi sl Q I rx hs pl pu q
 rcases q with q | q
 ·exact h pins s σ H x v vl vu lo hi sl Q I rx hs pl pu q
 ·exact h' pins s σ H x v vl vu lo hi sl Q I rx hs pl pu q
noncomputable def tSl(r:V->Option Int->Option Int->Hp->VK->Prop)(te:TE)(tl th:TO):TE:=fun σ H Q=>te σ H fun x H1=>tl σ H1 fun l H2=>th σ H2 fun u H3=>r x l u H3 Q
theorem rQ{r:V->Option Int->Option Int->Hp->VK->Prop}(hr:SlR X r)(he:PE X e te)(hl:PO X lo tl)(hu:PO X hi th):PE X (.Subscript e (.Slice lo hi none p2) pos) (tSl r te tl th):=by
 intro pins s σ H Q I h;refine Subscript_ (thn (he pins s σ H _ I h) fun v s1 ⟨x,H1,I1,r1,q1⟩=> ?_);refine wpAny_Slice (thn (hl pins s1 σ H1 _ I1 q1) fun vl s2 ⟨l,H2,I2,pl,q2⟩=>thn (hu pins s2 σ H2 _ I2 q2) fun vu s3 ⟨u,H3,I3,pu,q3⟩=> ?_);rw [evalPart_none];refine Dr ?_
 have I4:Inv X pins σ H3 { s3 with heap:=s3.heap.push { cls:= .type "slice",data:= .fields #[vl,vu,.none] } }:=I3.kept (t':=s3.toks) fun b ob q=>Dm _ q
 obtain ⟨T,id,hT,ht,hg⟩:=hr pins { s3 with heap:=s3.heap.push { cls:= .type "slice",data:= .fields #[vl,vu,.none] } } σ H3 x v vl vu l u s3.heap.objs.size Q I4 r1 (Heap.IsSliceOf.new ..) pl pu q3
 show wpAny (model X.prog X.w) X.A (subscriptTail e (.Slice lo hi none p2) v (.ref s3.heap.objs.size)) (EP X pins σ Q) X.xe { s3 with heap:=s3.heap.push { cls:= .type "slice",data:= .fields #[vl,vu,.none] } }
 exact tail_any (ops:=[.ref s3.heap.objs.size,v]) ht hT hg (by with_unfolding_all rfl)
noncomputable def nK(xs:List V)(lo hi:Option Int):List V:=(xs.drop (HT.sIx xs.length 0 lo)).take (HT.sIx xs.length xs.length hi - HT.sIx xs.length 0 lo)
theorem k9(xs:List V)(lo hi:Option Int):(nK xs lo hi).length<=xs.length:=by
 unfold nK;rw [EY,List.length_drop];omega
noncomputable def rSlT(K:F2):V->Option Int->Option Int->Hp->VK->Prop:=fun x lo hi H Q=>∃ a xs,x = .ref a/\SqT K H a xs /\
 ¬ (HT.sIx xs.length 0 lo=0/\HT.sIx xs.length xs.length hi=xs.length)/\∀ p,H p=none->Q (.ref p) (upd H p (.tup (nK xs lo hi)))
theorem sl_tup:SlR X (rSlT X.K):=by
 intro pins s σ H x v vl vu lo hi sl Q I rx hs pl pu h;obtain ⟨a,xs,rfl,hx,hw,q⟩:=h;cases rx;obtain ⟨its,r,ht,hz⟩:=I.tuple hx
 have hlen:its.toArray.size=xs.length:=by rw [Ds];exact r.length.symm
 refine ⟨"tuple",_,PyProof.Rows.slot_tuple_getitem.lookup,ht.typeIs,?_⟩;refine HT.jO ht hs pl pu (by rw [hlen];exact hw) ?_ (by rw [hlen];exact hz);rw [hlen];refine ⟨.ref s.heap.objs.size,_,I.laid (t':=s.toks) (o:= .tup (nK xs lo hi)) (fun b ob q=>Dm _ q) (DE _) ?_,rfl,q _ (I.hok.fresh (DE _))⟩;exact ⟨Ep (k9 xs lo hi) hz,_,(r.drop (HT.sIx xs.length 0 lo)).take (HT.sIx xs.length xs.length hi - HT.sIx xs.length 0 lo),tU.new _ _⟩
noncomputable def rCatT(K:F2):R2:=fun x y H Q=>∃ a b xs ys,x = .ref a/\y = .ref b/\SqT K H a xs/\SqT K H b ys/\xs≠[]/\xs.length+ys.length<=sizeLine /\
 (ys=[]->Q (.ref a) H)/\(ys≠[]->∀ p,H p=none->Q (.ref p) (upd H p (.tup (xs++ys))))
theorem aw.nil_iff{xs:List V}{us:List Value}(r:aw xs us):us=[]↔xs=[]:=by
 cases r with
 | nil=>simp
 | cons _ _=>simp
theorem BS:OpR X (binaryOp .Add) (rCatT X.K):=by
 intro pins s σ H x y v u Q I rx ry h;obtain ⟨a,b,xs,ys,rfl,rfl,ha,hb,hx,hz,q1,q2⟩:=h;cases rx;cases ry;obtain ⟨its,r1,p1,_⟩:=I.tuple ha;obtain ⟨its2,r2,p2,_⟩:=I.tuple hb;refine HT.Cn p1 p2 (fun z=>hx (r1.nil_iff.mp z)) (fun z=>⟨.ref a,H,I,rfl,q1 (r2.nil_iff.mp z)⟩) (fun z=> ?_) (by rw [<- r1.length,<- r2.length];exact hz);refine ⟨.ref s.heap.objs.size,_,I.laid (t':=s.toks) (o:= .tup (xs++ys)) (fun b ob q=>Dm _ q) (DE _) ?_,rfl,q2 (fun w=>z (r2.nil_iff.mpr w)) _ (I.hok.fresh (DE _))⟩;exact ⟨by rw [DD];exact hz,_,r1.append r2,tU.new _ _⟩
end
noncomputable def ixN(n:Nat)(i:Int):Option Nat:=if 0<=i then (if i < n then some i.toNat else none) else if -(n:Int)<=i then some (i+n).toNat else none
def atI{α:Type}(xs:List α)(i:Int):Option α:=(ixN xs.length i).bind fun j=>xs[j]?
theorem vT{n:Nat}{i:Int}{j:Nat}(h:ixN n i=some j):seqIndex? i n=some j/\j < n /\ -(n:Int)<=i/\i < n:=by
 unfold ixN at h
 by_cases h0:0<=i
 ·rw [if_pos h0] at h
  by_cases h1:i < n
  ·rw [if_pos h1] at h
   have e:i.toNat=j:=Option.some.inj h;exact ⟨by rw [seqIndex_of h0 h1,e],by omega,by omega,h1⟩
  ·rw [if_neg h1] at h;cases h
 ·rw [if_neg h0] at h
  by_cases h1 : -(n:Int)<=i
  ·rw [if_pos h1] at h
   have e:(i+n).toNat=j:=Option.some.inj h;exact ⟨by rw [seqIndex_neg (by omega) h1,e],by omega,h1,by omega⟩
  ·rw [if_neg h1] at h;cases h
theorem qN{α:Type}{xs:List α}{i:Int}{v:α}(h:atI xs i=some v):∃ j,seqIndex? i xs.length=some j/\xs[j]?=some v/\j < xs.length /\ -(xs.length:Int)<=i/\i < xs.length:=by
 unfold atI at h
 cases e:ixN xs.length i with
 | none=>rw [e] at h;cases h
 | some j =>
  rw [e] at h;obtain ⟨h1,h2,h3,h4⟩:=vT e;exact ⟨j,h1,h,h2,h3,h4⟩
theorem wj{α:Type}{xs:List α}{j:Nat}{v:α}(h:xs[j]?=some v):atI xs (j:Int)=some v:=by
 have hj:j < xs.length:=(DG.mp h).1
 have e:ixN xs.length (j:Int)=some j:=by
  unfold ixN;rw [if_pos (by omega),if_pos (by omega)];simp
 unfold atI;rw [e];exact h
def qQ(b:Expr):Prop:=∀ o i,subscripted b false o i=operate [o,i] (getItem o i)
noncomputable def IxR(X:Cx)(r:R2):Prop :=
 ∀ (value slice:Expr) (pins:List (Addr×Obj)) (s:Shared) (σ:St) (H:Hp) (x y:V) (v u:Value) (Q:VK),Inv X pins σ H s->aB x v->aB y u->r x y H Q ->
  subscripted slice false v u=operate [v,u] (getItem v u)->wpAny (model X.prog X.w) X.A (subscriptTail value slice v u) (EP X pins σ Q) X.xe s
noncomputable def MtR(X:Cx)(id:String)(r:V->List V->Hp->VK->Prop):Prop :=
 ∀ (pins:List (Addr×Obj)) (s:Shared) (σ:St) (H:Hp) (x:V) (xs:List V) (v:Value) (us:List Value) (Q:VK),Inv X pins σ H s->aB x v->aw xs us->r x xs H Q ->
  wpAny (model X.prog X.w) X.A (call (.builtin id) (v::us)) (EP X pins σ Q) X.xe s
section
variable{X:Cx}{a b:Expr}{ta tb:TE}{pos:Pos}
theorem IxR.or{r r':R2}(h:IxR X r)(h':IxR X r'):IxR X (fun x y H Q=>r x y H Q\/r' x y H Q):=by
 intro value slice pins s σ H x y v u Q I rx ry q hs
 rcases q with q | q
 ·exact h value slice pins s σ H x y v u Q I rx ry q hs
 ·exact h' value slice pins s σ H x y v u Q I rx ry q hs
theorem rR{r:R2}(hr:IxR X r)(ha:PE X a ta)(hb:PE X b tb)(hs:qQ b):PE X (.Subscript a b pos) (tOp r ta tb):=by
 intro pins s σ H Q I h;exact Subscript_ (binT ha hb I h fun v u s2 x y H2 I2 rx ry q=>hr a b pins s2 σ H2 x y v u Q I2 rx ry q (hs _ _))
def rIxL(K:F2):R2:=fun x y H Q=>∃ p xs i v,x = .ref p/\y = .int i/\SqL K H p xs/\atI xs i=some v/\Q v H
def rIxT(K:F2):R2:=fun x y H Q=>∃ p xs i v,x = .ref p/\y = .int i/\SqT K H p xs/\atI xs i=some v/\Q v H
noncomputable def rIxS:R2:=fun x y H Q=>∃ z i c,x = .str z/\y = .int i/\z.length<=sizeLine/\atI z.cps.toList i=some c/\Q (.str ⟨#[c]⟩) H
theorem qq:IxR X (rIxL X.K):=by
 intro value slice pins s σ H x y v u Q I rx ry h hs;obtain ⟨p,xs,i,z,rfl,rfl,hq,he,q⟩:=h;cases rx;obtain ⟨t,rfl⟩:=ry;obtain ⟨its,r,pl,hz⟩:=I.list hq;obtain ⟨j,h1,h2,h3,h4,h5⟩:=qN he;obtain ⟨w,ew,rw'⟩:=r.get h2;have hl:=r.length;have hn:=ku;have fin:EP X pins σ Q w s:=⟨z,H,I,rw',q⟩
 by_cases h0:0<=i
 ·have hj:i.toNat=j:=by
   rw [seqIndex_of h0 h5] at h1;exact Option.some.inj h1
  exact item_listR pl.isList h0 (by omega) (by rw [hj];simpa using ew) fin hs
 ·have hj:(i+(its.toArray.size:Int)).toNat=j:=by
   rw [seqIndex_neg (by omega) h4] at h1;rw [Ds,<- hl];exact Option.some.inj h1
  exact subscriptTail_builtinR (x:=w) pl.isList.typeIs slot_list_getitem.lookup
   (wpAny_getItem_list_neg (Q:=fun r s'=>r=w/\EP X pins σ Q r s') pl.isList (by omega) (by rw [Ds]<;>omega) (by omega) (by rw [hj];simpa using ew) ⟨rfl,fin⟩) hs
theorem uB:IxR X (rIxT X.K):=by
 intro value slice pins s σ H x y v u Q I rx ry h hs;obtain ⟨p,xs,i,z,rfl,rfl,hq,he,q⟩:=h;cases rx;obtain ⟨t,rfl⟩:=ry;obtain ⟨its,r,pl,hz⟩:=I.tuple hq;obtain ⟨j,h1,h2,h3,h4,h5⟩:=qN he;obtain ⟨w,ew,rw'⟩:=r.get h2;have hl:=r.length;have hn:=ku;have fin:EP X pins σ Q w s:=⟨z,H,I,rw',q⟩
 exact subscriptTail_builtinR (x:=w) pl.typeIs slot_tuple_getitem.lookup
  (getItem_tuple (j:=j) (Q:=fun r s'=>r=w/\EP X pins σ Q r s') pl (by omega) (by omega) (by rw [Ds,<- hl];exact h1) (by simpa using ew) ⟨rfl,fin⟩) hs
theorem ix_str:IxR X rIxS:=by
 intro value slice pins s σ H x y v u Q I rx ry h hs;obtain ⟨z,i,c,rfl,rfl,hz,he,q⟩:=h;obtain ⟨t,rfl⟩:=rx;obtain ⟨t',rfl⟩:=ry;obtain ⟨j,h1,h2,h3,h4,h5⟩:=qN he
 have hl:z.cps.toList.length=z.length:=by simp [Str.length]
 rw [hl] at h1 h4 h5;have hn:=ku
 exact tail_any (typeIs_str s z t) slot_str_getitem.lookup (getItem_str (c:=c) (by
  have e1:decide (i < -(2 ^ 63:Int))=false:=DS (by omega);have e2:decide (i>=2 ^ 63)=false:=DS (by omega)
  rw [e1,e2,FD]) (by rw [h1];simpa using h2) ⟨.str ⟨#[c]⟩,H,I.tok _,⟨_,rfl⟩,q⟩) hs
def rIx(K:F2):R2:=fun x y H Q=>rIxL K x y H Q\/rIxT K x y H Q\/rIxS x y H Q
theorem ix_seq:IxR X (rIx X.K):=qq.or (uB.or ix_str)
theorem ux(its:List Value)(n j:Nat)(u:Value):Obj.mapSeq (·.setIfInBounds j u) { cls:= .type "list",data:= .seq its.toArray n }={ cls:= .type "list",data:= .seq (its.set j u).toArray n }:=by
 simp [Obj.mapSeq]
theorem Inv.lst{pins:List (Addr×Obj)}{σ:St}{H:Hp}{s:Shared}{p:Addr}{xs:List V}(I:Inv X pins σ H s)(h:H p=some (.lst xs)) :
 ∃ (its:List Value) (n:Nat),aw xs its/\s.heap.get? p=some { cls:= .type "list",data:= .seq its.toArray n }/\xs.length<=sizeLine:=by
 obtain ⟨z,its,n,r,e⟩:=I.hok p _ h;exact ⟨its,n,r,e,z⟩
theorem Inv.lstUpd{pins:List (Addr×Obj)}{σ:St}{H:Hp}{s:Shared}{p:Addr}{xs ys:List V}{its its':List Value}{n n':Nat}{f:Obj->Obj}(I:Inv X pins σ H s)(h:H p=some (.lst xs))
 (ho:s.heap.get? p=some { cls:= .type "list",data:= .seq its.toArray n }) (hf:f { cls:= .type "list",data:= .seq its.toArray n }={ cls:= .type "list",data:= .seq its'.toArray n' }) (r:aw ys its') (hz:ys.length<=sizeLine) (t:Nat) :
 Inv X pins σ (upd H p (.lst ys)) { s with heap:=s.heap.update p f,toks:=t }:=by
 have e:(s.heap.update p f).get? p=some { cls:= .type "list",data:= .seq its'.toArray n' }:=by
  rw [EG f ho (by rw [hf]<;>rfl),hf]
 refine I.write (x:=p) (e:=p) (by rw [h];trivial) (.inl rfl) (fun b u hb q=>(Fi _ _ (Ne.symm hb)).trans q) ⟨_,e⟩ ?_;exact ⟨hz,its',n',r,e⟩
noncomputable def CU:V->V->V->Hp->(Hp->Prop)->Prop:=fun o i v H Q=>∃ p xs k j,o = .ref p/\i = .int k/\H p=some (.lst xs)/\ixN xs.length k=some j/\Q (upd H p (.lst (xs.set j v)))
theorem mh:PSet X CU:=by
 intro pins s σ H o i v ov iv u Q I ro ri rv h;obtain ⟨p,xs,k,j,rfl,rfl,hp,hj,q⟩:=h;cases ro;obtain ⟨t,rfl⟩:=ri;obtain ⟨its,n,r,ho,hz⟩:=I.lst hp;obtain ⟨h1,h2,h3,h4⟩:=vT hj;have hl:=r.length;have hn:=ku
 have I':Inv X pins σ (upd H p (.lst (xs.set j v))) { s with heap:=s.heap.update p (Obj.mapSeq (·.setIfInBounds j u)) } :=
  I.lstUpd hp ho (ux its n j u) (r.set rv j) (by rw [EC];exact hz) s.toks
 by_cases h0:0<=k
 ·have hk:k.toNat=j:=by
   rw [seqIndex_of h0 h4] at h1;exact Option.some.inj h1
  exact PySem.W.ki_setAt ho h0 (by omega) (by rw [Ds,<- hl];exact h4) (by rw [hk];exact ⟨_,I',q⟩)
 ·have hk:(k+(its.toArray.size:Int)).toNat=j:=by
   rw [seqIndex_neg (by omega) h3] at h1;rw [Ds,<- hl];exact Option.some.inj h1
  exact PySem.W.ki_setBack ho (by omega) (by rw [Ds,<- hl];exact h3) (by omega) (by rw [hk];exact ⟨_,I',q⟩)
theorem pU(lo hi:Option Int)(n:Nat):(sliceBounds lo hi none n).1=((HT.sIx n 0 lo:Nat):Int)/\(sliceBounds lo hi none n).2.1=((HT.sIx n n hi:Nat):Int)/\(sliceBounds lo hi none n).2.2=1:=by
 refine ⟨?_,?_,rfl⟩
 ·cases lo with
  | none=>simp [sliceBounds,HT.sIx]
  | some i =>
   simp only [sliceBounds,HT.sIx,Option.getD_none,show (1:Int) > 0 by decide,if_true]
   by_cases h:i < 0
   ·simp only [h,if_true]<;>omega
   ·simp only [h,if_false]<;>omega
 ·cases hi with
  | none=>simp [sliceBounds,HT.sIx]
  | some i =>
   simp only [sliceBounds,HT.sIx,Option.getD_none,show (1:Int) > 0 by decide,if_true]
   by_cases h:i < 0
   ·simp only [h,if_true]<;>omega
   ·simp only [h,if_false]<;>omega
theorem oh(its:List Value)(lo hi:Option Int):slicePick its.toArray lo hi none=((its.drop (HT.sIx its.length 0 lo)).take (HT.sIx its.length its.length hi - HT.sIx its.length 0 lo)).toArray:=by
 obtain ⟨h1,h2,h3⟩:=pU lo hi its.toArray.size;unfold slicePick;rw [h1,h2,h3]
 simp only [sliceRange_one,pick_run,Ds]<;>rfl
noncomputable def rSlL(K:F2):V->Option Int->Option Int->Hp->VK->Prop:=fun x lo hi H Q=>∃ a xs,x = .ref a/\SqL K H a xs/\∀ p,H p=none->Q (.ref p) (upd H p (.lst (nK xs lo hi)))
theorem Bd:SlR X (rSlL X.K):=by
 intro pins s σ H x v vl vu lo hi sl Q I rx hs pl pu h;obtain ⟨a,xs,rfl,hx,q⟩:=h;cases rx;obtain ⟨its,r,ht,hz⟩:=I.list hx;have hlen:=r.length;refine ⟨"list",_,slot_list_getitem.lookup,ht.isList.typeIs,?_⟩;refine wpAny_getItem_list_slice ht.isList hs pl pu .none (by simp) ?_ (by rw [Ds]<;>omega);rw [oh,<- hlen];refine ⟨.ref s.heap.objs.size,_,I.laid (t':=s.toks) (o:= .lst (nK xs lo hi)) (fun b ob q=>Dm _ q) (DE _) ?_,rfl,q _ (I.hok.fresh (DE _))⟩;exact ⟨Ep (k9 xs lo hi) hz,_,0,(r.drop (HT.sIx xs.length 0 lo)).take (HT.sIx xs.length xs.length hi - HT.sIx xs.length 0 lo),Dw _ rfl⟩
def iC:V->Bool
 | .non=>true
 | .bl _=>true
 | .int _=>true
 | .str _=>true
 | _=>false
noncomputable def eqV:V->V->Bool
 | .non,.non=>true
 | .bl a,.bl b=>a == b
 | .bl a,.int b=>(if a then 1 else 0) == b
 | .int a,.bl b=>a == (if b then 1 else 0)
 | .int a,.int b=>a == b
 | .str a,.str b=>a == b
 | _,_=>false
theorem eqAt_V{A:Around}{s:Shared}{y x:V}{u v:Value}(ry:aB y u)(rx:aB x v)(fy:iC y=true)(fx:iC x=true):SeqAt.EqAt A s u v (eqV y x):=by
 cases y with
 | non =>
  cases ry
  cases x with
  | non=>cases rx;exact SeqAt.EqAt.same _
  | bl b=>cases rx;exact SeqAt.EqAt.none_bool b
  | int b=>obtain ⟨t,rfl⟩:=rx;exact SeqAt.EqAt.none_int b t
  | str b=>obtain ⟨t,rfl⟩:=rx;exact SeqAt.EqAt.none_str b t
  | _=>exact absurd (show false=true from fx) DH
 | bl a =>
  cases ry
  cases x with
  | non=>cases rx;exact SeqAt.EqAt.bool_none a
  | bl b=>cases rx;exact SeqAt.EqAt.bool_bool a b
  | int b=>obtain ⟨t,rfl⟩:=rx;exact SeqAt.EqAt.bool_int a b t
  | str b=>obtain ⟨t,rfl⟩:=rx;exact SeqAt.EqAt.bool_str a b t
  | _=>exact absurd (show false=true from fx) DH
 | int a =>
  obtain ⟨t',rfl⟩:=ry
  cases x with
  | non=>cases rx;exact SeqAt.EqAt.int_none a t'
  | bl b=>cases rx;exact SeqAt.EqAt.int_bool a t' b
  | int b=>obtain ⟨t,rfl⟩:=rx;exact SeqAt.EqAt.int_int a t' b t
  | str b=>obtain ⟨t,rfl⟩:=rx;exact SeqAt.EqAt.int_str a t' b t
  | _=>exact absurd (show false=true from fx) DH
 | str a =>
  obtain ⟨t',rfl⟩:=ry
  cases x with
  | non=>cases rx;exact SeqAt.EqAt.str_none a t'
  | bl b=>cases rx;exact SeqAt.EqAt.str_bool a t' b
  | int b=>obtain ⟨t,rfl⟩:=rx;exact SeqAt.EqAt.str_int a t' b t
  | str b=>obtain ⟨t,rfl⟩:=rx;exact SeqAt.EqAt.str_str a t' b t
  | _=>exact absurd (show false=true from fx) DH
 | _=>exact absurd (show false=true from fy) DH
noncomputable def eqU(x:V)(u:Value):Bool:=match u with
 | .none=>eqV .non x
 | .bool b=>eqV (.bl b) x
 | .int i _=>eqV (.int i) x
 | .str z _=>eqV (.str z) x
 | _=>false
theorem Aj{x y:V}{u:Value}(r:aB y u)(f:iC y=true):eqU x u=eqV y x:=by
 cases y with
 | non=>cases r;rfl
 | bl b=>cases r;rfl
 | int i=>obtain ⟨t,rfl⟩:=r;rfl
 | str z=>obtain ⟨t,rfl⟩:=r;rfl
 | _=>exact absurd (show false=true from f) DH
theorem m9{A:Around}{s:Shared}{x:V}{v:Value}(rx:aB x v)(fx:iC x=true):∀ {xs:List V} {us:List Value},aw xs us->xs.all iC=true->∀ u∈us,SeqAt.EqAt A s u v (eqU x u)
 | _,_,.nil,_=>fun u hu=>by cases hu
 | y::xs,u::us,.cons r t,f=>fun u' hu=>by
  rw [List.all_cons,DM] at f
  rcases Dx.mp hu with rfl | hu
  ·rw [Aj r f.1];exact eqAt_V r rx f.1 fx
  ·exact m9 rx fx t f.2 u' hu
theorem qK:ax X (.builtin "len") (fun xs H Q=>∃ p ys,xs=[.ref p]/\(SqL X.K H p ys\/SqT X.K H p ys)/\Q (.int ys.length) H):=by
 intro pins s σ H xs us Q I r h;obtain ⟨p,ys,rfl,hq,q⟩:=h;obtain ⟨u,rfl,rx⟩:=bC r;cases rx;have hn:=ku
 rcases hq with hq | hq
 ·obtain ⟨its,r',pl,hz⟩:=I.list hq
  have hlen:=r'.length;exact Calls.call_len_list pl.isList (by simp only [Ds]<;>omega) ⟨.int ys.length,H,I.tok _,⟨s.toks+1,by rw [Ds,hlen]⟩,q⟩
 ·obtain ⟨its,r',pl,hz⟩:=I.tuple hq
  have hlen:=r'.length;exact len_tuple pl (by simp only [Ds]<;>omega) ⟨.int ys.length,H,I.tok _,⟨s.toks+1,by rw [Ds,hlen]⟩,q⟩
theorem ax.or{f:Value}{r r':List V->Hp->VK->Prop}(h:ax X f r)(h':ax X f r'):ax X f (fun xs H Q=>r xs H Q\/r' xs H Q):=by
 intro pins s σ H xs us Q I rs q
 rcases q with q | q
 ·exact h pins s σ H xs us Q I rs q
 ·exact h' pins s σ H xs us Q I rs q
theorem qJ:ax X (.type "list") (fun xs H Q=>∃ p ys,xs=[.ref p]/\(SqL X.K H p ys\/SqT X.K H p ys)/\∀ l,H l=none->Q (.ref l) (upd H l (.lst ys))):=by
 intro pins s σ H xs us Q I r h;obtain ⟨p,ys,rfl,hq,q⟩:=h;obtain ⟨u,rfl,rx⟩:=bC r;cases rx
 have fin:∀ (its:List Value),aw ys its->ys.length<=sizeLine->∀ (h':Heap) (c':Nat),(∀ b o',s.heap.get? b=some o'->h'.get? b=some o') ->
  h'.get? s.heap.objs.size=some { cls:= .type "list",dict:=none,data:= .seq its.toArray c',slots := #[] }->EP X pins σ Q (.ref s.heap.objs.size) { s with heap:=h' }:=fun its r' hz h' c' kp e =>
  ⟨.ref s.heap.objs.size,_,I.laid (t':=s.toks) kp (DE _) (show bt X.prog X.w _ h' _ (.lst ys) from ⟨hz,its,c',r',e⟩),rfl,q _ (I.hok.fresh (DE _))⟩
 rcases hq with hq | hq
 ·obtain ⟨its,r',pl,hz⟩:=I.list hq
  have hlen:=r'.length;obtain ⟨o,ho,hc,n,hd⟩:=pl.isList;exact call_list_seq p (.inl rfl) ho hc hd (fun h' c' kp e=>fin its r' hz h' c' kp e) (by simp only [Ds]<;>omega)
 ·obtain ⟨its,r',pl,hz⟩:=I.tuple hq
  have hlen:=r'.length;obtain ⟨o,ho,hc,n,hd⟩:=pl;exact call_list_seq p (.inr rfl) ho hc hd (fun h' c' kp e=>fin its r' hz h' c' kp e) (by simp only [Ds]<;>omega)
theorem oE:ax X (.type "tuple") (fun xs H Q=>∃ p ys,xs=[.ref p]/\((SqL X.K H p ys/\∀ l,H l=none->Q (.ref l) (upd H l (.tup ys)))\/(SqT X.K H p ys/\Q (.ref p) H))):=by
 intro pins s σ H xs us Q I r h;obtain ⟨p,ys,rfl,h⟩:=h;obtain ⟨u,rfl,rx⟩:=bC r;cases rx
 rcases h with ⟨hq,q⟩ | ⟨hq,q⟩
 ·obtain ⟨its,r',pl,hz⟩:=I.list hq
  have hlen:=r'.length;refine call_tuple_list pl.isList (fun h' kp=> ?_) (by simp only [Ds]<;>omega);have I1:Inv X pins σ H { s with heap:=h' }:=I.kept (t':=s.toks) kp
  have I2:Inv X pins σ (upd H h'.objs.size (.tup ys)) { s with heap:=h'.push { cls:= .type "tuple",data:= .seq its.toArray } } :=
   I1.laid (t':=s.toks) (fun b o e=>Dm _ e) (DE _) (show bt X.prog X.w _ _ _ (.tup ys) from ⟨hz,its,r',tU.new _ _⟩)
  exact ⟨.ref h'.objs.size,_,I2,rfl,q _ (I1.hok.fresh (DE _))⟩
 ·obtain ⟨its,r',pl,hz⟩:=I.tuple hq
  exact call_tuple_same pl ⟨.ref p,H,I,rfl,q⟩
noncomputable def tyV(K:F2)(T:String)(x:V)(H:Hp):Prop:=match x with
 | .str _=>T = "str"
 | .int _=>T = "int"
 | .ref p=>(T = "list" /\ ∃ xs,SqL K H p xs)\/(T = "tuple" /\ ∃ o,K.lookup p=some o/\o.cls = .type "tuple" /\ o.dict=none) \/
  (T = "dict" /\ ((∃ kvs,H p=some (.dK kvs))\/∃ kvs,H p=some (.dT kvs)))\/(T = "set" /\ ∃ S n,H p=some (.set S n))
 | _=>False
theorem tyV_is{pins:List (Addr×Obj)}{σ:St}{H:Hp}{s:Shared}{T:String}{x:V}{v:Value}(I:Inv X pins σ H s)(r:aB x v)(ty:tyV X.K T x H) :
 s.TypeIs v T/\∀ a,v = .ref a->∃ ob,s.heap.get? a=some ob/\ob.dict=none:=by
 cases x with
 | str z =>
  obtain ⟨t,rfl⟩:=r;cases (show T = "str" from ty);exact ⟨typeIs_str s z t,fun _ e=>nomatch e⟩
 | int i =>
  obtain ⟨t,rfl⟩:=r;cases (show T = "int" from ty);exact ⟨typeIs_int s i t,fun _ e=>nomatch e⟩
 | ref p =>
  cases r
  rcases ty with ⟨rfl,xs,hq⟩ | ⟨rfl,o,hk,hc,hd⟩ | ⟨rfl,hk⟩ | ⟨rfl,S,n,hk⟩
  ·obtain ⟨its,_,pl,_⟩:=I.list hq
   refine ⟨pl.isList.typeIs,fun a e=> ?_⟩;cases e;obtain ⟨o,n,e,c,hd,_⟩:=pl;exact ⟨o,e,hd⟩
  ·refine ⟨⟨o,I.kIn p o hk,hc⟩,fun a e=> ?_⟩
   cases e;exact ⟨o,I.kIn _ o hk,hd⟩
  ·have z:∃ o,s.heap.get? p=some o/\o.ExactDict:=by
    rcases hk with ⟨kvs,hk⟩ | ⟨kvs,hk⟩
    ·obtain ⟨_,_,_,_,o,_,_,e,ex,_⟩:=I.hok p _ hk
     exact ⟨o,e,ex⟩
    ·obtain ⟨_,_,_,_,o,_,_,e,ex,_⟩:=I.hok p _ hk
     exact ⟨o,e,ex⟩
   obtain ⟨o,e,ex⟩:=z;refine ⟨⟨o,e,ex.1⟩,fun a e2=> ?_⟩;cases e2;exact ⟨o,e,ex.2.1⟩
  ·obtain ⟨o,_,_,_,e,ex,_⟩:=I.hok p _ hk
   refine ⟨⟨o,e,ex.1⟩,fun a e2=> ?_⟩;cases e2;exact ⟨o,e,ex.2.1⟩
 | _=>exact False.elim ty
noncomputable def tBM(K:F2)(T:String)(r:V->List V->Hp->VK->Prop)(to:TE)(t:TA):TE:=fun σ H Q=>to σ H fun x H1=>tyV K T x H1/\t σ H1 fun xs H2=>r x xs H2 Q
variable{o e:Expr}{es:List Expr}{to:TE}{t:TA}{name:Str}{apos cpos:Pos}{T id:String}{r:V->List V->Hp->VK->Prop}
theorem vM(pa:PlainAttrs T)(slot:Slot T name id)(hty:typeOf (.builtin id)=pure (.type "method_descriptor"))(hm:MtR X id r)(ho:PE X o to)(ha:PA X (e::es) t)
 (hbase:attributeBase o name X.env (eval o X.env)=eval o X.env:=by rfl)
 (hfew:((backTo cpos (starEach (e::es) X.env)).all (fun x => !x.1)&&(backToKw cpos (keywordEach [] X.env)).all (fun x=>x.1.isSome)
   && decide ((e::es).length+([]:List Keyword).length+(if ([]:List Keyword).isEmpty then 0 else 1) < 30))=true:=by rfl)
 (hline:(apos.endLine == cpos.line)=true:=by rfl) (hs:starEach (e::es) X.env=(false,eval e X.env)::starEach es X.env:=by rfl) (hplain:(backTo cpos (starEach es X.env)).any (·.1)=false:=by rfl) :
 PE X (.Call (.Attribute o name apos) (e::es) [] cpos) (tBM X.K T r to t):=by
 intro pins s σ H Q I h;refine wpAny_Call_method_late hbase hfew hline rfl (thn (ho pins s σ H _ I h) fun v s1 ⟨x,H1,I1,r1,ty,q1⟩=> ?_);obtain ⟨h1,h2⟩:=tyV_is I1 r1 ty;refine ⟨T,id,pa,slot,hty,h1,h2,?_⟩;have hA:=ha cpos pins s1 σ H1 _ I1 q1;rw [hs] at hA ⊢;refine Calls.callWith_builtin (by show (false||(backTo cpos (starEach es X.env)).any (·.1))=false;rw [hplain]<;>rfl) (Calls.evalArgs_plain ?_)
 exact thn hA fun us s2 ⟨vs,H2,I2,r2,q2⟩=>hm pins s2 σ H2 x vs v us Q I2 r1 r2 q2
end
noncomputable def MtM(X:Cx)(id:String)(r:V->List V->Hp->VK->Prop):Prop :=
 ∀ (pins:List (Addr×Obj)) (s:Shared) (σ:St) (H:Hp) (x:V) (xs:List V) (v:Value) (us:List Value) (Q:VK),Inv X pins σ H s->aB x v->aw xs us->r x xs H Q ->
  wpAny (model X.prog X.w) X.A (call (.builtin id) (v::us)) (EP X pins σ Q) X.xe s
theorem aw.one:∀ {x:V} {us:List Value},aw [x] us->∃ u,us=[u]/\aB x u
 | _,_,.cons r .nil=>⟨_,rfl,r⟩
theorem aw.rep{xs:List V}{us:List Value}(h:aw xs us):∀ k:Nat,aw (List.replicate k xs).flatten (List.replicate k us).flatten
 | 0=> .nil
 | k+1=>by
  rw [ED,ED,E5,E5];exact aw.append h (aw.rep h k)
theorem pi(its:List Value):∀ (k:Nat) (acc:List Value),
 List.foldl (fun x1 x2=>x1++x2) acc.toArray (List.replicate k its.toArray)=(acc++(List.replicate k its).flatten).toArray
 | 0,acc=>by simp
 | k+1,acc=>by
  have e:acc.toArray++its.toArray=(acc++its).toArray:=by simp
  have e2:(acc++its)++(List.replicate k its).flatten=acc++(List.replicate (k+1) its).flatten:=by
   rw [ED,E5,EF]
  rw [<- e2,<- pi its k (acc++its),<- e,ED,List.foldl_cons]
section
variable{X:Cx}{pins:List (Addr×Obj)}{σ:St}{H:Hp}{s:Shared}{l b:Addr}{xs ys zs:List V}
theorem Inv.lset{its its':List Value}{n:Nat}{f:Array Value->Array Value}{t':Nat}(I:Inv X pins σ H s)(hH:H l=some (.lst xs))
 (e:s.heap.get? l=some { cls:= .type "list",data:= .seq its.toArray n }) (hf:f its.toArray=its'.toArray) (hv:aw ys its') (hz:ys.length<=sizeLine) :
 Inv X pins σ (upd H l (.lst ys)) { s with heap:=s.heap.update l (Obj.mapSeq f),toks:=t' }:=by
 have q:=PySem.IsL.update e f;rw [hf] at q;refine I.write (x:=l) (e:=l) (by rw [hH];exact trivial) (.inl rfl) (fun b' u hb hu=>(Fi s.heap (Obj.mapSeq f) (Ne.symm hb)).trans hu) ⟨_,q⟩ ?_;exact ⟨hz,its',_,hv,q⟩
theorem Inv.lnew{its:List Value}{t':Nat}(I:Inv X pins σ H s)(hv:aw ys its)(hz:ys.length<=sizeLine) :
 Inv X pins σ (upd H s.heap.objs.size (.lst ys)) { s with heap:=s.heap.push { cls:= .type "list",data:= .seq its.toArray },toks:=t' } :=
 I.laid (fun _ _ q=>Dm _ q) (DE _) ⟨hz,its,0,hv,Dw _ rfl⟩
theorem Inv.fresh(I:Inv X pins σ H s):H s.heap.objs.size=none:=I.hok.fresh (DE _)
theorem Inv.lstM(I:Inv X pins σ H s)(hH:H l=some (.lst xs)):xs.length<=sizeLine/\∃ (its:List Value) (n:Nat),aw xs its/\xs.length=its.length/\s.heap.get? l=some { cls:= .type "list",data:= .seq its.toArray n }:=by
 obtain ⟨z,its,n,r,e⟩:=I.hok l _ hH;exact ⟨z,its,n,r,r.length,e⟩
theorem m8{n:Nat}(h:n<=sizeLine):Builtin.List.listTooLong n=false:=by
 unfold Builtin.List.listTooLong;exact DS (by omega)
end
section
variable{X:Cx}
noncomputable def vH:V->List V->Hp->VK->Prop:=fun x vs H Q=>∃ l xs y,x = .ref l/\vs=[y]/\H l=some (.lst xs)/\xs.length < sizeLine/\Q .non (upd H l (.lst (xs++[y])))
theorem kq:MtM X "list.append" vH:=by
 intro pins s σ H x vs v us Q I rx rv h;obtain ⟨l,xs,y,rfl,rfl,hH,hz,q⟩:=h;cases rx;obtain ⟨u,rfl,ru⟩:=rv.one;obtain ⟨z,its,n,r,hl,e⟩:=I.lstM hH;refine call_meets F.slot_list_append ⟨_,e,rfl⟩ F.entry_list_append (F.args_list_append_2 _ _) (PySem.list_append l its.toArray n u (by rw [Ds];omega)) ⟨e,?_⟩;refine ⟨.non,_,I.lset (its':=its++[u]) hH e (by simp) (r.append (.cons ru .nil)) ?_,rfl,q⟩;rw [DD,List.length_singleton];omega
noncomputable def vG:V->List V->Hp->VK->Prop:=fun x vs H Q=>∃ l b xs zs,x = .ref l/\vs=[.ref b]/\H l=some (.lst xs)/\H b=some (.lst zs)/\xs.length+zs.length<=sizeLine/\Q .non (upd H l (.lst (xs++zs)))
theorem wU:MtM X "list.extend" vG:=by
 intro pins s σ H x vs v us Q I rx rv h;obtain ⟨l,b,xs,zs,rfl,rfl,hH,hB,hz,q⟩:=h;cases rx;obtain ⟨u,rfl,ru⟩:=rv.one;cases ru;obtain ⟨z,its,n,r,hl,e⟩:=I.lstM hH;obtain ⟨z2,its2,n2,r2,hl2,e2⟩:=I.lstM hB
 have hsz:its.toArray.size+its2.toArray.size<=sizeLine:=by rw [Ds,Ds];omega
 have hlong:¬ (!its.toArray.isEmpty&&Builtin.List.listTooLong (its.toArray.size+its2.toArray.size))=true:=by
  rw [m8 hsz,EN];exact DH
 refine call_meets F.slot_list_extend ⟨_,e,rfl⟩ F.entry_list_extend (F.args_list_extend_2 _ _)
  (AutoSeq1.list_extend_list_list_0 l its.toArray n b its2.toArray n2 hlong (by rw [Ds];omega) (by omega)) ⟨e,e2,?_⟩
 refine ⟨.non,_,I.lset (its':=its++its2) hH e (by simp) (r.append r2) ?_,rfl,q⟩;rw [DD];omega
noncomputable def rCat:R2:=fun x y H Q=>∃ l b xs zs,x = .ref l/\y = .ref b/\H l=some (.lst xs)/\H b=some (.lst zs)/\xs.length+zs.length<=sizeLine/\∀ p,H p=none->Q (.ref p) (upd H p (.lst (xs++zs)))
theorem op_cat:OpR X (binaryOp .Add) rCat:=by
 intro pins s σ H x y v u Q I rx ry h;obtain ⟨l,b,xs,zs,rfl,rfl,hH,hB,hz,q⟩:=h;cases rx;cases ry;obtain ⟨z,its,n,r,hl,e⟩:=I.lstM hH;obtain ⟨z2,its2,n2,r2,hl2,e2⟩:=I.lstM hB;refine PySem.P.add_list e e2 ?_ (by rw [Ds,Ds];omega)
 have ea:its.toArray++its2.toArray=(its++its2).toArray:=by simp
 rw [ea];exact ⟨.ref _,_,I.lnew (t':=s.toks) (r.append r2) (by rw [DD];omega),rfl,q _ I.fresh⟩
noncomputable def rRep:R2:=fun x y H Q=>∃ l k xs,x = .ref l/\y = .int k/\H l=some (.lst xs) /\ -(2 ^ 63)<=k/\k < 2 ^ 63/\xs.length * k.toNat<=sizeLine /\
 ∀ p,H p=none->Q (.ref p) (upd H p (.lst (List.replicate k.toNat xs).flatten))
theorem B0{α:Type}(xs:List α)(k:Nat):(List.replicate k xs).flatten.length=k * xs.length:=by
 induction k with
 | zero=>simp
 | succ k ih=>rw [ED,E5,DD,ih,Nat.succ_mul,Nat.add_comm]
theorem op_rep:OpR X (binaryOp .Mult) rRep:=by
 intro pins s σ H x y v u Q I rx ry h;obtain ⟨l,k,xs,rfl,rfl,hH,h1,h2,hz,q⟩:=h;cases rx;obtain ⟨t,rfl⟩:=ry;obtain ⟨z,its,n,r,hl,e⟩:=I.lstM hH
 have hlen:its.toArray.size * k.toNat<=sizeLine:=by rw [Ds,<- hl];exact hz
 have hcap:¬ its.toArray.size * k.toNat > (2 ^ 63 - 1) / 8:=by
  have:(sizeLine:Nat)<=(2 ^ 63 - 1) / 8:=by decide
  omega
 have hfit:¬ (!Builtin.List.listFitsIndex k)=true:=by
  rw [fitsIndex_both h1 h2];exact DH
 have hlong:¬ Builtin.List.listTooLong (its.toArray.size * k.toNat)=true:=by
  rw [m8 hlen];exact DH
 have hnew:List.foldl (fun x1 x2=>x1++x2) #[] (List.replicate (if its.toArray.isEmpty=true then 0 else k.toNat) its.toArray)=(List.replicate k.toNat its).flatten.toArray:=by
  have f0:∀ m:Nat,List.foldl (fun x1 x2=>x1++x2) #[] (List.replicate m its.toArray)=(List.replicate m its).flatten.toArray:=fun m=>by
   have:=pi its m [];rw [Eu] at this;exact this
  rw [f0]
  cases its with
  | nil=>simp
  | cons a r'=>rw [if_neg (by simp)]
 refine wpAny_binaryOp_repeat_ref (T := "list") (U := "int") (by decide) ⟨_,e,rfl⟩ (fun s'=>typeIs_int s' k t) noFill_list_mul F.fills_int_mul F.slot_int_rmul repeat_list F.slot_int_index.lookup
  (call_meets F.slot_int_rmul (typeIs_int s k t) F.entry_int_rmul (F.args_int_rmul_2 _ _) (int___rmul___int_list k t l its.toArray n)
    ⟨e,rfl,⟨_,e,rfl⟩,call_meets F.slot_list_mul ⟨_,e,rfl⟩ F.entry_list_mul (F.args_list_mul_2 _ _) (AutoListH.list___mul___list_int_3 l its.toArray n k t hfit hcap hlong) ⟨e,?_⟩⟩)
 rw [hnew];exact ⟨.ref _,_,I.lnew (t':=s.toks) (r.rep k.toNat) (by rw [B0,Nat.mul_comm];exact hz),rfl,q _ I.fresh⟩
end
section
variable{prog:Program}{w:World}{A:Around}{E:Value->Shared->Prop}{s:Shared}
end
section
variable{X:Cx}
end
end L2
namespace Att
open PySem PySem.W PySem.Calls PyProof.Rows
theorem lM{P:Params}{h:Heap}:∀ (ns:List Int) (vs:List Value),WellAll P h vs (ns.map WData.int)->IntsAre vs ns:=by
 intro ns
 induction ns with
 | nil =>
  intro vs w;rw [Fa] at w;cases w;exact .nil
 | cons n ns ih =>
  intro vs w;rw [DJ] at w
  cases w with
  | cons a b =>
   cases a;exact .cons _ _ (ih _ b)
theorem wx{l:OpenLaw}{n:Nat}(hn:l.most=some n){P:Params}{h:Heap}{args:List WData}{vals:List Value}
 (hpre:l.row.toRowW.claim.pre args=true) (hwl:WellAll P h vals args) :
 ∃ a vs ns,vals=[Value.ref a]/\args=[WData.list (ns.map WData.int)]/\h.get? a=some { cls:= .type "list",data:= .seq vs.toArray }/\IntsAre vs ns/\ns.length<=n:=by
 have hsh:WShape.hasAll [] args [.list .int]=true:=(pre_splitW hpre).1;have hc:l.pre.holds [] { args:=args }=true:=(pre_splitW hpre).2;obtain ⟨d,r,rfl,h1,h2⟩:=hasAllW_cons hsh;obtain rfl:=hasAllW_nil h2;obtain ⟨xs,rfl,h3⟩:=hasW_list h1;obtain ⟨ns,rfl⟩:=items_int h3
 have hlen:ns.length<=n:=by
  unfold OpenLaw.pre at hc
  have h4:(WTm.not (.lt (.lit (.int (n:Int))) (.len (.arg 0)))).holds [] { args:=[.list (ns.map .int)] }=true:=by
   have h4:=(holds_andW hc).1;rw [hn] at h4;exact h4
  have h5:=condW_of h4 (w_not (w_lt w_lit (w_len_list (w_arg rfl))));rw [Dp] at h5
  refine Nat.le_of_not_lt fun q=> ?_
  have q':(n:Int) < ((ns.length:Nat):Int):=by omega
  first
   | (rw [Dy q'] at h5;exact absurd h5 (by decide))
   | (simp at h5;omega)
 cases hwl with
 | cons w1 w2 =>
  cases w2
  cases w1 with
  | list ho hall=>exact ⟨_,_,ns,rfl,rfl,ho,lM ns _ hall,hlen⟩
theorem wF(l:OpenLaw)(args:List WData):l.row.toRowW.claim.post args (.bool true) args=true :=
 postW_of (r:=l.row.toRowW) (X:=(true == true))
  (show WShape.has [] (.bool true) .bool=true by first | rfl | decide | simp [WShape.has,WShape.arms,WShape.armsAll])
  (show (WTm.eq .res (.lit (.bool true))).value [] { args:=args,res:=some (.bool true),after:=args }=some (.bool (true == true)) from w_eq_bool (w_res rfl) w_lit) rfl
theorem tR{l:OpenLaw}{n:Nat}{q:Program}{loose:List Str}{XP:(Str->Option Value)->Heap->Prop}{YP:World->Heap->Prop}{d:DefRec}
 (hn:l.most=some n) (hdf:d.params.defaults=[])
 (call:∀ (w:World) (s₀ s₁:Shared) (mg mb:Str->Option Value) (fa:Addr) (o:Obj) (pm cd doc:Value) (a:Addr) (vs:List Value) (ns:List Int),
   Ground q loose [] XP w s₀ mg mb s₁.heap->YP w s₁.heap ->
   s₁.heap.get? fa=some o->o.data = .func (docDef d.name d.params d.body d.scope pm cd doc)->s₁.heap.CodeRec cd d.name->mg d.name=some (.ref fa) ->
   s₁.heap.get? a=some { cls:= .type "list",data:= .seq vs.toArray }->IntsAre vs ns->ns.length<=n->s₁.gens = #[] ->
   codeAny (model l.prog w) callerA (.call (.ref fa) ⟨[.ref a],[]⟩) (fun r s'=>r = .ok (.ret (.bool true))/\OldK s₁.heap s'.heap/\s'.os=s₁.os/\AllBare s'.gens) s₁) :
 WalkO q loose XP YP l.row.toRowW d [] (fun f vs=>PySem.call f vs):=by
 intro w s₀ s₁ mg mb G Y fa o pm cd doc dV kV ho hd hcd hD hmg hg args vals as hpre hlay hrd hwl hlo;obtain rfl:dV = .none:=Dflts.none hD hdf;obtain rfl:kV = .none:=Dflts.noKw hD;obtain ⟨a,vs,ns,rfl,rfl,hobj,hints,hlen⟩:=wx hn hpre hwl;refine enter_call (codeAny_mono (call w s₀ s₁ mg mb fa o pm cd doc a vs ns G Y ho (fd_plain hd) hcd hmg hobj hints hlen hg) fun r s' hq=> ?_);obtain ⟨rfl,h2,h3,h4⟩:=hq;exact ⟨.inl ⟨.bool true,.bool true,[],rfl,fun _=>rfl,.bool true,wF l _,fun _=>⟨List.Pairwise.nil,fun _ hm=>(nomatch hm)⟩⟩,h2,h3,h4⟩
section
variable{prog:Program}{w:World}{A:Around}{E:Value->Shared->Prop}{s:Shared}{K:Frag}
end
end Att
namespace L2
open PySem PySem.Spec PyProof.Rows
theorem oJ:∀ {vs:List Value} {ns:List Int},IntsAre vs ns->aw (ns.map V.int) vs
 | _,_,.nil=> .nil
 | _,_,.cons n t h=> .cons ⟨t,rfl⟩ (oJ h)
def Only(H:Hp):Prop:=∀ b,H b=none\/∃ o xs,H b=some (.frz o (.lst xs))
theorem zw{P:Program}{w:World}{K:F2}{mg mb:Str->Option Value}{CX:CXT}{k:Nat}{fa a:Addr}{fd:FuncData}{x:Str}{sp:Sp}{s₁:Shared}{vs:List Value}{ns:List Int}
 (KX:K.In s₁.heap) (hns:s₁.heap.Ns mainGlobals mg) (hb:s₁.heap.Ns builtinsNs mb) (hbb:∀ x:Str,x ≠ "__name__" -> mb x=bootBuiltins x) (hlim:s₁.heap.NoLimit) (hg:s₁.gens = #[])
 (ha:s₁.heap.get? a=some { cls:= .type "list",data:= .seq vs.toArray }) (hi:IntsAre vs ns) (hl:ns.length<=sizeLine) (hr:cV k callerA)
 (F:∀ base:Heap,K.In base->base.Ns mainGlobals mg->kF P w K mg base CX k fa fd [x] sp) (hbind:∀ (s:Shared) (u:Value),BindsTo s fd ⟨[u],[]⟩ [(x,u)])
 (hsp:∀ H:Hp,Only H->SqL K H a (ns.map V.int)->sp [.ref a] H (fun v _=>v = .bl true) fun _ _ _=>False)
 (hCX:∀ H e s',CX [] H s₁ (fun _ _ _=>False) e s'->False) :
 codeAny (model P w) callerA (.call (.ref fa) ⟨[.ref a],[]⟩) (fun r s'=>r = .ok (.ret (.bool true))/\OldK s₁.heap s'.heap/\s'.os=s₁.os/\AllBare s'.gens) s₁:=by
 have rv:=oJ hi;have lenV:=hi.length
 have core:∀ H:Hp,Only H->SqL K H a (ns.map V.int)->HOk P w H s₁.heap->(∀ b,H b≠none->b=a)->(H a≠none->K.lookup a=none) ->
  codeAny (model P w) callerA (.call (.ref fa) ⟨[.ref a],[]⟩) (fun r s'=>r = .ok (.ret (.bool true))/\OldK s₁.heap s'.heap/\s'.os=s₁.os/\AllBare s'.gens) s₁:=by
  intro H hO hS hok hA hK
  have base_of:∀ {b:Addr} {o:Obj},s₁.heap.get? b=some o->H b=none->(qu s₁.heap H).get? b=some o:=fun e n=>zN e n
  have noA:∀ {b:Addr} {o:Obj} {es:Array DictEntry} {ep:Nat},s₁.heap.get? b=some o->o.data = .dict es ep->H b=none:=fun {b o es ep} e d=>by
   cases q:H b with
   | none=>rfl
   | some u =>
    have e':b=a:=hA b (by rw [q];simp);subst e';rw [ha] at e;cases e;have d':Data.seq vs.toArray _=Data.dict es ep:=d;cases d'
  have nsK:∀ {b:Addr} {m:Str->Option Value},s₁.heap.Ns b m->(qu s₁.heap H).Ns b m:=fun {b m} ⟨o,es,ep,e,d,r⟩=>⟨o,es,ep,base_of e (noA e d),d,r⟩
  have hKb:K.In (qu s₁.heap H):=fun b o e=>base_of (KX b o e) (by
   cases q:H b with
   | none=>rfl
   | some u =>
    have e':b=a:=hA b (by rw [q];simp);subst e'
    rw [hK (by rw [q];simp)] at e;cases e)
  have hM:Mod K mg (qu s₁.heap H):=⟨hKb,nsK hns,⟨mb,nsK hb,hbb⟩,let ⟨mc,h1,h2⟩:=hlim;⟨mc,nsK h1,h2⟩⟩;have e0:CD P w K mg (qu s₁.heap H) callerA [] s₁ H:=⟨rfl,hM,fun b o e=>BX e,Nat.le_of_eq (xb _ _),trivial,fun b hb=>absurd (show b∈([]:List Addr) from hb) (by simp),hok,.of_eq hg⟩
  refine codeAny_mono ((F _ hKb (nsK hns)).run callerA [] s₁ H ⟨[.ref a],[]⟩ [.ref a] [.ref a] _ _ hr e0 (hbind s₁ (.ref a)) (.cons rfl .nil) (hsp H hO hS)) fun r s' h=> ?_
  cases r with
  | error e=>exact (hCX H e s' h).elim
  | ok fl =>
   cases fl with
   | next=>exact False.elim h
   | brk=>exact False.elim h
   | cont=>exact False.elim h
   | ret u =>
    obtain ⟨v,H',os,bare,un,hok',r',q⟩:=h;have q':v = .bl true:=q;subst q';obtain rfl:u=Value.bool true:=r';refine ⟨rfl,OldK.of_keep fun b o e=> ?_,os,bare⟩
    cases q:H b with
    | none=>exact un.keep b o e q (by intro z;exact absurd (show b∈([]:List Addr) from z) (by simp)) (by simp)
    | some u =>
     rcases hO b with z | ⟨ob,xs,z⟩
     ·rw [q] at z;cases z
     ·have z2:=un.frzs b ob _ z
      obtain ⟨e1,_⟩:=hok b _ z;obtain ⟨e2,_⟩:=hok' b _ z2;rw [e] at e1;cases e1;exact e2
 cases hk:K.lookup a with
 | some o =>
  have e:=KX a o hk;rw [ha] at e;cases e
  refine core (fun _=>none) (fun _=> .inl rfl) (.inr ⟨_,vs.toArray,_,hk,rfl,rfl,rfl,by rw [Ds,lenV];exact hl,by simpa using rv⟩) (fun b u z=>by have z':(none:Option HO)=some u:=z;cases z') (fun b z=>absurd rfl z) fun z=>absurd rfl z
 | none =>
  refine core (fun b=>if b=a then some (.frz { cls:= .type "list",data:= .seq vs.toArray } (.lst (ns.map V.int))) else none) (fun b=> ?_) (.inl (.inr ⟨{ cls:= .type "list",data:= .seq vs.toArray },if_pos rfl⟩)) (fun b u z=> ?_) (fun b z=> ?_) fun _=>hk
  ·by_cases hb:b=a
   ·exact .inr ⟨_,_,if_pos hb⟩
   ·exact .inl (if_neg hb)
  ·by_cases hb:b=a
   ·have z':=(if_pos hb).symm.trans z
    cases z';subst hb;exact ⟨ha,by rw [Dp];exact hl,vs,_,rv,ha⟩
   ·have z':=(if_neg hb).symm.trans z
    cases z'
  ·by_cases hb:b=a
   ·exact hb
   ·exact absurd (if_neg hb) z
abbrev KOf{K:F2}{h:Heap}(_:K.In h):F2:=K
theorem AO{l:PySem.W.OpenLaw}{n k:Nat}{q:Program}{loose:List Str}{XP:(Str->Option Value)->Heap->Prop}{YP:World->Heap->Prop}{d:DefRec}{K:Params->F2}{CX:World->CXT}{sp:World->Sp}{x:Str}
 (hn:l.most=some n) (hn2:n<=sizeLine) (hdf:d.params.defaults=[]) (hr:cV k callerA)
 (hY:∀ (w:World) (h:Heap),YP w h->(K w.params).In h)
 (F:∀ (w:World) (mg:Str->Option Value) (fa:Addr) (h:Heap),(K w.params).In h->h.Ns mainGlobals mg->mg d.name=some (.ref fa) ->
   ∃ fd:FuncData,(∀ (s:Shared) (u:Value),BindsTo s fd ⟨[u],[]⟩ [(x,u)]) /\
    ∀ base:Heap,(K w.params).In base->base.Ns mainGlobals mg->kF l.prog w (K w.params) mg base (CX w) k fa fd [x] (sp w))
 (hsp:∀ (w:World) (H:Hp) (a:Addr) (ns:List Int),ns.length<=n->Only H->SqL (K w.params) H a (ns.map V.int)->sp w [.ref a] H (fun v _=>v = .bl true) fun _ _ _=>False)
 (hCX:∀ (w:World) (H:Hp) (s:Shared) (e:Value) (s':Shared),CX w [] H s (fun _ _ _=>False) e s'->False) :
 PySem.W.WalkO q loose XP YP l.row.toRowW d [] (fun f vs=>PySem.call f vs):=by
 refine Att.tR hn hdf fun w s₀ s₁ mg mb fa o pm cd doc a vs ns G Y ho hd hcd hmg hobj hints hlen hg=> ?_
 have KX:=hY w _ Y;obtain ⟨fd,hb,hF⟩:=F w mg fa _ KX G.T.g hmg
 exact zw KX G.T.g G.T.b G.T.builtins G.T.nolimit hg hobj hints (Ep hlen hn2) hr hF hb (fun H hO hS=>hsp w H a ns hlen hO hS) fun H e s'=>hCX w H s₁ e s'
noncomputable def cw(s:Stmt):Arguments:=match s with
 | .FunctionDef _ a _ _ _ _ _ _ _ _=>a
 | _=>{ posonlyargs:=[],args:=[],vararg:=none,kwonlyargs:=[],kw_defaults:=[],kwarg:=none,defaults:=[] }
def aY(s:Stmt):List Stmt:=match s with
 | .FunctionDef _ _ b _ _ _ _ _ _ _=>b
 | _=>[]
noncomputable def aa(s:Stmt):Scope:=match s with
 | .FunctionDef _ _ _ _ _ _ sc _ _ _=>sc
 | _=>{ kind:= .function,names:=[],isGenerator:=false,isCoroutine:=false }
abbrev CX0:CXT:=fun _ _ _ _ _ _=>False
structure Fun(K:F2)(x qual:Str)(st:Stmt)(f:Addr)(fd:FuncData):Prop where
 ex:∃ (oc:Value) (od:Option Addr) (kV doc pm:Value) (an:Option Addr) (cdv ct:Value) (osl:Array (Option Value)),
  fd=PySem.W.fnOf x qual (cw st) (aY st) (aa st) .none kV doc pm an cdv ct/\K.lookup f=some ⟨oc,od,.func fd,osl⟩/\PySem.W.codeIn K cdv qual=true
 kp:PySem.W.keepIn K (.ref f)=true
section
variable{P:Program}{w:World}{K:F2}{mg:Str->Option Value}{base:Heap}
theorem Fun.ok{x qual:Str}{st:Stmt}{f:Addr}{fd:FuncData}{N ps:List Str}{k:Nat}{sp:Sp}(F:Fun K x qual st f fd)(S:cW N ps (aa st))(len:∀ vs H Q E,sp vs H Q E->vs.length=ps.length)
 (hbody:∀ (cdv:Value) (A:Around) (outer:List Env) (s:Shared) (H:Hp) (vs:List V) (Q:VK) (E:XK),cV k (A.deeper (envOfC qual (aa st) s.heap.objs.size f cdv))->sp vs H Q E ->
   ∃ t,PSs (bZ CX0 P w K mg base N qual (aa st) f cdv A outer s H E).nox (aY st) t/\t { nx:=fun _ H'=>Q .non H',rt:=Q } (eB N vs) H):kF P w K mg base CX0 (k+1) f fd ps sp:=by
 obtain ⟨oc,od,kV,doc,pm,an,cdv,ct,osl,rfl,lk,hcd⟩:=F.ex
 refine Ac lk hcd S len fun A outer s H vs Q E hr hsp=> ?_
 obtain ⟨t,h,q⟩:=hbody cdv A outer s H vs Q E hr hsp;exact ⟨t,h.nox,q⟩
theorem Fun.binds{x qual:Str}{st:Stmt}{f:Addr}{fd:FuncData}{ps:List Str}(F:Fun K x qual st f fd)
 (h:∀ (kV doc pm:Value) (an:Option Addr) (cdv ct:Value) (us:List Value),us.length=ps.length->bindArgs (PySem.W.fnOf x qual (cw st) (aY st) (aa st) .none kV doc pm an cdv ct) ⟨us,[]⟩=pure (ps.zip us)):lE K fd ps []:=by
 obtain ⟨oc,od,kV,doc,pm,an,cdv,ct,osl,rfl,lk,hcd⟩:=F.ex;exact .all (h kV doc pm an cdv ct)
theorem uK{x qual:Str}{st:Stmt}{f:Addr}{oc:Value}{od an:Option Addr}{osl:Array (Option Value)}{kV doc pm cdv ct:Value}(l:K.lookup f=some ⟨oc,od,.func (PySem.W.fnOf x qual (cw st) (aY st) (aa st) .none kV doc pm an cdv ct),osl⟩)
 (c:PySem.W.codeIn K cdv qual=true) (k:PySem.W.keepIn K (.ref f)=true):Fun K x qual st f (PySem.W.fnOf x qual (cw st) (aY st) (aa st) .none kV doc pm an cdv ct):=⟨⟨oc,od,kV,doc,pm,an,cdv,ct,osl,rfl,l,c⟩,k⟩
end
theorem df{n:Nat}(h:n<=1000):n < sizeLine:=Nat.lt_of_le_of_lt h (by decide)
section
variable{X:Cx}
theorem pv(i:Nat){x:Str}{pos:Pos}(hN:X.N[i]?=some x:=by rfl)(hv:Vis X.env.scope x:=by first | exact Or.inl rfl | exact Or.inr (Or.inl rfl) | exact Or.inr (Or.inr rfl))(hd:(x == ("__debug__" : Str))=false:=by decide)
 (hcd:(x == ("__classdict__" : Str))=false:=by decide):PE X (.Name x pos) (ye i):=gN hN hv hd hcd
theorem xK:ax X (.builtin "len") (fun xs H Q=>∃ a kvs,xs=[V.ref a]/\H a=some (.dK kvs)/\Q (.int kvs.length) H):=by
 intro pins s σ H xs us Q I r h;obtain ⟨a,kvs,rfl,ha,q⟩:=h;obtain ⟨u,rfl,ru⟩:=bC r;cases ru
 exact d_len I (.inl ha) fun t s' I'=>⟨.int kvs.length,H,I',⟨t,rfl⟩,q⟩
end
def ac(H H':Hp):Prop:=∀ b o,H b=some o->H' b=some o
theorem ac.refl(H:Hp):ac H H:=fun _ _ h=>h
theorem ac.trans{H H1 H2:Hp}(a:ac H H1)(b:ac H1 H2):ac H H2:=fun c o h=>b c o (a c o h)
theorem ac.free{H H':Hp}(e:ac H H'){l:Addr}(h:H' l=Option.none):H l=Option.none:=by
 cases q:H l with
 | none=>rfl
 | some o =>
  rw [e l o q] at h;cases h
theorem ac.seq{K:F2}{H H':Hp}{a:Addr}{xs:List V}(e:ac H H')(h:SqL K H a xs):SqL K H' a xs:=by
 rcases h with (h | ⟨o,h⟩) | h
 ·exact .inl (.inl (e _ _ h))
 ·exact .inl (.inr ⟨o,e _ _ h⟩)
 ·exact .inr h
section
variable{κ:Type}[DecidableEq κ]
end
noncomputable def clF(env:Env):List (Str×NameKind)->List (Str×Addr)->List (Str×Addr)
 | [],acc=>acc
 | (n,k)::r,acc=>clF env r (if k == NameKind.free then (n,(env.cells.lookup n).getD 0)::acc else acc)
theorem nL{env:Env}{scope:Scope}(h:∀ y∈scope.names,y.2 = .free->∃ c,env.cells.lookup y.1=some c):closureFor scope env=pure (clF env scope.names []):=by
 have go:∀ (names:List (Str×NameKind)) (acc:List (Str×Addr)),(∀ y∈names,y.2 = .free->∃ c,env.cells.lookup y.1=some c) ->
  (forIn names acc fun (x:Str×NameKind) (r:List (Str×Addr))=>(match x with
    | (name,kind)=>if (kind == NameKind.free)=true then do let a <- cellOf env name;pure (ForInStep.yield ((name,a)::r)) else pure (ForInStep.yield r):Sem (ForInStep (List (Str×Addr)))))=(pure (clF env names acc):Sem (List (Str×Addr))):=by
  intro names
  induction names with
  | nil=>intro acc _;rfl
  | cons x r ih =>
   intro acc hy;obtain ⟨n,k⟩:=x
   have ih':=fun a=>ih a fun y m=>hy y (Dv _ m)
   rw [List.forIn_cons]
   cases hk:(k == NameKind.free) with
   | false =>
    dsimp only;rw [hk,if_neg DH,pure_bind]
    show _=pure (clF env r (if (k == NameKind.free)=true then _ else acc))
    rw [hk,if_neg DH];exact ih' acc
   | true =>
    obtain ⟨c,hc⟩:=hy (n,k) DC (by simpa using hk)
    have e:cellOf env n=pure c:=by unfold cellOf;rw [hc]
    dsimp only;rw [hk,if_pos rfl,e,pure_bind,pure_bind]
    show _=pure (clF env r (if (k == NameKind.free)=true then _ else acc))
    rw [hk,if_pos rfl,hc];exact ih' _
 unfold closureFor;have e:=go scope.names [] h
 show (forIn scope.names [] _ >>= _)=_
 refine (congrArg (fun z=>z >>= fun cs=>pure cs) e).trans ?_;rfl
theorem ii{env:Env}:∀ (names:List (Str×NameKind)) (acc:List (Str×Addr)),(∀ y∈names,y.2 = .free->∃ c,env.cells.lookup y.1=some c) ->
 (∀ x c,acc.lookup x=some c->env.cells.lookup x=some c)->∀ x c,(clF env names acc).lookup x=some c->env.cells.lookup x=some c
 | [],acc,_,h,x,c,e=>h x c e
 | (n,k)::r,acc,hy,h,x,c,e=>by
  refine ii r _ (fun y m=>hy y (Dv _ m)) (fun y d z=> ?_) x c e
  cases hk:(k == NameKind.free) with
  | false=>rw [hk,if_neg DH] at z;exact h y d z
  | true =>
   rw [hk,if_pos rfl] at z;obtain ⟨c',hc⟩:=hy (n,k) DC (by simpa using hk);rw [Eg] at z
   cases q:y == n with
   | true =>
    rw [q] at z
    have q':y=n:=by simpa using q
    subst q';have hc':env.cells.lookup y=some c':=hc;rw [hc'] at z ⊢;exact z
   | false=>rw [q] at z;exact h y d z
theorem jZ{env:Env}:∀ (names:List (Str×NameKind)) (acc:List (Str×Addr)) (x:Str),((x,NameKind.free)∈names\/∃ c,acc.lookup x=some c)->∃ c,(clF env names acc).lookup x=some c
 | [],acc,x,h=>by
  rcases h with h | h
  ·cases h
  ·exact h
 | (n,k)::r,acc,x,h=>by
  refine jZ r _ x ?_
  have keep:(∃ c,acc.lookup x=some c)->∃ c,(if (k == NameKind.free)=true then (n,(env.cells.lookup n).getD 0)::acc else acc).lookup x=some c:=fun hZ=>by
   obtain ⟨c,hc⟩:=hZ
   split
   ·rw [Eg]
    split
    ·exact ⟨_,rfl⟩
    ·exact ⟨c,hc⟩
   ·exact ⟨c,hc⟩
  rcases h with h | h
  ·rcases Dx.mp h with e | e
   ·have e1:x=n:=congrArg Prod.fst e
    have e2:NameKind.free=k:=congrArg Prod.snd e;subst e1 e2;refine .inr ⟨(List.lookup x env.cells).getD 0,?_⟩;rw [if_pos (by rfl),Eg,EW]
   ·exact .inl e
  ·exact .inr (keep h)
theorem cJ{env:Env}:∀ {names:List (Str×NameKind)} {x:Str} {k:NameKind},
 (names.map fun (n,k)=>if (k == NameKind.free&&env.scope.kind == .function&&env.kindOf n == some .cell) then (n,NameKind.cell) else (n,k)).lookup x=some k ->
 (names.lookup x=some k)\/(k = .cell/\names.lookup x=some .free)
 | [],_,_,h=>by simp at h
 | (n,k')::r,x,k,h=>by
  have ih := @cJ env r x k;have h:List.lookup x ((if (k' == NameKind.free&&env.scope.kind == .function&&env.kindOf n == some .cell)=true then (n,NameKind.cell) else (n,k'))::_)=some k:=h
  by_cases hc:(k' == NameKind.free&&env.scope.kind == .function&&env.kindOf n == some .cell)=true
  ·rw [if_pos hc,Eg] at h
   rw [Eg]
   cases hx:x == n with
   | true =>
    rw [hx] at h;have h':some NameKind.cell=some k:=h;cases h'
    have:k'=NameKind.free:=by
     have:=(DM _ _).mp ((DM _ _).mp hc).1;simpa using this.1
    subst this;exact .inr ⟨rfl,rfl⟩
   | false=>rw [hx] at h;exact ih h
  ·rw [if_neg hc,Eg] at h
   rw [Eg]
   cases hx:x == n with
   | true=>rw [hx] at h;exact .inl h
   | false=>rw [hx] at h;exact ih h
noncomputable def blk(X:Cx)(sc:Scope)(cl:List (Str×Addr))(C:Addr)(fp:List Addr)(s:Shared)(H:Hp)(N:List Str):Cx :=
 { X with env:=compEnvC sc cl C X.env,N:=N,s₀:=s,H₀:=H,outer:=X.stack,ex:=fp,fn:=fun _=>false,pn:=[],xe:=fun _ _=>False }
structure lD(X:Cx)(sc:Scope)(M tgs:List Str):Prop where
 kind:sc.kind = .function
 names:∀ y∈sc.names,y.2 = .local->sc.names.lookup y.1=some .local
 nocell:∀ y∈sc.names,y.2 ≠ .cell
 free:∀ y∈sc.names,y.2 = .free->X.env.kindOf y.1=some .cell\/X.env.kindOf y.1=some .free
 len:M.length=X.N.length
 same:∀ p∈M.zip X.N,p.1=p.2\/p.1=("" : Str)
 dummy:sc.names.lookup ("" : Str)=none
 hid:∀ x∈M,sc.names.lookup x≠some .local
section
variable{X:Cx}
theorem Inv.blk{pins:List (Addr×Obj)}{σ:St}{H:Hp}{s s4:Shared}{sc:Scope}{M tgs:List Str}{C:Addr}{fp:List Addr}{m:Str->Option Value}(I:Inv X pins σ H s)(B:lD X sc M tgs)(hf:∀ b∈fp,oH X pins H b)(hfl:∀ b∈fp,b < s.heap.objs.size)
 (hC:s.heap.objs.size<=C) (hn:s4.heap.Ns C m) (hk:∀ b o,s.heap.get? b=some o->s4.heap.get? b=some o) (ho:s4.os=s.os) (hg:s4.gens=s.gens) :
 Inv (blk X sc (clF X.env sc.names []) C fp s H (M++tgs)) [] (σ++List.replicate tgs.length none) H s4:=by
 have hfr:∀ y∈sc.names,y.2 = .free->∃ c,X.env.cells.lookup y.1=some c:=fun y hy e=>I.ok.has _ (B.free y hy e)
 have hsub:∀ x c,(clF X.env sc.names []).lookup x=some c->X.env.cells.lookup x=some c:=ii sc.names [] hfr fun _ _ z=>by simp at z
 have hin:∀ x c,(clF X.env sc.names []).lookup x=some c->c < s.heap.objs.size:=fun x c e=>by
  obtain ⟨v,q⟩:=I.cell x c (hsub x c e);exact q.lt
 have hfree:∀ x,((relabel sc X.env).names.lookup x=some .cell\/(relabel sc X.env).names.lookup x=some .free)->sc.names.lookup x=some .free:=fun x hx=>by
  rcases hx with q | q
  ·rcases cJ q with z | z
   ·exact absurd rfl (B.nocell _ (Eh z))
   ·exact z.2
  ·rcases cJ q with z | z
   ·exact z
   ·exact absurd z.1 (by decide)
 refine ⟨⟨I.ok.mod,B.kind,I.ok.glob,I.ok.blt,hC,fun x y c h1 h2=>I.ok.inj x y c (hsub x c h1) (hsub y c h2),fun x hx=> ?_,fun x c z=>absurd z DH,I.ok.hd,I.ok.frames,.inl rfl,fun b hb=>⟨?_,fun x c e=> ?_⟩,I.bs,?_,fun b o e z=> ?_,fun b hb=> ?_,I.stack,I.stkFree⟩,
  ho,?_,Un.kept hk,⟨m,hn,fun i x v h1 h2 h3=> ?_⟩,fun x c e=> ?_,I.hok.fresh hC,fun x c e=>I.freeC x c (hsub x c e),fun p hp=>absurd (show p∈([]:List (Addr×Obj)) from hp) (by simp),I.hok.kept hk,?_⟩
 ·exact jZ sc.names [] x (.inl (Eh (hfree x hx)))
 ·exact DO (DW (hfl b hb) hC)
 ·exact (hf b hb).2.2.2.2.1 x c (hsub x c e)
 ·exact Ep I.ok.bsz I.sz
 ·rcases (hf b z).2.2.2.1 with q | q
  ·exact I.ok.noex b o e q
  ·exact absurd (DW (DA e) I.ok.bsz) (Nat.not_lt.mpr q)
 ·intro z
  rcases Dx.mp (I.stkSub b z) with q | q
  ·exact (hf b hb).2.1 q
  ·exact (hf b hb).2.2.1 q
 ·rw [hg];exact I.bare
 ·have hl:M.length=σ.length:=B.len.trans I.len.symm
  have hi:i < σ.length:=by
   by_cases hi:i < σ.length
   ·exact hi
   ·rw [Eb (by omega),ES] at h2
    split at h2<;>cases h2
  rw [DN hi] at h2;have h1:(M++tgs)[i]?=some x:=h1;rw [DN (by omega)] at h1;have hmem:x∈M:=DF h1
  have hx:sc.names.lookup x=some .free:=by
   rcases h3 with q | q | q
   ·rcases cJ q with z | z
    ·exact absurd z (B.hid x hmem)
    ·exact absurd z.1 (by decide)
   ·exact hfree x (.inl q)
   ·exact hfree x (.inr q)
  have hNi:X.N[i]?=some x:=by
   have hi2:i < X.N.length:=by rw [<- I.len];exact hi
   have hz:(M.zip X.N)[i]?=some (x,X.N[i]):=by
    rw [Fp];exact ⟨h1,Do hi2⟩
   rcases B.same _ (DF hz) with q | q
   ·have q':x=X.N[i]:=q
    rw [Do hi2,q']
   ·have q':x=("" : Str):=q
    rw [q',B.dummy] at hx;cases hx
  have hk2:=B.free (x,.free) (Eh hx) rfl;obtain ⟨m0,_,hl0⟩:=I.loc;obtain ⟨u,r,l⟩:=hl0 i x v hNi h2 (.inr hk2);refine ⟨u,r,.inr ?_⟩
  rcases l with ⟨k,_⟩ | ⟨_,c,ec,hcell⟩
  ·have k':X.env.kindOf x=some .local:=k
   rcases hk2 with q | q
   ·have q':X.env.kindOf x=some .cell:=q
    rw [k'] at q';cases q'
   ·have q':X.env.kindOf x=some .free:=q
    rw [k'] at q';cases q'
  ·obtain ⟨c',ec'⟩:=jZ (env:=X.env) sc.names [] x (.inl (Eh hx))
   have:c'=c:=by
    have:=hsub x c' ec';rw [ec] at this;exact (Option.some.inj this).symm
   subst this;refine ⟨?_,c',ec',?_⟩
   ·rcases h3 with q | q | q
    ·rcases cJ q with z | z
     ·rw [hx] at z;cases z
     ·exact absurd z.1 (by decide)
    ·exact .inl q
    ·exact .inr q
   ·obtain ⟨o,e1,e2⟩:=hcell
    exact ⟨o,hk _ _ e1,e2⟩
 ·obtain ⟨v,o,e1,e2⟩:=I.cell x c (hsub x c e)
  exact ⟨v,o,hk _ _ e1,e2⟩
 ·show (σ++_).length=(M++tgs).length
  rw [DD,DD,Er,B.len,I.len]
noncomputable def vj(X:Cx)(ifs:List Expr)(t:TT):Prop :=
 ∀ (pins:List (Addr×Obj)) (s:Shared) (σ:St) (H:Hp) (Q:Bool->Hp->Prop),Inv X pins σ H s->t σ H Q ->
  wpAny (model X.prog X.w) X.A (forIn ifs true fun c r=>if r=true then do let ok <- isTrue c X.env (eval c X.env);pure (ForInStep.yield ok) else pure (ForInStep.yield r)) (TP X pins σ Q) X.xe s
def CK:TT:=fun _ H Q=>Q true H
theorem pif0:vj X [] CK:=fun pins s σ H Q I h=>wpAny_tests_nil ⟨H,I,h⟩
theorem pif1{c:Expr}{t:TT}(h:PT X c t):vj X [c] t:=fun pins s σ H Q I hw=>wpAny_tests_one (h pins s σ H Q I hw)
theorem jY{prog:Program}{w:World}{A:Around}{R:Result->Shared->Prop}{s:Shared}{elt target iter:Expr}{ifs:List Expr}{scope:Scope}{pos:Pos}{it acc:Value}{env:Env}(I:Nat->Shared->Prop)
 (turn:∀ n s,I n s->wpAny (model prog w) A (pyNext it) (fun r s₁=>match r with
   | none=>R (.ok .next) s₁
   | some v=>wpAny (model prog w) A (letOwnedTupleGo target it v) (fun _ s₁'=>wpAny (model prog w) A (assign target env v) (fun _ s₂ =>
    wpAny (model prog w) A (forIn ifs true fun c r=>if r=true then do let ok <- isTrue c env (eval c env);pure (ForInStep.yield ok) else pure (ForInStep.yield r)) (fun ok s₃ =>
     if ok=true then wpAny (model prog w) A (eval elt env) (fun x s₄ =>
      wpAny (model prog w) A (call (.builtin "list.append") [acc,x]) (fun _ s₅=>∃ m,m < n/\I m s₅) (fun _ _=>False) s₄) (fun _ _=>False) s₃
     else ∃ m,m < n/\I m s₃) (fun _ _=>False) s₂) (fun _ _=>False) s₁') (fun _ _=>False) s₁) (fun _ _=>False) s)
 (n:Nat) (h:I n s) :
 codeAny (model prog w) A (.compLoop (.ListComp elt [⟨target,iter,ifs,0⟩] scope pos) 0 it acc env) R s:=by
 refine codeAny_loop rfl I (fun n s hI=> ?_) n h
 show wpAny _ A ((compTurn (.ListComp elt [⟨target,iter,ifs,0⟩] scope pos) 0 it acc env).onRaise (fun x=>do noteFrame x env;theTreesLotGoes x)) _ _ s
 refine wpAny_noted ?_;rw [compTurn_list];refine Dl (wpAny_standAt (Dl (EQ (turn n s hI) (fun r s₁ h₁=> ?_) fun _ _ z=>z.elim)))
 cases r with
 | none=>exact Dr h₁
 | some v =>
  refine Dl (EQ h₁ (fun _ s₁' h₁'=> ?_) fun _ _ z=>z.elim);refine Dl (EQ h₁' (fun _ s₂ h₂=>Dl (EQ h₂ (fun ok s₃ h₃=> ?_) fun _ _ z=>z.elim)) fun _ _ z=>z.elim)
  cases ok with
  | false=>exact Dr ⟨rfl,h₃⟩
  | true =>
   exact Dl (Dl (EQ h₃ (fun x s₄ h₄=>Dl (EQ h₄ (fun _ s₅ h₅=>Dr (Dr ⟨rfl,h₅⟩)) fun _ _ z=>z.elim)) fun _ _ z=>z.elim))
noncomputable def Dk(J:It)(k:Nat)(g:TG)(tt:TT)(te:TE)(σ:St)(Q:VK)(H1:Hp):Prop:=∃ W:Nat->Nat->List V->Hp->Prop,(∃ m,W 0 m [] H1)/\∀ i m ys H,W i m ys H->ys.length<=sizeLine /\
 ((J.stop i H/\∀ l,H l=none->Q (.ref l) (upd H l (.lst ys)))\/(J.go i H/\∀ x H',J.yld i H x H'->g x (σ++List.replicate k none) H' fun σ2 H2=>σ2.take σ.length=σ/\tt σ2 H2 fun b H3 =>
   if b=true then te σ2 H3 fun y H4=>∃ m',m' < m/\W (i+1) m' (ys++[y]) H4 else ∃ m',m' < m/\W (i+1) m' ys H3))
def oO(wi:TI)(k:Nat)(g:TG)(tt:TT)(te:TE):TE:=fun σ H Q=>wi σ H fun J H1=>Dk J k g tt te σ Q H1
theorem HOk.track{P:Program}{w:World}{H:Hp}{h:Heap}{a:Addr}{o:HO}(x:HOk P w H h)(hn:H a=none)(new:bt P w (upd H a o) h a o):HOk P w (upd H a o) h:=fun b u e=>by
 by_cases hb:b=a
 ·subst hb
  rw [av] at e;cases e;exact new
 ·rw [ai hb] at e
  exact (x b u e).stay (fun _ _ _ q=>q) (fun c q=>by rw [ai (aj q hn)];exact q) fun c xs q=>by rw [ai (aj q hn)];exact q
theorem vq{σ σ':St}{k:Nat}(h:σ'.take σ.length=σ):∀ (i:Nat) v,(σ++List.replicate k (none:Option V))[i]?=some (some v)->σ'[i]?=some (some v):=fun i v e=>by
 by_cases hi:i < σ.length
 ·rw [DN hi,<- h,List.getElem?_take_of_lt hi] at e
  exact e
 ·rw [Eb (by omega),ES] at e
  split at e<;>cases e
theorem pw{elt tg iter:Expr}{ifs:List Expr}{sc:Scope}{M tgs:List Str}{pos pos':Pos}{wi:TI}{g:TG}{tt:TT}{te:TE}{use:Option (Value->Sem Unit)}{Qf:Value->Shared->Prop}{pins:List (Addr×Obj)}{s:Shared}{σ:St}{H:Hp}{Q:VK}(hc:X.calm=true)(B:lD X sc M tgs)(hi:PI X tg iter wi)
 (hg:∀ cl C fp s H,PG (blk X sc cl C fp s H (M++tgs)) tg g) (ht:∀ cl C fp s H,vj (blk X sc cl C fp s H (M++tgs)) ifs tt) (he:∀ cl C fp s H,PE (blk X sc cl C fp s H (M++tgs)) elt te)
 (hs:∀ x,foldedSetIterable iter X.env x=pure x) (I:Inv X pins σ H s) (h:oO wi tgs.length g tt te σ H Q)
 (fin:∀ (C D:Addr) (m:Str->Option Value) (s6:Shared) (H':Hp),Inv X pins σ H' s6->s6.heap.Ns C m->H' C=none->X.env.locals < C->X.s₀.heap.objs.size<=C->(∀ x c,X.env.cells.lookup x=some c->c≠C)->(∀ p∈X.pn++pins,p.1≠C)->Q (.ref D) H'->∀ f,compPost (model X.prog X.w) X.A X.xe use Qf (.ref D) C (.ok f) s6) :
 wpAny (model X.prog X.w) X.A (comprehension (.ListComp elt [⟨tg,iter,ifs,0⟩] sc pos) sc X.env pos' (newList []) false (eval iter X.env) use) Qf X.xe s:=by
 have hfr:∀ y∈sc.names,y.2 = .free->∃ c,X.env.cells.lookup y.1=some c:=fun y hy e=>I.ok.has _ (B.free y hy e)
 have hsub:∀ x c,(clF X.env sc.names []).lookup x=some c->X.env.cells.lookup x=some c:=ii sc.names [] hfr fun _ _ z=>by simp at z
 refine wpAny_comprehension_free (use:=use) rfl hs (nL hfr) B.kind B.names (thn (hi pins s σ H _ I h) fun xv s₁ h₁=>thn h₁ fun itv s₂ h₂=> ?_);obtain ⟨it,fp,tn,J,H2,rfl,I2,T,st2,f2,W,⟨m0,w0⟩,turn⟩:=h₂
 have hfl:∀ b∈fp,b < s₂.heap.objs.size:=fun b hb=>by
  obtain ⟨o,e,_⟩:=T.obj _ _ st2 b hb;exact DA e
 refine Ei (wpAny_newFunctionEnv B.nocell (by intro y hy;simp at hy) (fun h₁ hns₁ hsb₁=> ?_) B.kind);dsimp only at hns₁ hsb₁ ⊢
 generalize hH2:s₂.heap.push { cls:= .type "list",dict:=none,data:= .seq ([]:List Value).toArray }=HH at hns₁ hsb₁ ⊢
 have hC:HH.objs.size=s₂.heap.objs.size+1:=by rw [<- hH2,DZ]
 generalize hCC:HH.objs.size=C at hC hns₁ hsb₁ ⊢
 generalize hDD:s₂.heap.objs.size=D at hC ⊢
 have hDC:D≠C:=by omega
 have below:∀ b,b < D->b≠C/\b≠D:=fun b hb=>⟨by omega,by omega⟩
 have old:∀ b o,s₂.heap.get? b=some o->h₁.get? b=some o:=fun b o e=>hsb₁.extBut b o (below b (hDD ▸ DA e)).1 (Dm _ (hH2 ▸ Dm _ e))
 have hacc:h₁.PlainList D #[]:=⟨_,hsb₁.extBut _ _ hDC (Dm _ (by rw [<- hH2,<- hDD];exact Dw _ rfl))⟩
 have hCs:s₂.heap.objs.size<=C:=by omega
 generalize hS4:({ s₂ with heap:=h₁,toks:=s₂.toks+([]:List (Str×Value)).length }:Shared)=s₄
 have I4:Inv (blk X sc (clF X.env sc.names []) C fp s₂ H2 (M++tgs)) [] (σ++List.replicate tgs.length none) H2 s₄ :=
  I2.blk B f2 hfl hCs (by rw [<- hS4];exact hns₁) (by rw [<- hS4];exact old) (by rw [<- hS4]) (by rw [<- hS4])
 have hD4:s₄.heap.PlainList D #[]:=by rw [<- hS4];exact hacc
 have st4:tn 0 s₄.heap:=by rw [<- hS4];exact T.keep _ _ _ st2 fun b _ o e=>old b o e
 let X':=blk X sc (clF X.env sc.names []) C fp s₂ H2 (M++tgs)
 have nfs:∀ b,s₂.heap.objs.size<=b->b∉frs X.stack:=fun b hb z=>by
  rcases Dx.mp (I2.stkSub b z) with q | q
  ·rw [q] at hb;exact absurd I2.lt (Nat.not_lt.mpr hb)
  ·exact I2.nofs hb q
 have Dpin:∀ {s':Shared} {H':Hp} {its:Array Value} {n:Nat},s'.heap.get? D=some { cls:= .type "list",data:= .seq its n }->H' D=none ->
  ∀ p∈[(D,({ cls:= .type "list",data:= .seq its n }:Obj))],s'.heap.get? p.1=some p.2/\H' p.1=none/\p.1≠X'.env.locals/\p.1∉X'.fs/\∀ v,p.2.data ≠ .cell v:=fun {s' H' its n} e hn p hp=>by
  have e1:p=(D,({ cls:= .type "list",data:= .seq its n }:Obj)):=by simpa using hp
  subst e1;exact ⟨e,hn,hDC,nfs D (by omega),fun v z=>by cases z⟩
 have fpk:∀ {pl:List (Addr×Obj)} {H':Hp},(∀ p∈pl,p.1=D)->(∀ b∈fp,H' b=none)->∀ b∈fp,oH X' pl H' b:=fun {pl H'} hpl hn b hb=>by
  refine ⟨hn b hb,(below b (hDD ▸ hfl b hb)).1,fun z=> ?_,.inl hb,fun x c e=>(f2 b hb).2.2.2.2.1 x c (hsub x c e),fun p hp=> ?_⟩
  ·rcases Dx.mp (I2.stkSub b z) with q | q
   ·exact (f2 b hb).2.1 q
   ·exact (f2 b hb).2.2.1 q
  ·have hp':p∈pl:=by simpa [X',blk] using hp
   rw [hpl p hp'];exact Ne.symm (below b (hDD ▸ hfl b hb)).2
 have cellD:∀ x c,X'.env.cells.lookup x=some c->c≠D:=fun x c e z=>by
  obtain ⟨v,q⟩:=I2.cell x c (hsub x c e);have q:=q.lt;rw [z,hDD] at q;exact Fm _ q
 have loop:codeAny (model X.prog X.w) X.A (.compLoop (.ListComp elt [⟨tg,iter,ifs,0⟩] sc pos) 0 (.ref it) (.ref D) (compEnvC sc (clF X.env sc.names []) C X.env))
  (compPost (model X.prog X.w) X.A X.xe use Qf (.ref D) C) s₄:=by
  refine jY (fun n s'=>∃ i ys its k H',Inv X' [(D,{ cls:= .type "list",data:= .seq its k })] (σ++List.replicate tgs.length none) H' s'/\aw ys its.toList/\tn i s'.heap/\(∀ b∈fp,H' b=none)/\W i n ys H') ?_ m0 ?_
  ·rintro n s5 ⟨i,ys,its,k,H5,I5,hv,st5,fr5,w5⟩
   obtain ⟨hz,w5⟩:=turn i n ys H5 w5;have hD5:=I5.pin (D,{ cls:= .type "list",data:= .seq its k }) (Du _ (by simp))
   have one:∀ p∈[(D,({ cls:= .type "list",data:= .seq its k }:Obj))],p.1=D:=fun p hp=>by
    have:p=(D,({ cls:= .type "list",data:= .seq its k }:Obj)):=by simpa using hp
    rw [this]
   rcases w5 with ⟨stop,qn⟩ | ⟨go,step⟩
   ·refine thn (T.done X' rfl rfl rfl hc i _ s5 _ H5 _ I5 (fpk one fr5) st5 stop) fun r s6 ⟨hr,I6⟩=> ?_
    subst hr;obtain ⟨m6,hn6,_⟩:=I6.loc;have hn6:s6.heap.Ns C m6:=hn6;obtain ⟨e6,n6,_⟩:=I6.pin (D,{ cls:= .type "list",data:= .seq its k }) (Du _ (by simp));have hC6:H5 C=none:=I6.free;have hln:ys.length<=sizeLine:=hz;have ok8:HOk X.prog X.w (upd H5 D (.lst ys)) s6.heap:=I6.hok.track n6 ⟨hln,its.toList,k,hv,by simpa using e6⟩;have un:Un (frs X.stack) fp H2 H5 s₂.heap s6.heap:=I6.base
    have neC:∀ b o,s₂.heap.get? b=some o->b≠C/\b≠D:=fun b o e=>below b (hDD ▸ DA e)
    have un7:Un (frs X.stack) fp H2 (upd H5 D (.lst ys)) s₂.heap s6.heap:=by
     refine ⟨un.keep,un.slot,fun b o e n hx=> ?_,un.there,fun b xs e=> ?_,fun b o u e=> ?_,fun b ps e=> ?_⟩
     ·rw [ai (neC b o e).2];exact un.free b o e n hx
     ·have q:=un.tups b xs e
      rw [ai (aj q n6)];exact q
     ·have q:=un.frzs b o u e
      rw [ai (aj q n6)];exact q
     ·obtain ⟨more,q⟩:=un.tbls b ps e
      exact ⟨more,by rw [ai (aj q n6)];exact q⟩
    have I8:Inv X pins σ (upd H5 D (.lst ys)) s6:=I2.call' (ch:=fp) I6.os un7 ok8 I6.bare (fun b hb=>⟨(f2 b hb).2.2.2.1,(f2 b hb).2.1,(f2 b hb).2.2.2.2.1,(f2 b hb).2.2.2.2.2⟩);have hLC:X.env.locals < C:=DW I2.lt hCs
    have hcC:∀ x c,X.env.cells.lookup x=some c->c≠C:=fun x c e z=>by
     obtain ⟨v,q⟩:=I2.cell x c e;have q:=q.lt;rw [z] at q;exact absurd q (Nat.not_lt.mpr hCs)
    exact fin C D m6 s6 _ I8 hn6 (by rw [ai (Ne.symm hDC)];exact hC6) hLC (Ep I2.sz hCs) hcC (fun p hp z=>by
     have:=DA (I2.pin p hp).1;rw [z] at this
     exact absurd this (Nat.not_lt.mpr hCs)) (qn D n6) _
   ·refine thn (T.item X' rfl rfl rfl hc i _ s5 _ H5 _ I5 (fpk one fr5) st5 go) fun r s6 ⟨u,hr,h6⟩=> ?_
    subst hr
    refine thn h6 fun _ s7 ⟨x,H7,I7,r7,y7,st7,fr7⟩=> ?_
    have I7':=I7.pinned (fpk one fr7) (T.obj _ _ st7)
    refine thn (hg _ _ _ _ _ _ s7 _ H7 x u _ I7' r7 (step x H7 y7)) fun _ s8 ⟨σ8,H8,I8,tk8,q8⟩=> ?_
    refine thn (ht _ _ _ _ _ _ s8 σ8 H8 _ I8 q8) fun b s9 ⟨H9,I9,q9⟩=> ?_
    have weak:∀ {pl:List (Addr×Obj)} {H':Hp} {s':Shared},Inv X' pl σ8 H' s'->Inv X' pl (σ++List.replicate tgs.length none) H' s':=fun {pl H' s'} J=>J.weak (by
     have e1:σ8.length=(M++tgs).length:=J.len
     rw [e1,DD,DD,Er,B.len,I2.len]) (vq tk8)
    have fin:∀ {H':Hp} {s':Shared},Inv X' ([(D,{ cls:= .type "list",data:= .seq its k })]++km fp s7.heap) σ8 H' s'->tn (i+1) s'.heap/\∀ b∈fp,H' b=none:=fun {H' s'} J=>by
     refine ⟨T.keep _ _ _ st7 fun b hb o e=>(J.pin (b,o) (Du _ (Du _ (dj hb e)))).1,fun b hb=> ?_⟩;obtain ⟨o,e,d⟩:=T.obj _ _ st7 b hb;exact (J.pin (b,o) (Du _ (Du _ (dj hb e)))).2.1
    cases b with
    | false =>
     rw [if_neg DH] at q9 ⊢;obtain ⟨m',hm,w9⟩:=q9;exact ⟨m',hm,i+1,ys,its,k,H9,weak I9.unpinned,hv,(fin I9).1,(fin I9).2,w9⟩
    | true =>
     rw [if_pos rfl] at q9 ⊢
     refine thn (he _ _ _ _ _ _ s9 σ8 H9 _ I9 q9) fun y s10 ⟨yv,H10,I10,r10,q10⟩=> ?_
     obtain ⟨m',hm,w10⟩:=q10;obtain ⟨e10,n10,_⟩:=I10.pin (D,{ cls:= .type "list",data:= .seq its k }) (Du _ (Dz _ (by simp)))
     have hsz:its.size<=sizeLine:=by
      have e1:=hv.length
      have e2:its.toList.length=its.size:=by simp
      omega
     refine wpAny_list_append_plain (hsz:=hsz) ⟨k,e10⟩ fun h11 hl11 hs11=> ?_
     obtain ⟨k',e11⟩:=hl11
     have J0:Inv X' [] σ8 H10 s10:=I10.pins_of fun p hp=>by simp at hp
     have J1:Inv X' [] σ8 H10 { s10 with heap:=h11 }:=J0.turned (t':=s10.toks) (it:=D) (fun b o hb e=>(hs11.2 b hb).trans e) n10 hDC (.inr (by show s₂.heap.objs.size<=D;omega)) cellD (fun p hp=>by
      have hp':p∈([]:List (Addr×Obj)):=by simpa [X',blk] using hp
      simp at hp')
     have J2:Inv X' [(D,{ cls:= .type "list",data:= .seq (its.push y) k' })] σ8 H10 { s10 with heap:=h11 }:=J1.pins_of (Dpin e11 n10);refine ⟨m',hm,i+1,ys++[yv],its.push y,k',H10,weak J2,?_,?_,(fin I10).2,w10⟩
     ·rw [Array.toList_push]
      exact hv.append (.cons r10 .nil)
     ·refine T.keep _ _ _ (fin I10).1 fun b hb o e=>(hs11.2 b ?_).trans e
      exact (below b (hDD ▸ hfl b hb)).2
  ·obtain ⟨k,e⟩:=hD4
   exact ⟨0,[],#[],k,H2,I4.pins_of (Dpin e (I2.hok.fresh (by omega))),.nil,st4,fun b hb=>(f2 b hb).1,w0⟩
 exact codeAny_compStart_list loop (T.self _ _ _ _ _ st4 loop)
theorem BH{elt tg iter:Expr}{ifs:List Expr}{sc:Scope}{M tgs:List Str}{pos:Pos}{wi:TI}{g:TG}{tt:TT}{te:TE}(hc:X.calm=true)(B:lD X sc M tgs)(hi:PI X tg iter wi)
 (hg:∀ cl C fp s H,PG (blk X sc cl C fp s H (M++tgs)) tg g) (ht:∀ cl C fp s H,vj (blk X sc cl C fp s H (M++tgs)) ifs tt) (he:∀ cl C fp s H,PE (blk X sc cl C fp s H (M++tgs)) elt te)
 (hs:∀ x,foldedSetIterable iter X.env x=pure x:=by intro _;rfl):PE X (.ListComp elt [⟨tg,iter,ifs,0⟩] sc pos) (oO wi tgs.length g tt te):=by
 intro pins s σ H Q I h;rw [eval_ListComp]
 exact pw hc B hi hg ht he hs I h fun C D m s6 H' I8 hn hC hLC hsz hcC hp q f=>⟨m,hn,fun h' hs'=>⟨.ref D,H',I8.turned (t':=s6.toks) (it:=C) (fun b o hb e=>(hs'.2 b hb).trans e) hC (E7 hLC) (.inr hsz) hcC hp,rfl,q⟩⟩
end
end L2
namespace HT
open PySem PySem.Spec PyProof.Rows PySem.SeqAt
section
open PySem.SeqAt
open PySem.AutoSeq1 (wpAny_loadPart')
open PySem.MeetsSeq PySem.MeetsSeq2 PySem.MeetsSeq3
end
section
variable{prog:Program}{w:World}{A:Around}{E:Value->Shared->Prop}{s:Shared}
end
end HT
namespace L2
open PySem PySem.Spec PyProof.Rows
section
variable{X:Cx}
noncomputable def C9(K:F2)(H:Hp)(T:String):V->Prop
 | .non=>T = "NoneType"
 | .bl _=>T = "bool"
 | .int _=>T = "int"
 | .str _=>T = "str"
 | .ref p=>(T = "list" /\ ∃ xs,SqL K H p xs)\/(T = "tuple" /\ ∃ xs,SqT K H p xs)\/(T = "dict" /\ ((∃ kvs,H p=some (.dK kvs))\/∃ kvs,H p=some (.dT kvs)))
 | _=>False
def B4(T C:String):Bool:=T == C||(T == "bool" && C == "int")
def isiC(C:String):Prop:=C = "int" \/ C = "bool" \/ C = "tuple" \/ C = "list" \/ C = "str"
noncomputable def rIsi(K:F2):List V->Hp->VK->Prop:=fun xs H Q=>∃ x T C,xs=[x,.ty C]/\isiC C/\C9 K H T x/\Q (.bl (B4 T C)) H
theorem Aw:ax X (.builtin "isinstance") (rIsi X.K):=by
 intro pins s σ H xs us Q I r h;obtain ⟨x,T,C,rfl,hC,hk,q⟩:=h;obtain ⟨u,w',rfl,rx,rc⟩:=qT r;cases rc
 have fin:∀ (b:Bool) (t:Nat),b=B4 T C->EP X pins σ Q (.bool b) { s with toks:=t }:=fun b t e=>⟨.bl b,H,I.tok t,rfl,by rw [e];exact q⟩
 have fin0:∀ (b:Bool),b=B4 T C->EP X pins σ Q (.bool b) s:=fun b e=>⟨.bl b,H,I,rfl,by rw [e];exact q⟩
 cases x with
 | non =>
  cases rx;cases (show T = "NoneType" from hk)
  rcases hC with rfl | rfl | rfl | rfl | rfl
  ·exact IsiPair.NoneType_int (fin _ _ rfl)
  ·exact IsiPair.NoneType_bool (fin _ _ rfl)
  ·exact IsiPair.NoneType_tuple (fin _ _ rfl)
  ·exact IsiPair.NoneType_list (fin _ _ rfl)
  ·exact IsiPair.NoneType_str (fin _ _ rfl)
 | bl b =>
  cases rx;cases (show T = "bool" from hk)
  rcases hC with rfl | rfl | rfl | rfl | rfl
  ·exact IsiPair.bool_int (fin0 _ rfl)
  ·exact IsiPair.bool_bool (fin0 _ rfl)
  ·exact IsiPair.bool_tuple (fin _ _ rfl)
  ·exact IsiPair.bool_list (fin _ _ rfl)
  ·exact IsiPair.bool_str (fin _ _ rfl)
 | int i =>
  obtain ⟨t,rfl⟩:=rx;cases (show T = "int" from hk)
  rcases hC with rfl | rfl | rfl | rfl | rfl
  ·exact IsiPair.int_int (fin0 _ rfl)
  ·exact IsiPair.int_bool (fin _ _ rfl)
  ·exact IsiPair.int_tuple (fin _ _ rfl)
  ·exact IsiPair.int_list (fin _ _ rfl)
  ·exact IsiPair.int_str (fin _ _ rfl)
 | str z =>
  obtain ⟨t,rfl⟩:=rx;cases (show T = "str" from hk)
  rcases hC with rfl | rfl | rfl | rfl | rfl
  ·exact IsiPair.str_int (fin _ _ rfl)
  ·exact IsiPair.str_bool (fin _ _ rfl)
  ·exact IsiPair.str_tuple (fin _ _ rfl)
  ·exact IsiPair.str_list (fin _ _ rfl)
  ·exact IsiPair.str_str (fin0 _ rfl)
 | ref p =>
  cases rx
  rcases hk with ⟨rfl,xs,hq⟩ | ⟨rfl,xs,hq⟩ | ⟨rfl,hk⟩
  ·obtain ⟨its,_,pl,_⟩:=I.list hq
   obtain ⟨o,n,e,c,hd,_⟩:=pl
   rcases hC with rfl | rfl | rfl | rfl | rfl
   ·exact IsiPair.list_int e c (fin _ _ rfl)
   ·exact IsiPair.list_bool e c (fin _ _ rfl)
   ·exact IsiPair.list_tuple e c (fin _ _ rfl)
   ·exact IsiPair.list_list e c (fin0 _ rfl)
   ·exact IsiPair.list_str e c (fin _ _ rfl)
  ·obtain ⟨its,_,⟨o,e,c,_⟩,_⟩:=I.tuple hq
   rcases hC with rfl | rfl | rfl | rfl | rfl
   ·exact IsiPair.tuple_int e c (fin _ _ rfl)
   ·exact IsiPair.tuple_bool e c (fin _ _ rfl)
   ·exact IsiPair.tuple_tuple e c (fin0 _ rfl)
   ·exact IsiPair.tuple_list e c (fin _ _ rfl)
   ·exact IsiPair.tuple_str e c (fin _ _ rfl)
  ·have z:∃ o,s.heap.get? p=some o/\o.cls = .type "dict" := by
    rcases hk with ⟨kvs,hk⟩ | ⟨kvs,hk⟩
    ·obtain ⟨_,_,_,_,o,_,_,e,ex,_⟩:=I.hok p _ hk
     exact ⟨o,e,ex.1⟩
    ·obtain ⟨_,_,_,_,o,_,_,e,ex,_⟩:=I.hok p _ hk
     exact ⟨o,e,ex.1⟩
   obtain ⟨o,e,c⟩:=z
   rcases hC with rfl | rfl | rfl | rfl | rfl
   ·exact IsiPair.dict_int e c (fin _ _ rfl)
   ·exact IsiPair.dict_bool e c (fin _ _ rfl)
   ·exact IsiPair.dict_tuple e c (fin _ _ rfl)
   ·exact IsiPair.dict_list e c (fin _ _ rfl)
   ·exact IsiPair.dict_str e c (fin _ _ rfl)
 | _=>exact False.elim hk
end
end L2
namespace RawD
open PySem PySem.Spec PyProof.Rows PySem.W
noncomputable def At(h:Heap)(d:Addr)(es:Array DictEntry)(ep:Nat):Prop:=∃ o,h.get? d=some o/\o.ExactDict/\o.data = .dict es ep
theorem At.keep{h h':Heap}{d:Addr}{es:Array DictEntry}{ep:Nat}(x:At h d es ep)(k:∀ o,h.get? d=some o->h'.get? d=some o):At h' d es ep:=let ⟨o,a,r⟩:=x;⟨o,k o a,r⟩
theorem At.ty{s:Shared}{d:Addr}{es:Array DictEntry}{ep:Nat}(x:At s.heap d es ep):s.TypeIs (.ref d) "dict" := let ⟨o,a,b,_⟩:=x;⟨o,a,b.1⟩
theorem At.lt{h:Heap}{d:Addr}{es:Array DictEntry}{ep:Nat}(x:At h d es ep):d < h.objs.size:=let ⟨_,a,_⟩:=x;DA a
section
variable{prog:Program}{w:World}{A:Around}{E:Value->Shared->Prop}{s:Shared}{d it:Addr}{es:Array DictEntry}{ep i:Nat}
theorem iter{Q:Value->Shared->Prop}(lo:(d == sysModules)=false)(x:At s.heap d es ep)
 (q:Q (.ref s.heap.objs.size) { s with heap:=s.heap.push { cls:= .type "dict_keyiterator",data:= .fields #[.ref d,.int 0 0,.int es.size 0,.int ep 0] } }) :
 wpAny (model prog w) A (pyIter (.ref d)) Q E s:=by
 have ty:=x.ty;obtain ⟨o,a1,a2,a3⟩:=x;refine wpAny_pyIter_slot ty F.slot_dict_iter (Es F.slot_dict_iter ty F.entry_dict_iter ?_ (F.args_dict_iter_1 _));unfold Builtin.«dict.__iter__»;refine Dl ?_;unfold Builtin.Dict.dictSlotNone;refine Dl (wpAny_notOrdered_dict ty ?_)
 show wpAny _ _ (pure (Value.ref d)) _ _ s
 refine Dr ?_
 show wpAny _ _ (Builtin.Dict.showsAll d >>= _) _ _ s
 unfold Builtin.Dict.showsAll;rw [if_neg (by rw [lo];exact DH)];refine Dl (Dr ?_);refine Dl (wpAny_dictEntries a1 a3 (Dl (wpAny_dictEpoch a1 a3 ?_)));exact Dl (Ei (Dr ⟨_,rfl, "dict_keyiterator",_,⟨_,Dw _ rfl,rfl⟩,F.slot_dict_keyiterator_next.lookup,q⟩))
theorem item{Q:Option Value->Shared->Prop}(hit:s.heap.IsKeyIter it d i es.size ep)(x:At s.heap d es ep)(hi:i < es.size)
 (q:∀ h',h'.IsKeyIter it d (i+1) es.size ep->Heap.SameBut it s.heap h'->Q (some es[i].key) { s with heap:=h' }):wpAny (model prog w) A (pyNext (.ref it)) Q E s:=by
 obtain ⟨oi,b1,b2,b3⟩:=id hit;obtain ⟨o,a1,a2,a3⟩:=x;unfold pyNext
 refine Dl (wpAny_attempt (Ek (name:=Str.ofString "__next__") hit.typeIs F.slot_dict_keyiterator_next
  (Es F.slot_dict_keyiterator_next hit.typeIs F.entry_dict_keyiterator_next ?_ (F.args_dict_keyiterator_next_1 _))))
 refine Dl (Dr (Dl (Dl ?_)))
 first | refine Dl (Fe hit.typeIs (Dr ?_)) | refine Dl (Fv hit.typeIs (Dr ?_))
 refine Dl (wpAny_fieldsOf b1 b3 ?_)
 have no:Builtin.Dict_items.ownsTuple "dict_keyiterator" = false:=by decide
 simp only [no,FG,if_false]
 show wpAny _ _ (if (Value.ref d == Value.none)=true then _ else _) _ _ s
 rw [if_neg (show ¬ ((Value.ref d == Value.none)=true) from DH)];refine Dl (Dr (Dl (wpAny_dictEntries a1 a3 ?_)));rw [if_neg (by simp)];refine Dl (Dr (Dl (wpAny_dictEpoch a1 a3 ?_)));rw [if_neg (by simp)];refine Dr ?_;simp only [show ¬ ((i:Int) < 0) from by omega,if_false,EM,EO hi];refine Dl ?_
 first | refine Dl (Fe hit.typeIs (Dr ?_)) | refine Dl (Fv hit.typeIs (Dr ?_))
 refine Dl (wpAny_isOneOf_keyiter hit.typeIs ?_)
 show wpAny _ _ (setField (.ref it) 1 (rawInt ((i:Int)+1)) >>= _) _ _ s
 refine Dl (E1 b1 b3 (by simp) ?_)
 have on:(s.heap.update it (Obj.mapFields (·.setIfInBounds 1 (rawInt ((i:Int)+1))))).IsKeyIter it d (i+1) es.size ep :=
  ⟨_,EG _ b1 (Obj.isFreed_of_fields (FY b3 _)),(Obj.cls_mapFields ..).trans b2,by rw [FY b3];simp [rawInt]⟩
 refine Dl (ER (Dl (wpAny_isOneOf_keyiter (s:={ s with heap:=s.heap.update it (Obj.mapFields (·.setIfInBounds 1 (rawInt ((i:Int)+1)))) }) on.typeIs ?_)))
 show wpAny _ _ (pure es[i].key) _ _ _
 exact Dr (Dr ⟨_,rfl,Dr (q _ on (Heap.SameBut.update ..))⟩)
theorem stop{Q:Option Value->Shared->Prop}(hh:A.handled=none)(hit:s.heap.IsKeyIter it d i es.size ep)(x:At s.heap d es ep)(hi:es.size<=i)
 (q:∀ h',Heap.ExtBut it s.heap h'->Q none { s with heap:=h' }):wpAny (model prog w) A (pyNext (.ref it)) Q E s:=by
 obtain ⟨oi,b1,b2,b3⟩:=id hit;obtain ⟨o,a1,a2,a3⟩:=x;unfold pyNext
 refine Dl (wpAny_attempt (Ek (name:=Str.ofString "__next__") hit.typeIs F.slot_dict_keyiterator_next
  (Es F.slot_dict_keyiterator_next hit.typeIs F.entry_dict_keyiterator_next ?_ (F.args_dict_keyiterator_next_1 _))))
 refine Dl (Dr (Dl (Dl ?_)))
 first | refine Dl (Fe hit.typeIs (Dr ?_)) | refine Dl (Fv hit.typeIs (Dr ?_))
 refine Dl (wpAny_fieldsOf b1 b3 ?_)
 have no:Builtin.Dict_items.ownsTuple "dict_keyiterator" = false:=by decide
 simp only [no,FG,if_false]
 show wpAny _ _ (if (Value.ref d == Value.none)=true then _ else _) _ _ s
 rw [if_neg (show ¬ ((Value.ref d == Value.none)=true) from DH)];refine Dl (Dr (Dl (wpAny_dictEntries a1 a3 ?_)));rw [if_neg (by simp)];refine Dl (Dr (Dl (wpAny_dictEpoch a1 a3 ?_)));rw [if_neg (by simp)];refine Dr ?_;simp only [show ¬ ((i:Int) < 0) from by omega,if_false,EM,Array.getElem?_eq_none hi];refine Dl ?_
 first | refine Dl (Fe hit.typeIs (Dr ?_)) | refine Dl (Fv hit.typeIs (Dr ?_))
 show wpAny _ _ (setField (.ref it) 0 .none >>= _) _ _ s
 refine Dl (E1 b1 b3 (by simp) ?_)
 show wpAny _ _ (newExc (.type "StopIteration") [] >>= _) _ _ _
 refine Dl ?_;simp only [newExc,newTuple];refine Dl (Ei ?_ (by size_fits));refine Dl (m:=firstArgMember _ _) (wpAny_of_eq (a:=Value.none) (by first | rfl | (simp only [firstArgMember];rfl)) ?_);refine Ei ?_ (by size_fits);simp only [raiseNew];refine Dl (wpAny_handled ?_);rw [show A.in1.handled=none from hh];refine Dl (Dr (wpAny_throw ?_));refine Dl (wpAny_isInstance (T := "StopIteration") (b:=true) ⟨_,Dw _ rfl,rfl⟩ isSubtype_stop ?_);exact Dr (q _ (((Heap.SameBut.update ..).extBut.push _).push _))
theorem walks(hh:A.handled=none)(I d:Addr)(hne:d≠I)(es:Array DictEntry)(ep:Nat) :
 Walks prog w A I [I,d] [I] es.size (fun i v=>∃ h:i < es.size,v=es[i].key) (fun i h=>h.IsKeyIter I d i es.size ep/\At h d es ep) where
 sub:=fun b hb=>by simp at hb;simp [hb]
 frame:=fun _ _ _ st hk=>⟨st.1.at fun o e=>hk I (by simp) o e,st.2.keep fun o e=>hk d (by simp) o e⟩
 item:=fun i s Q E hi st hQ=>item st.1 st.2 hi fun h' a b=>hQ _ h' s.toks ⟨hi,rfl⟩ ⟨a,st.2.keep fun o e=>b.extBut d o hne e⟩ fun b' o hb e=>b.extBut b' o (fun h=>hb (by simp [h])) e
 done:=fun s Q E st hQ=>stop hh st.1 st.2 (DE _) fun h' he'=>hQ h' s.toks fun b o hb e=>he' b o (fun h=>hb (by simp [h])) e
 self:=fun _ _ _ _ st hQ=>wpAny_pyIter_keyiter st.1 hQ
theorem src(lo:(d == sysModules)=false):KdlSrc prog w "dict" d d es.size (fun i v=>∃ h:i < es.size,v=es[i].key) (fun h=>At h d es ep) where
 type:=fun _ x=>x.ty
 there:=fun _ x=>⟨x.lt,x.lt⟩
 keep:=fun _ _ x hk=>x.keep fun o e=>hk d (.inl rfl) o e
 notList:=by decide
 notTuple:=by decide
 hint:=fun _ _ _ _ x q=>kdl_hint_dict x.ty q
 iter:=fun _ _ hh x=>⟨_,_,(fun _ _ q=>iter lo x q),walks hh _ d (DO x.lt) es ep,⟨⟨_,Dw _ rfl,rfl,rfl⟩,x.keep fun _ e=>Dm _ e⟩⟩
end
end RawD
namespace RawD
open PySem PySem.Spec PyProof.Rows PySem.W
section
variable{prog:Program}{w:World}{A:Around}{E:Value->Shared->Prop}{s:Shared}{d:Addr}{es:Array DictEntry}{ep:Nat}
theorem wV(lo:(d == sysModules)=false) :
 MeetsIn prog w (Builtin.«dict.__len__» ⟨[.ref d],[]⟩) (fun _ R s=>∃ es ep,At s.heap d es ep/\R (.ok (.ret (.int es.size s.toks))) { s with toks:=s.toks+1 }) :=
 .of_wp fun A R s hZ=>by
  obtain ⟨es,ep,x,h⟩:=hZ;obtain ⟨o,a1,a2,a3⟩:=x
  show wpAny _ _ (dictSize d >>= _) _ _ s
  unfold dictSize;refine Dl (Dl (wpAny_dictEntries a1 a3 (Dr ?_)))
  show wpAny _ _ (Builtin.Dict.pendingCount d >>= _) _ _ s
  refine Dl (wpAny_pendingCount_other lo (wpAny_ret_mkInt ?_));rw [Nat.add_zero];exact h
theorem len{Q:Value->Shared->Prop}(lo:(d == sysModules)=false)(x:At s.heap d es ep)(fit:(es.size:Int) < 2 ^ 63)
 (h:Q (.int es.size (s.toks+1)) { s with toks:=s.toks+1+1 }):wpAny (model prog w) A (call (.builtin "len") [.ref d]) Q E s:=by
 refine Calls.call_function_entry kind_len plain_len entry_len (args_len1 _) ?_;unfold Builtin.«len»;refine Dl (m:=oneArg "len" _) (Dr ?_)
 refine Dl (m:=callSpecial? (.ref d) (Str.ofString "__len__")) (Ek (name:=Str.ofString "__len__") x.ty F.slot_dict_len
  (call_meetsIn F.slot_dict_len x.ty F.entry_dict_len (F.args_dict_len_1 _) (wV lo) ⟨es,ep,x,?_⟩))
 show wpAny _ _ _ _ _ { s with toks:=s.toks+1 }
 refine Dl (ER (Dr (Dl (wpAny_letGo ?_))))
 show wpAny _ _ (if ((es.size:Nat):Int) < 0 then _ else _) _ _ _
 rw [if_neg (by omega)]
 show wpAny _ _ (if ((es.size:Nat):Int)>=2 ^ 63 then _ else _) _ _ _
 rw [if_neg (by omega)];exact Dl (wpAny_mkInt (Dr ⟨_,rfl,h⟩))
end
end RawD
namespace L2
open PySem PySem.Spec PyProof.Rows
section
variable{X:Cx}
theorem uh{P:Program}{w:World}{H:Hp}{h:Heap}{a:Addr}{kvs:List (List Key×V)}(ok:HOk P w H h)(e:H a=some (.dT kvs)) :
 kvs.length<=sizeLine/\(a == sysModules)=false/\(kvs.map (·.1)).Nodup/\∃ es ep,RawD.At h a es ep/\es.size=kvs.length/\∀ i (hi:i < es.size),∃ b k v,es[i].key = .ref b/\kvs[i]?=some (k,v)/\H b=some (.tup (k.map kV)):=by
 obtain ⟨z,y,xs,r,o,es,ep,h1,h2,h3,h4,h5⟩:=(show bt P w H h a (.dT kvs) from ok a _ e);have hl:=r.length
 have hl2:es.size=xs.length:=by
  have:=congrArg List.length h4;simpa using this
 have keys:∀ {l:List (List Key×V)} {m:List (List Key×Addr×Value)},
  Paired (fun (p:List Key×V) (q:List Key×Addr×Value)=>p.1=q.1/\H q.2.1=some (.tup (p.1.map kV))/\aB p.2 q.2.2) l m->l.map (·.1)=m.map (·.1):=by
  intro l m pr
  induction pr with
  | nil=>rfl
  | cons hd _ ih=>rw [DJ,DJ,ih,hd.1]
 refine ⟨z,y,by rw [keys r];exact h5,es,ep,⟨o,h1,h2,h3⟩,hl2.trans hl.symm,fun i hi=> ?_⟩
 have hx:i < xs.length:=by omega
 have get:∀ {l:List (List Key×V)} {m:List (List Key×Addr×Value)} {i:Nat} {q:List Key×Addr×Value},
  Paired (fun (p:List Key×V) (q:List Key×Addr×Value)=>p.1=q.1/\H q.2.1=some (.tup (p.1.map kV))/\aB p.2 q.2.2) l m->m[i]?=some q->∃ p,l[i]?=some p/\p.1=q.1/\H q.2.1=some (.tup (p.1.map kV)):=by
  intro l m i q pr
  induction pr generalizing i with
  | nil=>intro e;simp at e
  | cons hd _ ih =>
   intro e
   cases i with
   | zero=>simp at e;subst e;exact ⟨_,rfl,hd.1,hd.2.1⟩
   | succ i=>simp at e;exact ih e
 obtain ⟨p,e1,_,e2⟩:=get (i:=i) r (Do hx);refine ⟨xs[i].2.1,p.1,p.2,?_,e1,e2⟩
 have:es[i]=entryOfKey (tupleKind (aW P w)) xs[i]:=by
  have q:es.toList[i]?=some (entryOfKey (tupleKind (aW P w)) xs[i]):=by rw [h4];simp [hx]
  rw [E0,EO hi] at q;exact Option.some.inj q
 rw [this];rfl
theorem xJ:ax X (.builtin "len") (fun xs H Q=>∃ a kvs,xs=[V.ref a]/\H a=some (.dT kvs)/\Q (.int kvs.length) H):=by
 intro pins s σ H xs us Q I r h;obtain ⟨a,kvs,rfl,ha,q⟩:=h;obtain ⟨u,rfl,ru⟩:=bC r;cases ru;obtain ⟨z,lo,_,es,ep,x,hl,_⟩:=uh I.hok ha;exact RawD.len lo x (by rw [hl];rw [sizeLine_eq] at z;omega) ⟨.int kvs.length,H,I.tok _,⟨_,by rw [hl]⟩,q⟩
theorem uW(hc:X.calm=true):ax X (.type "list") (fun xs H Q=>∃ a kvs,xs=[V.ref a]/\H a=some (.dT kvs) /\
 ∀ l bs,H l=none->(kvs.map (·.1)).Nodup->bs.length=kvs.length->(∀ (i:Nat) k v,kvs[i]?=some (k,v)->∃ b,bs[i]?=some (V.ref b)/\H b=some (.tup (k.map kV)))->Q (.ref l) (upd H l (.lst bs))):=by
 intro pins s σ H xs us Q I r h;obtain ⟨a,kvs,rfl,ha,q⟩:=h;obtain ⟨u,rfl,ru⟩:=bC r;cases ru;obtain ⟨z,lo,nd,es,ep,x,hl,hk⟩:=uh I.hok ha
 refine PySem.W.kdl_call (RawD.src (ep:=ep) (es:=es) lo) (I.ok.hd hc) x (by rw [hl];exact z) fun h' tk acc c keep hD hacc=> ?_
 have hf:H s.heap.objs.size=none:=I.hok.fresh (DE _);have hlen:acc.size=es.size:=hacc.1
 let bs:List V:=acc.toList.map fun u=>match u with | .ref b=>V.ref b | _=>V.non
 have key:∀ i (hi:i < acc.size),∃ b k v,acc[i] = .ref b/\kvs[i]?=some (k,v)/\H b=some (.tup (k.map kV)):=fun i hi=>by
  obtain ⟨hi',e⟩:=hacc.2 i acc[i] (by simp [hi]);obtain ⟨b,k,v,e1,e2,e3⟩:=hk i hi';exact ⟨b,k,v,e.trans e1,e2,e3⟩
 have hv:aw bs acc.toList:=by
  have gen:∀ (l:List Value),(∀ u∈l,∃ b,u = .ref b)->aw (l.map fun u=>match u with | .ref b=>V.ref b | _=>V.non) l:=by
   intro l
   induction l with
   | nil=>intro _;exact .nil
   | cons u l ih =>
    intro h;obtain ⟨b,rfl⟩:=h u DC;exact .cons rfl (ih fun v hv=>h v (Dv _ hv))
  refine gen acc.toList fun u hu=> ?_
  obtain ⟨i,hi,e⟩:=E2.mp hu
  have hi':i < acc.size:=by simpa using hi
  obtain ⟨b,k,v,e1,_⟩:=key i hi';exact ⟨b,by rw [<- e];simpa using e1⟩
 have hbl:bs.length=kvs.length:=by
  show (acc.toList.map _).length=_
  rw [Dp,Ez,hlen,hl]
 refine ⟨.ref s.heap.objs.size,upd H s.heap.objs.size (.lst bs),?_,rfl,q _ bs hf nd hbl fun i k v e=> ?_⟩
 ·exact I.laid (t':=tk) keep (DE _) ⟨by rw [hbl];exact z,acc.toList,c,hv,by simpa using hD⟩
 ·have hi:i < acc.size:=by
   have:=(DG.mp e).1;omega
  obtain ⟨b,k',v',e1,e2,e3⟩:=key i hi;rw [e] at e2;cases e2;refine ⟨b,?_,e3⟩
  show (acc.toList.map _)[i]?=_
  rw [DL,E0,EO hi,e1];rfl
theorem xU:∀ (bs:List Bool),(List.range bs.length).all (fun i=>bs.getD i false)=bs.all id:=fun bs=>by
 rw [Bool.eq_iff_iff];simp only [DK,EA]
 constructor
 ·intro h b hb
  obtain ⟨i,hi,e⟩:=E2.mp hb;have:=h i hi;rw [DB,Do hi,e] at this;exact this
 ·intro h i hi
  rw [DB,Do hi];exact h _ (Ea hi)
theorem Ax(hc:X.calm=true):ax X (.builtin "all") (fun xs H Q=>∃ (p:Addr) (bs:List Bool),xs=[V.ref p]/\SqL X.K H p (bs.map V.bl)/\Q (.bl (bs.all id)) H):=by
 intro pins s σ H xs us Q I r h;obtain ⟨p,bs,rfl,hq,q⟩:=h;obtain ⟨u,rfl,ru⟩:=bC r;cases ru;obtain ⟨its,rv,pl,hz⟩:=I.list hq;have hlen:=rv.length;rw [Dp] at hlen
 have hlt:p < s.heap.objs.size:=by
  obtain ⟨o,n,e,_⟩:=pl;exact DA e
 refine call_all_walk (E4 pl.isList ⟨s.heap.objs.size,_,_,its.toArray.size,_,_,fun i=>bs.getD i false,rfl,Walks.list (show X.A.in1.handled=none from I.ok.hd hc) s.heap.objs.size p (DO hlt) its.toArray,
  ⟨⟨_,Dw _ rfl,rfl,rfl⟩,pl.isList.at fun o e=>Dm _ e⟩,fun i v s' Q' E' hP hQ'=> ?_,fun h' tk hk=> ?_⟩)
 ·have hP:its.toArray[i]?=some v:=hP
  have hi:i < bs.length:=by
   have:=(Array.getElem?_eq_some_iff.mp hP).1;rw [Ds] at this;omega
  obtain ⟨u,e1,e2⟩:=rv.get (i:=i) (x:=V.bl bs[i]) (by simp [hi])
  have:v = .bool bs[i]:=by
   rw [show its.toArray[i]?=its[i]? by simp,e1] at hP;cases hP;exact e2
  subst this;have hQ':Q' (bs.getD i false) s':=hQ';rw [show bs.getD i false=bs[i] by simp [DB,hi]] at hQ';exact E3 hQ'
 ·refine ⟨.bl (bs.all id),H,?_,?_,q⟩
  ·exact I.kept (h':=h') (t':=tk) fun b o e=>hk b o (by have:=DA e;simp;exact DO this) (Dm _ e)
  ·show Value.bool _=Value.bool _
   rw [Ds,<- hlen,xU]
theorem Av:ax X (.type "range") (fun xs H Q=>(∃ j:Int,xs=[V.int j]/\∀ l,H l=none->Q (.ref l) (upd H l (.rng 0 j)))\/(∃ i j:Int,xs=[V.int i,V.int j]/\∀ l,H l=none->Q (.ref l) (upd H l (.rng i j)))):=by
 intro pins s σ H xs us Q I r h;have hf:H s.heap.objs.size=none:=I.hok.fresh (DE _)
 rcases h with ⟨j,rfl,q⟩ | ⟨i,j,rfl,q⟩
 ·obtain ⟨u,rfl,t,rfl⟩:=bC r
  exact call_range_1 ⟨.ref s.heap.objs.size,_,I.laid (o:= .rng 0 j) (fun _ _ e=>Dm _ e) (DE _) ⟨_,_,_,Dw _ rfl⟩,rfl,q _ hf⟩
 ·obtain ⟨u,w',rfl,⟨t,rfl⟩,⟨t',rfl⟩⟩:=qT r
  exact call_range_2 ⟨.ref s.heap.objs.size,_,I.laid (o:= .rng i j) (fun _ _ e=>Dm _ e) (DE _) ⟨_,_,_,Dw _ rfl⟩,rfl,q _ hf⟩
theorem yO(lo hi i:Int):(Builtin.Range.rangePlace? lo hi 1 i).isSome=decide (lo<=i/\i < hi):=by
 unfold Builtin.Range.rangePlace?
 by_cases h:lo<=i/\i < hi
 ·rw [Dy h]
  simp [h.1,h.2,Int.emod_one]
 ·rw [DS h]
  by_cases h1:lo<=i
  ·have h2:¬ i < hi:=fun q=>h ⟨h1,q⟩
   simp [h1,h2]
  ·simp [h1]
section
open PySem.SeqAt
open PySem.AutoSeq1 (wpAny_loadPart')
open PySem.MeetsSeq PySem.MeetsSeq2 PySem.MeetsSeq3
theorem wD(l:Addr)(lo hi i:Int)(a b c t:Tok):Meets (Builtin.«range.__contains__» ⟨[.ref l,.int i t],[]⟩)
 (fun _ R s=>s.heap.get? l=some { cls:= .type "range",data:= .fields #[.int lo a,.int hi b,.int 1 c] }/\R (.ok (.ret (.bool (decide (lo<=i/\i < hi))))) s) :=
 .of_wp fun prog w A R s h=>by
  obtain ⟨hp,g,d,tk,os⟩:=s;obtain ⟨hl,h⟩:=h;rw [<- yO] at h
  wp_walk using EB hl
  exact ⟨_,rfl,h⟩
end
noncomputable def rInR(neg:Bool):R2:=fun x y H Q=>∃ (l:Addr) (i lo hi:Int),x = .int i/\y = .ref l/\H l=some (.rng lo hi)/\Q (.bl (if neg then !decide (lo<=i/\i < hi) else decide (lo<=i/\i < hi))) H
theorem op_inR:OpR X (compareOp .In) (rInR false):=by
 intro pins s σ H x y v u Q I rx ry h;obtain ⟨l,i,lo,hi,rfl,rfl,hl,q⟩:=h;obtain ⟨t,rfl⟩:=rx;cases ry;obtain ⟨a,b,c,e⟩:=(show bt X.prog X.w H s.heap l (.rng lo hi) from I.hok l _ hl);exact PySem.SeqRoads2.in_meets ⟨_,e,rfl⟩ F.slot_range_contains F.entry_range_contains (F.args_range_contains_2 _ _) (wD l lo hi i a b c t) ⟨e,_,rfl,⟨.bl _,H,I,rfl,q⟩⟩
theorem Cp{prog:Program}{w:World}{A:Around}{E:Value->Shared->Prop}{s:Shared}{t b:Addr}{ws:List Value}{Q:Value->Shared->Prop}(ht:IsTup s.heap t #[])(hb:IsTup s.heap b ws.toArray)(h:Q (.ref b) s) :
 wpAny (model prog w) A (binaryOp .Add (.ref t) (.ref b)) Q E s:=by
 obtain ⟨⟨cls,dd,data,sl⟩,ho,hc,n,hd⟩:=id ht;obtain ⟨⟨cls2,dd2,data2,sl2⟩,ho2,hc2,n2,hd2⟩:=id hb;simp only at hc hd hc2 hd2;subst hc hd hc2 hd2
 exact concat_meets ⟨_,ho,rfl⟩ ⟨_,ho2,rfl⟩ noFill_tuple_add seq_tuple_add PySem.F.slot_tuple_add PySem.F.entry_tuple_add (PySem.F.args_tuple_add_2 _ _)
  (tuple_addW0 t b #[] ws.toArray n n2 dd dd2 sl sl2 (by simp)) ⟨ho,ho2,h⟩
end
end L2
namespace HT
open PySem PySem.Spec PyProof.Rows
section
variable{prog:Program}{w:World}{A:Around}{E:Value->Shared->Prop}{s:Shared}
theorem im{t sl:Addr}{items:Array Value}{vl vu:Value}{lo hi:Option Int}{Q:Value->Shared->Prop}(ht:IsTup s.heap t items)(hs:s.heap.IsSliceOf sl vl vu .none)(pl:IsPart vl lo)(pu:IsPart vu hi)
 (hw:sIx items.size 0 lo=0/\sIx items.size items.size hi=items.size) (h:Q (.ref t) s):wpAny (model prog w) A (getItem (.ref t) (.ref sl)) Q E s:=by
 obtain ⟨os,hos,hcs,hds⟩:=id hs;have hTs:s.TypeIs (.ref sl) "slice" := ⟨os,hos,hcs⟩;unfold getItem
 try with_reducible refine ER ?_
 first | refine Dl (Dr ?_) | skip
 refine Dl (wpAny_sequenceKey ht.typeIs (by decide) ?_)
 refine Dl (Ek (name:=Str.ofString "__getitem__") ht.typeIs PyProof.Rows.slot_tuple_getitem
  (Es PyProof.Rows.slot_tuple_getitem ht.typeIs entry_tuple_getitem ?_ (args_tuple_getitem _ _)))
 show wpAny _ _ (Builtin.Tuple.tupleItemsOf (.ref t) >>= _) _ _ s
 refine Dl (tupleItemsOf_ ht (Dl (wpAny_typeOf hTs ?_)));rw [if_pos (by decide)];refine Dl (fH hs pl pu ?_)
 show wpAny _ _ (if (((sIx items.size 0 lo:Nat):Int) == 0&&(1:Int) == 1&&(sIx items.size items.size hi - sIx items.size 0 lo) == items.size)=true then _ else _) _ _ s
 rw [if_pos (by rw [hw.1,hw.2];simp)];unfold Builtin.Tuple.tupleIsExact;refine Dl (Dl (wpAny_typeOf ht.typeIs (Dr ?_)));rw [if_pos (by decide)];exact Dl (wpAny_rule (Dr ⟨_,rfl,Dr h⟩))
end
end HT
namespace L2
open PySem PySem.Spec PyProof.Rows
section
variable{X:Cx}
end
end L2
namespace Srt
open PySem PySem.W PyProof.Rows
noncomputable def All{α:Type}(n:Nat)(P:α->Prop):KasT α->Prop
 | .ret a=>P a
 | .ask i j k=>i < n/\j < n/\∀ b,All n P (k b)
theorem All.bind{α β:Type}{n:Nat}{P:β->Prop}{f:α->KasT β}:∀ {t:KasT α},All n (fun a=>All n P (f a)) t->All n P (t.bind f)
 | .ret _,h=>h
 | .ask _ _ _,⟨h1,h2,h3⟩=>⟨h1,h2,fun b=>All.bind (h3 b)⟩
theorem All.mono{α:Type}{n:Nat}{P P':α->Prop}(hp:∀ a,P a->P' a):∀ {t:KasT α},All n P t->All n P' t
 | .ret a,h=>hp a h
 | .ask _ _ _,⟨h1,h2,h3⟩=>⟨h1,h2,fun b=>All.mono hp (h3 b)⟩
def dG(n:Nat)(p:Array Nat):Prop:=0 < n/\p.toList.Perm (List.range n)
theorem dG.lt{n:Nat}{p:Array Nat}(g:dG n p)(k:Nat):p.getD k 0 < n:=by
 by_cases h:k < p.size
 ·have e:p.getD k 0=p[k]:=by simp [Array.getD,h]
  rw [e];have m:p[k]∈List.range n:=g.2.mem_iff.mp (by simp);simpa using m
 ·have e:p.getD k 0=0:=by simp [Array.getD,h]
  rw [e];exact g.1
theorem dG.perm{n:Nat}{p p':Array Nat}(g:dG n p)(h:p'.Perm p):dG n p':=⟨g.1,(Array.perm_iff_toList_perm.mp h).trans g.2⟩
theorem dG.rev{n:Nat}{p:Array Nat}(g:dG n p)(i j:Nat):dG n (kas_rev p i j):=g.perm (mirror_perm _ _ _ _)
theorem asc{n:Nat}{p:Array Nat}(g:dG n p):∀ f k,All n (fun _=>True) (kas_asc p f k)
 | 0,_=>trivial
 | f+1,k=>⟨g.lt _,g.lt _,fun b=>by
  cases b with
  | true=>show All n _ (if true=true then _ else _);rw [if_pos rfl];trivial
  | false=>show All n _ (if false=true then _ else _);rw [if_neg DH];exact asc g f (k+1)⟩
theorem Cl{n:Nat}:∀ f {p:Array Nat} (k q:Nat),dG n p->All n (fun r=>dG n r.1) (kas_desc f p k q)
 | 0,p,_,_,g=>g
 | f+1,p,k,q,g=>⟨g.lt _,g.lt _,fun b=>by
  cases b with
  | true =>
   show All n _ (if true=true then _ else _)
   rw [if_pos rfl]
   by_cases hq:q > 0
   ·rw [if_pos hq];exact Cl f _ _ (g.rev _ _)
   ·rw [if_neg hq];exact Cl f _ _ g
  | false =>
   show All n _ (if false=true then _ else _)
   rw [if_neg DH];refine ⟨g.lt _,g.lt _,fun b=> ?_⟩
   cases b with
   | true=>show All n _ (if true=true then _ else _);rw [if_pos rfl];exact g
   | false=>show All n _ (if false=true then _ else _);rw [if_neg DH];exact Cl f _ _ g⟩
theorem CH{n:Nat}{p:Array Nat}(g:dG n p)(k nrem:Nat):All n (fun r:Nat×Array Nat=>dG n r.2) (kas_tail3 k nrem p):=by
 unfold kas_tail3;exact ((asc (g.rev _ _) _ _).mono fun m _=>(show All n (fun r:Nat×Array Nat=>dG n r.2) (KasT.ret (m,kas_rev p 0 k)) from g.rev _ _)).bind
theorem tq{n:Nat}{p:Array Nat}(g:dG n p)(k nrem:Nat):All n (fun r:Nat×Array Nat=>dG n r.2) (kas_descPart k nrem p):=by
 unfold kas_descPart;refine ((Cl _ _ _ g).mono fun r hr=> ?_).bind
 by_cases h:r.2.2 > 0
 ·rw [if_pos h];exact CH (hr.rev _ _) _ _
 ·rw [if_neg h];exact CH hr _ _
theorem count{n:Nat}{p:Array Nat}(g:dG n p)(nrem:Nat):All n (fun r:Nat×Array Nat=>dG n r.2) (kas_count nrem p):=by
 unfold kas_count;refine ((asc g _ _).mono fun k _=> ?_).bind
 by_cases h:(k == nrem)=true
 ·rw [if_pos h];exact g
 ·rw [if_neg h]
  by_cases h2:k > 1
  ·rw [if_pos h2]
   refine ⟨g.lt _,g.lt _,fun b=> ?_⟩
   cases b with
   | true=>show All n _ (if true=true then _ else _);rw [if_pos rfl];exact g
   | false=>show All n _ (if false=true then _ else _);rw [if_neg DH];exact tq (g.rev _ _) _ _
  ·rw [if_neg h2];exact tq g _ _
theorem yP{n:Nat}{p:Array Nat}(g:dG n p)(k:Nat):∀ f l r,All n (fun _=>True) (kas_place p k f l r)
 | 0,_,_=>trivial
 | f+1,l,r=>by
  unfold kas_place
  by_cases h:l>=r
  ·rw [if_pos h];trivial
  ·rw [if_neg h]
   refine ⟨g.lt _,g.lt _,fun b=> ?_⟩
   cases b with
   | true=>show All n _ (if true=true then _ else _);rw [if_pos rfl];exact yP g k f _ _
   | false=>show All n _ (if false=true then _ else _);rw [if_neg DH];exact yP g k f _ _
theorem bin{n:Nat}:∀ f {p:Array Nat} (k:Nat),dG n p->All n (dG n) (kas_bin f p k)
 | 0,_,_,g=>g
 | f+1,p,k,g=>((yP g k k 0 k).mono fun l _=>bin f (k+1) (g.perm (bubble_perm _ _ _))).bind
theorem sort{n:Nat}(h:0 < n):All n (dG n) (kas_sort n):=by
 unfold kas_sort;have g:dG n (List.toArray (List.range n)):=⟨h,by simp⟩;refine ((count g n).mono fun r hr=> ?_).bind
 by_cases h:r.1 < n
 ·rw [if_pos h];exact bin _ _ hr
 ·rw [if_neg h];exact hr
section
variable{prog:Program}{w:World}{A:Around}{E:Value->Shared->Prop}{s:Shared}
noncomputable def Tups(h:Heap)(vs:List Value):Prop:=∀ v∈vs,∃ a items ns,v = .ref a/\IsTup h a items/\IntsAre items.toList ns/\ns≠[]
theorem Ae{M:Model}{h:Heap}:∀ {vs:List Value},Tups h vs->∃ fs,fs.length=vs.length/\KatTups h vs fs/\∀ v∈fs,Looks M h (typeOf v) (.type "int")
 | [],_=>⟨[],rfl,.nil,fun v hv=>by cases hv⟩
 | v::vs,t=>by
  obtain ⟨fs,h1,h2,h3⟩:=Ae (M:=M) (vs:=vs) fun u hu=>t u (Dv _ hu)
  obtain ⟨a,items,ns,rfl,⟨o,g1,g2,n,g3⟩,i,ne⟩:=t v DC
  cases hi:items.toList with
  | nil =>
   rw [hi] at i;cases i;exact absurd rfl ne
  | cons f r =>
   rw [hi] at i
   cases i with
   | cons x tk _ =>
    refine ⟨.int x tk::fs,by simp [h1],.cons g1 g2 g3 (by rw [<- E0,hi];rfl) h2,fun u hu=> ?_⟩
    rcases Dx.mp hu with rfl | hu
    ·exact .now
    ·exact h3 u hu
end
end Srt
namespace L2
open PySem PySem.Spec PyProof.Rows
def rH:Value->V
 | .ref b=> .ref b
 | _=> .non
theorem ke:∀ {l:List Value},(∀ u∈l,∃ b,u = .ref b)->aw (l.map rH) l
 | [],_=> .nil
 | u::l,h=>by
  obtain ⟨b,rfl⟩:=h u DC;exact .cons rfl (ke fun v hv=>h v (Dv _ hv))
theorem oY:∀ {bs:List V} {l:List Value},aw bs l->(∀ b∈bs,∃ a,b = .ref a)->bs=l.map rH/\∀ u∈l,∃ b,u = .ref b
 | _,_,.nil,_=>⟨rfl,fun u hu=>by cases hu⟩
 | _,_,.cons r t,h=>by
  obtain ⟨a,rfl⟩:=h _ DC;cases r
  obtain ⟨e,q⟩:=oY t fun b hb=>h b (Dv _ hb)
  refine ⟨by rw [DJ,<- e];rfl,fun u hu=> ?_⟩
  rcases Dx.mp hu with rfl | hu
  ·exact ⟨a,rfl⟩
  ·exact q u hu
section
variable{X:Cx}
end
inductive Dt where
 | non | bl (b:Bool) | int (i:Int) | str (x:Str) | lst | dct | tup (ds:List Dt)
mutual
noncomputable def Rep(K:F2)(H:Hp):Dt->V->Prop
 | .non,v=>v = .non
 | .bl b,v=>v = .bl b
 | .int i,v=>v = .int i
 | .str x,v=>v = .str x
 | .lst,v=>∃ p xs,v = .ref p/\SqL K H p xs
 | .dct,v=>∃ p,v = .ref p/\((∃ kvs,H p=some (.dK kvs))\/∃ kvs,H p=some (.dT kvs))
 | .tup ds,v=>∃ p xs,v = .ref p/\SqT K H p xs/\AJ K H ds xs
noncomputable def AJ(K:F2)(H:Hp):List Dt->List V->Prop
 | [],[]=>True
 | d::ds,x::xs=>Rep K H d x/\AJ K H ds xs
 | _,_=>False
end
theorem ac.tup{K:F2}{H H':Hp}{a:Addr}{xs:List V}(e:ac H H')(h:SqT K H a xs):SqT K H' a xs:=by
 rcases h with (h | ⟨o,h⟩) | h
 ·exact .inl (.inl (e _ _ h))
 ·exact .inl (.inr ⟨o,e _ _ h⟩)
 ·exact .inr h
theorem ac.upd{H:Hp}{p:Addr}{o:HO}(h:H p=none):ac H (L2.upd H p o):=fun b u e=>by rw [ai (aj e h)];exact e
mutual
theorem ac.rep{K:F2}{H H':Hp}(e:ac H H'):∀ {d:Dt} {v:V},Rep K H d v->Rep K H' d v
 | .non,_,h=>h
 | .bl _,_,h=>h
 | .int _,_,h=>h
 | .str _,_,h=>h
 | .lst,_,⟨p,xs,h1,h2⟩=>⟨p,xs,h1,e.seq h2⟩
 | .dct,_,⟨p,h1,h2⟩=>⟨p,h1,h2.elim (fun hZ=>(by obtain ⟨k,q⟩:=hZ;exact .inl ⟨k,e _ _ q⟩)) fun hZ=>(by obtain ⟨k,q⟩:=hZ;exact .inr ⟨k,e _ _ q⟩)⟩
 | .tup _,_,⟨p,xs,h1,h2,h3⟩=>⟨p,xs,h1,e.tup h2,e.repL h3⟩
theorem ac.repL{K:F2}{H H':Hp}(e:ac H H'):∀ {ds:List Dt} {xs:List V},AJ K H ds xs->AJ K H' ds xs
 | [],[],_=>trivial
 | _::_,_::_,h=>⟨e.rep h.1,e.repL h.2⟩
 | [],_::_,h=>h.elim
 | _::_,[],h=>h.elim
end
structure Has(K:F2)(mg:Str->Option Value)(x:Str)(st:Stmt)(ps:List Str):Prop where
 ex:∃ f fd,Fun K x x st f fd/\mg x=some (.ref f)/\lE K fd ps []
structure Ok(P:Program)(w:World)(K:F2)(mg:Str->Option Value)(base:Heap)(x:Str)(ps:List Str)(k:Nat)(sp:Sp):Prop where
 ex:∃ f fd,mg x=some (.ref f)/\PySem.W.keepIn K (.ref f)=true/\lE K fd ps []/\kF P w K mg base CX0 k f fd ps sp
theorem Has.ok{P:Program}{w:World}{K:F2}{mg:Str->Option Value}{base:Heap}{x:Str}{st:Stmt}{N ps:List Str}{k:Nat}{sp:Sp}(h:Has K mg x st ps)(S:cW N ps (aa st))(len:∀ vs H Q E,sp vs H Q E->vs.length=ps.length)
 (hbody:∀ (f:Addr) (cdv:Value) (A:Around) (outer:List Env) (s:Shared) (H:Hp) (vs:List V) (Q:VK) (E:XK),cV k (A.deeper (envOfC x (aa st) s.heap.objs.size f cdv))->sp vs H Q E ->
   ∃ t,PSs (bZ CX0 P w K mg base N x (aa st) f cdv A outer s H E).nox (aY st) t/\t { nx:=fun _ H'=>Q .non H',rt:=Q } (eB N vs) H):Ok P w K mg base x ps (k+1) sp:=by
 obtain ⟨f,fd,F,hm,hb⟩:=h.ex;exact ⟨f,fd,hm,F.kp,hb,F.ok S len (hbody f)⟩
section
variable{X:Cx}{e:Expr}{es:List Expr}{t:TA}{x:Str}{ps:List Str}{k:Nat}{sp:Sp}{p pos:Pos}
end
section
variable{X:Cx}{Pre:St->Hp->Prop}
end
structure dO(osc:Scope)(N:List Str)(sc:Scope)(M tgs:List Str):Prop where
 kind:sc.kind = .function
 names:∀ y∈sc.names,y.2 = .local->sc.names.lookup y.1=some .local
 nocell:∀ y∈sc.names,y.2 ≠ .cell
 free:∀ y∈sc.names,y.2 = .free->osc.names.lookup y.1=some .cell\/osc.names.lookup y.1=some .free
 len:M.length=N.length
 same:∀ p∈M.zip N,p.1=p.2\/p.1=("" : Str)
 dummy:sc.names.lookup ("" : Str)=none
 hid:∀ x∈M,sc.names.lookup x≠some .local
 nd:(M++tgs).Nodup
theorem dO.ok{X:Cx}{osc:Scope}{N:List Str}{sc:Scope}{M tgs:List Str}(b:dO osc N sc M tgs)(h1:X.env.scope=osc:=by rfl)(h2:X.N=N:=by rfl):lD X sc M tgs:=by
 subst h1 h2;exact ⟨b.kind,b.names,b.nocell,b.free,b.len,b.same,b.dummy,b.hid⟩
noncomputable def Nx(n i:Nat)(Pv:Nat->List V->Hp->Prop)(ys:List V)(H:Hp):Prop:=∃ m',m' < n - i/\(m'=n - (i+1)/\i+1<=n/\Pv (i+1) ys H)
theorem Nx.mk{n i:Nat}{Pv:Nat->List V->Hp->Prop}{ys:List V}{H:Hp}(hi:i < n)(h:Pv (i+1) ys H):Nx n i Pv ys H:=⟨n - (i+1),by omega,rfl,hi,h⟩
theorem uN{lo:Int}{n:Nat}{k:Nat}{g:TG}{tt:TT}{te:TE}{σ:St}{H:Hp}{Q:VK}(Pv:Nat->List V->Hp->Prop)(h0:Pv 0 [] H)(hl:∀ i ys H,i<=n->Pv i ys H->ys.length<=sizeLine)
 (hs:∀ i ys H,i < n->Pv i ys H->g (.int (lo+i)) (σ++List.replicate k none) H fun σ2 H2=>σ2.take σ.length=σ/\tt σ2 H2 fun b H3 =>
   if b=true then te σ2 H3 fun y H4=>Nx n i Pv (ys++[y]) H4 else Nx n i Pv ys H3)
 (hd:∀ ys H,Pv n ys H->∀ l,H l=none->Q (.ref l) (upd H l (.lst ys))):Dk (Itr lo n) k g tt te σ Q H:=by
 refine ⟨fun i m ys H=>m=n - i/\i<=n/\Pv i ys H,⟨n,by simp,Fb _,h0⟩,?_⟩;rintro i m ys H ⟨rfl,hi,p⟩;refine ⟨hl i ys H hi p,?_⟩
 by_cases hlt:i < n
 ·refine .inr ⟨hlt,fun x H' y=> ?_⟩
  obtain ⟨e,y⟩:=y;subst e y;exact hs i ys _ hlt p
 ·have e:i=n:=by omega
  subst e;exact .inl ⟨DE _,hd ys H p⟩
section
variable{κ:Type}[DecidableEq κ]
end
def AH(K:F2)(H:Hp)(b:V)(t:Int×Int):Prop:=∃ a,b = .ref a/\H a=some (.tup [.int t.1,.int t.2])
structure WebAt(K:F2)(H:Hp)(w:Addr)(many:Int)(ties:List (Int×Int)):Prop where
 at_:∃ t bs,H w=some (.tup [.int many,.ref t])/\H t=some (.tup bs)/\Paired (AH K H) bs ties
 len:ties.length<=60
 good:∀ t∈ties,0<=t.1/\t.1 < t.2/\t.2 < many
 nd:ties.Nodup
theorem pN{h:Heap}{a:Addr}{items:Array Value}(e:h.get? a=some { cls:= .type "tuple",data:= .seq items }):tU h a items:=⟨⟨_,e,rfl,_,rfl⟩,fun o e'=>by rw [e] at e';cases e';rfl⟩
theorem bt.there{P:Program}{w:World}{H:Hp}{h:Heap}{a:Addr}{o:HO}(x:bt P w H h a o):∃ ob,h.get? a=some ob:=by
 cases o with
 | lst xs=>obtain ⟨_,_,_,_,e⟩:=x;exact ⟨_,e⟩
 | tup xs=>obtain ⟨_,_,_,⟨ob,e,_⟩,_⟩:=x;exact ⟨ob,e⟩
 | dK kvs=>obtain ⟨_,_,_,_,o,_,_,e,_⟩:=x;exact ⟨_,e⟩
 | dT kvs=>obtain ⟨_,_,_,_,o,_,_,e,_⟩:=x;exact ⟨_,e⟩
 | set S n=>obtain ⟨o,_,_,_,e,_⟩:=x;exact ⟨_,e⟩
 | ins C dx fs=>obtain ⟨_,_,_,e,_⟩:=x;exact ⟨_,e⟩
 | own y=>exact x
 | xd fs=>obtain ⟨_,⟨_,_,_,e,_⟩,_⟩:=x;exact ⟨_,e⟩
 | rng lo hi=>obtain ⟨_,_,_,e⟩:=x;exact ⟨_,e⟩
 | frz ob u=>obtain ⟨e,_⟩:=x;exact ⟨_,e⟩
 | tbl ps=>exact ⟨_,(show h.get? a=some _ from x)⟩
 | met f y=>exact ⟨_,(show h.get? a=some _ from x)⟩
 | ext φ=>obtain ⟨_,e,_⟩:=x;exact e
theorem HOk.none_of{P:Program}{w:World}{H:Hp}{h:Heap}{a:Addr}(x:HOk P w H h)(e:h.get? a=none):H a=none:=by
 cases q:H a with
 | none=>rfl
 | some u =>
  obtain ⟨ob,z⟩:=(x a u q).there;rw [e] at z;cases z
structure CB(fs:List Addr)(ea T:Addr)(h h':Heap):Prop where
 keep:∀ b o,h.get? b=some o->b∉fs->b≠ea->b≠T->h'.get? b=some o
 slot:∀ b o,h.get? b=some o->b∈fs->∃ sl,h'.get? b=some { o with slots:=sl }
structure iR(g:Heap)(H:Hp)(ea T:Addr)(cls:Value)(h:Heap):Prop where
 obj:∃ (oe:Obj) (vs:Array Value) (oT:Obj) (ts:Array Value) (a0:Value),h.get? ea=some oe/\(oe.cls=cls/\vs[0]?=some a0)/\oe.data = .fields vs/\vs[1]?=some (.ref T)/\T≠ea/\h.get? T=some oT/\oT.data = .fields ts/\ts[3]?=some .none
 he:H ea=none
 hT:H T=none
 ge:g.get? ea=none
 gT:g.get? T=none
section
variable{P:Program}{w:World}{fs fs' ex:List Addr}{H₀ H:Hp}{g g₀ h h' base:Heap}{ea T:Addr}{cls:Value}{l l':List Env}
theorem iR.older(F:iR g H ea T cls h)(k:∀ b o,g₀.get? b=some o->∃ o',g.get? b=some o'):iR g₀ H ea T cls h:=by
 refine ⟨F.obj,F.he,F.hT,?_,?_⟩
 ·cases q:g₀.get? ea with
  | none=>rfl
  | some o=>obtain ⟨o',z⟩:=k _ _ q;rw [F.ge] at z;cases z
 ·cases q:g₀.get? T with
  | none=>rfl
  | some o=>obtain ⟨o',z⟩:=k _ _ q;rw [F.gT] at z;cases z
theorem iR.flyingW(F:iR g H ea T cls h)(hl:h.FunFrames base l):∃ a0,Heap.FlyingW (PySem.W.hideAll h (ea::T::frs l)) l ea cls a0 h:=by
 obtain ⟨oe,vs,oT,ts,a0,h1,h2,h3,h4,h5,h6,h7,h8⟩:=F.obj;refine ⟨a0,fun b o e=>PySem.W.of_hideAll _ e,PySem.W.hideAll_none _ DC,PySem.W.funFrames_hide hl (fun env he a hf=> ?_),oe,vs,T,oT,ts,h1,h2,h3,h4,PySem.W.hideAll_none _ (Dv _ DC),h5,h6,h7,h8⟩;exact Dv _ (Dv _ (F0.mpr ⟨env,he,hf⟩))
theorem Ad(F:iR g H ea T cls h)(hl:h.FunFrames base l)(hok:HOk P w H h)(hg:∀ b o,g.get? b=some o->∃ o',h.get? b=some o'){a0:Value}
 (x:Heap.FlyingW (PySem.W.hideAll h (ea::T::frs l)) l' ea cls a0 h') (up:h.UpToSlots h'):CB (frs l) ea T h h'/\∃ T',iR g H ea T' cls h':=by
 obtain ⟨x1,x2,x3,oe,vs,T',oT,ts,y1,y2,y3,y4,y5,y6,y7,y8,y9⟩:=x
 have slot:∀ b o,h.get? b=some o->b∈frs l->∃ sl,h'.get? b=some { o with slots:=sl }:=fun b o e hb=>by
  obtain ⟨_,o',ho',nf⟩:=hl.mem hb;rw [e] at ho';cases ho';exact up b o e nf
 refine ⟨⟨fun b o e n1 n2 n3=>x1 b o (Fu _ e (by simp [n1,n2,n3])),slot⟩,T',?_⟩
 have fr:H T'=none/\g.get? T'=none:=by
  by_cases q:T'=T
  ·subst q;exact ⟨F.hT,F.gT⟩
  ·have nf:T'∉frs l:=fun hb=>by
    obtain ⟨_,o,ho,nf⟩:=hl.mem hb;obtain ⟨sl,z⟩:=slot T' o ho hb;rw [y7] at z;cases z;exact nf ts y8
   have hn:h.get? T'=none:=by
    cases z:h.get? T' with
    | none=>rfl
    | some o =>
     have:=Fu (ea::T::frs l) z (by simp [nf,q,y6]);rw [y5] at this;cases this
   refine ⟨hok.none_of hn,?_⟩
   cases z:g.get? T' with
   | none=>rfl
   | some o=>obtain ⟨o',z'⟩:=hg _ _ z;rw [hn] at z';cases z'
 exact ⟨⟨oe,vs,oT,ts,a0,y1,y2,y3,y4,y6,y7,y8,y9⟩,F.he,fr.1,F.ge,fr.2⟩
theorem Un.turn(u:Un fs ex H₀ H g h)(t:CB fs' ea T h h')(ge:g.get? ea=none)(gT:g.get? T=none)(h1:∀ b∈fs,b∈fs')(h2:∀ b∈fs',b∉fs->g.get? b=none):Un fs ex H₀ H g h' where
 keep:=fun b o q n hb hx=>t.keep b o (u.keep b o q n hb hx) (fun z=>by rw [h2 b z hb] at q;cases q) (fun z=>by rw [z,ge] at q;cases q) (fun z=>by rw [z,gT] at q;cases q)
 slot:=fun b o q n hb hx=>by
  obtain ⟨sl,e⟩:=u.slot b o q n hb hx;obtain ⟨sl',e'⟩:=t.slot b _ e (h1 b hb);exact ⟨sl',e'⟩
 free:=u.free
 there:=fun b o q hx=>by
  obtain ⟨o',e⟩:=u.there b o q hx
  by_cases hb:b∈fs'
  ·obtain ⟨sl,e'⟩:=t.slot b o' e hb
   exact ⟨_,e'⟩
  ·exact ⟨o',t.keep b o' e hb (fun z=>by rw [z,ge] at q;cases q) (fun z=>by rw [z,gT] at q;cases q)⟩
 tups:=u.tups
 frzs:=u.frzs
 tbls:=u.tbls
theorem HOk.turn(x:HOk P w H h)(t:CB fs ea T h h')(he:H ea=none)(hT:H T=none)(hf:∀ b∈fs,H b=none):HOk P w H h':=fun a o e=>by
 have ne:∀ b,(b=a\/H b=some (.own a))->H b≠none:=fun b hb z=>by
  rcases hb with rfl | hb
  ·rw [z] at e;cases e
  ·rw [z] at hb;cases hb
 exact (x a o e).stay (fun b u hb q=>t.keep b u q (fun z=>ne b hb (hf b z)) (fun z=>ne b hb (z ▸ he)) (fun z=>ne b hb (z ▸ hT))) (fun _ q=>q) fun _ _ q=>q
end
noncomputable def CXr(P:Program)(w:World):CXT:=fun outer H s E e s'=>∃ ea T cls H',e = .ref ea/\s'.os=s.os/\AllBare s'.gens/\Un (frs outer) [] H H' s.heap s'.heap/\HOk P w H' s'.heap/\iR s.heap H' ea T cls s'.heap/\E cls none H'
section
variable{P:Program}{w:World}{K:F2}{mg:Str->Option Value}{base:Heap}{N:List Str}{qual:Str}{scope:Scope}{f:Addr}{cd:Value}{A:Around}{outer:List Env}{s:Shared}{H:Hp}{E E':XK}
theorem sS{env:Env}{L:Addr}{l:List Env}(h:env.frame=some L):frs (env::l)=L::frs l:=by unfold frs;rw [FV,h]
theorem za(himp:∀ c d H,E' c d H->E c d H):vh (CXr P w) (bZ (CXr P w) P w K mg base N qual scope f cd A outer s H E) E':=by
 intro pins σ H1 s1 e s2 I hx;obtain ⟨ea,T,cls,H2,rfl,os,bare,un,hok,fl,e1⟩:=hx
 have I2:Inv (bZ (CXr P w) P w K mg base N qual scope f cd A outer s H E) pins σ H2 s2:=I.call' (ch:=[]) os un hok bare fun b z=>absurd z (by simp)
 have fl:=fl.older (g₀:=s.heap) fun b o q=>I.base.there b o q (by show b∉[];simp)
 obtain ⟨a0,fw⟩:=fl.flyingW I2.stack
 refine wpAny_leaves_onW I2.ok.frames rfl fw fun h' x1 x2=> ?_
 obtain ⟨tn,T',fl'⟩:=Ad fl I2.stack hok (fun b o q=>I2.base.there b o q (by show b∉[];simp)) x1 x2;have e2:frs (bZ (CXr P w) P w K mg base N qual scope f cd A outer s H E).stack=s.heap.objs.size::frs outer:=sS rfl;refine ⟨ea,T',cls,H2,rfl,I2.os,bare,Un.turn I2.base tn fl.ge fl.gT (fun b hb=> ?_) (fun b hb nb=> ?_),hok.turn tn fl.he fl.hT I2.stkFree,fl',himp _ _ _ e1⟩
 ·rw [e2];exact Dv _ hb
 ·rw [e2] at hb
  rcases Dx.mp hb with rfl | hb
  ·exact Heap.get?_none_of_le (DE _)
  ·exact absurd hb nb
def tRaise(C:Addr)(E:XK):TS:=fun _ _ H=>E (.ref C) none H
theorem wE{x:Str}{C:Addr}{bm:List Value}{B newId initId:String}{np cpos pos:Pos}(O:OwnCls x C bm newId mg base)(FB:ExcBaseFacts B newId initId bm)(hh:(A.deeper (envOfC qual scope s.heap.objs.size f cd)).handled=none)
 (hg:Gl (bZ (CXr P w) P w K mg base N qual scope f cd A outer s H E) x) (hd:(x == ("__debug__" : Str))=false:=by decide):PS (bZ (CXr P w) P w K mg base N qual scope f cd A outer s H E) (.Raise (some (.Call (.Name x np) [] [] cpos)) none pos) (tRaise C E):=by
 intro pins s1 σ H1 D I h;obtain ⟨tl,N',nm,q,bs,hdct,sn,sub,ab,col,dd,k0,k1,k2,k3,k5,mN,hC,hN,hni,T⟩:=O.obj
 refine wpAny_Raise_call_subT (C:=C) (nm:=nm) (q:=q) (N:=N') (bs:=bs) (bm:=tl) (hdct:=hdct) (sn:=sn) (sub:=sub) (ab:=ab) (col:=col) (dd:=dd) (k0:=k0) (k1:=k1) (k2:=k2) (k3:=k3) (k5:=k5)
  FB (mN:=mN) (T.hasType FB.hasBase) hh rfl hni (qp I hg O.bound ⟨rfl,?_⟩ hd)
 refine evalArgs_empty ⟨rfl,Fb _,I.bk _ _ hC,hN.keeps I.bk,T.keeps I.bk,fun h' e hm=> ?_⟩
 have hin:∀ env∈(bZ (CXr P w) P w K mg base N qual scope f cd A outer s H E).stack,∀ b,env.frame=some b->b∈frs (bZ (CXr P w) P w K mg base N qual scope f cd A outer s H E).stack:=fun env he b hb=>F0.mpr ⟨env,he,hb⟩
 refine wpAny_leaves_madeW (base:=PySem.W.hideAll s1.heap (frs (bZ (CXr P w) P w K mg base N qual scope f cd A outer s H E).stack)) (h:=s1.heap) I.ok.frames rfl (fun b o q=>PySem.W.of_hideAll _ q) (PySem.W.funFrames_hide I.stack hin) hm fun h'' t x1 x2 x3 x4=> ?_
 obtain ⟨y1,y2,y3,oe,vs,T',oT,ts,z1,z2,z3,z4,z5,z6,z7,z8,z9⟩:=x1
 have tn:CB (frs (bZ (CXr P w) P w K mg base N qual scope f cd A outer s H E).stack) e T' s1.heap h'':=by
  refine ⟨fun b o q n1 _ _=>y1 b o (Fu _ q n1),fun b o q hb=> ?_⟩;obtain ⟨_,o',ho',nf⟩:=I.stack.mem hb;rw [q] at ho';cases ho';exact x4 b o (hm.keeps b o q) nf
 have hT:s1.heap.get? T'=none:=by
  have nf:T'∉frs (bZ (CXr P w) P w K mg base N qual scope f cd A outer s H E).stack:=fun hb=>by
   obtain ⟨_,o,ho,nf⟩:=I.stack.mem hb;obtain ⟨sl,z⟩:=tn.slot T' o ho hb;rw [z7] at z;cases z;exact nf ts z8
  cases z:s1.heap.get? T' with
  | none=>rfl
  | some o =>
   have:=Fu _ z nf;rw [z5] at this;cases this
 have e2:frs (bZ (CXr P w) P w K mg base N qual scope f cd A outer s H E).stack=s.heap.objs.size::frs outer:=sS rfl
 have fl:iR s.heap H1 e T' (.ref C) h'':=by
  refine iR.older (g:=s1.heap) ⟨⟨oe,vs,oT,ts,_,z1,z2,z3,z4,z6,z7,z8,z9⟩,I.hok.none_of hm.new,I.hok.none_of hT,hm.new,hT⟩ fun b o q=>I.base.there b o q (by show b∉[];simp)
 refine ⟨e,T',.ref C,H1,rfl,I.os,I.bare,Un.turn I.base tn fl.ge fl.gT (fun b hb=> ?_) (fun b hb nb=> ?_),I.hok.turn tn fl.he fl.hT I.stkFree,fl,h⟩
 ·rw [e2];exact Dv _ hb
 ·rw [e2] at hb
  rcases Dx.mp hb with rfl | hb
  ·exact Heap.get?_none_of_le (DE _)
  ·exact absurd hb nb
end
structure OkX(P:Program)(w:World)(K:F2)(mg:Str->Option Value)(base:Heap)(x:Str)(ps:List Str)(k:Nat)(sp:Sp):Prop where
 ex:∃ f fd,mg x=some (.ref f)/\PySem.W.keepIn K (.ref f)=true/\lE K fd ps []/\kF P w K mg base (CXr P w) k f fd ps sp
theorem Has.okX{P:Program}{w:World}{K:F2}{mg:Str->Option Value}{base:Heap}{x:Str}{st:Stmt}{N ps:List Str}{k:Nat}{sp:Sp}(h:Has K mg x st ps)(S:cW N ps (aa st))(len:∀ vs H Q E,sp vs H Q E->vs.length=ps.length)
 (hbody:∀ (f:Addr) (cdv:Value) (A:Around) (outer:List Env) (s:Shared) (H:Hp) (vs:List V) (Q:VK) (E:XK),cV k (A.deeper (envOfC x (aa st) s.heap.objs.size f cdv))->sp vs H Q E ->
   ∃ t,PSs (bZ (CXr P w) P w K mg base N x (aa st) f cdv A outer s H E) (aY st) t/\t { nx:=fun _ H'=>Q .non H',rt:=Q } (eB N vs) H):OkX P w K mg base x ps (k+1) sp:=by
 obtain ⟨f,fd,F,hm,hb⟩:=h.ex;obtain ⟨oc,od,kV,doc,pm,an,cdv,ct,osl,rfl,lk,hcd⟩:=F.ex;exact ⟨f,_,hm,F.kp,hb,Ac lk hcd S len fun A outer s H vs Q E hr hsp=>hbody f cdv A outer s H vs Q E hr hsp⟩
section
variable{X:Cx}{e:Expr}{es:List Expr}{t:TA}{x:Str}{ps:List Str}{k:Nat}{sp:Sp}{p pos:Pos}
end
def excO(ea C:Addr):HO:= .ext fun h=>∃ o,h.get? ea=some o/\o.cls = .ref C
section
variable{X:Cx}
theorem lW{y:V}{xs:List V}{us:List Value}(r:aw xs us)(f:xs.all iC=true)(m:Nat)(h1:m < us.toArray.size)(h2:m < xs.length):eqU y us.toArray[m]=eqV xs[m] y:=by
 obtain ⟨u,e,ru⟩:=r.get (i:=m) (Do h2)
 have hm:m < us.length:=by simpa using h1
 rw [Do hm] at e
 have:us.toArray[m]=u:=by simpa using Option.some.inj e
 rw [this];exact Aj ru (DK.mp f _ (Ea h2))
noncomputable def rIndex:V->List V->Hp->VK->Prop:=fun x vs H Q=>∃ l xs y j,x = .ref l/\vs=[y]/\H l=some (.lst xs)/\iC y=true/\xs.all iC=true/\(∃ h:j < xs.length,eqV xs[j] y=true)/\(∀ m (hm:m < xs.length),m < j->eqV xs[m] y=false)/\Q (.int (j:Nat)) H
theorem zq:MtM X "list.index" rIndex:=by
 intro pins s σ H x vs v us Q I rx rv h;obtain ⟨l,xs,y,j,rfl,rfl,hH,fy,fs,⟨hj,hit⟩,hno,q⟩:=h;cases rx;obtain ⟨u,rfl,ru⟩:=rv.one;obtain ⟨z,its,n,r,hl,e⟩:=I.lstM hH
 have hz:sizeLine < 2 ^ 63 - 1:=by decide
 refine call_meets F.slot_list_index ⟨_,e,rfl⟩ F.entry_list_index (F.args_list_index_2 _ _) (SeqAt.list_indexAt l its.toArray n none #[] u (eqU y) j (by simp;omega) (by omega)
  (by rw [lW r fs j (by simp;omega) hj];exact hit) (fun m hm h2=>by rw [lW r fs m hm (by simp at hm;omega)];exact hno m _ h2)) ⟨e,fun w hw=>m9 ru fy r fs w (by simpa using hw),?_⟩
 exact ⟨.int _,H,I.tok _,⟨_,rfl⟩,q⟩
end
end L2
namespace EnT
open PySem PySem.Spec PyProof.Rows
open AutoSeq1 (wpAny_loadPart')
theorem kr(l:Addr)(items:Array Value)(n:Nat)(dct:Option Addr)(sl:Array (Option Value)) :
 Meets (Builtin.«enumerate.__new__» ⟨[.type "enumerate",.ref l],[]⟩) (fun _ R s=>s.heap.get? l=some { cls:= .type "tuple",dict:=dct,data:= .seq items n,slots:=sl } /\
  R (.ok (.ret (.ref (s.heap.push { cls:= .type "tuple_iterator",data:= .fields #[.ref l,.int 0 0] }).objs.size)))
   { s with heap:=(s.heap.push { cls:= .type "tuple_iterator",data:= .fields #[.ref l,.int 0 0] }).push { cls:= .type "enumerate",data:= .fields #[.none,.bool false,.ref s.heap.objs.size,rawInt 0,.none,.none] } }) :=
 .of_wp fun prog w A R s h=>by
  obtain ⟨hp,g,d,tk,os⟩:=s;obtain ⟨hl,h⟩:=h;have hsub:=sub_enumerate;have hL:Heap.IsTuple (Shared.heap ⟨hp,g,d,tk,os⟩) l items:=⟨_,hl,rfl,n,rfl⟩
  wp_walk using EB hl
  refine wpAny_stack_any fun st=>Dr ?_
  split
  ·rename_i c _ _ _ _ _
   cases (c == Value.type "enumerate")
   ·wp_walk using EB hl,Ej hL
    exact ⟨_,rfl,h⟩
   ·wp_walk using EB hl,Ej hL
    exact ⟨_,rfl,h⟩
  ·wp_walk using EB hl,Ej hL
   exact ⟨_,rfl,h⟩
section
variable{prog:Program}{w:World}{A:Around}{E:Value->Shared->Prop}{s:Shared}
theorem nN{l:Addr}{items:Array Value}{Q:Value->Shared->Prop}(hL:s.heap.IsTuple l items)
 (h:∀ h',IsEnum h' (s.heap.objs.size+1) s.heap.objs.size 0 .none->h'.IsTupleIter s.heap.objs.size l 0->h'.objs.size=s.heap.objs.size+2 ->
   (∀ b o,s.heap.get? b=some o->h'.get? b=some o)->Q (.ref (s.heap.objs.size+1)) { s with heap:=h' }) :
 wpAny (model prog w) A (call (.type "enumerate") [.ref l]) Q E s:=by
 obtain ⟨⟨c,dct,dt,sl⟩,hl,hc,n,hd⟩:=hL
 replace hc:c = .type "tuple" := hc
 replace hd:dt = .seq items n:=hd
 subst hc hd
 refine callType_new F.called_enumerate (by decide) (F.typeCall_enumerate_1 _) (F.newCall_enumerate_1 _) (fun obj=>F.args_object_init_2 obj _) F.entry_enumerate_new
  (kr l items n dct sl) ⟨hl,?_⟩
 have hz:(s.heap.push { cls:= .type "tuple_iterator",data:= .fields #[.ref l,.int 0 0] }).objs.size=s.heap.objs.size+1:=DZ ..
 show _/\_
 rw [hz]
 have he:IsEnum ((s.heap.push { cls:= .type "tuple_iterator",data:= .fields #[.ref l,.int 0 0] }).push
  { cls:= .type "enumerate",data:= .fields #[.none,.bool false,.ref s.heap.objs.size,rawInt 0,.none,.none] }) (s.heap.objs.size+1) s.heap.objs.size 0 .none:=by
  have:=Dw (s.heap.push { cls:= .type "tuple_iterator",data:= .fields #[.ref l,.int 0 0] })
   (o:={ cls:= .type "enumerate",data:= .fields #[.none,.bool false,.ref s.heap.objs.size,rawInt 0,.none,.none] }) rfl
  rw [hz] at this;exact this
 refine ⟨⟨_,he,rfl⟩,h _ he ⟨_,Dm _ (Dw _ rfl),rfl,rfl⟩ (by rw [DZ,hz]) fun b o x=>Dm _ (Dm _ x)⟩
theorem fO{it l:Addr}{i:Nat}{items}{x:Value}{Q:Value->Shared->Prop}(hit:s.heap.IsTupleIter it l i)
 (hl:s.heap.IsTuple l items) (hx:items[i]?=some x)
 (hQ:∀ h',h'.IsTupleIter it l (i+1)->Heap.SameBut it s.heap h'->Q x { s with heap:=h' }) :
 wpAny (model prog w) A (Builtin.SmallTypes.nextOf (.ref it)) Q E s:=by
 obtain ⟨o,ho,hc,hd⟩:=id hit;obtain ⟨ol,hol,_,nl,hdl⟩:=hl;unfold Builtin.SmallTypes.nextOf
 refine Dl (Ek (name:=Str.ofString "__next__") hit.typeIs F.slot_tuple_iterator_next
  (Es F.slot_tuple_iterator_next hit.typeIs F.entry_tuple_iterator_next ?_ (F.args_tuple_iterator_next_1 _)))
 show wpAny _ _ (field (.ref it) 0 >>= _) _ _ s
 refine Dl (EH ho hd (x:= .ref l) rfl ?_)
 show wpAny _ _ (if (Value.ref l == Value.none)=true then _ else _) _ _ s
 rw [if_neg (show ¬ ((Value.ref l == Value.none)=true) from DH)]
 show wpAny _ _ (field (.ref it) 1 >>= _) _ _ s
 refine Dl (EH ho hd (x:= .int i 0) rfl ?_)
 show wpAny _ _ (seqItems? (.ref l) >>= _) _ _ s
 refine Dl (Fo hol hdl ?_);simp only [EM,hx];refine Dl (E1 ho hd (by simp) (Dr ⟨x,rfl,Dr (hQ _ ?_ (Heap.SameBut.update ..))⟩))
 exact ⟨_,EG _ ho (Obj.isFreed_of_fields (FY hd _)),(Obj.cls_mapFields ..).trans hc,by
  rw [FY hd];simp [rawInt]⟩
theorem gP{it l:Addr}{i:Nat}{items}{Q:Value->Shared->Prop}(hh:A.handled=none)
 (hit:s.heap.IsTupleIter it l i) (hl:s.heap.IsTuple l items) (hx:items[i]?=none)
 (hE:∀ h' e,Heap.ExtBut it s.heap h'->(∃ o,h'.get? e=some o/\o.cls = .type "StopIteration")->E (.ref e) { s with heap:=h' }) :
 wpAny (model prog w) A (Builtin.SmallTypes.nextOf (.ref it)) Q E s:=by
 obtain ⟨o,ho,hc,hd⟩:=id hit;obtain ⟨ol,hol,_,nl,hdl⟩:=hl;unfold Builtin.SmallTypes.nextOf
 refine Dl (Ek (name:=Str.ofString "__next__") hit.typeIs F.slot_tuple_iterator_next
  (Es F.slot_tuple_iterator_next hit.typeIs F.entry_tuple_iterator_next ?_ (F.args_tuple_iterator_next_1 _)))
 show wpAny _ _ (field (.ref it) 0 >>= _) _ _ s
 refine Dl (EH ho hd (x:= .ref l) rfl ?_)
 show wpAny _ _ (if (Value.ref l == Value.none)=true then _ else _) _ _ s
 rw [if_neg (show ¬ ((Value.ref l == Value.none)=true) from DH)]
 show wpAny _ _ (field (.ref it) 1 >>= _) _ _ s
 refine Dl (EH ho hd (x:= .int i 0) rfl ?_)
 show wpAny _ _ (seqItems? (.ref l) >>= _) _ _ s
 refine Dl (Fo hol hdl ?_);simp only [EM,hx];refine Dl (wpAny_rule (Dl (E1 ho hd (by simp) ?_)))
 show wpAny _ _ (newExc (.type "StopIteration") [] >>= _) _ _ _
 refine Dl ?_;simp only [newExc,newTuple];refine Dl (Ei ?_ (by size_fits));refine Dl (m:=firstArgMember _ _) (wpAny_of_eq (a:=Value.none) (by first | rfl | (simp only [firstArgMember];rfl)) ?_);refine Ei ?_ (by size_fits);simp only [raiseNew];refine Dl (wpAny_handled ?_)
 first | rw [show A.in1.handled=none from hh] | rw [hh]
 refine Dl (Dr (wpAny_throw ?_));exact hE _ _ (((Heap.SameBut.update ..).extBut.push _).push _) ⟨_,Dw _ rfl,rfl⟩
end
end EnT
namespace L2
open PySem PySem.Spec PyProof.Rows
section
variable{X:Cx}
end
end L2
namespace XK
open PySem PySem.W PySem.Spec PySem.Calls PyProof.Rows PySem.Builtin PySem.Builtin.ObjectAttr PySem.Builtin.Getset_descriptor
section
variable{prog:Program}{w:World}{A:Around}{E:Value->Shared->Prop}{h:Heap}{g:Array GenState}{d:Drawn}{t:Nat}{os:OsState}{a:Addr}{o:Obj}{C:Addr}{K:Frag}
end
end XK
namespace L2
open PySem PySem.Spec PyProof.Rows
section
variable{X:Cx}{e:Expr}{te:TE}{x:Str}{p1 p2 pos:Pos}
end
section
variable{X:Cx}
theorem mJ{elt tg iter:Expr}{ifs:List Expr}{sc:Scope}{M tgs:List Str}{pos:Pos}{wi:TI}{g:TG}{tt:TT}{te:TE}{j:Nat}{y:Str}{py spos:Pos}(hc:X.calm=true)(B:lD X sc M tgs)(hi:PI X tg iter wi)
 (hg:∀ cl C fp s H,PG (blk X sc cl C fp s H (M++tgs)) tg g) (ht:∀ cl C fp s H,vj (blk X sc cl C fp s H (M++tgs)) ifs tt) (he:∀ cl C fp s H,PE (blk X sc cl C fp s H (M++tgs)) elt te)
 (hN:X.N.Nodup) (hjy:X.N[j]?=some y) (hy:X.env.scope.names.lookup y=some .local) (hsw:swapsWith (.ListComp elt [⟨tg,iter,ifs,0⟩] sc pos) (some (.Name y py)) spos.line X.env=pure true:=by rfl)
 (hs:∀ x,foldedSetIterable iter X.env x=pure x:=by intro _;rfl):PS X (.Assign [.Name y py] (.ListComp elt [⟨tg,iter,ifs,0⟩] sc pos) spos) (tAsg (oO wi tgs.length g tt te) (vZ j)):=by
 intro pins s σ H Dn I h
 let Q:VK:=fun x H1=>Dn.nx (σ.set j (some x)) H1
 have h:oO wi tgs.length g tt te σ H Q:=h;rw [exec_Assign_Name_used _ _ _ _ hsw];refine Dl (wpAny_standAt (Dl ?_));refine Dl (EQ (pw (use:=some (assign (.Name y py) X.env)) (Qf:=fun _ s'=>SP X pins Dn .next s') hc B hi hg ht he hs I h fun C D m s6 H' I8 hn hC hLC hsz hcC hp q f=> ?_) (fun _ s' hq=>Dr (Dr hq)) fun _ _ e=>e)
 show wpAny _ _ (assign (.Name y py) X.env (.ref D)) _ _ _
 refine wpAny_assign_Name (oQ I8 hN hjy (.inl hy) (v:= .ref D) rfl (fun s9 I9 hsb=> ?_) (.inr hy));obtain ⟨a,sb,ha⟩:=hsb
 have haC:C≠a:=by
  rcases ha with rfl | ha
  ·exact E7 hLC
  ·exact Ne.symm (hcC _ _ ha)
 exact ⟨m,hn.sameBut sb haC,fun h' hs'=>⟨_,H',I9.turned (t':=s9.toks) (it:=C) (fun b o hb e=>(hs'.2 b hb).trans e) hC (E7 hLC) (.inr hsz) hcC hp,q⟩⟩
end
section
variable{X:Cx}
noncomputable def iZ(K:F2):List V->Hp->(V->Hp->Prop)->Prop:=fun xs H Q=>∃ (p:Addr) (ns:List Int),xs=[V.ref p]/\SqL K H p (ns.map V.int)/\ns.length < 64 /\
 ∀ l (ms:List Int),H l=none->List.Perm ms ns->ms.Pairwise (·<= ·)->Q (.ref l) (upd H l (.lst (ms.map V.int)))
theorem kH{us:List Value}{ns:List Int}(h:IntsAre us ns):aw (ns.map V.int) us:=by
 induction h with
 | nil=>exact .nil
 | cons a t _ ih=>exact .cons ⟨t,rfl⟩ ih
theorem qG:ax X (.builtin "sorted") (iZ X.K):=by
 intro pins s σ H xs us Q I r h;obtain ⟨p,ns,rfl,hq,h64,q⟩:=h;obtain ⟨u,rfl,ru⟩:=bC r;cases ru;obtain ⟨its,rv,pl,hz⟩:=I.list hq;have hlen:=rv.length;rw [Dp] at hlen
 refine sorted_ints pl.isList (dl rv) (by omega) fun out ms hi hp hs=> ?_
 have hf:H (s.heap.objs.size+1)=none:=I.hok.fresh (Nat.le_succ _);obtain ⟨e,he⟩:=sortedAll_at s.heap its out;refine ⟨.ref (s.heap.objs.size+1),upd H (s.heap.objs.size+1) (.lst (ms.map V.int)),I.laid (t':=s.toks) (fun b o=>sortedAll_old) (Nat.le_succ _) ⟨?_,out.toList,e,kH hi,by simpa using he⟩,rfl,q _ _ hf hp hs⟩;rw [Dp,hp.length_eq]
 rwa [Dp] at hz
noncomputable def mG:List V->Hp->(V->Hp->Prop)->Prop:=fun xs H Q=>∃ (p:Addr) (lo hi:Int),xs=[V.ref p]/\H p=some (.rng lo hi) /\ -(2 ^ 62)<=lo/\lo < 2 ^ 62 /\ -(2 ^ 62)<=hi/\hi < 2 ^ 62/\(hi - lo).toNat<=1000 /\
 ∀ l,H l=none->Q (.ref l) (upd H l (.lst ((List.range (hi - lo).toNat).map fun k=>V.int (lo+(k:Nat)))))
theorem gB:∀ {xs:List V} {us:List Value},xs.length=us.length->(∀ (i:Nat) (x:V) (u:Value),xs[i]?=some x->us[i]?=some u->aB x u)->aw xs us
 | [],[],_,_=> .nil
 | x::xs,u::us,h,q=> .cons (q 0 x u rfl rfl) (gB (by simpa using h) fun i x' u' h1 h2=>q (i+1) x' u' (by simpa using h1) (by simpa using h2))
 | [],_::_,h,_=>by simp at h
 | _::_,[],h,_=>by simp at h
theorem uX(hc:X.calm=true):ax X (.type "list") mG:=by
 intro pins s σ H xs us Q I r h;obtain ⟨p,lo,hi,rfl,hp,h1,h2,h3,h4,hn,q⟩:=h;obtain ⟨u,rfl,ru⟩:=bC r;cases ru;obtain ⟨t,u,v,e⟩:=(show bt X.prog X.w H s.heap p (.rng lo hi) from I.hok p _ hp)
 have hsz:Builtin.Range.rangeSize lo hi 1=((hi - lo).toNat:Nat):=by rw [rangeSize_one];split<;>omega
 refine call_list_range (n:=(hi - lo).toNat) (I.ok.hd hc) (show IsRange s.heap p lo hi 1 t u v from e) (small_one h1 h2 h3 h4) hsz (by omega) fun h' tk acc c hk hS hacc=> ?_
 have hf:H s.heap.objs.size=none:=I.hok.fresh (DE _);refine ⟨.ref s.heap.objs.size,_,I.laid (o:= .lst ((List.range (hi - lo).toNat).map fun k=>V.int (lo+(k:Nat)))) hk (DE _) ⟨?_,acc.toList,c,gB ?_ ?_,by simpa using hS⟩,rfl,q _ hf⟩
 ·rw [Dp,ET];exact E9 (df hn)
 ·rw [Dp,ET,Ez,hacc.1]
 ·intro i x w hx hw
  rw [DL] at hx;obtain ⟨k,hk',rfl⟩:=El.mp hx
  have ek:i=k:=by
   rw [DG] at hk';obtain ⟨z,e⟩:=hk';simpa using e
  subst ek;obtain ⟨t',rfl⟩:=hacc.2 i w (by simpa using hw);refine ⟨t',?_⟩;rw [Int.mul_one]
end
end L2
namespace St2
open PySem PyProof.Rows
abbrev eL(ns:List Int)(k:Nat):List Int:=firstMet (fun j=>ns.getD j 0) k
abbrev gQ(led:Bool):Obj:={ cls:= .type "set",dict:=none,data:= .set #[] 0 (.fresh 0 0 led) }
section
variable{prog:Program}{w:World}{A:Around}{E:Value->Shared->Prop}{s:Shared}
theorem wv{a:Addr}{its:Array Value}{ns:List Int}{Q:Value->Shared->Prop}(calm:A.handled=none)(tu:IsTup s.heap a its)(inz:IntsAre its.toList ns)(few:its.size+1 < scanBound)
 (q:∀ (h':Heap) (tk:Nat),h'.SetOf (intKind prog w) s.heap.objs.size (fun x=>(eL ns its.size).any (·== x)) (eL ns its.size).length->(∀ b o,b < s.heap.objs.size->s.heap.get? b=some o->h'.get? b=some o)->Q (.ref s.heap.objs.size) { s with heap:=h',toks:=tk }) :
 wpAny (model prog w) A (call (.type "set") [.ref a]) Q E s:=by
 obtain ⟨c0,tl0,mro0⟩:=F.called_set.mro;have m1:=F.called_set.made;have m2:=F.called_set.sub;have m3:=F.called_set.notType;have m4:=F.called_set.canCreate;have m5:=F.typeCall_set_1 (.ref a);refine wpAny_call (codeAny_of_tree ?_)
 show wpAny _ _ (callAny (.type "set") _) _ _ _
 refine Dr ⟨Code.quiet_builtin _ (by decide +kernel),codeAny_builtin F.entry_type_call ?_⟩;rw [Around.under_plain (weight_type_call_type "set" [.ref a] []) rfl]
 repeat (any_goals (first | assumption | wp_step))
 refine codeAny_mono (code_set_new_1 (.ref a) (E:=E) (Q₁:=fun ob t1=>∃ led:Bool,ob = .ref s.heap.objs.size/\t1={ s with heap:=s.heap.push (gQ led) }) fun led=>⟨led,rfl,rfl⟩) fun res t1 hres=> ?_
 cases res with
 | error x=>exact hres
 | ok fl =>
  cases fl with
  | next=>exact hres.elim
  | brk=>exact hres.elim
  | cont=>exact hres.elim
  | ret ob =>
   obtain ⟨led,rfl,rfl⟩:=hres;have atS:(s.heap.push (gQ led)).get? s.heap.objs.size=some (gQ led):=Dw _ rfl;have tyS:Shared.TypeIs { s with heap:=s.heap.push (gQ led) } (.ref s.heap.objs.size) "set" := ⟨_,atS,rfl⟩;have i1:=F.called_set.init.lookup;have i2:=F.called_set.init.bind (.ref s.heap.objs.size)
   repeat (any_goals (first | assumption | wp_step))
   refine codeAny_mono (codeAny_call_builtin (R:=wants (fun r t2=>r = .none/\∃ h' tk,t2={ s with heap:=h',toks:=tk }/\h'.SetOf (intKind prog w) s.heap.objs.size (fun x=>(eL ns its.size).any (·== x)) (eL ns its.size).length /\
    (∀ b o,b < s.heap.objs.size->s.heap.get? b=some o->h'.get? b=some o)) E) F.called_set.init.plain F.entry_set_init (check_set_init_1 tyS ?_)) fun r2 t2 hr2=> ?_
   ·obtain ⟨⟨k1,k2,k3,k4⟩,e0,e1,n0,e2⟩:=id tu
    simp only at e1 e2;subst e1 e2;have e0':(s.heap.push (gQ led)).get? a=some ⟨.type "tuple",k2,.seq its n0,k4⟩:=Dm _ e0;have j1:=F.sub_tuple_set;have j2:=F.sub_tuple_frozenset
    have j3:(Value.type "tuple" == Value.type "dict")=false:=by decide
    have tu1:IsTup (s.heap.push (gQ led)) a its:=⟨_,e0',rfl,n0,rfl⟩;unfold Builtin.«set.__init__» noKeywords Builtin.Frozenset.updateFrom
    generalize hPy:pyIter=PY
    wp_walk
    subst hPy;refine Ej (show (s.heap.push (gQ led)).IsTuple a its from tu1) ?_;refine Dl (F1 ?_);have lt:a < s.heap.objs.size:=DA e0
    have calm3:A.in1.in1.in1.handled=none:=by simp [calm]
    have ne1:a≠(s.heap.push (gQ led)).objs.size:=by rw [DZ];exact DO (EL lt)
    have out:s.heap.objs.size∉[(s.heap.push (gQ led)).objs.size,a]:=by
     rw [DZ];simp only [Dx,Et,or_false,not_or];exact ⟨DO (Fs _),E7 lt⟩
    refine codeAny_set_update_loopS ((Walks.tuple calm3 _ a ne1 its).toS) s.heap.objs.size out (fun j=>ns.getD j 0) (fun i v hv=>IntsAre.int_at inz i v (by rw [E0];exact hv)) few (its.size - 0) 0 _ (by omega) (Fb _) ⟨⟨_,Dw _ rfl,rfl,rfl⟩,?T⟩ ?S ?R
    case T=>exact ⟨_,Dm _ e0',rfl,n0,rfl⟩
    case S=>exact SetOf_congr ((setObjOf_fresh (knd:=intKind prog w) led).setOf (Dm _ atS) (by unfold scanBound;omega)) (fun _=>rfl) rfl
    case R =>
     rintro ⟨h',g',d',tk',os'⟩ mv st;have w1:g'=s.gens:=mv.gens;have w2:d'=s.drawn:=mv.drawn;have w3:os'=s.os:=mv.os;subst w1 w2 w3;refine Dr ?_
     show wpAny _ _ (ret Value.none) _ _ _
     refine Dr ⟨rfl,h',tk',rfl,st,fun b o lb e=>mv.heap b o ?_ (Dm _ (Dm _ e))⟩;rw [DZ];simp only [Dx,Et,or_false,not_or];exact ⟨DO lb,DO (EL lb)⟩
   ·cases r2 with
    | error x=>exact hr2
    | ok f2 =>
     cases f2 with
     | ret r =>
      obtain ⟨rfl,h',tk,rfl,st,kp⟩:=hr2
      repeat (any_goals (first | assumption | wp_step))
      exact q _ _ st kp
     | next=>exact hr2.elim
     | brk=>exact hr2.elim
     | cont=>exact hr2.elim
end
end St2
namespace L2
open PySem PySem.Spec PyProof.Rows
section
variable{X:Cx}
noncomputable def vD:List V->Hp->VK->Prop:=fun xs H Q=>∃ (p:Addr) (S:Int->Bool) (n:Nat),xs=[V.ref p]/\H p=some (.set S n)/\n<=1000/\Q (.int (n:Nat)) H
theorem tN:ax X (.builtin "len") vD:=by
 intro pins s σ H xs us Q I r h;obtain ⟨p,S,n,rfl,hp,hn,q⟩:=h;obtain ⟨u,rfl,ru⟩:=bC r;cases ru;obtain ⟨o,es,ep,t,ho,ex,hd,_,_,_,hf,rfl⟩:=(show s.heap.SetOf (intKind X.prog X.w) p S n from I.hok p _ hp);exact call_len_set ho ex hd hf (by omega) ⟨.int (es.size:Nat),H,I.tok _,⟨_,rfl⟩,q⟩
end
end L2
namespace St2
open PySem PyProof.Rows
theorem qY(ns:List Int):∀ i,i<=ns.length->(List.range i).map (fun j=>ns.getD j 0)=ns.take i
 | 0,_=>rfl
 | i+1,h=>by
  have hi:i < ns.length:=by omega
  rw [List.range_succ,Ev,qY ns i (by omega),List.take_add_one,Do hi];simp [hi]
end St2
namespace Tr2
open PySem PyProof.Rows
section
variable{prog:Program}{w:World}{A:Around}{E:Value->Shared->Prop}{s:Shared}
theorem B7{R:Result->Shared->Prop}{r:Addr}{a b:Int}{t u v:Tok}{k:Nat}(calm:A.handled=none)(rg:IsRange s.heap r a b 1 t u v)(sm:Builtin.Range.small a b 1=true)(sz:Builtin.Range.rangeSize a b 1=k)(few:k<=1000)
 (q:∀ (h':Heap) (tk:Nat) (acc:Array Value) (c0:Nat),(∀ x o,s.heap.get? x=some o->h'.get? x=some o)->h'.get? s.heap.objs.size=some { cls:= .type "list",dict:=none,data:= .seq acc c0,slots := #[] }->ItemsOf (fun i v=>∃ t,v = .int (a+i * 1) t) acc k->R (.ok (.ret (.ref s.heap.objs.size))) { s with heap:=h',toks:=tk }) :
 codeAny (model prog w) A (.builtin "proto.collect" ⟨[.ref r],[]⟩) R s:=by
 refine (codeAny_builtin PySem.F.entry_proto_collect ?_);rw [(Around.under_plainId PySem.F.plain_proto_collect _)]
 show wpAny _ A.in1 (newList [] >>= fun l=>again (.builtin "list.__iadd__" ⟨[l,.ref r],[]⟩)) (_) _ s
 refine Dl (Ei (Dr ⟨plainId_quiet PySem.F.plain_list_iadd _,codeAny_builtin PySem.F.entry_list_iadd ?_⟩));rw [(Around.under_plainId PySem.F.plain_list_iadd _)];have at_:(s.heap.push { cls:= .type "list",data:= .seq ([]:List Value).toArray }).get? s.heap.objs.size=some { cls:= .type "list",data:= .seq #[] 0 }:=Dw _ rfl
 show wpAny _ A.in1 (Builtin.List.listExtendWith (.ref s.heap.objs.size) (.ref r) (.ref s.heap.objs.size)) (_) _ _
 exact wpAny_extend_range (A:=A) (R:=R) (s:={ s with heap:=s.heap.push { cls:= .type "list",data:= .seq ([]:List Value).toArray } }) calm (Dm _ rg) sm sz (by omega) s.heap.objs.size (.ref s.heap.objs.size) 0 at_ fun h' tk acc c0 kp hS it =>
  q h' tk acc c0 (fun x o e=>kp x o (DO (DA e)) (Dm _ e)) hS it
theorem gather{Q:List Value->Shared->Prop}{r:Addr}{a b:Int}{t u v:Tok}{k:Nat}(calm:A.handled=none)(rg:IsRange s.heap r a b 1 t u v)(sm:Builtin.Range.small a b 1=true)(sz:Builtin.Range.rangeSize a b 1=k)(few:k<=1000)
 (q:∀ (h':Heap) (tk:Nat) (acc:Array Value),s.heap.objs.size < h'.objs.size->(∀ x o,s.heap.get? x=some o->h'.get? x=some o)->ItemsOf (fun i v=>∃ t,v = .int (a+i * 1) t) acc k->Q acc.toList { s with heap:=h',toks:=tk }):wpAny (model prog w) A (collect (.ref r)) Q E s:=by
 unfold collect;refine Dl (F1 (B7 calm rg sm sz few fun h' tk acc c0 kp hS it=> ?_))
 show wpAny _ A (load s.heap.objs.size >>= _) (_) _ _
 refine Dl (wpAny_load hS ?_);exact Dr (q h' tk acc (DA hS) kp it)
theorem made{r:Addr}{a b:Int}{t u v:Tok}{k:Nat}(sm:Builtin.Range.small a b 1=true)(sz:Builtin.Range.rangeSize a b 1=k)(few:k<=1000):Meets (Builtin.«tuple.__new__» ⟨[.type "tuple",.ref r],[]⟩)
 (fun A R s=>A.handled=none/\IsRange s.heap r a b 1 t u v/\∀ (h':Heap) (tk:Nat) (acc:Array Value),s.heap.objs.size < h'.objs.size->(∀ x o,s.heap.get? x=some o->h'.get? x=some o)->ItemsOf (fun i v=>∃ t,v = .int (a+i * 1) t) acc k->R (.ok (.ret (.ref h'.objs.size))) { s with heap:=h'.push { cls:= .type "tuple",data:= .seq acc },toks:=tk }) :=
 .of_wp fun prog w A R s h=>by
  obtain ⟨calm,rg,h⟩:=h;have f1:=sub_tuple_self;have f2:=init_tuple_lookup;have f3:=madeHere_tuple;have ty:s.TypeIs (.ref r) "range" := ⟨_,rg,rfl⟩;have calm1:A.in1.handled=none:=calm
  wp_walk using wpAny_typeOf ty,gather calm1 rg sm sz few
  intro h' tk acc lz kp it
  show wpAny _ _ (Builtin.Tuple.tupleExact acc.toList.toArray >>= fun v=>ret v) (_) _ _
  unfold Builtin.Tuple.tupleExact;refine (Dl (Ei ?_ (show acc.toList.toArray.size<=sizeLine by simp only [Array.toArray_toList];rw [it.1,sizeLine_eq];omega)));refine Dr ⟨_,rfl,?_⟩;rw [show acc.toList.toArray=acc by simp];exact h h' tk acc lz kp it
theorem qX{Q:Value->Shared->Prop}{r:Addr}{a b:Int}{t u v:Tok}{k:Nat}(calm:A.handled=none)(rg:IsRange s.heap r a b 1 t u v)(sm:Builtin.Range.small a b 1=true)(sz:Builtin.Range.rangeSize a b 1=k)(few:k<=1000)
 (q:∀ (h':Heap) (tk:Nat) (acc:Array Value),s.heap.objs.size < h'.objs.size->(∀ x o,s.heap.get? x=some o->h'.get? x=some o)->ItemsOf (fun i v=>∃ t,v = .int (a+i * 1) t) acc k->Q (.ref h'.objs.size) { s with heap:=h'.push { cls:= .type "tuple",data:= .seq acc },toks:=tk }):wpAny (model prog w) A (call (.type "tuple") [.ref r]) Q E s :=
 callType_new PySem.F.called_tuple (by decide) (PySem.F.typeCall_tuple_1 _) (PySem.F.newCall_tuple_1 _) (fun obj=>PySem.F.args_object_init_2 obj _) PySem.F.entry_tuple_new (made sm sz few) ⟨calm,rg,fun h' tk acc lz kp it=>⟨⟨_,Dw _ rfl,rfl⟩,q h' tk acc lz kp it⟩⟩
end
end Tr2
namespace L2
open PySem PySem.Spec PyProof.Rows
section
variable{X:Cx}
theorem op_isB:OpR X (compareOp .Is) (fun x y H Q=>∃ a b,x = .bl a/\y = .bl b/\Q (.bl (a == b)) H):=by
 intro pins s σ H x y v u Q I rx ry h;obtain ⟨a,b,rfl,rfl,q⟩:=h;cases rx;cases ry;exact is_bool ⟨.bl (a == b),H,I,rfl,q⟩
theorem wO:OpR X (compareOp .IsNot) (fun x y H Q=>∃ a b,x = .bl a/\y = .bl b/\Q (.bl (a != b)) H):=by
 intro pins s σ H x y v u Q I rx ry h;obtain ⟨a,b,rfl,rfl,q⟩:=h;cases rx;cases ry;exact isnot_bool ⟨.bl (a != b),H,I,rfl,q⟩
noncomputable def yD:List V->Hp->VK->Prop:=fun xs H Q=>∃ (p:Addr) (lo hi:Int),xs=[V.ref p]/\H p=some (.rng lo hi) /\ -(2 ^ 62)<=lo/\lo < 2 ^ 62 /\ -(2 ^ 62)<=hi/\hi < 2 ^ 62/\(hi - lo).toNat<=1000 /\
 ∀ l,H l=none->Q (.ref l) (upd H l (.tup ((List.range (hi - lo).toNat).map fun k=>V.int (lo+(k:Nat)))))
theorem xr(hc:X.calm=true):ax X (.type "tuple") yD:=by
 intro pins s σ H xs us Q I r h;obtain ⟨p,lo,hi,rfl,hp,h1,h2,h3,h4,hn,q⟩:=h;obtain ⟨u,rfl,ru⟩:=bC r;cases ru;obtain ⟨t,u,v,e⟩:=(show bt X.prog X.w H s.heap p (.rng lo hi) from I.hok p _ hp)
 have hsz:Builtin.Range.rangeSize lo hi 1=((hi - lo).toNat:Nat):=by rw [rangeSize_one];split<;>omega
 refine Tr2.qX (k:=(hi - lo).toNat) (I.ok.hd hc) (show IsRange s.heap p lo hi 1 t u v from e) (small_one h1 h2 h3 h4) hsz hn fun h' tk acc lz kp it=> ?_
 have ge:s.heap.objs.size<=h'.objs.size:=E9 lz;have hf:H h'.objs.size=none:=I.hok.fresh ge;refine ⟨.ref h'.objs.size,_,I.laid (o:= .tup ((List.range (hi - lo).toNat).map fun k=>V.int (lo+(k:Nat)))) (fun b o z=>Dm _ (kp b o z)) ge ⟨?_,acc.toList,gB ?_ ?_,pN (Dw _ rfl)⟩,rfl,q _ hf⟩
 ·rw [Dp,ET];exact E9 (df hn)
 ·rw [Dp,ET,Ez,it.1]
 ·intro i x w hx hw
  rw [DL] at hx;obtain ⟨k,hk',rfl⟩:=El.mp hx
  have ek:i=k:=by
   rw [DG] at hk';obtain ⟨z,e⟩:=hk';simpa using e
  subst ek;obtain ⟨t',rfl⟩:=it.2 i w (by simpa using hw);refine ⟨t',?_⟩;rw [Int.mul_one]
end
section
variable{X:Cx}
end
section
variable{X:Cx}
end
theorem cZ:∀ {ns:List Int} {us:List Value},aw (ns.map V.int) us->∃ ps:List (Int×Tok),us=ps.map (fun p=>Value.int p.1 p.2)/\ps.map (·.1)=ns
 | [],_,.nil=>⟨[],rfl,rfl⟩
 | n::ns,_,.cons r1 r2=>by
  obtain ⟨t,rfl⟩:=r1;obtain ⟨ps,rfl,e⟩:=cZ r2;exact ⟨(n,t)::ps,rfl,by rw [DJ,e]⟩
theorem cC{ps:List (Int×Tok)}{ns:List Int}(e:ps.map (·.1)=ns){i:Nat}(h:i < ns.length):numAt ps.toArray i=ns[i]:=by
 subst e;rw [Dp] at h;unfold numAt;simp [h]
section
variable{X:Cx}
noncomputable def rN(K:F2):List V->Hp->(V->Hp->Prop)->Prop:=fun xs H Q=>∃ (p:Addr) (ns:List Int),xs=[V.ref p]/\SqL K H p (ns.map V.int)/\ns≠[]/\∀ M,M∈ns->(∀ a∈ns,a<=M)->Q (.int M) H
noncomputable def rM(K:F2):List V->Hp->(V->Hp->Prop)->Prop:=fun xs H Q=>∃ (p:Addr) (ns:List Int),xs=[V.ref p]/\SqL K H p (ns.map V.int)/\ns≠[]/\∀ M,M∈ns->(∀ a∈ns,M<=a)->Q (.int M) H
theorem xF(hc:X.calm=true):ax X (.builtin "max") (rN X.K):=by
 intro pins s σ H xs us Q I r h;obtain ⟨p,ns,rfl,hq,ne,q⟩:=h;obtain ⟨u,rfl,ru⟩:=bC r;cases ru;obtain ⟨its,rv,pl,hz⟩:=I.list hq;obtain ⟨ps,rfl,e⟩:=cZ rv
 have lp:ps.length=ns.length:=by rw [<- e,Dp]
 have n0:0 < ns.length:=DV.mpr ne
 have ei:intItems ps.toArray=(ps.map fun p=>Value.int p.1 p.2).toArray:=by unfold intItems;simp
 obtain ⟨b1,b2⟩:=argBest_gt (numAt ps.toArray) (ps.toArray.size - 1)
 have sz:ps.toArray.size=ns.length:=by simp [lp]
 refine max_intList (xs:=ps.toArray) (I.ok.hd hc) (by rw [ei];exact pl.isList) (by rw [sz];exact n0) fun v h' tk hv k=> ?_
 obtain ⟨t,rfl⟩:=intItems_at hv;rw [sz] at b1 b2 ⊢;refine ⟨.int _,H,I.kept k,⟨t,rfl⟩,q _ ?_ fun a ha=> ?_⟩
 ·rw [cC e (by omega)]
  exact Ea _
 ·obtain ⟨j,hj,rfl⟩:=FU ha
  have:=b2 j (by omega);rw [cC e hj] at this;exact this
theorem xA(hc:X.calm=true):ax X (.builtin "min") (rM X.K):=by
 intro pins s σ H xs us Q I r h;obtain ⟨p,ns,rfl,hq,ne,q⟩:=h;obtain ⟨u,rfl,ru⟩:=bC r;cases ru;obtain ⟨its,rv,pl,hz⟩:=I.list hq;obtain ⟨ps,rfl,e⟩:=cZ rv
 have lp:ps.length=ns.length:=by rw [<- e,Dp]
 have n0:0 < ns.length:=DV.mpr ne
 have ei:intItems ps.toArray=(ps.map fun p=>Value.int p.1 p.2).toArray:=by unfold intItems;simp
 obtain ⟨b1,b2⟩:=argBest_lt (numAt ps.toArray) (ps.toArray.size - 1)
 have sz:ps.toArray.size=ns.length:=by simp [lp]
 refine min_intList (xs:=ps.toArray) (I.ok.hd hc) (by rw [ei];exact pl.isList) (by rw [sz];exact n0) fun v h' tk hv k=> ?_
 obtain ⟨t,rfl⟩:=intItems_at hv;rw [sz] at b1 b2 ⊢;refine ⟨.int _,H,I.kept k,⟨t,rfl⟩,q _ ?_ fun a ha=> ?_⟩
 ·rw [cC e (by omega)]
  exact Ea _
 ·obtain ⟨j,hj,rfl⟩:=FU ha
  have:=b2 j (by omega);rw [cC e hj] at this;exact this
end
section
variable{X:Cx}
end
end L2
namespace ZpT
open PySem PySem.Spec PyProof.Rows
section
variable{prog:Program}{w:World}{A:Around}{E:Value->Shared->Prop}{s:Shared}
end
open AutoSeq1 (wpAny_loadPart')
section
variable{prog:Program}{w:World}{A:Around}{E:Value->Shared->Prop}{s:Shared}
end
end ZpT
namespace L2
open PySem PySem.Spec PyProof.Rows
section
variable{X:Cx}
end
end L2
namespace St2
open PySem PySem.Spec PyProof.Rows
section
variable{prog:Program}{w:World}{A:Around}{E:Value->Shared->Prop}{s:Shared}
theorem mh{a:Addr}{its:Array Value}{ns:List Int}{Q:Value->Shared->Prop}(calm:A.handled=none)(tu:s.heap.IsList a its)(inz:IntsAre its.toList ns)(few:its.size+1 < scanBound)
 (q:∀ (h':Heap) (tk:Nat),h'.SetOf (intKind prog w) s.heap.objs.size (fun x=>(eL ns its.size).any (·== x)) (eL ns its.size).length->(∀ b o,b < s.heap.objs.size->s.heap.get? b=some o->h'.get? b=some o)->Q (.ref s.heap.objs.size) { s with heap:=h',toks:=tk }) :
 wpAny (model prog w) A (call (.type "set") [.ref a]) Q E s:=by
 obtain ⟨c0,tl0,mro0⟩:=F.called_set.mro;have m1:=F.called_set.made;have m2:=F.called_set.sub;have m3:=F.called_set.notType;have m4:=F.called_set.canCreate;have m5:=F.typeCall_set_1 (.ref a);refine wpAny_call (codeAny_of_tree ?_)
 show wpAny _ _ (callAny (.type "set") _) _ _ _
 refine Dr ⟨Code.quiet_builtin _ (by decide +kernel),codeAny_builtin F.entry_type_call ?_⟩;rw [Around.under_plain (weight_type_call_type "set" [.ref a] []) rfl]
 repeat (any_goals (first | assumption | wp_step))
 refine codeAny_mono (code_set_new_1 (.ref a) (E:=E) (Q₁:=fun ob t1=>∃ led:Bool,ob = .ref s.heap.objs.size/\t1={ s with heap:=s.heap.push (gQ led) }) fun led=>⟨led,rfl,rfl⟩) fun res t1 hres=> ?_
 cases res with
 | error x=>exact hres
 | ok fl =>
  cases fl with
  | next=>exact hres.elim
  | brk=>exact hres.elim
  | cont=>exact hres.elim
  | ret ob =>
   obtain ⟨led,rfl,rfl⟩:=hres;have atS:(s.heap.push (gQ led)).get? s.heap.objs.size=some (gQ led):=Dw _ rfl;have tyS:Shared.TypeIs { s with heap:=s.heap.push (gQ led) } (.ref s.heap.objs.size) "set" := ⟨_,atS,rfl⟩;have i1:=F.called_set.init.lookup;have i2:=F.called_set.init.bind (.ref s.heap.objs.size)
   repeat (any_goals (first | assumption | wp_step))
   refine codeAny_mono (codeAny_call_builtin (R:=wants (fun r t2=>r = .none/\∃ h' tk,t2={ s with heap:=h',toks:=tk }/\h'.SetOf (intKind prog w) s.heap.objs.size (fun x=>(eL ns its.size).any (·== x)) (eL ns its.size).length /\
    (∀ b o,b < s.heap.objs.size->s.heap.get? b=some o->h'.get? b=some o)) E) F.called_set.init.plain F.entry_set_init (check_set_init_1 tyS ?_)) fun r2 t2 hr2=> ?_
   ·obtain ⟨⟨k1,k2,k3,k4⟩,e0,e1,n0,e2⟩:=id tu
    simp only at e1 e2;subst e1 e2;have e0':(s.heap.push (gQ led)).get? a=some ⟨.type "list",k2,.seq its n0,k4⟩:=Dm _ e0;have j1:=F.sub_list_set;have j2:=F.sub_list_frozenset
    have j3:(Value.type "list" == Value.type "dict")=false:=by decide
    have tu1:(s.heap.push (gQ led)).IsList a its:=⟨_,e0',rfl,n0,rfl⟩;unfold Builtin.«set.__init__» noKeywords Builtin.Frozenset.updateFrom
    generalize hPy:pyIter=PY
    wp_walk
    subst hPy;refine E4 tu1 ?_;refine Dl (F1 ?_);have lt:a < s.heap.objs.size:=DA e0
    have calm3:A.in1.in1.in1.handled=none:=by simp [calm]
    have ne1:a≠(s.heap.push (gQ led)).objs.size:=by rw [DZ];exact DO (EL lt)
    have out:s.heap.objs.size∉[(s.heap.push (gQ led)).objs.size,a]:=by
     rw [DZ];simp only [Dx,Et,or_false,not_or];exact ⟨DO (Fs _),E7 lt⟩
    refine codeAny_set_update_loopS ((Walks.list calm3 _ a ne1 its).toS) s.heap.objs.size out (fun j=>ns.getD j 0) (fun i v hv=>IntsAre.int_at inz i v (by rw [E0];exact hv)) few (its.size - 0) 0 _ (by omega) (Fb _) ⟨⟨_,Dw _ rfl,rfl,rfl⟩,?T⟩ ?S ?R
    case T=>exact ⟨_,Dm _ e0',rfl,n0,rfl⟩
    case S=>exact SetOf_congr ((setObjOf_fresh (knd:=intKind prog w) led).setOf (Dm _ atS) (by unfold scanBound;omega)) (fun _=>rfl) rfl
    case R =>
     rintro ⟨h',g',d',tk',os'⟩ mv st;have w1:g'=s.gens:=mv.gens;have w2:d'=s.drawn:=mv.drawn;have w3:os'=s.os:=mv.os;subst w1 w2 w3;refine Dr ?_
     show wpAny _ _ (ret Value.none) _ _ _
     refine Dr ⟨rfl,h',tk',rfl,st,fun b o lb e=>mv.heap b o ?_ (Dm _ (Dm _ e))⟩;rw [DZ];simp only [Dx,Et,or_false,not_or];exact ⟨DO lb,DO (EL lb)⟩
   ·cases r2 with
    | error x=>exact hr2
    | ok f2 =>
     cases f2 with
     | ret r =>
      obtain ⟨rfl,h',tk,rfl,st,kp⟩:=hr2
      repeat (any_goals (first | assumption | wp_step))
      exact q _ _ st kp
     | next=>exact hr2.elim
     | brk=>exact hr2.elim
     | cont=>exact hr2.elim
theorem oD{l:Addr}{vs:List Value}{Q:List Value->Shared->Prop}(hl:s.heap.IsTuple l vs.toArray)
 (h:Q vs { s with heap:=(s.heap.push (seqObj "list" #[] 0)).update s.heap.objs.size (Obj.mapSeq (·++ vs.toArray)) }) (hz:vs.length<=sizeLine):wpAny (model prog w) A (collect (.ref l)) Q E s:=by
 unfold collect;refine Dl (F1 (codeAny_builtin F.entry_proto_collect ?_));unfold Builtin.«proto.collect»
 show wpAny _ _ (newList [] >>= _) _ _ _
 refine Dl (FR ?_ (by simp));refine Dr ⟨Code.quiet_builtin _ (by decide +kernel),codeAny_builtin F.entry_list_iadd ?_⟩;obtain ⟨o,ho,hc,n,hd⟩:=id hl;have ho':(s.heap.push { cls:=Value.type "list",data:=Data.seq #[] }).get? l=some o:=Dm _ ho;have hn:(s.heap.push { cls:=Value.type "list",data:=Data.seq #[] }).get? s.heap.objs.size=some { cls:=Value.type "list",data:=Data.seq #[] }:=Dw _ rfl;have hT:Shared.TypeIs { s with heap:=s.heap.push { cls:=Value.type "list",data:=Data.seq #[] } } (.ref l) "tuple" := ⟨o,ho',hc⟩
 show wpAny _ _ (Builtin.List.listExtendWith (.ref s.heap.objs.size) (.ref l) (.ref s.heap.objs.size)) _ _ _
 unfold Builtin.List.listExtendWith;refine Dl (wpAny_typeOf hT ?_)
 have hb:(Builtin.List.listSameRef (.ref s.heap.objs.size) (.ref l)||Value.type "tuple" == Value.type "list" || Value.type "tuple" == Value.type "tuple")=true:=by
  rw [show (Value.type "tuple" == Value.type "tuple")=true by decide,FM]
 rw [if_pos hb];refine Dl (listItems_at ho' hd (Dl (listItems_at hn rfl ?_)))
 show wpAny _ _ (Builtin.List.listUpdate (.ref s.heap.objs.size) (fun x=>x++vs.toArray) >>= _) _ _ _
 refine Dl (listUpdate_at hn rfl ?_ (by simp) (by simp;omega));refine Dr ?_;have e:=EG (Obj.mapSeq (·++ vs.toArray)) hn rfl
 show wpAny _ _ (load s.heap.objs.size >>= _) _ _ _
 refine Dl (wpAny_load e ?_)
 show wpAny _ _ (pure (#[]++vs.toArray).toList) _ _ _
 refine Dr ?_;simpa using h
end
end St2
namespace L2
open PySem PySem.Spec PyProof.Rows
section
variable{X:Cx}
noncomputable def iY(K:F2):List V->Hp->(V->Hp->Prop)->Prop:=fun xs H Q=>∃ (p:Addr) (ns:List Int),xs=[V.ref p]/\SqT K H p (ns.map V.int)/\ns.length < 64 /\
 ∀ l (ms:List Int),H l=none->List.Perm ms ns->ms.Pairwise (·<= ·)->Q (.ref l) (upd H l (.lst (ms.map V.int)))
theorem qF:ax X (.builtin "sorted") (iY X.K):=by
 intro pins s σ H xs us Q I r h;obtain ⟨p,ns,rfl,hq,h64,q⟩:=h;obtain ⟨u,rfl,ru⟩:=bC r;cases ru;obtain ⟨its,rv,pl,hz⟩:=I.tuple hq;have hlen:=rv.length;rw [Dp] at hlen;refine Calls.call_function_entry kind_sorted plain_sorted entry_sorted (args_sorted1 _) ?_;unfold Builtin.«sorted»;refine Dl (m:=checkCount "sorted" 1 1 _) (Dr ?_);have lsz:sizeLine=16777216:=sizeLine_eq;refine Dl (St2.oD (show s.heap.IsTuple p its.toArray from pl) (Dl (FR ?_ (by omega))) (by omega))
 generalize hh1:(s.heap.push (seqObj "list" #[] 0)).update s.heap.objs.size (Obj.mapSeq (·++ its.toArray))=h1
 have hsz:h1.objs.size=s.heap.objs.size+1:=by rw [<- hh1,Heap.size_update,size_push']
 have k1:∀ b o,s.heap.get? b=some o->h1.get? b=some o:=fun b o q=>by
  rw [<- hh1];exact (Fi _ _ (Ne.symm (DO (DA q)))).trans (Dm _ q)
 show wpAny _ _ _ _ _ { s with heap:=h1.push (seqObj "list" its.toArray 0) }
 have oL:(h1.push (seqObj "list" its.toArray 0)).get? h1.objs.size=some (seqObj "list" its.toArray 0):=Dw _ rfl;refine Dl (ER (Es slot_list_sort ⟨_,oL,rfl⟩ entry_list_sort (list_sort_tree oL (dl rv) (by omega) fun out ms hi hp hs=>⟨_,rfl,?_⟩) (args_list_sort _)))
 have hle:s.heap.objs.size<=h1.objs.size:=by rw [hsz];exact Nat.le_succ _
 have hf:H h1.objs.size=none:=I.hok.fresh hle;obtain ⟨e,he⟩:=sortedHeap_at (out:=out) oL;refine Dr ⟨_,rfl,.ref h1.objs.size,upd H h1.objs.size (.lst (ms.map V.int)),I.laid (t':=s.toks) (fun b o q=> ?_) hle ⟨?_,out.toList,e,kH hi,by simpa using he⟩,rfl,q _ _ hf hp hs⟩
 ·have lb:=DA (k1 b o q)
  rw [sortedHeap_old (DO lb) (by rw [DZ];exact EL lb)];exact Dm _ (k1 b o q)
 ·rw [Dp,hp.length_eq]
  rwa [Dp] at hz
end
section
variable{X:Cx}
noncomputable def yF(K:F2):List V->Hp->(V->Hp->Prop)->Prop:=fun xs H Q=>∃ (p:Addr) (ns:List Int),xs=[V.ref p]/\SqL K H p (ns.map V.int)/\Q (.int ns.sum) H
theorem xu(hc:X.calm=true):ax X (.builtin "sum") (yF X.K):=by
 intro pins s σ H xs us Q I r h;obtain ⟨p,ns,rfl,hq,q⟩:=h;obtain ⟨u,rfl,ru⟩:=bC r;cases ru;obtain ⟨its,rv,pl,hz⟩:=I.list hq;obtain ⟨ps,rfl,e⟩:=cZ rv
 have ei:intItems ps.toArray=(ps.map fun p=>Value.int p.1 p.2).toArray:=by unfold intItems;simp
 refine sum_intListG (xs:=ps.toArray) (I.ok.hd hc) (by rw [ei];exact pl.isList) fun h' tk t' k=> ?_
 have es:preSum (numAt ps.toArray) ps.toArray.size=ns.sum:=by
  rw [preSum_eq,List.take_of_length_le (by simp),<- e]
 rw [es];exact ⟨.int _,H,I.kept k,⟨t',rfl⟩,q⟩
noncomputable def yE(K:F2):List V->Hp->(V->Hp->Prop)->Prop:=fun xs H Q=>∃ (p:Addr) (ns:List Int),xs=[V.ref p]/\SqT K H p (ns.map V.int)/\Q (.int ns.sum) H
theorem xt(hc:X.calm=true):ax X (.builtin "sum") (yE X.K):=by
 intro pins s σ H xs us Q I r h;obtain ⟨p,ns,rfl,hq,q⟩:=h;obtain ⟨u,rfl,ru⟩:=bC r;cases ru;obtain ⟨its,rv,pl,hz⟩:=I.tuple hq;obtain ⟨ps,rfl,e⟩:=cZ rv
 have ei:intItems ps.toArray=(ps.map fun p=>Value.int p.1 p.2).toArray:=by unfold intItems;simp
 have ht:s.heap.IsTuple p (intItems ps.toArray):=by rw [ei];exact pl
 have hlt:p < s.heap.objs.size:=by obtain ⟨_,e,_⟩:=ht;exact DA e
 have sz:(intItems ps.toArray).size=ps.toArray.size:=by unfold intItems;simp
 have es:preSum (numAt ps.toArray) (intItems ps.toArray).size=ns.sum:=by
  rw [sz,preSum_eq,List.take_of_length_le (by simp),<- e]
 refine call_sum_walkG (Ej ht ?_);refine ⟨s.heap.objs.size,_,_,_,_,_,numAt ps.toArray,rfl,Walks.tuple (A:=X.A.in1) (I.ok.hd hc) _ p (DO hlt) (intItems ps.toArray),⟨⟨_,Dw _ rfl,rfl,rfl⟩,ht.push _⟩,fun b hb=> ?_,fun _ _=>intItems_at,fun h' tk t' hk=> ?_⟩
 ·show b < (s.heap.push _).objs.size
  rw [DZ]
  have hb':b=s.heap.objs.size\/b=p:=by simpa using hb
  rcases hb' with rfl | rfl
  ·exact Fs _
  ·exact EL hlt
 ·rw [es]
  exact ⟨.int _,H,I.kept fun b o hb=>hk b o (by have:=DO (DA hb);simpa using this) (Dm _ hb),⟨t',rfl⟩,q⟩
theorem sX(l:Addr)(items:Array Value)(n:Nat)(b:Addr)(items2:Array Value)(n2:Nat)(dd:Option Addr)(ss:Array (Option Value))(hs0:¬(!items.isEmpty&&Builtin.List.listTooLong (items.size+items2.size))=true)(hs1:items.size<=sizeLine)(hs2:items.size+items2.size<=sizeLine+1) :
 Meets (Builtin.«list.extend» ⟨[.ref l,.ref b],[]⟩) (fun _ R s=>s.heap.get? l=some { cls:= .type "list",dict:=none,data:= .seq items n,slots := #[] }/\s.heap.get? b=some { cls:= .type "tuple",dict:=dd,data:= .seq items2 n2,slots:=ss }/\R (.ok (.ret Value.none)) { s with heap:=s.heap.update l (Obj.mapSeq fun x=>x++items2),toks:=s.toks }) :=
 .of_wp fun prog w A R s h=>by
  obtain ⟨hp,g,d,tk,os⟩:=s;obtain ⟨hl,hb,h⟩:=h;have f1:=AutoSeq1.idx_int;have f2:=AutoSeq1.sub_tuple_tuple;have f3:=AutoSeq1.sub_list_list;have f4:=AutoSeq1.sub_tuple_list;have f5:=AutoSeq1.sub_list_tuple;
  have hz':(items++items2).size<=sizeLine+1:=by rw [Array.size_append];exact hs2
  wp_walk using (wpAny_updateSeq hl rfl (hz:=hs1) (_hz':=hz')),AutoSeq1.wpAny_loadPart' hl,AutoSeq1.wpAny_loadPart' hb;exact ⟨_,rfl,h⟩
noncomputable def rO:V->List V->Hp->VK->Prop:=fun x vs H Q=>∃ l b xs zs,x = .ref l/\vs=[.ref b]/\H l=some (.lst xs)/\H b=some (.tup zs)/\xs.length+zs.length<=sizeLine/\Q .non (upd H l (.lst (xs++zs)))
theorem uv:MtM X "list.extend" rO:=by
 intro pins s σ H x vs v us Q I rx rv h;obtain ⟨l,b,xs,zs,rfl,rfl,hH,hB,hz,q⟩:=h;cases rx;obtain ⟨u,rfl,ru⟩:=rv.one;cases ru;obtain ⟨z,its,n,r,hl,e⟩:=I.lstM hH;obtain ⟨z2,its2,r2,⟨⟨cl,dd,dt,ss⟩,e2,ec,n2,ed⟩,_⟩:=I.hok b _ hB;dsimp only at ec ed;subst ec ed;have hl2:=r2.length
 have hsz:its.toArray.size+its2.toArray.size<=sizeLine:=by rw [Ds,Ds];omega
 have hlong:¬ (!its.toArray.isEmpty&&Builtin.List.listTooLong (its.toArray.size+its2.toArray.size))=true:=by
  rw [m8 hsz,EN];exact DH
 refine call_meets F.slot_list_extend ⟨_,e,rfl⟩ F.entry_list_extend (F.args_list_extend_2 _ _)
  (sX l its.toArray n b its2.toArray n2 dd ss hlong (by rw [Ds];omega) (by omega)) ⟨e,e2,?_⟩
 refine ⟨.non,_,I.lset (its':=its++its2) hH e (by simp) (r.append r2) ?_,rfl,q⟩;rw [DD];omega
end
section
variable{X:Cx}
end
section
variable{X:Cx}
end
section
variable{X:Cx}{o i:Expr}{pos:Pos}{td ty:TE}
end
section
variable{X:Cx}{Pre:St->Hp->Prop}{R:Hp->V->Prop}
end
section
variable{X:Cx}{Pre:St->Hp->Prop}{R:Hp->V->Prop}
end
section
variable{X:Cx}
end
section
variable{X:Cx}
end
end L2
namespace St2
open PySem PySem.Spec PyProof.Rows
section
variable{prog:Program}{w:World}{A:Around}{E:Value->Shared->Prop}{s:Shared}
end
end St2
namespace L2
open PySem PySem.Spec PyProof.Rows
section
variable{X:Cx}
end
end L2
namespace St3
open PySem PySem.Spec PyProof.Rows PySem.SeqAt PySem.MeetsSeq PySem.MeetsSeq2 PySem.MeetsSeq3
theorem kw(ns:List Int)(x:Int):(St2.eL ns ns.length).any (·== x)=true↔x∈ns:=by
 have e:=firstMet_any (fun j=>ns.getD j 0) ns.length x;rw [show (St2.eL ns ns.length).any (·== x)=(firstMet (fun j=>ns.getD j 0) ns.length).any (·== x) from rfl,e,St2.qY ns ns.length (DE _),List.take_length];simp
end St3
namespace L2
open PySem PySem.Spec PyProof.Rows
section
variable{X:Cx}
noncomputable def uk(K:F2):List V->Hp->VK->Prop:=fun xs H Q=>∃ (p:Addr) (ns:List Int),xs=[V.ref p]/\SqL K H p (ns.map V.int)/\ns.length<=1000 /\
 ∀ l S,H l=none->(∀ x,S x=true↔x∈ns)->Q (.ref l) (upd H l (.set S (St2.eL ns ns.length).length))
theorem uV(hc:X.calm=true):ax X (.type "set") (uk X.K):=by
 intro pins s σ H xs us Q I r h;obtain ⟨p,ns,rfl,hq,hn,q⟩:=h;obtain ⟨u,rfl,ru⟩:=bC r;cases ru;obtain ⟨its,rv,pt,_⟩:=I.list hq
 have ln:its.length=ns.length:=by rw [<- rv.length,Dp]
 refine St2.mh (ns:=ns) (I.ok.hd hc) pt.isList (by simpa using dl rv) (by rw [Ds,ln];unfold scanBound;omega) fun h' tk st kp=> ?_
 have sz:its.toArray.size=ns.length:=by rw [Ds,ln]
 rw [sz] at st;have hf:H s.heap.objs.size=none:=I.hok.fresh (DE _);exact ⟨.ref s.heap.objs.size,_,I.laid (o:= .set _ _) (fun b o e=>kp b o (DA e) e) (DE _) st,rfl,q _ _ hf (St3.kw ns)⟩
end
section
variable{X:Cx}
end
section
variable{X:Cx}
end
end L2
namespace St4
open PySem PySem.Spec PyProof.Rows PySem.W
section
variable{prog:Program}{w:World}{A:Around}{E:Value->Shared->Prop}{s:Shared}{T:String}{r d:Addr}{n:Nat}{P:Nat->Value->Prop}{OK:Heap->Prop}
end
end St4
namespace L2
open PySem PySem.Spec PyProof.Rows PySem.W
section
variable{X:Cx}
end
section
variable{X:Cx}
end
end L2
namespace L2
open PySem PySem.Spec PyProof.Rows
theorem uP:∀ (names:List (Str×NameKind)) (n:Nat) (a b:List (Str×Addr)),cellsFrom n names (a++b)=cellsFrom n names a++b
 | [],_,_,_=>rfl
 | (name,kind)::r,n,a,b=>by
  unfold cellsFrom
  split
  ·exact uP r (n+1) ((name,n)::a) b
  ·exact uP r n a b
theorem j0:∀ (names:List (Str×NameKind)) (n:Nat) (acc:List (Str×Addr)) {x:Str} {c:Addr},(x,c)∈cellsFrom n names acc->(x,c)∈acc\/(x,NameKind.cell)∈names
 | [],_,_,_,_,h=> .inl h
 | (name,kind)::r,n,acc,x,c,h=>by
  unfold cellsFrom at h
  split at h
  ·rename_i hk
   have hk:kind = .cell:=by simpa using hk
   subst hk
   rcases j0 r (n+1) _ h with h | h
   ·rcases Dx.mp h with e | h
    ·cases e;exact .inr DC
    ·exact .inl h
   ·exact .inr (Dv _ h)
  ·rcases j0 r n acc h with h | h
   ·exact .inl h
   ·exact .inr (Dv _ h)
theorem uO:∀ (names:List (Str×NameKind)) (n:Nat) (acc:List (Str×Addr)) (x:Str),((x,NameKind.cell)∈names\/∃ c,acc.lookup x=some c)->∃ c,(cellsFrom n names acc).lookup x=some c
 | [],_,_,_,h=>by
  rcases h with h | h
  ·cases h
  ·exact h
 | (name,kind)::r,n,acc,x,h=>by
  unfold cellsFrom
  split
  ·refine uO r (n+1) _ x ?_
   rcases h with h | ⟨c,h⟩
   ·rcases Dx.mp h with e | e
    ·have e1:x=name:=congrArg Prod.fst e
     subst e1;exact .inr ⟨n,by rw [Eg,EW]⟩
    ·exact .inl e
   ·refine .inr ?_
    rw [Eg]
    split
    ·exact ⟨_,rfl⟩
    ·exact ⟨c,h⟩
  ·rename_i hk
   refine uO r n acc x ?_
   rcases h with h | h
   ·rcases Dx.mp h with e | e
    ·have e2:NameKind.cell=kind:=congrArg Prod.snd e
     subst e2;exact absurd rfl hk
    ·exact .inl e
   ·exact .inr h
theorem px{env:Env}:∀ (names:List (Str×NameKind)) (acc:List (Str×Addr)) {x:Str} {c:Addr},(clF env names acc).lookup x=some c->(x,NameKind.free)∈names\/acc.lookup x=some c
 | [],_,_,_,h=> .inr h
 | (n,k)::r,acc,x,c,h=>by
  unfold clF at h
  rcases px r _ h with h1 | h1
  ·exact .inl (Dv _ h1)
  ·cases hk:(k == NameKind.free) with
   | false=>rw [hk,if_neg DH] at h1;exact .inr h1
   | true =>
    rw [hk,if_pos rfl,Eg] at h1
    have hk:k = .free:=by simpa using hk
    cases q:x == n with
    | true =>
     have:x=n:=by simpa using q
     subst this;rw [hk];exact .inl DC
    | false=>rw [q] at h1;exact .inr h1
theorem ng{α:Type}:∀ {a b:List (Str×α)} {x:Str} {c:α},(a++b).lookup x=some c->a.lookup x=some c\/(a.lookup x=none/\b.lookup x=some c)
 | [],_,_,_,h=> .inr ⟨rfl,h⟩
 | (n,k)::a,b,x,c,h=>by
  rw [Em,Eg] at h;rw [Eg]
  cases q:x == n with
  | true=>rw [q] at h;exact .inl h
  | false=>rw [q] at h;exact ng h
theorem gU{α:Type}:∀ {a b:List (Str×α)} {x:Str} {c:α},a.lookup x=some c->(a++b).lookup x=some c
 | [],_,_,_,h=>by simp at h
 | (n,k)::a,b,x,c,h=>by
  rw [Em,Eg];rw [Eg] at h
  cases q:x == n with
  | true=>rw [q] at h;exact h
  | false=>rw [q] at h;exact gU h
theorem gS{α:Type}:∀ {a b:List (Str×α)} {x:Str},a.lookup x=none->(a++b).lookup x=b.lookup x
 | [],_,_,_=>rfl
 | (n,k)::a,b,x,h=>by
  rw [Em,Eg];rw [Eg] at h
  cases q:x == n with
  | true=>rw [q] at h;cases h
  | false=>rw [q] at h;exact gS h
noncomputable def blkC(X:Cx)(sc:Scope)(cl:List (Str×Addr))(C:Addr)(fp:List Addr)(s:Shared)(H:Hp)(N:List Str):Cx :=
 { X with env:=compEnvC sc cl C X.env,N:=N,s₀:=s,H₀:=H,outer:=X.stack,ex:=fp,fn:=fun x=>sc.names.lookup x == some NameKind.cell,pn:=[],xe:=fun _ _=>False }
structure n9(X:Cx)(sc:Scope)(M tgs:List Str):Prop where
 kind:sc.kind = .function
 names:∀ y∈sc.names,y.2 = .local->sc.names.lookup y.1=some .local
 celln:∀ y∈sc.names,y.2 = .cell->sc.names.lookup y.1=some .cell
 freen:∀ y∈sc.names,y.2 = .free->sc.names.lookup y.1=some .free
 free:∀ y∈sc.names,y.2 = .free->X.env.kindOf y.1=some .cell\/X.env.kindOf y.1=some .free
 len:M.length=X.N.length
 same:∀ p∈M.zip X.N,p.1=p.2\/p.1=("" : Str)
 dummy:sc.names.lookup ("" : Str)=none
 hid:∀ x∈M,sc.names.lookup x≠some .local
 hidc:∀ x∈M,sc.names.lookup x≠some .cell
structure AM(osc:Scope)(N:List Str)(sc:Scope)(M tgs:List Str):Prop where
 kind:sc.kind = .function
 names:∀ y∈sc.names,y.2 = .local->sc.names.lookup y.1=some .local
 celln:∀ y∈sc.names,y.2 = .cell->sc.names.lookup y.1=some .cell
 freen:∀ y∈sc.names,y.2 = .free->sc.names.lookup y.1=some .free
 free:∀ y∈sc.names,y.2 = .free->osc.names.lookup y.1=some .cell\/osc.names.lookup y.1=some .free
 len:M.length=N.length
 same:∀ p∈M.zip N,p.1=p.2\/p.1=("" : Str)
 dummy:sc.names.lookup ("" : Str)=none
 hid:∀ x∈M,sc.names.lookup x≠some .local
 hidc:∀ x∈M,sc.names.lookup x≠some .cell
 nd:(M++tgs).Nodup
theorem AM.ok{X:Cx}{osc:Scope}{N:List Str}{sc:Scope}{M tgs:List Str}(b:AM osc N sc M tgs)(h1:X.env.scope=osc:=by rfl)(h2:X.N=N:=by rfl):n9 X sc M tgs:=by
 subst h1 h2;exact ⟨b.kind,b.names,b.celln,b.freen,b.free,b.len,b.same,b.dummy,b.hid,b.hidc⟩
section
variable{X:Cx}
def csF(X:Cx)(sc:Scope)(C:Addr):List (Str×Addr):=cellsFrom (C+1) sc.names []++clF X.env sc.names []
theorem cs_eq{sc:Scope}{C:Addr}:cellsFrom (C+1) sc.names (clF X.env sc.names [])=csF X sc C:=uP sc.names (C+1) [] _
theorem qC{sc:Scope}{M tgs:List Str}{C:Addr}{h:Heap}(B:n9 X sc M tgs)(ok:CellsOk h (C+1) (cellsFrom (C+1) sc.names [])){x:Str}{c:Addr}(hfr:∀ y∈sc.names,y.2 = .free->∃ c,X.env.cells.lookup y.1=some c)(e:(csF X sc C).lookup x=some c) :
 (sc.names.lookup x=some .cell/\(x,c)∈cellsFrom (C+1) sc.names []/\h.IsCell c none /\ @LT.lt Nat instLTNat C c)\/(sc.names.lookup x=some .free/\X.env.cells.lookup x=some c):=by
 rcases ng e with e | ⟨_,e⟩
 ·have m:=mem_of_lookup e
  refine .inl ⟨?_,m,(ok.empty x c m).1,(ok.empty x c m).2⟩
  rcases j0 sc.names (C+1) [] m with z | z
  ·cases z
  ·exact B.celln _ z rfl
 ·refine .inr ⟨?_,ii sc.names [] hfr (fun _ _ z=>by simp at z) x c e⟩
  rcases px sc.names [] e with z | z
  ·exact B.freen _ z rfl
  ·simp at z
theorem Inv.blkC{pins:List (Addr×Obj)}{σ:St}{H:Hp}{s s4:Shared}{sc:Scope}{M tgs:List Str}{C:Addr}{fp:List Addr}{m:Str->Option Value}(I:Inv X pins σ H s)(B:n9 X sc M tgs)(hf:∀ b∈fp,oH X pins H b)(hfl:∀ b∈fp,b < s.heap.objs.size)
 (hC:s.heap.objs.size<=C) (hn:s4.heap.Ns C m) (hcl:CellsOk s4.heap (C+1) (cellsFrom (C+1) sc.names [])) (hk:∀ b o,s.heap.get? b=some o->s4.heap.get? b=some o) (ho:s4.os=s.os) (hg:s4.gens=s.gens) :
 Inv (L2.blkC X sc (csF X sc C) C fp s H (M++tgs)) [] (σ++List.replicate tgs.length none) H s4:=by
 have hfr:∀ y∈sc.names,y.2 = .free->∃ c,X.env.cells.lookup y.1=some c:=fun y hy e=>I.ok.has _ (B.free y hy e)
 have lk:∀ {x:Str} {c:Addr},(csF X sc C).lookup x=some c->(sc.names.lookup x=some .cell/\(x,c)∈cellsFrom (C+1) sc.names []/\s4.heap.IsCell c none /\ @LT.lt Nat instLTNat C c)\/(sc.names.lookup x=some .free/\X.env.cells.lookup x=some c):=fun {x c} e=>qC B hcl hfr e
 have hlow:∀ x c,X.env.cells.lookup x=some c->c < s.heap.objs.size:=fun x c e=>by
  obtain ⟨v,q⟩:=I.cell x c e;exact q.lt
 have hkind:∀ x,((relabel sc X.env).names.lookup x=some .cell\/(relabel sc X.env).names.lookup x=some .free)->sc.names.lookup x=some .free\/sc.names.lookup x=some .cell:=fun x hx=>by
  rcases hx with q | q
  ·rcases cJ q with z | z
   ·exact .inr z
   ·exact .inl z.2
  ·rcases cJ q with z | z
   ·exact .inl z
   ·exact absurd z.1 (by decide)
 refine ⟨⟨I.ok.mod,B.kind,I.ok.glob,I.ok.blt,hC,fun x y c h1 h2=> ?_,fun x hx=> ?_,fun x c z h1=> ?_,I.ok.hd,I.ok.frames,.inl rfl,fun b hb=>⟨?_,fun x c e=> ?_⟩,I.bs,?_,fun b o e z=> ?_,fun b hb=> ?_,I.stack,I.stkFree⟩,
  ho,?_,Un.kept hk,⟨m,hn,fun i x v h1 h2 h3=> ?_⟩,fun x c e=> ?_,I.hok.fresh hC,fun x c e=> ?_,fun p hp=>absurd (show p∈([]:List (Addr×Obj)) from hp) (by simp),I.hok.kept hk,?_⟩
 ·rcases lk h1 with ⟨_,m1,_,l1⟩ | ⟨_,e1⟩
  ·rcases lk h2 with ⟨_,m2,_,l2⟩ | ⟨_,e2⟩
   ·exact name_of_addr hcl.apart m1 m2
   ·have:=hlow _ _ e2;exact absurd (show @LT.lt Nat instLTNat c s.heap.objs.size from this) (by omega)
  ·rcases lk h2 with ⟨_,m2,_,l2⟩ | ⟨_,e2⟩
   ·have:=hlow _ _ e1;exact absurd (show @LT.lt Nat instLTNat c s.heap.objs.size from this) (by omega)
   ·exact I.ok.inj x y c e1 e2
 ·rcases hkind x hx with z | z
  ·obtain ⟨c,e⟩:=jZ (env:=X.env) sc.names [] x (.inl (Eh z))
   cases q:(cellsFrom (C+1) sc.names []).lookup x with
   | some c'=>exact ⟨c',gU q⟩
   | none=>exact ⟨c,by show List.lookup x (cellsFrom (C+1) sc.names []++clF X.env sc.names [])=_;rw [gS q];exact e⟩
  ·obtain ⟨c,e⟩:=uO sc.names (C+1) [] x (.inl (Eh z))
   exact ⟨c,gU e⟩
 ·have z:sc.names.lookup x=some .cell:=by
   have z:(sc.names.lookup x == some NameKind.cell)=true:=z;simpa using z
  show s.heap.objs.size<=c
  rcases lk h1 with ⟨_,_,_,l1⟩ | ⟨e0,_⟩
  ·omega
  ·rw [z] at e0;cases e0
 ·exact DO (DW (hfl b hb) hC)
 ·rcases lk e with ⟨_,_,_,l1⟩ | ⟨_,e1⟩
  ·have h1 : @LT.lt Nat instLTNat b s.heap.objs.size:=hfl b hb
   exact fun z=>by subst z;omega
  ·exact (hf b hb).2.2.2.2.1 x c e1
 ·exact Ep I.ok.bsz I.sz
 ·rcases (hf b z).2.2.2.1 with q | q
  ·exact I.ok.noex b o e q
  ·exact absurd (DW (DA e) I.ok.bsz) (Nat.not_lt.mpr q)
 ·intro z
  rcases Dx.mp (I.stkSub b z) with q | q
  ·exact (hf b hb).2.1 q
  ·exact (hf b hb).2.2.1 q
 ·rw [hg];exact I.bare
 ·have hl:M.length=σ.length:=B.len.trans I.len.symm
  have hi:i < σ.length:=by
   by_cases hi:i < σ.length
   ·exact hi
   ·rw [Eb (by omega),ES] at h2
    split at h2<;>cases h2
  rw [DN hi] at h2;have h1:(M++tgs)[i]?=some x:=h1;rw [DN (by omega)] at h1;have hmem:x∈M:=DF h1
  have hx:sc.names.lookup x=some .free:=by
   have two:(relabel sc X.env).names.lookup x=some .cell\/(relabel sc X.env).names.lookup x=some .free->sc.names.lookup x=some .free:=fun q=>(hkind x q).elim id fun z=>absurd z (B.hidc x hmem)
   rcases h3 with q | q | q
   ·rcases cJ q with z | z
    ·exact absurd z (B.hid x hmem)
    ·exact absurd z.1 (by decide)
   ·exact two (.inl q)
   ·exact two (.inr q)
  have hNi:X.N[i]?=some x:=by
   have hi2:i < X.N.length:=by rw [<- I.len];exact hi
   have hz:(M.zip X.N)[i]?=some (x,X.N[i]):=by
    rw [Fp];exact ⟨h1,Do hi2⟩
   rcases B.same _ (DF hz) with q | q
   ·have q':x=X.N[i]:=q
    rw [Do hi2,q']
   ·have q':x=("" : Str):=q
    rw [q',B.dummy] at hx;cases hx
  have hk2:=B.free (x,.free) (Eh hx) rfl;obtain ⟨m0,_,hl0⟩:=I.loc;obtain ⟨u,r,l⟩:=hl0 i x v hNi h2 (.inr hk2);refine ⟨u,r,.inr ?_⟩
  rcases l with ⟨k,_⟩ | ⟨_,c,ec,hcell⟩
  ·have k':X.env.kindOf x=some .local:=k
   rcases hk2 with q | q
   ·have q':X.env.kindOf x=some .cell:=q
    rw [k'] at q';cases q'
   ·have q':X.env.kindOf x=some .free:=q
    rw [k'] at q';cases q'
  ·obtain ⟨c',ec'⟩:=jZ (env:=X.env) sc.names [] x (.inl (Eh hx))
   have ec2:(csF X sc C).lookup x=some c':=by
    cases q:(cellsFrom (C+1) sc.names []).lookup x with
    | none=>show List.lookup x (cellsFrom (C+1) sc.names []++clF X.env sc.names [])=_;rw [gS q];exact ec'
    | some c'' =>
     rcases j0 sc.names (C+1) [] (mem_of_lookup q) with z | z
     ·cases z
     ·have z:=B.celln _ z rfl
      have z:sc.names.lookup x=some .cell:=z;rw [hx] at z;cases z
   have:c'=c:=by
    have:=ii sc.names [] hfr (fun _ _ z=>by simp at z) x c' ec';rw [ec] at this;exact (Option.some.inj this).symm
   subst this;refine ⟨?_,c',ec2,?_⟩
   ·rcases h3 with q | q | q
    ·rcases cJ q with z | z
     ·rw [hx] at z;cases z
     ·exact absurd z.1 (by decide)
    ·exact .inl q
    ·exact .inr q
   ·obtain ⟨o,e1,e2⟩:=hcell
    exact ⟨o,hk _ _ e1,e2⟩
 ·rcases lk e with ⟨_,_,c1,_⟩ | ⟨_,e1⟩
  ·exact ⟨_,c1⟩
  ·obtain ⟨v,o,e1,e2⟩:=I.cell x c e1
   exact ⟨v,o,hk _ _ e1,e2⟩
 ·rcases lk e with ⟨_,_,_,l1⟩ | ⟨_,e1⟩
  ·exact I.hok.fresh (by omega)
  ·exact I.freeC x c e1
 ·show (σ++_).length=(M++tgs).length
  rw [DD,DD,Er,B.len,I.len]
theorem BY{M:Model}{A:Around}{E:Value->Shared->Prop}{s:Shared}{sc:Scope}{globals:Addr}{cl:List (Str×Addr)}{qual:Str}{env:Env}{Q:Env->Shared->Prop}
 (h:Q { scope:=sc,locals:=s.heap.objs.size,globals,cells:=cellsFrom (s.heap.objs.size+1) sc.names cl,qual,func:=none,code:=env.code,frame:=env.frame,builtins:=env.builtins } { s with heap:=pushCells (s.heap.push { cls:= .type "dict",data:= .dict #[] }) sc.names }) :
 wpAny M A (newFunctionEnv sc globals cl [] qual none .none (some env)) Q E s:=by
 simp only [newFunctionEnv,Option.isSome_some,if_true];refine Dl (wpAny_alloc ?_);refine Dl (wpAny_layCells _ (fun name kind cells=>by cases hkc:kind == NameKind.cell<;>simp [hkc]) _ _ _ _ ?_);rw [show ({ s with heap:=s.heap.push { cls:= .type "dict",data:= .dict #[] } }:Shared).heap.objs.size=s.heap.objs.size+1 from DZ ..];exact Dl (Dr (Dr h))
theorem yX{elt tg iter:Expr}{ifs:List Expr}{sc:Scope}{M tgs:List Str}{pos:Pos}{wi:TI}{g:TG}{tt:TT}{te:TE}(hc:X.calm=true)(B:n9 X sc M tgs)(hi:PI X tg iter wi)
 (hg:∀ cl C fp s H,PG (blkC X sc cl C fp s H (M++tgs)) tg g) (ht:∀ cl C fp s H,vj (blkC X sc cl C fp s H (M++tgs)) ifs tt) (he:∀ cl C fp s H,PE (blkC X sc cl C fp s H (M++tgs)) elt te)
 (hs:∀ x,foldedSetIterable iter X.env x=pure x:=by intro _;rfl):PE X (.ListComp elt [⟨tg,iter,ifs,0⟩] sc pos) (oO wi tgs.length g tt te):=by
 intro pins s σ H Q I h
 have hfr:∀ y∈sc.names,y.2 = .free->∃ c,X.env.cells.lookup y.1=some c:=fun y hy e=>I.ok.has _ (B.free y hy e)
 have hsub:∀ x c,(clF X.env sc.names []).lookup x=some c->X.env.cells.lookup x=some c:=ii sc.names [] hfr fun _ _ z=>by simp at z
 rw [eval_ListComp];refine wpAny_comprehension_free (use:=none) rfl hs (nL hfr) B.kind B.names (thn (hi pins s σ H _ I h) fun xv s₁ h₁=>thn h₁ fun itv s₂ h₂=> ?_);obtain ⟨it,fp,tn,J,H2,rfl,I2,T,st2,f2,W,⟨m0,w0⟩,turn⟩:=h₂
 have hfl:∀ b∈fp,b < s₂.heap.objs.size:=fun b hb=>by
  obtain ⟨o,e,_⟩:=T.obj _ _ st2 b hb;exact DA e
 refine Ei (BY ?_);dsimp only;rw [cs_eq]
 generalize hH2:s₂.heap.push { cls:= .type "list",dict:=none,data:= .seq ([]:List Value).toArray }=HH
 have hC:HH.objs.size=s₂.heap.objs.size+1:=by rw [<- hH2,DZ]
 have hns₁:(pushCells (HH.push { cls:= .type "dict",data:= .dict #[] }) sc.names).Ns HH.objs.size fun _=>none:=(Heap.Ns.new HH (.type "dict")).keeps (pushCells_keeps _ _)
 have hcl₁:CellsOk (pushCells (HH.push { cls:= .type "dict",data:= .dict #[] }) sc.names) (HH.objs.size+1) (cellsFrom (HH.objs.size+1) sc.names []):=by
  have:=cellsFrom_ok sc.names (HH.push { cls:= .type "dict",data:= .dict #[] }) (HH.objs.size+1) [] ⟨fun _ _ hm=>(nomatch hm),List.Pairwise.nil⟩ (by rw [DZ];exact DE _);rw [DZ] at this;exact this
 have old₀:∀ b o,HH.get? b=some o->(pushCells (HH.push { cls:= .type "dict",data:= .dict #[] }) sc.names).get? b=some o:=fun b o e=>pushCells_keeps _ _ b o (Dm _ e)
 generalize pushCells (HH.push { cls:= .type "dict",data:= .dict #[] }) sc.names=h₁ at hns₁ hcl₁ old₀ ⊢
 generalize hCC:HH.objs.size=C at hC hns₁ hcl₁ ⊢
 generalize hDD:s₂.heap.objs.size=D at hC ⊢
 have hDC:D≠C:=by omega
 have below:∀ b,b < D->b≠C/\b≠D:=fun b hb=>⟨by omega,by omega⟩
 have old:∀ b o,s₂.heap.get? b=some o->h₁.get? b=some o:=fun b o e=>old₀ b o (hH2 ▸ Dm _ e)
 have hacc:h₁.PlainList D #[]:=⟨_,old₀ _ _ (by rw [<- hH2,<- hDD];exact Dw _ rfl)⟩
 have hCs:s₂.heap.objs.size<=C:=by omega
 generalize hS4:({ s₂ with heap:=h₁ }:Shared)=s₄
 have I4:Inv (blkC X sc (csF X sc C) C fp s₂ H2 (M++tgs)) [] (σ++List.replicate tgs.length none) H2 s₄ :=
  I2.blkC B f2 hfl hCs (by rw [<- hS4];exact hns₁) (by rw [<- hS4];exact hcl₁) (by rw [<- hS4];exact old) (by rw [<- hS4]) (by rw [<- hS4])
 have hD4:s₄.heap.PlainList D #[]:=by rw [<- hS4];exact hacc
 have st4:tn 0 s₄.heap:=by rw [<- hS4];exact T.keep _ _ _ st2 fun b _ o e=>old b o e
 let X':=blkC X sc (csF X sc C) C fp s₂ H2 (M++tgs)
 have nfs:∀ b,s₂.heap.objs.size<=b->b∉frs X.stack:=fun b hb z=>by
  rcases Dx.mp (I2.stkSub b z) with q | q
  ·rw [q] at hb;exact absurd I2.lt (Nat.not_lt.mpr hb)
  ·exact I2.nofs hb q
 have Dpin:∀ {s':Shared} {H':Hp} {its:Array Value} {n:Nat},s'.heap.get? D=some { cls:= .type "list",data:= .seq its n }->H' D=none ->
  ∀ p∈[(D,({ cls:= .type "list",data:= .seq its n }:Obj))],s'.heap.get? p.1=some p.2/\H' p.1=none/\p.1≠X'.env.locals/\p.1∉X'.fs/\∀ v,p.2.data ≠ .cell v:=fun {s' H' its n} e hn p hp=>by
  have e1:p=(D,({ cls:= .type "list",data:= .seq its n }:Obj)):=by simpa using hp
  subst e1;exact ⟨e,hn,hDC,nfs D (by omega),fun v z=>by cases z⟩
 have fpk:∀ {pl:List (Addr×Obj)} {H':Hp},(∀ p∈pl,p.1=D)->(∀ b∈fp,H' b=none)->∀ b∈fp,oH X' pl H' b:=fun {pl H'} hpl hn b hb=>by
  refine ⟨hn b hb,(below b (hDD ▸ hfl b hb)).1,fun z=> ?_,.inl hb,fun x c e=>(qC B hcl₁ hfr e).elim (fun z y=>by have h1 : @LT.lt Nat instLTNat b s₂.heap.objs.size:=hfl b hb;have h2:=z.2.2.2;subst y;omega) fun z=>(f2 b hb).2.2.2.2.1 x c z.2,fun p hp=> ?_⟩
  ·rcases Dx.mp (I2.stkSub b z) with q | q
   ·exact (f2 b hb).2.1 q
   ·exact (f2 b hb).2.2.1 q
  ·have hp':p∈pl:=by simpa [X',blkC] using hp
   rw [hpl p hp'];exact Ne.symm (below b (hDD ▸ hfl b hb)).2
 have cellD:∀ x c,X'.env.cells.lookup x=some c->c≠D:=fun x c e z=>by
  rcases qC B hcl₁ hfr e with ⟨_,_,_,l1⟩ | ⟨_,e1⟩
  ·subst z;omega
  ·obtain ⟨v,q⟩:=I2.cell x c e1
   have q:=q.lt;rw [z,hDD] at q;exact Fm _ q
 have loop:codeAny (model X.prog X.w) X.A (.compLoop (.ListComp elt [⟨tg,iter,ifs,0⟩] sc pos) 0 (.ref it) (.ref D) (compEnvC sc (csF X sc C) C X.env))
  (compPost (model X.prog X.w) X.A X.xe none (EP X pins σ Q) (.ref D) C) s₄:=by
  refine jY (fun n s'=>∃ i ys its k H',Inv X' [(D,{ cls:= .type "list",data:= .seq its k })] (σ++List.replicate tgs.length none) H' s'/\aw ys its.toList/\tn i s'.heap/\(∀ b∈fp,H' b=none)/\W i n ys H') ?_ m0 ?_
  ·rintro n s5 ⟨i,ys,its,k,H5,I5,hv,st5,fr5,w5⟩
   obtain ⟨hz,w5⟩:=turn i n ys H5 w5;have hD5:=I5.pin (D,{ cls:= .type "list",data:= .seq its k }) (Du _ (by simp))
   have one:∀ p∈[(D,({ cls:= .type "list",data:= .seq its k }:Obj))],p.1=D:=fun p hp=>by
    have:p=(D,({ cls:= .type "list",data:= .seq its k }:Obj)):=by simpa using hp
    rw [this]
   rcases w5 with ⟨stop,qn⟩ | ⟨go,step⟩
   ·refine thn (T.done X' rfl rfl rfl hc i _ s5 _ H5 _ I5 (fpk one fr5) st5 stop) fun r s6 ⟨hr,I6⟩=> ?_
    subst hr;obtain ⟨m6,hn6,_⟩:=I6.loc;refine ⟨m6,hn6,fun h7 hs7=> ?_⟩;have hs7:Heap.SameBut C s6.heap h7:=hs7;obtain ⟨e6,n6,_⟩:=I6.pin (D,{ cls:= .type "list",data:= .seq its k }) (Du _ (by simp));have hC6:H5 C=none:=I6.free
    have ok7:HOk X.prog X.w H5 h7:=fun b o e=>(I6.hok b o e).stay (fun c w' hc' q=>(hs7.2 c (by
     rintro rfl
     rcases hc' with rfl | hc'
     ·rw [hC6] at e;cases e
     ·rw [hC6] at hc';cases hc')).trans q) (fun _ q=>q) fun _ _ q=>q
    have e7:h7.get? D=some { cls:= .type "list",data:= .seq its k }:=(hs7.2 D hDC).trans e6;have hln:ys.length<=sizeLine:=hz;have ok8:HOk X.prog X.w (upd H5 D (.lst ys)) h7:=ok7.track n6 ⟨hln,its.toList,k,hv,by simpa using e7⟩;have un:Un (frs X.stack) fp H2 H5 s₂.heap s6.heap:=I6.base
    have neC:∀ b o,s₂.heap.get? b=some o->b≠C/\b≠D:=fun b o e=>below b (hDD ▸ DA e)
    have un7:Un (frs X.stack) fp H2 (upd H5 D (.lst ys)) s₂.heap h7:=by
     refine ⟨fun b o e n hb hx=>(hs7.2 b (neC b o e).1).trans (un.keep b o e n hb hx),fun b o e n hb hx=> ?_,fun b o e n hx=> ?_,fun b o e hx=> ?_,fun b xs e=> ?_,fun b o u e=> ?_,fun b ps e=> ?_⟩
     ·obtain ⟨sl,q⟩:=un.slot b o e n hb hx
      exact ⟨sl,(hs7.2 b (neC b o e).1).trans q⟩
     ·rw [ai (neC b o e).2];exact un.free b o e n hx
     ·obtain ⟨o',q⟩:=un.there b o e hx
      exact ⟨o',(hs7.2 b (neC b o e).1).trans q⟩
     ·have q:=un.tups b xs e
      rw [ai (aj q n6)];exact q
     ·have q:=un.frzs b o u e
      rw [ai (aj q n6)];exact q
     ·obtain ⟨more,q⟩:=un.tbls b ps e
      exact ⟨more,by rw [ai (aj q n6)];exact q⟩
    refine ⟨.ref D,upd H5 D (.lst ys),I2.call' (ch:=fp) ?_ un7 ok8 I6.bare (fun b hb=>⟨(f2 b hb).2.2.2.1,(f2 b hb).2.1,(f2 b hb).2.2.2.2.1,(f2 b hb).2.2.2.2.2⟩),rfl,qn D n6⟩;exact I6.os
   ·refine thn (T.item X' rfl rfl rfl hc i _ s5 _ H5 _ I5 (fpk one fr5) st5 go) fun r s6 ⟨u,hr,h6⟩=> ?_
    subst hr
    refine thn h6 fun _ s7 ⟨x,H7,I7,r7,y7,st7,fr7⟩=> ?_
    have I7':=I7.pinned (fpk one fr7) (T.obj _ _ st7)
    refine thn (hg _ _ _ _ _ _ s7 _ H7 x u _ I7' r7 (step x H7 y7)) fun _ s8 ⟨σ8,H8,I8,tk8,q8⟩=> ?_
    refine thn (ht _ _ _ _ _ _ s8 σ8 H8 _ I8 q8) fun b s9 ⟨H9,I9,q9⟩=> ?_
    have weak:∀ {pl:List (Addr×Obj)} {H':Hp} {s':Shared},Inv X' pl σ8 H' s'->Inv X' pl (σ++List.replicate tgs.length none) H' s':=fun {pl H' s'} J=>J.weak (by
     have e1:σ8.length=(M++tgs).length:=J.len
     rw [e1,DD,DD,Er,B.len,I2.len]) (vq tk8)
    have fin:∀ {H':Hp} {s':Shared},Inv X' ([(D,{ cls:= .type "list",data:= .seq its k })]++km fp s7.heap) σ8 H' s'->tn (i+1) s'.heap/\∀ b∈fp,H' b=none:=fun {H' s'} J=>by
     refine ⟨T.keep _ _ _ st7 fun b hb o e=>(J.pin (b,o) (Du _ (Du _ (dj hb e)))).1,fun b hb=> ?_⟩;obtain ⟨o,e,d⟩:=T.obj _ _ st7 b hb;exact (J.pin (b,o) (Du _ (Du _ (dj hb e)))).2.1
    cases b with
    | false =>
     rw [if_neg DH] at q9 ⊢;obtain ⟨m',hm,w9⟩:=q9;exact ⟨m',hm,i+1,ys,its,k,H9,weak I9.unpinned,hv,(fin I9).1,(fin I9).2,w9⟩
    | true =>
     rw [if_pos rfl] at q9 ⊢
     refine thn (he _ _ _ _ _ _ s9 σ8 H9 _ I9 q9) fun y s10 ⟨yv,H10,I10,r10,q10⟩=> ?_
     obtain ⟨m',hm,w10⟩:=q10;obtain ⟨e10,n10,_⟩:=I10.pin (D,{ cls:= .type "list",data:= .seq its k }) (Du _ (Dz _ (by simp)))
     have hsz:its.size<=sizeLine:=by
      have e1:=hv.length
      have e2:its.toList.length=its.size:=by simp
      omega
     refine wpAny_list_append_plain (hsz:=hsz) ⟨k,e10⟩ fun h11 hl11 hs11=> ?_
     obtain ⟨k',e11⟩:=hl11
     have J0:Inv X' [] σ8 H10 s10:=I10.pins_of fun p hp=>by simp at hp
     have J1:Inv X' [] σ8 H10 { s10 with heap:=h11 }:=J0.turned (t':=s10.toks) (it:=D) (fun b o hb e=>(hs11.2 b hb).trans e) n10 hDC (.inr (by show s₂.heap.objs.size<=D;omega)) cellD (fun p hp=>by
      have hp':p∈([]:List (Addr×Obj)):=by simpa [X',blkC] using hp
      simp at hp')
     have J2:Inv X' [(D,{ cls:= .type "list",data:= .seq (its.push y) k' })] σ8 H10 { s10 with heap:=h11 }:=J1.pins_of (Dpin e11 n10);refine ⟨m',hm,i+1,ys++[yv],its.push y,k',H10,weak J2,?_,?_,(fin I10).2,w10⟩
     ·rw [Array.toList_push]
      exact hv.append (.cons r10 .nil)
     ·refine T.keep _ _ _ (fin I10).1 fun b hb o e=>(hs11.2 b ?_).trans e
      exact (below b (hDD ▸ hfl b hb)).2
  ·obtain ⟨k,e⟩:=hD4
   exact ⟨0,[],#[],k,H2,I4.pins_of (Dpin e (I2.hok.fresh (by omega))),.nil,st4,fun b hb=>(f2 b hb).1,w0⟩
 exact codeAny_compStart_list loop (T.self _ _ _ _ _ st4 loop)
end
theorem oa(t:Addr)(items:Array Value)(x:Value)(e:Value->Bool)(j:Nat)(hj:j < items.size)(hit:e items[j]=true)(hno:∀ m (hm:m < items.size),m < j->e items[m]=false) :
 Meets (Builtin.«tuple.index» ⟨[.ref t,x],[]⟩)
  (fun A R s=>IsTup s.heap t items/\(∀ y,y∈items->SeqAt.EqAt A.in1 s y x (e y))/\R (.ok (.ret (.int j s.toks))) { s with toks:=s.toks+1 }):=by
 intro prog w A R s h;obtain ⟨hp,g,d,tk,os⟩:=s;obtain ⟨hl,he,h⟩:=h;obtain ⟨⟨oc,od,dat,osl⟩,ho,hc1,n,hc2⟩:=id hl;dsimp only at hc1 hc2;subst hc1 hc2
 wp_walk using EB ho
 show wpAny (model prog w) A.in1 (forIn [:min items.size items.size] ((none,()):Option PySem.Fin×Unit) (fun (i:Nat) (__s:Option PySem.Fin×Unit) =>
  match items[i]? with
  | some y=>do
   let __do_lift <- eqBool y x
   if __do_lift=true then do
    let __do_lift <- retInt ↑i
    pure (ForInStep.done (some __do_lift,()))
    else pure (ForInStep.yield (none,()))
  | x=>pure (ForInStep.yield (none,())))) _ _ _
 rw [Std.Legacy.Range.forIn_eq_forIn_range',E8]
 have sz:[:items.size].size=items.size:=by simp [Std.Legacy.Range.size]
 rw [sz]
 show wpAny _ _ (forIn (List.range' 0 items.size 1) _ _) _ _ _
 refine wpAny_forIn_list _ (fun rest b s'=>s'={ heap:=hp,gens:=g,drawn:=d,toks:=tk,os:=os }/\b=(none,())/\∃ i,i<=j/\rest=List.range' i (items.size - i)) _ ?_ ?_ _ _ ⟨rfl,rfl,0,Fb _,rfl⟩
 ·rintro k rest b s ⟨rfl,rfl,i,hi,er⟩
  have hlt:i < items.size:=by omega
  rw [show items.size - i=(items.size - (i+1))+1 by omega,List.range'_succ] at er;obtain ⟨e1,e2⟩:=List.cons.inj er;subst e1 e2;rw [EO hlt];refine Dl (he items[k] (Array.getElem_mem hlt) prog w _ _ ?_)
  by_cases c:k=j
  ·subst c
   rw [hit,if_pos rfl]
   wp_walk
   exact h
  ·rw [hno k hlt (by omega),if_neg DH]
   exact Dr ⟨rfl,rfl,k+1,by omega,rfl⟩
 ·rintro b s ⟨rfl,rfl,i,hi,er⟩
  have:=congrArg List.length er;rw [List.length_range'] at this;have:0=items.size - i:=this;omega
section
variable{X:Cx}
noncomputable def Bv(K:F2):V->List V->Hp->VK->Prop:=fun x vs H Q=>∃ l xs y j,x = .ref l/\vs=[y]/\SqT K H l xs/\iC y=true/\xs.all iC=true/\(∃ h:j < xs.length,eqV xs[j] y=true)/\(∀ m (hm:m < xs.length),m < j->eqV xs[m] y=false)/\Q (.int (j:Nat)) H
theorem wT:MtM X "tuple.index" (Bv X.K):=by
 intro pins s σ H x vs v us Q I rx rv h;obtain ⟨l,xs,y,j,rfl,rfl,hH,fy,fs,⟨hj,hit⟩,hno,q⟩:=h;cases rx;obtain ⟨u,rfl,ru⟩:=rv.one;obtain ⟨its,r,p,hz⟩:=I.tuple hH;have lr:=r.length
 refine call_meets F.slot_tuple_index p.typeIs F.entry_tuple_index (F.args_tuple_index_2 _ _) (oa l its.toArray u (eqU y) j (by simp;omega)
  (by rw [lW r fs j (by simp;omega) hj];exact hit) (fun m hm h2=>by rw [lW r fs m hm (by simp at hm;omega)];exact hno m _ h2)) ⟨p,fun w hw=>m9 ru fy r fs w (by simpa using hw),?_⟩
 exact ⟨.int _,H,I.tok _,⟨_,rfl⟩,q⟩
end
section
variable{X:Cx}
variable{o e:Expr}{es:List Expr}{to:TE}{t:TA}{name:Str}{apos cpos:Pos}{id:String}{r:V->List V->Hp->VK->Prop}
end
section
variable{X:Cx}{Pre:St->Hp->Prop}{R R':Hp->V->Prop}
end
mutual
noncomputable def vg(K:F2)(H:Hp):PyData->V->Prop
 | .none,v=>v = .non
 | .bool b,v=>v = .bl b
 | .int i,v=>v = .int i
 | .str x,v=>v = .str x
 | .list ds,v=>∃ p xs,v = .ref p/\SqL K H p xs/\iQ K H ds xs
 | .tuple ds,v=>∃ p xs,v = .ref p/\SqT K H p xs/\iQ K H ds xs
 | .dict kvs,v=>kvs=[]/\∃ p,v = .ref p/\(H p=some (.dK [])\/H p=some (.dT []))
noncomputable def iQ(K:F2)(H:Hp):List PyData->List V->Prop
 | [],[]=>True
 | d::ds,x::xs=>vg K H d x/\iQ K H ds xs
 | _,_=>False
end
mutual
theorem ac.repP{K:F2}{H H':Hp}(e:ac H H'):∀ {d:PyData} {v:V},vg K H d v->vg K H' d v
 | .none,_,h=>h
 | .bool _,_,h=>h
 | .int _,_,h=>h
 | .str _,_,h=>h
 | .list _,_,⟨p,xs,h1,h2,h3⟩=>⟨p,xs,h1,e.seq h2,e.repPL h3⟩
 | .tuple _,_,⟨p,xs,h1,h2,h3⟩=>⟨p,xs,h1,e.tup h2,e.repPL h3⟩
 | .dict _,_,⟨h0,p,h1,h2⟩=>⟨h0,p,h1,h2.elim (fun z=> .inl (e _ _ z)) fun z=> .inr (e _ _ z)⟩
theorem ac.repPL{K:F2}{H H':Hp}(e:ac H H'):∀ {ds:List PyData} {xs:List V},iQ K H ds xs->iQ K H' ds xs
 | [],[],_=>trivial
 | _::_,_::_,h=>⟨e.repP h.1,e.repPL h.2⟩
 | [],_::_,h=>h.elim
 | _::_,[],h=>h.elim
end
noncomputable def oG:PyData->Dt
 | .none=> .non | .bool b=> .bl b | .int i=> .int i | .str x=> .str x | .list _=> .lst | .dict _=> .dct | .tuple ds=> .tup (ds.map oG)
mutual
theorem vg.rep{K:F2}{H:Hp}:∀ {d:PyData} {v:V},vg K H d v->Rep K H (oG d) v
 | .none,_,h=>by unfold oG;exact h
 | .bool _,_,h=>by unfold oG;exact h
 | .int _,_,h=>by unfold oG;exact h
 | .str _,_,h=>by unfold oG;exact h
 | .list _,_,⟨p,xs,h1,h2,_⟩=>by unfold oG;exact ⟨p,xs,h1,h2⟩
 | .tuple _,_,⟨p,xs,h1,h2,h3⟩=>by unfold oG;exact ⟨p,xs,h1,h2,iQ.rep h3⟩
 | .dict _,_,⟨_,p,h1,h2⟩=>by unfold oG;exact ⟨p,h1,h2.elim (fun z=> .inl ⟨_,z⟩) fun z=> .inr ⟨_,z⟩⟩
theorem iQ.rep{K:F2}{H:Hp}:∀ {ds:List PyData} {xs:List V},iQ K H ds xs->AJ K H (ds.map oG) xs
 | [],[],_=>trivial
 | _::_,_::_,h=>⟨vg.rep h.1,iQ.rep h.2⟩
 | [],_::_,h=>h.elim
 | _::_,[],h=>h.elim
end
section
variable{X:Cx}{pins:List (Addr×Obj)}{σ:St}{H:Hp}{s:Shared}
mutual
theorem yx(I:Inv X pins σ H s):∀ {d:PyData} {v:V} {u:Value},vg X.K H d v->aB v u->∃ as,Reads s.heap u d as/\((d = .dict []\/d.hasDict=false)->d.hasDict=true->sysModules∉as)
 | .none,_,_,h,r=>by cases h;cases r;exact ⟨[],.none,fun _ z=>by simp [PyData.hasDict] at z⟩
 | .bool b,_,_,h,r=>by cases h;cases r;exact ⟨[],.bool b,fun _ z=>by simp [PyData.hasDict] at z⟩
 | .int i,_,_,h,r=>by cases h;obtain ⟨t,rfl⟩:=r;exact ⟨[],.int i t,fun _ z=>by simp [PyData.hasDict] at z⟩
 | .str x,_,_,h,r=>by cases h;obtain ⟨t,rfl⟩:=r;exact ⟨[],.str x t,fun _ z=>by simp [PyData.hasDict] at z⟩
 | .list ds,_,_,⟨p,xs,h1,h2,h3⟩,r=>by
  subst h1;cases r;obtain ⟨its,rv,pl,_⟩:=I.list h2;obtain ⟨o,e1,e2,n,e3⟩:=pl.isList;obtain ⟨as,ra⟩:=gM I h3 rv;refine ⟨p::as,.list e1 e2 e3 (by simpa using ra),fun z1 z2=> ?_⟩
  rcases z1 with z1 | z1
  ·cases z1
  ·rw [z2] at z1;cases z1
 | .tuple ds,_,_,⟨p,xs,h1,h2,h3⟩,r=>by
  subst h1;cases r;obtain ⟨its,rv,pl,_⟩:=I.tuple h2;obtain ⟨o,e1,e2,n,e3⟩:=pl;obtain ⟨as,ra⟩:=gM I h3 rv;refine ⟨as,.tuple e1 e2 e3 (by simpa using ra),fun z1 z2=> ?_⟩
  rcases z1 with z1 | z1
  ·cases z1
  ·rw [z2] at z1;cases z1
 | .dict kvs,_,_,⟨h0,p,h1,h2⟩,r=>by
  subst h1 h0;cases r
  have z:∃ o es ep,s.heap.get? p=some o/\o.cls = .type "dict" /\ o.data = .dict es ep/\es.toList=[]/\(p == sysModules)=false:=by
   rcases h2 with h2 | h2
   ·obtain ⟨_,ne,vs,kv,o,es,ep,e,ex,hd,_,pr,_⟩:=I.hok p _ h2
    cases kv;refine ⟨o,es,ep,e,ex.1,hd,?_,ne⟩
    cases hes:es.toList with
    | nil=>rfl
    | cons a l=>rw [hes] at pr;cases pr
   ·obtain ⟨_,ne,xs,pr,o,es,ep,e,ex,hd,hl,_⟩:=I.hok p _ h2
    cases pr;exact ⟨o,es,ep,e,ex.1,hd,hl,ne⟩
  obtain ⟨o,es,ep,e1,e2,e3,e4,ne⟩:=z;refine ⟨_,.dict (as:=[]) (bs:=[]) e1 e2 e3 (by rw [e4];exact .nil) (by rw [e4];exact .nil),fun _ _ hm=> ?_⟩
  have:sysModules=p:=by simpa using hm
  rw [this] at ne;simp at ne
theorem gM(I:Inv X pins σ H s):∀ {ds:List PyData} {xs:List V} {us:List Value},iQ X.K H ds xs->aw xs us->∃ as,ReadsAll s.heap us ds as
 | [],[],_,_,r=>by cases r;exact ⟨[],.nil⟩
 | _::_,_::_,_,h,r=>by
  cases r with
  | cons r t =>
   obtain ⟨a1,r1,_⟩:=yx I h.1 r;obtain ⟨a2,r2⟩:=gM I h.2 t;exact ⟨a1++a2,.cons r1 r2⟩
 | [],_::_,_,h,_=>h.elim
 | _::_,[],_,h,_=>h.elim
end
end
section
variable{X:Cx}
end
section
variable{X:Cx}{a b c d:Expr}{ta tb tc td:TE}{pos:Pos}
end
section
open PySem.SeqAt PySem.MeetsSeq
open AutoSeq1 (wpAny_loadPart')
variable{A:Around}{s:Shared}
end
section
variable{X:Cx}
end
section
variable{X:Cx}{tg:Expr}
end
end L2
namespace ZpA
open PySem PySem.Spec PyProof.Rows
inductive Kd where
 | L | T
def nm:Kd->String
 | .L => "list"
 | .T => "tuple"
noncomputable def It:Kd->Heap->Addr->Addr->Nat->Prop
 | .L=>fun h it l i=>h.IsListIter it l i
 | .T=>fun h it l i=>h.IsTupleIter it l i
noncomputable def Sq:Kd->Heap->Addr->Array Value->Prop
 | .L=>fun h l xs=>h.IsList l xs
 | .T=>fun h l xs=>h.IsTuple l xs
noncomputable def zE:Kd->Addr->Obj
 | .L=>fun l=>{ cls:= .type "list_iterator",data:= .fields #[.ref l,.int 0 0] }
 | .T=>fun l=>{ cls:= .type "tuple_iterator",data:= .fields #[.ref l,.int 0 0] }
theorem It.at{c:Kd}{h h':Heap}{it l:Addr}{i:Nat}(x:It c h it l i)(k:∀ o,h.get? it=some o->h'.get? it=some o):It c h' it l i:=by
 cases c with
 | L=>exact Heap.IsListIter.at (show h.IsListIter it l i from x) k
 | T=>exact Heap.IsTupleIter.at (show h.IsTupleIter it l i from x) k
theorem It.obj{c:Kd}{h:Heap}{it l:Addr}{i:Nat}(x:It c h it l i):∃ o,h.get? it=some o/\(∃ vs,o.data = .fields vs)/\(o.cls = .type "list_iterator" \/ o.cls = .type "tuple_iterator"):=by
 cases c with
 | L=>obtain ⟨o,ho,hc,hd⟩:=(show h.IsListIter it l i from x);exact ⟨o,ho,⟨_,hd⟩,.inl hc⟩
 | T=>obtain ⟨o,ho,hc,hd⟩:=(show h.IsTupleIter it l i from x);exact ⟨o,ho,⟨_,hd⟩,.inr hc⟩
theorem Sq.at{c:Kd}{h h':Heap}{l:Addr}{xs:Array Value}(x:Sq c h l xs)(k:∀ o,h.get? l=some o->h'.get? l=some o):Sq c h' l xs:=by
 cases c with
 | L=>obtain ⟨o,ho,r⟩:=(show h.IsList l xs from x);exact ⟨o,k o ho,r⟩
 | T=>obtain ⟨o,ho,r⟩:=(show h.IsTuple l xs from x);exact ⟨o,k o ho,r⟩
theorem Sq.obj{c:Kd}{h:Heap}{l:Addr}{xs:Array Value}(x:Sq c h l xs):∃ o,h.get? l=some o/\(o.cls = .type "list" \/ o.cls = .type "tuple"):=by
 cases c with
 | L=>obtain ⟨o,ho,r,_⟩:=(show h.IsList l xs from x);exact ⟨o,ho,.inl r⟩
 | T=>obtain ⟨o,ho,r,_⟩:=(show h.IsTuple l xs from x);exact ⟨o,ho,.inr r⟩
theorem It.new{c:Kd}{h:Heap}{l:Addr}:It c (h.push (zE c l)) h.objs.size l 0:=by
 cases c with
 | L=>exact ⟨_,Dw _ rfl,rfl,rfl⟩
 | T=>exact ⟨_,Dw _ rfl,rfl,rfl⟩
section
variable{prog:Program}{w:World}{A:Around}{E:Value->Shared->Prop}{s:Shared}
theorem fO{c:Kd}{it l:Addr}{i:Nat}{items}{x:Value}{Q:Value->Shared->Prop}(hit:It c s.heap it l i)(hl:Sq c s.heap l items)(hx:items[i]?=some x)
 (hQ:∀ h',It c h' it l (i+1)->Heap.SameBut it s.heap h'->Q x { s with heap:=h' }):wpAny (model prog w) A (Builtin.SmallTypes.nextOf (.ref it)) Q E s:=by
 cases c with
 | L=>exact wpAny_nextOf_list_item (show s.heap.IsListIter it l i from hit) (show s.heap.IsList l items from hl) hx hQ
 | T=>exact EnT.fO (show s.heap.IsTupleIter it l i from hit) (show s.heap.IsTuple l items from hl) hx hQ
theorem gP{c:Kd}{it l:Addr}{i:Nat}{items}{Q:Value->Shared->Prop}(hh:A.handled=none)(hit:It c s.heap it l i)(hl:Sq c s.heap l items)(hx:items[i]?=none)
 (hE:∀ h' e,Heap.ExtBut it s.heap h'->(∃ o,h'.get? e=some o/\o.cls = .type "StopIteration")->E (.ref e) { s with heap:=h' }):wpAny (model prog w) A (Builtin.SmallTypes.nextOf (.ref it)) Q E s:=by
 cases c with
 | L=>exact wpAny_nextOf_list_end hh (show s.heap.IsListIter it l i from hit) (show s.heap.IsList l items from hl) hx hE
 | T=>exact EnT.gP hh (show s.heap.IsTupleIter it l i from hit) (show s.heap.IsTuple l items from hl) hx hE
end
theorem draws{prog:Program}{w:World}{A:Around}{c:Kd}(hh:A.handled=none)(it l:Addr)(hne:l≠it)(items:Array Value) :
 Draws prog w A it [it,l] items.size (fun i v=>items[i]?=some v) (fun i h=>It c h it l i/\Sq c h l items) where
 live:=fun _ _ st=>let ⟨o,ho,_⟩:=st.1.obj;⟨o,ho⟩
 frame:=fun _ _ _ st hk=>⟨st.1.at fun o e=>hk it (by simp) o e,st.2.at fun o e=>hk l (by simp) o e⟩
 item:=fun i s Q E hi st hQ=>by
  refine fO st.1 st.2 (x:=items[i]) (by simp [hi]) fun h' hit' hs'=> ?_
  exact hQ _ h' s.toks (by simp [hi]) ⟨hit',st.2.at fun o e=>hs'.extBut _ _ hne e⟩ hs'
 done:=fun s Q E st hE=>gP hh st.1 st.2 (by simp) hE
section
variable{prog:Program}{w:World}{A:Around}{E:Value->Shared->Prop}{s:Shared}
theorem xW{c1 c2:Kd}{z TI TO i1 i2 l1 l2:Addr}{k:Nat}{xs ys:Array Value}{x y a b:Value}{Q:Option Value->Shared->Prop}(ap:ZipApart z TI TO i1 i2 l1 l2)(hz:IsZip s.heap z TI TO .none)(hTI:IsPair s.heap TI (.ref i1) (.ref i2))(hTO:IsPair s.heap TO a b)
 (h1:It c1 s.heap i1 l1 k) (h2:It c2 s.heap i2 l2 k) (t1:Sq c1 s.heap l1 xs) (t2:Sq c2 s.heap l2 ys) (hx:xs[k]?=some x) (hy:ys[k]?=some y)
 (hQ:∀ h',IsZip h' z TI TO (rawInt s.heap.objs.size)->IsPair h' TO x y->It c1 h' i1 l1 (k+1)->It c2 h' i2 l2 (k+1)->IsPair h' s.heap.objs.size x y->(∀ c o,c≠z->c≠TO->c≠i1->c≠i2->s.heap.get? c=some o->h'.get? c=some o)->Q (some (.ref s.heap.objs.size)) { s with heap:=h' }) :
 wpAny (model prog w) A (pyNext (.ref z)) Q E s:=by
 have hT:s.TypeIs (.ref z) "zip" := ⟨_,hz,rfl⟩;unfold pyNext
 refine Dl (wpAny_attempt (Ek (name:=Str.ofString "__next__") hT F.slot_zip_next
  (Es F.slot_zip_next hT F.entry_zip_next ?_ (F.args_zip_next_1 _))))
 show wpAny _ _ (field (.ref z) 2 >>= _) _ _ _
 refine Dl (EH hz rfl (x:= .bool false) rfl ?_)
 show wpAny _ _ (field (.ref z) 3 >>= _) _ _ _
 refine Dl (EH hz rfl (x:= .ref TI) rfl ?_)
 show wpAny _ _ (seqItems? (.ref TI) >>= _) _ _ _
 refine Dl (Fo hTI rfl ?_)
 show wpAny _ _ (Builtin.SmallTypes.ownedTupleIsFree (.ref z) >>= _) _ _ _
 unfold Builtin.SmallTypes.ownedTupleIsFree;refine Dl (Dl (EH hz rfl (x:= .none) rfl (Dr ?_)))
 show wpAny _ _ (rule "zip.__next__.owned-tuple-again" >>= _) _ _ _
 refine Dl (wpAny_rule ?_)
 show wpAny _ _ (field (.ref z) 4 >>= _) _ _ _
 refine Dl (EH hz rfl (x:= .ref TO) rfl ?_)
 show wpAny _ _ (setField (.ref z) 0 .ellipsis >>= _) _ _ _
 refine Dl (E1 hz rfl (show 0 < 5 by decide) ?_);have zA:IsZip (s.heap.update z (Obj.mapFields fun q=>q.setIfInBounds 0 .ellipsis)) z TI TO .ellipsis:=EG _ hz rfl;have sA:Heap.SameBut z s.heap (s.heap.update z (Obj.mapFields fun q=>q.setIfInBounds 0 .ellipsis)):=Heap.SameBut.update ..
 generalize s.heap.update z (Obj.mapFields fun q=>q.setIfInBounds 0 .ellipsis)=hA at zA sA ⊢
 have ksA:∀ c o,c≠z->s.heap.get? c=some o->hA.get? c=some o:=fun c o n q=>(sA.2 c n).trans q
 have toA:IsPair hA TO a b:=ksA _ _ ap.TOz hTO
 have i1A:It c1 hA i1 l1 k:=h1.at fun o q=>ksA i1 o ap.i1z q
 have i2A:It c2 hA i2 l2 k:=h2.at fun o q=>ksA i2 o ap.i2z q
 have t1A:Sq c1 hA l1 xs:=t1.at fun o ho=>ksA l1 o ap.l1z ho
 have t2A:Sq c2 hA l2 ys:=t2.at fun o ho=>ksA l2 o ap.l2z ho
 show wpAny _ _ (forIn [(Value.ref i1,0),(Value.ref i2,1)] ((none:Option Fin),()) _ >>= _) _ _ _
 rw [List.forIn_cons];refine Dl (Dl (Dl (wpAny_onRaise ?_)))
 show wpAny _ _ (Builtin.SmallTypes.nextOf (.ref i1) >>= fun v=>pure (some v)) _ _ _
 refine Dl (fO (s:={ s with heap:=hA }) i1A t1A hx fun hB i1B sB=>Dr ?_)
 have ksB:∀ c o,c≠i1->hA.get? c=some o->hB.get? c=some o:=fun c o n q=>(sB.2 c n).trans q
 have toB:IsPair hB TO a b:=ksB _ _ ap.TOi1 toA
 show wpAny _ _ (seqItems? (.ref TO) >>= _) _ _ _
 refine Dl (Fo toB rfl ?_)
 show wpAny _ _ (updateSeq TO (fun q=>q.setIfInBounds 0 x) >>= _) _ _ _
 refine Dl (wpAny_updateSeq_pair (s:={ s with heap:=hB }) toB fun hC toC sC=> ?_);refine Dl (wpAny_letGo (Dr ?_))
 have ksC:∀ c o,c≠TO->hB.get? c=some o->hC.get? c=some o:=fun c o n q=>(sC.2 c n).trans q
 have i1C:It c1 hC i1 l1 (k+1):=i1B.at fun o q=>ksC i1 o (Ne.symm ap.TOi1) q
 have i2C:It c2 hC i2 l2 k:=(i2A.at fun o q=>ksB i2 o (Ne.symm ap.i12) q).at fun o q=>ksC i2 o (Ne.symm ap.TOi2) q
 have t2C:Sq c2 hC l2 ys:=t2A.at fun o ho=>ksC l2 o ap.l2TO (ksB l2 o ap.l2i1 ho)
 have zC:IsZip hC z TI TO .ellipsis:=ksC _ _ (Ne.symm ap.TOz) (ksB _ _ (Ne.symm ap.i1z) zA);have toC:IsPair hC TO x b:=toC
 show wpAny _ _ (forIn [(Value.ref i2,1)] ((none:Option Fin),()) _) _ _ _
 rw [List.forIn_cons];refine Dl (Dl (wpAny_onRaise ?_))
 show wpAny _ _ (Builtin.SmallTypes.nextOf (.ref i2) >>= fun v=>pure (some v)) _ _ _
 refine Dl (fO (s:={ s with heap:=hC }) i2C t2C hy fun hD i2D sD=>Dr ?_)
 have ksD:∀ c o,c≠i2->hC.get? c=some o->hD.get? c=some o:=fun c o n q=>(sD.2 c n).trans q
 have toD:IsPair hD TO x b:=ksD _ _ ap.TOi2 toC
 show wpAny _ _ (seqItems? (.ref TO) >>= _) _ _ _
 refine Dl (Fo toD rfl ?_)
 show wpAny _ _ (updateSeq TO (fun q=>q.setIfInBounds 1 y) >>= _) _ _ _
 refine Dl (wpAny_updateSeq_pair (s:={ s with heap:=hD }) toD fun hF toF sF=> ?_);refine Dl (wpAny_letGo (Dr ?_))
 have ksF:∀ c o,c≠TO->hD.get? c=some o->hF.get? c=some o:=fun c o n q=>(sF.2 c n).trans q
 have toF:IsPair hF TO x y:=toF;have zF:IsZip hF z TI TO .ellipsis:=ksF _ _ (Ne.symm ap.TOz) (ksD _ _ (Ne.symm ap.i2z) zC)
 have i1F:It c1 hF i1 l1 (k+1):=(i1C.at fun o q=>ksD i1 o ap.i12 q).at fun o q=>ksF i1 o (Ne.symm ap.TOi1) q
 have i2F:It c2 hF i2 l2 (k+1):=i2D.at fun o q=>ksF i2 o (Ne.symm ap.TOi2) q
 show wpAny _ _ (forIn ([]:List (Value×Nat)) ((none:Option Fin),()) _) _ _ _
 rw [List.forIn_nil];refine Dr ?_
 show wpAny _ _ (seqItems? (.ref TO) >>= _) _ _ _
 refine Dl (Fo toF rfl ?_)
 show wpAny _ _ (newTuple [x,y] >>= _) _ _ _
 unfold newTuple;have sz:hF.objs.size=s.heap.objs.size:=sF.1.trans (sD.1.trans (sC.1.trans (sB.1.trans sA.1)));refine Dl (Ei ?_ (by size_fits))
 show wpAny _ _ (Builtin.SmallTypes.ownedTupleHandOut (.ref z) (.ref hF.objs.size) >>= _) _ _ { s with heap:=hF.push { cls:= .type "tuple",data:= .seq #[x,y] } }
 have zG:IsZip (hF.push { cls:= .type "tuple",data:= .seq #[x,y] }) z TI TO .ellipsis:=Dm _ zF;have pG:IsPair (hF.push { cls:= .type "tuple",data:= .seq #[x,y] }) hF.objs.size x y:=Dw _ rfl
 have ksG:∀ c o,hF.get? c=some o->(hF.push { cls:= .type "tuple",data:= .seq #[x,y] }).get? c=some o:=fun c o q=>Dm _ q
 generalize hF.push { cls:= .type "tuple",data:= .seq #[x,y] }=hG at zG pG ksG ⊢
 unfold Builtin.SmallTypes.ownedTupleHandOut
 show wpAny _ _ ((setField (.ref z) 0 (rawInt hF.objs.size) >>= fun _=>setField (.ref z) 1 (.bool false)) >>= _) _ _ _
 refine Dl (Dl (E1 zG rfl (show 0 < 5 by decide) ?_));have zH:IsZip (hG.update z (Obj.mapFields fun q=>q.setIfInBounds 0 (rawInt hF.objs.size))) z TI TO (rawInt hF.objs.size):=EG _ zG rfl;have sH:Heap.SameBut z hG (hG.update z (Obj.mapFields fun q=>q.setIfInBounds 0 (rawInt hF.objs.size))):=Heap.SameBut.update ..
 generalize hG.update z (Obj.mapFields fun q=>q.setIfInBounds 0 (rawInt hF.objs.size))=hH at zH sH ⊢
 refine E1 zH rfl (show 1 < 5 by decide) ?_;have zJ:IsZip (hH.update z (Obj.mapFields fun q=>q.setIfInBounds 1 (.bool false))) z TI TO (rawInt hF.objs.size):=EG _ zH rfl;have sJ:Heap.SameBut z hH (hH.update z (Obj.mapFields fun q=>q.setIfInBounds 1 (.bool false))):=Heap.SameBut.update ..
 generalize hH.update z (Obj.mapFields fun q=>q.setIfInBounds 1 (.bool false))=hJ at zJ sJ ⊢
 have ksJ:∀ c o,c≠z->hF.get? c=some o->hJ.get? c=some o:=fun c o n q=>(sJ.2 c n).trans ((sH.2 c n).trans (ksG c o q))
 have nz:hF.objs.size≠z:=fun e=>absurd (DA zF) (by rw [e];exact Fm _)
 have pJ:IsPair hJ hF.objs.size x y:=(sJ.2 _ nz).trans ((sH.2 _ nz).trans pG);refine Dr ⟨_,rfl,Dr ?_⟩;rw [sz] at zJ pJ ⊢
 refine hQ hJ zJ (ksJ _ _ ap.TOz toF) (i1F.at fun o q=>ksJ i1 o ap.i1z q) (i2F.at fun o q=>ksJ i2 o ap.i2z q) pJ fun c o n1 n2 n3 n4 q=> ?_
 exact ksJ _ _ n1 (ksF _ _ n2 (ksD _ _ n4 (ksC _ _ n2 (ksB _ _ n3 (ksA _ _ n1 q)))))
theorem AN{c1:Kd}{z TI TO i1 i2 l1 l2:Addr}{k:Nat}{xs:Array Value}{a b:Value}{Q:Option Value->Shared->Prop}(hh:A.handled=none)(ap:ZipApart z TI TO i1 i2 l1 l2)(hz:IsZip s.heap z TI TO .none)(hTI:IsPair s.heap TI (.ref i1) (.ref i2))(hTO:IsPair s.heap TO a b)
 (h1:It c1 s.heap i1 l1 k) (t1:Sq c1 s.heap l1 xs) (hx:xs[k]?=none)
 (hQ:∀ h',(∀ c o,c≠z->c≠i1->s.heap.get? c=some o->h'.get? c=some o)->Q none { s with heap:=h' }) :
 wpAny (model prog w) A (pyNext (.ref z)) Q E s:=by
 have hT:s.TypeIs (.ref z) "zip" := ⟨_,hz,rfl⟩;unfold pyNext
 refine Dl (wpAny_attempt (Ek (name:=Str.ofString "__next__") hT F.slot_zip_next
  (Es F.slot_zip_next hT F.entry_zip_next ?_ (F.args_zip_next_1 _))))
 show wpAny _ _ (field (.ref z) 2 >>= _) _ _ _
 refine Dl (EH hz rfl (x:= .bool false) rfl ?_)
 show wpAny _ _ (field (.ref z) 3 >>= _) _ _ _
 refine Dl (EH hz rfl (x:= .ref TI) rfl ?_)
 show wpAny _ _ (seqItems? (.ref TI) >>= _) _ _ _
 refine Dl (Fo hTI rfl ?_)
 show wpAny _ _ (Builtin.SmallTypes.ownedTupleIsFree (.ref z) >>= _) _ _ _
 unfold Builtin.SmallTypes.ownedTupleIsFree;refine Dl (Dl (EH hz rfl (x:= .none) rfl (Dr ?_)))
 show wpAny _ _ (rule "zip.__next__.owned-tuple-again" >>= _) _ _ _
 refine Dl (wpAny_rule ?_)
 show wpAny _ _ (field (.ref z) 4 >>= _) _ _ _
 refine Dl (EH hz rfl (x:= .ref TO) rfl ?_)
 show wpAny _ _ (setField (.ref z) 0 .ellipsis >>= _) _ _ _
 refine Dl (E1 hz rfl (show 0 < 5 by decide) ?_);have zA:IsZip (s.heap.update z (Obj.mapFields fun q=>q.setIfInBounds 0 .ellipsis)) z TI TO .ellipsis:=EG _ hz rfl;have sA:Heap.SameBut z s.heap (s.heap.update z (Obj.mapFields fun q=>q.setIfInBounds 0 .ellipsis)):=Heap.SameBut.update ..
 generalize s.heap.update z (Obj.mapFields fun q=>q.setIfInBounds 0 .ellipsis)=hA at zA sA ⊢
 have ksA:∀ c o,c≠z->s.heap.get? c=some o->hA.get? c=some o:=fun c o n q=>(sA.2 c n).trans q
 have i1A:It c1 hA i1 l1 k:=h1.at fun o q=>ksA i1 o ap.i1z q
 have t1A:Sq c1 hA l1 xs:=t1.at fun o ho=>ksA l1 o ap.l1z ho
 show wpAny _ _ (forIn [(Value.ref i1,0),(Value.ref i2,1)] ((none:Option Fin),()) _ >>= _) _ _ _
 rw [List.forIn_cons];refine Dl (Dl (Dl (wpAny_onRaise ?_)))
 show wpAny _ _ (Builtin.SmallTypes.nextOf (.ref i1) >>= fun v=>pure (some v)) _ _ _
 refine Dl (gP (s:={ s with heap:=hA }) hh i1A t1A hx fun h' e eb he=> ?_);have zB:IsZip h' z TI TO .ellipsis:=eb _ _ (Ne.symm ap.i1z) zA;refine E1 zB rfl (show 0 < 5 by decide) ?_;have sC:Heap.SameBut z h' (h'.update z (Obj.mapFields fun q=>q.setIfInBounds 0 .none)):=Heap.SameBut.update ..;obtain ⟨o,ho,hc⟩:=he
 have ez:e≠z:=fun q=>by
  rw [q,zB] at ho;cases ho;exact absurd (show Value.type "zip" = Value.type "StopIteration" from hc) (by decide)
 have ho2:(h'.update z (Obj.mapFields fun q=>q.setIfInBounds 0 .none)).get? e=some o:=(sC.2 e ez).trans ho;refine Dl (wpAny_isInstance (T := "StopIteration") (b:=true) ⟨o,ho2,hc⟩ isSubtype_stop ?_);refine Dr (hQ _ fun c o n1 n2 q=>(sC.2 c n1).trans (eb c o n2 (ksA c o n1 q)))
end
abbrev H1(c1:Kd)(h:Heap)(l1:Addr):Heap:=h.push (zE c1 l1)
abbrev H2(c1 c2:Kd)(h:Heap)(l1 l2:Addr):Heap:=(H1 c1 h l1).push (zE c2 l2)
abbrev H3(c1 c2:Kd)(h:Heap)(l1 l2:Addr):Heap:=(H2 c1 c2 h l1 l2).push { cls:= .type "tuple",data:= .seq #[.ref h.objs.size,.ref (H1 c1 h l1).objs.size] }
abbrev H4(c1 c2:Kd)(h:Heap)(l1 l2:Addr):Heap:=(H3 c1 c2 h l1 l2).push { cls:= .type "tuple",data:= .seq #[.none,.none] }
abbrev H5(c1 c2:Kd)(h:Heap)(l1 l2:Addr):Heap:=(H4 c1 c2 h l1 l2).push { cls:= .type "zip",data:= .fields #[.none,.bool false,.bool false,.ref (H2 c1 c2 h l1 l2).objs.size,.ref (H3 c1 c2 h l1 l2).objs.size] }
theorem kr(c1 c2:Kd)(l1 l2:Addr)(xs ys:Array Value) :
 Meets (Builtin.«zip.__new__» ⟨[.type "zip",.ref l1,.ref l2],[]⟩) (fun _ R s=>Sq c1 s.heap l1 xs/\Sq c2 s.heap l2 ys /\
  R (.ok (.ret (.ref (H4 c1 c2 s.heap l1 l2).objs.size))) { s with heap:=H5 c1 c2 s.heap l1 l2 }):=by
 cases c1 with
 | T =>
  cases c2 with
  | T =>
   refine .of_wp fun prog w A R s h=> ?_
   obtain ⟨hp,g,d,tk,os⟩:=s;obtain ⟨hL1,hL2,h⟩:=h;have hsub:=sub_zip;have hL1:hp.IsTuple l1 xs:=hL1;have hL2':Heap.IsTuple (H1 .T hp l1) l2 ys:=let ⟨o,ho,r⟩:=(show hp.IsTuple l2 ys from hL2);⟨o,Dm _ ho,r⟩
   wp_walk using Ej hL1,Ej hL2'
   exact ⟨_,rfl,h⟩
  | L =>
   refine .of_wp fun prog w A R s h=> ?_
   obtain ⟨hp,g,d,tk,os⟩:=s;obtain ⟨hL1,hL2,h⟩:=h;have hsub:=sub_zip;have hL1:hp.IsTuple l1 xs:=hL1;have hL2':Heap.IsList (H1 .T hp l1) l2 ys:=let ⟨o,ho,r⟩:=(show hp.IsList l2 ys from hL2);⟨o,Dm _ ho,r⟩
   wp_walk using Ej hL1,E4 hL2'
   exact ⟨_,rfl,h⟩
 | L =>
  cases c2 with
  | T =>
   refine .of_wp fun prog w A R s h=> ?_
   obtain ⟨hp,g,d,tk,os⟩:=s;obtain ⟨hL1,hL2,h⟩:=h;have hsub:=sub_zip;have hL1:hp.IsList l1 xs:=hL1;have hL2':Heap.IsTuple (H1 .L hp l1) l2 ys:=let ⟨o,ho,r⟩:=(show hp.IsTuple l2 ys from hL2);⟨o,Dm _ ho,r⟩
   wp_walk using E4 hL1,Ej hL2'
   exact ⟨_,rfl,h⟩
  | L =>
   refine .of_wp fun prog w A R s h=> ?_
   obtain ⟨hp,g,d,tk,os⟩:=s;obtain ⟨hL1,hL2,h⟩:=h;have hsub:=sub_zip;have hL1:hp.IsList l1 xs:=hL1;have hL2':Heap.IsList (H1 .L hp l1) l2 ys:=let ⟨o,ho,r⟩:=(show hp.IsList l2 ys from hL2);⟨o,Dm _ ho,r⟩
   wp_walk using E4 hL1,E4 hL2'
   exact ⟨_,rfl,h⟩
section
variable{prog:Program}{w:World}{A:Around}{E:Value->Shared->Prop}{s:Shared}
theorem nN{c1 c2:Kd}{l1 l2:Addr}{xs ys:Array Value}{Q:Value->Shared->Prop}(h1:Sq c1 s.heap l1 xs)(h2:Sq c2 s.heap l2 ys)
 (h:∀ h',IsZip h' (s.heap.objs.size+4) (s.heap.objs.size+2) (s.heap.objs.size+3) .none->IsPair h' (s.heap.objs.size+2) (.ref s.heap.objs.size) (.ref (s.heap.objs.size+1))->IsPair h' (s.heap.objs.size+3) .none .none ->
   It c1 h' s.heap.objs.size l1 0->It c2 h' (s.heap.objs.size+1) l2 0->(∀ b o,s.heap.get? b=some o->h'.get? b=some o)->Q (.ref (s.heap.objs.size+4)) { s with heap:=h' }) :
 wpAny (model prog w) A (call (.type "zip") [.ref l1,.ref l2]) Q E s:=by
 refine callType_new F.called_zip (by decide) (F.typeCall_zip_2 _ _) (F.newCall_zip_2 _ _) (fun obj=>F.args_object_init_3 obj _ _) F.entry_zip_new (kr c1 c2 l1 l2 xs ys) ⟨h1,h2,?_⟩;have z1:(H1 c1 s.heap l1).objs.size=s.heap.objs.size+1:=DZ ..;have z2:(H2 c1 c2 s.heap l1 l2).objs.size=s.heap.objs.size+2:=(DZ ..).trans (by rw [z1]);have z3:(H3 c1 c2 s.heap l1 l2).objs.size=s.heap.objs.size+3:=(DZ ..).trans (by rw [z2]);have z4:(H4 c1 c2 s.heap l1 l2).objs.size=s.heap.objs.size+4:=(DZ ..).trans (by rw [z3])
 have kz:∀ {h0:Heap} {o:Obj} (b:Addr) (u:Obj),h0.get? b=some u->(h0.push o).get? b=some u:=fun b u q=>Dm _ q
 have hz:IsZip (H5 c1 c2 s.heap l1 l2) (s.heap.objs.size+4) (s.heap.objs.size+2) (s.heap.objs.size+3) .none:=by
  have:=Dw (H4 c1 c2 s.heap l1 l2) (o:={ cls:= .type "zip",data:= .fields #[.none,.bool false,.bool false,.ref (H2 c1 c2 s.heap l1 l2).objs.size,.ref (H3 c1 c2 s.heap l1 l2).objs.size] }) rfl;rw [z4] at this
  show (H5 c1 c2 s.heap l1 l2).get? _=_
  rw [show H5 c1 c2 s.heap l1 l2=(H4 c1 c2 s.heap l1 l2).push { cls:= .type "zip",data:= .fields #[.none,.bool false,.bool false,.ref (H2 c1 c2 s.heap l1 l2).objs.size,.ref (H3 c1 c2 s.heap l1 l2).objs.size] } from rfl,this,z2,z3]
 have hTO:IsPair (H5 c1 c2 s.heap l1 l2) (s.heap.objs.size+3) .none .none:=by
  have:=Dw (H3 c1 c2 s.heap l1 l2) (o:={ cls:= .type "tuple",data:= .seq #[.none,.none] }) rfl;rw [z3] at this;exact kz _ _ this
 have hTI:IsPair (H5 c1 c2 s.heap l1 l2) (s.heap.objs.size+2) (.ref s.heap.objs.size) (.ref (s.heap.objs.size+1)):=by
  have:=Dw (H2 c1 c2 s.heap l1 l2) (o:={ cls:= .type "tuple",data:= .seq #[.ref s.heap.objs.size,.ref (H1 c1 s.heap l1).objs.size] }) rfl;rw [z2,z1] at this;have e:=kz (o:={ cls:= .type "zip",data:= .fields #[.none,.bool false,.bool false,.ref (H2 c1 c2 s.heap l1 l2).objs.size,.ref (H3 c1 c2 s.heap l1 l2).objs.size] }) _ _ (kz (o:={ cls:= .type "tuple",data:= .seq #[.none,.none] }) _ _ this);rw [<- z1] at e ⊢;exact e
 have hi2:It c2 (H5 c1 c2 s.heap l1 l2) (s.heap.objs.size+1) l2 0:=by
  have:=It.new (c:=c2) (h:=H1 c1 s.heap l1) (l:=l2);rw [z1] at this
  exact this.at fun o q=>kz _ _ (kz _ _ (kz _ _ q))
 have hi1:It c1 (H5 c1 c2 s.heap l1 l2) s.heap.objs.size l1 0:=(It.new (c:=c1) (h:=s.heap) (l:=l1)).at fun o q=>kz _ _ (kz _ _ (kz _ _ (kz _ _ q)))
 show _/\_
 rw [z4];exact ⟨⟨_,hz,rfl⟩,h _ hz hTI hTO hi1 hi2 fun b o q=>kz _ _ (kz _ _ (kz _ _ (kz _ _ (kz _ _ q))))⟩
end
end ZpA
namespace L2
open PySem PySem.Spec PyProof.Rows ZpA
def SqA:Kd->F2->Hp->Addr->List V->Prop
 | .L=>SqL
 | .T=>SqT
theorem Inv.seqA{X:Cx}{pins:List (Addr×Obj)}{σ:St}{H:Hp}{s:Shared}{c:Kd}{a:Addr}{xs:List V}(I:Inv X pins σ H s)(h:SqA c X.K H a xs):∃ its:List Value,aw xs its/\Sq c s.heap a its.toArray/\xs.length<=sizeLine:=by
 cases c with
 | L=>obtain ⟨its,r,p,z⟩:=I.list h;exact ⟨its,r,p.isList,z⟩
 | T=>obtain ⟨its,r,p,z⟩:=I.tuple h;exact ⟨its,r,(show s.heap.IsTuple a its.toArray from p),z⟩
theorem Inv.seqA_inj{X:Cx}{pins:List (Addr×Obj)}{σ:St}{H:Hp}{s:Shared}{c:Kd}{a:Addr}{xs ys:List V}(I:Inv X pins σ H s)(h:SqA c X.K H a xs)(h':SqA c X.K H a ys):xs=ys:=by
 cases c with
 | L=>exact I.list_inj h h'
 | T=>exact I.tuple_inj h h'
theorem xn{prog:Program}{w:World}{A:Around}{E:Value->Shared->Prop}{s:Shared}{c:Kd}{e it l:Addr}{i:Nat}{j:Int}{items:Array Value}{old:Value}{Q:Option Value->Shared->Prop}(hh:A.handled=none)
 (he:IsEnum s.heap e it j old) (hit:ZpA.It c s.heap it l i) (hl:Sq c s.heap l items) (hx:items[i]?=none)
 (hQ:∀ h',Heap.ExtBut it s.heap h'->Q none { s with heap:=h' }):wpAny (model prog w) A (pyNext (.ref e)) Q E s:=by
 have hT:s.TypeIs (.ref e) "enumerate" := ⟨_,he,rfl⟩;unfold pyNext
 refine Dl (wpAny_attempt (Ek (name:=Str.ofString "__next__") hT F.slot_enumerate_next
  (Es F.slot_enumerate_next hT F.entry_enumerate_next ?_ (F.args_enumerate_next_1 _))))
 show wpAny _ _ (field (.ref e) 2 >>= _) _ _ _
 refine Dl (EH he rfl (x:= .ref it) rfl ?_);refine Dl (ZpA.gP hh hit hl hx fun h' x he' hx'=> ?_);obtain ⟨o,ho,hc⟩:=hx';refine Dl (wpAny_isInstance (T := "StopIteration") (b:=true) ⟨o,ho,hc⟩ isSubtype_stop ?_);exact Dr (hQ _ he')
theorem Al{prog:Program}{w:World}{A:Around}{E:Value->Shared->Prop}{s:Shared}{c:Kd}{l:Addr}{items:Array Value}{Q:Value->Shared->Prop}(hL:Sq c s.heap l items)
 (h:∀ h',IsEnum h' (s.heap.objs.size+1) s.heap.objs.size 0 .none->ZpA.It c h' s.heap.objs.size l 0->h'.objs.size=s.heap.objs.size+2 ->
   (∀ b o,s.heap.get? b=some o->h'.get? b=some o)->Q (.ref (s.heap.objs.size+1)) { s with heap:=h' }) :
 wpAny (model prog w) A (call (.type "enumerate") [.ref l]) Q E s:=by
 cases c with
 | L=>exact call_enumerate_list (show s.heap.IsList l items from hL) h
 | T=>exact EnT.nN (show s.heap.IsTuple l items from hL) h
noncomputable def IteA(c:Kd)(K:F2)(a:Addr):L2.It :=
 ⟨fun i H=>∃ xs x,SqA c K H a xs/\xs[i]?=some x,fun i H x H'=>∃ p y,x = .ref p/\H p=none/\H'=upd H p (.tup [.int (i:Nat),y])/\∀ xs,SqA c K H a xs->xs[i]?=some y,fun i H=>∃ xs,SqA c K H a xs/\xs.length<=i⟩
theorem tY{c:Kd}{P:Program}{w:World}{K:F2}{elts:List Expr}{k}{tpos:Pos}(a e it:Addr)(hei:e≠it):xV P w K (.Tuple elts k tpos) (IteA c K a) [e,it] e (fun i h=>(∃ old,IsEnum h e it (i:Nat) old)/\ZpA.It c h it a i) where
 mem:=by simp
 obj:=fun i h st b hb=>by
  obtain ⟨⟨old,he⟩,hit⟩:=st;obtain ⟨o,ho,⟨vs,hd⟩,hc⟩:=hit.obj
  have hb':b=e\/b=it:=by simpa using hb
  rcases hb' with rfl | rfl
  ·exact ⟨_,he,fun v z=>by
    have z':Data.fields _=Data.cell v:=z
    cases z'⟩
  ·exact ⟨o,ho,fun v z=>by rw [hd] at z;cases z⟩
 keep:=fun i h h' st k=>by
  obtain ⟨⟨old,he⟩,hit⟩:=st;exact ⟨⟨old,k e (by simp) _ he⟩,hit.at fun o x=>k it (by simp) o x⟩
 item:=by
  intro X hP hw hK hc i pins s σ H E I hf st hg;subst hP hw hK;obtain ⟨xs,y,hq,hx⟩:=hg;obtain ⟨its,rv,p,hz⟩:=I.seqA hq;obtain ⟨u,hu,ru⟩:=rv.get hx;obtain ⟨⟨old,he⟩,hit⟩:=st;have pt:=p
  have hea:e≠a:=fun z=>by
   obtain ⟨o,ho,hc⟩:=p.obj;rw [<- z,he] at ho;cases ho
   rcases hc with hc | hc
   ·exact absurd (show Value.type "enumerate" = Value.type "list" from hc) (by decide)
   ·exact absurd (show Value.type "enumerate" = Value.type "tuple" from hc) (by decide)
  have hia:a≠it:=fun z=>by
   obtain ⟨o,ho,hc⟩:=p.obj;obtain ⟨o',ho',_,hc'⟩:=hit.obj;rw [z,ho'] at ho;cases ho
   rcases hc with hc | hc<;>rcases hc' with hc' | hc'<;>(rw [hc] at hc';exact absurd hc' (by decide))
  have hil:i < its.toArray.size:=by
   have:=(DG.mp hu).1;simpa using this
  refine wpAny_pyNext_enum_itemD (ZpA.draws (c:=c) (prog:=X.prog) (w:=X.w) (A:=X.A.in1) (I.ok.hd hc) it a hia its.toArray) he ⟨hit,pt⟩ hil hei (by simp [hea,hei]) fun x h' tk hPx ho st' hT hsz hk=> ?_
  have hxu:x=u:=by
   have:its.toArray[i]?=some u:=by simpa using hu
   rw [this] at hPx;exact (Option.some.inj hPx).symm
  subst hxu;refine ⟨_,rfl,wpAny_letOwnedTupleGo_enum ho fun h'' he' hs'=> ?_⟩
  replace hs':Heap.SameBut e h' h'':=hs'
  have hel:e < s.heap.objs.size:=DA he
  have hil':it < s.heap.objs.size:=by obtain ⟨o,ho,_⟩:=hit.obj;exact DA ho
  have kp:∀ b o,b≠e->b≠it->s.heap.get? b=some o->h''.get? b=some o:=fun b o n1 n2 q=>(hs'.2 b n1).trans (hk b o n1 n2 q)
  have hT2:h''.get? s.heap.objs.size=some { cls:= .type "tuple",data:= .seq #[.int (i:Nat) tk,x] }:=(hs'.2 _ (E7 hel)).trans hT;have hTn:H s.heap.objs.size=none:=I.hok.fresh (DE _);have fe:=hf e (by simp);have fi:=hf it (by simp)
  have nte:∀ b u,H b=some u->b≠e:=fun b u q z=>by rw [z,fe.1] at q;cases q
  have nti:∀ b u,H b=some u->b≠it:=fun b u q z=>by rw [z,fi.1] at q;cases q
  have hok:HOk X.prog X.w (upd H s.heap.objs.size (.tup [.int (i:Nat),y])) h'':=fun b ob q=>by
   by_cases hb:b=s.heap.objs.size
   ·subst hb
    rw [av] at q;cases q;exact ⟨by show 2<=sizeLine;decide,[.int (i:Nat) tk,x],.cons ⟨tk,rfl⟩ (.cons ru .nil),pN hT2⟩
   ·rw [ai hb] at q
    refine (I.hok b ob q).stay (fun c v hc q'=> ?_) (fun c q'=>by rw [ai (aj q' hTn)];exact q') fun c xs q'=>by rw [ai (aj q' hTn)];exact q'
    rcases hc with rfl | hc
    ·exact kp _ _ (nte _ _ q) (nti _ _ q) q'
    ·exact kp _ _ (nte _ _ hc) (nti _ _ hc) q'
  have mem2:∀ b,b∉[e,it]->b≠e/\b≠it:=fun b hb=>by
   have:=hb;simp at this;exact this
  have I2:Inv X pins σ (upd H s.heap.objs.size (.tup [.int (i:Nat),y])) { s with heap:=h'',toks:=tk+1 } :=
   I.step (g':=s.gens) (d':=s.drawn) (ch:=[e,it]) (fun b hb=>by
    have hb':b=e\/b=it:=by simpa using hb
    rcases hb' with rfl | rfl
    ·exact ⟨fe.2.2.2.1,fe.2.1,fe.2.2.2.2.1,fe.2.2.2.2.2⟩
    ·exact ⟨fi.2.2.2.1,fi.2.1,fi.2.2.2.2.1,fi.2.2.2.2.2⟩)
    (fun b o _ _ hc q _=>kp b o (mem2 b hc).1 (mem2 b hc).2 q) (fun b o _ _ hc q _=>⟨o.slots,kp b o (mem2 b hc).1 (mem2 b hc).2 q⟩)
    (fun b o _ q n=>by rw [ai (DO (DA q))];exact n) (fun b o hc q=>⟨o,kp b o (mem2 b hc).1 (mem2 b hc).2 q⟩)
    (fun b xs q=>by rw [ai (aj q hTn)];exact q) (fun b o u q=>by rw [ai (aj q hTn)];exact q) (fun b ps q=>⟨#[],by rw [ai (aj q hTn),q];simp⟩)
    (fun m hm=>by obtain ⟨o,es,ep,ho,r⟩:=hm;exact ⟨o,es,ep,kp _ o (Ne.symm fe.2.1) (Ne.symm fi.2.1) ho,r⟩) hok I.bare
  refine ⟨.ref s.heap.objs.size,_,I2,rfl,⟨_,y,rfl,hTn,rfl,fun ys hy=>by rw [I.seqA_inj hy hq];exact hx⟩,⟨⟨x,?_⟩,?_⟩,fun b hb=> ?_⟩
  ·have:((i+1:Nat):Int)=(i:Int)+1:=by push_cast;rfl
   rw [this];exact he'
  ·exact st'.1.at fun o q=>(hs'.2 it (Ne.symm hei)).trans q
  ·have hb':b=e\/b=it:=by simpa using hb
   rcases hb' with rfl | rfl
   ·rw [ai (DO hel)];exact fe.1
   ·rw [ai (DO hil')];exact fi.1
 done:=by
  intro X hP hw hK hc i pins s σ H E I hf st hg;subst hP hw hK;obtain ⟨xs,hq,hx⟩:=hg;obtain ⟨its,rv,p,hz⟩:=I.seqA hq;obtain ⟨⟨old,he⟩,hit⟩:=st;obtain ⟨f0,f1,f2,f3,f4,f5⟩:=hf it (by simp);have hl:=rv.length
  have hia:a≠it:=fun z=>by
   obtain ⟨o,ho,hc⟩:=p.obj;obtain ⟨o',ho',_,hc'⟩:=hit.obj;rw [z,ho'] at ho;cases ho
   rcases hc with hc | hc<;>rcases hc' with hc' | hc'<;>(rw [hc] at hc';exact absurd hc' (by decide))
  refine xn (I.ok.hd hc) he hit p (by simp;omega) fun h' eb=>⟨rfl,I.turned (t':=s.toks) (fun b o hb e=>eb b o hb e) f0 f1 f3 f4 f5⟩
 self:=fun _ _ _ _ _ st h=>by
  obtain ⟨⟨old,he⟩,_⟩:=st;exact wpAny_pyIter_enum he h
section
variable{X:Cx}
noncomputable def iEnumA(K:F2)(ta:TA):TI:=fun σ H R=>ta σ H fun vs H1=>∃ a c,vs=[.ref a]/\(∃ xs,SqA c K H1 a xs/\(xs.length<=sizeLine->R (IteA c K a) H1))
theorem yR{elts:List Expr}{k}{tpos:Pos}{l:Expr}{ta:TA}{p pos:Pos}(hg:Gl X "enumerate")(hm:X.mg "enumerate" = none)(ha:PA X [l] ta)(hs:starEach [l] X.env=[(false,eval l X.env)]:=by rfl) :
 PI X (.Tuple elts k tpos) (.Call (.Name "enumerate" p) [l] [] pos) (iEnumA X.K ta):=by
 intro pins s σ H R I h;refine Call_ (ja I hg hm boot_enumerate (PyProof.Rows.callWith_type1 (thn (ha pos pins s σ H _ I h) fun us s1 ⟨vs,H1,I1,r1,q1⟩=> ?_) hs rfl));obtain ⟨a,c,e,xs,hq,q⟩:=q1;subst e
 cases r1 with
 | cons r rr =>
  cases rr;cases r;obtain ⟨its,rv,p,hz⟩:=I1.seqA hq
  refine Al p fun h' he hit hsz hk=> ?_
  refine wpAny_pyIter_enum he ?_;refine ⟨s1.heap.objs.size+1,[s1.heap.objs.size+1,s1.heap.objs.size],_,_,H1,rfl,I1.kept (t':=s1.toks) hk,tY a _ s1.heap.objs.size (E7 (Fs _)),⟨⟨.none,he⟩,hit⟩,fun b hb=> ?_,q hz⟩
  have hb':b=s1.heap.objs.size+1\/b=s1.heap.objs.size:=by simpa using hb
  rcases hb' with rfl | rfl
  ·exact I1.fpOk (by omega) (I1.hok.fresh (by omega))
  ·exact I1.fpOk (DE _) (I1.hok.fresh (DE _))
end
noncomputable def ItzA(c1 c2:Kd)(K:F2)(a b:Addr):L2.It :=
 ⟨fun i H=>∃ xs ys x y,SqA c1 K H a xs/\SqA c2 K H b ys/\xs[i]?=some x/\ys[i]?=some y,fun i H x H'=>∃ p y z,x = .ref p/\H p=none/\H'=upd H p (.tup [y,z])/\(∀ xs,SqA c1 K H a xs->xs[i]?=some y)/\∀ ys,SqA c2 K H b ys->ys[i]?=some z,fun i H=>∃ xs,SqA c1 K H a xs/\xs.length<=i⟩
noncomputable def ZipStA(c1 c2:Kd)(a b z TI TO i1 i2:Addr)(i:Nat)(h:Heap):Prop:=IsZip h z TI TO .none/\IsPair h TI (.ref i1) (.ref i2)/\(∃ x y,IsPair h TO x y)/\ZpA.It c1 h i1 a i/\ZpA.It c2 h i2 b i
theorem wn{c1 c2:Kd}{P:Program}{w:World}{K:F2}{elts:List Expr}{k}{tpos:Pos}(a b z TI TO i1 i2:Addr)(ap:ZipApart z TI TO i1 i2 a b) :
 xV P w K (.Tuple elts k tpos) (ItzA c1 c2 K a b) [z,TI,TO,i1,i2] z (ZipStA c1 c2 a b z TI TO i1 i2) where
 mem:=by simp
 obj:=fun i h st c hc=>by
  obtain ⟨hz,hTI,⟨x,y,hTO⟩,j1,j2⟩:=st;obtain ⟨o1,ho1,⟨v1,hd1⟩,hc1⟩:=j1.obj;obtain ⟨o2,ho2,⟨v2,hd2⟩,hc2⟩:=j2.obj
  have hc':c=z\/c=TI\/c=TO\/c=i1\/c=i2:=by simpa using hc
  rcases hc' with rfl | rfl | rfl | rfl | rfl
  ·exact ⟨_,hz,fun v q=>by have q':Data.fields _=Data.cell v:=q;cases q'⟩
  ·exact ⟨_,hTI,fun v q=>by have q':Data.seq _ _=Data.cell v:=q;cases q'⟩
  ·exact ⟨_,hTO,fun v q=>by have q':Data.seq _ _=Data.cell v:=q;cases q'⟩
  ·exact ⟨o1,ho1,fun v q=>by rw [hd1] at q;cases q⟩
  ·exact ⟨o2,ho2,fun v q=>by rw [hd2] at q;cases q⟩
 keep:=fun i h h' st k=>by
  obtain ⟨hz,hTI,⟨x,y,hTO⟩,h1,h2⟩:=st;exact ⟨k z (by simp) _ hz,k TI (by simp) _ hTI,⟨x,y,k TO (by simp) _ hTO⟩,h1.at fun o q=>k i1 (by simp) o q,h2.at fun o q=>k i2 (by simp) o q⟩
 item:=by
  intro X hP hw hK hc i pins s σ H E I hf st hg;subst hP hw hK;obtain ⟨xs,ys,y,y',hq,hq',hx,hx'⟩:=hg;obtain ⟨its,rv,p,hz'⟩:=I.seqA hq;obtain ⟨its',rv',p',hz''⟩:=I.seqA hq';obtain ⟨u,hu,ru⟩:=rv.get hx;obtain ⟨u',hu',ru'⟩:=rv'.get hx';obtain ⟨hz,hTI,⟨x0,y0,hTO⟩,h1,h2⟩:=st
  have hn:∀ c,c∈[z,TI,TO,i1,i2]->H c=none:=fun c hc=>(hf c hc).1
  have hTn:H s.heap.objs.size=none:=I.hok.fresh (DE _)
  refine ZpA.xW ap hz hTI hTO h1 h2 p p' (x:=u) (y:=u') (by simpa using hu) (by simpa using hu') fun h' z' to' i1' i2' pT ks=>⟨_,rfl,wpAny_letOwnedTupleGo_zip z' fun h'' zz hs=> ?_⟩
  replace hs:Heap.SameBut z h' h'':=hs
  have lz:z < s.heap.objs.size:=DA hz;have lTI:TI < s.heap.objs.size:=DA hTI;have lTO:TO < s.heap.objs.size:=DA hTO
  have li1:i1 < s.heap.objs.size:=by obtain ⟨o,ho,_⟩:=h1.obj;exact DA ho
  have li2:i2 < s.heap.objs.size:=by obtain ⟨o,ho,_⟩:=h2.obj;exact DA ho
  have kp:∀ c o,c≠z->c≠TO->c≠i1->c≠i2->s.heap.get? c=some o->h''.get? c=some o:=fun c o n1 n2 n3 n4 q=>(hs.2 c n1).trans (ks c o n1 n2 n3 n4 q)
  have hT2:IsPair h'' s.heap.objs.size u u':=(hs.2 _ (E7 lz)).trans pT
  have nt:∀ c o,H c=some o->c≠z/\c≠TO/\c≠i1/\c≠i2:=fun c o q=>⟨fun e=>(by rw [e,hn z (by simp)] at q;cases q),fun e=>(by rw [e,hn TO (by simp)] at q;cases q),fun e=>(by rw [e,hn i1 (by simp)] at q;cases q),fun e=>(by rw [e,hn i2 (by simp)] at q;cases q)⟩
  have kp':∀ c o u,H c=some u->s.heap.get? c=some o->h''.get? c=some o:=fun c o u q q'=>by
   obtain ⟨n1,n2,n3,n4⟩:=nt c u q;exact kp c o n1 n2 n3 n4 q'
  have hok:HOk X.prog X.w (upd H s.heap.objs.size (.tup [y,y'])) h'':=fun c ob q=>by
   by_cases hb:c=s.heap.objs.size
   ·subst hb
    rw [av] at q;cases q;exact ⟨by show 2<=sizeLine;decide,[u,u'],.cons ru (.cons ru' .nil),pN hT2⟩
   ·rw [ai hb] at q
    refine (I.hok c ob q).stay (fun e v he q'=> ?_) (fun e q'=>by rw [ai (aj q' hTn)];exact q') fun e xs q'=>by rw [ai (aj q' hTn)];exact q'
    rcases he with rfl | he
    ·exact kp' _ _ _ q q'
    ·exact kp' _ _ _ he q'
  have mem4:∀ c,c∉[z,TO,i1,i2]->c≠z/\c≠TO/\c≠i1/\c≠i2:=fun c hc=>by
   have:=hc;simp at this;exact this
  have I2:Inv X pins σ (upd H s.heap.objs.size (.tup [y,y'])) { s with heap:=h'' } :=
   I.step (g':=s.gens) (d':=s.drawn) (t':=s.toks) (ch:=[z,TO,i1,i2]) (fun c hc=>by
    have hc':c∈[z,TI,TO,i1,i2]:=by simp at hc ⊢;rcases hc with e | e | e | e<;>simp [e]
    have f:=hf c hc'
    exact ⟨f.2.2.2.1,f.2.1,f.2.2.2.2.1,f.2.2.2.2.2⟩)
    (fun c o _ _ hc q _=>by obtain ⟨n1,n2,n3,n4⟩:=mem4 c hc;exact kp c o n1 n2 n3 n4 q) (fun c o _ _ hc q _=>by obtain ⟨n1,n2,n3,n4⟩:=mem4 c hc;exact ⟨o.slots,kp c o n1 n2 n3 n4 q⟩)
    (fun c o _ q n=>by rw [ai (DO (DA q))];exact n) (fun c o hc q=>by obtain ⟨n1,n2,n3,n4⟩:=mem4 c hc;exact ⟨o,kp c o n1 n2 n3 n4 q⟩)
    (fun c xs q=>by rw [ai (aj q hTn)];exact q) (fun c o u q=>by rw [ai (aj q hTn)];exact q) (fun c ps q=>⟨#[],by rw [ai (aj q hTn),q];simp⟩)
    (fun m hm=>by obtain ⟨o,es,ep,ho,r⟩:=hm;exact ⟨o,es,ep,kp _ o (Ne.symm (hf z (by simp)).2.1) (Ne.symm (hf TO (by simp)).2.1) (Ne.symm (hf i1 (by simp)).2.1) (Ne.symm (hf i2 (by simp)).2.1) ho,r⟩) hok I.bare
  refine ⟨.ref s.heap.objs.size,_,I2,rfl,⟨_,y,y',rfl,hTn,rfl,fun zs hy=>by rw [I.seqA_inj hy hq];exact hx,fun zs hy=>by rw [I.seqA_inj hy hq'];exact hx'⟩,⟨zz,?_,⟨u,u',?_⟩,?_,?_⟩,fun c hc=> ?_⟩
  ·exact kp TI _ ap.TIz ap.TITO ap.TIi1 ap.TIi2 hTI
  ·exact (hs.2 TO ap.TOz).trans to'
  ·exact i1'.at fun o q=>(hs.2 i1 ap.i1z).trans q
  ·exact i2'.at fun o q=>(hs.2 i2 ap.i2z).trans q
  ·have hc':c=z\/c=TI\/c=TO\/c=i1\/c=i2:=by simpa using hc
   have lc:c < s.heap.objs.size:=by rcases hc' with rfl | rfl | rfl | rfl | rfl<;>assumption
   rw [ai (DO lc)];exact hn c hc
 done:=by
  intro X hP hw hK hc i pins s σ H E I hf st hg;subst hP hw hK;obtain ⟨xs,hq,hx⟩:=hg;obtain ⟨its,rv,p,hz'⟩:=I.seqA hq;obtain ⟨hz,hTI,⟨x0,y0,hTO⟩,h1,h2⟩:=st;have hl:=rv.length
  have hn:∀ c,c∈[z,TI,TO,i1,i2]->H c=none:=fun c hc=>(hf c hc).1
  refine ZpA.AN (I.ok.hd hc) ap hz hTI hTO h1 p (by simp;omega) fun h' ks=>⟨rfl,?_⟩
  have nt:∀ c o,H c=some o->c≠z/\c≠i1:=fun c o q=>⟨fun e=>(by rw [e,hn z (by simp)] at q;cases q),fun e=>(by rw [e,hn i1 (by simp)] at q;cases q)⟩
  have kp':∀ c o u,H c=some u->s.heap.get? c=some o->h'.get? c=some o:=fun c o u q q'=>by
   obtain ⟨n1,n3⟩:=nt c u q;exact ks c o n1 n3 q'
  have hok:HOk X.prog X.w H h':=fun c ob q=>by
   refine (I.hok c ob q).stay (fun e v he q'=> ?_) (fun e q'=>q') fun e xs q'=>q'
   rcases he with rfl | he
   ·exact kp' _ _ _ q q'
   ·exact kp' _ _ _ he q'
  have mem2:∀ c,c∉[z,i1]->c≠z/\c≠i1:=fun c hc=>by
   have:=hc;simp at this;exact this
  exact I.step (g':=s.gens) (d':=s.drawn) (t':=s.toks) (ch:=[z,i1]) (fun c hc=>by
   have hc':c∈[z,TI,TO,i1,i2]:=by simp at hc ⊢;rcases hc with e | e<;>simp [e]
   have f:=hf c hc'
   exact ⟨f.2.2.2.1,f.2.1,f.2.2.2.2.1,f.2.2.2.2.2⟩)
   (fun c o _ _ hc q _=>by obtain ⟨n1,n3⟩:=mem2 c hc;exact ks c o n1 n3 q) (fun c o _ _ hc q _=>by obtain ⟨n1,n3⟩:=mem2 c hc;exact ⟨o.slots,ks c o n1 n3 q⟩)
   (fun c o _ q n=>n) (fun c o hc q=>by obtain ⟨n1,n3⟩:=mem2 c hc;exact ⟨o,ks c o n1 n3 q⟩)
   (fun c xs q=>q) (fun c o u q=>q) (fun c ps q=>⟨#[],by rw [q];simp⟩)
   (fun m hm=>by obtain ⟨o,es,ep,ho,r⟩:=hm;exact ⟨o,es,ep,ks _ o (Ne.symm (hf z (by simp)).2.1) (Ne.symm (hf i1 (by simp)).2.1) ho,r⟩) hok I.bare
 self:=fun _ _ _ _ _ st h=>wpAny_pyIter_zip st.1 h
section
variable{X:Cx}
noncomputable def iZipA(K:F2)(ta:TA):TI:=fun σ H R=>ta σ H fun vs H1=>∃ a b c1 c2,vs=[.ref a,.ref b]/\(∃ xs,SqA c1 K H1 a xs/\(xs.length<=sizeLine->(∃ ys,SqA c2 K H1 b ys)/\R (ItzA c1 c2 K a b) H1))
theorem BE{elts:List Expr}{k}{tpos:Pos}{l l':Expr}{ta:TA}{p pos:Pos}(hg:Gl X "zip")(hm:X.mg "zip" = none)(ha:PA X [l,l'] ta)(hs:starEach [l,l'] X.env=[(false,eval l X.env),(false,eval l' X.env)]:=by rfl)(hs2:starEach [l'] X.env=[(false,eval l' X.env)]:=by rfl) :
 PI X (.Tuple elts k tpos) (.Call (.Name "zip" p) [l,l'] [] pos) (iZipA X.K ta):=by
 intro pins s σ H R I h;refine Call_ (ja I hg hm boot_zip (PyProof.Rows.callWith_type1 (thn (ha pos pins s σ H _ I h) fun us s1 ⟨vs,H1,I1,r1,q1⟩=> ?_) (by rw [hs,hs2]) (by rw [hs2];rfl)));obtain ⟨a,b,c1,c2,e,xs,hq,q⟩:=q1;subst e;obtain ⟨u,u',rfl,ru,ru'⟩:=qT r1;cases ru;cases ru';obtain ⟨its,rv,p,hz⟩:=I1.seqA hq;obtain ⟨⟨ys,hq'⟩,q⟩:=q hz;obtain ⟨its',rv',p',hz'⟩:=I1.seqA hq'
 have la:a < s1.heap.objs.size:=by obtain ⟨o,ho,_⟩:=p.obj;exact DA ho
 have lb:b < s1.heap.objs.size:=by obtain ⟨o,ho,_⟩:=p'.obj;exact DA ho
 refine ZpA.nN p p' fun h' hz hTI hTO h1 h2 hk=> ?_
 refine wpAny_pyIter_zip hz ?_;refine ⟨s1.heap.objs.size+4,[s1.heap.objs.size+4,s1.heap.objs.size+2,s1.heap.objs.size+3,s1.heap.objs.size,s1.heap.objs.size+1],_,_,H1,rfl,I1.kept (t':=s1.toks) hk,wn a b _ _ _ _ _ (zipApart_new la lb),⟨hz,hTI,⟨_,_,hTO⟩,h1,h2⟩,fun c hc=> ?_,q⟩
 have hc':c=s1.heap.objs.size+4\/c=s1.heap.objs.size+2\/c=s1.heap.objs.size+3\/c=s1.heap.objs.size\/c=s1.heap.objs.size+1:=by simpa using hc
 have lc:s1.heap.objs.size<=c:=by
  rcases hc' with rfl | rfl | rfl | rfl | rfl
  ·exact FN _ _
  ·exact FN _ _
  ·exact FN _ _
  ·exact DE _
  ·exact FN _ _
 exact I1.fpOk lc (I1.hok.fresh lc)
end
end L2
namespace L2
open PySem PySem.Spec PyProof.Rows
inductive D where
 | non | bl (b:Bool) | int (i:Int) | str (x:Str) | tup (l:List D) | lst (l:List D) | ktup (l:List D) | klst (l:List D)
 | dK (ks:List Key) (vs:List D) | dT (ks:List (List Key)) (vs:List D) | set (l:List Int) | rng (lo hi:Int) | exc (C:Str)
def qE(K:F2)(nm:Str)(C:Addr):Prop:=PySem.W.nsIn K mainGlobals nm=some (some (.ref C))
mutual
noncomputable def ay(K:F2)(H:Hp):D->V->Prop
 | .non,v=>v = .non
 | .bl b,v=>v = .bl b
 | .int i,v=>v = .int i
 | .str x,v=>v = .str x
 | .tup ds,v=>∃ p xs,v = .ref p/\H p=some (.tup xs)/\ah K H ds xs
 | .lst ds,v=>∃ p xs,v = .ref p/\H p=some (.lst xs)/\ah K H ds xs
 | .klst ds,v=>∃ p xs,v = .ref p/\SqL K H p xs/\ah K H ds xs
 | .ktup ds,v=>∃ p xs,v = .ref p/\SqT K (fun _=>none) p xs/\ah K H ds xs
 | .dK ks ds,v=>∃ p xs,v = .ref p/\H p=some (.dK (ks.zip xs))/\ks.length=xs.length/\ah K H ds xs
 | .dT ks ds,v=>∃ p xs,v = .ref p/\H p=some (.dT (ks.zip xs))/\ks.length=xs.length/\ah K H ds xs
 | .set l,v=>∃ p S,v = .ref p/\H p=some (.set S l.length)/\∀ x,S x=true↔x∈l
 | .rng lo hi,v=>∃ p,v = .ref p/\H p=some (.rng lo hi)
 | .exc nm,v=>∃ p C,v = .ref p/\qE K nm C/\H p=some (excO p C)
noncomputable def ah(K:F2)(H:Hp):List D->List V->Prop
 | [],[]=>True
 | d::ds,x::xs=>ay K H d x/\ah K H ds xs
 | _,_=>False
end
mutual
theorem ac.repD{K:F2}{H H':Hp}(e:ac H H'):∀ {d:D} {v:V},ay K H d v->ay K H' d v
 | .non,_,h=>h
 | .bl _,_,h=>h
 | .int _,_,h=>h
 | .str _,_,h=>h
 | .tup _,_,⟨p,xs,h1,h2,h3⟩=>⟨p,xs,h1,e _ _ h2,e.repDs h3⟩
 | .lst _,_,⟨p,xs,h1,h2,h3⟩=>⟨p,xs,h1,e _ _ h2,e.repDs h3⟩
 | .klst _,_,⟨p,xs,h1,h2,h3⟩=>⟨p,xs,h1,e.seq h2,e.repDs h3⟩
 | .ktup _,_,⟨p,xs,h1,h2,h3⟩=>⟨p,xs,h1,h2,e.repDs h3⟩
 | .dK _ _,_,⟨p,xs,h1,h2,h3,h4⟩=>⟨p,xs,h1,e _ _ h2,h3,e.repDs h4⟩
 | .dT _ _,_,⟨p,xs,h1,h2,h3,h4⟩=>⟨p,xs,h1,e _ _ h2,h3,e.repDs h4⟩
 | .set _,_,⟨p,S,h1,h2,h3⟩=>⟨p,S,h1,e _ _ h2,h3⟩
 | .rng _ _,_,⟨p,h1,h2⟩=>⟨p,h1,e _ _ h2⟩
 | .exc _,_,⟨p,C,h1,h2,h3⟩=>⟨p,C,h1,h2,e _ _ h3⟩
theorem ac.repDs{K:F2}{H H':Hp}(e:ac H H'):∀ {ds:List D} {xs:List V},ah K H ds xs->ah K H' ds xs
 | [],[],_=>trivial
 | _::_,_::_,h=>⟨e.repD h.1,e.repDs h.2⟩
 | [],_::_,h=>h.elim
 | _::_,[],h=>h.elim
end
theorem ah.len{K:F2}{H:Hp}:∀ {ds:List D} {xs:List V},ah K H ds xs->ds.length=xs.length
 | [],[],_=>rfl
 | _::_,_::_,h=>by rw [Dq,Dq,ah.len h.2]
 | [],_::_,h=>h.elim
 | _::_,[],h=>h.elim
theorem ah.get{K:F2}{H:Hp}:∀ {ds:List D} {xs:List V} {i:Nat} {d:D},ah K H ds xs->ds[i]?=some d->∃ x,xs[i]?=some x/\ay K H d x
 | _::_,x::_,0,d,h,e=>⟨x,rfl,by have:_=d:=Option.some.inj e;rw [<- this];exact h.1⟩
 | _::_,_::_,i+1,d,h,e=>ah.get (i:=i) h.2 (by simpa using e)
 | [],[],_,_,_,e=>by simp at e
 | [],_::_,_,_,h,_=>h.elim
 | _::_,[],_,_,h,_=>h.elim
theorem ah.get'{K:F2}{H:Hp}{ds:List D}{xs:List V}{i:Nat}{x:V}(h:ah K H ds xs)(e:xs[i]?=some x):∃ d,ds[i]?=some d/\ay K H d x:=by
 have hi:i < ds.length:=by rw [h.len];exact (DG.mp e).1
 obtain ⟨y,e2,r⟩:=h.get (Do hi);rw [e] at e2;cases e2;exact ⟨_,Do hi,r⟩
theorem ah.app{K:F2}{H:Hp}:∀ {ds es:List D} {xs ys:List V},ah K H ds xs->ah K H es ys->ah K H (ds++es) (xs++ys)
 | [],_,[],_,_,h=>h
 | _::_,_,_::_,_,g,h=>⟨g.1,ah.app g.2 h⟩
 | [],_,_::_,_,g,_=>g.elim
 | _::_,_,[],_,g,_=>g.elim
theorem ah.take{K:F2}{H:Hp}:∀ {ds:List D} {xs:List V} (n:Nat),ah K H ds xs->ah K H (ds.take n) (xs.take n)
 | [],[],n,_=>by simp;exact trivial
 | _::_,_::_,0,_=>trivial
 | _::_,_::_,n+1,h=>⟨h.1,ah.take n h.2⟩
 | [],_::_,_,h=>h.elim
 | _::_,[],_,h=>h.elim
theorem ah.drop{K:F2}{H:Hp}:∀ {ds:List D} {xs:List V} (n:Nat),ah K H ds xs->ah K H (ds.drop n) (xs.drop n)
 | [],[],n,_=>by simp;exact trivial
 | _::_,_::_,0,h=>h
 | _::_,_::_,n+1,h=>ah.drop n h.2
 | [],_::_,_,h=>h.elim
 | _::_,[],_,h=>h.elim
theorem ah.set{K:F2}{H:Hp}{d:D}{x:V}(r:ay K H d x):∀ {ds:List D} {xs:List V} (n:Nat),ah K H ds xs->ah K H (ds.set n d) (xs.set n x)
 | [],[],n,_=>by simp;exact trivial
 | _::_,_::_,0,h=>⟨r,h.2⟩
 | _::_,_::_,n+1,h=>⟨h.1,ah.set r n h.2⟩
 | [],_::_,_,h=>h.elim
 | _::_,[],_,h=>h.elim
theorem di{K:F2}{H:Hp}:∀ (ns:List Int),ah K H (ns.map D.int) (ns.map V.int)
 | []=>trivial
 | _::ns=>⟨rfl,di ns⟩
theorem aN{K:F2}{H:Hp}:∀ {ns:List Int} {xs:List V},ah K H (ns.map D.int) xs->xs=ns.map V.int
 | [],[],_=>rfl
 | _::_,_::_,h=>by rw [h.1,aN h.2];rfl
 | [],_::_,h=>h.elim
 | _::_,[],h=>h.elim
theorem pA{K:F2}{H:Hp}:∀ {ns:List Bool} {xs:List V},ah K H (ns.map D.bl) xs->xs=ns.map V.bl
 | [],[],_=>rfl
 | _::_,_::_,h=>by rw [h.1,pA h.2];rfl
 | [],_::_,h=>h.elim
 | _::_,[],h=>h.elim
def hid(L:List Addr)(H:Hp):Hp:=fun a=>if a∈L then none else H a
theorem am{L:List Addr}{H:Hp}{b:Addr}{o:HO}(h:hid L H b=some o):b∉L/\H b=some o:=by
 unfold hid at h
 split at h
 ·cases h
 ·exact ⟨‹_›,h⟩
theorem aE{L:List Addr}{H:Hp}{b:Addr}(h:b∉L):hid L H b=H b:=if_neg h
theorem aR{L L':List Addr}{H H':Hp}(hL:∀ b,b∈L'->b∈L\/H b=none)(h:∀ b o,b∉L->H b=some o->H' b=some o):ac (hid L H) (hid L' H'):=fun b o e=>by
 obtain ⟨h1,h2⟩:=am e;rw [aE (fun z=>(hL b z).elim h1 fun n=>by rw [n] at h2;cases h2)];exact h b o h1 h2
theorem au{L:List Addr}{H:Hp}:ac (hid L H) H:=fun b o e=>(am e).2
theorem vW{L:List Addr}{H:Hp}{p:Addr}{o:HO}(h:p∈L):hid L (upd H p o)=hid L H:=by
 funext b
 unfold hid
 split
 ·rfl
 ·rw [ai (fun z=>by subst z;exact absurd h ‹_›)]
inductive Md where
 | fz | ow | io
 deriving DecidableEq
abbrev Rho:=List (Option (D×Md))
structure Fx where
 Z:List Addr
 io:Nat->Option Addr
noncomputable def aF(K:F2)(H Hh:Hp)(p:Addr):D->Prop
 | .lst ds=>∃ xs,H p=some (.lst xs)/\ah K Hh ds xs
 | .dK ks ds=>∃ xs,H p=some (.dK (ks.zip xs))/\ks.length=xs.length/\ah K Hh ds xs
 | .dT ks ds=>∃ xs,H p=some (.dT (ks.zip xs))/\ks.length=xs.length/\ah K Hh ds xs
 | _=>False
def fE:Option HO->Prop
 | some (.lst _)=>True
 | some (.dK _)=>True
 | some (.dT _)=>True
 | _=>False
theorem aF.mu{K:F2}{H Hh:Hp}{p:Addr}{d:D}(h:aF K H Hh p d):fE (H p):=by
 cases d<;>first | exact h.elim | (obtain ⟨xs,e,_⟩:=h;rw [e];trivial)
theorem aF.at{K:F2}{H H' Hh Hh':Hp}{p:Addr}{d:D}(h:aF K H Hh p d)(e:H' p=H p)(s:ac Hh Hh'):aF K H' Hh' p d:=by
 cases d<;>first
  | exact h.elim
  | (obtain ⟨xs,h1,h2,h3⟩:=h;exact ⟨xs,e.trans h1,h2,s.repDs h3⟩)
  | (obtain ⟨xs,h1,h2⟩:=h;exact ⟨xs,e.trans h1,s.repDs h2⟩)
theorem aF.rep{K:F2}{H Hh Hh':Hp}{p:Addr}{d:D}(h:aF K H Hh p d)(e:Hh' p=H p)(s:ac Hh Hh'):ay K Hh' d (.ref p):=by
 cases d<;>first
  | exact h.elim
  | (obtain ⟨xs,h1,h2,h3⟩:=h;exact ⟨p,xs,rfl,e.trans h1,h2,s.repDs h3⟩)
  | (obtain ⟨xs,h1,h2⟩:=h;exact ⟨p,xs,rfl,e.trans h1,s.repDs h2⟩)
noncomputable def ve(K:F2)(F:Fx)(H:Hp)(W:List Addr)(i:Nat)(d:D)(v:V):Md->Prop
 | .fz=>ay K (hid (W++F.Z) H) d v
 | .ow=>∃ p,v = .ref p/\p∈W/\aF K H (hid (W++F.Z) H) p d
 | .io=>∃ p,v = .ref p/\p∈W/\aF K H (hid (W++F.Z) H) p d/\F.io i=some p
structure Rel(K:F2)(F:Fx)(σ:St)(H:Hp)(ρ:Rho)(W:List Addr):Prop where
 slot:∀ (i:Nat) (d:D) (m:Md),ρ[i]?=some (some (d,m))->∃ v,σ[i]?=some (some v)/\ve K F H W i d v m
 apart:∀ (i j:Nat) (d e:D) (m n:Md) (p:Addr),ρ[i]?=some (some (d,m))->m ≠ .fz->ρ[j]?=some (some (e,n))->n ≠ .fz->σ[i]?=some (some (.ref p))->σ[j]?=some (some (.ref p))->i=j
 wz:∀ p∈W,p∉F.Z
 mt:∀ p∈W++F.Z,fE (H p)
 len:σ.length=ρ.length
structure Fr(W:List Addr)(H H':Hp):Prop where
 keep:∀ b o,b∉W->H b=some o->H' b=some o
 dom:∀ b,H' b=none->H b=none
theorem Fr.refl{W:List Addr}{H:Hp}:Fr W H H:=⟨fun _ _ _ h=>h,fun _ h=>h⟩
theorem ac.fr{W:List Addr}{H H':Hp}(e:ac H H'):Fr W H H':=⟨fun b o _ h=>e b o h,fun b h=>e.free h⟩
theorem Fr.trans{W W1:List Addr}{H H1 H2:Hp}(a:Fr W H H1)(b:Fr W1 H1 H2)(h:∀ p∈W1,p∈W\/H p=none):Fr W H H2 :=
 ⟨fun c o n e=>b.keep c o (fun z=>(h c z).elim n fun q=>by rw [q] at e;cases e) (a.keep c o n e),fun c e=>a.dom c (b.dom c e)⟩
theorem Fr.hid{W W' Z:List Addr}{H H':Hp}(f:Fr W H H')(s:∀ p∈W',p∈W\/H p=none):ac (L2.hid (W++Z) H) (L2.hid (W'++Z) H') :=
 aR (fun b hb=>by
  rcases DT.mp hb with q | q
  ·exact (s b q).imp (fun z=>Dz _ z) id
  ·exact .inl (Du _ q)) fun b o n e=>f.keep b o (fun z=>n (Dz _ z)) e
section
variable{K:F2}{F:Fx}{σ:St}{H H':Hp}{ρ:Rho}{W:List Addr}
theorem fE.some{o:Option HO}(h:fE o):∃ u,o=Option.some u:=by
 cases o with
 | none=>exact h.elim
 | some u=>exact ⟨u,rfl⟩
theorem Rel.same(R:Rel K F σ H ρ W)(e:ac H H'):Rel K F σ H' ρ W:=by
 have eq:∀ p,fE (H p)->H' p=H p:=fun p h=>by obtain ⟨u,q⟩:=h.some;rw [q];exact e _ _ q
 have sh:ac (hid (W++F.Z) H) (hid (W++F.Z) H'):=aR (fun b hb=> .inl hb) fun b o _ q=>e b o q
 refine ⟨fun i d m h=> ?_,R.apart,R.wz,fun p hp=>by rw [eq p (R.mt p hp)];exact R.mt p hp,R.len⟩;obtain ⟨v,h1,h2⟩:=R.slot i d m h;refine ⟨v,h1,?_⟩
 cases m with
 | fz=>exact sh.repD h2
 | ow=>obtain ⟨p,e1,e2,e3⟩:=h2;exact ⟨p,e1,e2,e3.at (eq p e3.mu) sh⟩
 | io=>obtain ⟨p,e1,e2,e3,e4⟩:=h2;exact ⟨p,e1,e2,e3.at (eq p e3.mu) sh,e4⟩
theorem Rel.fresh(R:Rel K F σ H ρ W){p:Addr}(h:H p=none):p∉W++F.Z:=fun z=>by
 have:=R.mt p z;rw [h] at this;exact this
theorem bn{α:Type}{l:List (Option α)}{i j:Nat}{o:Option α}{x:α}(h:(l.set i o)[j]?=some (some x)):(j=i/\o=some x)\/(j≠i/\l[j]?=some (some x)):=by
 by_cases e:j=i
 ·subst e
  rw [List.getElem?_set] at h
  split at h
  ·split at h
   ·exact .inl ⟨rfl,Option.some.inj h⟩
   ·cases h
  ·exact absurd rfl ‹_›
 ·rw [Ex (Ne.symm e)] at h
  exact .inr ⟨e,h⟩
theorem Rel.freeze(R:Rel K F σ H ρ W){i:Nat}{d:D}{p:Addr}(h:ρ[i]?=some (some (d,.ow)))(hp:σ[i]?=some (some (.ref p))) :
 Rel K F σ H (ρ.set i (some (d,.fz))) (W.filter fun a=>decide (a≠p))/\ay K (hid ((W.filter fun a=>decide (a≠p))++F.Z) H) d (.ref p):=by
 obtain ⟨v,hv,q,rfl,hq,hO⟩:=R.slot i d .ow h;rw [hp] at hv;cases hv
 have sub:∀ b,b∈W.filter (fun a=>decide (a≠p))->b∈W/\b≠p:=fun b hb=>by
  have:=Ey.mp hb;exact ⟨this.1,DI this.2⟩
 have sh:ac (hid (W++F.Z) H) (hid ((W.filter fun a=>decide (a≠p))++F.Z) H):=aR (fun b hb=>by
  rcases DT.mp hb with q | q
  ·exact .inl (Dz _ (sub b q).1)
  ·exact .inl (Du _ q)) fun b o _ e=>e
 have pn:p∉(W.filter fun a=>decide (a≠p))++F.Z:=fun z=>by
  rcases DT.mp z with q | q
  ·exact (sub p q).2 rfl
  ·exact R.wz p hq q
 have rep:ay K (hid ((W.filter fun a=>decide (a≠p))++F.Z) H) d (.ref p):=hO.rep (aE pn) sh;refine ⟨⟨fun j e m hj=> ?_,fun j k e f m n r h1 h2 h3 h4 h5 h6=> ?_,fun r hr=>R.wz r (sub r hr).1,fun r hr=> ?_,by rw [EC];exact R.len⟩,rep⟩
 ·rcases bn hj with ⟨rfl,e1⟩ | ⟨ne,e1⟩
  ·cases e1
   exact ⟨_,hp,rep⟩
  ·obtain ⟨v,g1,g2⟩:=R.slot j e m e1
   refine ⟨v,g1,?_⟩
   have other:∀ r,v = .ref r->m ≠ .fz->r≠p:=fun r er hm z=>by
    subst er z;exact ne (R.apart j i _ _ _ _ _ e1 hm h (by decide) g1 hp)
   cases m with
   | fz=>exact sh.repD g2
   | ow=>obtain ⟨r,e2,e3,e4⟩:=g2;exact ⟨r,e2,Ey.mpr ⟨e3,Dy (other r e2 (by decide))⟩,e4.at rfl sh⟩
   | io=>obtain ⟨r,e2,e3,e4,e5⟩:=g2;exact ⟨r,e2,Ey.mpr ⟨e3,Dy (other r e2 (by decide))⟩,e4.at rfl sh,e5⟩
 ·rcases bn h1 with ⟨rfl,z⟩ | ⟨_,z⟩
  ·cases z;exact absurd rfl h2
  ·rcases bn h3 with ⟨rfl,z'⟩ | ⟨_,z'⟩
   ·cases z';exact absurd rfl h4
   ·exact R.apart j k _ _ _ _ _ z h2 z' h4 h5 h6
 ·rcases DT.mp hr with q | q
  ·exact R.mt r (Dz _ (sub r q).1)
  ·exact R.mt r (Du _ q)
theorem Rel.write(R:Rel K F σ H ρ W){i:Nat}{d d':D}{m:Md}{p:Addr}{o:HO}(h:ρ[i]?=some (some (d,m)))(hm:m ≠ .fz)(hp:σ[i]?=some (some (.ref p)))(new:aF K (upd H p o) (hid (W++F.Z) H) p d') :
 Rel K F σ (upd H p o) (ρ.set i (some (d',m))) W/\Fr W H (upd H p o):=by
 obtain ⟨v,hv,hS⟩:=R.slot i d m h;rw [hp] at hv;cases hv
 have hw:p∈W:=by
  cases m with
  | fz=>exact absurd rfl hm
  | ow=>obtain ⟨r,e2,e3,_⟩:=hS;cases e2;exact e3
  | io=>obtain ⟨r,e2,e3,_⟩:=hS;cases e2;exact e3
 have hh:hid (W++F.Z) (upd H p o)=hid (W++F.Z) H:=vW (Dz _ hw);refine ⟨⟨fun j e n hj=> ?_,fun j k e f n n' r h1 h2 h3 h4 h5 h6=> ?_,R.wz,fun r hr=> ?_,by rw [EC];exact R.len⟩,fun b u nb e=> ?_,fun b e=> ?_⟩
 ·rcases bn hj with ⟨rfl,e1⟩ | ⟨ne,e1⟩
  ·cases e1
   refine ⟨_,hp,?_⟩
   cases m with
   | fz=>exact absurd rfl hm
   | ow=>exact ⟨p,rfl,hw,by rw [hh];exact new⟩
   | io=>obtain ⟨r,e2,e3,e4,e5⟩:=hS;cases e2;exact ⟨p,rfl,hw,by rw [hh];exact new,e5⟩
  ·obtain ⟨v,g1,g2⟩:=R.slot j e n e1
   refine ⟨v,g1,?_⟩
   have other:∀ r,v = .ref r->n ≠ .fz->r≠p:=fun r er hn z=>by
    subst er z;exact ne (R.apart j i _ _ _ _ _ e1 hn h hm g1 hp)
   cases n with
   | fz=>show ay K (hid (W++F.Z) (upd H p o)) e v;rw [hh];exact g2
   | ow=>obtain ⟨r,e2,e3,e4⟩:=g2;exact ⟨r,e2,e3,e4.at (ai (other r e2 (by decide))) (by rw [hh];exact ac.refl _)⟩
   | io=>obtain ⟨r,e2,e3,e4,e5⟩:=g2;exact ⟨r,e2,e3,e4.at (ai (other r e2 (by decide))) (by rw [hh];exact ac.refl _),e5⟩
 ·have fnd:∀ {j:Nat} {e:D} {n:Md},(ρ.set i (some (d',m)))[j]?=some (some (e,n))->n ≠ .fz->∃ e',ρ[j]?=some (some (e',n)):=fun {j e n} hj hn=>by
   rcases bn hj with ⟨rfl,e1⟩ | ⟨_,e1⟩
   ·cases e1;exact ⟨d,h⟩
   ·exact ⟨_,e1⟩
  obtain ⟨_,z1⟩:=fnd h1 h2;obtain ⟨_,z2⟩:=fnd h3 h4;exact R.apart j k _ _ _ _ _ z1 h2 z2 h4 h5 h6
 ·by_cases e:r=p
  ·subst e;exact new.mu
  ·rw [ai e];exact R.mt r hr
 ·rw [ai (fun z=>by subst z;exact nb hw)];exact e
 ·by_cases z:b=p
  ·subst z;rw [av] at e;cases e
  ·rw [ai z] at e;exact e
theorem Rel.put(R:Rel K F σ H ρ W){i:Nat}{d:D}{v:V}(hi:i < σ.length)(r:ay K (hid (W++F.Z) H) d v):Rel K F (σ.set i (some v)) H (ρ.set i (some (d,.fz))) W:=by
 refine ⟨fun j e m hj=> ?_,fun j k e f m n p h1 h2 h3 h4 h5 h6=> ?_,R.wz,R.mt,by rw [EC,EC];exact R.len⟩
 ·rcases bn hj with ⟨rfl,e1⟩ | ⟨ne,e1⟩
  ·cases e1
   exact ⟨v,EV hi,r⟩
  ·obtain ⟨v',g1,g2⟩:=R.slot j e m e1
   exact ⟨v',by rw [Ex (Ne.symm ne)];exact g1,g2⟩
 ·rcases bn h1 with ⟨rfl,z⟩ | ⟨n1,z⟩
  ·cases z;exact absurd rfl h2
  ·rcases bn h3 with ⟨rfl,z'⟩ | ⟨n2,z'⟩
   ·cases z';exact absurd rfl h4
   ·rw [Ex (Ne.symm n1)] at h5
    rw [Ex (Ne.symm n2)] at h6;exact R.apart j k _ _ _ _ _ z h2 z' h4 h5 h6
theorem Rel.own{p:Addr}(R:Rel K F σ (hid [p] H) ρ W){i:Nat}{d:D}(hi:i < σ.length)(hp:p∉W++F.Z)(r:aF K H (hid (p::(W++F.Z)) H) p d):Rel K F (σ.set i (some (.ref p))) H (ρ.set i (some (d,.ow))) (p::W):=by
 have hh:hid (W++F.Z) (hid [p] H)=hid ((p::W)++F.Z) H:=by
  funext b
  unfold hid
  by_cases z:b=p
  ·subst z
   rw [if_neg hp];simp
  ·by_cases z2:b∈W++F.Z
   ·rw [if_pos z2,if_pos (by rw [Em];exact Dv _ z2)]
   ·rw [if_neg z2,if_neg (by simpa using z),if_neg (by rw [Em];exact fun q=>(Dx.mp q).elim z z2)]
 have neq:∀ r,r∈W++F.Z->hid [p] H r=H r:=fun r hr=>aE (by
  intro z
  have z:r=p:=by simpa using z
  subst z;exact hp hr)
 refine ⟨fun j e m hj=> ?_,fun j k e f m n q h1 h2 h3 h4 h5 h6=> ?_,fun q hq=> ?_,fun q hq=> ?_,by rw [EC,EC];exact R.len⟩
 ·rcases bn hj with ⟨rfl,e1⟩ | ⟨ne,e1⟩
  ·cases e1
   exact ⟨_,EV hi,p,rfl,DC,r⟩
  ·obtain ⟨v',g1,g2⟩:=R.slot j e m e1
   refine ⟨v',by rw [Ex (Ne.symm ne)];exact g1,?_⟩
   cases m with
   | fz=>show ay K (hid ((p::W)++F.Z) H) e v';rw [<- hh];exact g2
   | ow=>obtain ⟨r,e2,e3,e4⟩:=g2;exact ⟨r,e2,Dv _ e3,e4.at (neq r (Dz _ e3)).symm (by rw [hh];exact ac.refl _)⟩
   | io=>obtain ⟨r,e2,e3,e4,e5⟩:=g2;exact ⟨r,e2,Dv _ e3,e4.at (neq r (Dz _ e3)).symm (by rw [hh];exact ac.refl _),e5⟩
 ·have inW:∀ {j:Nat} {e:D} {m:Md},ρ[j]?=some (some (e,m))->m ≠ .fz->σ[j]?=some (some (.ref p))->False:=fun {j e m} h1 h2 h3=>by
   obtain ⟨v,g1,g2⟩:=R.slot j e m h1;rw [h3] at g1;cases g1
   cases m with
   | fz=>exact h2 rfl
   | ow=>obtain ⟨r,e2,e3,_⟩:=g2;cases e2;exact hp (Dz _ e3)
   | io=>obtain ⟨r,e2,e3,_⟩:=g2;cases e2;exact hp (Dz _ e3)
  rcases bn h1 with ⟨rfl,z⟩ | ⟨n1,z⟩
  ·rw [EV hi] at h5
   cases h5
   rcases bn h3 with ⟨rfl,z'⟩ | ⟨n2,z'⟩
   ·rfl
   ·rw [Ex (Ne.symm n2)] at h6
    exact (inW z' h4 h6).elim
  ·rw [Ex (Ne.symm n1)] at h5
   rcases bn h3 with ⟨rfl,z'⟩ | ⟨n2,z'⟩
   ·rw [EV hi] at h6
    cases h6;exact (inW z h2 h5).elim
   ·rw [Ex (Ne.symm n2)] at h6
    exact R.apart j k _ _ _ _ _ z h2 z' h4 h5 h6
 ·rcases Dx.mp hq with rfl | hq
  ·exact fun z=>hp (Du _ z)
  ·exact R.wz q hq
 ·rcases Dx.mp (show q∈p::(W++F.Z) from hq) with rfl | hq
  ·exact r.mu
  ·have:=R.mt q hq
   rw [neq q hq] at this;exact this
end
theorem PE.by{X:Cx}{e:Expr}{t t':TE}(h:PE X e t)(hi:∀ σ H Q,t' σ H Q->t σ H Q):PE X e t':=fun pins s σ H Q I hw=>h pins s σ H Q I (hi σ H Q hw)
theorem PT.by{X:Cx}{e:Expr}{t t':TT}(h:PT X e t)(hi:∀ σ H Q,t' σ H Q->t σ H Q):PT X e t':=fun pins s σ H Q I hw=>h pins s σ H Q I (hi σ H Q hw)
inductive Res where
 | ok (d:D) (nw:Bool) | ex (C:Str)
inductive qO where
 | ok (ds:List D) | ex (C:Str)
inductive AI where
 | ok (b:Bool) | ex (C:Str)
abbrev SE:=Rho->Option (Res×Rho)
abbrev ST:=Rho->Option (AI×Rho)
abbrev EXT:=Str->St->Hp->Prop
section
variable(K:F2)(F:Fx)(EX:EXT)(σ:St)(H:Hp)(W:List Addr)
noncomputable def gA(H':Hp)(ρ':Rho)(W':List Addr)(d:D):Bool->V->Prop
 | false,v=>ay K (hid (W'++F.Z) H') d v/\Rel K F σ H' ρ' W'
 | true,v=>∃ p,v = .ref p/\H p=none/\p∉W'++F.Z/\aF K H' (hid (p::(W'++F.Z)) H') p d/\Rel K F σ (hid [p] H') ρ' W'
noncomputable def OkV(o:Option (Res×Rho))(Q:VK):Prop:=match o with
 | some (.ok d nw,ρ')=>∀ v H' W',Fr W H H'->(∀ p∈W',p∈W)->gA K F σ H H' ρ' W' d nw v->Q v H'
 | some (.ex C,ρ')=>∀ H' W',Fr W H H'->(∀ p∈W',p∈W)->Rel K F σ H' ρ' W'->EX C σ H'
 | none=>False
noncomputable def OkT(o:Option (AI×Rho))(Q:Bool->Hp->Prop):Prop:=match o with
 | some (.ok b,ρ')=>∀ H' W',Fr W H H'->(∀ p∈W',p∈W)->Rel K F σ H' ρ' W'->Q b H'
 | some (.ex C,ρ')=>∀ H' W',Fr W H H'->(∀ p∈W',p∈W)->Rel K F σ H' ρ' W'->EX C σ H'
 | none=>False
end
def tV(K:F2)(EX:EXT)(f:SE):TE:=fun σ H Q=>∃ F ρ W,Rel K F σ H ρ W/\OkV K F EX σ H W (f ρ) Q
def tVT(K:F2)(EX:EXT)(f:ST):TT:=fun σ H Q=>∃ F ρ W,Rel K F σ H ρ W/\OkT K F EX σ H W (f ρ) Q
structure JE(X:Cx)(EX:EXT)(e:Expr)(f:SE):Prop where
 p:PE X e (tV X.K EX f)
structure JT(X:Cx)(EX:EXT)(e:Expr)(f:ST):Prop where
 p:PT X e (tVT X.K EX f)
structure JW(X:Cx)(EX:EXT)(e:Expr)(f:ST):Prop where
 p:PW X e (tVT X.K EX f)
inductive Arg where
 | ex (f:SE) | bor (i:Nat)
def tArg(K:F2)(EX:EXT):Arg->TE
 | .ex f=>tV K EX f
 | .bor i=>ye i
def tAs(K:F2)(EX:EXT):List Arg->TA
 | []=>tNil
 | a::as=>CL (tArg K EX a) (tAs K EX as)
structure JB(X:Cx)(EX:EXT)(e:Expr)(a:Arg):Prop where
 p:PE X e (tArg X.K EX a)
structure JA(X:Cx)(EX:EXT)(es:List Expr)(as:List Arg):Prop where
 p:PA X es (tAs X.K EX as)
noncomputable def evA:List Arg->Rho->Option (qO×Rho)
 | [],ρ=>some (.ok [],ρ)
 | .ex f::as,ρ=>match f ρ with
  | some (.ok d _,ρ1)=>match evA as ρ1 with
   | some (.ok ds,ρ2)=>some (.ok (d::ds),ρ2)
   | some (.ex C,ρ2)=>some (.ex C,ρ2)
   | none=>none
  | some (.ex C,ρ1)=>some (.ex C,ρ1)
  | none=>none
 | .bor i::as,ρ=>match ρ[i]? with
  | some (some _)=>match evA as ρ with
   | some (.ok ds,ρ2)=>match ρ2[i]? with
    | some (some (d,_))=>some (.ok (d::ds),ρ2)
    | _=>none
   | some (.ex C,ρ2)=>some (.ex C,ρ2)
   | none=>none
  | _=>none
noncomputable def gr(K:F2)(H Hh:Hp):D->V->Prop
 | .lst ds,v=>∃ p xs,v = .ref p/\H p=some (.lst xs)/\ah K Hh ds xs
 | .dK ks ds,v=>∃ p xs,v = .ref p/\H p=some (.dK (ks.zip xs))/\ks.length=xs.length/\ah K Hh ds xs
 | .dT ks ds,v=>∃ p xs,v = .ref p/\H p=some (.dT (ks.zip xs))/\ks.length=xs.length/\ah K Hh ds xs
 | d,v=>ay K Hh d v
noncomputable def lC(K:F2)(H Hh:Hp):List D->List V->Prop
 | [],[]=>True
 | d::ds,x::xs=>gr K H Hh d x/\lC K H Hh ds xs
 | _,_=>False
section
variable{K:F2}{F:Fx}{EX:EXT}{σ:St}{H H' Hh Hh':Hp}{ρ ρ':Rho}{W W':List Addr}
theorem ay.b{d:D}{v:V}(r:ay K Hh d v)(s:ac Hh H):gr K H Hh d v:=by
 cases d<;>first
  | exact r
  | (obtain ⟨p,xs,h1,h2,h3,h4⟩:=r;exact ⟨p,xs,h1,s _ _ h2,h3,h4⟩)
  | (obtain ⟨p,xs,h1,h2,h3⟩:=r;exact ⟨p,xs,h1,s _ _ h2,h3⟩)
theorem aF.b{p:Addr}{d:D}(h:aF K H Hh p d):gr K H Hh d (.ref p):=by
 cases d<;>first
  | exact h.elim
  | (obtain ⟨xs,h1,h2,h3⟩:=h;exact ⟨p,xs,rfl,h1,h2,h3⟩)
  | (obtain ⟨xs,h1,h2⟩:=h;exact ⟨p,xs,rfl,h1,h2⟩)
theorem gr.d{d:D}{v:V}(r:gr K H Hh d v)(s:ac Hh H):ay K H d v:=by
 cases d<;>first
  | exact s.repD r
  | (obtain ⟨p,xs,h1,h2,h3,h4⟩:=r;exact ⟨p,xs,h1,h2,h3,s.repDs h4⟩)
  | (obtain ⟨p,xs,h1,h2,h3⟩:=r;exact ⟨p,xs,h1,h2,s.repDs h3⟩)
theorem ve.b{i:Nat}{d:D}{v:V}{m:Md}(h:ve K F H W i d v m):gr K H (hid (W++F.Z) H) d v:=by
 cases m with
 | fz=>exact ay.b h au
 | ow=>obtain ⟨p,rfl,_,h⟩:=h;exact h.b
 | io=>obtain ⟨p,rfl,_,h,_⟩:=h;exact h.b
theorem gA.plain{H0:Hp}{d:D}{nw:Bool}{v:V}(h:gA K F σ H0 H ρ W d nw v):ay K (hid (W++F.Z) H) d v/\Rel K F σ H ρ W:=by
 cases nw with
 | false=>exact h
 | true =>
  obtain ⟨p,rfl,_,hp,hO,R⟩:=h;refine ⟨hO.rep (aE hp) (aR (fun b hb=> .inl (Dv _ hb)) fun b o _ e=>e),R.same au⟩
variable(K F EX) in
noncomputable def OkAs(σ:St)(H:Hp)(W:List Addr)(o:Option (qO×Rho))(Q:List V->Hp->Prop):Prop:=match o with
 | some (.ok ds,ρ')=>∀ vs H' W',Fr W H H'->(∀ p∈W',p∈W)->Rel K F σ H' ρ' W'->lC K H' (hid (W'++F.Z) H') ds vs->Q vs H'
 | some (.ex C,ρ')=>∀ H' W',Fr W H H'->(∀ p∈W',p∈W)->Rel K F σ H' ρ' W'->EX C σ H'
 | none=>False
theorem pK:∀ (as:List Arg) {H:Hp} {ρ:Rho} {W:List Addr} {Q:List V->Hp->Prop},Rel K F σ H ρ W->OkAs K F EX σ H W (evA as ρ) Q->tAs K EX as σ H Q
 | [],H,ρ,W,Q,R,h=>h [] H W .refl (fun _ z=>z) R trivial
 | .ex f::as,H,ρ,W,Q,R,h=>by
  refine ⟨F,ρ,W,R,?_⟩;unfold evA at h
  revert h
  cases f ρ with
  | none=>exact fun h=>h
  | some r =>
   obtain ⟨r,ρ1⟩:=r
   cases r with
   | ex C=>exact fun h=>h
   | ok d nw =>
    intro h v H1 W1 fr sub post;obtain ⟨rd,R1⟩:=post.plain;refine pK as R1 ?_
    revert h
    dsimp only
    cases evA as ρ1 with
    | none=>exact fun h=>h
    | some q =>
     obtain ⟨q,ρ2⟩:=q
     cases q with
     | ex C=>exact fun h H2 W2 fr2 sub2 R2=>h H2 W2 (fr.trans fr2 fun p hp=> .inl (sub p hp)) (fun p hp=>sub p (sub2 p hp)) R2
     | ok ds =>
      intro h vs H2 W2 fr2 sub2 R2 reps;exact h (v::vs) H2 W2 (fr.trans fr2 fun p hp=> .inl (sub p hp)) (fun p hp=>sub p (sub2 p hp)) R2 ⟨ay.b ((fr2.hid fun p hp=> .inl (sub2 p hp)).repD rd) au,reps⟩
 | .bor i::as,H,ρ,W,Q,R,h=>by
  unfold evA at h
  revert h
  cases e:ρ[i]? with
  | none=>exact fun h=>h.elim
  | some z =>
   cases z with
   | none=>exact fun h=>h.elim
   | some dm =>
    obtain ⟨d0,m0⟩:=dm;obtain ⟨v,hv,_⟩:=R.slot i d0 m0 e;intro h;refine ⟨v,hv,pK as R ?_⟩
    revert h
    dsimp only
    cases evA as ρ with
    | none=>exact fun h=>h
    | some q =>
     obtain ⟨q,ρ2⟩:=q
     cases q with
     | ex C=>exact fun h=>h
     | ok ds =>
      dsimp only
      cases e2:ρ2[i]? with
      | none=>exact fun h=>h.elim
      | some z =>
       cases z with
       | none=>exact fun h=>h.elim
       | some dm =>
        obtain ⟨d,m⟩:=dm;intro h vs H2 W2 fr2 sub2 R2 reps;obtain ⟨v2,hv2,ok2⟩:=R2.slot i d m e2;rw [hv] at hv2;cases hv2;exact h (v::vs) H2 W2 fr2 sub2 R2 ⟨ok2.b,reps⟩
variable(K F EX) in
noncomputable def OkFs(σ:St)(H:Hp)(W:List Addr)(o:Option (qO×Rho))(Q:List V->Hp->Prop):Prop:=match o with
 | some (.ok ds,ρ')=>∀ vs H' W',Fr W H H'->(∀ p∈W',p∈W)->Rel K F σ H' ρ' W'->ah K (hid (W'++F.Z) H') ds vs->Q vs H'
 | some (.ex C,ρ')=>∀ H' W',Fr W H H'->(∀ p∈W',p∈W)->Rel K F σ H' ρ' W'->EX C σ H'
 | none=>False
theorem ph:∀ (fs:List SE) {H:Hp} {ρ:Rho} {W:List Addr} {Q:List V->Hp->Prop},Rel K F σ H ρ W->OkFs K F EX σ H W (evA (fs.map Arg.ex) ρ) Q->tAs K EX (fs.map Arg.ex) σ H Q
 | [],H,ρ,W,Q,R,h=>h [] H W .refl (fun _ z=>z) R trivial
 | f::fs,H,ρ,W,Q,R,h=>by
  refine ⟨F,ρ,W,R,?_⟩;rw [DJ] at h;unfold evA at h
  revert h
  cases f ρ with
  | none=>exact fun h=>h
  | some r =>
   obtain ⟨r,ρ1⟩:=r
   cases r with
   | ex C=>exact fun h=>h
   | ok d nw =>
    intro h v H1 W1 fr sub post;obtain ⟨rd,R1⟩:=post.plain;refine ph fs R1 ?_
    revert h
    dsimp only
    cases evA (fs.map Arg.ex) ρ1 with
    | none=>exact fun h=>h
    | some q =>
     obtain ⟨q,ρ2⟩:=q
     cases q with
     | ex C=>exact fun h H2 W2 fr2 sub2 R2=>h H2 W2 (fr.trans fr2 fun p hp=> .inl (sub p hp)) (fun p hp=>sub p (sub2 p hp)) R2
     | ok ds =>
      intro h vs H2 W2 fr2 sub2 R2 reps;exact h (v::vs) H2 W2 (fr.trans fr2 fun p hp=> .inl (sub p hp)) (fun p hp=>sub p (sub2 p hp)) R2 ⟨(fr2.hid fun p hp=> .inl (sub2 p hp)).repD rd,reps⟩
end
noncomputable def h9(K:F2)(H H':Hp)(L:List Addr)(d:D):Bool->V->Prop
 | false,v=>ay K (hid L H') d v
 | true,v=>∃ p,v = .ref p/\H p=none/\aF K H' (hid (p::L) H') p d
noncomputable def OpS(K:F2)(r:List V->Hp->VK->Prop)(g:List D->Option (D×Bool)):Prop :=
 ∀ vs ds H L Q d nw,(∀ p∈L,fE (H p))->lC K H (hid L H) ds vs->g ds=some (d,nw)->(∀ v H',ac H H'->h9 K H H' L d nw v->Q v H')->r vs H Q
noncomputable def sOp(g:List D->Option (D×Bool))(as:List Arg):SE:=fun ρ=>match evA as ρ with
 | some (.ok ds,ρ')=>match g ds with
  | some (d,nw)=>some (.ok d nw,ρ')
  | none=>none
 | some (.ex C,ρ')=>some (.ex C,ρ')
 | none=>none
section
variable{K:F2}{F:Fx}{EX:EXT}{σ:St}{H H':Hp}{ρ ρ':Rho}{W W':List Addr}{Q:VK}
theorem h9.e{d:D}{nw:Bool}{v:V}(h:h9 K H H' (W++F.Z) d nw v)(R:Rel K F σ H ρ W)(s:ac H H'):gA K F σ H H' ρ W d nw v:=by
 cases nw with
 | false=>exact ⟨h,R.same s⟩
 | true =>
  obtain ⟨p,rfl,hp,hO⟩:=h;refine ⟨p,rfl,hp,R.fresh hp,hO,R.same fun b o e=> ?_⟩
  rw [aE (by intro z;have z:b=p:=by simpa using z
             subst z;rw [hp] at e;cases e)]
  exact s b o e
theorem gA.back{H0:Hp}{d:D}{nw:Bool}{v:V}(h:gA K F σ H H' ρ W d nw v)(fr:∀ b,H b=none->H0 b=none):gA K F σ H0 H' ρ W d nw v:=by
 cases nw with
 | false=>exact h
 | true=>obtain ⟨p,h1,h2,h3⟩:=h;exact ⟨p,h1,fr p h2,h3⟩
theorem cK{r:List V->Hp->VK->Prop}{g:List D->Option (D×Bool)}{as:List Arg}(hs:OpS K r g)(R:Rel K F σ H ρ W)(h:OkV K F EX σ H W (sOp g as ρ) Q):tAs K EX as σ H (fun vs H2=>r vs H2 Q):=by
 refine pK as R ?_;unfold sOp at h
 revert h
 cases evA as ρ with
 | none=>exact fun h=>h
 | some q =>
  obtain ⟨q,ρ2⟩:=q
  cases q with
  | ex C=>exact fun h=>h
  | ok ds =>
   dsimp only
   cases e:g ds with
   | none=>exact fun h=>h.elim
   | some z =>
    obtain ⟨d,nw⟩:=z;intro h vs H2 W2 fr2 sub2 R2 reps
    exact hs vs ds H2 (W2++F.Z) Q d nw R2.mt reps e fun v H3 s3 post=>h v H3 W2 (fr2.trans (s3.fr (W:=W2)) fun p hp=> .inl (sub2 p hp)) sub2 ((post.e R2 s3).back fr2.dom)
end
def r2(r:R2):List V->Hp->VK->Prop
 | [x,y],H,Q=>r x y H Q
 | _,_,_=>False
def r1(r:V->Hp->VK->Prop):List V->Hp->VK->Prop
 | [x],H,Q=>r x H Q
 | _,_,_=>False
section
variable{X:Cx}{EX:EXT}{a b e:Expr}{es:List Expr}{pos:Pos}{x y:Arg}{as:List Arg}
theorem ca_nil:JA X EX [] []:=⟨fA⟩
theorem Cr(h:JB X EX e x)(t:JA X EX es as)(hs:starEach (e::es) X.env=(false,eval e X.env)::starEach es X.env:=by rfl):JA X EX (e::es) (x::as):=⟨dw h.p t.p hs⟩
theorem cb_ex{f:SE}(h:JE X EX e f):JB X EX e (.ex f):=⟨h.p⟩
theorem cb_var{i:Nat}{n:Str}(hN:X.N[i]?=some n)(hv:Vis X.env.scope n)(hd:(n == ("__debug__" : Str))=false:=by decide)(hcd:(n == ("__classdict__" : Str))=false:=by decide):JB X EX (.Name n pos) (.bor i):=⟨gN hN hv hd hcd⟩
def sC(d:D):SE:=fun ρ=>some (.ok d false,ρ)
theorem oP{v:V}{d:D}(h:∀ H,ay X.K H d v){σ:St}{H:Hp}{Q:VK}(hw:tV X.K EX (sC d) σ H Q):tC v σ H Q:=by
 obtain ⟨F,ρ,W,R,h2⟩:=hw;exact h2 v H W .refl (fun _ z=>z) ⟨h _,R⟩
theorem c_int{i:Int}{j pos}:JE X EX (.Constant (.int i) j pos) (sC (.int i)):=⟨mM.by fun _ _ _=>oP (d:=(.int i)) (v:=(.int i)) fun _=>rfl⟩
theorem c_bl{i:Bool}{j pos}:JE X EX (.Constant (.bool i) j pos) (sC (.bl i)):=⟨pe_bl.by fun _ _ _=>oP (d:=(.bl i)) (v:=(.bl i)) fun _=>rfl⟩
theorem c_non{j pos}:JE X EX (.Constant .none j pos) (sC .non):=⟨pe_non.by fun _ _ _=>oP (d:= .non) (v:= .non) fun _=>rfl⟩
theorem c_str{i:Str}{j pos}:JE X EX (.Constant (.str i) j pos) (sC (.str i)):=⟨pe_str.by fun _ _ _=>oP (d:=(.str i)) (v:=(.str i)) fun _=>rfl⟩
theorem uZ{n:Str}{i:Int}(hg:Gl X n)(hm:∃ t,X.mg n=some (.int i t))(hd:(n == ("__debug__" : Str))=false:=by decide):JE X EX (.Name n pos) (sC (.int i)):=by
 obtain ⟨t,hm⟩:=hm;exact ⟨(lV (v:= .int i) hg hm ⟨t,rfl⟩ hd).by fun _ _ _=>oP (d:= .int i) (v:= .int i) fun _=>rfl⟩
noncomputable def aP(i:Nat):SE:=fun ρ=>match ρ[i]? with
 | some (some (d,.fz))=>some (.ok d false,ρ)
 | some (some (d,.ow))=>some (.ok d false,ρ.set i (some (d,.fz)))
 | _=>none
theorem c_var{i:Nat}{n:Str}(hN:X.N[i]?=some n)(hv:Vis X.env.scope n)(hd:(n == ("__debug__" : Str))=false:=by decide)(hcd:(n == ("__classdict__" : Str))=false:=by decide):JE X EX (.Name n pos) (aP i):=by
 refine ⟨(gN hN hv hd hcd).by fun σ H Q hw=> ?_⟩;obtain ⟨F,ρ,W,R,h⟩:=hw;unfold aP at h
 revert h
 cases e:ρ[i]? with
 | none=>exact fun h=>h.elim
 | some z =>
  cases z with
  | none=>exact fun h=>h.elim
  | some z =>
   obtain ⟨d,m⟩:=z;obtain ⟨v,hv,ok⟩:=R.slot i d m e
   cases m with
   | io=>exact fun h=>h.elim
   | fz=>exact fun h=>⟨v,hv,h v H W .refl (fun _ z=>z) ⟨ok,R⟩⟩
   | ow =>
    intro h;obtain ⟨p,rfl,hp,hO⟩:=ok;obtain ⟨R',rp⟩:=R.freeze e hv;exact ⟨_,hv,h _ H _ .refl (fun q hq=>(Ey.mp hq).1) ⟨rp,R'⟩⟩
theorem xQ{op:Operator}{r:R2}{g:List D->Option (D×Bool)}(ho:OpR X (binaryOp op) r)(hs:OpS X.K (r2 r) g)(ha:JB X EX a x)(hb:JB X EX b y):JE X EX (.BinOp a op b pos) (sOp g [x,y]) :=
 ⟨(pe_op ho ha.p hb.p).by fun σ H Q ⟨F,ρ,W,R,h⟩=>cK hs R h⟩
theorem wc{op:CmpOp}{r:R2}{g:List D->Option (D×Bool)}(ho:OpR X (compareOp op) r)(hs:OpS X.K (r2 r) g)(ha:JB X EX a x)(hb:JB X EX b y)(hm:behindInMarks op b=false):JE X EX (.Compare a [op] [b] pos) (sOp g [x,y]) :=
 ⟨(BI ho ha.p hb.p hm).by fun σ H Q ⟨F,ρ,W,R,h⟩=>cK hs R h⟩
theorem c_ix{r:R2}{g:List D->Option (D×Bool)}(ho:IxR X r)(hs:OpS X.K (r2 r) g)(ha:JB X EX a x)(hb:JB X EX b y)(hp:qQ b:=by exact fun _ _=>rfl):JE X EX (.Subscript a b pos) (sOp g [x,y]) :=
 ⟨(rR ho ha.p hb.p hp).by fun σ H Q ⟨F,ρ,W,R,h⟩=>cK hs R h⟩
theorem gn{id:String}{n:Str}{p:Pos}{r:List V->Hp->VK->Prop}{g:List D->Option (D×Bool)}(ho:ax X (.builtin id) r)(hs:OpS X.K r g)(hg:Gl X n)(hm:X.mg n=none)(hv:bootBuiltins n=some (.builtin id))(ha:JA X EX (e::es) as)(hn:n ≠ "__name__" := by decide)(hdb:(n == ("__debug__" : Str))=false:=by decide)
 (he:starEach (e::es) X.env=(false,eval e X.env)::starEach es X.env:=by rfl) (hpl:(backTo pos (starEach es X.env)).any (·.1)=false:=by rfl):JE X EX (.Call (.Name n p) (e::es) [] pos) (sOp g as) :=
 ⟨(rT ho hg hm hv ha.p hn hdb he hpl).by fun σ H Q ⟨F,ρ,W,R,h⟩=>cK hs R h⟩
theorem g8{T:String}{n:Str}{p:Pos}{r:List V->Hp->VK->Prop}{g:List D->Option (D×Bool)}(ho:ax X (.type T) r)(hs:OpS X.K r g)(hg:Gl X n)(hm:X.mg n=none)(hv:bootBuiltins n=some (.type T))(ha:JA X EX (e::es) as)(hn:n ≠ "__name__" := by decide)(hdb:(n == ("__debug__" : Str))=false:=by decide)
 (he:starEach (e::es) X.env=(false,eval e X.env)::starEach es X.env:=by rfl) (hpl:(backTo pos (starEach es X.env)).any (·.1)=false:=by rfl):JE X EX (.Call (.Name n p) (e::es) [] pos) (sOp g as) :=
 ⟨(wI ho hg hm hv ha.p hn hdb he hpl).by fun σ H Q ⟨F,ρ,W,R,h⟩=>cK hs R h⟩
noncomputable def dg(fs:List SE):SE:=fun ρ=>match evA (fs.map Arg.ex) ρ with
 | some (.ok ds,ρ')=>some (.ok (.tup ds) false,ρ')
 | some (.ex C,ρ')=>some (.ex C,ρ')
 | none=>none
noncomputable def dH(fs:List SE):SE:=fun ρ=>match evA (fs.map Arg.ex) ρ with
 | some (.ok ds,ρ')=>some (.ok (.lst ds) true,ρ')
 | some (.ex C,ρ')=>some (.ex C,ρ')
 | none=>none
inductive JF(X:Cx)(EX:EXT):List Expr->List SE->Prop where
 | nil:JF X EX [] []
 | cons {e:Expr} {es:List Expr} {f:SE} {fs:List SE} (h:JE X EX e f) (t:JF X EX es fs) (hs:starEach (e::es) X.env=(false,eval e X.env)::starEach es X.env:=by rfl):JF X EX (e::es) (f::fs)
theorem JF.p{fs:List SE}(h:JF X EX es fs):PA X es (tAs X.K EX (fs.map Arg.ex)):=by
 induction h with
 | nil=>exact fA
 | cons h t hs ih=>exact dw h.p ih hs
theorem qB:∀ {fs:List SE} {ρ ρ':Rho} {ds:List D},evA (fs.map Arg.ex) ρ=some (.ok ds,ρ')->ds.length=fs.length
 | [],ρ,ρ',ds,h=>by
  have h:some (qO.ok [],ρ)=some (.ok ds,ρ'):=h;cases h;rfl
 | f::fs,ρ,ρ',ds,h=>by
  rw [DJ] at h;unfold evA at h
  revert h
  cases f ρ with
  | none=>intro h;cases h
  | some r =>
   obtain ⟨r,ρ1⟩:=r
   cases r with
   | ex C=>intro h;cases h
   | ok d nw =>
    dsimp only
    cases e:evA (fs.map Arg.ex) ρ1 with
    | none=>intro h;cases h
    | some q =>
     obtain ⟨q,ρ2⟩:=q
     cases q with
     | ex C=>intro h;cases h
     | ok ds2=>intro h;cases h;rw [Dq,Dq,qB e]
theorem c_tup{fs:List SE}{x1}(h:JF X EX es fs)(hl:fs.length<=1000:=by decide):JE X EX (.Tuple es x1 pos) (dg fs) :=
 ⟨(pe_tup h.p).by fun σ H Q ⟨F,ρ,W,R,h⟩=>by
   refine ph fs R ?_;unfold dg at h
   revert h
   cases e:evA (fs.map Arg.ex) ρ with
   | none=>exact fun h=>h
   | some q =>
    obtain ⟨q,ρ2⟩:=q
    cases q with
    | ex C=>exact fun h=>h
    | ok ds =>
     intro h vs H2 W2 fr2 sub2 R2 reps
     have lv:vs.length<=1000:=by rw [<- reps.len,qB e];exact hl
     refine ⟨E9 (df lv),fun p hp=>h _ _ W2 (fr2.trans ((ac.upd hp).fr (W:=W2)) fun p hp=> .inl (sub2 p hp)) sub2 ⟨⟨p,vs,rfl,?_,?_⟩,R2.same (ac.upd hp)⟩⟩
     ·rw [aE (R2.fresh hp)];exact av
     ·exact (aR (fun b hb=> .inl hb) fun b o _ e=>ac.upd hp b o e:ac (hid (W2++F.Z) H2) _).repDs reps⟩
theorem c_lst{fs:List SE}(h:JF X EX es fs)(hl:fs.length<=1000:=by decide):JE X EX (.List es pos) (dH fs) :=
 ⟨(yU h.p).by fun σ H Q ⟨F,ρ,W,R,h⟩=>by
   refine ph fs R ?_;unfold dH at h
   revert h
   cases e:evA (fs.map Arg.ex) ρ with
   | none=>exact fun h=>h
   | some q =>
    obtain ⟨q,ρ2⟩:=q
    cases q with
    | ex C=>exact fun h=>h
    | ok ds =>
     intro h vs H2 W2 fr2 sub2 R2 reps
     have lv:vs.length<=1000:=by rw [<- reps.len,qB e];exact hl
     refine ⟨E9 (df lv),fun p hp=>h _ _ W2 (fr2.trans ((ac.upd hp).fr (W:=W2)) fun p hp=> .inl (sub2 p hp)) sub2 ?_⟩;refine gA.back (h9.e (nw:=true) ⟨p,rfl,hp,vs,av,?_⟩ R2 (ac.upd hp)) fr2.dom
     exact (aR (fun b hb=>(Dx.mp hb).elim (fun z=> .inr (by rw [z];exact hp)) .inl) fun b o _ e=>ac.upd hp b o e:ac (hid (W2++F.Z) H2) _).repDs reps⟩
end
section
variable{K:F2}{F:Fx}{EX:EXT}{σ:St}{H H1:Hp}{ρ ρ':Rho}{W W1:List Addr}{Q:VK}
theorem OkV.go{o:Option (Res×Rho)}(h:OkV K F EX σ H W o Q)(fr:Fr W H H1)(sub:∀ p∈W1,p∈W):OkV K F EX σ H1 W1 o Q:=by
 cases o with
 | none=>exact h
 | some r =>
  obtain ⟨r,ρ1⟩:=r
  cases r with
  | ex C=>exact fun H2 W2 f2 s2 R2=>h H2 W2 (fr.trans f2 fun p hp=> .inl (sub p hp)) (fun p hp=>sub p (s2 p hp)) R2
  | ok d nw=>exact fun v H2 W2 f2 s2 P2=>h v H2 W2 (fr.trans f2 fun p hp=> .inl (sub p hp)) (fun p hp=>sub p (s2 p hp)) (P2.back fr.dom)
theorem OkT.go{o:Option (AI×Rho)}{Q:Bool->Hp->Prop}(h:OkT K F EX σ H W o Q)(fr:Fr W H H1)(sub:∀ p∈W1,p∈W):OkT K F EX σ H1 W1 o Q:=by
 cases o with
 | none=>exact h
 | some r =>
  obtain ⟨r,ρ1⟩:=r
  cases r with
  | ex C=>exact fun H2 W2 f2 s2 R2=>h H2 W2 (fr.trans f2 fun p hp=> .inl (sub p hp)) (fun p hp=>sub p (s2 p hp)) R2
  | ok d=>exact fun H2 W2 f2 s2 P2=>h H2 W2 (fr.trans f2 fun p hp=> .inl (sub p hp)) (fun p hp=>sub p (s2 p hp)) P2
end
noncomputable def aC(g:List D->Option (D×Bool))(as:List Arg):ST:=fun ρ=>match sOp g as ρ with
 | some (.ok (.bl b) _,ρ')=>some (.ok b,ρ')
 | some (.ok _ _,_)=>none
 | some (.ex C,ρ')=>some (.ex C,ρ')
 | none=>none
theorem Dh {K:F2} {F:Fx} {EX:EXT} {σ:St} {H:Hp} {ρ:Rho} {W:List Addr} {f:SE} {Q:Bool->Hp->Prop} (h:OkT K F EX σ H W (match f ρ with
 | some (.ok (.bl b) _,ρ')=>some (.ok b,ρ')
 | some (.ok _ _,_)=>none
 | some (.ex C,ρ')=>some (.ex C,ρ')
 | none=>none) Q):OkV K F EX σ H W (f ρ) fun x H'=>∃ k,x = .bl k/\Q k H':=by
 revert h
 cases f ρ with
 | none=>exact fun h=>h
 | some r =>
  obtain ⟨r,ρ1⟩:=r
  cases r with
  | ex C=>exact fun h=>h
  | ok d nw =>
   cases d<;>first
    | exact fun h=>h.elim
    | exact fun h v H' W' fr sub post=>⟨_,post.plain.1,h H' W' fr sub post.plain.2⟩
noncomputable def sBl(f:SE):ST:=fun ρ=>match f ρ with
 | some (.ok (.bl b) _,ρ')=>some (.ok b,ρ')
 | some (.ok _ _,_)=>none
 | some (.ex C,ρ')=>some (.ex C,ρ')
 | none=>none
noncomputable def jn:D->Option Bool
 | .non=>some false
 | .bl b=>some b
 | .int i=>some (i != 0)
 | .lst ds=>some (!ds.isEmpty)
 | .tup ds=>some (!ds.isEmpty)
 | .dK ks _=>some (!ks.isEmpty)
 | _=>none
noncomputable def cX(a:Arg):ST:=fun ρ=>match evA [a] ρ with
 | some (.ok [d],ρ')=>match jn d with
  | some b=>some (.ok b,ρ')
  | none=>none
 | some (.ok _,_)=>none
 | some (.ex C,ρ')=>some (.ex C,ρ')
 | none=>none
noncomputable def wB(f g:ST):ST:=fun ρ=>match f ρ with
 | some (.ok true,ρ1)=>g ρ1
 | some (.ok false,ρ1)=>some (.ok false,ρ1)
 | some (.ex C,ρ')=>some (.ex C,ρ')
 | none=>none
noncomputable def sOr(f g:ST):ST:=fun ρ=>match f ρ with
 | some (.ok false,ρ1)=>g ρ1
 | some (.ok true,ρ1)=>some (.ok true,ρ1)
 | some (.ex C,ρ')=>some (.ex C,ρ')
 | none=>none
noncomputable def dh(f:ST):ST:=fun ρ=>match f ρ with
 | some (.ok b,ρ1)=>some (.ok (!b),ρ1)
 | some (.ex C,ρ')=>some (.ex C,ρ')
 | none=>none
noncomputable def sIf(c:ST)(f g:SE):SE:=fun ρ=>match c ρ with
 | some (.ok true,ρ1)=>f ρ1
 | some (.ok false,ρ1)=>g ρ1
 | some (.ex C,ρ')=>some (.ex C,ρ')
 | none=>none
noncomputable def ce(f g:SE):SE:=fun ρ=>match f ρ with
 | some (.ok (.bl true) _,ρ1)=>g ρ1
 | some (.ok (.bl false) _,ρ1)=>some (.ok (.bl false) false,ρ1)
 | some (.ok _ _,_)=>none
 | some (.ex C,ρ')=>some (.ex C,ρ')
 | none=>none
noncomputable def wy(f g:SE):SE:=fun ρ=>match f ρ with
 | some (.ok (.bl false) _,ρ1)=>g ρ1
 | some (.ok (.bl true) _,ρ1)=>some (.ok (.bl true) false,ρ1)
 | some (.ok _ _,_)=>none
 | some (.ex C,ρ')=>some (.ex C,ρ')
 | none=>none
noncomputable def gJ(f:SE):SE:=fun ρ=>match f ρ with
 | some (.ok (.bl b) _,ρ1)=>some (.ok (.bl (!b)) false,ρ1)
 | some (.ok _ _,_)=>none
 | some (.ex C,ρ')=>some (.ex C,ρ')
 | none=>none
section
variable{X:Cx}{EX:EXT}{a b c e:Expr}{rest es:List Expr}{pos:Pos}{x y z:Arg}{as:List Arg}
theorem jK{op:CmpOp}{r:R2}{g:List D->Option (D×Bool)}(ho:OpR X (compareOp op) r)(hs:OpS X.K (r2 r) g)(ha:JB X EX a x)(hb:JB X EX b y)(hm:behindInMarks op b=false):JT X EX (.Compare a [op] [b] pos) (aC g [x,y]) :=
 ⟨(BA ho ha.p hb.p hm).by fun σ H Q ⟨F,ρ,W,R,h⟩=>cK hs R (Dh h)⟩
theorem tru_of{K:F2}{H Hh:Hp}{d:D}{v:V}{k:Bool}(r:gr K H Hh d v)(s:ac Hh H)(e:jn d=some k):CC K v H k:=by
 cases d<;>simp only [jn] at e<;>first
  | cases e;done
  | (cases e;cases r;first | rfl | trivial)
  | skip
 ·obtain ⟨p,xs,rfl,h1,h2⟩:=r
  cases e;exact .inr (.inl ⟨xs,.inl (.inl (s _ _ h1)),by have:=h2.len;cases xs<;>cases ‹List D› <;> simp_all⟩)
 ·obtain ⟨p,xs,rfl,h1,h2⟩:=r
  cases e;exact .inl ⟨xs,.inl (.inl h1),by have:=h2.len;cases xs<;>cases ‹List D› <;> simp_all⟩
 ·obtain ⟨p,xs,rfl,h1,h2,h3⟩:=r
  cases e;refine .inr (.inr ⟨_,h1,?_⟩);rename_i ks vs;cases ks<;>cases xs<;>simp_all
theorem k_tru(ha:JB X EX e x)(he:∀ whole,isTrue e X.env whole=(do let v <- whole;standAt e.pos;holding [v] (truthy v)):=by intro _;rfl):JT X EX e (cX x) :=
 ⟨(yK ha.p he).by fun σ H Q ⟨F,ρ,W,R,h⟩=>by
   have z:tAs X.K EX [x] σ H (fun vs H2=>match vs with | [v]=>∃ k,CC X.K v H2 k/\Q k H2 | _=>False):=by
    refine pK [x] R ?_;unfold cX at h
    revert h
    cases evA [x] ρ with
    | none=>exact fun h=>h
    | some q =>
     obtain ⟨q,ρ2⟩:=q
     cases q with
     | ex C=>exact fun h=>h
     | ok ds =>
      match ds with
      | []=>exact fun h=>h.elim
      | _::_::_=>exact fun h=>h.elim
      | [d] =>
       dsimp only
       cases e:jn d with
       | none=>exact fun h=>h.elim
       | some k =>
        intro h vs H2 W2 fr2 sub2 R2 reps
        match vs,reps with
        | [v],reps=>exact ⟨k,tru_of reps.1 au e,h H2 W2 fr2 sub2 R2⟩
   exact z⟩
theorem JW.t{f:ST}(h:JW X EX e f):JT X EX e f:=⟨h.p.pt⟩
theorem w_or1{f:ST}(h:JT X EX a f):JW X EX (.BoolOp .Or [a] pos) f:=⟨pw_or1 h.p⟩
theorem w_or{f g:ST}(ha:JT X EX a f)(hb:JW X EX (.BoolOp .Or (b::rest) pos) g):JW X EX (.BoolOp .Or (a::b::rest) pos) (sOr f g) :=
 ⟨fun wh pins s σ H Q I ⟨F,ρ,W,R,h⟩=>pw_or ha.p hb.p wh pins s σ H Q I ⟨F,ρ,W,R,by
  unfold sOr at h
  revert h
  cases f ρ with
  | none=>exact fun h=>h
  | some q =>
   obtain ⟨q,ρ2⟩:=q
   cases q with
   | ex C=>exact fun h=>h
   | ok k =>
    cases k with
    | false=>exact fun h H2 W2 fr2 sub2 R2=>⟨F,ρ2,W2,R2,OkT.go h fr2 sub2⟩
    | true=>exact fun h=>h⟩⟩
theorem k_not{f:ST}(h:JT X EX a f):JT X EX (.UnaryOp .Not a pos) (dh f) :=
 ⟨(pt_not h.p).by fun σ H Q ⟨F,ρ,W,R,h⟩=>⟨F,ρ,W,R,by
   unfold dh at h
   revert h
   cases f ρ with
   | none=>exact fun h=>h
   | some q =>
    obtain ⟨q,ρ2⟩:=q
    cases q with
    | ex C=>exact fun h=>h
    | ok k=>exact fun h=>h⟩⟩
theorem c_if{t:ST}{f g:SE}(hc:JT X EX c t)(ha:JE X EX a f)(hb:JE X EX b g):JE X EX (.IfExp c a b pos) (sIf t f g) :=
 ⟨(yV hc.p ha.p hb.p).by fun σ H Q ⟨F,ρ,W,R,h⟩=>⟨F,ρ,W,R,by
   unfold sIf at h
   revert h
   cases t ρ with
   | none=>exact fun h=>h
   | some q =>
    obtain ⟨q,ρ2⟩:=q
    cases q with
    | ex C=>exact fun h=>h
    | ok k =>
     cases k with
     | true=>exact fun h H2 W2 fr2 sub2 R2=>⟨F,ρ2,W2,R2,OkV.go h fr2 sub2⟩
     | false=>exact fun h H2 W2 fr2 sub2 R2=>⟨F,ρ2,W2,R2,OkV.go h fr2 sub2⟩⟩⟩
theorem c_one{op}{f:SE}(h:JE X EX a f):JE X EX (.BoolOp op [a] pos) f:=⟨pe_one h.p⟩
theorem c_and{f g:SE}(ha:JE X EX a f)(hb:JE X EX (.BoolOp .And (b::rest) pos) g):JE X EX (.BoolOp .And (a::b::rest) pos) (ce f g) :=
 ⟨(pe_and ha.p hb.p).by fun σ H Q ⟨F,ρ,W,R,h⟩=>⟨F,ρ,W,R,by
   unfold ce at h
   revert h
   cases f ρ with
   | none=>exact fun h=>h
   | some q =>
    obtain ⟨q,ρ2⟩:=q
    cases q with
    | ex C=>exact fun h=>h
    | ok d nw =>
     cases d<;>first | exact fun h=>h.elim | skip
     rename_i k
     cases k with
     | true=>exact fun h v H2 W2 fr2 sub2 P2=>⟨true,P2.plain.1,F,ρ2,W2,P2.plain.2,OkV.go h fr2 sub2⟩
     | false=>exact fun h v H2 W2 fr2 sub2 P2=>⟨false,P2.plain.1,h (.bl false) H2 W2 fr2 sub2 ⟨rfl,P2.plain.2⟩⟩⟩⟩
theorem c_not{f:SE}(ha:JE X EX a f):JE X EX (.UnaryOp .Not a pos) (gJ f) :=
 ⟨(pe_not ha.p).by fun σ H Q ⟨F,ρ,W,R,h⟩=>⟨F,ρ,W,R,by
   unfold gJ at h
   revert h
   cases f ρ with
   | none=>exact fun h=>h
   | some q =>
    obtain ⟨q,ρ2⟩:=q
    cases q with
    | ex C=>exact fun h=>h
    | ok d nw =>
     cases d<;>first | exact fun h=>h.elim | skip
     exact fun h v H2 W2 fr2 sub2 P2=>⟨_,P2.plain.1,h _ H2 W2 fr2 sub2 ⟨rfl,P2.plain.2⟩⟩⟩⟩
abbrev RSl:=V->Option Int->Option Int->Hp->VK->Prop
def rS00(r:RSl):List V->Hp->VK->Prop
 | [x],H,Q=>r x none none H Q
 | _,_,_=>False
noncomputable def rS10(r:RSl):List V->Hp->VK->Prop
 | [x,y],H,Q=>∃ i,y = .int i/\r x (some i) none H Q
 | _,_,_=>False
noncomputable def rS11(r:RSl)(i j:Int):List V->Hp->VK->Prop
 | [x],H,Q=>∃ i',V.int i = .int i'/\∃ j',V.int j = .int j'/\r x (some i') (some j') H Q
 | _,_,_=>False
theorem c_sl10{p2:Pos}{r:RSl}{g:List D->Option (D×Bool)}(ho:SlR X r)(hs:OpS X.K (rS10 r) g)(ha:JB X EX a x)(hb:JB X EX b y):JE X EX (.Subscript a (.Slice (some b) none none p2) pos) (sOp g [x,y]) :=
 ⟨(rQ ho ha.p (qa hb.p) BD).by fun σ H Q ⟨F,ρ,W,R,h⟩=>cK hs R h⟩
theorem c_sl11{p2 p3 p4:Pos}{r:RSl}{g:List D->Option (D×Bool)}{i j:Int}{k1 k2}(ho:SlR X r)(hs:OpS X.K (rS11 r i j) g)(ha:JB X EX a x):JE X EX (.Subscript a (.Slice (some (.Constant (.int i) k1 p3)) (some (.Constant (.int j) k2 p4)) none p2) pos) (sOp g [x]) :=
 ⟨(rQ ho ha.p (qa mM) (qa mM)).by fun σ H Q ⟨F,ρ,W,R,h⟩=>cK hs R h⟩
end
theorem PS.by{X:Cx}{e:Stmt}{t t':TS}(h:PS X e t)(hi:∀ D σ H,t' D σ H->t D σ H):PS X e t':=fun pins s σ H D I hw=>h pins s σ H D I (hi D σ H hw)
theorem PSs.by{X:Cx}{e:List Stmt}{t t':TS}(h:PSs X e t)(hi:∀ D σ H,t' D σ H->t D σ H):PSs X e t':=fun pins s σ H D I hw=>h pins s σ H D I (hi D σ H hw)
inductive Out where
 | nx | rt (d:D) (nw:Bool) | ex (C:Str) | bk | ct
abbrev SS:=Rho->Option (Out×Rho)
section
variable(K:F2)(F:Fx)(EX:EXT)(σ:St)(H:Hp)(W:List Addr)
noncomputable def tW(σ':St)(H':Hp)(ρ':Rho)(W':List Addr)(d:D):Bool->V->Prop
 | false,v=>ay K (hid (W'++F.Z) H') d v/\Rel K F σ' H' ρ' W'
 | true,v=>∃ p,v = .ref p/\(p∈W\/H p=none)/\p∉W'++F.Z/\aF K H' (hid (p::(W'++F.Z)) H') p d/\Rel K F σ' (hid [p] H') ρ' W'
noncomputable def OkS(o:Option (Out×Rho))(D:n5):Prop:=match o with
 | some (.nx,ρ')=>∀ σ' H' W',Fr W H H'->(∀ p∈W',p∈W\/H p=none)->Rel K F σ' H' ρ' W'->D.nx σ' H'
 | some (.bk,ρ')=>∀ σ' H' W',Fr W H H'->(∀ p∈W',p∈W\/H p=none)->Rel K F σ' H' ρ' W'->D.bk σ' H'
 | some (.ct,ρ')=>∀ σ' H' W',Fr W H H'->(∀ p∈W',p∈W\/H p=none)->Rel K F σ' H' ρ' W'->D.ct σ' H'
 | some (.ex C,ρ')=>∀ σ' H' W',Fr W H H'->(∀ p∈W',p∈W\/H p=none)->Rel K F σ' H' ρ' W'->EX C σ' H'
 | some (.rt d nw,ρ')=>∀ σ' v H' W',Fr W H H'->(∀ p∈W',p∈W\/H p=none)->tW K F H W σ' H' ρ' W' d nw v->D.rt v H'
 | none=>False
end
def tVS(K:F2)(EX:EXT)(f:SS):TS:=fun D σ H=>∃ F ρ W,Rel K F σ H ρ W/\OkS K F EX H W (f ρ) D
structure JS(X:Cx)(EX:EXT)(e:Stmt)(f:SS):Prop where
 p:PS X e (tVS X.K EX f)
structure JSs(X:Cx)(EX:EXT)(e:List Stmt)(f:SS):Prop where
 p:PSs X e (tVS X.K EX f)
section
variable{K:F2}{F:Fx}{EX:EXT}{σ σ1:St}{H H1:Hp}{ρ ρ':Rho}{W W1:List Addr}{D:n5}
theorem tW.back{σ':St}{H':Hp}{ρ':Rho}{W':List Addr}{d:L2.D}{nw:Bool}{v:V}(h:tW K F H1 W1 σ' H' ρ' W' d nw v)(fr:∀ b,H1 b=none->H b=none)(sub:∀ p∈W1,p∈W\/H p=none):tW K F H W σ' H' ρ' W' d nw v:=by
 cases nw with
 | false=>exact h
 | true=>obtain ⟨p,h1,h2,h3⟩:=h;exact ⟨p,h1,h2.elim (sub p) fun z=> .inr (fr p z),h3⟩
theorem OkS.go{o:Option (Out×Rho)}(h:OkS K F EX H W o D)(fr:Fr W H H1)(sub:∀ p∈W1,p∈W\/H p=none):OkS K F EX H1 W1 o D:=by
 have sub2:∀ {W2:List Addr},(∀ p∈W2,p∈W1\/H1 p=none)->∀ p∈W2,p∈W\/H p=none:=fun {W2} s2 p hp=>(s2 p hp).elim (sub p) fun z=> .inr (fr.dom p z)
 cases o with
 | none=>exact h
 | some r =>
  obtain ⟨r,ρ1⟩:=r
  cases r with
  | ex C=>exact fun σ2 H2 W2 f2 s2 R2=>h σ2 H2 W2 (fr.trans f2 sub) (sub2 s2) R2
  | nx=>exact fun σ2 H2 W2 f2 s2 R2=>h σ2 H2 W2 (fr.trans f2 sub) (sub2 s2) R2
  | bk=>exact fun σ2 H2 W2 f2 s2 R2=>h σ2 H2 W2 (fr.trans f2 sub) (sub2 s2) R2
  | ct=>exact fun σ2 H2 W2 f2 s2 R2=>h σ2 H2 W2 (fr.trans f2 sub) (sub2 s2) R2
  | rt d nw=>exact fun σ2 v H2 W2 f2 s2 P2=>h σ2 v H2 W2 (fr.trans f2 sub) (sub2 s2) (P2.back fr.dom sub)
theorem gA.r{H':Hp}{ρ':Rho}{W':List Addr}{d:L2.D}{nw:Bool}{v:V}(h:gA K F σ H H' ρ' W' d nw v):tW K F H W σ H' ρ' W' d nw v:=by
 cases nw with
 | false=>exact h
 | true=>obtain ⟨p,h1,h2,h3⟩:=h;exact ⟨p,h1,.inr h2,h3⟩
end
def aQ:SS:=fun ρ=>some (.nx,ρ)
def ag(f g:SS):SS:=fun ρ=>match f ρ with
 | some (.nx,ρ1)=>g ρ1
 | r=>r
noncomputable def aD(i:Nat)(f:SE):SS:=fun ρ=>match f ρ with
 | some (.ok d nw,ρ')=>match ρ'[i]? with
  | some _=>some (.nx,ρ'.set i (some (d,if nw then .ow else .fz)))
  | none=>none
 | some (.ex C,ρ')=>some (.ex C,ρ')
 | none=>none
noncomputable def ao(f:SE):SS:=fun ρ=>match f ρ with
 | some (.ok d nw,ρ')=>some (.rt d nw,ρ')
 | some (.ex C,ρ')=>some (.ex C,ρ')
 | none=>none
def oV:SS:=fun ρ=>some (.rt .non false,ρ)
noncomputable def bU(f:SE):SS:=fun ρ=>match f ρ with
 | some (.ok _ _,ρ')=>some (.nx,ρ')
 | some (.ex C,ρ')=>some (.ex C,ρ')
 | none=>none
noncomputable def aI(c:ST)(f g:SS):SS:=fun ρ=>match c ρ with
 | some (.ok true,ρ1)=>f ρ1
 | some (.ok false,ρ1)=>g ρ1
 | some (.ex C,ρ')=>some (.ex C,ρ')
 | none=>none
noncomputable def cI(i:Nat):SS:=fun ρ=>match ρ[i]? with
 | some (some (d,.fz))=>some (.rt d false,ρ)
 | some (some (d,.ow))=>some (.rt d true,ρ.set i none)
 | _=>none
theorem Rel.move{K:F2}{F:Fx}{σ:St}{H:Hp}{ρ:Rho}{W:List Addr}(R:Rel K F σ H ρ W){i:Nat}{d:D}{p:Addr}(h:ρ[i]?=some (some (d,.ow)))(hp:σ[i]?=some (some (.ref p))) :
 Rel K F σ (hid [p] H) (ρ.set i none) (W.filter fun a=>decide (a≠p))/\p∈W/\p∉(W.filter fun a=>decide (a≠p))++F.Z/\aF K H (hid (p::((W.filter fun a=>decide (a≠p))++F.Z)) H) p d:=by
 obtain ⟨v,hv,q,rfl,hq,hO⟩:=R.slot i d .ow h;rw [hp] at hv;cases hv
 have sub:∀ b,b∈W.filter (fun a=>decide (a≠p))->b∈W/\b≠p:=fun b hb=>by
  have:=Ey.mp hb;exact ⟨this.1,DI this.2⟩
 have pn:p∉(W.filter fun a=>decide (a≠p))++F.Z:=fun z=>by
  rcases DT.mp z with q | q
  ·exact (sub p q).2 rfl
  ·exact R.wz p hq q
 have sh:ac (hid (W++F.Z) H) (hid ((W.filter fun a=>decide (a≠p))++F.Z) (hid [p] H)):=fun b o e=>by
  obtain ⟨h1,h2⟩:=am e
  have bp:b≠p:=fun z=>h1 (Dz _ (z ▸ hq))
  rw [aE (fun z=>h1 (by
   rcases DT.mp z with q | q
   ·exact Dz _ (sub b q).1
   ·exact Du _ q)),aE (by simpa using bp)]
  exact h2
 have sh2:ac (hid (W++F.Z) H) (hid (p::((W.filter fun a=>decide (a≠p))++F.Z)) H):=fun b o e=>by
  obtain ⟨h1,h2⟩:=am e
  have bp:b≠p:=fun z=>h1 (Dz _ (z ▸ hq))
  rw [aE (fun z=>by
   rcases Dx.mp z with q | q
   ·exact bp q
   ·rcases DT.mp q with q | q
    ·exact h1 (Dz _ (sub b q).1)
    ·exact h1 (Du _ q))]
  exact h2
 have neq:∀ r,r≠p->hid [p] H r=H r:=fun r hr=>aE (by simpa using hr)
 refine ⟨⟨fun j e m hj=> ?_,fun j k e f m n r h1 h2 h3 h4 h5 h6=> ?_,fun r hr=>R.wz r (sub r hr).1,fun r hr=> ?_,by rw [EC];exact R.len⟩,hq,pn,hO.at rfl sh2⟩
 ·rcases bn hj with ⟨rfl,e1⟩ | ⟨ne,e1⟩
  ·cases e1
  ·obtain ⟨v,g1,g2⟩:=R.slot j e m e1
   refine ⟨v,g1,?_⟩
   have other:∀ r,v = .ref r->m ≠ .fz->r≠p:=fun r er hm z=>by
    subst er z;exact ne (R.apart j i _ _ _ _ _ e1 hm h (by decide) g1 hp)
   cases m with
   | fz=>exact sh.repD g2
   | ow=>obtain ⟨r,e2,e3,e4⟩:=g2;exact ⟨r,e2,Ey.mpr ⟨e3,Dy (other r e2 (by decide))⟩,e4.at (neq r (other r e2 (by decide))) sh⟩
   | io=>obtain ⟨r,e2,e3,e4,e5⟩:=g2;exact ⟨r,e2,Ey.mpr ⟨e3,Dy (other r e2 (by decide))⟩,e4.at (neq r (other r e2 (by decide))) sh,e5⟩
 ·rcases bn h1 with ⟨rfl,z⟩ | ⟨_,z⟩
  ·cases z
  ·rcases bn h3 with ⟨rfl,z'⟩ | ⟨_,z'⟩
   ·cases z'
   ·exact R.apart j k _ _ _ _ _ z h2 z' h4 h5 h6
 ·have rp:r≠p:=fun z=>by subst z;exact pn hr
  rw [neq r rp]
  rcases DT.mp hr with q | q
  ·exact R.mt r (Dz _ (sub r q).1)
  ·exact R.mt r (Du _ q)
inductive Tg where
 | nm (i:Nat) | tp (ts:List Tg)
mutual
noncomputable def bw:Tg->D->Rho->Option Rho
 | .nm i,d,ρ=>match ρ[i]? with
  | some _=>some (ρ.set i (some (d,.fz)))
  | none=>none
 | .tp ts,.tup ds,ρ=>cE ts ds ρ
 | .tp ts,.ktup ds,ρ=>cE ts ds ρ
 | .tp _,_,_=>none
noncomputable def cE:List Tg->List D->Rho->Option Rho
 | [],[],ρ=>some ρ
 | t::ts,d::ds,ρ=>match bw t d ρ with
  | some ρ1=>cE ts ds ρ1
  | none=>none
 | _,_,_=>none
end
mutual
noncomputable def gT(K:F2):Tg->TG
 | .nm i=>vZ i
 | .tp ts=>gTup K ts.length (gTs K ts)
noncomputable def gTs(K:F2):List Tg->TGs
 | []=>gNil
 | t::ts=>Db (gT K t) (gTs K ts)
end
mutual
noncomputable def Tg.ge(n:Nat):Tg->Bool
 | .nm i=>decide (n<=i)
 | .tp ts=>Tg.geL n ts
noncomputable def Tg.geL(n:Nat):List Tg->Bool
 | []=>true
 | t::ts=>Tg.ge n t&&Tg.geL n ts
end
section
variable{K:F2}{F:Fx}{EX:EXT}{H:Hp}{W:List Addr}{Q:St->Hp->Prop}{n:Nat}
theorem ff{H:Hp}{p:Addr}{xs:List V}(h:SqT K (fun _=>none) p xs):SqT K H p xs:=by
 rcases h with (h | ⟨o,h⟩) | h
 ·cases h
 ·cases h
 ·exact .inr h
theorem pI:∀ {ts:List Tg} {ds:List D} {ρ ρ':Rho},cE ts ds ρ=some ρ'->ds.length=ts.length
 | [],[],_,_,_=>rfl
 | [],_::_,_,_,h=>by unfold cE at h;cases h
 | _::_,[],_,_,h=>by unfold cE at h;cases h
 | t::ts,d::ds,ρ,ρ',h=>by
  unfold cE at h
  cases e:bw t d ρ with
  | none=>rw [e] at h;cases h
  | some ρ1=>rw [e] at h;rw [Dq,Dq,pI h]
mutual
theorem vY:∀ (T:Tg) {d:D} {v:V} {σ:St} {ρ ρ':Rho} {Q:St->Hp->Prop},Rel K F σ H ρ W->ay K (hid (W++F.Z) H) d v->bw T d ρ=some ρ'->(∀ σ',(Tg.ge n T=true->σ'.take n=σ.take n)->Rel K F σ' H ρ' W->Q σ' H)->gT K T v σ H Q
 | .nm i,d,v,σ,ρ,ρ',Q,R,r,e,q=>by
  unfold bw at e;unfold gT
  cases h:ρ[i]? with
  | none=>rw [h] at e;cases e
  | some z =>
   rw [h] at e;cases e
   have hi:i < σ.length:=by rw [R.len];exact (DG.mp h).1
   refine q _ (fun hg=> ?_) (R.put hi r);unfold Tg.ge at hg;exact List.take_set_of_le (DI hg)
 | .tp ts,d,v,σ,ρ,ρ',Q,R,r,e,q=>by
  unfold gT
  have two:∀ ds p xs,v = .ref p->SqT K H p xs->ah K (hid (W++F.Z) H) ds xs->cE ts ds ρ=some ρ'->gTup K ts.length (gTs K ts) v σ H Q:=fun ds p xs e1 e2 e3 e4 =>
   ⟨p,xs,e1,e2,by rw [<- e3.len];exact pI e4,zQ ts R e3 e4 fun σ' h1 h2=>q σ' (fun hg=>h1 (by unfold Tg.ge at hg;exact hg)) h2⟩
  cases d<;>first
   | (unfold bw at e;cases e;done)
   | (obtain ⟨p,xs,e1,e2,e3⟩:=r;unfold bw at e;exact two _ p xs e1 (.inl (.inl (am e2).2)) e3 e)
   | (obtain ⟨p,xs,e1,e2,e3⟩:=r;unfold bw at e;exact two _ p xs e1 (ff e2) e3 e)
theorem zQ:∀ (ts:List Tg) {ds:List D} {vs:List V} {σ:St} {ρ ρ':Rho} {Q:St->Hp->Prop},Rel K F σ H ρ W->ah K (hid (W++F.Z) H) ds vs->cE ts ds ρ=some ρ'->(∀ σ',(Tg.geL n ts=true->σ'.take n=σ.take n)->Rel K F σ' H ρ' W->Q σ' H)->gTs K ts vs σ H Q
 | [],ds,vs,σ,ρ,ρ',Q,R,r,e,q=>by
  unfold gTs
  cases ds with
  | cons _ _=>unfold cE at e;cases e
  | nil =>
   unfold cE at e;cases e
   cases vs with
   | cons _ _=>exact r.elim
   | nil=>exact ⟨rfl,q σ (fun _=>rfl) R⟩
 | t::ts,ds,vs,σ,ρ,ρ',Q,R,r,e,q=>by
  unfold gTs
  cases ds with
  | nil=>unfold cE at e;cases e
  | cons d ds =>
   cases vs with
   | nil=>exact r.elim
   | cons v vs =>
    unfold cE at e
    cases h:bw t d ρ with
    | none=>rw [h] at e;cases e
    | some ρ1 =>
     rw [h] at e;refine ⟨v,vs,rfl,vY t R r.1 h fun σ1 h1 R1=>zQ ts R1 r.2 e fun σ2 h2 R2=>q σ2 (fun hg=> ?_) R2⟩;unfold Tg.geL at hg;have:=(DM _ _).mp hg;exact (h2 this.2).trans (h1 this.1)
end
end
structure JG(X:Cx)(e:Expr)(T:Tg):Prop where
 p:PG X e (gT X.K T)
structure JGs(X:Cx)(es:List Expr)(ts:List Tg):Prop where
 p:PGs X es (gTs X.K ts)
noncomputable def lG(T:Tg)(f:SE):SS:=fun ρ=>match f ρ with
 | some (.ok d _,ρ')=>match bw T d ρ' with
  | some ρ2=>some (.nx,ρ2)
  | none=>none
 | some (.ex C,ρ')=>some (.ex C,ρ')
 | none=>none
noncomputable def iW(i:Nat)(op:Int->Int->Int)(f:SE):SS:=fun ρ=>match ρ[i]? with
 | some (some (.int a,.fz))=>match f ρ with
  | some (.ok (.int b) _,ρ')=>match ρ'[i]? with
   | some _=>some (.nx,ρ'.set i (some (.int (op a b),.fz)))
   | none=>none
  | some (.ok _ _,_)=>none
  | some (.ex C,ρ')=>some (.ex C,ρ')
  | none=>none
 | _=>none
section
variable{X:Cx}{EX:EXT}{a b c e:Expr}{es:List Expr}{st:Stmt}{rest:List Stmt}{pos:Pos}
theorem s_nil:JSs X EX [] aQ:=⟨BB.by fun D σ H ⟨F,ρ,W,R,h⟩=>h σ H W .refl (fun _ z=> .inl z) R⟩
theorem s_cons{f g:SS}(h1:JS X EX st f)(h2:JSs X EX rest g):JSs X EX (st::rest) (ag f g) :=
 ⟨(jD h1.p h2.p).by fun D σ H ⟨F,ρ,W,R,h⟩=>⟨F,ρ,W,R,by
   unfold ag at h
   revert h
   cases f ρ with
   | none=>exact fun h=>h
   | some q =>
    obtain ⟨q,ρ2⟩:=q
    cases q with
    | nx=>exact fun h σ2 H2 W2 fr2 sub2 R2=>⟨F,ρ2,W2,R2,OkS.go h fr2 sub2⟩
    | _=>exact fun h=>h⟩⟩
theorem s_one{f:SS}(h:JS X EX st f):JSs X EX [st] f:=⟨p8 h.p⟩
theorem set_ok{K:F2}{F:Fx}{σ:St}{H H':Hp}{ρ':Rho}{W':List Addr}{d:D}{nw:Bool}{v:V}{i:Nat}(P:gA K F σ H H' ρ' W' d nw v)(hi:i < ρ'.length) :
 ∃ W2,(∀ p∈W2,p∈W'\/H p=none)/\Rel K F (σ.set i (some v)) H' (ρ'.set i (some (d,if nw then .ow else .fz))) W2:=by
 cases nw with
 | false=>exact ⟨W',fun p hp=> .inl hp,P.2.put (by rw [P.2.len];exact hi) P.1⟩
 | true =>
  obtain ⟨p,rfl,hp,hn,hO,R⟩:=P;exact ⟨p::W',fun q hq=>(Dx.mp hq).elim (fun z=> .inr (by rw [z];exact hp)) .inl,R.own (by rw [R.len];exact hi) hn hO⟩
theorem AG{i:Nat}{f:SE}{D:n5}{σ:St}{H:Hp}(h:tVS X.K EX (aD i f) D σ H):tV X.K EX f σ H fun x H1=>D.nx (σ.set i (some x)) H1:=by
 obtain ⟨F,ρ,W,R,h⟩:=h;refine ⟨F,ρ,W,R,?_⟩;unfold aD at h
 revert h
 cases f ρ with
 | none=>exact fun h=>h
 | some q =>
  obtain ⟨q,ρ2⟩:=q
  cases q with
  | ex C=>exact fun h H2 W2 fr2 sub2 R2=>h σ H2 W2 fr2 (fun p hp=> .inl (sub2 p hp)) R2
  | ok d nw =>
   dsimp only
   cases e:ρ2[i]? with
   | none=>exact fun h=>h.elim
   | some z =>
    intro h v H2 W2 fr2 sub2 P2;obtain ⟨W3,s3,R3⟩:=set_ok P2 (DG.mp e).1;exact h _ H2 W3 fr2 (fun p hp=>(s3 p hp).imp (sub2 p) id) R3
theorem CP{i:Nat}{x:Str}{f:SE}{pos':Pos}(hN:X.N.Nodup)(hi:X.N[i]?=some x)(hx:Loc X.env.scope x)(he:JE X EX e f)(hs:swapsWith e (some (.Name x pos')) pos.line X.env=pure false:=by rfl)(hf:X.fn x=true\/X.env.scope.names.lookup x=some .local:=by first | exact .inl rfl | exact .inr rfl | assumption) :
 JS X EX (.Assign [.Name x pos'] e pos) (aD i f):=⟨(ps_set hN hi hx he.p hs hf).by fun D σ H h=>AG h⟩
theorem qx{i:Nat}{x:Str}(hN:X.N.Nodup)(hi:X.N[i]?=some x)(hx:Loc X.env.scope x)(hf:X.fn x=true\/X.env.scope.names.lookup x=some .local:=by first | exact .inl rfl | exact .inr rfl | assumption):JG X (.Name x pos) (.nm i):=⟨by unfold gT;exact lU hN hi hx hf⟩
theorem g_nil:JGs X [] []:=⟨by unfold gTs;exact vK⟩
theorem g_cons{T:Tg}{ts:List Tg}(h1:JG X e T)(h2:JGs X es ts)(hs:(assignEach (e::es) X.env).map (·.2)=assign e X.env::(assignEach es X.env).map (·.2):=by rfl):JGs X (e::es) (T::ts):=⟨by unfold gTs;exact mL h1.p h2.p hs⟩
theorem g_tup{k:Nat}{ts:List Tg}(hc:X.calm=true)(h:JGs X es ts)(hn:(assignEach es X.env).length=ts.length:=by rfl)(hst:(assignEach es X.env).findIdx? (·.1)=none:=by rfl):JG X (.Tuple es k pos) (.tp ts):=⟨by unfold gT;exact yS hc h.p hn hst⟩
theorem s_asg{f:SE}{T:Tg}(he:JE X EX e f)(hg:JG X a T)(hs:swapsWithSole [a] e pos.line X.env=pure false:=by rfl)(hw:swappedStores [a] e X.env=pure none:=by rfl)
 (h1:(assignEach [a] X.env).map (·.2)=[assign a X.env]:=by rfl):JS X EX (.Assign [a] e pos) (lG T f) :=
 ⟨(yN he.p hg.p hs hw h1).by fun D σ H ⟨F,ρ,W,R,h⟩=>⟨F,ρ,W,R,by
   unfold lG at h
   revert h
   cases f ρ with
   | none=>exact fun h=>h
   | some q =>
    obtain ⟨q,ρ2⟩:=q
    cases q with
    | ex C=>exact fun h H2 W2 fr2 sub2 R2=>h σ H2 W2 fr2 (fun p hp=> .inl (sub2 p hp)) R2
    | ok d nw =>
     dsimp only
     cases e:bw T d ρ2 with
     | none=>exact fun h=>h.elim
     | some ρ3 =>
      intro h v H2 W2 fr2 sub2 P2
      exact vY (n:=0) T P2.plain.2 P2.plain.1 e fun σ' _ R'=>h σ' H2 W2 fr2 (fun p hp=> .inl (sub2 p hp)) R'⟩⟩
theorem yn{i:Nat}{x:Str}{f:SE}{op:Operator}{fn:Int->Int->Int}{pos':Pos}(ho:PIp X op (ipI fn))(hN:X.N.Nodup)(hi:X.N[i]?=some x)(hx:Loc X.env.scope x)(he:JE X EX e f)(hf:X.fn x=true\/X.env.scope.names.lookup x=some .local:=by first | exact .inl rfl | exact .inr rfl | assumption) :
 JS X EX (.AugAssign (.Name x pos') op e pos) (iW i fn f) :=
 ⟨(ps_aug hN hi hx he.p ho hf).by fun D σ H ⟨F,ρ,W,R,h⟩=>by
   unfold iW at h
   revert h
   split
   ·rename_i a0 e0
    obtain ⟨v0,hv0,hr0⟩:=R.slot i _ _ e0;have hr0:v0 = .int a0:=hr0;subst hr0;intro h;refine ⟨_,hv0,F,ρ,W,R,?_⟩
    revert h
    cases f ρ with
    | none=>exact fun h=>h
    | some q =>
     obtain ⟨q,ρ2⟩:=q
     cases q with
     | ex C=>exact fun h H2 W2 fr2 sub2 R2=>h σ H2 W2 fr2 (fun p hp=> .inl (sub2 p hp)) R2
     | ok d nw =>
      cases d<;>first | exact fun h=>h.elim | skip
      rename_i b0;dsimp only
      cases e:ρ2[i]? with
      | none=>exact fun h=>h.elim
      | some z =>
       intro h v H2 W2 fr2 sub2 P2;have hv:v = .int b0:=P2.plain.1;exact ⟨a0,b0,rfl,hv,h _ H2 W2 fr2 (fun p hp=> .inl (sub2 p hp)) (P2.plain.2.put (by rw [P2.plain.2.len];exact (DG.mp e).1) rfl)⟩
   ·exact fun h=>h.elim⟩
theorem s_ret{f:SE}(he:JE X EX e f):JS X EX (.Return (some e) pos) (ao f) :=
 ⟨(um he.p).by fun D σ H ⟨F,ρ,W,R,h⟩=>⟨F,ρ,W,R,by
   unfold ao at h
   revert h
   cases f ρ with
   | none=>exact fun h=>h
   | some q =>
    obtain ⟨q,ρ2⟩:=q
    cases q with
    | ex C=>exact fun h H2 W2 fr2 sub2 R2=>h σ H2 W2 fr2 (fun p hp=> .inl (sub2 p hp)) R2
    | ok d nw=>exact fun h v H2 W2 fr2 sub2 P2=>h σ v H2 W2 fr2 (fun p hp=> .inl (sub2 p hp)) P2.r⟩⟩
theorem s_retV{i:Nat}{n:Str}{p2:Pos}(hN:X.N[i]?=some n)(hv:Vis X.env.scope n)(hd:(n == ("__debug__" : Str))=false:=by decide)(hcd:(n == ("__classdict__" : Str))=false:=by decide):JS X EX (.Return (some (.Name n p2)) pos) (cI i) :=
 ⟨(um (gN hN hv hd hcd)).by fun D σ H ⟨F,ρ,W,R,h⟩=>by
   unfold cI at h
   revert h
   cases e:ρ[i]? with
   | none=>exact fun h=>h.elim
   | some z =>
    cases z with
    | none=>exact fun h=>h.elim
    | some z =>
     obtain ⟨d,m⟩:=z;obtain ⟨v,hv,ok⟩:=R.slot i d m e
     cases m with
     | io=>exact fun h=>h.elim
     | fz=>exact fun h=>⟨v,hv,h σ v H W .refl (fun _ z=> .inl z) ⟨ok,R⟩⟩
     | ow =>
      intro h;obtain ⟨p,rfl,hp,hO⟩:=ok;obtain ⟨R',m1,m2,m3⟩:=R.move e hv
      exact ⟨_,hv,h σ _ H _ .refl (fun q hq=> .inl (Ey.mp hq).1) ⟨p,rfl,.inl m1,m2,m3,R'⟩⟩⟩
theorem s_expr{f:SE}(he:JE X EX e f)(hs:swapsWith e none pos.line X.env=pure false:=by rfl):JS X EX (.Expr e pos) (bU f) :=
 ⟨(p9 he.p hs).by fun D σ H ⟨F,ρ,W,R,h⟩=>⟨F,ρ,W,R,by
   unfold bU at h
   revert h
   cases f ρ with
   | none=>exact fun h=>h
   | some q =>
    obtain ⟨q,ρ2⟩:=q
    cases q with
    | ex C=>exact fun h H2 W2 fr2 sub2 R2=>h σ H2 W2 fr2 (fun p hp=> .inl (sub2 p hp)) R2
    | ok d nw=>exact fun h v H2 W2 fr2 sub2 P2=>h σ H2 W2 fr2 (fun p hp=> .inl (sub2 p hp)) P2.plain.2⟩⟩
theorem s_if{t:ST}{f g:SS}{as bs:List Stmt}(hc:JT X EX c t)(ha:JSs X EX as f)(hb:JSs X EX bs g):JS X EX (.If c as bs pos) (aI t f g) :=
 ⟨(ps_if hc.p ha.p hb.p).by fun D σ H ⟨F,ρ,W,R,h⟩=>⟨F,ρ,W,R,by
   unfold aI at h
   revert h
   cases t ρ with
   | none=>exact fun h=>h
   | some q =>
    obtain ⟨q,ρ2⟩:=q
    cases q with
    | ex C=>exact fun h H2 W2 fr2 sub2 R2=>h σ H2 W2 fr2 (fun p hp=> .inl (sub2 p hp)) R2
    | ok k =>
     cases k with
     | true=>exact fun h H2 W2 fr2 sub2 R2=>⟨F,ρ2,W2,R2,OkS.go h fr2 fun p hp=> .inl (sub2 p hp)⟩
     | false=>exact fun h H2 W2 fr2 sub2 R2=>⟨F,ρ2,W2,R2,OkS.go h fr2 fun p hp=> .inl (sub2 p hp)⟩⟩⟩
end
mutual
noncomputable def eP:D->Bool
 | .lst _=>false
 | .klst _=>false
 | .dK _ _=>false
 | .dT _ _=>false
 | .tup ds=>bS ds
 | .ktup ds=>bS ds
 | _=>true
noncomputable def bS:List D->Bool
 | []=>true
 | d::ds=>eP d&&bS ds
end
def cj:D->Bool
 | .lst ds=>bS ds
 | .dK _ ds=>bS ds
 | .dT _ ds=>bS ds
 | _=>false
section
variable{K:F2}{H:Hp}{L1 L2:List Addr}
theorem jM{p:Addr}{o:HO}(h:hid L1 H p=some o)(hm:∀ p∈L2,fE (H p))(no:¬ fE (some o)):hid L2 H p=some o:=by
 have e:=(am h).2;rw [aE fun z=>no (by have:=hm p z;rw [e] at this;exact this)];exact e
mutual
theorem ay.flat(hm:∀ p∈L2,fE (H p)):∀ {d:D} {v:V},eP d=true->ay K (hid L1 H) d v->ay K (hid L2 H) d v
 | .non,_,_,h=>h
 | .bl _,_,_,h=>h
 | .int _,_,_,h=>h
 | .str _,_,_,h=>h
 | .tup _,_,f,⟨p,xs,h1,h2,h3⟩=>⟨p,xs,h1,jM h2 hm (fun z=>z),ah.flat hm (by unfold eP at f;exact f) h3⟩
 | .ktup _,_,f,⟨p,xs,h1,h2,h3⟩=>⟨p,xs,h1,h2,ah.flat hm (by unfold eP at f;exact f) h3⟩
 | .lst _,_,f,_=>by unfold eP at f;cases f
 | .klst _,_,f,_=>by unfold eP at f;cases f
 | .dK _ _,_,f,_=>by unfold eP at f;cases f
 | .dT _ _,_,f,_=>by unfold eP at f;cases f
 | .set _,_,_,⟨p,S,h1,h2,h3⟩=>⟨p,S,h1,jM h2 hm (fun z=>z),h3⟩
 | .rng _ _,_,_,⟨p,h1,h2⟩=>⟨p,h1,jM h2 hm (fun z=>z)⟩
 | .exc _,_,_,⟨p,C,h1,h2,h3⟩=>⟨p,C,h1,h2,jM h3 hm (fun z=>z)⟩
theorem ah.flat(hm:∀ p∈L2,fE (H p)):∀ {ds:List D} {xs:List V},bS ds=true->ah K (hid L1 H) ds xs->ah K (hid L2 H) ds xs
 | [],[],_,_=>trivial
 | _::_,_::_,f,h=>by
  unfold bS at f;have f:=(DM _ _).mp f;exact ⟨ay.flat hm f.1 h.1,ah.flat hm f.2 h.2⟩
 | [],_::_,_,h=>h.elim
 | _::_,[],_,h=>h.elim
end
theorem aF.flat{H':Hp}{p:Addr}{d:D}(hm:∀ p∈L2,fE (H p))(f:cj d=true)(h:aF K H' (hid L1 H) p d):aF K H' (hid L2 H) p d:=by
 cases d<;>first
  | exact h.elim
  | (obtain ⟨xs,h1,h2,h3⟩:=h;exact ⟨xs,h1,h2,ah.flat hm f h3⟩)
  | (obtain ⟨xs,h1,h2⟩:=h;exact ⟨xs,h1,ah.flat hm f h2⟩)
end
abbrev FS:=List D->Option (Res×D)
noncomputable def spF(K:F2)(io:Option Nat)(run:FS):Sp:=fun vs H Q E=>∃ (Z W:List Addr) (ds:List D),
 vs.length=ds.length/\(∀ p∈W,p∉Z)/\(∀ p∈W++Z,fE (H p)) /\
 (∀ (j:Nat) (d:D) (v:V),io≠some j->ds[j]?=some d->vs[j]?=some v->ay K (hid (W++Z) H) d v) /\
 (∀ k,io=some k->∃ p d,vs[k]?=some (V.ref p)/\ds[k]?=some d/\W=[p]/\aF K H (hid (W++Z) H) p d) /\
 (io=none->W=[]) /\
 match run ds with
 | some (.ok d false,dio)=>∀ v H',Fr W H H'->ay K (hid (W++Z) H') d v->(∀ p,W=[p]->aF K H' (hid (W++Z) H') p dio)->Q v H'
 | some (.ok d true,dio)=>∀ q H',Fr W H H'->H q=none->aF K H' (hid (q::(W++Z)) H') q d->(∀ p,W=[p]->aF K H' (hid (q::(W++Z)) H') p dio)->Q (.ref q) H'
 | some (.ex C,dio)=>∀ H',Fr W H H'->(∀ p,W=[p]->aF K H' (hid (W++Z) H') p dio)->∀ a,qE K C a->∀ x,E (.ref a) x H'
 | none=>False
noncomputable def je(io:Option Nat):Nat->List D->Rho
 | _,[]=>[]
 | j,d::ds=>some (d,if io=some j then .io else .fz)::je io (j+1) ds
def ini(n:Nat)(io:Option Nat)(ds:List D):Rho:=je io 0 ds++List.replicate (n - ds.length) none
noncomputable def ioD(io:Option Nat)(ρ:Rho):Option D:=match io with
 | none=>some .non
 | some k=>match ρ[k]? with
  | some (some (d,.io))=>some d
  | _=>none
noncomputable def ak(np n:Nat)(io:Option Nat)(body:SS):FS:=fun ds=>if ds.length=np then
 match body (ini n io ds) with
 | some (.rt d nw,ρ')=>match ioD io ρ' with
  | some x=>some (.ok d nw,x)
  | none=>none
 | some (.nx,ρ')=>match ioD io ρ' with
  | some x=>some (.ok .non false,x)
  | none=>none
 | some (.ex C,ρ')=>match ioD io ρ' with
  | some x=>some (.ex C,x)
  | none=>none
 | _=>none else none
theorem jL{io:Option Nat}:∀ {j:Nat} {ds:List D},(je io j ds).length=ds.length
 | _,[]=>rfl
 | j,_::ds=>by unfold je;rw [Dq,Dq,jL]
theorem sL{io:Option Nat}:∀ {j i:Nat} {ds:List D} {d:D} {m:Md},(je io j ds)[i]?=some (some (d,m))->ds[i]?=some d/\m=if io=some (j+i) then .io else .fz
 | j,i,[],d,m,h=>by unfold je at h;simp at h
 | j,0,x::ds,d,m,h=>by
  unfold je at h;simp only [DR,Option.some.injEq,Prod.mk.injEq] at h;exact ⟨by rw [<- h.1];rfl,by rw [<- h.2];rfl⟩
 | j,i+1,x::ds,d,m,h=>by
  unfold je at h;simp only [DX] at h;obtain ⟨h1,h2⟩:=sL h;exact ⟨by simpa using h1,by rw [h2,show j+1+i=j+(i+1) by omega]⟩
theorem qt{n:Nat}{io:Option Nat}{i:Nat}{ds:List D}{d:D}{m:Md}(h:(ini n io ds)[i]?=some (some (d,m))):ds[i]?=some d/\m=if io=some i then .io else .fz:=by
 unfold ini at h
 by_cases hi:i < ds.length
 ·rw [DN (by rw [jL];exact hi)] at h
  have:=sL h;rw [Ew] at this;exact this
 ·rw [Eb (by rw [jL];omega),ES] at h
  split at h<;>cases h
def EXf(K:F2)(E:XK):EXT:=fun nm _ H=>∀ C,qE K nm C->∀ x,E (.ref C) x H
theorem Fun.okX{P:Program}{w:World}{K:F2}{mg:Str->Option Value}{base:Heap}{x:Str}{st:Stmt}{N ps:List Str}{k:Nat}{sp:Sp}{f:Addr}{fd:FuncData}(F:Fun K x x st f fd)(S:cW N ps (aa st))(len:∀ vs H Q E,sp vs H Q E->vs.length=ps.length)
 (hbody:∀ (f:Addr) (cdv:Value) (A:Around) (outer:List Env) (s:Shared) (H:Hp) (vs:List V) (Q:VK) (E:XK),cV k (A.deeper (envOfC x (aa st) s.heap.objs.size f cdv))->sp vs H Q E ->
   ∃ t,PSs (bZ (CXr P w) P w K mg base N x (aa st) f cdv A outer s H E) (aY st) t/\t { nx:=fun _ H'=>Q .non H',rt:=Q } (eB N vs) H):kF P w K mg base (CXr P w) (k+1) f fd ps sp:=by
 obtain ⟨oc,od,kV,doc,pm,an,cdv,ct,osl,rfl,lk,hcd⟩:=F.ex
 exact Ac lk hcd S len fun A outer s H vs Q E hr hsp=>hbody f cdv A outer s H vs Q E hr hsp
theorem Ab{f0:Addr}{fd0:FuncData}{P:Program}{w:World}{K:F2}{mg:Str->Option Value}{base:Heap}{x:Str}{st:Stmt}{N ps:List Str}{k:Nat}{io:Option Nat}{body:SS}(h:Fun K x x st f0 fd0)(S:cW N ps (aa st))
 (hb:∀ (f:Addr) (cdv:Value) (A:Around) (outer:List Env) (s:Shared) (H:Hp) (E:XK),cV k (A.deeper (envOfC x (aa st) s.heap.objs.size f cdv)) ->
   JSs (bZ (CXr P w) P w K mg base N x (aa st) f cdv A outer s H E) (EXf K E) (aY st) body) (hps:ps.length<=N.length:=by decide):kF P w K mg base (CXr P w) (k+1) f0 fd0 ps (spF K io (ak ps.length N.length io body)):=by
 have run_len:∀ {ds:List D} {r:Res×D},ak ps.length N.length io body ds=some r->ds.length=ps.length:=fun {ds r} e=>by
  unfold ak at e
  split at e
  ·assumption
  ·cases e
 refine Fun.okX h S (fun vs H Q E hs=> ?_) (fun f cdv A outer s H vs Q E hr hs=> ?_)
 ·obtain ⟨Z,W,ds,h1,_,_,_,_,_,hm⟩:=hs
  cases e:ak ps.length N.length io body ds with
  | none=>rw [e] at hm;exact hm.elim
  | some r=>rw [h1];exact run_len e
 ·obtain ⟨Z,W,ds,h1,hwz,hmt,hfz,hio,hno,hm⟩:=hs
  refine ⟨_,(hb f cdv A outer s H E hr).p,?_⟩
  have hlen:ds.length=ps.length:=by
   cases e:ak ps.length N.length io body ds with
   | none=>rw [e] at hm;exact hm.elim
   | some r=>exact run_len e
  let F:Fx:=⟨Z,fun j=>if io=some j then W.head? else none⟩
  have st_get:∀ {j:Nat} {v:V},vs[j]?=some v->(eB N vs)[j]?=some (some v):=fun {j v} e=>by
   unfold eB;rw [DN (by rw [Dp];exact (DG.mp e).1),DL,e];rfl
  have R0:Rel K F (eB N vs) H (ini N.length io ds) W:=by
   refine ⟨fun i d m hi=> ?_,fun i j d e m n p g1 g2 g3 g4 _ _=> ?_,hwz,hmt,?_⟩
   ·obtain ⟨hd,rfl⟩:=qt hi
    have hv:i < vs.length:=by rw [h1];exact (DG.mp hd).1
    refine ⟨vs[i],st_get (Do hv),?_⟩
    by_cases e:io=some i
    ·rw [if_pos e]
     obtain ⟨p,d',q1,q2,q3,q4⟩:=hio i e;rw [Do hv] at q1;rw [hd] at q2;cases q2;refine ⟨p,Option.some.inj q1,by rw [q3];exact DC,q4,?_⟩
     show (if io=some i then W.head? else none)=some p
     rw [if_pos e,q3];rfl
    ·rw [if_neg e]
     exact hfz i d _ e hd (Do hv)
   ·obtain ⟨_,e1⟩:=qt g1
    obtain ⟨_,e2⟩:=qt g3
    by_cases z1:io=some i
    ·by_cases z2:io=some j
     ·rw [z1] at z2;exact Option.some.inj z2
     ·rw [if_neg z2] at e2;exact absurd e2 g4
    ·rw [if_neg z1] at e1;exact absurd e1 g2
   ·unfold eB ini
    rw [DD,DD,Dp,Er,Er,jL,h1]
  refine ⟨F,_,W,R0,?_⟩
  have ioR:∀ {σ':St} {H':Hp} {ρ':Rho} {W':List Addr} {x:D} {p:Addr},Rel K F σ' H' ρ' W'->ioD io ρ'=some x->W=[p]->p∈W'/\aF K H' (hid (W'++Z) H') p x:=fun {σ' H' ρ' W' x p} R e hW=>by
   cases hk:io with
   | none=>rw [hno hk] at hW;cases hW
   | some k =>
    unfold ioD at e;rw [hk] at e;dsimp only at e
    split at e
    ·rename_i d0 e0
     cases e;obtain ⟨v,g1,q,g2,g3,g4,g5⟩:=R.slot k _ _ e0;have g5:(if io=some k then W.head? else none)=some q:=g5;rw [if_pos hk,hW] at g5;have:p=q:=Option.some.inj g5;subst this;exact ⟨g3,g4⟩
    ·cases e
  have wsub:∀ {σ':St} {H':Hp} {ρ':Rho} {W':List Addr} {x:D},Rel K F σ' H' ρ' W'->ioD io ρ'=some x->∀ b,b∈W++Z->b∈W'++Z:=fun {σ' H' ρ' W' x} R e b hb=>by
   rcases DT.mp hb with z | z
   ·cases hk:io with
    | none=>rw [hno hk] at z;cases z
    | some k =>
     obtain ⟨p,d,_,_,q3,_⟩:=hio k hk;rw [q3] at z;rw [DQ.mp z];exact Dz _ (ioR R e q3).1
   ·exact Du _ z
  have toW:∀ {σ':St} {H' H2:Hp} {ρ':Rho} {W':List Addr} {x:D},Rel K F σ' H2 ρ' W'->ioD io ρ'=some x->ac (hid (W'++Z) H') (hid (W++Z) H'):=fun R e=>aR (fun b hb=> .inl (wsub R e b hb)) fun b o _ z=>z
  revert hm
  unfold ak;rw [if_pos hlen]
  cases body (ini N.length io ds) with
  | none=>exact fun h=>h.elim
  | some r =>
   obtain ⟨r,ρ'⟩:=r
   cases r with
   | bk=>exact fun h=>h.elim
   | ct=>exact fun h=>h.elim
   | nx =>
    dsimp only
    cases e:ioD io ρ' with
    | none=>exact fun h=>h.elim
    | some x =>
     intro hm σ' H' W' fr sub R
     exact hm .non H' fr rfl fun p hp=>(ioR R e hp).2.at rfl (toW R e)
   | ex C =>
    dsimp only
    cases e:ioD io ρ' with
    | none=>exact fun h=>h.elim
    | some x =>
     intro hm σ' H' W' fr sub R
     exact hm H' fr fun p hp=>(ioR R e hp).2.at rfl (toW R e)
   | rt d nw =>
    dsimp only
    cases e:ioD io ρ' with
    | none=>exact fun h=>h.elim
    | some x =>
     cases nw with
     | false =>
      intro hm σ' v H' W' fr sub P
      exact hm v H' fr ((toW P.2 e).repD P.1) fun p hp=>(ioR P.2 e hp).2.at rfl (toW P.2 e)
     | true =>
      intro hm σ' v H' W' fr sub P;obtain ⟨q,rfl,hq,hn,hO,R⟩:=P
      have hq0:H q=none:=by
       rcases hq with z | z
       ·cases hk:io with
        | none=>rw [hno hk] at z;cases z
        | some k =>
         obtain ⟨p,d',_,_,q3,_⟩:=hio k hk;rw [q3] at z;have:q=p:=DQ.mp z;subst this;exact absurd (Dz _ (ioR R e q3).1) hn
       ·exact z
      have cs:ac (hid (q::(W'++Z)) H') (hid (q::(W++Z)) H'):=aR (fun b hb=> .inl (by
       rcases Dx.mp hb with z | z
       ·rw [z];exact DC
       ·exact Dv _ (wsub R e b z))) fun b o _ z=>z
      refine hm q H' fr hq0 (hO.at rfl cs) fun p hp=> ?_
      obtain ⟨m1,m2⟩:=ioR R e hp
      have pq:p≠q:=fun z=>by subst z;exact hn (Dz _ m1)
      refine m2.at (aE (by simpa using pq)).symm fun b o z=> ?_
      obtain ⟨z1,z2⟩:=am z;obtain ⟨z3,z4⟩:=am z2
      rw [aE (fun y=>by
       rcases Dx.mp y with y | y
       ·exact z3 (by simpa using y)
       ·exact z1 (wsub R e b y))]
      exact z4
theorem fn_ok{P:Program}{w:World}{K:F2}{mg:Str->Option Value}{base:Heap}{x:Str}{st:Stmt}{N ps:List Str}{k:Nat}{io:Option Nat}{body:SS}(h:Has K mg x st ps)(S:cW N ps (aa st))
 (hb:∀ (f:Addr) (cdv:Value) (A:Around) (outer:List Env) (s:Shared) (H:Hp) (E:XK),cV k (A.deeper (envOfC x (aa st) s.heap.objs.size f cdv)) ->
   JSs (bZ (CXr P w) P w K mg base N x (aa st) f cdv A outer s H E) (EXf K E) (aY st) body) (hps:ps.length<=N.length:=by decide):OkX P w K mg base x ps (k+1) (spF K io (ak ps.length N.length io body)):=by
 obtain ⟨f,fd,F,hm,hb'⟩:=h.ex;exact ⟨f,fd,hm,F.kp,hb',Ab F S hb hps⟩
section
variable{K:F2}{F:Fx}{EX:EXT}{σ:St}{H H2:Hp}{ρ:Rho}{W:List Addr}
theorem Rel.wrote(R:Rel K F σ H ρ W){i:Nat}{d d':D}{m:Md}{p:Addr}(h:ρ[i]?=some (some (d,m)))(hm:m ≠ .fz)(hp:σ[i]?=some (some (.ref p)))(fr:Fr [p] H H2)(new:aF K H2 (hid (W++F.Z) H2) p d') :
 Rel K F σ H2 (ρ.set i (some (d',m))) W:=by
 obtain ⟨v,hv,hS⟩:=R.slot i d m h;rw [hp] at hv;cases hv
 have hw:p∈W:=by
  cases m with
  | fz=>exact absurd rfl hm
  | ow=>obtain ⟨r,e2,e3,_⟩:=hS;cases e2;exact e3
  | io=>obtain ⟨r,e2,e3,_⟩:=hS;cases e2;exact e3
 have sh:ac (hid (W++F.Z) H) (hid (W++F.Z) H2):=aR (fun b hb=> .inl hb) fun b o n e=>fr.keep b o (fun z=>n (by rw [DQ.mp z];exact Dz _ hw)) e
 have eq:∀ r,r≠p->fE (H r)->H2 r=H r:=fun r hr hM=>by
  obtain ⟨u,q⟩:=hM.some;rw [q];exact fr.keep r u (by simpa using hr) q
 refine ⟨fun j e n hj=> ?_,fun j k e f n n' r h1 h2 h3 h4 h5 h6=> ?_,R.wz,fun r hr=> ?_,by rw [EC];exact R.len⟩
 ·rcases bn hj with ⟨rfl,e1⟩ | ⟨ne,e1⟩
  ·cases e1
   refine ⟨_,hp,?_⟩
   cases m with
   | fz=>exact absurd rfl hm
   | ow=>exact ⟨p,rfl,hw,new⟩
   | io=>obtain ⟨r,e2,e3,e4,e5⟩:=hS;cases e2;exact ⟨p,rfl,hw,new,e5⟩
  ·obtain ⟨v,g1,g2⟩:=R.slot j e n e1
   refine ⟨v,g1,?_⟩
   have other:∀ r,v = .ref r->n ≠ .fz->r≠p:=fun r er hn z=>by
    subst er z;exact ne (R.apart j i _ _ _ _ _ e1 hn h hm g1 hp)
   cases n with
   | fz=>exact sh.repD g2
   | ow=>obtain ⟨r,e2,e3,e4⟩:=g2;exact ⟨r,e2,e3,e4.at (eq r (other r e2 (by decide)) e4.mu) sh⟩
   | io=>obtain ⟨r,e2,e3,e4,e5⟩:=g2;exact ⟨r,e2,e3,e4.at (eq r (other r e2 (by decide)) e4.mu) sh,e5⟩
 ·have fnd:∀ {j:Nat} {e:D} {n:Md},(ρ.set i (some (d',m)))[j]?=some (some (e,n))->n ≠ .fz->∃ e',ρ[j]?=some (some (e',n)):=fun {j e n} hj hn=>by
   rcases bn hj with ⟨rfl,e1⟩ | ⟨_,e1⟩
   ·cases e1;exact ⟨d,h⟩
   ·exact ⟨_,e1⟩
  obtain ⟨_,z1⟩:=fnd h1 h2;obtain ⟨_,z2⟩:=fnd h3 h4;exact R.apart j k _ _ _ _ _ z1 h2 z2 h4 h5 h6
 ·by_cases e:r=p
  ·subst e;exact new.mu
  ·rw [eq r e (R.mt r hr)];exact R.mt r hr
variable(K F σ H ρ W) in
noncomputable def ArgR:Arg->D->V->Prop
 | .ex _,d,v=>ay K (hid (W++F.Z) H) d v
 | .bor i,d,v=>σ[i]?=some (some v)/\∃ m,ρ[i]?=some (some (d,m))
variable(K F σ H ρ W) in
noncomputable def fY:List Arg->List D->List V->Prop
 | [],[],[]=>True
 | a::as,d::ds,v::vs=>ArgR K F σ H ρ W a d v/\fY as ds vs
 | _,_,_=>False
theorem fY.len:∀ {as:List Arg} {ds:List D} {vs:List V},fY K F σ H ρ W as ds vs->vs.length=ds.length
 | [],[],[],_=>rfl
 | _::_,_::_,_::_,h=>by rw [Dq,Dq,fY.len h.2]
 | [],_::_,_,h=>h.elim
 | [],[],_::_,h=>h.elim
 | _::_,[],_,h=>h.elim
 | _::_,_::_,[],h=>h.elim
theorem fY.get:∀ {as:List Arg} {ds:List D} {vs:List V} {j:Nat} {d:D} {v:V},fY K F σ H ρ W as ds vs->ds[j]?=some d->vs[j]?=some v->∃ a,as[j]?=some a/\ArgR K F σ H ρ W a d v
 | a::_,_::_,_::_,0,d,v,h,e1,e2=>by
  simp only [DR,Option.some.injEq] at e1 e2;subst e1 e2;exact ⟨a,rfl,h.1⟩
 | _::_,_::_,_::_,j+1,d,v,h,e1,e2=>by
  simp only [DX] at e1 e2 ⊢;exact fY.get h.2 e1 e2
 | [],[],[],_,_,_,_,e,_=>by simp at e
 | [],_::_,_,_,_,_,h,_,_=>h.elim
 | [],[],_::_,_,_,_,h,_,_=>h.elim
 | _::_,[],_,_,_,_,h,_,_=>h.elim
 | _::_,_::_,[],_,_,_,h,_,_=>h.elim
theorem fY.at:∀ {as:List Arg} {ds:List D} {vs:List V} {j:Nat} {a:Arg},fY K F σ H ρ W as ds vs->as[j]?=some a->∃ d v,ds[j]?=some d/\vs[j]?=some v/\ArgR K F σ H ρ W a d v
 | a::_,d::_,v::_,0,b,h,e1=>by
  simp only [DR,Option.some.injEq] at e1;subst e1;exact ⟨d,v,rfl,rfl,h.1⟩
 | _::_,_::_,_::_,j+1,a,h,e1=>by
  simp only [DX] at e1 ⊢;exact fY.at h.2 e1
 | [],[],[],_,_,_,e=>by simp at e
 | [],_::_,_,_,_,h,_=>h.elim
 | [],[],_::_,_,_,h,_=>h.elim
 | _::_,[],_,_,_,h,_=>h.elim
 | _::_,_::_,[],_,_,h,_=>h.elim
variable(K F EX) in
noncomputable def OkA2(σ:St)(H:Hp)(W:List Addr)(as:List Arg)(o:Option (qO×Rho))(Q:List V->Hp->Prop):Prop:=match o with
 | some (.ok ds,ρ')=>∀ vs H' W',Fr W H H'->(∀ p∈W',p∈W)->Rel K F σ H' ρ' W'->fY K F σ H' ρ' W' as ds vs->Q vs H'
 | some (.ex C,ρ')=>∀ H' W',Fr W H H'->(∀ p∈W',p∈W)->Rel K F σ H' ρ' W'->EX C σ H'
 | none=>False
theorem u9:∀ (as:List Arg) {H:Hp} {ρ:Rho} {W:List Addr} {Q:List V->Hp->Prop},Rel K F σ H ρ W->OkA2 K F EX σ H W as (evA as ρ) Q->tAs K EX as σ H Q
 | [],H,ρ,W,Q,R,h=>h [] H W .refl (fun _ z=>z) R trivial
 | .ex f::as,H,ρ,W,Q,R,h=>by
  refine ⟨F,ρ,W,R,?_⟩;unfold evA at h
  revert h
  cases f ρ with
  | none=>exact fun h=>h
  | some r =>
   obtain ⟨r,ρ1⟩:=r
   cases r with
   | ex C=>exact fun h=>h
   | ok d nw =>
    intro h v H1 W1 fr sub post;obtain ⟨rd,R1⟩:=post.plain;refine u9 as R1 ?_
    revert h
    dsimp only
    cases evA as ρ1 with
    | none=>exact fun h=>h
    | some q =>
     obtain ⟨q,ρ2⟩:=q
     cases q with
     | ex C=>exact fun h H2 W2 fr2 sub2 R2=>h H2 W2 (fr.trans fr2 fun p hp=> .inl (sub p hp)) (fun p hp=>sub p (sub2 p hp)) R2
     | ok ds =>
      intro h vs H2 W2 fr2 sub2 R2 reps;exact h (v::vs) H2 W2 (fr.trans fr2 fun p hp=> .inl (sub p hp)) (fun p hp=>sub p (sub2 p hp)) R2 ⟨(fr2.hid fun p hp=> .inl (sub2 p hp)).repD rd,reps⟩
 | .bor i::as,H,ρ,W,Q,R,h=>by
  unfold evA at h
  revert h
  cases e:ρ[i]? with
  | none=>exact fun h=>h.elim
  | some z =>
   cases z with
   | none=>exact fun h=>h.elim
   | some dm =>
    obtain ⟨d0,m0⟩:=dm;obtain ⟨v,hv,_⟩:=R.slot i d0 m0 e;intro h;refine ⟨v,hv,u9 as R ?_⟩
    revert h
    dsimp only
    cases evA as ρ with
    | none=>exact fun h=>h
    | some q =>
     obtain ⟨q,ρ2⟩:=q
     cases q with
     | ex C=>exact fun h=>h
     | ok ds =>
      dsimp only
      cases e2:ρ2[i]? with
      | none=>exact fun h=>h.elim
      | some z =>
       cases z with
       | none=>exact fun h=>h.elim
       | some dm =>
        obtain ⟨d,m⟩:=dm;intro h vs H2 W2 fr2 sub2 R2 reps;exact h (v::vs) H2 W2 fr2 sub2 R2 ⟨⟨hv,m,e2⟩,reps⟩
end
structure n8(X:Cx)(EX:EXT):Prop where
 call:∀ {x:Str} {ps:List Str} {k:Nat} {sp:Sp} {e:Expr} {es:List Expr} {t:TA} {p pos:Pos} (h:OkX X.prog X.w X.K X.mg X.base x ps k sp) (hr:cV k X.A) (hg:Gl X x) (ha:PA X (e::es) t) (hdb:(x == ("__debug__" : Str))=false)
  (he:starEach (e::es) X.env=(false,eval e X.env)::starEach es X.env) (hpl:(backTo pos (starEach es X.env)).any (·.1)=false),PE X (.Call (.Name x p) (e::es) [] pos) (fun σ H Q=>t σ H fun vs H1=>sp vs H1 Q fun c _ H'=>∃ nm C,c = .ref C/\qE X.K nm C/\EX nm σ H')
def EXn:EXT:=fun _ _ _=>False
theorem nQ{sp:Sp}{Q:VK}{E:XK}:(fun (vs:List V) H1=>sp (vs++[]) H1 Q E)=fun vs H1=>sp vs H1 Q E:=by
 funext vs H1
 rw [Ec]
theorem uQ{X:Cx}:n8 X EXn:=⟨fun {x ps k sp e es t p pos} h hr hg ha hdb he hpl=>by
 obtain ⟨f,fd,hm,hk,hb,F⟩:=h.ex
 refine (vL F hr hg hm hk hb .nil (E:=fun c _ H'=>∃ nm C,c=Value.ref C/\qE X.K nm C/\False) (fun _ _ _ _ _ _ _ hZ=>(by obtain ⟨_,_,_,_,_,_,_,_,_,_,_,_,_,_,z⟩:=hZ;exact z.elim)) ha hdb he hpl).by fun σ H Q h=> ?_
 unfold yg;rw [nQ]
 exact h⟩
theorem uR{P:Program}{w:World}{K:F2}{mg:Str->Option Value}{base:Heap}{N:List Str}{qual:Str}{scope:Scope}{f:Addr}{cd:Value}{A:Around}{outer:List Env}{s:Shared}{H:Hp}{E:XK} :
 n8 (bZ (CXr P w) P w K mg base N qual scope f cd A outer s H E) (EXf K E):=⟨fun {x ps k sp e es t p pos} h hr hg ha hdb he hpl=>by
 obtain ⟨f',fd,hm,hk,hb,F⟩:=h.ex
 refine (vL (X:=bZ (CXr P w) P w K mg base N qual scope f cd A outer s H E) F hr hg hm hk hb .nil (E:=fun c _ H'=>∃ nm C,c=Value.ref C/\qE K nm C/\∀ C',qE K nm C'->∀ x,E (.ref C') x H') (za fun c d H' z=>by obtain ⟨nm,C,rfl,hc,z⟩:=z;exact z C hc d) ha hdb he hpl).by fun σ H Q h=> ?_
 unfold yg;rw [nQ]
 exact h⟩
noncomputable def cf(io:Option Nat):Nat->List Arg->Rho->Bool
 | _,[],_=>true
 | j,.ex _::as,ρ=>cf io (j+1) as ρ
 | j,.bor i::as,ρ=>(if io=some j then true else match ρ[i]? with
  | some (some (_,.fz))=>true
  | _=>false)&&cf io (j+1) as ρ
noncomputable def g9(i k:Nat):Nat->List Arg->Bool
 | _,[]=>true
 | j,.ex _::as=>g9 i k (j+1) as
 | j,.bor i'::as=>(decide (j=k)||decide (i'≠i))&&g9 i k (j+1) as
noncomputable def ioOk(io:Option Nat)(as:List Arg)(slot:Option Nat):Bool:=match io,slot with
 | none,none=>true
 | some k,some i=>(match as[k]? with
  | some (.bor i')=>decide (i'=i)
  | _=>false)&&g9 i k 0 as
 | _,_=>false
noncomputable def eJ(slot:Option Nat)(dio:D)(ρ:Rho):Option Rho:=match slot with
 | none=>some ρ
 | some i=>match ρ[i]? with
  | some (some (_,.ow))=>some (ρ.set i (some (dio,.ow)))
  | some (some (_,.io))=>some (ρ.set i (some (dio,.io)))
  | _=>none
def gy(d:D)(nw:Bool):Bool:=if nw then cj d else eP d
noncomputable def ae(io slot:Option Nat)(run:FS)(as:List Arg):SE:=fun ρ=>match evA as ρ with
 | some (.ok ds,ρ1)=>match run ds with
  | some (.ok d nw,dio)=>if (cf io 0 as ρ1||(gy d nw&&(io.isNone||cj dio)))=true then
   match eJ slot dio ρ1 with
   | some ρ2=>some (.ok d nw,ρ2)
   | none=>none
   else none
  | some (.ex C,dio)=>if (cf io 0 as ρ1||(io.isNone||cj dio))=true then
   match eJ slot dio ρ1 with
   | some ρ2=>some (.ex C,ρ2)
   | none=>none
   else none
  | none=>none
 | some (.ex C,ρ')=>some (.ex C,ρ')
 | none=>none
theorem ic{io:Option Nat}{ρ:Rho}:∀ {as:List Arg} {j n:Nat} {i:Nat},cf io n as ρ=true->as[j]?=some (.bor i)->io≠some (n+j)->∃ d,ρ[i]?=some (some (d,.fz))
 | [],j,n,i,h,e,_=>by simp at e
 | .ex _::as,0,n,i,h,e,_=>by simp at e
 | .bor i'::as,0,n,i,h,e,ne=>by
  simp only [DR,Option.some.injEq,Arg.bor.injEq] at e;subst e;unfold cf at h;have h:=((DM _ _).mp h).1;rw [if_neg (by simpa using ne)] at h
  split at h
  ·exact ⟨_,by assumption⟩
  ·cases h
 | .ex _::as,j+1,n,i,h,e,ne=>by
  unfold cf at h;exact ic (j:=j) (n:=n+1) h (by simpa using e) (by rw [show n+1+j=n+(j+1) by omega];exact ne)
 | .bor _::as,j+1,n,i,h,e,ne=>by
  unfold cf at h;exact ic (j:=j) (n:=n+1) ((DM _ _).mp h).2 (by simpa using e) (by rw [show n+1+j=n+(j+1) by omega];exact ne)
theorem jh{i k:Nat}:∀ {as:List Arg} {j n:Nat} {i':Nat},g9 i k n as=true->as[j]?=some (.bor i')->n+j≠k->i'≠i
 | [],j,n,i',h,e,_=>by simp at e
 | .ex _::as,0,n,i',h,e,_=>by simp at e
 | .bor i2::as,0,n,i',h,e,ne=>by
  simp only [DR,Option.some.injEq,Arg.bor.injEq] at e;subst e;unfold g9 at h;have h:=((DM _ _).mp h).1
  rcases (FE _ _).mp h with z | z
  ·exact absurd (by simpa using DI z) ne
  ·exact DI z
 | .ex _::as,j+1,n,i',h,e,ne=>by
  unfold g9 at h;exact jh (j:=j) (n:=n+1) h (by simpa using e) (by omega)
 | .bor _::as,j+1,n,i',h,e,ne=>by
  unfold g9 at h;exact jh (j:=j) (n:=n+1) ((DM _ _).mp h).2 (by simpa using e) (by omega)
section
variable{K:F2}{F:Fx}{σ:St}{H:Hp}{ρ:Rho}{W:List Addr}
theorem Cq{io slot:Option Nat}{as:List Arg}{ds:List D}{vs:List V}{dio:D}{ρ2:Rho}(R:Rel K F σ H ρ W)(A:fY K F σ H ρ W as ds vs)(hio:ioOk io as slot=true)(hput:eJ slot dio ρ=some ρ2) :
 ∃ Wc Zc,(∀ p∈Wc,p∉Zc)/\(∀ b,b∈Wc++Zc->b∈W++F.Z)/\(∀ p∈Wc,p∈W)/\(cf io 0 as ρ=true->∀ b,b∈W++F.Z->b∈Wc++Zc) /\
  (∀ (j:Nat) (d:D) (v:V),io≠some j->ds[j]?=some d->vs[j]?=some v->ay K (hid (Wc++Zc) H) d v) /\
  (∀ k,io=some k->∃ p d,vs[k]?=some (V.ref p)/\ds[k]?=some d/\Wc=[p]/\aF K H (hid (Wc++Zc) H) p d)/\(io=none->Wc=[]) /\
  ∀ H2,Fr Wc H H2->(∀ p,Wc=[p]->aF K H2 (hid (W++F.Z) H2) p dio)->Rel K F σ H2 ρ2 W:=by
 cases io with
 | none =>
  cases slot with
  | some i=>cases hio
  | none =>
   cases hput
   have fin:∀ H2,Fr [] H H2->Rel K F σ H2 ρ W:=fun H2 fr=>R.same fun b o e=>fr.keep b o (by simp) e
   by_cases hn:cf none 0 as ρ=true
   ·refine ⟨[],W++F.Z,fun p hp=>by simp at hp,fun b hb=>by simpa using hb,fun p hp=>by simp at hp,fun _ b hb=>by simpa using hb,fun j d v _ e1 e2=> ?_,fun k z=>(by cases z),fun _=>rfl,fun H2 fr _=>fin H2 fr⟩
    obtain ⟨a,ea,ra⟩:=A.get e1 e2
    cases a with
    | ex f=>exact ra
    | bor i =>
     obtain ⟨d',hd'⟩:=ic hn ea (by simp);obtain ⟨q1,m,q2⟩:=ra;rw [hd'] at q2;cases q2;obtain ⟨v',q3,q4⟩:=R.slot i _ _ hd';rw [q1] at q3;cases q3;exact q4
   ·refine ⟨[],F.Z,fun p hp=>by simp at hp,fun b hb=>Du _ (by simpa using hb),fun p hp=>by simp at hp,fun z=>absurd z hn,fun j d v _ e1 e2=> ?_,fun k z=>(by cases z),fun _=>rfl,fun H2 fr _=>fin H2 fr⟩
    have sh:ac (hid (W++F.Z) H) (hid ([]++F.Z) H):=aR (fun b hb=> .inl (Du _ (by simpa using hb))) fun b o _ e=>e
    obtain ⟨a,ea,ra⟩:=A.get e1 e2
    cases a with
    | ex f=>exact sh.repD ra
    | bor i =>
     obtain ⟨q1,m,q2⟩:=ra;obtain ⟨v',q3,q4⟩:=R.slot i _ _ q2;rw [q1] at q3;cases q3
     cases m with
     | fz=>exact sh.repD q4
     | ow=>obtain ⟨p,rfl,hp,hO⟩:=q4;exact hO.rep (aE (by simpa using R.wz p hp)) sh
     | io=>obtain ⟨p,rfl,hp,hO,_⟩:=q4;exact hO.rep (aE (by simpa using R.wz p hp)) sh
 | some k =>
  cases slot with
  | none=>cases hio
  | some i =>
   have hio:((match as[k]? with
    | some (.bor i')=>decide (i'=i)
    | _=>false)&&g9 i k 0 as)=true:=hio
   obtain ⟨h1,hap⟩:=(DM _ _).mp hio
   have hk:as[k]?=some (.bor i):=by
    split at h1
    ·rename_i i' e
     rw [e,DI h1]
    ·cases h1
   have hm:∃ d0 m,ρ[i]?=some (some (d0,m))/\m ≠ .fz/\ρ2=ρ.set i (some (dio,m)):=by
    unfold eJ at hput;dsimp only at hput
    split at hput
    ·rename_i d0 e;cases hput;exact ⟨d0,_,e,by decide,rfl⟩
    ·rename_i d0 e;cases hput;exact ⟨d0,_,e,by decide,rfl⟩
    ·cases hput
   obtain ⟨d0,m,e0,hmf,rfl⟩:=hm;obtain ⟨v0,g1,g2⟩:=R.slot i d0 m e0
   have own:∃ p,v0 = .ref p/\p∈W/\aF K H (hid (W++F.Z) H) p d0:=by
    cases m with
    | fz=>exact absurd rfl hmf
    | ow=>exact g2
    | io=>obtain ⟨p,z1,z2,z3,_⟩:=g2;exact ⟨p,z1,z2,z3⟩
   obtain ⟨p,rfl,hpW,hO⟩:=own;obtain ⟨dk,vk,f1,f2,f3,mk,f4⟩:=A.at hk;rw [g1] at f3;cases f3;rw [e0] at f4;cases f4
   have fin:∀ H2,Fr [p] H H2->(∀ q,[p]=[q]->aF K H2 (hid (W++F.Z) H2) q dio)->Rel K F σ H2 (ρ.set i (some (dio,m))) W:=fun H2 fr new=>R.wrote e0 hmf g1 fr (new p rfl)
   have oth:∀ (j:Nat) (i':Nat) (d:D) (v:V) (m':Md),some k≠some j->as[j]?=some (.bor i')->σ[i']?=some (some v)->ρ[i']?=some (some (d,m'))->m' ≠ .fz->v ≠ .ref p:=fun j i' d v m' ne ea q1 q2 hm' z=>by
    have ni:i'≠i:=jh hap ea (fun z=>ne (by rw [<- z,Ew]));subst z;exact ni (R.apart i' i _ _ _ _ _ q2 hm' e0 hmf q1 g1)
   by_cases hn:cf (some k) 0 as ρ=true
   ·have m1:∀ b,b∈[p]++(W.filter (fun a=>decide (a≠p))++F.Z)->b∈W++F.Z:=fun b hb=>by
     rcases DT.mp hb with z | z
     ·rw [DQ.mp z];exact Dz _ hpW
     ·rcases DT.mp z with z | z
      ·exact Dz _ (Ey.mp z).1
      ·exact Du _ z
    have m2:∀ b,b∈W++F.Z->b∈[p]++(W.filter (fun a=>decide (a≠p))++F.Z):=fun b hb=>by
     by_cases z:b=p
     ·rw [z];exact Dz _ (DQ.mpr rfl)
     ·refine Du _ ?_
      rcases DT.mp hb with y | y
      ·exact Dz _ (Ey.mpr ⟨y,Dy z⟩)
      ·exact Du _ y
    have sh:ac (hid (W++F.Z) H) (hid ([p]++(W.filter (fun a=>decide (a≠p))++F.Z)) H):=aR (fun b hb=> .inl (m1 b hb)) fun b o _ e=>e
    refine ⟨[p],W.filter (fun a=>decide (a≠p))++F.Z,fun q hq z=> ?_,m1,fun q hq=>by rw [DQ.mp hq];exact hpW,fun _=>m2,fun j d v ne e1 e2=> ?_,fun k' z=> ?_,fun z=>(by cases z),fin⟩
    ·rw [DQ.mp hq] at z
     rcases DT.mp z with y | y
     ·exact absurd rfl (DI (Ey.mp y).2)
     ·exact R.wz p hpW y
    ·obtain ⟨a,ea,ra⟩:=A.get e1 e2
     cases a with
     | ex f=>exact sh.repD ra
     | bor i' =>
      obtain ⟨d',hd'⟩:=ic hn ea (by rw [Ew];exact ne);obtain ⟨q1,m',q2⟩:=ra;rw [hd'] at q2;cases q2;obtain ⟨v',q3,q4⟩:=R.slot i' _ _ hd';rw [q1] at q3;cases q3;exact sh.repD q4
    ·cases z
     exact ⟨p,_,f2,f1,rfl,hO.at rfl sh⟩
   ·have m1:∀ b,b∈[p]++F.Z->b∈W++F.Z:=fun b hb=>by
     rcases DT.mp hb with z | z
     ·rw [DQ.mp z];exact Dz _ hpW
     ·exact Du _ z
    have sh:ac (hid (W++F.Z) H) (hid ([p]++F.Z) H):=aR (fun b hb=> .inl (m1 b hb)) fun b o _ e=>e
    refine ⟨[p],F.Z,fun q hq z=>by rw [DQ.mp hq] at z;exact R.wz p hpW z,m1,fun q hq=>by rw [DQ.mp hq];exact hpW,fun z=>absurd z hn,fun j d v ne e1 e2=> ?_,fun k' z=> ?_,fun z=>(by cases z),fin⟩
    ·obtain ⟨a,ea,ra⟩:=A.get e1 e2
     cases a with
     | ex f=>exact sh.repD ra
     | bor i' =>
      obtain ⟨q1,m',q2⟩:=ra;obtain ⟨v',q3,q4⟩:=R.slot i' _ _ q2;rw [q1] at q3;cases q3
      have out:∀ r,v = .ref r->m' ≠ .fz->r∈W->r∉[p]++F.Z:=fun r er hm' hr z=>by
       rcases DT.mp z with y | y
       ·rw [DQ.mp y] at er
        exact oth j i' _ _ _ ne ea q1 q2 hm' er
       ·exact R.wz r hr y
      cases m' with
      | fz=>exact sh.repD q4
      | ow=>obtain ⟨r,rfl,hr,hO'⟩:=q4;exact hO'.rep (aE (out r rfl (by decide) hr)) sh
      | io=>obtain ⟨r,rfl,hr,hO',_⟩:=q4;exact hO'.rep (aE (out r rfl (by decide) hr)) sh
    ·cases z
     exact ⟨p,_,f2,f1,rfl,hO.at rfl sh⟩
end
section
variable{X:Cx}{EX:EXT}{e:Expr}{es:List Expr}{as:List Arg}
theorem mj{L L':List Addr}{H:Hp}(h:∀ b,b∈L'->b∈L):ac (hid L H) (hid L' H):=aR (fun b hb=> .inl (h b hb)) fun b o _ e=>e
theorem AB{x:Str}{ps:List Str}{k k':Nat}{io slot:Option Nat}{run:FS}{p pos:Pos}(C:n8 X EX)(h:OkX X.prog X.w X.K X.mg X.base x ps k (spF X.K io run))(hr:cV k' X.A)(hk:k<=k')(hg:Gl X x)(ha:JA X EX (e::es) as)
 (hio:ioOk io as slot=true:=by rfl) (hdb:(x == ("__debug__" : Str))=false:=by decide) (he:starEach (e::es) X.env=(false,eval e X.env)::starEach es X.env:=by rfl) (hpl:(backTo pos (starEach es X.env)).any (·.1)=false:=by rfl) :
 JE X EX (.Call (.Name x p) (e::es) [] pos) (ae io slot run as) :=
 ⟨(C.call h (hr.mono hk) hg ha.p hdb he hpl).by fun σ H Q ⟨F,ρ,W,R,h⟩=>by
   refine u9 as R ?_;unfold ae at h
   revert h
   cases evA as ρ with
   | none=>exact fun h=>h
   | some q =>
    obtain ⟨q,ρ1⟩:=q
    cases q with
    | ex C=>exact fun h=>h
    | ok ds =>
     dsimp only
     cases er:run ds with
     | none=>exact fun h=>h.elim
     | some r =>
      obtain ⟨r,dio⟩:=r
      have key:∀ {ρ2:Rho} {vs:List V} {H1:Hp} {W1:List Addr} (b:Bool),Rel X.K F σ H1 ρ1 W1->fY X.K F σ H1 ρ1 W1 as ds vs->eJ slot dio ρ1=some ρ2->(cf io 0 as ρ1||(b&&(io.isNone||cj dio)))=true ->
       ∃ Wc Zc,(∀ p∈Wc,p∉Zc)/\(∀ p∈Wc++Zc,fE (H1 p))/\(∀ p∈Wc,p∈W1) /\
        (∀ (j:Nat) (d:D) (v:V),io≠some j->ds[j]?=some d->vs[j]?=some v->ay X.K (hid (Wc++Zc) H1) d v) /\
        (∀ k,io=some k->∃ p d,vs[k]?=some (V.ref p)/\ds[k]?=some d/\Wc=[p]/\aF X.K H1 (hid (Wc++Zc) H1) p d)/\(io=none->Wc=[]) /\
        ∀ H2 Q',Fr Wc H1 H2->(∀ b,b∈Q'->H1 b=none)->(∀ p,Wc=[p]->aF X.K H2 (hid (Q'++(Wc++Zc)) H2) p dio) ->
         Rel X.K F σ (hid Q' H2) ρ2 W1/\(∀ p∈W1++F.Z,fE (H2 p))/\((∀ b,b∈W1++F.Z->b∈Wc++Zc)\/b=true):=fun {ρ2 vs H1 W1} b R1 A1 hput hc=>by
       obtain ⟨Wc,Zc,c1,c2,c3,c4,c5,c6,c7,c8⟩:=Cq R1 A1 hio hput;refine ⟨Wc,Zc,c1,fun p hp=>R1.mt p (c2 p hp),c3,c5,c6,c7,fun H2 Q' fr hQ own=> ?_⟩
       have wc1:∀ p∈Wc,Wc=[p]:=fun p hp=>by
        cases hz:io with
        | none=>rw [c7 hz] at hp;cases hp
        | some k =>
         obtain ⟨p',_,_,_,e,_⟩:=c6 k hz;rw [e] at hp ⊢;rw [DQ.mp hp]
       have mt2:∀ p∈W1++F.Z,fE (H2 p):=fun p hp=>by
        by_cases z:p∈Wc
        ·exact (own p (wc1 p z)).mu
        ·obtain ⟨u,q⟩:=(R1.mt p hp).some
         rw [fr.keep p u z q,<- q];exact R1.mt p hp
       have qn:∀ p∈W1++F.Z,p∉Q':=fun p hp z=>by
        have:=R1.mt p hp;rw [hQ p z] at this;exact this
       have fr2:Fr Wc H1 (hid Q' H2):=⟨fun b o n e=>by
        rw [aE (fun z=>by rw [hQ b z] at e;cases e)]
        exact fr.keep b o n e,fun b e=>by
        by_cases z:b∈Q'
        ·exact hQ b z
        ·rw [aE z] at e;exact fr.dom b e⟩
       have or1:(∀ b,b∈W1++F.Z->b∈Wc++Zc)\/(b=true/\(io.isNone||cj dio)=true):=by
        rcases (FE _ _).mp hc with z | z
        ·exact .inl (c4 z)
        ·exact .inr ((DM _ _).mp z)
       refine ⟨c8 _ fr2 fun p hp=> ?_,mt2,or1.imp id (·.1)⟩;have hpW:p∈W1++F.Z:=Dz _ (c3 p (by rw [hp];exact DQ.mpr rfl));have o1:=own p hp
       have sg:ac (hid (Q'++(W1++F.Z)) H2) (hid (W1++F.Z) (hid Q' H2)):=fun b o e=>by
        obtain ⟨z1,z2⟩:=am e;rw [aE (fun z=>z1 (Du _ z)),aE (fun z=>z1 (Dz _ z))];exact z2
       rcases or1 with z | ⟨_,z⟩
       ·refine o1.at (aE (qn p hpW)) (ac.trans (mj fun b hb=> ?_) sg)
        rcases DT.mp hb with y | y
        ·exact Dz _ y
        ·exact Du _ (z b y)
       ·have hf:cj dio=true:=by
         cases hz:io with
         | none=>rw [c7 hz] at hp;cases hp
         | some k=>rw [hz] at z;exact z
        have hnf:aF X.K H2 (hid (W1++F.Z) H2) p dio:=o1.flat mt2 hf
        have o2:aF X.K (hid Q' H2) (hid (Wc++Zc) (hid Q' H2)) p dio:=o1.at (aE (qn p hpW)) fun b o e=>by
         obtain ⟨z1,z2⟩:=am e;rw [aE (fun z=>z1 (Du _ z)),aE (fun z=>z1 (Dz _ z))];exact z2
        exact o2.flat (fun p hp=>by rw [aE (qn p hp)];exact mt2 p hp) hf
      cases r with
      | ex C =>
       dsimp only
       split
       ·rename_i hc
        cases ep:eJ slot dio ρ1 with
        | none=>exact fun h=>h.elim
        | some ρ2 =>
         intro h vs H1 W1 fr1 sub1 R1 A1;obtain ⟨Wc,Zc,c1,c2,c3,c5,c6,c7,c8⟩:=key true R1 A1 ep (by simpa using hc);refine ⟨Zc,Wc,ds,A1.len,c1,c2,c5,c6,c7,?_⟩;rw [er];intro H2 fr2 own ca hca x;obtain ⟨R2,_,_⟩:=c8 H2 [] fr2 (fun b hb=>by simp at hb) own;exact ⟨C,ca,rfl,hca,h H2 W1 (fr1.trans fr2 fun p hp=> .inl (sub1 p (c3 p hp))) sub1 (R2.same au)⟩
       ·exact fun h=>h.elim
      | ok d nw =>
       dsimp only
       split
       ·rename_i hc
        cases ep:eJ slot dio ρ1 with
        | none=>exact fun h=>h.elim
        | some ρ2 =>
         intro h vs H1 W1 fr1 sub1 R1 A1;obtain ⟨Wc,Zc,c1,c2,c3,c5,c6,c7,c8⟩:=key (gy d nw) R1 A1 ep hc;refine ⟨Zc,Wc,ds,A1.len,c1,c2,c5,c6,c7,?_⟩;rw [er]
         cases nw with
         | false =>
          intro v H2 fr2 rep own;obtain ⟨R2,mt2,z⟩:=c8 H2 [] fr2 (fun b hb=>by simp at hb) own;refine h v H2 W1 (fr1.trans fr2 fun p hp=> .inl (sub1 p (c3 p hp))) sub1 ⟨?_,R2.same au⟩
          rcases z with z | z
          ·exact (mj z).repD rep
          ·exact ay.flat mt2 z rep
         | true =>
          intro q H2 fr2 hq hO own;obtain ⟨R2,mt2,z⟩:=c8 H2 [q] fr2 (fun b hb=>by rw [DQ.mp hb];exact hq) own;refine h (.ref q) H2 W1 (fr1.trans fr2 fun p hp=> .inl (sub1 p (c3 p hp))) sub1 ⟨q,rfl,fr1.dom q hq,R1.fresh hq,?_,R2⟩
          rcases z with z | z
          ·refine hO.at rfl (mj fun b hb=> ?_)
           rcases Dx.mp hb with y | y
           ·rw [y];exact DC
           ·exact Dv _ (z b y)
          ·refine hO.flat (fun p hp=> ?_) z
           rcases Dx.mp hp with y | y
           ·rw [y];exact hO.mu
           ·exact mt2 p y
       ·exact fun h=>h.elim⟩
end
theorem PS.nox{X:Cx}{st:Stmt}{t:TS}(h:PS X.nox st t):PS X st t:=fun pins s σ H D I hw =>
 EQ (h pins s σ H D (I.wish _) hw) (fun _ _ q=>q.unwish) fun _ _ z=>False.elim z
abbrev SI:=Rho->Option (qO×Rho)
structure ItOk(K:F2)(L0:List Addr)(ds:List D)(J:It)(H0:Hp):Prop where
 go:∀ (H:Hp) (L:List Addr) (i:Nat) (d:D),ac (hid L0 H0) (hid L H)->(∀ p∈L,fE (H p))->ds[i]?=some d->J.go i H/\∀ x H',J.yld i H x H'->ac H H'/\ay K (hid L H') d x
 stop:∀ H,ac (hid L0 H0) H->J.stop ds.length H
 few:ds.length<=sizeLine
section
variable(K:F2)(F:Fx)(EX:EXT)(σ:St)(H:Hp)(W:List Addr)
noncomputable def OkI(o:Option (qO×Rho))(R:It->Hp->Prop):Prop:=match o with
 | some (.ok ds,ρ')=>∀ J H' W',Fr W H H'->(∀ p∈W',p∈W)->Rel K F σ H' ρ' W'->ItOk K (W'++F.Z) ds J H'->R J H'
 | some (.ex C,ρ')=>∀ H' W',Fr W H H'->(∀ p∈W',p∈W)->Rel K F σ H' ρ' W'->EX C σ H'
 | none=>False
end
def tI(K:F2)(EX:EXT)(f:SI):TI:=fun σ H R=>∃ F ρ W,Rel K F σ H ρ W/\OkI K F EX σ H W (f ρ) R
structure JI(X:Cx)(EX:EXT)(tg iter:Expr)(f:SI):Prop where
 p:PI X tg iter (tI X.K EX f)
noncomputable def bK(T:Tg)(f:SS):List D->Rho->Option (Out×Rho)
 | [],ρ=>some (.nx,ρ)
 | d::ds,ρ=>match bw T d ρ with
  | none=>none
  | some ρ1=>match f ρ1 with
   | some (.nx,ρ2)=>bK T f ds ρ2
   | some (.ct,ρ2)=>bK T f ds ρ2
   | some (.bk,ρ2)=>some (.nx,ρ2)
   | some (.rt d nw,ρ2)=>some (.rt d nw,ρ2)
   | some (.ex _,_)=>none
   | none=>none
noncomputable def eI(it:SI)(T:Tg)(f:SS):SS:=fun ρ=>match it ρ with
 | some (.ok ds,ρ1)=>bK T f ds ρ1
 | some (.ex _,_)=>none
 | none=>none
section
variable{X:Cx}{EX:EXT}{tg iter c:Expr}{body:List Stmt}{pos:Pos}
theorem s_for{it:SI}{T:Tg}{f:SS}(hc:X.calm=true)(hi:JI X.nox EXn tg iter it)(hg:JG X.nox tg T)(hb:JSs X.nox EXn body f)(hs:∀ x,foldedSetIterable iter X.env x=pure x:=by intro _;rfl):JS X EX (.For tg iter body [] pos) (eI it T f) :=
 ⟨(PS.nox (yM (X:=X.nox) PassesOwn.never hc hi.p hg.p hb.p hs)).by fun D σ H ⟨F,ρ,W,R,h⟩=>⟨F,ρ,W,R,by
   unfold eI at h
   revert h
   cases it ρ with
   | none=>exact fun h=>h
   | some q =>
    obtain ⟨q,ρ1⟩:=q
    cases q with
    | ex C=>exact fun h=>h.elim
    | ok ds =>
     intro h J H1 W1 fr1 sub1 R1 ok;have h:OkS X.K F EX H W (bK T f ds ρ1) D:=h
     refine ⟨fun i m σ H2=>m=ds.length - i/\i<=ds.length/\∃ ρ2 W2,Rel X.K F σ H2 ρ2 W2/\Fr W1 H1 H2/\(∀ p∈W2,p∈W1\/H1 p=none)/\OkS X.K F EX H2 W2 (bK T f (ds.drop i) ρ2) D,
      ⟨ds.length,by simp,Fb _,ρ1,W1,R1,.refl,fun _ z=> .inl z,OkS.go h fr1 fun p hp=> .inl (sub1 p hp)⟩,?_⟩
     rintro i m σ2 H2 ⟨rfl,hi,ρ2,W2,R2,fr2,sub2,h2⟩
     by_cases hlt:i < ds.length
     ·have hd:ds.drop i=ds[i]::ds.drop (i+1):=List.drop_eq_getElem_cons hlt
      rw [hd] at h2;unfold bK at h2;obtain ⟨g1,g2⟩:=ok.go H2 (W2++F.Z) i ds[i] (fr2.hid sub2) R2.mt (Do hlt);refine .inr ⟨g1,fun σ3 H3=>ds.length - (i+1)=ds.length - (i+1)/\i+1<=ds.length/\∃ ρ3 W3,Rel X.K F σ3 H3 ρ3 W3/\Fr W1 H1 H3/\(∀ p∈W3,p∈W1\/H1 p=none)/\OkS X.K F EX H3 W3 (bK T f (ds.drop (i+1)) ρ3) D,fun σ3 H3 z=>⟨_,by omega,z⟩,fun x H3 y=> ?_⟩;obtain ⟨s3,rx⟩:=g2 x H3 y
      revert h2
      cases ea:bw T ds[i] ρ2 with
      | none=>exact fun h=>h.elim
      | some ρ3 =>
       intro h2
       refine vY (n:=0) T (R2.same s3) rx ea fun σ4 _ R4=>⟨F,ρ3,W2,R4,?_⟩
       have fr3:Fr W1 H1 H3:=fr2.trans (s3.fr (W:=W2)) sub2
       have h3:OkS X.K F EX H3 W2 _ D:=OkS.go h2 (s3.fr (W:=W2)) fun p hp=> .inl hp
       have sub3:∀ {W4:List Addr},(∀ p∈W4,p∈W2\/H3 p=none)->∀ p∈W4,p∈W1\/H1 p=none:=fun {W4} s p hp=>(s p hp).elim (sub2 p) fun z=> .inr (fr3.dom p z)
       revert h3
       dsimp only
       cases f ρ3 with
       | none=>exact fun h=>h
       | some q =>
        obtain ⟨q,ρ4⟩:=q
        cases q with
        | nx=>exact fun h3 σ5 H5 W5 fr5 sub5 R5=>⟨rfl,hlt,ρ4,W5,R5,fr3.trans fr5 sub2,sub3 sub5,OkS.go h3 fr5 sub5⟩
        | ct=>exact fun h3 σ5 H5 W5 fr5 sub5 R5=>⟨rfl,hlt,ρ4,W5,R5,fr3.trans fr5 sub2,sub3 sub5,OkS.go h3 fr5 sub5⟩
        | bk=>exact fun h3=>h3
        | ex C=>exact fun h3=>h3.elim
        | rt d nw=>exact fun h3=>h3
     ·have e:i=ds.length:=by omega
      subst e;rw [List.drop_length] at h2
      exact .inl ⟨ok.stop H2 ((fr2.hid sub2).trans au),h2 σ2 H2 W2 .refl (fun _ z=> .inl z) R2⟩⟩⟩
end
def evC(c:Option ST)(ρ:Rho):Option (AI×Rho):=match c with
 | none=>some (.ok true,ρ)
 | some c=>c ρ
noncomputable def bx(k:Nat)(T:Tg)(c:Option ST)(f:SE):List D->Rho->Option (List D×Rho)
 | [],ρ=>some ([],ρ)
 | d::ds,ρ=>match bw T d (ρ++List.replicate k none) with
  | none=>none
  | some ρ1=>match evC c ρ1 with
   | some (.ok true,ρ2)=>match f ρ2 with
    | some (.ok y _,ρ3)=>match bx k T c f ds (ρ3.take ρ.length) with
     | some (ys,ρ4)=>some (y::ys,ρ4)
     | none=>none
    | some (.ex _,_)=>none
    | none=>none
   | some (.ok false,ρ2)=>bx k T c f ds (ρ2.take ρ.length)
   | some (.ex _,_)=>none
   | none=>none
noncomputable def aJ(k:Nat)(it:SI)(T:Tg)(c:Option ST)(f:SE):SE:=fun ρ=>match it ρ with
 | some (.ok ds,ρ1)=>if Tg.ge ρ1.length T=true then
  match bx k T c f ds ρ1 with
  | some (ys,ρ2)=>some (.ok (.lst ys) true,ρ2)
  | none=>none
  else none
 | some (.ex C,ρ1)=>some (.ex C,ρ1)
 | none=>none
def tIfC(K:F2)(c:Option ST):TT:=match c with
 | none=>CK
 | some c=>tVT K EXn c
section
variable{K:F2}{F:Fx}{EX:EXT}{σ:St}{H:Hp}{ρ:Rho}{W:List Addr}
theorem Rel.ext(R:Rel K F σ H ρ W)(k:Nat):Rel K F (σ++List.replicate k none) H (ρ++List.replicate k none) W:=by
 have old:∀ {i:Nat} {d:D} {m:Md},(ρ++List.replicate k none)[i]?=some (some (d,m))->ρ[i]?=some (some (d,m))/\i < ρ.length:=fun {i d m} h=>by
  by_cases hi:i < ρ.length
  ·rw [DN hi] at h
   exact ⟨h,hi⟩
  ·rw [Eb (by omega),ES] at h
   split at h<;>cases h
 refine ⟨fun i d m h=> ?_,fun i j d e m n p h1 h2 h3 h4 h5 h6=> ?_,R.wz,R.mt,by rw [DD,DD,Er,Er,R.len]⟩
 ·obtain ⟨h,hi⟩:=old h
  obtain ⟨v,g1,g2⟩:=R.slot i d m h;exact ⟨v,by rw [DN (by rw [R.len];exact hi)];exact g1,g2⟩
 ·obtain ⟨h1,i1⟩:=old h1
  obtain ⟨h3,i3⟩:=old h3;rw [DN (by rw [R.len];exact i1)] at h5;rw [DN (by rw [R.len];exact i3)] at h6;exact R.apart i j _ _ _ _ _ h1 h2 h3 h4 h5 h6
theorem Rel.cut{σ2:St}(R:Rel K F σ2 H ρ W)(h:σ2.take σ.length=σ)(hl:σ.length<=σ2.length):Rel K F σ H (ρ.take σ.length) W:=by
 have old:∀ {i:Nat} {d:D} {m:Md},(ρ.take σ.length)[i]?=some (some (d,m))->ρ[i]?=some (some (d,m))/\i < σ.length:=fun {i d m} h=>by
  rw [List.getElem?_take] at h
  split at h
  ·exact ⟨h,by assumption⟩
  ·cases h
 have eq:∀ {i:Nat},i < σ.length->σ2[i]?=σ[i]?:=fun {i} hi=>by
  have e:=List.getElem?_take_of_lt (l:=σ2) hi;rw [h] at e;exact e.symm
 refine ⟨fun i d m h=> ?_,fun i j d e m n p h1 h2 h3 h4 h5 h6=> ?_,R.wz,R.mt,by rw [EY,<- R.len];omega⟩
 ·obtain ⟨h,hi⟩:=old h
  obtain ⟨v,g1,g2⟩:=R.slot i d m h;exact ⟨v,by rw [<- eq hi];exact g1,g2⟩
 ·obtain ⟨h1,i1⟩:=old h1
  obtain ⟨h3,i3⟩:=old h3;rw [<- eq i1] at h5;rw [<- eq i3] at h6;exact R.apart i j _ _ _ _ _ h1 h2 h3 h4 h5 h6
theorem qD{k:Nat}{it:SI}{T:Tg}{c:Option ST}{f:SE}{Q:VK}(hw:tV K EX (aJ k it T c f) σ H Q):oO (tI K EX it) k (gT K T) (tIfC K c) (tV K EXn f) σ H Q:=by
 obtain ⟨F,ρ,W,R,h⟩:=hw;refine ⟨F,ρ,W,R,?_⟩;unfold aJ at h
 revert h
 cases it ρ with
 | none=>exact fun h=>h
 | some q =>
  obtain ⟨q,ρ1⟩:=q
  cases q with
  | ex C=>exact fun h=>h
  | ok ds =>
   dsimp only
   split
   ·rename_i hge
    cases es:bx k T c f ds ρ1 with
    | none=>exact fun h=>h.elim
    | some z =>
     obtain ⟨tot,ρe⟩:=z;intro h J H1 W1 fr1 sub1 R1 ok
     refine ⟨fun i m ys H2=>m=ds.length - i/\i<=ds.length/\∃ ρ2 W2 acc rest,Rel K F σ H2 ρ2 W2/\Fr W1 H1 H2/\(∀ p∈W2,p∈W1)/\ah K (hid (W2++F.Z) H2) acc ys/\acc.length<=i/\bx k T c f (ds.drop i) ρ2=some (rest,ρe)/\acc++rest=tot,
      ⟨ds.length,by simp,Fb _,ρ1,W1,[],tot,R1,.refl,fun _ z=>z,trivial,Fb _,es,rfl⟩,?_⟩
     rintro i m ys H2 ⟨rfl,hi,ρ2,W2,acc,rest,R2,fr2,sub2,rp,la,e2,et⟩
     have sub2':∀ p∈W2,p∈W1\/H1 p=none:=fun p hp=> .inl (sub2 p hp)
     have few:=ok.few;have ly:=rp.len;refine ⟨by omega,?_⟩
     by_cases hlt:i < ds.length
     ·have hd:ds.drop i=ds[i]::ds.drop (i+1):=List.drop_eq_getElem_cons hlt
      rw [hd] at e2;unfold bx at e2;obtain ⟨g1,g2⟩:=ok.go H2 (W2++F.Z) i ds[i] (fr2.hid sub2') R2.mt (Do hlt);refine .inr ⟨g1,fun x H3 y=> ?_⟩;obtain ⟨s3,rx⟩:=g2 x H3 y
      cases ea:bw T ds[i] (ρ2++List.replicate k none) with
      | none=>rw [ea] at e2;cases e2
      | some ρ3 =>
       rw [ea] at e2;dsimp only at e2;have lenσ:σ.length=ρ1.length:=R1.len;have lenσ2:σ.length=ρ2.length:=R2.len
       refine vY (n:=σ.length) T ((R2.same s3).ext k) rx ea fun σ4 tk R4=> ?_
       have tk:=tk (by rw [lenσ];exact hge);rw [List.take_left] at tk
       have l4:σ.length<=σ4.length:=by
        have:=congrArg List.length tk;rw [EY] at this;omega
       refine ⟨tk,?_⟩;have fr3:Fr W1 H1 H3:=fr2.trans (s3.fr (W:=W2)) sub2'
       have rest:∀ b ρ4,evC c ρ3=some (.ok b,ρ4)->∀ H4 W4,Fr W2 H3 H4->(∀ p∈W4,p∈W2)->Rel K F σ4 H4 ρ4 W4 ->
        (if b=true then tV K EXn f σ4 H4 fun y H5=>∃ m',m' < ds.length - i/\(m'=ds.length - (i+1)/\i+1<=ds.length/\∃ ρ2 W2 acc rest,Rel K F σ H5 ρ2 W2/\Fr W1 H1 H5/\(∀ p∈W2,p∈W1)/\ah K (hid (W2++F.Z) H5) acc (ys++[y])/\acc.length<=i+1/\bx k T c f (ds.drop (i+1)) ρ2=some (rest,ρe)/\acc++rest=tot)
        else ∃ m',m' < ds.length - i/\(m'=ds.length - (i+1)/\i+1<=ds.length/\∃ ρ2 W2 acc rest,Rel K F σ H4 ρ2 W2/\Fr W1 H1 H4/\(∀ p∈W2,p∈W1)/\ah K (hid (W2++F.Z) H4) acc ys/\acc.length<=i+1/\bx k T c f (ds.drop (i+1)) ρ2=some (rest,ρe)/\acc++rest=tot)):=fun b ρ4 ec H4 W4 fr4 sub4 R4=>by
        rw [ec] at e2;have frA:Fr W1 H1 H4:=fr3.trans fr4 sub2';have sA:ac (hid (W2++F.Z) H2) (hid (W4++F.Z) H4):=ac.trans (aR (fun b hb=> .inl hb) fun b o _ e=>s3 b o e:ac (hid (W2++F.Z) H2) (hid (W2++F.Z) H3)) (fr4.hid fun p hp=> .inl (sub4 p hp))
        cases b with
        | false =>
         dsimp only at e2;rw [if_neg DH];exact ⟨_,by omega,rfl,hlt,ρ4.take σ.length,W4,acc,_,R4.cut tk l4,frA,fun p hp=>sub2 p (sub4 p hp),sA.repDs rp,by omega,by rw [lenσ2];exact e2,et⟩
        | true =>
         dsimp only at e2;rw [if_pos rfl];refine ⟨F,ρ4,W4,R4,?_⟩
         cases ef:f ρ4 with
         | none=>rw [ef] at e2;cases e2
         | some q =>
          obtain ⟨q,ρ5⟩:=q;rw [ef] at e2
          cases q with
          | ex C=>cases e2
          | ok y nw =>
           dsimp only at e2
           cases e3:bx k T c f (ds.drop (i+1)) (ρ5.take ρ2.length) with
           | none=>rw [e3] at e2;cases e2
           | some z =>
            obtain ⟨rest',ρe'⟩:=z;rw [e3] at e2;cases e2;intro v H5 W5 fr5 sub5 P5;obtain ⟨rv,R5⟩:=P5.plain;refine ⟨_,by omega,rfl,hlt,ρ5.take σ.length,W5,acc++[y],rest',R5.cut tk l4,frA.trans fr5 fun p hp=> .inl (sub2 p (sub4 p hp)),fun p hp=>sub2 p (sub4 p (sub5 p hp)),ah.app ((fr5.hid fun p hp=> .inl (sub5 p hp)).repDs (sA.repDs rp)) ⟨rv,trivial⟩,?_,by rw [lenσ2];exact e3,?_⟩
            ·rw [DD];simp;omega
            ·rw [<- et,EF];rfl
       cases c with
       | none=>exact rest true ρ3 rfl H3 W2 .refl (fun _ z=>z) R4
       | some c =>
        refine ⟨F,ρ3,W2,R4,?_⟩;have e2':=e2;unfold evC at e2';dsimp only at e2'
        cases ec:c ρ3 with
        | none=>rw [ec] at e2';cases e2'
        | some q =>
         obtain ⟨q,ρ4⟩:=q
         cases q with
         | ex C=>rw [ec] at e2';cases e2'
         | ok b=>exact fun H4 W4 fr4 sub4 R4=>rest b ρ4 ec H4 W4 fr4 sub4 R4
     ·have e:i=ds.length:=by omega
      subst e;rw [List.drop_length] at e2;have e2:some (([]:List D),ρ2)=some (rest,ρe):=e2;cases e2;rw [Ec] at et;subst et;refine .inl ⟨ok.stop H2 ((fr2.hid sub2').trans au),fun l hl=> ?_⟩;refine h (.ref l) _ W2 ((fr1.trans fr2 fun p hp=> .inl (sub1 p hp)).trans ((ac.upd hl).fr (W:=W2)) fun p hp=> .inl (sub1 p (sub2 p hp))) (fun p hp=>sub1 p (sub2 p hp)) ?_
      refine gA.back (h9.e (nw:=true) ⟨l,rfl,hl,ys,av,?_⟩ R2 (ac.upd hl)) fun b hb=>fr1.dom b (fr2.dom b hb)
      exact (aR (fun b hb=>(Dx.mp hb).elim (fun z=> .inr (by rw [z];exact hl)) .inl) fun b o _ e=>ac.upd hl b o e:ac (hid (W2++F.Z) H2) _).repDs rp
   ·exact fun h=>h.elim
end
inductive JC(X:Cx):List Expr->Option ST->Prop where
 | no:JC X [] none
 | one {c:Expr} {t:ST} (h:JT X EXn c t):JC X [c] (some t)
theorem JC.p{X:Cx}{ifs:List Expr}{c:Option ST}(h:JC X ifs c):vj X ifs (tIfC X.K c):=by
 cases h with
 | no=>exact pif0
 | one h=>exact pif1 h.p
section
variable{X:Cx}{EX:EXT}{elt tg iter:Expr}{ifs:List Expr}{sc:Scope}{M tgs:List Str}{pos:Pos}{it:SI}{T:Tg}{c:Option ST}{f:SE}
theorem b7(hc:X.calm=true)(B:lD X sc M tgs)(hi:JI X EX tg iter it)(hg:∀ cl C fp s H,JG (blk X sc cl C fp s H (M++tgs)) tg T)(ht:∀ cl C fp s H,JC (blk X sc cl C fp s H (M++tgs)) ifs c)(he:∀ cl C fp s H,JE (blk X sc cl C fp s H (M++tgs)) EXn elt f)
 (hs:∀ x,foldedSetIterable iter X.env x=pure x:=by intro _;rfl):JE X EX (.ListComp elt [⟨tg,iter,ifs,0⟩] sc pos) (aJ tgs.length it T c f) :=
 ⟨(BH hc B hi.p (fun cl C fp s H=>(hg cl C fp s H).p) (fun cl C fp s H=>(ht cl C fp s H).p) (fun cl C fp s H=>(he cl C fp s H).p) hs).by fun σ H Q h=>qD h⟩
theorem Cu(hc:X.calm=true)(B:n9 X sc M tgs)(hi:JI X EX tg iter it)(hg:∀ cl C fp s H,JG (blkC X sc cl C fp s H (M++tgs)) tg T)(ht:∀ cl C fp s H,JC (blkC X sc cl C fp s H (M++tgs)) ifs c)(he:∀ cl C fp s H,JE (blkC X sc cl C fp s H (M++tgs)) EXn elt f)
 (hs:∀ x,foldedSetIterable iter X.env x=pure x:=by intro _;rfl):JE X EX (.ListComp elt [⟨tg,iter,ifs,0⟩] sc pos) (aJ tgs.length it T c f) :=
 ⟨(yX hc B hi.p (fun cl C fp s H=>(hg cl C fp s H).p) (fun cl C fp s H=>(ht cl C fp s H).p) (fun cl C fp s H=>(he cl C fp s H).p) hs).by fun σ H Q h=>qD h⟩
theorem kh{j:Nat}{y:Str}{py spos:Pos}(hc:X.calm=true)(B:lD X sc M tgs)(hi:JI X EX tg iter it)(hg:∀ cl C fp s H,JG (blk X sc cl C fp s H (M++tgs)) tg T)(ht:∀ cl C fp s H,JC (blk X sc cl C fp s H (M++tgs)) ifs c)(he:∀ cl C fp s H,JE (blk X sc cl C fp s H (M++tgs)) EXn elt f)
 (hN:X.N.Nodup) (hjy:X.N[j]?=some y) (hy:X.env.scope.names.lookup y=some .local) (hsw:swapsWith (.ListComp elt [⟨tg,iter,ifs,0⟩] sc pos) (some (.Name y py)) spos.line X.env=pure true:=by rfl)
 (hs:∀ x,foldedSetIterable iter X.env x=pure x:=by intro _;rfl):JS X EX (.Assign [.Name y py] (.ListComp elt [⟨tg,iter,ifs,0⟩] sc pos) spos) (aD j (aJ tgs.length it T c f)) :=
 ⟨(mJ hc B hi.p (fun cl C fp s H=>(hg cl C fp s H).p) (fun cl C fp s H=>(ht cl C fp s H).p) (fun cl C fp s H=>(he cl C fp s H).p) hN hjy hy hsw hs).by fun D σ H h=>qD (AG h)⟩
end
mutual
noncomputable def nrm:D->D
 | .ktup ds=> .tup (cn ds)
 | .tup ds=> .tup (cn ds)
 | .klst ds=> .lst (cn ds)
 | .lst ds=> .lst (cn ds)
 | d=>d
noncomputable def cn:List D->List D
 | []=>[]
 | d::ds=>nrm d::cn ds
end
mutual
noncomputable def eqN:D->D->Bool
 | .non,.non=>true
 | .bl a,.bl b=>a == b
 | .bl a,.int b=>(if a then 1 else 0) == b
 | .int a,.bl b=>a == (if b then 1 else 0)
 | .int a,.int b=>a == b
 | .str a,.str b=>a == b
 | .tup a,.tup b=>gh a b
 | .lst a,.lst b=>gh a b
 | _,_=>false
noncomputable def gh:List D->List D->Bool
 | [],[]=>true
 | a::as,b::bs=>eqN a b&&gh as bs
 | _,_=>false
end
def eqD(d e:D):Bool:=eqN (nrm d) (nrm e)
noncomputable def af:Nat->D->Bool
 | _,.non=>true
 | _,.bl _=>true
 | _,.int _=>true
 | _,.str _=>true
 | n+1,.tup ds=>ds.all (af n)
 | n+1,.ktup ds=>ds.all (af n)
 | n+1,.lst ds=>ds.all (af n)
 | n+1,.klst ds=>ds.all (af n)
 | _,_=>false
theorem mZ:∀ {ds:List D},(cn ds).length=ds.length
 | []=>rfl
 | _::ds=>by unfold cn;rw [Dq,Dq,mZ]
theorem eK:∀ {ds:List D} {j:Nat},(cn ds)[j]?=ds[j]?.map nrm
 | [],j=>by unfold cn;simp
 | d::ds,0=>by unfold cn;simp
 | d::ds,j+1=>by unfold cn;simp;exact eK
theorem nJ:∀ {as bs:List D},gh as bs=((List.range (min as.length bs.length)).all (fun j=>match as[j]?,bs[j]? with | some a,some b=>eqN a b | _,_=>true)&&as.length == bs.length)
 | [],[]=>rfl
 | [],b::bs=>by unfold gh;simp
 | a::as,[]=>by unfold gh;simp
 | a::as,b::bs=>by
  unfold gh;rw [nJ (as:=as) (bs:=bs)]
  have e1:min (a::as).length (b::bs).length=min as.length bs.length+1:=by simp only [Dq];omega
  have e2:((a::as).length == (b::bs).length)=(as.length == bs.length):=by simp
  rw [e1,e2,List.range_succ_eq_map,List.all_cons,FK,Bool.and_assoc]
  congr 1
mutual
theorem jU:∀ (n:Nat) {d:D},af n d=true->eqN (nrm d) (nrm d)=true
 | n,.non,_=>rfl
 | n,.bl _,_=>by unfold nrm eqN;simp
 | n,.int _,_=>by unfold nrm eqN;simp
 | n,.str _,_=>by unfold nrm eqN;simp
 | n+1,.tup ds,h=>by unfold nrm eqN;exact fU n (by unfold af at h;exact h)
 | n+1,.ktup ds,h=>by unfold nrm eqN;exact fU n (by unfold af at h;exact h)
 | n+1,.lst ds,h=>by unfold nrm eqN;exact fU n (by unfold af at h;exact h)
 | n+1,.klst ds,h=>by unfold nrm eqN;exact fU n (by unfold af at h;exact h)
 | 0,.tup _,h=>by unfold af at h;cases h
 | 0,.ktup _,h=>by unfold af at h;cases h
 | 0,.lst _,h=>by unfold af at h;cases h
 | 0,.klst _,h=>by unfold af at h;cases h
 | _,.dK _ _,h=>by unfold af at h;cases h
 | _,.dT _ _,h=>by unfold af at h;cases h
 | _,.set _,h=>by unfold af at h;cases h
 | _,.rng _ _,h=>by unfold af at h;cases h
 | _,.exc _,h=>by unfold af at h;cases h
theorem fU:∀ (n:Nat) {ds:List D},ds.all (af n)=true->gh (cn ds) (cn ds)=true
 | n,[],_=>rfl
 | n,d::ds,h=>by
  rw [List.all_cons] at h;have h:=(DM _ _).mp h;unfold cn gh;rw [jU n h.1,fU n h.2];rfl
end
section
variable{X:Cx}{pins:List (Addr×Obj)}{σ:St}{H:Hp}{s:Shared}
inductive Vw(K:F2)(H:Hp)(s:Shared):Nat->D->V->Value->Prop where
 | non {n}:Vw K H s n .non .non .none
 | bl {n} (b:Bool):Vw K H s n (.bl b) (.bl b) (.bool b)
 | int {n} (i:Int) (t:Tok):Vw K H s n (.int i) (.int i) (.int i t)
 | str {n} (x:Str) (t:Tok):Vw K H s n (.str x) (.str x) (.str x t)
 | tu {n} {d:D} {ds:List D} {p:Addr} {xs:List V} {its:List Value} (hd:nrm d = .tup (cn ds)) (ht:s.heap.IsTuple p its.toArray) (hv:aw xs its) (hr:ah K H ds xs) (he:ds.all (af n)=true):Vw K H s (n+1) d (.ref p) (.ref p)
 | li {n} {d:D} {ds:List D} {p:Addr} {xs:List V} {its:List Value} (hd:nrm d = .lst (cn ds)) (ht:s.heap.IsList p its.toArray) (hv:aw xs its) (hr:ah K H ds xs) (he:ds.all (af n)=true):Vw K H s (n+1) d (.ref p) (.ref p)
theorem kG(I:Inv X pins σ H s){n:Nat}{d:D}{v:V}{u:Value}(he:af n d=true)(r:ay X.K H d v)(ru:aB v u):Vw X.K H s n d v u:=by
 have z0:n=0\/∃ m,n=m+1:=by cases n with | zero=>exact .inl rfl | succ m=>exact .inr ⟨m,rfl⟩
 cases d with
 | non=>cases r;cases ru;exact .non
 | bl b=>cases r;cases ru;exact .bl b
 | int i=>cases r;obtain ⟨t,rfl⟩:=ru;exact .int i t
 | str x=>cases r;obtain ⟨t,rfl⟩:=ru;exact .str x t
 | tup ds =>
  obtain ⟨p,xs,rfl,h1,h2⟩:=r;cases ru
  rcases z0 with rfl | ⟨m,rfl⟩
  ·unfold af at he;cases he
  ·obtain ⟨its,rv,pl,_⟩:=I.tuple (X:=X) (.inl (.inl h1))
   exact .tu (by unfold nrm;rfl) pl rv h2 (by unfold af at he;exact he)
 | ktup ds =>
  obtain ⟨p,xs,rfl,h1,h2⟩:=r;cases ru
  rcases z0 with rfl | ⟨m,rfl⟩
  ·unfold af at he;cases he
  ·obtain ⟨its,rv,pl,_⟩:=I.tuple (X:=X) (ff h1)
   exact .tu (by unfold nrm;rfl) pl rv h2 (by unfold af at he;exact he)
 | lst ds =>
  obtain ⟨p,xs,rfl,h1,h2⟩:=r;cases ru
  rcases z0 with rfl | ⟨m,rfl⟩
  ·unfold af at he;cases he
  ·obtain ⟨its,rv,pl,_⟩:=I.list (X:=X) (.inl (.inl h1))
   exact .li (by unfold nrm;rfl) pl.isList rv h2 (by unfold af at he;exact he)
 | klst ds =>
  obtain ⟨p,xs,rfl,h1,h2⟩:=r;cases ru
  rcases z0 with rfl | ⟨m,rfl⟩
  ·unfold af at he;cases he
  ·obtain ⟨its,rv,pl,_⟩:=I.list h1
   exact .li (by unfold nrm;rfl) pl.isList rv h2 (by unfold af at he;exact he)
 | dK _ _=>unfold af at he;cases he
 | dT _ _=>unfold af at he;cases he
 | set _=>unfold af at he;cases he
 | rng _ _=>unfold af at he;cases he
 | exc _=>unfold af at he;cases he
theorem sI{p:Addr}{a b:List Value}(h1:s.heap.IsTuple p a.toArray)(h2:s.heap.IsTuple p b.toArray):a=b:=by
 obtain ⟨o,e1,_,n,d1⟩:=h1;obtain ⟨o2,e2,_,n2,d2⟩:=h2;rw [e1] at e2;cases e2;rw [d1] at d2;have:=(Data.seq.inj d2).1;simpa using congrArg Array.toList this
theorem uC{p:Addr}{a b:List Value}(h1:s.heap.IsList p a.toArray)(h2:s.heap.IsList p b.toArray):a=b:=by
 obtain ⟨o,e1,_,n,d1⟩:=h1;obtain ⟨o2,e2,_,n2,d2⟩:=h2;rw [e1] at e2;cases e2;rw [d1] at d2;have:=(Data.seq.inj d2).1;simpa using congrArg Array.toList this
theorem a8{xs:List V}{its:List Value}(r:aw xs its){j:Nat}(h:j < its.length):∃ x,xs[j]?=some x/\aB x its[j]:=by
 have hx:j < xs.length:=by rw [r.length];exact h
 obtain ⟨u,e,ru⟩:=r.get (Do hx);rw [Do h] at e;cases e;exact ⟨_,Do hx,ru⟩
theorem gL(I:Inv X pins σ H s):∀ (n m:Nat) {d e:D} {v:V} {u:Value},af n d=true->af m e=true->ay X.K H d v->ay X.K H e v->aB v u->nrm d=nrm e
 | n,m,d,e,v,u,h1,h2,r1,r2,ru=>by
  have v1:=kG I h1 r1 ru;have v2:=kG I h2 r2 ru
  cases v1 with
  | non=>cases v2;rfl
  | bl b=>cases v2;rfl
  | int i t=>cases v2;rfl
  | str x t=>cases v2;rfl
  | @tu n _ ds p xs its hd ht hv hr he =>
   cases v2 with
   | @tu m _ es _ ys jts hd2 ht2 hv2 hr2 he2 =>
    have:=sI ht ht2;subst this;have exy:xs=ys:=hv.inj hv2;subst exy;rw [hd,hd2]
    congr 1
    apply List.ext_getElem?;intro j;rw [eK,eK];have l1:=hr.len;have l2:=hr2.len
    by_cases hj:j < xs.length
    ·obtain ⟨d',e1,q1⟩:=hr.get' (Do hj)
     obtain ⟨e',e2,q2⟩:=hr2.get' (Do hj);rw [e1,e2]
     have hji:j < its.length:=by rw [<- hv.length];exact hj
     obtain ⟨x,ex,rx⟩:=a8 hv hji;rw [Do hj] at ex;cases ex;exact congrArg some (gL I n m (DK.mp he _ (DF e1)) (DK.mp he2 _ (DF e2)) q1 q2 rx)
    ·rw [FJ (by omega),FJ (by omega)]
   | li hd2 ht2 hv2 hr2 he2=>exact absurd rfl (SeqAt.ne_of_list_tuple ht2 ht)
  | @li n _ ds p xs its hd ht hv hr he =>
   cases v2 with
   | tu hd2 ht2 hv2 hr2 he2=>exact absurd rfl (SeqAt.ne_of_list_tuple ht ht2)
   | @li m _ es _ ys jts hd2 ht2 hv2 hr2 he2 =>
    have:=uC ht ht2;subst this;have exy:xs=ys:=hv.inj hv2;subst exy;rw [hd,hd2]
    congr 1
    apply List.ext_getElem?;intro j;rw [eK,eK];have l1:=hr.len;have l2:=hr2.len
    by_cases hj:j < xs.length
    ·obtain ⟨d',e1,q1⟩:=hr.get' (Do hj)
     obtain ⟨e',e2,q2⟩:=hr2.get' (Do hj);rw [e1,e2]
     have hji:j < its.length:=by rw [<- hv.length];exact hj
     obtain ⟨x,ex,rx⟩:=a8 hv hji;rw [Do hj] at ex;cases ex;exact congrArg some (gL I n m (DK.mp he _ (DF e1)) (DK.mp he2 _ (DF e2)) q1 q2 rx)
    ·rw [FJ (by omega),FJ (by omega)]
 termination_by n=>n
theorem lH{n:Nat}{f g:Nat->Bool}(h:∀ j,j < n->f j=g j):(List.range n).all f=(List.range n).all g:=by
 rw [Bool.eq_iff_iff,DK,DK]
 constructor
 ·intro z x hx;rw [<- h x (EA.mp hx)];exact z x hx
 ·intro z x hx;rw [h x (EA.mp hx)];exact z x hx
def bz(ds es:List D)(j:Nat):Bool:=match ds[j]?,es[j]? with
 | some a,some b=>eqD a b
 | _,_=>true
theorem dP{ds es:List D}:gh (cn ds) (cn es)=((List.range (min ds.length es.length)).all (bz ds es)&&ds.length == es.length):=by
 rw [nJ,mZ,mZ]
 congr 1
 refine lH fun j hj=> ?_
 have h1:j < ds.length:=by omega
 have h2:j < es.length:=by omega
 rw [eK,eK];unfold bz eqD;rw [Do h1,Do h2];rfl
theorem uM(I:Inv X pins σ H s):∀ (n:Nat) {A:Around} {d e:D} {v v':V} {u w:Value},A.units+n < cLine->af n d=true->af n e=true->ay X.K H d v->ay X.K H e v'->aB v u->aB v' w->SeqAt.EqAt A s u w (eqD d e)
 | n,A,d,e,v,v',u,w,hu0,h1,h2,r1,r2,ru,rw'=>by
  have hu:A.units < cLine:=by omega
  have v1:=kG I h1 r1 ru;have v2:=kG I h2 r2 rw';unfold eqD
  cases v1 with
  | non =>
   cases v2 with
   | non=>exact SeqAt.EqAt.same _
   | bl b2=>exact SeqAt.EqAt.none_bool b2
   | int i2 t2=>exact SeqAt.EqAt.none_int i2 t2
   | str x2 t2=>exact SeqAt.EqAt.none_str x2 t2
   | tu hd2 ht2 hv2 hr2 he2=>rw [hd2];exact SeqAt.EqAt.none_tuple ht2 hu
   | li hd2 ht2 hv2 hr2 he2=>rw [hd2];exact SeqAt.EqAt.none_list ht2 hu
  | bl b1 =>
   cases v2 with
   | non=>exact SeqAt.EqAt.bool_none b1
   | bl b2=>exact SeqAt.EqAt.bool_bool b1 b2
   | int i2 t2=>exact SeqAt.EqAt.bool_int b1 i2 t2
   | str x2 t2=>exact SeqAt.EqAt.bool_str b1 x2 t2
   | tu hd2 ht2 hv2 hr2 he2=>rw [hd2];exact SeqAt.EqAt.bool_tuple b1 ht2 hu
   | li hd2 ht2 hv2 hr2 he2=>rw [hd2];exact SeqAt.EqAt.bool_list b1 ht2 hu
  | int i1 t1 =>
   cases v2 with
   | non=>exact SeqAt.EqAt.int_none i1 t1
   | bl b2=>exact SeqAt.EqAt.int_bool i1 t1 b2
   | int i2 t2=>exact SeqAt.EqAt.int_int i1 t1 i2 t2
   | str x2 t2=>exact SeqAt.EqAt.int_str i1 t1 x2 t2
   | tu hd2 ht2 hv2 hr2 he2=>rw [hd2];exact SeqAt.EqAt.int_tuple i1 t1 ht2 hu
   | li hd2 ht2 hv2 hr2 he2=>rw [hd2];exact SeqAt.EqAt.int_list i1 t1 ht2 hu
  | str x1 t1 =>
   cases v2 with
   | non=>exact SeqAt.EqAt.str_none x1 t1
   | bl b2=>exact SeqAt.EqAt.str_bool x1 t1 b2
   | int i2 t2=>exact SeqAt.EqAt.str_int x1 t1 i2 t2
   | str x2 t2=>exact SeqAt.EqAt.str_str x1 t1 x2 t2
   | tu hd2 ht2 hv2 hr2 he2=>rw [hd2];exact SeqAt.EqAt.str_tuple x1 t1 ht2 hu
   | li hd2 ht2 hv2 hr2 he2=>rw [hd2];exact SeqAt.EqAt.str_list x1 t1 ht2 hu
  | @tu n _ ds p xs its hd ht hv hr he =>
   cases v2 with
   | non=>rw [hd];exact SeqAt.EqAt.tuple_none ht hu
   | bl b2=>rw [hd];exact SeqAt.EqAt.tuple_bool b2 ht hu
   | int i2 t2=>rw [hd];exact SeqAt.EqAt.tuple_int i2 t2 ht hu
   | str x2 t2=>rw [hd];exact SeqAt.EqAt.tuple_str x2 t2 ht hu
   | @tu _ _ es q ys jts hd2 ht2 hv2 hr2 he2 =>
    by_cases epq:p=q
    ·subst epq
     have z:nrm d=nrm e:=gL I (n+1) (n+1) h1 h2 r1 r2 rfl;rw [<- z,jU (n+1) h1];exact SeqAt.EqAt.same _
    ·refine SeqAt.EqAt.of_refs epq ?_
     have hhe:∀ j (h1:j < its.toArray.size) (h2:j < jts.toArray.size),SeqAt.EqAt A.in1 s its.toArray[j] jts.toArray[j] (bz ds es j):=fun j h1 h2=>by
      have h1':j < its.length:=by simpa using h1
      have h2':j < jts.length:=by simpa using h2
      obtain ⟨x,ex,rx⟩:=a8 hv h1';obtain ⟨y,ey,ry⟩:=a8 hv2 h2';obtain ⟨d',e1,q1⟩:=hr.get' ex;obtain ⟨e',e2,q2⟩:=hr2.get' ey;have z:=uM I n (A:=A.in1) (by show A.units+1+n < cLine;omega) (DK.mp he _ (DF e1)) (DK.mp he2 _ (DF e2)) q1 q2 rx ry
      have e3:bz ds es j=eqD d' e':=by unfold bz;rw [e1,e2]
      rw [e3];simpa using z
     have l1:its.toArray.size=ds.length:=by rw [Ds,<- hv.length,<- hr.len]
     have l2:jts.toArray.size=es.length:=by rw [Ds,<- hv2.length,<- hr2.len]
     have z:=SeqAt.RcAt.tuples ht ht2 hu hhe;rw [l1,l2] at z;rw [hd,hd2]
     show SeqAt.RcAt A s (.ref p) (.ref q) ((gh (cn ds) (cn es)))
     rw [dP];exact z
   | li hd2 ht2 hv2 hr2 he2=>rw [hd,hd2];exact SeqAt.EqAt.tuple_list ht ht2 hu
  | @li n _ ds p xs its hd ht hv hr he =>
   cases v2 with
   | non=>rw [hd];exact SeqAt.EqAt.list_none ht hu
   | bl b2=>rw [hd];exact SeqAt.EqAt.list_bool b2 ht hu
   | int i2 t2=>rw [hd];exact SeqAt.EqAt.list_int i2 t2 ht hu
   | str x2 t2=>rw [hd];exact SeqAt.EqAt.list_str x2 t2 ht hu
   | tu hd2 ht2 hv2 hr2 he2=>rw [hd,hd2];exact SeqAt.EqAt.list_tuple ht ht2 hu
   | @li _ _ es q ys jts hd2 ht2 hv2 hr2 he2 =>
    by_cases epq:p=q
    ·subst epq
     have z:nrm d=nrm e:=gL I (n+1) (n+1) h1 h2 r1 r2 rfl;rw [<- z,jU (n+1) h1];exact SeqAt.EqAt.same _
    ·refine SeqAt.EqAt.of_refs epq ?_
     have hhe:∀ j (h1:j < its.toArray.size) (h2:j < jts.toArray.size),SeqAt.EqAt A.in1 s its.toArray[j] jts.toArray[j] (bz ds es j):=fun j h1 h2=>by
      have h1':j < its.length:=by simpa using h1
      have h2':j < jts.length:=by simpa using h2
      obtain ⟨x,ex,rx⟩:=a8 hv h1';obtain ⟨y,ey,ry⟩:=a8 hv2 h2';obtain ⟨d',e1,q1⟩:=hr.get' ex;obtain ⟨e',e2,q2⟩:=hr2.get' ey;have z:=uM I n (A:=A.in1) (by show A.units+1+n < cLine;omega) (DK.mp he _ (DF e1)) (DK.mp he2 _ (DF e2)) q1 q2 rx ry
      have e3:bz ds es j=eqD d' e':=by unfold bz;rw [e1,e2]
      rw [e3];simpa using z
     have l1:its.toArray.size=ds.length:=by rw [Ds,<- hv.length,<- hr.len]
     have l2:jts.toArray.size=es.length:=by rw [Ds,<- hv2.length,<- hr2.len]
     rw [hd,hd2]
     show SeqAt.RcAt A s (.ref p) (.ref q) ((gh (cn ds) (cn es)))
     by_cases hl:ds.length=es.length
     ·have z:=SeqAt.RcAt.lists ht ht2 (by rw [l1,l2];exact hl) hu hhe
      rw [l1] at z;rw [dP,<- hl,E8,EW,Fd];exact z
     ·have z:=SeqAt.RcAt.lists_lengths ht ht2 (by rw [l1,l2];simpa using hl) hu
      rw [dP,Ft.mpr hl,EN];exact z
 termination_by n=>n
theorem rcAt(I:Inv X pins σ H s)(n:Nat){A:Around}{d e:D}{v v':V}{u w:Value}(hu0:A.units+n < cLine)(h1:af n d=true)(h2:af n e=true)(r1:ay X.K H d v)(r2:ay X.K H e v')(ru:aB v u)(rw':aB v' w):SeqAt.RcAt A s u w (eqD d e):=by
 have hu:A.units < cLine:=by omega
 have v1:=kG I h1 r1 ru;have v2:=kG I h2 r2 rw';unfold eqD
 cases v1 with
 | non =>
  cases v2 with
  | non=>exact SeqAt.RcAt.none_none
  | bl b2=>exact SeqAt.RcAt.none_bool b2
  | int i2 t2=>exact SeqAt.RcAt.none_int i2 t2
  | str x2 t2=>exact SeqAt.RcAt.none_str x2 t2
  | tu hd2 ht2 hv2 hr2 he2=>rw [hd2];exact SeqAt.RcAt.none_tuple ht2 hu
  | li hd2 ht2 hv2 hr2 he2=>rw [hd2];exact SeqAt.RcAt.none_list ht2 hu
 | bl b1 =>
  cases v2 with
  | non=>exact SeqAt.RcAt.bool_none b1
  | bl b2=>exact SeqAt.RcAt.bool_bool b1 b2
  | int i2 t2=>exact SeqAt.RcAt.bool_int b1 i2 t2
  | str x2 t2=>exact SeqAt.RcAt.bool_str b1 x2 t2
  | tu hd2 ht2 hv2 hr2 he2=>rw [hd2];exact SeqAt.RcAt.bool_tuple b1 ht2 hu
  | li hd2 ht2 hv2 hr2 he2=>rw [hd2];exact SeqAt.RcAt.bool_list b1 ht2 hu
 | int i1 t1 =>
  cases v2 with
  | non=>exact SeqAt.RcAt.int_none i1 t1
  | bl b2=>exact SeqAt.RcAt.int_bool i1 t1 b2
  | int i2 t2=>exact SeqAt.RcAt.int_int i1 t1 i2 t2
  | str x2 t2=>exact SeqAt.RcAt.int_str i1 t1 x2 t2
  | tu hd2 ht2 hv2 hr2 he2=>rw [hd2];exact SeqAt.RcAt.int_tuple i1 t1 ht2 hu
  | li hd2 ht2 hv2 hr2 he2=>rw [hd2];exact SeqAt.RcAt.int_list i1 t1 ht2 hu
 | str x1 t1 =>
  cases v2 with
  | non=>exact SeqAt.RcAt.str_none x1 t1
  | bl b2=>exact SeqAt.RcAt.str_bool x1 t1 b2
  | int i2 t2=>exact SeqAt.RcAt.str_int x1 t1 i2 t2
  | str x2 t2=>exact SeqAt.RcAt.str_str x1 t1 x2 t2
  | tu hd2 ht2 hv2 hr2 he2=>rw [hd2];exact SeqAt.RcAt.str_tuple x1 t1 ht2 hu
  | li hd2 ht2 hv2 hr2 he2=>rw [hd2];exact SeqAt.RcAt.str_list x1 t1 ht2 hu
 | @tu n _ ds p xs its hd ht hv hr he =>
  cases v2 with
  | non=>rw [hd];exact SeqAt.RcAt.tuple_none ht hu
  | bl b2=>rw [hd];exact SeqAt.RcAt.tuple_bool b2 ht hu
  | int i2 t2=>rw [hd];exact SeqAt.RcAt.tuple_int i2 t2 ht hu
  | str x2 t2=>rw [hd];exact SeqAt.RcAt.tuple_str x2 t2 ht hu
  | @tu _ _ es q ys jts hd2 ht2 hv2 hr2 he2 =>
   have hhe:∀ j (h1:j < its.toArray.size) (h2:j < jts.toArray.size),SeqAt.EqAt A.in1 s its.toArray[j] jts.toArray[j] (bz ds es j):=fun j h1 h2=>by
    have h1':j < its.length:=by simpa using h1
    have h2':j < jts.length:=by simpa using h2
    obtain ⟨x,ex,rx⟩:=a8 hv h1';obtain ⟨y,ey,ry⟩:=a8 hv2 h2';obtain ⟨d',e1,q1⟩:=hr.get' ex;obtain ⟨e',e2,q2⟩:=hr2.get' ey;have z:=uM I n (A:=A.in1) (by show A.units+1+n < cLine;omega) (DK.mp he _ (DF e1)) (DK.mp he2 _ (DF e2)) q1 q2 rx ry
    have e3:bz ds es j=eqD d' e':=by unfold bz;rw [e1,e2]
    rw [e3];simpa using z
   have l1:its.toArray.size=ds.length:=by rw [Ds,<- hv.length,<- hr.len]
   have l2:jts.toArray.size=es.length:=by rw [Ds,<- hv2.length,<- hr2.len]
   have z:=SeqAt.RcAt.tuples ht ht2 hu hhe;rw [l1,l2] at z;rw [hd,hd2]
   show SeqAt.RcAt A s (.ref p) (.ref q) ((gh (cn ds) (cn es)))
   rw [dP];exact z
  | li hd2 ht2 hv2 hr2 he2=>rw [hd,hd2];exact SeqAt.RcAt.tuple_list ht ht2 hu
 | @li n _ ds p xs its hd ht hv hr he =>
  cases v2 with
  | non=>rw [hd];exact SeqAt.RcAt.list_none ht hu
  | bl b2=>rw [hd];exact SeqAt.RcAt.list_bool b2 ht hu
  | int i2 t2=>rw [hd];exact SeqAt.RcAt.list_int i2 t2 ht hu
  | str x2 t2=>rw [hd];exact SeqAt.RcAt.list_str x2 t2 ht hu
  | tu hd2 ht2 hv2 hr2 he2=>rw [hd,hd2];exact SeqAt.RcAt.list_tuple ht ht2 hu
  | @li _ _ es q ys jts hd2 ht2 hv2 hr2 he2 =>
   have hhe:∀ j (h1:j < its.toArray.size) (h2:j < jts.toArray.size),SeqAt.EqAt A.in1 s its.toArray[j] jts.toArray[j] (bz ds es j):=fun j h1 h2=>by
    have h1':j < its.length:=by simpa using h1
    have h2':j < jts.length:=by simpa using h2
    obtain ⟨x,ex,rx⟩:=a8 hv h1';obtain ⟨y,ey,ry⟩:=a8 hv2 h2';obtain ⟨d',e1,q1⟩:=hr.get' ex;obtain ⟨e',e2,q2⟩:=hr2.get' ey;have z:=uM I n (A:=A.in1) (by show A.units+1+n < cLine;omega) (DK.mp he _ (DF e1)) (DK.mp he2 _ (DF e2)) q1 q2 rx ry
    have e3:bz ds es j=eqD d' e':=by unfold bz;rw [e1,e2]
    rw [e3];simpa using z
   have l1:its.toArray.size=ds.length:=by rw [Ds,<- hv.length,<- hr.len]
   have l2:jts.toArray.size=es.length:=by rw [Ds,<- hv2.length,<- hr2.len]
   rw [hd,hd2]
   show SeqAt.RcAt A s (.ref p) (.ref q) ((gh (cn ds) (cn es)))
   by_cases hl:ds.length=es.length
   ·have z:=SeqAt.RcAt.lists ht ht2 (by rw [l1,l2];exact hl) hu hhe
    rw [l1] at z;rw [dP,<- hl,E8,EW,Fd];exact z
   ·have z:=SeqAt.RcAt.lists_lengths ht ht2 (by rw [l1,l2];simpa using hl) hu
    rw [dP,Ft.mpr hl,EN];exact z
theorem neAt(I:Inv X pins σ H s)(n:Nat){A:Around}{d e:D}{v v':V}{u w:Value}(hu0:A.units+n < cLine)(h1:af n d=true)(h2:af n e=true)(r1:ay X.K H d v)(r2:ay X.K H e v')(ru:aB v u)(rw':aB v' w):SeqAt.RcNeAt A s u w (!(eqD d e)):=by
 have hu:A.units < cLine:=by omega
 have v1:=kG I h1 r1 ru;have v2:=kG I h2 r2 rw';unfold eqD
 cases v1 with
 | non =>
  cases v2 with
  | non=>exact SeqAt.RcNeAt.none_none
  | bl b2=>exact SeqAt.RcNeAt.none_bool b2
  | int i2 t2=>exact SeqAt.RcNeAt.none_int i2 t2
  | str x2 t2=>exact SeqAt.RcNeAt.none_str x2 t2
  | tu hd2 ht2 hv2 hr2 he2=>rw [hd2];exact SeqAt.RcNeAt.none_tuple ht2 hu
  | li hd2 ht2 hv2 hr2 he2=>rw [hd2];exact SeqAt.RcNeAt.none_list ht2 hu
 | bl b1 =>
  cases v2 with
  | non=>exact SeqAt.RcNeAt.bool_none b1
  | bl b2=>exact SeqAt.RcNeAt.bool_bool b1 b2
  | int i2 t2=>exact SeqAt.RcNeAt.bool_int b1 i2 t2
  | str x2 t2=>exact SeqAt.RcNeAt.bool_str b1 x2 t2
  | tu hd2 ht2 hv2 hr2 he2=>rw [hd2];exact SeqAt.RcNeAt.bool_tuple b1 ht2 hu
  | li hd2 ht2 hv2 hr2 he2=>rw [hd2];exact SeqAt.RcNeAt.bool_list b1 ht2 hu
 | int i1 t1 =>
  cases v2 with
  | non=>exact SeqAt.RcNeAt.int_none i1 t1
  | bl b2=>exact SeqAt.RcNeAt.int_bool i1 t1 b2
  | int i2 t2=>exact SeqAt.RcNeAt.int_int i1 t1 i2 t2
  | str x2 t2=>exact SeqAt.RcNeAt.int_str i1 t1 x2 t2
  | tu hd2 ht2 hv2 hr2 he2=>rw [hd2];exact SeqAt.RcNeAt.int_tuple i1 t1 ht2 hu
  | li hd2 ht2 hv2 hr2 he2=>rw [hd2];exact SeqAt.RcNeAt.int_list i1 t1 ht2 hu
 | str x1 t1 =>
  cases v2 with
  | non=>exact SeqAt.RcNeAt.str_none x1 t1
  | bl b2=>exact SeqAt.RcNeAt.str_bool x1 t1 b2
  | int i2 t2=>exact SeqAt.RcNeAt.str_int x1 t1 i2 t2
  | str x2 t2=>exact SeqAt.RcNeAt.str_str x1 t1 x2 t2
  | tu hd2 ht2 hv2 hr2 he2=>rw [hd2];exact SeqAt.RcNeAt.str_tuple x1 t1 ht2 hu
  | li hd2 ht2 hv2 hr2 he2=>rw [hd2];exact SeqAt.RcNeAt.str_list x1 t1 ht2 hu
 | @tu n _ ds p xs its hd ht hv hr he =>
  cases v2 with
  | non=>rw [hd];exact SeqAt.RcNeAt.tuple_none ht hu
  | bl b2=>rw [hd];exact SeqAt.RcNeAt.tuple_bool b2 ht hu
  | int i2 t2=>rw [hd];exact SeqAt.RcNeAt.tuple_int i2 t2 ht hu
  | str x2 t2=>rw [hd];exact SeqAt.RcNeAt.tuple_str x2 t2 ht hu
  | @tu _ _ es q ys jts hd2 ht2 hv2 hr2 he2 =>
   have hhe:∀ j (h1:j < its.toArray.size) (h2:j < jts.toArray.size),SeqAt.EqAt A.in1 s its.toArray[j] jts.toArray[j] (bz ds es j):=fun j h1 h2=>by
    have h1':j < its.length:=by simpa using h1
    have h2':j < jts.length:=by simpa using h2
    obtain ⟨x,ex,rx⟩:=a8 hv h1';obtain ⟨y,ey,ry⟩:=a8 hv2 h2';obtain ⟨d',e1,q1⟩:=hr.get' ex;obtain ⟨e',e2,q2⟩:=hr2.get' ey;have z:=uM I n (A:=A.in1) (by show A.units+1+n < cLine;omega) (DK.mp he _ (DF e1)) (DK.mp he2 _ (DF e2)) q1 q2 rx ry
    have e3:bz ds es j=eqD d' e':=by unfold bz;rw [e1,e2]
    rw [e3];simpa using z
   have l1:its.toArray.size=ds.length:=by rw [Ds,<- hv.length,<- hr.len]
   have l2:jts.toArray.size=es.length:=by rw [Ds,<- hv2.length,<- hr2.len]
   have z:=SeqAt.RcNeAt.tuples ht ht2 hu hhe;rw [l1,l2] at z;rw [hd,hd2]
   show SeqAt.RcNeAt A s (.ref p) (.ref q) (!(gh (cn ds) (cn es)))
   rw [dP];exact z
  | li hd2 ht2 hv2 hr2 he2=>rw [hd,hd2];exact SeqAt.RcNeAt.tuple_list ht ht2 hu
 | @li n _ ds p xs its hd ht hv hr he =>
  cases v2 with
  | non=>rw [hd];exact SeqAt.RcNeAt.list_none ht hu
  | bl b2=>rw [hd];exact SeqAt.RcNeAt.list_bool b2 ht hu
  | int i2 t2=>rw [hd];exact SeqAt.RcNeAt.list_int i2 t2 ht hu
  | str x2 t2=>rw [hd];exact SeqAt.RcNeAt.list_str x2 t2 ht hu
  | tu hd2 ht2 hv2 hr2 he2=>rw [hd,hd2];exact SeqAt.RcNeAt.list_tuple ht ht2 hu
  | @li _ _ es q ys jts hd2 ht2 hv2 hr2 he2 =>
   have hhe:∀ j (h1:j < its.toArray.size) (h2:j < jts.toArray.size),SeqAt.EqAt A.in1 s its.toArray[j] jts.toArray[j] (bz ds es j):=fun j h1 h2=>by
    have h1':j < its.length:=by simpa using h1
    have h2':j < jts.length:=by simpa using h2
    obtain ⟨x,ex,rx⟩:=a8 hv h1';obtain ⟨y,ey,ry⟩:=a8 hv2 h2';obtain ⟨d',e1,q1⟩:=hr.get' ex;obtain ⟨e',e2,q2⟩:=hr2.get' ey;have z:=uM I n (A:=A.in1) (by show A.units+1+n < cLine;omega) (DK.mp he _ (DF e1)) (DK.mp he2 _ (DF e2)) q1 q2 rx ry
    have e3:bz ds es j=eqD d' e':=by unfold bz;rw [e1,e2]
    rw [e3];simpa using z
   have l1:its.toArray.size=ds.length:=by rw [Ds,<- hv.length,<- hr.len]
   have l2:jts.toArray.size=es.length:=by rw [Ds,<- hv2.length,<- hr2.len]
   rw [hd,hd2]
   show SeqAt.RcNeAt A s (.ref p) (.ref q) (!(gh (cn ds) (cn es)))
   by_cases hl:ds.length=es.length
   ·have z:=SeqAt.RcNeAt.lists ht ht2 (by rw [l1,l2];exact hl) hu hhe
    rw [l1] at z;rw [dP,<- hl,E8,EW,Fd];exact z
   ·have z:=SeqAt.RcNeAt.lists_lengths ht ht2 (by rw [l1,l2];simpa using hl) hu
    rw [dP,Ft.mpr hl,EN];exact z
end
noncomputable def gEq:List D->Option (D×Bool)
 | [d,e]=>if (af 9 d&&af 9 e)=true then some (.bl (eqD d e),false) else none
 | _=>none
noncomputable def gNe:List D->Option (D×Bool)
 | [d,e]=>if (af 9 d&&af 9 e)=true then some (.bl (!(eqD d e)),false) else none
 | _=>none
noncomputable def rEqD(K:F2):R2:=fun x y H Q=>∃ d e,af 9 d=true/\af 9 e=true/\ay K H d x/\ay K H e y/\Q (.bl (eqD d e)) H
noncomputable def rNeD(K:F2):R2:=fun x y H Q=>∃ d e,af 9 d=true/\af 9 e=true/\ay K H d x/\ay K H e y/\Q (.bl (!(eqD d e))) H
section
variable{X:Cx}
theorem zk(hu:X.A.units+9 < cLine):OpR X (compareOp .Eq) (rEqD X.K):=by
 intro pins s σ H x y v u Q I rx ry h;obtain ⟨d,e,h1,h2,r1,r2,q⟩:=h;exact rcAt I 9 hu h1 h2 r1 r2 rx ry _ _ _ _ ⟨.bl _,H,I,rfl,q⟩
theorem op_neD(hu:X.A.units+9 < cLine):OpR X (compareOp .NotEq) (rNeD X.K):=by
 intro pins s σ H x y v u Q I rx ry h;obtain ⟨d,e,h1,h2,r1,r2,q⟩:=h;exact neAt I 9 hu h1 h2 r1 r2 rx ry _ _ _ _ ⟨.bl _,H,I,rfl,q⟩
end
theorem aK{K:F2}{H Hh:Hp}{a b:D}{vs:List V}(h:lC K H Hh [a,b] vs):∃ x y,vs=[x,y]/\gr K H Hh a x/\gr K H Hh b y:=by
 match vs,h with
 | [x,y],h=>exact ⟨x,y,rfl,h.1,h.2.1⟩
theorem aA{K:F2}{H Hh:Hp}{a:D}{vs:List V}(h:lC K H Hh [a] vs):∃ x,vs=[x]/\gr K H Hh a x:=by
 match vs,h with
 | [x],h=>exact ⟨x,rfl,h.1⟩
theorem C5{K:F2}:OpS K (r2 (rEqD K)) gEq:=by
 intro vs ds H L Q d nw hm r e q
 match ds,e with
 | [a,b],e =>
  obtain ⟨x,y,rfl,ra,rb⟩:=aK r;have e:(if (af 9 a&&af 9 b)=true then some (D.bl (eqD a b),false) else none)=some (d,nw):=e
  split at e
  ·rename_i hc
   have hc:=(DM _ _).mp hc;cases e;exact ⟨a,b,hc.1,hc.2,ra.d au,rb.d au,q _ H (ac.refl _) rfl⟩
  ·cases e
theorem os_ne{K:F2}:OpS K (r2 (rNeD K)) gNe:=by
 intro vs ds H L Q d nw hm r e q
 match ds,e with
 | [a,b],e =>
  obtain ⟨x,y,rfl,ra,rb⟩:=aK r;have e:(if (af 9 a&&af 9 b)=true then some (D.bl (!(eqD a b)),false) else none)=some (d,nw):=e
  split at e
  ·rename_i hc
   have hc:=(DM _ _).mp hc;cases e;exact ⟨a,b,hc.1,hc.2,ra.d au,rb.d au,q _ H (ac.refl _) rfl⟩
  ·cases e
section
variable{X:Cx}
noncomputable def yJ:R2:=fun x y H Q=>∃ a b xs ys,x = .ref a/\y = .ref b/\H a=some (.tup xs)/\H b=some (.tup ys)/\xs.length+ys.length<=sizeLine /\
 ∀ p H',H' p=some (.tup (xs++ys))->ac H H'->Q (.ref p) H'
theorem BT:OpR X (binaryOp .Add) yJ:=by
 intro pins s σ H x y v u Q I rx ry h;obtain ⟨a,b,xs,ys,rfl,rfl,ha,hb,hz,q⟩:=h
 by_cases hx:xs=[]
 ·subst hx
  cases rx;cases ry;obtain ⟨its,r1,p1,_⟩:=I.tuple (X:=X) (.inl (.inl ha));obtain ⟨its2,r2,p2,_⟩:=I.tuple (X:=X) (.inl (.inl hb));cases r1;exact Cp p1 p2 ⟨.ref b,H,I,rfl,q b H hb (ac.refl H)⟩
 ·refine BS pins s σ H _ _ v u Q I rx ry ⟨a,b,xs,ys,rfl,rfl,.inl (.inl ha),.inl (.inl hb),hx,hz,fun e=> ?_,fun e p hp=> ?_⟩
  ·subst e
   exact q a H (by rw [Ec];exact ha) (ac.refl H)
  ·exact q p _ av fun c o e'=>by rw [ai (aj e' hp)];exact e'
noncomputable def rSlD:RSl:=fun x lo hi H Q=>∃ a xs,x = .ref a/\H a=some (.tup xs)/\∀ p H',H' p=some (.tup (nK xs lo hi))->ac H H'->Q (.ref p) H'
theorem Bc:SlR X rSlD:=by
 intro pins s σ H x v vl vu lo hi sl Q I rx hs pl pu h;obtain ⟨a,xs,rfl,hx,q⟩:=h
 by_cases hw:HT.sIx xs.length 0 lo=0/\HT.sIx xs.length xs.length hi=xs.length
 ·cases rx
  obtain ⟨its,r,ht,hz⟩:=I.tuple (X:=X) (.inl (.inl hx))
  have hlen:its.toArray.size=xs.length:=by rw [Ds];exact r.length.symm
  refine ⟨"tuple",_,PyProof.Rows.slot_tuple_getitem.lookup,ht.typeIs,?_⟩;refine HT.im ht hs pl pu (by rw [hlen];exact hw) ⟨.ref a,H,I,rfl,q a H ?_ (ac.refl H)⟩
  have:nK xs lo hi=xs:=by
   unfold nK;rw [hw.1,hw.2,List.drop_zero,Nat.sub_zero,List.take_length]
  rw [this];exact hx
 ·exact sl_tup pins s σ H _ v vl vu lo hi sl Q I rx hs pl pu ⟨a,xs,rfl,.inl (.inl hx),hw,fun p hp=>q p _ av (ac.upd hp)⟩
end
def small(n:Nat):Bool:=decide (n<=1000000)
theorem gE{n:Nat}(h:small n=true):n<=sizeLine:=Ep (DI h) (by decide)
theorem me{n:Nat}(h:small n=true):n < sizeLine:=Nat.lt_of_le_of_lt (DI h) (by decide)
noncomputable def kC(xs:List D)(lo hi:Option Int):List D:=(xs.drop (HT.sIx xs.length 0 lo)).take (HT.sIx xs.length xs.length hi - HT.sIx xs.length 0 lo)
theorem ah.cut{K:F2}{H:Hp}{ds:List D}{xs:List V}(h:ah K H ds xs)(lo hi:Option Int):ah K H (kC ds lo hi) (nK xs lo hi):=by
 unfold kC nK;rw [h.len];exact (h.drop _).take _
def gO(a b:Int):Bool:=decide (-(2 ^ 64) < a/\a < 2 ^ 64)||decide (-(2 ^ 64) < b/\b < 2 ^ 64)
noncomputable def aM:List D->Option (D×Bool)
 | [.int a,.int b]=>some (.int (a+b),false)
 | [.lst a,.lst b]=>if small (a.length+b.length)=true then some (.lst (a++b),true) else none
 | [.tup a,.tup b]=>if small (a.length+b.length)=true then some (.tup (a++b),false) else none
 | _=>none
def bg:List D->Option (D×Bool)
 | [.int a,.int b]=>some (.int (a - b),false)
 | _=>none
def repL(n:Nat)(l:List D):List D:=(List.replicate n l).flatten
noncomputable def cA:List D->Option (D×Bool)
 | [.int a,.int b]=>if gO a b=true then some (.int (a * b),false) else none
 | [.lst a,.int k]=>if (decide (-1000000<=k/\k<=1000000)&&small (a.length * k.toNat))=true then some (.lst (repL k.toNat a),true) else none
 | _=>none
noncomputable def eO:List D->Option (D×Bool)
 | [.int a,.int b]=>if decide (0 < b/\b < 1073741824)=true then some (.int (a / b),false) else none
 | _=>none
noncomputable def cQ:List D->Option (D×Bool)
 | [.int a,.int b]=>if decide (0 < b)=true then some (.int (a % b),false) else none
 | _=>none
noncomputable def zR:List D->Option (D×Bool)
 | [.int a,.int b]=>if decide (0<=b/\b<=1000000/\a.natAbs < 2 ^ 64)=true then some (.int (a ^ b.toNat),false) else none
 | _=>none
noncomputable def aT:List D->Option (List Int)
 | []=>some []
 | .int i::ds=>match aT ds with
  | some l=>some (i::l)
  | none=>none
 | _=>none
noncomputable def iE:List D->Option (List Bool)
 | []=>some []
 | .bl i::ds=>match iE ds with
  | some l=>some (i::l)
  | none=>none
 | _=>none
theorem aX:∀ {ds:List D} {l:List Int},aT ds=some l->ds=l.map D.int
 | [],l,h=>by unfold aT at h;cases h;rfl
 | d::ds,l,h=>by
  cases d<;>first | (unfold aT at h;cases h;done) | skip
  unfold aT at h
  cases e:aT ds with
  | none=>rw [e] at h;cases h
  | some l'=>rw [e] at h;cases h;rw [aX e];rfl
theorem cz(l:List Int):aT (l.map D.int)=some l:=by
 induction l with
 | nil=>rfl
 | cons i l ih=>rw [DJ];unfold aT;rw [ih]
theorem tP:∀ {ds:List D} {l:List Bool},iE ds=some l->ds=l.map D.bl
 | [],l,h=>by unfold iE at h;cases h;rfl
 | d::ds,l,h=>by
  cases d<;>first | (unfold iE at h;cases h;done) | skip
  unfold iE at h
  cases e:iE ds with
  | none=>rw [e] at h;cases h
  | some l'=>rw [e] at h;cases h;rw [tP e];rfl
theorem xR(l:List Bool):iE (l.map D.bl)=some l:=by
 induction l with
 | nil=>rfl
 | cons i l ih=>rw [DJ];unfold iE;rw [ih]
def gLt:List D->Option (D×Bool)
 | [.int a,.int b]=>some (.bl (decide (a < b)),false)
 | _=>none
def gLe:List D->Option (D×Bool)
 | [.int a,.int b]=>some (.bl (decide (a<=b)),false)
 | _=>none
def gGt:List D->Option (D×Bool)
 | [.int a,.int b]=>some (.bl (decide (b < a)),false)
 | _=>none
def gGe:List D->Option (D×Bool)
 | [.int a,.int b]=>some (.bl (decide (b<=a)),false)
 | _=>none
def zI:D->Bool
 | .non=>true
 | _=>false
noncomputable def gIs:List D->Option (D×Bool)
 | [d,.non]=>some (.bl (zI d),false)
 | [.bl a,.bl b]=>some (.bl (a == b),false)
 | _=>none
noncomputable def rIsD:R2:=fun x y H Q=>(y = .non/\Q (.bl (decide (x = .non))) H)\/∃ a b,x = .bl a/\y = .bl b/\Q (.bl (a == b)) H
noncomputable def vF:R2:=fun x y H Q=>(y = .non/\Q (.bl (!decide (x = .non))) H)\/∃ a b,x = .bl a/\y = .bl b/\Q (.bl (a != b)) H
section
variable{K:F2}
theorem sK{H Hh:Hp}{d:D}{v:V}(r:gr K H Hh d v):decide (v = .non)=zI d:=by
 cases d<;>first
  | (have r:v=_:=r;subst r;rfl)
  | (obtain ⟨p,xs,rfl,_⟩:=r;rfl)
  | (obtain ⟨p,rfl,_⟩:=r;rfl)
theorem bM{H Hh:Hp}{i:Int}{v:V}(r:gr K H Hh (.int i) v):v = .int i:=r
theorem Bk{H Hh:Hp}{i:Bool}{v:V}(r:gr K H Hh (.bl i) v):v = .bl i:=r
theorem cv{H:Hp}{L:List Addr}{ds:List D}{xs:List V}(r:ah K (hid L H) ds xs){p:Addr}(hp:H p=none):h9 K H (upd H p (.lst xs)) L (.lst ds) true (.ref p) :=
 ⟨p,rfl,hp,xs,av,(aR (fun b hb=>(Dx.mp hb).elim (fun z=> .inr (by rw [z];exact hp)) .inl) fun b o _ e=>ac.upd hp b o e:ac (hid L H) _).repDs r⟩
theorem jJ{H H':Hp}{L:List Addr}{ds:List D}{xs:List V}(hm:∀ p∈L,fE (H p))(r:ah K (hid L H) ds xs){p:Addr}(s:ac H H')(hp:H' p=some (.tup xs)):h9 K H H' L (.tup ds) false (.ref p):=by
 refine ⟨p,xs,rfl,?_,(aR (fun b hb=> .inl hb) fun b o _ e=>s b o e:ac (hid L H) _).repDs r⟩;rw [aE (fun z=> ?_)]
 ·exact hp
 ·obtain ⟨u,q⟩:=(hm p z).some
  have e:=s p u q;rw [hp] at e;cases e;have:=hm p z;rw [q] at this;exact this
theorem os_add:OpS K (r2 fun x y H Q=>rI0 (fun i j=> .int (i+j)) x y H Q\/rCat x y H Q\/yJ x y H Q) aM:=by
 intro vs ds H L Q d nw hm r e q;unfold aM at e
 split at e
 ·obtain ⟨x,y,rfl,ra,rb⟩:=aK r
  cases e;exact .inl ⟨_,_,ra,rb,q _ H (ac.refl _) rfl⟩
 ·obtain ⟨x,y,rfl,⟨p,xs,rfl,h1,h2⟩,⟨p',ys,rfl,h3,h4⟩⟩:=aK r
  split at e
  ·rename_i hs
   cases e;refine .inr (.inl ⟨p,p',xs,ys,rfl,rfl,h1,h3,gE (by rw [<- h2.len,<- h4.len];exact hs),fun l hl=>q _ _ (ac.upd hl) (cv (h2.app h4) hl)⟩)
  ·cases e
 ·obtain ⟨x,y,rfl,⟨p,xs,rfl,h1,h2⟩,⟨p',ys,rfl,h3,h4⟩⟩:=aK r
  split at e
  ·rename_i hs
   cases e;exact .inr (.inr ⟨p,p',xs,ys,rfl,rfl,(am h1).2,(am h3).2,gE (by rw [<- h2.len,<- h4.len];exact hs),fun l H' hl s=>q _ _ s (jJ hm (h2.app h4) s hl)⟩)
  ·cases e
 ·cases e
theorem os_sub:OpS K (r2 (rI0 fun i j=> .int (i - j))) bg:=by
 intro vs ds H L Q d nw hm r e q;unfold bg at e
 split at e
 ·obtain ⟨x,y,rfl,ra,rb⟩:=aK r
  cases e;exact ⟨_,_,ra,rb,q _ H (ac.refl _) rfl⟩
 ·cases e
theorem rF:∀ {H:Hp} {ds:List D} {xs:List V} (n:Nat),ah K H ds xs->ah K H (repL n ds) (List.replicate n xs).flatten
 | _,_,_,0,_=>trivial
 | _,_,_,n+1,h=>by
  unfold repL;rw [ED,ED,E5,E5];exact h.app (rF n h)
theorem os_mul:OpS K (r2 fun x y H Q=>rI AL (fun i j=> .int (i * j)) x y H Q\/rRep x y H Q) cA:=by
 intro vs ds H L Q d nw hm r e q;unfold cA at e
 split at e
 ·obtain ⟨x,y,rfl,ra,rb⟩:=aK r
  split at e
  ·rename_i hs
   cases e;refine .inl ⟨_,_,ra,rb,?_,q _ H (ac.refl _) rfl⟩
   rcases (FE _ _).mp hs with z | z
   ·exact .inl (DI z)
   ·exact .inr (DI z)
  ·cases e
 ·rename_i a k
  obtain ⟨x,y,rfl,⟨p,xs,rfl,h1,h2⟩,rb⟩:=aK r
  split at e
  ·rename_i hs
   cases e;have hs:=(DM _ _).mp hs;have hb:=DI hs.1;refine .inr ⟨p,k,xs,rfl,rb,h1,by omega,by omega,?_,fun l hl=>q _ _ (ac.upd hl) (cv (rF k.toNat h2) hl)⟩;rw [<- h2.len];exact gE hs.2
  ·cases e
 ·cases e
theorem BN:OpS K (r2 (rI CDiv fun i j=> .int (i / j))) eO:=by
 intro vs ds H L Q d nw hm r e q;unfold eO at e
 split at e
 ·obtain ⟨x,y,rfl,ra,rb⟩:=aK r
  split at e
  ·rename_i hs
   cases e;exact ⟨_,_,ra,rb,(by have z:=DI hs;exact z),q _ H (ac.refl _) rfl⟩
  ·cases e
 ·cases e
theorem os_mod:OpS K (r2 (rI (fun _ j=>0 < j) fun i j=> .int (i % j))) cQ:=by
 intro vs ds H L Q d nw hm r e q;unfold cQ at e
 split at e
 ·obtain ⟨x,y,rfl,ra,rb⟩:=aK r
  split at e
  ·rename_i hs
   cases e;exact ⟨_,_,ra,rb,DI hs,q _ H (ac.refl _) rfl⟩
  ·cases e
 ·cases e
theorem os_pow:OpS K (r2 (rI CPow fun i j=> .int (i ^ j.toNat))) zR:=by
 intro vs ds H L Q d nw hm r e q;unfold zR at e
 split at e
 ·obtain ⟨x,y,rfl,ra,rb⟩:=aK r
  split at e
  ·rename_i hs
   cases e;exact ⟨_,_,ra,rb,(by have z:=DI hs;exact z),q _ H (ac.refl _) rfl⟩
  ·cases e
 ·cases e
theorem os_lt:OpS K (r2 (rI0 fun i j=> .bl (decide (i < j)))) gLt:=by
 intro vs ds H L Q d nw hm r e q;unfold gLt at e
 split at e
 ·obtain ⟨x,y,rfl,ra,rb⟩:=aK r
  cases e;exact ⟨_,_,ra,rb,q _ H (ac.refl _) rfl⟩
 ·cases e
theorem vN:OpS K (r2 (rI0 fun i j=> .bl (decide (i<=j)))) gLe:=by
 intro vs ds H L Q d nw hm r e q;unfold gLe at e
 split at e
 ·obtain ⟨x,y,rfl,ra,rb⟩:=aK r
  cases e;exact ⟨_,_,ra,rb,q _ H (ac.refl _) rfl⟩
 ·cases e
theorem C3:OpS K (r2 (rI0 fun i j=> .bl (decide (j < i)))) gGt:=by
 intro vs ds H L Q d nw hm r e q;unfold gGt at e
 split at e
 ·obtain ⟨x,y,rfl,ra,rb⟩:=aK r
  cases e;exact ⟨_,_,ra,rb,q _ H (ac.refl _) rfl⟩
 ·cases e
theorem C4:OpS K (r2 (rI0 fun i j=> .bl (decide (j<=i)))) gGe:=by
 intro vs ds H L Q d nw hm r e q;unfold gGe at e
 split at e
 ·obtain ⟨x,y,rfl,ra,rb⟩:=aK r
  cases e;exact ⟨_,_,ra,rb,q _ H (ac.refl _) rfl⟩
 ·cases e
theorem os_is:OpS K (r2 rIsD) gIs:=by
 intro vs ds H L Q d nw hm r e q;unfold gIs at e
 split at e
 ·obtain ⟨x,y,rfl,ra,rb⟩:=aK r
  cases e;refine .inl ⟨rb,?_⟩;rw [sK ra];exact q _ H (ac.refl _) rfl
 ·obtain ⟨x,y,rfl,ra,rb⟩:=aK r
  cases e;exact .inr ⟨_,_,ra,rb,q _ H (ac.refl _) rfl⟩
 ·cases e
end
noncomputable def gIx:List D->Option (D×Bool)
 | [.lst ds,.int i]=>match atI ds i with
  | some d=>some (d,false)
  | none=>none
 | [.klst ds,.int i]=>match atI ds i with
  | some d=>some (d,false)
  | none=>none
 | [.tup ds,.int i]=>match atI ds i with
  | some d=>some (d,false)
  | none=>none
 | [.ktup ds,.int i]=>match atI ds i with
  | some d=>some (d,false)
  | none=>none
 | _=>none
noncomputable def gSl(lo hi:Option Int):D->Option (D×Bool)
 | .lst ds=>some (.lst (kC ds lo hi),true)
 | .klst ds=>some (.lst (kC ds lo hi),true)
 | .tup ds=>some (.tup (kC ds lo hi),false)
 | _=>none
def sO:List D->Option (D×Bool)
 | [d,.int i]=>gSl (some i) none d
 | _=>none
def B8(i j:Int):List D->Option (D×Bool)
 | [d]=>gSl (some i) (some j) d
 | _=>none
def Bu(K:F2):RSl:=fun x lo hi H Q=>rSlL K x lo hi H Q\/rSlD x lo hi H Q
section
variable{K:F2}
theorem qM{H:Hp}{ds:List D}{xs:List V}{i:Int}{d:D}(r:ah K H ds xs)(e:atI ds i=some d):∃ v,atI xs i=some v/\ay K H d v:=by
 unfold atI at e ⊢;rw [<- r.len]
 cases h:ixN ds.length i with
 | none=>rw [h] at e;cases e
 | some j =>
  rw [h] at e;obtain ⟨x,e1,e2⟩:=r.get (show ds[j]?=some d from e);exact ⟨x,e1,e2⟩
theorem os_ix:OpS K (r2 (rIx K)) gIx:=by
 intro vs ds H L Q d nw hm r e q;unfold gIx at e
 split at e
 ·rename_i es i
  obtain ⟨x,y,rfl,⟨p,xs,rfl,h1,h2⟩,rb⟩:=aK r
  cases ea:atI es i with
  | none=>rw [ea] at e;cases e
  | some d' =>
   rw [ea] at e;cases e;obtain ⟨v,e1,e2⟩:=qM h2 ea;exact .inl ⟨p,xs,i,v,rfl,rb,.inl (.inl h1),e1,q v H (ac.refl _) e2⟩
 ·rename_i es i
  obtain ⟨x,y,rfl,⟨p,xs,rfl,h1,h2⟩,rb⟩:=aK r
  cases ea:atI es i with
  | none=>rw [ea] at e;cases e
  | some d' =>
   rw [ea] at e;cases e;obtain ⟨v,e1,e2⟩:=qM h2 ea;exact .inl ⟨p,xs,i,v,rfl,rb,au.seq h1,e1,q v H (ac.refl _) e2⟩
 ·rename_i es i
  obtain ⟨x,y,rfl,⟨p,xs,rfl,h1,h2⟩,rb⟩:=aK r
  cases ea:atI es i with
  | none=>rw [ea] at e;cases e
  | some d' =>
   rw [ea] at e;cases e;obtain ⟨v,e1,e2⟩:=qM h2 ea;exact .inr (.inl ⟨p,xs,i,v,rfl,rb,.inl (.inl (am h1).2),e1,q v H (ac.refl _) e2⟩)
 ·rename_i es i
  obtain ⟨x,y,rfl,⟨p,xs,rfl,h1,h2⟩,rb⟩:=aK r
  cases ea:atI es i with
  | none=>rw [ea] at e;cases e
  | some d' =>
   rw [ea] at e;cases e;obtain ⟨v,e1,e2⟩:=qM h2 ea;exact .inr (.inl ⟨p,xs,i,v,rfl,rb,ff h1,e1,q v H (ac.refl _) e2⟩)
 ·cases e
theorem CM{H:Hp}{L:List Addr}{lo hi:Option Int}{x:V}{c d:D}{nw:Bool}{Q:VK}(hm:∀ p∈L,fE (H p))(r:gr K H (hid L H) c x)(e:gSl lo hi c=some (d,nw))(q:∀ v H',ac H H'->h9 K H H' L d nw v->Q v H'):Bu K x lo hi H Q:=by
 unfold gSl at e
 split at e
 ·obtain ⟨p,xs,rfl,h1,h2⟩:=r
  cases e;exact .inl ⟨p,xs,rfl,.inl (.inl h1),fun l hl=>q _ _ (ac.upd hl) (cv (h2.cut lo hi) hl)⟩
 ·obtain ⟨p,xs,rfl,h1,h2⟩:=r
  cases e;exact .inl ⟨p,xs,rfl,au.seq h1,fun l hl=>q _ _ (ac.upd hl) (cv (h2.cut lo hi) hl)⟩
 ·obtain ⟨p,xs,rfl,h1,h2⟩:=r
  cases e;exact .inr ⟨p,xs,rfl,(am h1).2,fun l H' hl s=>q _ _ s (jJ hm (h2.cut lo hi) s hl)⟩
 ·cases e
theorem os_s10:OpS K (rS10 (Bu K)) sO:=by
 intro vs ds H L Q d nw hm r e q;unfold sO at e
 split at e
 ·obtain ⟨x,y,rfl,ra,rb⟩:=aK r
  exact ⟨_,rb,CM hm ra e q⟩
 ·cases e
theorem os_s11{i j:Int}:OpS K (rS11 (Bu K) i j) (B8 i j):=by
 intro vs ds H L Q d nw hm r e q;unfold B8 at e
 split at e
 ·obtain ⟨x,rfl,ra⟩:=aA r
  exact ⟨i,rfl,j,rfl,CM hm ra e q⟩
 ·cases e
end
section
variable{X:Cx}
theorem BU:OpR X (binaryOp .Add) (fun x y H Q=>rI0 (fun i j=> .int (i+j)) x y H Q\/rCat x y H Q\/yJ x y H Q):=op_add.or (op_cat.or BT)
theorem BP:OpR X (binaryOp .Mult) (fun x y H Q=>rI AL (fun i j=> .int (i * j)) x y H Q\/rRep x y H Q):=op_mul.or op_rep
theorem yk:SlR X (Bu X.K):=Bd.or Bc
theorem op_isD:OpR X (compareOp .Is) rIsD:=op_isN.or op_isB
theorem wN:OpR X (compareOp .IsNot) vF:=BO.or wO
end
def ins(x:Int):List Int->List Int
 | []=>[x]
 | y::l=>if x<=y then x::y::l else y::ins x l
def fg:List Int->List Int
 | []=>[]
 | x::l=>ins x (fg l)
theorem nA(x:Int):∀ l:List Int,(ins x l).Perm (x::l)
 | []=> .refl _
 | y::l=>by
  unfold ins
  split
  ·exact .refl _
  ·exact ((nA x l).cons y).trans (.swap x y l)
theorem f9:∀ l:List Int,(fg l).Perm l
 | []=> .refl _
 | x::l=>(nA x _).trans ((f9 l).cons x)
theorem nv(x:Int):∀ {l:List Int},l.Pairwise (·<= ·)->(ins x l).Pairwise (·<= ·)
 | [],_=>by unfold ins;simp
 | y::l,h=>by
  unfold ins;have hy:=Ef.mp h
  split
  ·rename_i hxy
   exact Ef.mpr ⟨fun z hz=>(Dx.mp hz).elim (fun e=>e ▸ hxy) fun hz=>Int.le_trans hxy (hy.1 z hz),h⟩
  ·rename_i hxy
   refine Ef.mpr ⟨fun z hz=> ?_,nv x hy.2⟩
   rcases Dx.mp ((nA x l).mem_iff.mp hz) with e | hz
   ·rw [e];omega
   ·exact hy.1 z hz
theorem f8:∀ l:List Int,(fg l).Pairwise (·<= ·)
 | []=> .nil
 | x::l=>nv x (f8 l)
theorem bu:∀ {a b:List Int},a.Pairwise (·<= ·)->b.Pairwise (·<= ·)->a.Perm b->a=b
 | [],b,_,_,h=>(h.symm.eq_nil).symm ▸ rfl
 | x::a,[],_,_,h=>absurd h.eq_nil (by simp)
 | x::a,y::b,h1,h2,h=>by
  have g1:=Ef.mp h1;have g2:=Ef.mp h2
  have e:x=y:=by
   have m1:x∈y::b:=h.mem_iff.mp DC;have m2:y∈x::a:=h.mem_iff.mpr DC;have l1:y<=x:=(Dx.mp m1).elim (fun e=>e ▸ Int.le_refl _) (g2.1 x);have l2:x<=y:=(Dx.mp m2).elim (fun e=>e ▸ Int.le_refl _) (g1.1 y);omega
  subst e;rw [bu g1.2 g2.2 h.cons_inv]
def fP:List Int->Int
 | []=>0
 | [x]=>x
 | x::y::l=>if fP (y::l)<=x then x else fP (y::l)
def eU:List Int->Int
 | []=>0
 | [x]=>x
 | x::y::l=>if x<=eU (y::l) then x else eU (y::l)
theorem fc:∀ {l:List Int},l≠[]->fP l∈l/\∀ a∈l,a<=fP l
 | [],h=>absurd rfl h
 | [x],_=>by unfold fP;simp
 | x::y::l,_=>by
  obtain ⟨h1,h2⟩:=fc (l:=y::l) (by simp);unfold fP
  split
  ·rename_i hx
   exact ⟨DC,fun a ha=>(Dx.mp ha).elim (fun e=>e ▸ Int.le_refl _) fun ha=>Int.le_trans (h2 a ha) hx⟩
  ·rename_i hx
   exact ⟨Dv _ h1,fun a ha=>(Dx.mp ha).elim (fun e=>by rw [e];omega) (h2 a)⟩
theorem dR:∀ {l:List Int},l≠[]->eU l∈l/\∀ a∈l,eU l<=a
 | [],h=>absurd rfl h
 | [x],_=>by unfold eU;simp
 | x::y::l,_=>by
  obtain ⟨h1,h2⟩:=dR (l:=y::l) (by simp);unfold eU
  split
  ·rename_i hx
   exact ⟨DC,fun a ha=>(Dx.mp ha).elim (fun e=>e ▸ Int.le_refl _) fun ha=>Int.le_trans hx (h2 a ha)⟩
  ·rename_i hx
   exact ⟨Dv _ h1,fun a ha=>(Dx.mp ha).elim (fun e=>by rw [e];omega) (h2 a)⟩
def dd(ns:List Int):List Int:=ns.foldl step_dedup []
theorem sx(ns:List Int):St2.eL ns ns.length=dd ns:=by
 unfold St2.eL firstMet dd
 congr 1
 apply Fg
 ·simp
 ·intro i h1 h2
  simp [h2]
theorem dd_any(ns:List Int)(x:Int):(dd ns).any (·== x)=true↔x∈ns:=by rw [<- sx];exact St3.kw ns x
theorem Ap(ns:List Int)(x:Int):x∈dd ns↔x∈ns:=by
 rw [<- dd_any ns x];simp
section
variable{X:Cx}
noncomputable def uj(K:F2):List V->Hp->VK->Prop:=fun xs H Q=>∃ (p:Addr) (ns:List Int),xs=[V.ref p]/\SqT K H p (ns.map V.int)/\ns.length<=1000 /\
 ∀ l S,H l=none->(∀ x,S x=true↔x∈ns)->Q (.ref l) (upd H l (.set S (St2.eL ns ns.length).length))
theorem uU(hc:X.calm=true):ax X (.type "set") (uj X.K):=by
 intro pins s σ H xs us Q I r h;obtain ⟨p,ns,rfl,hq,hn,q⟩:=h;obtain ⟨u,rfl,ru⟩:=bC r;cases ru;obtain ⟨its,rv,pt,_⟩:=I.tuple hq
 have ln:its.length=ns.length:=by rw [<- rv.length,Dp]
 refine St2.wv (ns:=ns) (I.ok.hd hc) pt (by simpa using dl rv) (by rw [Ds,ln];unfold scanBound;omega) fun h' tk st kp=> ?_
 have sz:its.toArray.size=ns.length:=by rw [Ds,ln]
 rw [sz] at st;have hf:H s.heap.objs.size=none:=I.hok.fresh (DE _);exact ⟨.ref s.heap.objs.size,_,I.laid (o:= .set _ _) (fun b o e=>kp b o (DA e) e) (DE _) st,rfl,q _ _ hf (St3.kw ns)⟩
end
noncomputable def bi:List D->Option (D×Bool)
 | [.lst ds]=>some (.int ds.length,false)
 | [.klst ds]=>some (.int ds.length,false)
 | [.tup ds]=>some (.int ds.length,false)
 | [.ktup ds]=>some (.int ds.length,false)
 | [.dK ks _]=>some (.int ks.length,false)
 | [.dT ks _]=>some (.int ks.length,false)
 | [.set l]=>if decide (l.length<=1000)=true then some (.int l.length,false) else none
 | _=>none
noncomputable def CW(X:Cx):List V->Hp->VK->Prop:=fun xs H Q=>(∃ p ys,xs=[V.ref p]/\(SqL X.K H p ys\/SqT X.K H p ys)/\Q (.int ys.length) H)\/(∃ a kvs,xs=[V.ref a]/\H a=some (.dK kvs)/\Q (.int kvs.length) H)\/(∃ a kvs,xs=[V.ref a]/\H a=some (.dT kvs)/\Q (.int kvs.length) H)\/vD xs H Q
theorem xL{X:Cx}:ax X (.builtin "len") (CW X):=qK.or (xK.or (xJ.or tN))
theorem os_len{X:Cx}:OpS X.K (CW X) bi:=by
 intro vs ds H L Q d nw hm r e q;unfold bi at e
 split at e
 ·obtain ⟨x,rfl,⟨p,xs,rfl,h1,h2⟩⟩:=aA r
  cases e;exact .inl ⟨p,xs,rfl,.inl (.inl (.inl h1)),by rw [<- h2.len];exact q _ H (ac.refl _) rfl⟩
 ·obtain ⟨x,rfl,⟨p,xs,rfl,h1,h2⟩⟩:=aA r
  cases e;exact .inl ⟨p,xs,rfl,.inl (au.seq h1),by rw [<- h2.len];exact q _ H (ac.refl _) rfl⟩
 ·obtain ⟨x,rfl,⟨p,xs,rfl,h1,h2⟩⟩:=aA r
  cases e;exact .inl ⟨p,xs,rfl,.inr (.inl (.inl (am h1).2)),by rw [<- h2.len];exact q _ H (ac.refl _) rfl⟩
 ·obtain ⟨x,rfl,⟨p,xs,rfl,h1,h2⟩⟩:=aA r
  cases e;exact .inl ⟨p,xs,rfl,.inr (ff h1),by rw [<- h2.len];exact q _ H (ac.refl _) rfl⟩
 ·rename_i ks vs'
  obtain ⟨x,rfl,⟨p,xs,rfl,h1,h2,h3⟩⟩:=aA r;cases e;exact .inr (.inl ⟨p,_,rfl,h1,by rw [Fj,<- h2,E8];exact q _ H (ac.refl _) rfl⟩)
 ·rename_i ks vs'
  obtain ⟨x,rfl,⟨p,xs,rfl,h1,h2,h3⟩⟩:=aA r;cases e;exact .inr (.inr (.inl ⟨p,_,rfl,h1,by rw [Fj,<- h2,E8];exact q _ H (ac.refl _) rfl⟩))
 ·obtain ⟨x,rfl,⟨p,S,rfl,h1,h2⟩⟩:=aA r
  split at e
  ·rename_i hl
   cases e;exact .inr (.inr (.inr ⟨p,S,_,rfl,(am h1).2,DI hl,q _ H (ac.refl _) rfl⟩))
  ·cases e
 ·cases e
noncomputable def qy:List D->Option (D×Bool)
 | [.lst ds]=>match aT ds with
  | some ns=>some (.int ns.sum,false)
  | none=>none
 | [.tup ds]=>match aT ds with
  | some ns=>some (.int ns.sum,false)
  | none=>none
 | _=>none
theorem xw{X:Cx}(hc:X.calm=true):ax X (.builtin "sum") (fun xs H Q=>yF X.K xs H Q\/yE X.K xs H Q):=(xu hc).or (xt hc)
theorem os_sum{K:F2}:OpS K (fun xs H Q=>yF K xs H Q\/yE K xs H Q) qy:=by
 intro vs ds H L Q d nw hm r e q;unfold qy at e
 split at e
 ·rename_i es
  obtain ⟨x,rfl,⟨p,xs,rfl,h1,h2⟩⟩:=aA r
  cases en:aT es with
  | none=>rw [en] at e;cases e
  | some ns =>
   rw [en] at e;cases e;rw [aX en] at h2;rw [aN h2] at h1;exact .inl ⟨p,ns,rfl,.inl (.inl h1),q _ H (ac.refl _) rfl⟩
 ·rename_i es
  obtain ⟨x,rfl,⟨p,xs,rfl,h1,h2⟩⟩:=aA r
  cases en:aT es with
  | none=>rw [en] at e;cases e
  | some ns =>
   rw [en] at e;cases e;rw [aX en] at h2;rw [aN h2] at h1;exact .inr ⟨p,ns,rfl,.inl (.inl (am h1).2),q _ H (ac.refl _) rfl⟩
 ·cases e
noncomputable def kA:List D->Option (D×Bool)
 | [.lst ds]=>match iE ds with
  | some bs=>some (.bl (bs.all id),false)
  | none=>none
 | _=>none
noncomputable def C0(K:F2):List V->Hp->VK->Prop:=fun xs H Q=>∃ (p:Addr) (bs:List Bool),xs=[V.ref p]/\SqL K H p (bs.map V.bl)/\Q (.bl (bs.all id)) H
theorem xO{X:Cx}(hc:X.calm=true):ax X (.builtin "all") (C0 X.K):=Ax hc
theorem os_all{K:F2}:OpS K (C0 K) kA:=by
 intro vs ds H L Q d nw hm r e q;unfold kA at e
 split at e
 ·rename_i es
  obtain ⟨x,rfl,⟨p,xs,rfl,h1,h2⟩⟩:=aA r
  cases en:iE es with
  | none=>rw [en] at e;cases e
  | some ns =>
   rw [en] at e;cases e;rw [tP en] at h2;rw [pA h2] at h1;exact ⟨p,ns,rfl,.inl (.inl h1),q _ H (ac.refl _) rfl⟩
 ·cases e
noncomputable def tyD:D->Option String
 | .non=>some "NoneType"
 | .bl _=>some "bool"
 | .int _=>some "int"
 | .str _=>some "str"
 | .lst _=>some "list"
 | .klst _=>some "list"
 | .tup _=>some "tuple"
 | .ktup _=>some "tuple"
 | .dK _ _=>some "dict"
 | .dT _ _=>some "dict"
 | _=>none
noncomputable def gY(C:String):List D->Option (D×Bool)
 | [d]=>match tyD d with
  | some T=>some (.bl (B4 T C),false)
  | none=>none
 | _=>none
theorem xY{K:F2}{H Hh:Hp}{d:D}{v:V}{T:String}(r:gr K H Hh d v)(s:ac Hh H)(e:tyD d=some T):C9 K H T v:=by
 cases d<;>first
  | (unfold tyD at e;cases e;done)
  | (unfold tyD at e;cases e;have r:v=_:=r;subst r;rfl)
  | (unfold tyD at e;cases e;obtain ⟨p,xs,rfl,h1,h2,h3⟩:=r;exact .inr (.inr ⟨rfl,.inl ⟨_,h1⟩⟩))
  | (unfold tyD at e;cases e;obtain ⟨p,xs,rfl,h1,h2,h3⟩:=r;exact .inr (.inr ⟨rfl,.inr ⟨_,h1⟩⟩))
  | (unfold tyD at e;cases e;obtain ⟨p,xs,rfl,h1,h2⟩:=r;exact .inr (.inl ⟨rfl,xs,.inl (.inl (s _ _ h1))⟩))
  | (unfold tyD at e;cases e;obtain ⟨p,xs,rfl,h1,h2⟩:=r;exact .inr (.inl ⟨rfl,xs,ff h1⟩))
  | (unfold tyD at e;cases e;obtain ⟨p,xs,rfl,h1,h2⟩:=r;exact .inl ⟨rfl,xs,.inl (.inl h1)⟩)
  | (unfold tyD at e;cases e;obtain ⟨p,xs,rfl,h1,h2⟩:=r;exact .inl ⟨rfl,xs,s.seq h1⟩)
def rIsiC(K:F2)(C:String):List V->Hp->VK->Prop
 | [x],H,Q=>rIsi K [x,.ty C] H Q
 | _,_,_=>False
theorem os_isi{K:F2}{C:String}(hC:isiC C):OpS K (rIsiC K C) (gY C):=by
 intro vs ds H L Q d nw hm r e q;unfold gY at e
 split at e
 ·rename_i c
  obtain ⟨x,rfl,ra⟩:=aA r
  cases et:tyD c with
  | none=>rw [et] at e;cases e
  | some T =>
   rw [et] at e;cases e;exact ⟨x,T,C,rfl,hC,xY ra au et,q _ H (ac.refl _) rfl⟩
 ·cases e
theorem tO{X:Cx}{EX:EXT}{e:Expr}{a:Arg}{C:String}{nC:Str}{p1 p2 pos:Pos}(hC:isiC C)(he:JB X EX e a)(g1:Gl X "isinstance")(m1:X.mg "isinstance" = none)(g2:Gl X nC)(m2:X.mg nC=none)(b2:bootBuiltins nC=some (.type C))
 (hn:nC ≠ "__name__" := by decide) (hdb:(nC == ("__debug__" : Str))=false:=by decide)
 (hs:starEach [e,.Name nC p1] X.env=(false,eval e X.env)::starEach [.Name nC p1] X.env:=by rfl):JE X EX (.Call (.Name "isinstance" p2) [e,.Name nC p1] [] pos) (sOp (gY C) [a]) :=
 ⟨(rT Aw g1 m1 boot_isinstance (dw he.p (dw (BJ (v:= .ty C) g2 m2 b2 rfl hn hdb) fA) hs) (he:=hs)).by fun σ H Q ⟨F,ρ,W,R,h⟩=>cK (os_isi hC) R h⟩
noncomputable def zT:List D->Option (D×Bool)
 | [.int a,.int b]=>some (.int (if b > a then b else a),false)
 | [.lst ds]=>match aT ds with
  | some (n::ns)=>some (.int (fP (n::ns)),false)
  | _=>none
 | _=>none
noncomputable def Cc:List D->Option (D×Bool)
 | [.int a,.int b]=>some (.int (if b < a then b else a),false)
 | [.lst ds]=>match aT ds with
  | some (n::ns)=>some (.int (eU (n::ns)),false)
  | _=>none
 | _=>none
def vC:List V->Hp->VK->Prop:=fun xs H Q=>∃ i j,xs=[.int i,.int j]/\Q (.int (if j > i then j else i)) H
def vB:List V->Hp->VK->Prop:=fun xs H Q=>∃ i j,xs=[.int i,.int j]/\Q (.int (if j < i then j else i)) H
theorem xH{X:Cx}(hc:X.calm=true):ax X (.builtin "max") (fun xs H Q=>vC xs H Q\/rN X.K xs H Q):=(xI hc).or (xF hc)
theorem xC{X:Cx}(hc:X.calm=true):ax X (.builtin "min") (fun xs H Q=>vB xs H Q\/rM X.K xs H Q):=(xD hc).or (xA hc)
theorem nP{M N:Int}{l:List Int}(h1:M∈l)(h2:∀ a∈l,a<=M)(h3:N∈l)(h4:∀ a∈l,a<=N):M=N:=by have:=h2 N h3;have:=h4 M h1;omega
theorem nj{M N:Int}{l:List Int}(h1:M∈l)(h2:∀ a∈l,M<=a)(h3:N∈l)(h4:∀ a∈l,N<=a):M=N:=by have:=h2 N h3;have:=h4 M h1;omega
theorem os_max{K:F2}:OpS K (fun xs H Q=>vC xs H Q\/rN K xs H Q) zT:=by
 intro vs ds H L Q d nw hm r e q;unfold zT at e
 split at e
 ·obtain ⟨x,y,rfl,ra,rb⟩:=aK r
  cases e;exact .inl ⟨_,_,by rw [bM ra,bM rb],q _ H (ac.refl _) rfl⟩
 ·rename_i es
  obtain ⟨x,rfl,⟨p,xs,rfl,h1,h2⟩⟩:=aA r
  split at e
  ·rename_i n ns en
   cases e;rw [aX en] at h2;rw [aN h2] at h1;refine .inr ⟨p,n::ns,rfl,.inl (.inl h1),by simp,fun M m1 m2=> ?_⟩;obtain ⟨z1,z2⟩:=fc (l:=n::ns) (by simp);rw [nP m1 m2 z1 z2];exact q _ H (ac.refl _) rfl
  ·cases e
 ·cases e
theorem os_min{K:F2}:OpS K (fun xs H Q=>vB xs H Q\/rM K xs H Q) Cc:=by
 intro vs ds H L Q d nw hm r e q;unfold Cc at e
 split at e
 ·obtain ⟨x,y,rfl,ra,rb⟩:=aK r
  cases e;exact .inl ⟨_,_,by rw [bM ra,bM rb],q _ H (ac.refl _) rfl⟩
 ·rename_i es
  obtain ⟨x,rfl,⟨p,xs,rfl,h1,h2⟩⟩:=aA r
  split at e
  ·rename_i n ns en
   cases e;rw [aX en] at h2;rw [aN h2] at h1;refine .inr ⟨p,n::ns,rfl,.inl (.inl h1),by simp,fun M m1 m2=> ?_⟩;obtain ⟨z1,z2⟩:=dR (l:=n::ns) (by simp);rw [nj m1 m2 z1 z2];exact q _ H (ac.refl _) rfl
  ·cases e
 ·cases e
noncomputable def ie:List D->Option (D×Bool)
 | [.lst ds]=>match aT ds with
  | some ns=>if decide (ns.length < 64)=true then some (.lst ((fg ns).map D.int),true) else none
  | none=>none
 | [.tup ds]=>match aT ds with
  | some ns=>if decide (ns.length < 64)=true then some (.lst ((fg ns).map D.int),true) else none
  | none=>none
 | _=>none
theorem qI{X:Cx}:ax X (.builtin "sorted") (fun xs H Q=>iZ X.K xs H Q\/iY X.K xs H Q):=qG.or qF
theorem wK{K:F2}:OpS K (fun xs H Q=>iZ K xs H Q\/iY K xs H Q) ie:=by
 intro vs ds H L Q d nw hm r e q;unfold ie at e
 have fin:∀ (ns:List Int) l (ms:List Int),H l=none->List.Perm ms ns->ms.Pairwise (·<= ·)->(∀ v H',ac H H'->h9 K H H' L (.lst ((fg ns).map D.int)) true v->Q v H')->Q (.ref l) (upd H l (.lst (ms.map V.int))):=fun ns l ms hl hp hs q=>by
  have:ms=fg ns:=bu hs (f8 ns) (hp.trans (f9 ns).symm);subst this;exact q _ _ (ac.upd hl) (cv (di _) hl)
 split at e
 ·rename_i es
  obtain ⟨x,rfl,⟨p,xs,rfl,h1,h2⟩⟩:=aA r
  cases en:aT es with
  | none=>rw [en] at e;cases e
  | some ns =>
   rw [en] at e;dsimp only at e
   split at e
   ·rename_i hl
    cases e;rw [aX en] at h2;rw [aN h2] at h1;exact .inl ⟨p,ns,rfl,.inl (.inl h1),DI hl,fun l ms a b c=>fin ns l ms a b c q⟩
   ·cases e
 ·rename_i es
  obtain ⟨x,rfl,⟨p,xs,rfl,h1,h2⟩⟩:=aA r
  cases en:aT es with
  | none=>rw [en] at e;cases e
  | some ns =>
   rw [en] at e;dsimp only at e
   split at e
   ·rename_i hl
    cases e;rw [aX en] at h2;rw [aN h2] at h1;exact .inr ⟨p,ns,rfl,.inl (.inl (am h1).2),DI hl,fun l ms a b c=>fin ns l ms a b c q⟩
   ·cases e
 ·cases e
def gK(lo:Int)(n:Nat):List D:=(List.range n).map fun k=> .int (lo+(k:Nat))
def rngV(lo:Int)(n:Nat):List V:=(List.range n).map fun k=> .int (lo+(k:Nat))
theorem rD{K:F2}{H:Hp}(lo:Int)(n:Nat):ah K H (gK lo n) (rngV lo n):=by
 have:=di (K:=K) (H:=H) ((List.range n).map fun k=>lo+((k:Nat):Int));rw [Ed,Ed] at this;exact this
noncomputable def rC(lo hi:Int):Bool:=decide (-1000000000<=lo/\lo<=1000000000 /\ -1000000000<=hi/\hi<=1000000000/\(hi - lo).toNat<=1000)
noncomputable def zU:List D->Option (D×Bool)
 | [.lst ds]=>some (.lst ds,true)
 | [.tup ds]=>some (.lst ds,true)
 | [.ktup ds]=>some (.lst ds,true)
 | [.rng lo hi]=>if rC lo hi=true then some (.lst (gK lo (hi - lo).toNat),true) else none
 | _=>none
noncomputable def dL:List D->Option (D×Bool)
 | [.lst ds]=>some (.tup ds,false)
 | [.tup ds]=>some (.tup ds,false)
 | [.rng lo hi]=>if rC lo hi=true then some (.tup (gK lo (hi - lo).toNat),false) else none
 | _=>none
noncomputable def lT(K:F2):List V->Hp->VK->Prop:=fun xs H Q=>∃ p ys,xs=[.ref p]/\(SqL K H p ys\/SqT K H p ys)/\∀ l,H l=none->Q (.ref l) (upd H l (.lst ys))
noncomputable def rK(K:F2):List V->Hp->VK->Prop:=fun xs H Q=>∃ p ys,xs=[.ref p]/\((SqL K H p ys/\∀ l,H l=none->Q (.ref l) (upd H l (.tup ys)))\/(SqT K H p ys/\Q (.ref p) H))
theorem uY{X:Cx}(hc:X.calm=true):ax X (.type "list") (fun xs H Q=>lT X.K xs H Q\/mG xs H Q):=qJ.or (uX hc)
theorem tJ{X:Cx}(hc:X.calm=true):ax X (.type "tuple") (fun xs H Q=>rK X.K xs H Q\/yD xs H Q):=oE.or (xr hc)
theorem BM{K:F2}:OpS K (fun xs H Q=>lT K xs H Q\/mG xs H Q) zU:=by
 intro vs ds H L Q d nw hm r e q;unfold zU at e
 split at e
 ·obtain ⟨x,rfl,⟨p,xs,rfl,h1,h2⟩⟩:=aA r
  cases e;exact .inl ⟨p,xs,rfl,.inl (.inl (.inl h1)),fun l hl=>q _ _ (ac.upd hl) (cv h2 hl)⟩
 ·obtain ⟨x,rfl,⟨p,xs,rfl,h1,h2⟩⟩:=aA r
  cases e;exact .inl ⟨p,xs,rfl,.inr (.inl (.inl (am h1).2)),fun l hl=>q _ _ (ac.upd hl) (cv h2 hl)⟩
 ·obtain ⟨x,rfl,⟨p,xs,rfl,h1,h2⟩⟩:=aA r
  cases e;exact .inl ⟨p,xs,rfl,.inr (ff h1),fun l hl=>q _ _ (ac.upd hl) (cv h2 hl)⟩
 ·rename_i lo hi
  obtain ⟨x,rfl,⟨p,rfl,h1⟩⟩:=aA r
  split at e
  ·rename_i hk
   cases e;have hk:=DI hk;exact .inr ⟨p,lo,hi,rfl,(am h1).2,by omega,by omega,by omega,by omega,hk.2.2.2.2,fun l hl=>q _ _ (ac.upd hl) (cv (rD _ _) hl)⟩
  ·cases e
 ·cases e
theorem ze{K:F2}:OpS K (fun xs H Q=>rK K xs H Q\/yD xs H Q) dL:=by
 intro vs ds H L Q d nw hm r e q;unfold dL at e
 split at e
 ·obtain ⟨x,rfl,⟨p,xs,rfl,h1,h2⟩⟩:=aA r
  cases e;exact .inl ⟨p,xs,rfl,.inl ⟨.inl (.inl h1),fun l hl=>q _ _ (ac.upd hl) (jJ hm h2 (ac.upd hl) av)⟩⟩
 ·obtain ⟨x,rfl,⟨p,xs,rfl,h1,h2⟩⟩:=aA r
  cases e;exact .inl ⟨p,xs,rfl,.inr ⟨.inl (.inl (am h1).2),q _ _ (ac.refl _) ⟨p,xs,rfl,h1,h2⟩⟩⟩
 ·rename_i lo hi
  obtain ⟨x,rfl,⟨p,rfl,h1⟩⟩:=aA r
  split at e
  ·rename_i hk
   cases e;have hk:=DI hk;exact .inr ⟨p,lo,hi,rfl,(am h1).2,by omega,by omega,by omega,by omega,hk.2.2.2.2,fun l hl=>q _ _ (ac.upd hl) (jJ hm (rD _ _) (ac.upd hl) av)⟩
  ·cases e
 ·cases e
noncomputable def xf:List D->Option (D×Bool)
 | [.lst ds]=>match aT ds with
  | some ns=>if decide (ns.length<=1000)=true then some (.set (dd ns),false) else none
  | none=>none
 | [.tup ds]=>match aT ds with
  | some ns=>if decide (ns.length<=1000)=true then some (.set (dd ns),false) else none
  | none=>none
 | _=>none
theorem xx{X:Cx}(hc:X.calm=true):ax X (.type "set") (fun xs H Q=>uk X.K xs H Q\/uj X.K xs H Q):=(uV hc).or (uU hc)
theorem i8{K:F2}{H:Hp}{L:List Addr}{p:Addr}{o:HO}(hm:∀ p∈L,fE (H p))(hp:H p=none):hid L (upd H p o) p=some o:=by
 rw [aE (fun z=>by have:=hm p z;rw [hp] at this;exact this)];exact av
theorem os_set{K:F2}:OpS K (fun xs H Q=>uk K xs H Q\/uj K xs H Q) xf:=by
 intro vs ds H L Q d nw hm r e q;unfold xf at e
 have fin:∀ (ns:List Int) l (S:Int->Bool),H l=none->(∀ x,S x=true↔x∈ns)->(∀ v H',ac H H'->h9 K H H' L (.set (dd ns)) false v->Q v H')->Q (.ref l) (upd H l (.set S (St2.eL ns ns.length).length)):=fun ns l S hl hS q=>by
  rw [sx];exact q _ _ (ac.upd hl) ⟨l,S,rfl,i8 (K:=K) hm hl,fun x=>(hS x).trans (Ap ns x).symm⟩
 split at e
 ·rename_i es
  obtain ⟨x,rfl,⟨p,xs,rfl,h1,h2⟩⟩:=aA r
  cases en:aT es with
  | none=>rw [en] at e;cases e
  | some ns =>
   rw [en] at e;dsimp only at e
   split at e
   ·rename_i hl
    cases e;rw [aX en] at h2;rw [aN h2] at h1;exact .inl ⟨p,ns,rfl,.inl (.inl h1),DI hl,fun l S a b=>fin ns l S a b q⟩
   ·cases e
 ·rename_i es
  obtain ⟨x,rfl,⟨p,xs,rfl,h1,h2⟩⟩:=aA r
  cases en:aT es with
  | none=>rw [en] at e;cases e
  | some ns =>
   rw [en] at e;dsimp only at e
   split at e
   ·rename_i hl
    cases e;rw [aX en] at h2;rw [aN h2] at h1;exact .inr ⟨p,ns,rfl,.inl (.inl (am h1).2),DI hl,fun l S a b=>fin ns l S a b q⟩
   ·cases e
 ·cases e
noncomputable def zX:List D->Option (D×Bool)
 | [.int i]=>some (.int i,false)
 | [.bl b]=>some (.int (if b then 1 else 0),false)
 | _=>none
noncomputable def CY:List V->Hp->VK->Prop:=fun xs H Q=>(∃ i,xs=[.int i]/\Q (.int i) H)\/∃ k,xs=[.bl k]/\Q (.int (if k then 1 else 0)) H
theorem xM{X:Cx}:ax X (.type "int") CY:=xN
theorem os_int{K:F2}:OpS K CY zX:=by
 intro vs ds H L Q d nw hm r e q;unfold zX at e
 split at e
 ·obtain ⟨x,rfl,ra⟩:=aA r
  cases e;exact .inl ⟨_,by rw [bM ra],q _ H (ac.refl _) rfl⟩
 ·obtain ⟨x,rfl,ra⟩:=aA r
  cases e;exact .inr ⟨_,by rw [Bk ra],q _ H (ac.refl _) rfl⟩
 ·cases e
def zZ:List D->Option (D×Bool)
 | [.int i]=>some (.int (if i < 0 then -i else i),false)
 | _=>none
def C1:List V->Hp->VK->Prop:=fun xs H Q=>∃ i,xs=[.int i]/\Q (.int (if i < 0 then -i else i)) H
theorem xP{X:Cx}:ax X (.builtin "abs") C1:=Ay
theorem os_abs{K:F2}:OpS K C1 zZ:=by
 intro vs ds H L Q d nw hm r e q;unfold zZ at e
 split at e
 ·obtain ⟨x,rfl,ra⟩:=aA r
  cases e;exact ⟨_,by rw [bM ra],q _ H (ac.refl _) rfl⟩
 ·cases e
noncomputable def nE:List D->Option (D×Bool)
 | [.int j]=>some (.rng 0 j,false)
 | [.int i,.int j]=>some (.rng i j,false)
 | _=>none
noncomputable def CV:List V->Hp->VK->Prop:=fun xs H Q=>(∃ j:Int,xs=[V.int j]/\∀ l,H l=none->Q (.ref l) (upd H l (.rng 0 j)))\/(∃ i j:Int,xs=[V.int i,V.int j]/\∀ l,H l=none->Q (.ref l) (upd H l (.rng i j)))
theorem tK{X:Cx}:ax X (.type "range") CV:=Av
theorem zi{K:F2}:OpS K CV nE:=by
 intro vs ds H L Q d nw hm r e q;unfold nE at e
 split at e
 ·obtain ⟨x,rfl,ra⟩:=aA r
  cases e;exact .inl ⟨_,by rw [bM ra],fun l hl=>q _ _ (ac.upd hl) ⟨l,rfl,i8 (K:=K) hm hl⟩⟩
 ·obtain ⟨x,y,rfl,ra,rb⟩:=aK r
  cases e;exact .inr ⟨_,_,by rw [bM ra,bM rb],fun l hl=>q _ _ (ac.upd hl) ⟨l,rfl,i8 (K:=K) hm hl⟩⟩
 ·cases e
def gw:D->Option Key
 | .int i=>some (.inl i)
 | .str x=>some (.inr x)
 | _=>none
noncomputable def jd:List D->Option (List Key)
 | []=>some []
 | d::ds=>match gw d,jd ds with
  | some k,some l=>some (k::l)
  | _,_=>none
theorem kx{K:F2}{H:Hp}{d:D}{v:V}{k:Key}(e:gw d=some k)(r:ay K H d v):v=kV k:=by
 cases d<;>first | (unfold gw at e;cases e;done) | (unfold gw at e;cases e;exact r)
theorem jc{K:F2}{H:Hp}:∀ {ds:List D} {xs:List V} {k:List Key},jd ds=some k->ah K H ds xs->xs=k.map kV
 | [],[],k,e,_=>by unfold jd at e;cases e;rfl
 | d::ds,x::xs,k,e,h=>by
  unfold jd at e
  cases e1:gw d with
  | none=>rw [e1] at e;cases e
  | some k1 =>
   cases e2:jd ds with
   | none=>rw [e1,e2] at e;cases e
   | some l =>
    rw [e1,e2] at e;cases e;rw [kx e1 h.1,jc e2 h.2];rfl
 | [],_::_,_,_,h=>h.elim
 | _::_,[],_,_,h=>h.elim
section
variable{κ:Type}[DecidableEq κ]
def bN:List κ->List D->κ->Option D
 | k::ks,d::ds,x=>if k=x then some d else bN ks ds x
 | _,_,_=>none
noncomputable def i6:List κ->List D->κ->D->List κ×List D
 | k::ks,d::ds,x,y=>if k=x then (k::ks,y::ds) else ((k::(i6 ks ds x y).1),d::(i6 ks ds x y).2)
 | _,_,x,y=>([x],[y])
theorem fQ{K:F2}{H:Hp}:∀ {ks:List κ} {ds:List D} {xs:List V} {x:κ},ks.length=xs.length->ah K H ds xs ->
 (∀ d,bN ks ds x=some d->∃ v,eA (ks.zip xs) x=some v/\ay K H d v)/\(bN ks ds x=none->eA (ks.zip xs) x=none)
 | [],[],[],_,_,_=>⟨fun d h=>(by unfold bN at h;cases h),fun _=>rfl⟩
 | k::ks,d::ds,y::xs,x,hl,h=>by
  obtain ⟨i1,i2⟩:=fQ (x:=x) (Nat.succ.inj hl) h.2;have hl:ks.length=xs.length:=Nat.succ.inj hl;rw [FZ]
  by_cases e:k=x
  ·rw [jl (p:=(k,y)) e]
   refine ⟨fun d' hd=> ?_,fun hd=> ?_⟩
   ·unfold bN at hd;rw [if_pos e] at hd;cases hd;exact ⟨y,rfl,h.1⟩
   ·unfold bN at hd;rw [if_pos e] at hd;cases hd
  ·rw [jm (p:=(k,y)) e]
   refine ⟨fun d' hd=> ?_,fun hd=> ?_⟩
   ·unfold bN at hd;rw [if_neg e] at hd;exact i1 d' hd
   ·unfold bN at hd;rw [if_neg e] at hd;exact i2 hd
 | [],_::_,[],_,_,h=>h.elim
 | [],[],_::_,_,_,h=>h.elim
 | [],_::_,_::_,_,hl,_=>by simp at hl
 | _::_,[],[],_,hl,_=>by simp at hl
 | _::_,[],_::_,_,_,h=>h.elim
 | _::_,_::_,[],_,_,h=>h.elim
noncomputable def jC:List κ->List V->κ->V->List κ×List V
 | k::ks,d::ds,x,y=>if k=x then (k::ks,y::ds) else ((k::(jC ks ds x y).1),d::(jC ks ds x y).2)
 | _,_,x,y=>([x],[y])
theorem mI{K:F2}{H:Hp}{d:D}{v:V}(r:ay K H d v):∀ {ks:List κ} {ds:List D} {xs:List V} {x:κ},ks.length=xs.length->ah K H ds xs ->
 (jC ks xs x v).1=(i6 ks ds x d).1/\ah K H (i6 ks ds x d).2 (jC ks xs x v).2/\(jC ks xs x v).1.length=(jC ks xs x v).2.length
 | [],[],[],_,_,_=>⟨rfl,⟨r,trivial⟩,rfl⟩
 | k::ks,e::ds,y::xs,x,hl,h=>by
  obtain ⟨i1,i2,i3⟩:=mI (x:=x) r (Nat.succ.inj hl) h.2;unfold jC i6;have hl:ks.length=xs.length:=Nat.succ.inj hl
  by_cases z:k=x
  ·rw [if_pos z,if_pos z]
   exact ⟨rfl,⟨r,h.2⟩,by simp [hl]⟩
  ·rw [if_neg z,if_neg z]
   exact ⟨by show k::_=k::_;rw [i1],⟨h.1,i2⟩,by show (k::_).length=(y::_).length;rw [Dq,Dq,i3]⟩
 | [],_::_,[],_,_,h=>h.elim
 | [],[],_::_,_,_,h=>h.elim
 | [],_::_,_::_,_,hl,_=>by simp at hl
 | _::_,[],[],_,hl,_=>by simp at hl
 | _::_,[],_::_,_,_,h=>h.elim
 | _::_,_::_,[],_,_,h=>h.elim
theorem mH{v:V}:∀ {ks:List κ} {xs:List V} {x:κ},ks.length=xs.length->ks.Nodup->(jC ks xs x v).1.zip (jC ks xs x v).2=i0 (ks.zip xs) x v
 | [],[],x,_,_=>rfl
 | k::ks,y::xs,x,hl,nd=>by
  have hl:ks.length=xs.length:=Nat.succ.inj hl;have nd:=En.mp nd;have ih:=mH (v:=v) (x:=x) hl nd.2;unfold jC;rw [FZ]
  by_cases z:k=x
  ·rw [if_pos z,FZ]
   unfold i0;rw [if_pos (by simp [z]),DJ,if_pos z]
   congr 1
   symm
   have:∀ p∈ks.zip xs,(if p.1=x then (p.1,v) else p)=p:=fun p hp=>by
    rw [if_neg (fun e=>nd.1 (by rw [z,<- e];exact (List.of_mem_zip (show (p.1,p.2)∈_ from hp)).1))]
   exact (DU this).trans (List.map_id' _)
  ·rw [if_neg z]
   show ((k,y)::(jC ks xs x v).1.zip (jC ks xs x v).2)=_
   rw [ih];unfold i0
   have:(((k,y)::ks.zip xs).any fun kv=>decide (kv.1=x))=(ks.zip xs).any fun kv=>decide (kv.1=x):=by rw [List.any_cons];simp [z]
   rw [this]
   split
   ·rw [DJ,if_neg z]
   ·rfl
 | [],_::_,_,hl,_=>by simp at hl
 | _::_,[],_,hl,_=>by simp at hl
end
def ld(ds:List D)(d:D):Bool:=ds.any fun e=>eqD e d
noncomputable def gInD:D->D->Option Bool
 | d,.lst ds=>if (af 9 d&&ds.all (af 9))=true then some (ld ds d) else none
 | d,.tup ds=>if (af 9 d&&ds.all (af 9))=true then some (ld ds d) else none
 | d,.ktup ds=>if (af 9 d&&ds.all (af 9))=true then some (ld ds d) else none
 | .int i,.rng lo hi=>some (decide (lo<=i/\i < hi))
 | d,.dK ks vs=>match gw d with
  | some k=>some (bN ks vs k).isSome
  | none=>none
 | .tup ds,.dT ks vs=>match jd ds with
  | some k=>some (bN ks vs k).isSome
  | none=>none
 | _,_=>none
noncomputable def gIn:List D->Option (D×Bool)
 | [d,c]=>match gInD d c with
  | some b=>some (.bl b,false)
  | none=>none
 | _=>none
noncomputable def rInS(K:F2)(neg:Bool):R2:=fun x y H Q=>∃ (d:D) (p:Addr) (xs:List V) (ds:List D),y = .ref p/\(SqL K H p xs\/SqT K H p xs)/\ah K H ds xs/\ds.all (af 9)=true/\ay K H d x/\af 9 d=true/\Q (.bl (if neg then !ld ds d else ld ds d)) H
noncomputable def CZ(neg:Bool):R2:=fun y x H Q=>∃ a o,x = .ref a/\oI H a y o/\Q (.bl (if neg then !o.isSome else o.isSome)) H
def Bw(K:F2)(neg:Bool):R2:=fun x y H Q=>rInS K neg x y H Q\/rInR neg x y H Q\/CZ neg x y H Q
section
variable{X:Cx}
open Classical in
theorem sM{pins:List (Addr×Obj)}{σ:St}{H:Hp}{s:Shared}(I:Inv X pins σ H s)(hu:X.A.units+10 < cLine){d:D}{ds:List D}{x:V}{u:Value}{xs:List V}{its:List Value}(rd:ah X.K H ds xs)(rv:aw xs its)(hds:ds.all (af 9)=true)(r:ay X.K H d x)(hd:af 9 d=true)(ru:aB x u) :
 ∃ e:Value->Bool,(∀ y,y∈its.toArray->SeqAt.EqAt X.A.in1 s y u (e y))/\its.toArray.any e=ld ds d:=by
 refine ⟨fun y=>decide (∃ (j:Nat) (d':D),ds[j]?=some d'/\its[j]?=some y/\eqD d' d=true),fun y hy=> ?_,?_⟩
 ·have hy:y∈its:=by simpa using hy
  obtain ⟨j,hj,rfl⟩:=E2.mp hy;obtain ⟨v,ev,rv1⟩:=a8 rv hj;obtain ⟨d',e1,q1⟩:=rd.get' ev;have hd':=DK.mp hds _ (DF e1);have z:=uM I 9 (A:=X.A.in1) (by show X.A.units+1+9 < cLine;omega) hd' hd q1 r rv1 ru
  have e:decide (∃ (j':Nat) (d':D),ds[j']?=some d'/\its[j']?=some its[j]/\eqD d' d=true)=eqD d' d:=by
   cases hq:eqD d' d with
   | true=>exact Dy ⟨j,d',e1,Do hj,hq⟩
   | false =>
    refine DS fun hZ=> ?_
    obtain ⟨j2,d2,g1,g2,g3⟩:=hZ;obtain ⟨hj2,g2'⟩:=DG.mp g2;obtain ⟨v2,ev2,rv2⟩:=a8 rv hj2;rw [g2'] at rv2;have:v2=v:=rv2.inj rv1;subst this;obtain ⟨d3,e3,q3⟩:=rd.get' ev2;rw [g1] at e3;cases e3;have hn:=gL I 9 9 (DK.mp hds _ (DF g1)) hd' q3 q1 rv1;unfold eqD at g3 hq;rw [hn,hq] at g3;cases g3
  dsimp only;rw [e];exact z
 ·rw [Bool.eq_iff_iff]
  unfold ld;simp only [List.any_toArray,List.any_eq_true]
  constructor
  ·rintro ⟨y,hy,hq⟩
   obtain ⟨j,d',g1,g2,g3⟩:=DI hq;exact ⟨d',DF g1,g3⟩
  ·rintro ⟨d',hd',hq⟩
   obtain ⟨j,hj,rfl⟩:=E2.mp hd'
   have hji:j < its.length:=by rw [<- rv.length,<- rd.len];exact hj
   exact ⟨its[j],Ea hji,Dy ⟨j,_,Do hj,Do hji,hq⟩⟩
theorem op_inS(hu:X.A.units+10 < cLine):OpR X (compareOp .In) (rInS X.K false):=by
 intro pins s σ H x y v u Q I rx ry h;obtain ⟨d,p,xs,ds,rfl,hq,rd,hds,r,hd,q⟩:=h;cases ry
 rcases hq with hq | hq
 ·obtain ⟨its,rv,pl,_⟩:=I.list hq
  obtain ⟨e,he,ee⟩:=sM I hu rd rv hds r hd rx;refine SeqAt.in_listAt e pl.isList he ⟨.bl _,H,I,rfl,?_⟩;rw [ee];exact q
 ·obtain ⟨its,rv,pl,_⟩:=I.tuple hq
  obtain ⟨e,he,ee⟩:=sM I hu rd rv hds r hd rx;refine SeqAt.in_tupleAt e (show s.heap.IsTuple p its.toArray from pl) he ⟨.bl _,H,I,rfl,?_⟩;rw [ee];exact q
theorem BQ(hu:X.A.units+1 < cLine):OpR X (compareOp .In) (CZ false):=by
 intro pins s σ H y x u v Q I ry rx h;obtain ⟨a,o,rfl,g,q⟩:=h;cases rx
 exact d_in hu I g ry fun s3 I3=>⟨.bl o.isSome,H,I3,rfl,q⟩
theorem op_inA(hu:X.A.units+10 < cLine):OpR X (compareOp .In) (Bw X.K false):=(op_inS hu).or (op_inR.or (BQ (by omega)))
end
section
variable{K:F2}
theorem dget_k{H Hh:Hp}{p:Addr}{ks:List Key}{ds:List D}{xs:List V}{k:Key}{y:V}(h1:H p=some (.dK (ks.zip xs)))(hl:ks.length=xs.length)(h2:ah K Hh ds xs)(hy:y=kV k) :
 ∃ o,oI H p y o/\o.isSome=(bN ks ds k).isSome/\∀ d,bN ks ds k=some d->∃ v,o=some v/\ay K Hh d v:=by
 subst hy;obtain ⟨i1,i2⟩:=fQ (x:=k) hl h2;refine ⟨_,oI.k (k:=k) h1,?_,fun d hd=>i1 d hd⟩
 cases e:bN ks ds k with
 | none=>rw [i2 e];rfl
 | some d=>obtain ⟨v,e1,_⟩:=i1 d e;rw [e1];rfl
theorem dget_t{H Hh:Hp}{p b:Addr}{ks:List (List Key)}{ds:List D}{xs:List V}{k:List Key}(h1:H p=some (.dT (ks.zip xs)))(hl:ks.length=xs.length)(h2:ah K Hh ds xs)(hb:H b=some (.tup (k.map kV))) :
 ∃ o,oI H p (.ref b) o/\o.isSome=(bN ks ds k).isSome/\∀ d,bN ks ds k=some d->∃ v,o=some v/\ay K Hh d v:=by
 obtain ⟨i1,i2⟩:=fQ (x:=k) hl h2;refine ⟨_,oI.t (k:=k) h1 hb,?_,fun d hd=>i1 d hd⟩
 cases e:bN ks ds k with
 | none=>rw [i2 e];rfl
 | some d=>obtain ⟨v,e1,_⟩:=i1 d e;rw [e1];rfl
theorem in_of{H:Hp}{L:List Addr}{d c:D}{x y:V}{b neg:Bool}{Q:VK}(ra:gr K H (hid L H) d x)(rb:gr K H (hid L H) c y)(e:gInD d c=some b)(q:Q (.bl (if neg then !b else b)) H):Bw K neg x y H Q:=by
 have seq:∀ (p:Addr) (xs:List V) (ds:List D),y = .ref p->(SqL K H p xs\/SqT K H p xs)->ah K (hid L H) ds xs->(if (af 9 d&&ds.all (af 9))=true then some (ld ds d) else none)=some b->Bw K neg x y H Q:=fun p xs ds hy hs hr e=>by
  split at e
  ·rename_i hc
   have hc:=(DM _ _).mp hc;cases e;exact .inl ⟨d,p,xs,ds,hy,hs,au.repDs hr,hc.2,ra.d au,hc.1,q⟩
  ·cases e
 unfold gInD at e
 split at e
 ·obtain ⟨p,xs,rfl,h1,h2⟩:=rb
  exact seq p xs _ rfl (.inl (.inl (.inl h1))) h2 e
 ·obtain ⟨p,xs,rfl,h1,h2⟩:=rb
  exact seq p xs _ rfl (.inr (.inl (.inl (am h1).2))) h2 e
 ·obtain ⟨p,xs,rfl,h1,h2⟩:=rb
  exact seq p xs _ rfl (.inr (ff h1)) h2 e
 ·obtain ⟨p,rfl,h1⟩:=rb
  cases e;exact .inr (.inl ⟨p,_,_,_,ra,rfl,(am h1).2,q⟩)
 ·obtain ⟨p,xs,rfl,h1,h2,h3⟩:=rb
  split at e
  ·rename_i k ek
   cases e;obtain ⟨o,g1,g2,_⟩:=dget_k (k:=k) h1 h2 h3 (kx ek (ra.d au));exact .inr (.inr ⟨p,o,rfl,g1,by rw [g2];exact q⟩)
  ·cases e
 ·obtain ⟨p,xs,rfl,h1,h2,h3⟩:=rb
  obtain ⟨b',ys,rfl,h4,h5⟩:=ra
  split at e
  ·rename_i k ek
   cases e;have h4:=(am h4).2;rw [jc ek h5] at h4;obtain ⟨o,g1,g2,_⟩:=dget_t (k:=k) h1 h2 h3 h4;exact .inr (.inr ⟨p,o,rfl,g1,by rw [g2];exact q⟩)
  ·cases e
 ·cases e
theorem os_in:OpS K (r2 (Bw K false)) gIn:=by
 intro vs ds H L Q d nw hm r e q;unfold gIn at e
 split at e
 ·obtain ⟨x,y,rfl,ra,rb⟩:=aK r
  split at e
  ·rename_i b eb
   cases e;exact in_of ra rb eb (q _ H (ac.refl _) rfl)
  ·cases e
 ·cases e
end
noncomputable def bW(j:Nat)(u:D->List D->Option (D×D))(fs:List SE):SE:=fun ρ=>match ρ[j]? with
 | some (some (_,.fz))=>none
 | some (some (.lst _,_))=>match evA (fs.map Arg.ex) ρ with
  | some (.ok ds,ρ1)=>match ρ1[j]? with
   | some (some (c,.ow))=>match u c ds with
    | some (c',d)=>some (.ok d false,ρ1.set j (some (c',.ow)))
    | none=>none
   | some (some (c,.io))=>match u c ds with
    | some (c',d)=>some (.ok d false,ρ1.set j (some (c',.io)))
    | none=>none
   | _=>none
  | some (.ex C,ρ1)=>some (.ex C,ρ1)
  | none=>none
 | _=>none
noncomputable def MeS(K:F2)(r:V->List V->Hp->VK->Prop)(u:D->List D->Option (D×D)):Prop :=
 ∀ (H:Hp) (L:List Addr) (p:Addr) (c:D) (ds:List D) (vs:List V) (c' d:D) (Q:VK),aF K H (hid L H) p c->p∈L->ah K (hid L H) ds vs->u c ds=some (c',d) ->
  (∀ v o,aF K (upd H p o) (hid L H) p c'->ay K (hid L H) d v->Q v (upd H p o))->r (.ref p) vs H Q
section
variable{K:F2}{EX:EXT}{σ:St}{H:Hp}{Q:VK}
theorem BZ{j:Nat}{u:D->List D->Option (D×D)}{fs:List SE}{r:V->List V->Hp->VK->Prop}(hs:MeS K r u)(hw:tV K EX (bW j u fs) σ H Q):tBM K "list" r (ye j) (tAs K EX (fs.map Arg.ex)) σ H Q:=by
 obtain ⟨F,ρ,W,R,h⟩:=hw;unfold bW at h
 revert h
 cases e0:ρ[j]? with
 | none=>exact fun h=>h.elim
 | some z =>
  cases z with
  | none=>exact fun h=>h.elim
  | some z =>
   obtain ⟨c0,m0⟩:=z
   have go:m0 ≠ .fz->∀ es,c0 = .lst es->OkV K F EX σ H W (match evA (fs.map Arg.ex) ρ with
    | some (.ok ds,ρ1)=>match ρ1[j]? with
     | some (some (c,.ow))=>match u c ds with
      | some (c',d)=>some (.ok d false,ρ1.set j (some (c',.ow)))
      | none=>none
     | some (some (c,.io))=>match u c ds with
      | some (c',d)=>some (.ok d false,ρ1.set j (some (c',.io)))
      | none=>none
     | _=>none
    | some (.ex C,ρ1)=>some (.ex C,ρ1)
    | none=>none) Q->tBM K "list" r (ye j) (tAs K EX (fs.map Arg.ex)) σ H Q:=fun hm0 es hc0 h=>by
    subst hc0;obtain ⟨v,hv,ok0⟩:=R.slot j _ _ e0
    have own0:∃ p,v = .ref p/\p∈W/\aF K H (hid (W++F.Z) H) p (.lst es):=by
     cases m0 with
     | fz=>exact absurd rfl hm0
     | ow=>exact ok0
     | io=>obtain ⟨p,a,b,c,_⟩:=ok0;exact ⟨p,a,b,c⟩
    obtain ⟨p,rfl,hp,xs,hx,_⟩:=own0;refine ⟨_,hv,.inl ⟨rfl,xs,.inl (.inl hx)⟩,ph fs R ?_⟩
    revert h
    cases evA (fs.map Arg.ex) ρ with
    | none=>exact fun h=>h
    | some q =>
     obtain ⟨q,ρ1⟩:=q
     cases q with
     | ex C=>exact fun h=>h
     | ok ds =>
      dsimp only;intro h vs H1 W1 fr1 sub1 R1 reps
      have step:∀ (c:D) (m:Md),m ≠ .fz->ρ1[j]?=some (some (c,m))->∀ c' d,u c ds=some (c',d)->OkV K F EX σ H W (some (.ok d false,ρ1.set j (some (c',m)))) Q->r (.ref p) vs H1 Q:=fun c m hm e1 c' d eu h=>by
       obtain ⟨v1,hv1,ok1⟩:=R1.slot j c m e1;rw [hv] at hv1;cases hv1
       have own1:p∈W1/\aF K H1 (hid (W1++F.Z) H1) p c:=by
        cases m with
        | fz=>exact absurd rfl hm
        | ow=>obtain ⟨p',a,b,c⟩:=ok1;cases a;exact ⟨b,c⟩
        | io=>obtain ⟨p',a,b,c,_⟩:=ok1;cases a;exact ⟨b,c⟩
       refine hs H1 (W1++F.Z) p c ds vs c' d Q own1.2 (Dz _ own1.1) reps eu fun v2 o new rd=> ?_
       obtain ⟨R2,fr2⟩:=R1.write e1 hm hv new;refine h v2 _ W1 (fr1.trans fr2 fun q hq=> .inl (sub1 q hq)) sub1 ⟨?_,R2⟩;rw [vW (Dz _ own1.1)];exact rd
      revert h
      split
      ·rename_i c e1
       split
       ·rename_i c' d eu
        exact fun h=>step c .ow (by decide) e1 c' d eu h
       ·exact fun h=>h.elim
      ·rename_i c e1
       split
       ·rename_i c' d eu
        exact fun h=>step c .io (by decide) e1 c' d eu h
       ·exact fun h=>h.elim
      ·exact fun h=>h.elim
   cases m0 with
   | fz=>exact fun h=>h.elim
   | ow=>cases c0<;>first | exact fun h=>h.elim | exact fun h=>go (by decide) _ rfl h
   | io=>cases c0<;>first | exact fun h=>h.elim | exact fun h=>go (by decide) _ rfl h
end
noncomputable def eV:D->List D->Option (D×D)
 | .lst ds,[d]=>if small ds.length=true then some (.lst (ds++[d]),.non) else none
 | _,_=>none
noncomputable def bG:D->List D->Option (D×D)
 | .lst ds,[.lst es]=>if small (ds.length+es.length)=true then some (.lst (ds++es),.non) else none
 | .lst ds,[.tup es]=>if small (ds.length+es.length)=true then some (.lst (ds++es),.non) else none
 | _,_=>none
noncomputable def uPop:D->List D->Option (D×D)
 | .lst ds,[]=>match ds[ds.length - 1]? with
  | some d=>some (.lst ds.dropLast,d)
  | none=>none
 | _,_=>none
noncomputable def uPopAt:D->List D->Option (D×D)
 | .lst ds,[.int i]=>if (decide (-1000000000<=i/\i<=1000000000))=true then match seqIndex? i ds.length with
  | some k=>match ds[k]? with
   | some d=>some (.lst (ds.eraseIdx k),d)
   | none=>none
  | none=>none
  else none
 | _,_=>none
section
variable{K:F2}
theorem wX:MeS K vH eV:=by
 intro H L p c ds vs c' d Q hO hp hr e q;unfold eV at e
 split at e
 ·obtain ⟨xs,h1,h2⟩:=hO
  split at e
  ·rename_i hs
   cases e
   match vs,hr with
   | [v],hr =>
    refine ⟨p,xs,v,rfl,rfl,h1,me (by rw [<- h2.len];exact hs),q _ _ ⟨_,av,h2.app ⟨hr.1,trivial⟩⟩ rfl⟩
  ·cases e
 ·cases e
def rP(K:F2):V->List V->Hp->VK->Prop:=fun x vs H Q=>vG x vs H Q\/rO x vs H Q
theorem uw{X:Cx}:MtM X "list.extend" (rP X.K):=by
 intro pins s σ H x xs v us Q I rx r h
 rcases h with h | h
 ·exact wU pins s σ H x xs v us Q I rx r h
 ·exact uv pins s σ H x xs v us Q I rx r h
theorem wW:MeS K (rP K) bG:=by
 intro H L p c ds vs c' d Q hO hp hr e q;unfold bG at e
 split at e
 ·obtain ⟨xs,h1,h2⟩:=hO
  split at e
  ·rename_i hs
   cases e
   match vs,hr with
   | [v],hr =>
    obtain ⟨b,ys,rfl,h3,h4⟩:=hr.1;exact .inl ⟨p,b,xs,ys,rfl,rfl,h1,(am h3).2,gE (by rw [<- h2.len,<- h4.len];exact hs),q _ _ ⟨_,av,h2.app h4⟩ rfl⟩
  ·cases e
 ·obtain ⟨xs,h1,h2⟩:=hO
  split at e
  ·rename_i hs
   cases e
   match vs,hr with
   | [v],hr =>
    obtain ⟨b,ys,rfl,h3,h4⟩:=hr.1;exact .inr ⟨p,b,xs,ys,rfl,rfl,h1,(am h3).2,gE (by rw [<- h2.len,<- h4.len];exact hs),q _ _ ⟨_,av,h2.app h4⟩ rfl⟩
  ·cases e
 ·cases e
end
section
variable{X:Cx}{EX:EXT}{e:Expr}{es:List Expr}{pos p1 apos cpos:Pos}{n:Str}{j:Nat}
theorem Az{name:Str}{id:String}{u:D->List D->Option (D×D)}{fs:List SE}{r:V->List V->Hp->VK->Prop}(hs:MeS X.K r u)(hm:MtM X id r)(slot:Slot "list" name id)(hty:typeOf (.builtin id)=pure (.type "method_descriptor"))(hN:X.N[j]?=some n)(hv:Vis X.env.scope n)(ha:JF X EX (e::es) fs)
 (hbase:attributeBase (.Name n p1) name X.env (eval (.Name n p1) X.env)=eval (.Name n p1) X.env:=by rfl)
 (hfew:((backTo cpos (starEach (e::es) X.env)).all (fun x => !x.1)&&(backToKw cpos (keywordEach [] X.env)).all (fun x=>x.1.isSome)
   && decide ((e::es).length+([]:List Keyword).length+(if ([]:List Keyword).isEmpty then 0 else 1) < 30))=true:=by rfl)
 (hline:(apos.endLine == cpos.line)=true:=by rfl) (hst:starEach (e::es) X.env=(false,eval e X.env)::starEach es X.env:=by rfl) (hplain:(backTo cpos (starEach es X.env)).any (·.1)=false:=by rfl)
 (hd:(n == ("__debug__" : Str))=false:=by decide) (hcd:(n == ("__classdict__" : Str))=false:=by decide):JE X EX (.Call (.Attribute (.Name n p1) name apos) (e::es) [] cpos) (bW j u fs) :=
 ⟨(vM Fz slot hty hm (gN hN hv hd hcd) ha.p hbase hfew hline hst hplain).by fun σ H Q h=>BZ hs h⟩
end
noncomputable def cY(u:D->D->D->Option D)(j:Nat)(f fi:SE):SS:=fun ρ=>match f ρ with
 | some (.ok d _,ρ1)=>match ρ1[j]? with
  | some (some _)=>match fi ρ1 with
   | some (.ok i _,ρ2)=>match ρ2[j]? with
    | some (some (c,.ow))=>match u c i d with
     | some c'=>some (.nx,ρ2.set j (some (c',.ow)))
     | none=>none
    | some (some (c,.io))=>match u c i d with
     | some c'=>some (.nx,ρ2.set j (some (c',.io)))
     | none=>none
    | _=>none
   | some (.ex C,ρ2)=>some (.ex C,ρ2)
   | none=>none
  | _=>none
 | some (.ex C,ρ1)=>some (.ex C,ρ1)
 | none=>none
noncomputable def PuS(K:F2)(r:V->V->V->Hp->(Hp->Prop)->Prop)(u:D->D->D->Option D):Prop :=
 ∀ (H:Hp) (L:List Addr) (p:Addr) (c i d c':D) (vi vd:V) (Q:Hp->Prop),aF K H (hid L H) p c->p∈L->ay K (hid L H) i vi->ay K (hid L H) d vd->u c i d=some c' ->
  (∀ o,aF K (upd H p o) (hid L H) p c'->Q (upd H p o))->r (.ref p) vi vd H Q
theorem vV{K:F2}{EX:EXT}{u:D->D->D->Option D}{r:V->V->V->Hp->(Hp->Prop)->Prop}{j:Nat}{f fi:SE}{E:n5}{σ:St}{H:Hp}(hs:PuS K r u)(h:tVS K EX (cY u j f fi) E σ H) :
 tV K EX f σ H fun v H1=>∃ o,σ[j]?=some (some o)/\tV K EX fi σ H1 fun i H2=>r o i v H2 fun H3=>E.nx σ H3:=by
 obtain ⟨F,ρ,W,R,h⟩:=h;refine ⟨F,ρ,W,R,?_⟩;unfold cY at h
 revert h
 cases f ρ with
 | none=>exact fun h=>h
 | some q =>
  obtain ⟨q,ρ1⟩:=q
  cases q with
  | ex C=>exact fun h H2 W2 fr2 sub2 R2=>h σ H2 W2 fr2 (fun p hp=> .inl (sub2 p hp)) R2
  | ok d nw =>
   dsimp only
   cases e1:ρ1[j]? with
   | none=>exact fun h=>h.elim
   | some z =>
    cases z with
    | none=>exact fun h=>h.elim
    | some z =>
     obtain ⟨c1,m1⟩:=z;intro h v H1 W1 fr1 sub1 P1;obtain ⟨rd,R1⟩:=P1.plain;obtain ⟨o,ho,_⟩:=R1.slot j _ _ e1;refine ⟨o,ho,F,ρ1,W1,R1,?_⟩
     revert h
     dsimp only
     cases fi ρ1 with
     | none=>exact fun h=>h
     | some q =>
      obtain ⟨q,ρ2⟩:=q
      cases q with
      | ex C=>exact fun h H2 W2 fr2 sub2 R2=>h σ H2 W2 (fr1.trans fr2 fun p hp=> .inl (sub1 p hp)) (fun p hp=> .inl (sub1 p (sub2 p hp))) R2
      | ok i nw2 =>
       dsimp only;intro h vi H2 W2 fr2 sub2 P2;obtain ⟨ri,R2⟩:=P2.plain
       have step:∀ (c:D) (m:Md),m ≠ .fz->ρ2[j]?=some (some (c,m))->∀ c',u c i d=some c'->OkS K F EX H W (some (.nx,ρ2.set j (some (c',m)))) E->r o vi v H2 fun H3=>E.nx σ H3:=fun c m hm e2 c' eu h=>by
        obtain ⟨v1,hv1,ok1⟩:=R2.slot j c m e2;rw [ho] at hv1;cases hv1
        have own1:∃ p,o = .ref p/\p∈W2/\aF K H2 (hid (W2++F.Z) H2) p c:=by
         cases m with
         | fz=>exact absurd rfl hm
         | ow=>exact ok1
         | io=>obtain ⟨p',a,b,c,_⟩:=ok1;exact ⟨p',a,b,c⟩
        obtain ⟨p,rfl,hp,hO⟩:=own1
        refine hs H2 (W2++F.Z) p c i d c' vi v _ hO (Dz _ hp) ri ((fr2.hid fun p hp=> .inl (sub2 p hp)).repD rd) eu fun o' new=> ?_
        obtain ⟨R3,fr3⟩:=R2.write e2 hm ho new;exact h σ _ W2 ((fr1.trans fr2 fun p hp=> .inl (sub1 p hp)).trans fr3 fun p hp=> .inl (sub1 p (sub2 p hp))) (fun p hp=> .inl (sub1 p (sub2 p hp))) R3
       revert h
       split
       ·rename_i c e2
        split
        ·rename_i c' eu
         exact fun h=>step c .ow (by decide) e2 c' eu h
        ·exact fun h=>h.elim
       ·rename_i c e2
        split
        ·rename_i c' eu
         exact fun h=>step c .io (by decide) e2 c' eu h
        ·exact fun h=>h.elim
       ·exact fun h=>h.elim
noncomputable def gs:D->D->D->Option D
 | .lst ds,.int k,d=>match ixN ds.length k with
  | some n=>some (.lst (ds.set n d))
  | none=>none
 | _,_,_=>none
theorem By{K:F2}:PuS K CU gs:=by
 intro H L p c i d c' vi vd Q hO hp ri rd e q;unfold gs at e
 split at e
 ·rename_i ds k
  obtain ⟨xs,h1,h2⟩:=hO
  split at e
  ·rename_i n en
   cases e;exact ⟨p,xs,k,n,rfl,ri,h1,by rw [<- h2.len];exact en,q _ ⟨_,av,h2.set rd n⟩⟩
  ·cases e
 ·cases e
section
variable{X:Cx}{EX:EXT}{e i:Expr}{pos pos' p1:Pos}{n:Str}{j:Nat}{f fi:SE}
theorem s_item(he:JE X EX e f)(hi:JE X EX i fi)(hN:X.N[j]?=some n)(hv:Vis X.env.scope n)(hs:swapsWithSole [.Subscript (.Name n p1) i pos'] e pos.line X.env=pure false:=by rfl)(hw:swappedStores [.Subscript (.Name n p1) i pos'] e X.env=pure none:=by rfl)
 (h1:(assignEach [.Subscript (.Name n p1) i pos'] X.env).map (·.2)=[assign (.Subscript (.Name n p1) i pos') X.env]:=by rfl)
 (ha:∀ v,assign (.Subscript (.Name n p1) i pos') X.env v=(do
   let ov <- holding [v] (eval (.Name n p1) X.env)
   let iv <- holding [v,ov] (eval i X.env)
   standAt pos'
   holding [v,ov,iv] (setItem ov iv v)
   release [v,ov,iv] []):=by intro _;rfl)
 (hd:(n == ("__debug__" : Str))=false:=by decide) (hcd:(n == ("__classdict__" : Str))=false:=by decide):JS X EX (.Assign [.Subscript (.Name n p1) i pos'] e pos) (cY gs j f fi) :=
 ⟨(yN he.p (pg_sub (gN hN hv hd hcd) hi.p mh ha) hs hw h1).by fun D σ H h=>vV By h⟩
end
noncomputable def l5:D->D->D->Option D
 | .dK ks vs,k,d=>match gw k with
  | some k=>if (small ks.length&&decide ks.Nodup)=true then some (.dK (i6 ks vs k d).1 (i6 ks vs k d).2) else none
  | none=>none
 | .dT ks vs,.tup l,d=>match jd l with
  | some k=>if (small ks.length&&decide ks.Nodup)=true then some (.dT (i6 ks vs k d).1 (i6 ks vs k d).2) else none
  | none=>none
 | _,_,_=>none
def rPutD:V->V->V->Hp->(Hp->Prop)->Prop:=fun x y v H Q=>∃ a H',x = .ref a/\qR H a y v H'/\Q H'
theorem Bz{K:F2}:PuS K rPutD l5:=by
 intro H L p c i d c' vi vd Q hO hp ri rd e q;unfold l5 at e
 split at e
 ·rename_i ks vs
  obtain ⟨xs,h1,h2,h3⟩:=hO
  split at e
  ·rename_i k ek
   split at e
   ·rename_i hsn
    have hsn:=(DM _ _).mp hsn;cases e;obtain ⟨i1,i2,i3⟩:=mI (x:=k) rd h2 h3;refine ⟨p,_,rfl,by rw [kx ek ri];exact qR.k (k:=k) h1 (by rw [Fj,<- h2,E8];exact me hsn.1),q _ ⟨(jC ks xs k vd).2,?_,?_,i2⟩⟩
    ·rw [<- i1,mH h2 (DI hsn.2)]
     exact av
    ·rw [<- i1];exact i3
   ·cases e
  ·cases e
 ·rename_i ks vs l
  obtain ⟨xs,h1,h2,h3⟩:=hO;obtain ⟨b,ys,rfl,h4,h5⟩:=ri
  split at e
  ·rename_i k ek
   split at e
   ·rename_i hsn
    have hsn:=(DM _ _).mp hsn;cases e;obtain ⟨i1,i2,i3⟩:=mI (x:=k) rd h2 h3;have h4:=(am h4).2;rw [jc ek h5] at h4;refine ⟨p,_,rfl,qR.t (k:=k) h1 h4 (by rw [Fj,<- h2,E8];exact me hsn.1),q _ ⟨(jC ks xs k vd).2,?_,?_,i2⟩⟩
    ·rw [<- i1,mH h2 (DI hsn.2)]
     exact av
    ·rw [<- i1];exact i3
   ·cases e
  ·cases e
 ·cases e
section
variable{X:Cx}{EX:EXT}{e i:Expr}{pos pos' p1:Pos}{n:Str}{j:Nat}{f fi:SE}
theorem s_dput(hu:X.A.units+1 < cLine)(he:JE X EX e f)(hi:JE X EX i fi)(hN:X.N[j]?=some n)(hv:Vis X.env.scope n)(hs:swapsWith e (some (.Subscript (.Name n p1) i pos')) pos.line X.env=pure false:=by rfl)
 (hd:(n == ("__debug__" : Str))=false:=by decide) (hcd:(n == ("__classdict__" : Str))=false:=by decide):JS X EX (.Assign [.Subscript (.Name n p1) i pos'] e pos) (cY l5 j f fi) :=
 ⟨(BC hu (gN hN hv hd hcd) hi.p he.p hs).by fun D σ H h=>vV Bz h⟩
def vw(d:D):SE:=fun ρ=>some (.ok d true,ρ)
theorem Ct:JE X EX (.Dict [] [] pos) (vw (.dT [] [])):=⟨yW.by fun σ H Q ⟨F,ρ,W,R,h⟩ p hp=>h _ _ W ((ac.upd hp).fr) (fun _ z=>z) (h9.e (nw:=true) ⟨p,rfl,hp,[],av,rfl,trivial⟩ R (ac.upd hp))⟩
end
end L2
namespace L2
open PySem PySem.Spec PyProof.Rows ZpA
noncomputable def bT:D->Option (List D)
 | .lst ds=>some ds
 | .klst ds=>some ds
 | .tup ds=>some ds
 | .ktup ds=>some ds
 | _=>none
def ItsA:Kd->F2->Addr->L2.It
 | .L=>Itl
 | .T=>Itt
theorem SqA.same{c:Kd}{K:F2}{H H':Hp}{a:Addr}{xs:List V}(e:ac H H')(h:SqA c K H a xs):SqA c K H' a xs:=by
 cases c with
 | L=>exact e.seq h
 | T=>exact e.tup h
theorem lP{K:F2}{H:Hp}{d:D}{v:V}{ds:List D}(e:bT d=some ds)(r:ay K H d v):∃ a c xs,v = .ref a/\SqA c K H a xs/\ah K H ds xs:=by
 cases d<;>first
  | (unfold bT at e;cases e;done)
  | (unfold bT at e;cases e;obtain ⟨p,xs,h1,h2,h3⟩:=r;exact ⟨p,.L,xs,h1,.inl (.inl h2),h3⟩)
  | (unfold bT at e;cases e;obtain ⟨p,xs,h1,h2,h3⟩:=r;exact ⟨p,.T,xs,h1,.inl (.inl h2),h3⟩)
  | (unfold bT at e;cases e;obtain ⟨p,xs,h1,h2,h3⟩:=r;exact ⟨p,.L,xs,h1,h2,h3⟩)
  | (unfold bT at e;cases e;obtain ⟨p,xs,h1,h2,h3⟩:=r;exact ⟨p,.T,xs,h1,ff h2,h3⟩)
noncomputable def iSeqA(K:F2)(tl:TE):TI:=fun σ H R=>tl σ H fun x H1=>∃ a c,x = .ref a/\∃ xs,SqA c K H1 a xs/\(xs.length<=sizeLine->R (ItsA c K a) H1)
section
variable{X:Cx}{EX:EXT}{tg l:Expr}
theorem BF{tl:TE}(hl:PE X l tl):PI X tg l (iSeqA X.K tl):=by
 intro pins s σ H R I h
 refine thn (hl pins s σ H _ I h) fun v s1 ⟨x,H1,I1,r1,q1⟩=> ?_
 obtain ⟨a,c,e,xs,hq,q⟩:=q1;subst e;cases r1
 cases c with
 | L =>
  obtain ⟨its,rv,p,hz⟩:=I1.list hq;refine E4 p.isList ?_;refine ⟨s1.heap.objs.size,[s1.heap.objs.size],_,_,H1,rfl,I1.kept (t':=s1.toks) fun b o e=>Dm _ e,wo a _,⟨_,Dw _ rfl,rfl,rfl⟩,fun b hb=> ?_,q hz⟩
  have e:b=s1.heap.objs.size:=by simpa using hb
  subst e;exact I1.fpOk (DE _) (I1.hok.fresh (DE _))
 | T =>
  obtain ⟨its,rv,p,hz⟩:=I1.tuple hq;refine Ej (show s1.heap.IsTuple a its.toArray from p) ?_;refine ⟨s1.heap.objs.size,[s1.heap.objs.size],_,_,H1,rfl,I1.kept (t':=s1.toks) fun b o e=>Dm _ e,l6 a _,⟨_,Dw _ rfl,rfl,rfl⟩,fun b hb=> ?_,q hz⟩
  have e:b=s1.heap.objs.size:=by simpa using hb
  subst e;exact I1.fpOk (DE _) (I1.hok.fresh (DE _))
theorem zD{K:F2}{L0:List Addr}{H0:Hp}{ds:List D}{xs:List V}{a:Addr}{c:Kd}(hs:SqA c K (hid L0 H0) a xs)(hr:ah K (hid L0 H0) ds xs)(hf:xs.length<=sizeLine):ItOk K L0 ds (ItsA c K a) H0 where
 go:=fun H L i d sm hm hd=>by
  obtain ⟨x0,e0,r0⟩:=hr.get hd;have sq:SqA c K H a xs:=hs.same (sm.trans au)
  cases c with
  | L=>exact ⟨⟨xs,x0,sq,e0⟩,fun x H' y=>by obtain ⟨rfl,y⟩:=y;have e:=y xs sq;rw [e0] at e;cases e;exact ⟨ac.refl _,sm.repD r0⟩⟩
  | T=>exact ⟨⟨xs,x0,sq,e0⟩,fun x H' y=>by obtain ⟨rfl,y⟩:=y;have e:=y xs sq;rw [e0] at e;cases e;exact ⟨ac.refl _,sm.repD r0⟩⟩
 stop:=fun H sm=>by
  have sq:SqA c K H a xs:=hs.same sm
  cases c with
  | L=>exact ⟨xs,sq,by rw [hr.len];exact DE _⟩
  | T=>exact ⟨xs,sq,by rw [hr.len];exact DE _⟩
 few:=by rw [hr.len];exact hf
noncomputable def bf(f:SE):SI:=fun ρ=>match f ρ with
 | some (.ok d _,ρ')=>match bT d with
  | some ds=>some (.ok ds,ρ')
  | none=>none
 | some (.ex C,ρ')=>some (.ex C,ρ')
 | none=>none
theorem i_seq{f:SE}(h:JE X EX l f):JI X EX tg l (bf f) :=
 ⟨fun pins s σ H R I hw=>BF h.p pins s σ H R I (by
  obtain ⟨F,ρ,W,R0,h⟩:=hw;refine ⟨F,ρ,W,R0,?_⟩;unfold bf at h
  revert h
  cases f ρ with
  | none=>exact fun h=>h
  | some q =>
   obtain ⟨q,ρ1⟩:=q
   cases q with
   | ex C=>exact fun h=>h
   | ok d nw =>
    dsimp only
    cases e:bT d with
    | none=>exact fun h=>h.elim
    | some ds =>
     intro h v H1 W1 fr1 sub1 P1;obtain ⟨rd,R1⟩:=P1.plain;obtain ⟨a,c,xs,rfl,hs,hr⟩:=lP e rd
     exact ⟨a,c,rfl,xs,hs.same au,fun hf=>h _ H1 W1 fr1 sub1 R1 (zD hs hr hf)⟩)⟩
noncomputable def okR(lo hi:Int):Bool:=decide (-1000000000<=lo/\lo<=1000000000 /\ -1000000000<=hi/\hi<=1000000000/\(hi - lo).toNat<=1000000)
def oC:List D->Option Int
 | [.int j]=>some j
 | _=>none
def oB:List D->Option (Int×Int)
 | [.int i,.int j]=>some (i,j)
 | _=>none
theorem zM{K:F2}{H Hh:Hp}{ds:List D}{vs:List V}{j:Int}(e:oC ds=some j)(r:lC K H Hh ds vs):vs=[.int j]:=by
 unfold oC at e
 split at e
 ·cases e
  obtain ⟨y,rfl,ry⟩:=aA r;rw [bM ry]
 ·cases e
theorem zL{K:F2}{H Hh:Hp}{ds:List D}{vs:List V}{i j:Int}(e:oB ds=some (i,j))(r:lC K H Hh ds vs):vs=[.int i,.int j]:=by
 unfold oB at e
 split at e
 ·cases e
  obtain ⟨y,z,rfl,ry,rz⟩:=aK r;rw [bM ry,bM rz]
 ·cases e
noncomputable def bE(x:Arg):SI:=fun ρ=>match evA [x] ρ with
 | some (.ok ds,ρ')=>match oC ds with
  | some j=>if okR 0 j=true then some (.ok (gK 0 j.toNat),ρ') else none
  | none=>none
 | some (.ex C,ρ')=>some (.ex C,ρ')
 | none=>none
noncomputable def fM(x y:Arg):SI:=fun ρ=>match evA [x,y] ρ with
 | some (.ok ds,ρ')=>match oB ds with
  | some (i,j)=>if okR i j=true then some (.ok (gK i (j - i).toNat),ρ') else none
  | none=>none
 | some (.ex C,ρ')=>some (.ex C,ρ')
 | none=>none
theorem rE{lo:Int}{n:Nat}:(gK lo n).length=n:=by unfold gK;simp
theorem yr{lo:Int}{n i:Nat}{d:D}(h:(gK lo n)[i]?=some d):i < n/\d = .int (lo+(i:Nat)):=by
 unfold gK at h;rw [DL] at h;obtain ⟨k,hk,rfl⟩:=El.mp h;obtain ⟨h1,h2⟩:=DG.mp hk;simp at h1 h2;subst h2;exact ⟨h1,rfl⟩
theorem sG{K:F2}{L0:List Addr}{H0:Hp}{lo:Int}{n:Nat}(hf:n<=1000000):ItOk K L0 (gK lo n) (Itr lo n) H0 where
 go:=fun H L i d sm hm hd=>by
  obtain ⟨h1,rfl⟩:=yr hd;exact ⟨h1,fun x H' y=>by obtain ⟨rfl,rfl⟩:=y;exact ⟨ac.refl _,rfl⟩⟩
 stop:=fun H sm=>by rw [rE];exact DE n
 few:=by rw [rE];exact Ep hf (by decide)
theorem i_rng1{a:Expr}{x:Arg}{p pos:Pos}(hg:Gl X "range")(hm:X.mg "range" = none)(ha:JA X EX [a] [x])(hs:starEach [a] X.env=[(false,eval a X.env)]:=by rfl):JI X EX tg (.Call (.Name "range" p) [a] [] pos) (bE x) :=
 ⟨fun pins s σ H R I hw=>oZ hg hm ha.p hs pins s σ H R I (by
  obtain ⟨F,ρ,W,R0,h⟩:=hw;refine pK [x] R0 ?_;unfold bE at h
  revert h
  cases evA [x] ρ with
  | none=>exact fun h=>h
  | some q =>
   obtain ⟨q,ρ1⟩:=q
   cases q with
   | ex C=>exact fun h=>h
   | ok ds =>
    dsimp only
    cases e:oC ds with
    | none=>exact fun h=>h.elim
    | some j =>
     dsimp only
     split
     ·rename_i hj
      have hj:=DI hj;intro h vs H1 W1 fr1 sub1 R1 reps;exact ⟨j,zM e reps,by omega,by omega,h _ H1 W1 fr1 sub1 R1 (sG (by have:=hj.2.2.2.2;omega))⟩
     ·exact fun h=>h.elim)⟩
theorem i_rng2{a b:Expr}{x y:Arg}{p pos:Pos}(hg:Gl X "range")(hm:X.mg "range" = none)(ha:JA X EX [a,b] [x,y])(hs:starEach [a,b] X.env=[(false,eval a X.env),(false,eval b X.env)]:=by rfl)(hs2:starEach [b] X.env=[(false,eval b X.env)]:=by rfl):JI X EX tg (.Call (.Name "range" p) [a,b] [] pos) (fM x y) :=
 ⟨fun pins s σ H R I hw=>wG hg hm ha.p hs hs2 pins s σ H R I (by
  obtain ⟨F,ρ,W,R0,h⟩:=hw;refine pK [x,y] R0 ?_;unfold fM at h
  revert h
  cases evA [x,y] ρ with
  | none=>exact fun h=>h
  | some q =>
   obtain ⟨q,ρ1⟩:=q
   cases q with
   | ex C=>exact fun h=>h
   | ok ds =>
    dsimp only
    cases e:oB ds with
    | none=>exact fun h=>h.elim
    | some ij =>
     obtain ⟨i,j⟩:=ij;dsimp only
     split
     ·rename_i hj
      have hj:=DI hj;intro h vs H1 W1 fr1 sub1 R1 reps;exact ⟨i,j,zL e reps,⟨by omega,by omega,by omega,by omega⟩,h _ H1 W1 fr1 sub1 R1 (sG hj.2.2.2.2)⟩
     ·exact fun h=>h.elim)⟩
def g7:Nat->List D->List D
 | _,[]=>[]
 | i,d::ds=> .tup [.int (i:Nat),d]::g7 (i+1) ds
theorem kB:∀ {i:Nat} {ds:List D},(g7 i ds).length=ds.length
 | _,[]=>rfl
 | i,d::ds=>by unfold g7;rw [Dq,Dq,kB]
theorem pk:∀ {i j:Nat} {ds:List D} {e:D},(g7 i ds)[j]?=some e->∃ d,ds[j]?=some d/\e = .tup [.int ((i+j:Nat)),d]
 | i,j,[],e,h=>by unfold g7 at h;simp at h
 | i,0,d::ds,e,h=>by
  unfold g7 at h;simp only [DR,Option.some.injEq] at h;exact ⟨d,rfl,h.symm⟩
 | i,j+1,d::ds,e,h=>by
  unfold g7 at h;simp only [DX] at h ⊢;obtain ⟨d',h1,h2⟩:=pk h;exact ⟨d',h1,by rw [h2,show i+1+j=i+(j+1) by omega]⟩
def kd:List D->List D->List D
 | a::as,b::bs=> .tup [a,b]::kd as bs
 | _,_=>[]
theorem lZ:∀ {as bs:List D},as.length<=bs.length->(kd as bs).length=as.length
 | [],_,_=>by unfold kd;rfl
 | a::as,b::bs,h=>by unfold kd;rw [Dq,Dq,lZ (by simpa using h)]
 | _::_,[],h=>by simp at h
theorem qS:∀ {as bs:List D} {j:Nat} {e:D},(kd as bs)[j]?=some e->∃ a b,as[j]?=some a/\bs[j]?=some b/\e = .tup [a,b]
 | [],_,j,e,h=>by unfold kd at h;simp at h
 | _::_,[],j,e,h=>by unfold kd at h;simp at h
 | a::as,b::bs,0,e,h=>by
  unfold kd at h;simp only [DR,Option.some.injEq] at h;exact ⟨a,b,rfl,rfl,h.symm⟩
 | a::as,b::bs,j+1,e,h=>by
  unfold kd at h;simp only [DX] at h ⊢;exact qS h
noncomputable def e8(f:SE):SI:=fun ρ=>match f ρ with
 | some (.ok d _,ρ')=>match bT d with
  | some ds=>some (.ok (g7 0 ds),ρ')
  | none=>none
 | some (.ex C,ρ')=>some (.ex C,ρ')
 | none=>none
theorem rU{K:F2}{H:Hp}{L:List Addr}{p:Addr}{a b:D}{x y:V}(hm:∀ p∈L,fE (H p))(hp:H p=none)(ra:ay K (hid L H) a x)(rb:ay K (hid L H) b y):ay K (hid L (upd H p (.tup [x,y]))) (.tup [a,b]) (.ref p) :=
 jJ hm (show ah K (hid L H) [a,b] [x,y] from ⟨ra,rb,trivial⟩) (ac.upd hp) av
theorem i_enum{elts:List Expr}{k}{tpos:Pos}{f:SE}{p pos:Pos}(hg:Gl X "enumerate")(hm:X.mg "enumerate" = none)(h:JE X EX l f)(hs:starEach [l] X.env=[(false,eval l X.env)]:=by rfl):JI X EX (.Tuple elts k tpos) (.Call (.Name "enumerate" p) [l] [] pos) (e8 f) :=
 ⟨fun pins s σ H R I hw=>yR hg hm (dw h.p fA hs) hs pins s σ H R I (by
  obtain ⟨F,ρ,W,R0,h⟩:=hw;refine ⟨F,ρ,W,R0,?_⟩;unfold e8 at h
  revert h
  cases f ρ with
  | none=>exact fun h=>h
  | some q =>
   obtain ⟨q,ρ1⟩:=q
   cases q with
   | ex C=>exact fun h=>h
   | ok d nw =>
    dsimp only
    cases e:bT d with
    | none=>exact fun h=>h.elim
    | some ds =>
     intro h v H1 W1 fr1 sub1 P1;obtain ⟨rd,R1⟩:=P1.plain;obtain ⟨a,c,xs,rfl,hq,hr⟩:=lP e rd;refine ⟨a,c,rfl,xs,hq.same au,fun hf=>h _ H1 W1 fr1 sub1 R1 ⟨fun H L i d sm hm hd=> ?_,fun H sm=> ?_,?_⟩⟩
     ·obtain ⟨d0,e0,rfl⟩:=pk hd
      obtain ⟨x0,ex,r0⟩:=hr.get e0;have sq:SqA c X.K H a xs:=hq.same (sm.trans au);refine ⟨⟨xs,x0,sq,ex⟩,fun x H' y=> ?_⟩;obtain ⟨p,y,rfl,hp,rfl,hy⟩:=y;have e1:=hy xs sq;rw [ex] at e1;cases e1;refine ⟨ac.upd hp,?_⟩;have:=rU (K:=X.K) (a:= .int ((i:Nat):Int)) (x:= .int (i:Nat)) hm hp rfl (sm.repD r0);rw [Ew];exact this
     ·rw [kB,hr.len]
      exact ⟨xs,hq.same sm,DE _⟩
     ·rw [kB,hr.len];exact hf)⟩
noncomputable def yl:List D->Option (List D×List D)
 | [a,b]=>match bT a,bT b with
  | some x,some y=>some (x,y)
  | _,_=>none
 | _=>none
noncomputable def lF(fs:List SE):SI:=fun ρ=>match evA (fs.map Arg.ex) ρ with
 | some (.ok ds,ρ')=>match yl ds with
  | some (a,b)=>if decide (a.length<=b.length)=true then some (.ok (kd a b),ρ') else none
  | none=>none
 | some (.ex C,ρ')=>some (.ex C,ρ')
 | none=>none
theorem i_zip{elts:List Expr}{k}{tpos:Pos}{l l':Expr}{fs:List SE}{p pos:Pos}(hg:Gl X "zip")(hm:X.mg "zip" = none)(h:JF X EX [l,l'] fs)(hs:starEach [l,l'] X.env=[(false,eval l X.env),(false,eval l' X.env)]:=by rfl)(hs2:starEach [l'] X.env=[(false,eval l' X.env)]:=by rfl) :
 JI X EX (.Tuple elts k tpos) (.Call (.Name "zip" p) [l,l'] [] pos) (lF fs) :=
 ⟨fun pins s σ H R I hw=>BE hg hm h.p hs hs2 pins s σ H R I (by
  obtain ⟨F,ρ,W,R0,h⟩:=hw;refine ph fs R0 ?_;unfold lF at h
  revert h
  cases evA (fs.map Arg.ex) ρ with
  | none=>exact fun h=>h
  | some q =>
   obtain ⟨q,ρ1⟩:=q
   cases q with
   | ex C=>exact fun h=>h
   | ok ds =>
    dsimp only
    cases e:yl ds with
    | none=>exact fun h=>h.elim
    | some ab =>
     obtain ⟨as,bs⟩:=ab;dsimp only
     split
     ·rename_i hl
      have hl:=DI hl;intro h vs H1 W1 fr1 sub1 R1 reps;unfold yl at e
      split at e
      ·rename_i da db
       split at e
       ·rename_i x y ea eb
        cases e
        match vs,reps with
        | [va,vb],reps =>
         obtain ⟨a,c1,xs,rfl,hq,hr⟩:=lP ea reps.1;obtain ⟨b,c2,ys,rfl,hq2,hr2⟩:=lP eb reps.2.1;refine ⟨a,b,c1,c2,rfl,xs,hq.same au,fun hf=>⟨⟨ys,hq2.same au⟩,h _ H1 W1 fr1 sub1 R1 ⟨fun H L i d sm hm hd=> ?_,fun H sm=> ?_,?_⟩⟩⟩
         ·obtain ⟨d1,d2,e1,e2,rfl⟩:=qS hd
          obtain ⟨x0,ex,r0⟩:=hr.get e1;obtain ⟨y0,ey,r1⟩:=hr2.get e2;have sq:SqA c1 X.K H a xs:=hq.same (sm.trans au);have sq2:SqA c2 X.K H b ys:=hq2.same (sm.trans au);refine ⟨⟨xs,ys,x0,y0,sq,sq2,ex,ey⟩,fun x H' y=> ?_⟩;obtain ⟨p,y,z,rfl,hp,rfl,hy,hz⟩:=y;have e3:=hy xs sq;have e4:=hz ys sq2;rw [ex] at e3;rw [ey] at e4;cases e3;cases e4;exact ⟨ac.upd hp,rU hm hp (sm.repD r0) (sm.repD r1)⟩
         ·rw [lZ hl,hr.len]
          exact ⟨xs,hq.same sm,DE _⟩
         ·rw [lZ hl,hr.len];exact hf
       ·cases e
      ·cases e
     ·exact fun h=>h.elim)⟩
end
noncomputable def dI(g g':List D->Option (D×Bool))(f1 f2 f3:SE):SE:=fun ρ=>match evA [.ex f1,.ex f2] ρ with
 | some (.ok [a,b],ρ1)=>match g [a,b] with
  | some (.bl true,false)=>match f3 ρ1 with
   | some (.ok c _,ρ2)=>match g' [b,c] with
    | some (d,false)=>some (.ok d false,ρ2)
    | _=>none
   | some (.ex C,ρ2)=>some (.ex C,ρ2)
   | none=>none
  | some (.bl false,false)=>some (.ok (.bl false) false,ρ1)
  | _=>none
 | some (.ok _,_)=>none
 | some (.ex C,ρ')=>some (.ex C,ρ')
 | none=>none
theorem As{K:F2}{EX:EXT}{σ:St}{H:Hp}{Q:VK}{r r':R2}{g g':List D->Option (D×Bool)}{f1 f2 f3:SE}(hs:OpS K (r2 r) g)(hs':OpS K (r2 r') g')(hw:tV K EX (dI g g' f1 f2 f3) σ H Q):yf r r' (tV K EX f1) (tV K EX f2) (tV K EX f3) σ H Q:=by
 obtain ⟨F,ρ,W,R,h⟩:=hw
 have z:tAs K EX (([f1,f2]:List SE).map Arg.ex) σ H (fun vs H2=>match vs with
  | [x,y]=>r x y H2 fun z H3=>∃ k,z = .bl k/\(if k=true then tV K EX f3 σ H3 fun w' H4=>r' y w' H4 Q else Q (.bl false) H3)
  | _=>False):=by
  refine ph [f1,f2] R ?_;unfold dI at h
  revert h
  show OkV K F EX σ H W (match evA (([f1,f2]:List SE).map Arg.ex) ρ with
   | some (.ok [a,b],ρ1)=>match g [a,b] with
    | some (.bl true,false)=>match f3 ρ1 with
     | some (.ok c _,ρ2)=>match g' [b,c] with
      | some (d,false)=>some (.ok d false,ρ2)
      | _=>none
     | some (.ex C,ρ2)=>some (.ex C,ρ2)
     | none=>none
    | some (.bl false,false)=>some (.ok (.bl false) false,ρ1)
    | _=>none
   | some (.ok _,_)=>none
   | some (.ex C,ρ')=>some (.ex C,ρ')
   | none=>none) Q->_
  cases evA (([f1,f2]:List SE).map Arg.ex) ρ with
  | none=>exact fun h=>h
  | some q =>
   obtain ⟨q,ρ1⟩:=q
   cases q with
   | ex C=>exact fun h=>h
   | ok ds =>
    match ds with
    | []=>exact fun h=>h.elim
    | [_]=>exact fun h=>h.elim
    | _::_::_::_=>exact fun h=>h.elim
    | [a,b] =>
     dsimp only;intro h vs H1 W1 fr1 sub1 R1 reps
     match vs,reps with
     | [x,y],reps =>
      have rb:lC K H1 (hid (W1++F.Z) H1) [a,b] [x,y]:=⟨ay.b reps.1 au,ay.b reps.2.1 au,trivial⟩
      cases eg:g [a,b] with
      | none=>rw [eg] at h;exact h.elim
      | some dn =>
       obtain ⟨d,nw⟩:=dn;rw [eg] at h
       refine hs [x,y] [a,b] H1 (W1++F.Z) _ d nw R1.mt rb eg fun z H2 s2 p2=> ?_
       have fr2:Fr W H H2:=fr1.trans (s2.fr (W:=W1)) fun p hp=> .inl (sub1 p hp)
       cases d<;>first | (exact h.elim) | skip
       rename_i k
       cases nw with
       | true=>cases k<;>exact h.elim
       | false =>
        have hz:z = .bl k:=p2;refine ⟨k,hz,?_⟩;have R2:=R1.same s2
        cases k with
        | false =>
         rw [if_neg DH];exact h _ H2 W1 fr2 sub1 ⟨rfl,R2⟩
        | true =>
         rw [if_pos rfl];refine ⟨F,ρ1,W1,R2,?_⟩
         revert h
         dsimp only
         cases f3 ρ1 with
         | none=>exact fun h=>h
         | some q =>
          obtain ⟨q,ρ2⟩:=q
          cases q with
          | ex C=>exact fun h H3 W3 fr3 sub3 R3=>h H3 W3 (fr2.trans fr3 fun p hp=> .inl (sub1 p hp)) (fun p hp=>sub1 p (sub3 p hp)) R3
          | ok c nw2 =>
           dsimp only;intro h w' H3 W3 fr3 sub3 P3;obtain ⟨rc,R3⟩:=P3.plain;have ry:ay K (hid (W3++F.Z) H3) b y:=(fr3.hid fun p hp=> .inl (sub3 p hp)).repD ((aR (fun b hb=> .inl hb) fun b o _ e=>s2 b o e:ac (hid (W1++F.Z) H1) (hid (W1++F.Z) H2)).repD reps.2.1)
           cases eg2:g' [b,c] with
           | none=>rw [eg2] at h;exact h.elim
           | some dn =>
            obtain ⟨d2,nw3⟩:=dn;rw [eg2] at h
            cases nw3 with
            | true=>exact h.elim
            | false =>
             refine hs' [y,w'] [b,c] H3 (W3++F.Z) _ d2 false R3.mt ⟨ay.b ry au,ay.b rc au,trivial⟩ eg2 fun v H4 s4 p4=> ?_
             exact h v H4 W3 ((fr2.trans fr3 fun p hp=> .inl (sub1 p hp)).trans (s4.fr (W:=W3)) fun p hp=> .inl (sub1 p (sub3 p hp))) (fun p hp=>sub1 p (sub3 p hp)) ⟨p4,R3.same s4⟩
 exact z
section
variable{X:Cx}{EX:EXT}{a b c:Expr}{pos:Pos}
theorem Cv{op op':CmpOp}{r r':R2}{g g':List D->Option (D×Bool)}{f1 f2 f3:SE}(ho:OpR X (compareOp op) r)(ho':OpR X (compareOp op') r')(hs:OpS X.K (r2 r) g)(hs':OpS X.K (r2 r') g')(ha:JE X EX a f1)(hb:JE X EX b f2)(hc:JE X EX c f3)
 (hm:lastMarks [op,op'] [b,c]=false:=by with_unfolding_all rfl):JE X EX (.Compare a [op,op'] [b,c] pos) (dI g g' f1 f2 f3) :=
 ⟨(yY ho ho' ha.p hb.p hc.p hm).by fun σ H Q h=>As hs hs' h⟩
end
end L2
namespace L2
open PySem PySem.Spec PyProof.Rows
section
variable{X:Cx}
noncomputable def yH(K:F2):List V->Hp->(V->Hp->Prop)->Prop:=fun xs H Q=>∃ (p:Addr) (ns:List Int),xs=[V.ref p]/\SqT K H p (ns.map V.int)/\ns≠[]/\∀ M,M∈ns->(∀ a∈ns,a<=M)->Q (.int M) H
noncomputable def yG(K:F2):List V->Hp->(V->Hp->Prop)->Prop:=fun xs H Q=>∃ (p:Addr) (ns:List Int),xs=[V.ref p]/\SqT K H p (ns.map V.int)/\ns≠[]/\∀ M,M∈ns->(∀ a∈ns,M<=a)->Q (.int M) H
theorem xE(hc:X.calm=true):ax X (.builtin "max") (yH X.K):=by
 intro pins s σ H xs us Q I r h;obtain ⟨p,ns,rfl,hq,ne,q⟩:=h;obtain ⟨u,rfl,ru⟩:=bC r;cases ru;obtain ⟨its,rv,pl,hz⟩:=I.tuple hq;obtain ⟨ps,rfl,e⟩:=cZ rv
 have lp:ps.length=ns.length:=by rw [<- e,Dp]
 have n0:0 < ns.length:=DV.mpr ne
 have ei:intItems ps.toArray=(ps.map fun p=>Value.int p.1 p.2).toArray:=by unfold intItems;simp
 have ht:s.heap.IsTuple p (intItems ps.toArray):=by rw [ei];exact pl
 have hlt:p < s.heap.objs.size:=by obtain ⟨_,e,_⟩:=ht;exact DA e
 have sz:ps.toArray.size=ns.length:=by simp [lp]
 obtain ⟨b1,b2⟩:=argBest_gt (numAt ps.toArray) (ps.toArray.size - 1);refine call_max_walk (Ej ht ⟨s.heap.objs.size,_,_,_,_,_,_,rfl,Walks.tuple (A:=X.A.in1) (I.ok.hd hc) _ p (DO hlt) (intItems ps.toArray),⟨⟨_,Dw _ rfl,rfl,rfl⟩,ht.push _⟩,fun c hcm=> ?_,by simpa [intItems,lp] using n0,CmpOf.ints_gt (numAt ps.toArray) (fun _ _=>intItems_at),fun v h' tk hP hk=> ?_⟩)
 ·have e1:c=s.heap.objs.size\/c=p:=by simpa using hcm
  show c < (s.heap.push _).objs.size
  rw [DZ]
  rcases e1 with e1 | e1
  ·rw [e1];exact Fs _
  ·rw [e1];exact EL hlt
 ·have hv:(intItems ps.toArray)[argBest (fun i j=>decide (numAt ps.toArray i > numAt ps.toArray j)) (ps.toArray.size - 1)]?=some v:=by simpa [intItems] using hP
  obtain ⟨t,rfl⟩:=intItems_at hv;rw [sz] at b1 b2 ⊢;refine ⟨.int _,H,I.kept (h':=h') (t':=tk) fun b' o e=>hk b' o (by have:=DA e;simp;exact DO this) (Dm _ e),⟨t,rfl⟩,q _ ?_ fun a ha=> ?_⟩
  ·rw [cC e (by omega)]
   exact Ea _
  ·obtain ⟨j,hj,rfl⟩:=FU ha
   have:=b2 j (by omega);rw [cC e hj] at this;exact this
theorem xz(hc:X.calm=true):ax X (.builtin "min") (yG X.K):=by
 intro pins s σ H xs us Q I r h;obtain ⟨p,ns,rfl,hq,ne,q⟩:=h;obtain ⟨u,rfl,ru⟩:=bC r;cases ru;obtain ⟨its,rv,pl,hz⟩:=I.tuple hq;obtain ⟨ps,rfl,e⟩:=cZ rv
 have lp:ps.length=ns.length:=by rw [<- e,Dp]
 have n0:0 < ns.length:=DV.mpr ne
 have ei:intItems ps.toArray=(ps.map fun p=>Value.int p.1 p.2).toArray:=by unfold intItems;simp
 have ht:s.heap.IsTuple p (intItems ps.toArray):=by rw [ei];exact pl
 have hlt:p < s.heap.objs.size:=by obtain ⟨_,e,_⟩:=ht;exact DA e
 have sz:ps.toArray.size=ns.length:=by simp [lp]
 obtain ⟨b1,b2⟩:=argBest_lt (numAt ps.toArray) (ps.toArray.size - 1);refine call_min_walk (Ej ht ⟨s.heap.objs.size,_,_,_,_,_,_,rfl,Walks.tuple (A:=X.A.in1) (I.ok.hd hc) _ p (DO hlt) (intItems ps.toArray),⟨⟨_,Dw _ rfl,rfl,rfl⟩,ht.push _⟩,fun c hcm=> ?_,by simpa [intItems,lp] using n0,CmpOf.ints_lt (numAt ps.toArray) (fun _ _=>intItems_at),fun v h' tk hP hk=> ?_⟩)
 ·have e1:c=s.heap.objs.size\/c=p:=by simpa using hcm
  show c < (s.heap.push _).objs.size
  rw [DZ]
  rcases e1 with e1 | e1
  ·rw [e1];exact Fs _
  ·rw [e1];exact EL hlt
 ·have hv:(intItems ps.toArray)[argBest (fun i j=>decide (numAt ps.toArray i < numAt ps.toArray j)) (ps.toArray.size - 1)]?=some v:=by simpa [intItems] using hP
  obtain ⟨t,rfl⟩:=intItems_at hv;rw [sz] at b1 b2 ⊢;refine ⟨.int _,H,I.kept (h':=h') (t':=tk) fun b' o e=>hk b' o (by have:=DA e;simp;exact DO this) (Dm _ e),⟨t,rfl⟩,q _ ?_ fun a ha=> ?_⟩
  ·rw [cC e (by omega)]
   exact Ea _
  ·obtain ⟨j,hj,rfl⟩:=FU ha
   have:=b2 j (by omega);rw [cC e hj] at this;exact this
end
noncomputable def eN:List D->Option (D×Bool)
 | [.tup ds]=>match aT ds with
  | some (n::ns)=>some (.int (fP (n::ns)),false)
  | _=>none
 | ds=>zT ds
noncomputable def eM:List D->Option (D×Bool)
 | [.tup ds]=>match aT ds with
  | some (n::ns)=>some (.int (eU (n::ns)),false)
  | _=>none
 | ds=>Cc ds
theorem xG{X:Cx}(hc:X.calm=true):ax X (.builtin "max") (fun xs H Q=>(vC xs H Q\/rN X.K xs H Q)\/yH X.K xs H Q):=(xH hc).or (xE hc)
theorem xB{X:Cx}(hc:X.calm=true):ax X (.builtin "min") (fun xs H Q=>(vB xs H Q\/rM X.K xs H Q)\/yG X.K xs H Q):=(xC hc).or (xz hc)
theorem BL{K:F2}:OpS K (fun xs H Q=>(vC xs H Q\/rN K xs H Q)\/yH K xs H Q) eN:=by
 intro vs ds H L Q d nw hm r e q;unfold eN at e
 split at e
 ·rename_i es
  obtain ⟨x,rfl,⟨p,xs,rfl,h1,h2⟩⟩:=aA r
  split at e
  ·rename_i n ns en
   cases e;rw [aX en] at h2;rw [aN h2] at h1;refine .inr ⟨p,n::ns,rfl,.inl (.inl (am h1).2),by simp,fun M m1 m2=> ?_⟩;obtain ⟨z1,z2⟩:=fc (l:=n::ns) (by simp);rw [nP m1 m2 z1 z2];exact q _ H (ac.refl _) rfl
  ·cases e
 ·exact .inl (os_max vs _ H L Q d nw hm r e q)
theorem BK{K:F2}:OpS K (fun xs H Q=>(vB xs H Q\/rM K xs H Q)\/yG K xs H Q) eM:=by
 intro vs ds H L Q d nw hm r e q;unfold eM at e
 split at e
 ·rename_i es
  obtain ⟨x,rfl,⟨p,xs,rfl,h1,h2⟩⟩:=aA r
  split at e
  ·rename_i n ns en
   cases e;rw [aX en] at h2;rw [aN h2] at h1;refine .inr ⟨p,n::ns,rfl,.inl (.inl (am h1).2),by simp,fun M m1 m2=> ?_⟩;obtain ⟨z1,z2⟩:=dR (l:=n::ns) (by simp);rw [nj m1 m2 z1 z2];exact q _ H (ac.refl _) rfl
  ·cases e
 ·exact .inl (os_min vs _ H L Q d nw hm r e q)
def gI(nm:Str):SS:=fun ρ=>some (.ex nm,ρ)
theorem Bf{P:Program}{w:World}{K:F2}{mg:Str->Option Value}{base:Heap}{N:List Str}{qual:Str}{scope:Scope}{f:Addr}{cd:Value}{A:Around}{outer:List Env}{s:Shared}{H:Hp}{E:XK}{x:Str}{C:Addr}{bm:List Value}{B newId initId:String}{np cpos pos:Pos}{k:Nat}
 (O:OwnCls x C bm newId mg base) (FB:ExcBaseFacts B newId initId bm) (hc:qE K x C) (hr:cV k (A.deeper (envOfC qual scope s.heap.objs.size f cd)))
 (hg:Gl (bZ (CXr P w) P w K mg base N qual scope f cd A outer s H E) x) (hd:(x == ("__debug__" : Str))=false:=by decide):JS (bZ (CXr P w) P w K mg base N qual scope f cd A outer s H E) (EXf K E) (.Raise (some (.Call (.Name x np) [] [] cpos)) none pos) (gI x) :=
 ⟨(wE O FB hr.hd hg hd).by fun D σ H ⟨F,ρ,W,R,h⟩=>h σ H W .refl (fun _ z=> .inl z) R C hc none⟩
theorem Ok.x{P:Program}{w:World}{K:F2}{mg:Str->Option Value}{base:Heap}{x:Str}{ps:List Str}{k:Nat}{sp sp':Sp}(h:Ok P w K mg base x ps k sp)(hi:∀ vs H Q E,sp' vs H Q E->sp vs H Q E):OkX P w K mg base x ps k sp':=by
 obtain ⟨f,fd,h1,h2,h3,F⟩:=h.ex;refine ⟨f,fd,h1,h2,h3,⟨fun vs H Q E q=>F.len vs H Q E (hi _ _ _ _ q),fun A outer s H args us vs Q E hr he hb hv hs=> ?_⟩⟩
 refine codeAny_mono (F.run A outer s H args us vs Q E hr he hb hv (hi _ _ _ _ hs)) fun r s' q=> ?_
 cases r with
 | ok f=>cases f<;>exact q
 | error e=>exact q.elim
theorem A9{K:F2}{run:FS}{H:Hp}{a:Addr}{ns:List Int}(hrun:∃ x,run [.klst (ns.map D.int)]=some (.ok (.bl true) false,x))(hS:SqL K H a (ns.map V.int)):spF K none run [.ref a] H (fun v _=>v = .bl true) fun _ _ _=>False:=by
 obtain ⟨x,hx⟩:=hrun;refine ⟨[],[],[.klst (ns.map D.int)],rfl,(fun p hp=>by cases hp),(fun p hp=>by cases hp),fun j d v _ h1 h2=> ?_,(fun k z=>by cases z),fun _=>rfl,?_⟩
 ·have hh:hid ([]++[]) H=H:=by funext b;unfold hid;simp
  rw [hh]
  match j,h1,h2 with
  | 0,h1,h2 =>
   simp only [DR,Option.some.injEq] at h1 h2;subst h1 h2;exact ⟨a,_,rfl,hS,di ns⟩
  | j+1,h1,h2=>simp at h1
 ·rw [hx]
  exact fun v H' _ rv _=>rv
theorem xq{P:Program}{w:World}{H:Hp}{s:Shared}{e:Value}{s':Shared}(h:CXr P w [] H s (fun _ _ _=>False) e s'):False:=by
 obtain ⟨_,_,_,_,_,_,_,_,_,_,z⟩:=h;exact z
section
variable{X:Cx}{EX:EXT}{a b e:Expr}{es:List Expr}{pos p:Pos}{x y:Arg}{as:List Arg}
theorem c_gk{n:Str}{d:D}(hg:Gl X n)(hm:∃ a,X.mg n=some (.ref a)/\∀ H,ay X.K H d (.ref a))(hd:(n == ("__debug__" : Str))=false:=by decide):JE X EX (.Name n pos) (sC d):=by
 obtain ⟨a,hm,hr⟩:=hm;exact ⟨(lV (v:= .ref a) hg hm rfl hd).by fun _ _ _=>oP hr⟩
theorem v(i:Nat){n:Str}(hN:X.N[i]?=some n:=by rfl)(hv:Vis X.env.scope n:=by first | exact Or.inl rfl | exact Or.inr (Or.inl rfl) | exact Or.inr (Or.inr rfl))(hd:(n == ("__debug__" : Str))=false:=by decide)(hcd:(n == ("__classdict__" : Str))=false:=by decide):JE X EX (.Name n pos) (aP i):=c_var hN hv hd hcd
theorem vb(i:Nat){n:Str}(hN:X.N[i]?=some n:=by rfl)(hv:Vis X.env.scope n:=by first | exact Or.inl rfl | exact Or.inr (Or.inl rfl) | exact Or.inr (Or.inr rfl))(hd:(n == ("__debug__" : Str))=false:=by decide)(hcd:(n == ("__classdict__" : Str))=false:=by decide):JB X EX (.Name n pos) (.bor i):=cb_var hN hv hd hcd
theorem b_add(ha:JB X EX a x)(hb:JB X EX b y):JE X EX (.BinOp a .Add b pos) (sOp aM [x,y]):=xQ BU os_add ha hb
theorem b_sub(ha:JB X EX a x)(hb:JB X EX b y):JE X EX (.BinOp a .Sub b pos) (sOp bg [x,y]):=xQ op_sub os_sub ha hb
theorem b_mul(ha:JB X EX a x)(hb:JB X EX b y):JE X EX (.BinOp a .Mult b pos) (sOp cA [x,y]):=xQ BP os_mul ha hb
theorem b_fdiv(ha:JB X EX a x)(hb:JB X EX b y):JE X EX (.BinOp a .FloorDiv b pos) (sOp eO [x,y]):=xQ BR BN ha hb
theorem b_mod(ha:JB X EX a x)(hb:JB X EX b y):JE X EX (.BinOp a .Mod b pos) (sOp cQ [x,y]):=xQ op_mod os_mod ha hb
theorem b_pow(ha:JB X EX a x)(hb:JB X EX b y):JE X EX (.BinOp a .Pow b pos) (sOp zR [x,y]):=xQ op_pow os_pow ha hb
theorem b_ix(ha:JB X EX a x)(hb:JB X EX b y)(hp:qQ b:=by exact fun _ _=>rfl):JE X EX (.Subscript a b pos) (sOp gIx [x,y]):=c_ix ix_seq os_ix ha hb hp
theorem q_eq(hu:X.A.units+10 < cLine)(ha:JB X EX a x)(hb:JB X EX b y):JE X EX (.Compare a [.Eq] [b] pos) (sOp gEq [x,y]):=wc (zk (by omega)) C5 ha hb (dJ _)
theorem q_le(ha:JB X EX a x)(hb:JB X EX b y):JE X EX (.Compare a [.LtE] [b] pos) (sOp gLe [x,y]):=wc vO vN ha hb (dJ _)
theorem q_gt(ha:JB X EX a x)(hb:JB X EX b y):JE X EX (.Compare a [.Gt] [b] pos) (sOp gGt [x,y]):=wc C6 C3 ha hb (dJ _)
theorem q_ge(ha:JB X EX a x)(hb:JB X EX b y):JE X EX (.Compare a [.GtE] [b] pos) (sOp gGe [x,y]):=wc C7 C4 ha hb (dJ _)
theorem t_eq(hu:X.A.units+10 < cLine)(ha:JB X EX a x)(hb:JB X EX b y):JT X EX (.Compare a [.Eq] [b] pos) (aC gEq [x,y]):=jK (zk (by omega)) C5 ha hb (dJ _)
theorem t_ne(hu:X.A.units+10 < cLine)(ha:JB X EX a x)(hb:JB X EX b y):JT X EX (.Compare a [.NotEq] [b] pos) (aC gNe [x,y]):=jK (op_neD (by omega)) os_ne ha hb (dJ _)
theorem t_lt(ha:JB X EX a x)(hb:JB X EX b y):JT X EX (.Compare a [.Lt] [b] pos) (aC gLt [x,y]):=jK op_lt os_lt ha hb (dJ _)
theorem t_le(ha:JB X EX a x)(hb:JB X EX b y):JT X EX (.Compare a [.LtE] [b] pos) (aC gLe [x,y]):=jK vO vN ha hb (dJ _)
theorem t_gt(ha:JB X EX a x)(hb:JB X EX b y):JT X EX (.Compare a [.Gt] [b] pos) (aC gGt [x,y]):=jK C6 C3 ha hb (dJ _)
theorem t_ge(ha:JB X EX a x)(hb:JB X EX b y):JT X EX (.Compare a [.GtE] [b] pos) (aC gGe [x,y]):=jK C7 C4 ha hb (dJ _)
theorem t_is(ha:JB X EX a x)(hb:JB X EX b y):JT X EX (.Compare a [.Is] [b] pos) (aC gIs [x,y]):=jK op_isD os_is ha hb (dJ _)
theorem t_in(hu:X.A.units+10 < cLine)(ha:JB X EX a x)(hb:JB X EX b y)(hm:behindInMarks .In b=false:=by with_unfolding_all rfl):JT X EX (.Compare a [.In] [b] pos) (aC gIn [x,y]):=jK (op_inA hu) os_in ha hb hm
variable(he:starEach (e::es) X.env=(false,eval e X.env)::starEach es X.env:=by rfl)(hpl:(backTo pos (starEach es X.env)).any (·.1)=false:=by rfl)
include he hpl
theorem b_len(m:X.mg "len" = none)(ha:JA X EX (e::es) as)(hg:Gl X "len" := by rfl):JE X EX (.Call (.Name "len" p) (e::es) [] pos) (sOp bi as):=gn xL os_len hg m PySem.boot_len ha (by decide) (by decide) he hpl
theorem b_sum(m:X.mg "sum" = none)(ha:JA X EX (e::es) as)(hg:Gl X "sum" := by rfl)(hc:X.calm=true:=by rfl):JE X EX (.Call (.Name "sum" p) (e::es) [] pos) (sOp qy as):=gn (xw hc) os_sum hg m PyProof.Rows.boot_sum ha (by decide) (by decide) he hpl
theorem b_all(m:X.mg "all" = none)(ha:JA X EX (e::es) as)(hg:Gl X "all" := by rfl)(hc:X.calm=true:=by rfl):JE X EX (.Call (.Name "all" p) (e::es) [] pos) (sOp kA as):=gn (xO hc) os_all hg m PyProof.Rows.boot_all ha (by decide) (by decide) he hpl
theorem b_max(m:X.mg "max" = none)(ha:JA X EX (e::es) as)(hg:Gl X "max" := by rfl)(hc:X.calm=true:=by rfl):JE X EX (.Call (.Name "max" p) (e::es) [] pos) (sOp eN as):=gn (xG hc) BL hg m PyProof.Rows.boot_max ha (by decide) (by decide) he hpl
theorem b_min(m:X.mg "min" = none)(ha:JA X EX (e::es) as)(hg:Gl X "min" := by rfl)(hc:X.calm=true:=by rfl):JE X EX (.Call (.Name "min" p) (e::es) [] pos) (sOp eM as):=gn (xB hc) BK hg m PyProof.Rows.boot_min ha (by decide) (by decide) he hpl
theorem b_abs(m:X.mg "abs" = none)(ha:JA X EX (e::es) as)(hg:Gl X "abs" := by rfl):JE X EX (.Call (.Name "abs" p) (e::es) [] pos) (sOp zZ as):=gn xP os_abs hg m PyProof.Rows.boot_abs ha (by decide) (by decide) he hpl
theorem Cw(m:X.mg "tuple" = none)(ha:JA X EX (e::es) as)(hg:Gl X "tuple" := by rfl)(hc:X.calm=true:=by rfl):JE X EX (.Call (.Name "tuple" p) (e::es) [] pos) (sOp dL as):=g8 (tJ hc) ze hg m PyProof.Rows.boot_tuple ha (by decide) (by decide) he hpl
theorem b_set(m:X.mg "set" = none)(ha:JA X EX (e::es) as)(hg:Gl X "set" := by rfl)(hc:X.calm=true:=by rfl):JE X EX (.Call (.Name "set" p) (e::es) [] pos) (sOp xf as):=g8 (xx hc) os_set hg m PyProof.Rows.boot_set ha (by decide) (by decide) he hpl
theorem b_int(m:X.mg "int" = none)(ha:JA X EX (e::es) as)(hg:Gl X "int" := by rfl):JE X EX (.Call (.Name "int" p) (e::es) [] pos) (sOp zX as):=g8 xM os_int hg m PyProof.Rows.boot_int ha (by decide) (by decide) he hpl
theorem Cz(m:X.mg "range" = none)(ha:JA X EX (e::es) as)(hg:Gl X "range" := by rfl):JE X EX (.Call (.Name "range" p) (e::es) [] pos) (sOp nE as):=g8 tK zi hg m PyProof.Rows.boot_range ha (by decide) (by decide) he hpl
end
section
variable{X:Cx}{EX:EXT}{e:Expr}{a:Arg}{p1 p2 pos:Pos}
theorem xT(he:JB X EX e a)(m1:X.mg "isinstance" = none)(m2:X.mg "int" = none)(g1:Gl X "isinstance" := by rfl)(g2:Gl X "int" := by rfl)(hs:starEach [e,.Name "int" p1] X.env=(false,eval e X.env)::starEach [.Name "int" p1] X.env:=by rfl):JE X EX (.Call (.Name "isinstance" p2) [e,.Name "int" p1] [] pos) (sOp (gY "int") [a]):=tO (.inl rfl) he g1 m1 g2 m2 PyProof.Rows.boot_int (by decide) (by decide) hs
theorem u7(he:JB X EX e a)(m1:X.mg "isinstance" = none)(m2:X.mg "bool" = none)(g1:Gl X "isinstance" := by rfl)(g2:Gl X "bool" := by rfl)(hs:starEach [e,.Name "bool" p1] X.env=(false,eval e X.env)::starEach [.Name "bool" p1] X.env:=by rfl):JE X EX (.Call (.Name "isinstance" p2) [e,.Name "bool" p1] [] pos) (sOp (gY "bool") [a]):=tO (.inr (.inl rfl)) he g1 m1 g2 m2 PyProof.Rows.boot_bool (by decide) (by decide) hs
theorem tQ(he:JB X EX e a)(m1:X.mg "isinstance" = none)(m2:X.mg "tuple" = none)(g1:Gl X "isinstance" := by rfl)(g2:Gl X "tuple" := by rfl)(hs:starEach [e,.Name "tuple" p1] X.env=(false,eval e X.env)::starEach [.Name "tuple" p1] X.env:=by rfl):JE X EX (.Call (.Name "isinstance" p2) [e,.Name "tuple" p1] [] pos) (sOp (gY "tuple") [a]):=tO (.inr (.inr (.inl rfl))) he g1 m1 g2 m2 PyProof.Rows.boot_tuple (by decide) (by decide) hs
theorem u6(he:JB X EX e a)(m1:X.mg "isinstance" = none)(m2:X.mg "list" = none)(g1:Gl X "isinstance" := by rfl)(g2:Gl X "list" := by rfl)(hs:starEach [e,.Name "list" p1] X.env=(false,eval e X.env)::starEach [.Name "list" p1] X.env:=by rfl):JE X EX (.Call (.Name "isinstance" p2) [e,.Name "list" p1] [] pos) (sOp (gY "list") [a]):=tO (.inr (.inr (.inr (.inl rfl)))) he g1 m1 g2 m2 PyProof.Rows.boot_list (by decide) (by decide) hs
theorem xS(he:JB X EX e a)(m1:X.mg "isinstance" = none)(m2:X.mg "str" = none)(g1:Gl X "isinstance" := by rfl)(g2:Gl X "str" := by rfl)(hs:starEach [e,.Name "str" p1] X.env=(false,eval e X.env)::starEach [.Name "str" p1] X.env:=by rfl):JE X EX (.Call (.Name "isinstance" p2) [e,.Name "str" p1] [] pos) (sOp (gY "str") [a]):=tO (.inr (.inr (.inr (.inr rfl)))) he g1 m1 g2 m2 PyProof.Rows.boot_str (by decide) (by decide) hs
end
section
variable{X:Cx}{EX:EXT}{e:Expr}{pos p1 apos cpos:Pos}{n:Str}{f:SE}
theorem zt(j:Nat)(h:JE X EX e f)(hN:X.N[j]?=some n:=by rfl)(hv:Vis X.env.scope n:=by first | exact Or.inl rfl | exact Or.inr (Or.inl rfl) | exact Or.inr (Or.inr rfl))(hst:starEach [e] X.env=(false,eval e X.env)::starEach [] X.env:=by rfl)
 (hbase:attributeBase (.Name n p1) "append" X.env (eval (.Name n p1) X.env)=eval (.Name n p1) X.env:=by rfl) (hfew:((backTo cpos (starEach [e] X.env)).all (fun x => !x.1)&&(backToKw cpos (keywordEach [] X.env)).all (fun x=>x.1.isSome)&&decide ([e].length+([]:List Keyword).length+(if ([]:List Keyword).isEmpty then 0 else 1) < 30))=true:=by rfl)
 (hline:(apos.endLine == cpos.line)=true:=by rfl) (hplain:(backTo cpos (starEach [] X.env)).any (·.1)=false:=by rfl) (hd:(n == ("__debug__" : Str))=false:=by decide) (hcd:(n == ("__classdict__" : Str))=false:=by decide) :
 JE X EX (.Call (.Attribute (.Name n p1) "append" apos) [e] [] cpos) (bW j eV [f]):=Az wX kq PySem.F.slot_list_append PySem.F.type_list_append hN hv (.cons h .nil hst) hbase hfew hline hst hplain hd hcd
theorem zr(j:Nat)(h:JE X EX e f)(hN:X.N[j]?=some n:=by rfl)(hv:Vis X.env.scope n:=by first | exact Or.inl rfl | exact Or.inr (Or.inl rfl) | exact Or.inr (Or.inr rfl))(hst:starEach [e] X.env=(false,eval e X.env)::starEach [] X.env:=by rfl)
 (hbase:attributeBase (.Name n p1) "extend" X.env (eval (.Name n p1) X.env)=eval (.Name n p1) X.env:=by rfl) (hfew:((backTo cpos (starEach [e] X.env)).all (fun x => !x.1)&&(backToKw cpos (keywordEach [] X.env)).all (fun x=>x.1.isSome)&&decide ([e].length+([]:List Keyword).length+(if ([]:List Keyword).isEmpty then 0 else 1) < 30))=true:=by rfl)
 (hline:(apos.endLine == cpos.line)=true:=by rfl) (hplain:(backTo cpos (starEach [] X.env)).any (·.1)=false:=by rfl) (hd:(n == ("__debug__" : Str))=false:=by decide) (hcd:(n == ("__classdict__" : Str))=false:=by decide) :
 JE X EX (.Call (.Attribute (.Name n p1) "extend" apos) [e] [] cpos) (bW j bG [f]):=Az wW uw PySem.F.slot_list_extend PySem.F.type_list_extend hN hv (.cons h .nil hst) hbase hfew hline hst hplain hd hcd
end
end L2
namespace L2
namespace Td
open PySem L2 PyProof.Rows
noncomputable def nb(j:Int):List (Int×Int)->List Int
 | []=>[]
 | t::r=>(if j=t.1 then [t.2] else if j=t.2 then [t.1] else [])++nb j r
theorem o0(j:Int):∀ (a b:List (Int×Int)),nb j (a++b)=nb j a++nb j b
 | [],b=>rfl
 | t::r,b=>by
  show _++nb j (r++b)=_
  rw [o0 j r b]
  show _=(_++nb j r)++nb j b
  rw [EF]
theorem zp(j:Int):∀ (a:List (Int×Int)),(nb j a).length<=a.length
 | []=>DE _
 | t::r=>by
  have:=zp j r
  show (_++nb j r).length<=r.length+1
  rw [DD]
  split
  ·simp;omega
  ·split
   ·simp;omega
   ·simp;omega
structure Adj(H:Hp)(p:Addr)(ls:List Addr)(done:List (Int×Int))(H':Hp):Prop where
 same:ac H H'
 at_:H' p=some (.lst (ls.map V.ref))
 nd:ls.Nodup
 np:p∉ls
 pn:H p=none
 ln:∀ l∈ls,H l=none
 lst:∀ (j:Nat) (l:Addr),ls[j]?=some l->H' l=some (.lst ((nb j done).map V.int))
theorem Adj.inj{H:Hp}{p:Addr}{ls:List Addr}{done:List (Int×Int)}{H':Hp}(A:Adj H p ls done H'){i j:Nat}{l:Addr}(h1:ls[i]?=some l)(h2:ls[j]?=some l):i=j:=by
 obtain ⟨a1,e1⟩:=DG.mp h1;obtain ⟨a2,e2⟩:=DG.mp h2;exact (List.getElem_inj A.nd).mp (e1.trans e2.symm)
theorem Adj.step{H:Hp}{p:Addr}{ls:List Addr}{done:List (Int×Int)}{H1:Hp}(A:Adj H p ls done H1){a b:Nat}{la lb:Addr}(ha:ls[a]?=some la)(hb:ls[b]?=some lb)(hab:a≠b) :
 Adj H p ls (done++[((a:Int),(b:Int))]) (upd (upd H1 la (.lst ((nb a done++[(b:Int)]).map V.int))) lb (.lst ((nb b done++[(a:Int)]).map V.int))):=by
 have nab:la≠lb:=fun z=>hab (A.inj ha (z ▸ hb))
 have ma:la∈ls:=DF ha;have mb:lb∈ls:=DF hb;refine ⟨fun c o q=> ?_,?_,A.nd,A.np,A.pn,A.ln,fun j l hj=> ?_⟩
 ·rw [ai (aj q (A.ln lb mb)),ai (aj q (A.ln la ma))]
  exact A.same c o q
 ·rw [ai (fun z:p=lb=>A.np (by rw [z];exact mb)),ai (fun z:p=la=>A.np (by rw [z];exact ma))]
  exact A.at_
 ·rw [o0]
  by_cases e1:l=lb
  ·subst e1
   have:j=b:=A.inj hj hb;subst this;rw [av]
   have:nb (j:Int) [((a:Int),(j:Int))]=[(a:Int)]:=by
    show (if (j:Int)=(a:Int) then _ else if (j:Int)=(j:Int) then _ else _)++_=_
    rw [if_neg (by omega),if_pos rfl];rfl
   rw [this]
  ·rw [ai e1]
   by_cases e2:l=la
   ·subst e2
    have:j=a:=A.inj hj ha;subst this;rw [av]
    have:nb (j:Int) [((j:Int),(b:Int))]=[(b:Int)]:=by
     show (if (j:Int)=(j:Int) then _ else _)++_=_
     rw [if_pos rfl];rfl
    rw [this]
   ·rw [ai e2,A.lst j l hj]
    have:nb (j:Int) [((a:Int),(b:Int))]=[]:=by
     have n1:j≠a:=fun z=>by subst z;rw [hj] at ha;exact e2 (Option.some.inj ha)
     have n2:j≠b:=fun z=>by subst z;rw [hj] at hb;exact e1 (Option.some.inj hb)
     show (if (j:Int)=(a:Int) then _ else if (j:Int)=(b:Int) then _ else _)++_=_
     rw [if_neg (by omega),if_neg (by omega)];rfl
    rw [this,Ec]
theorem Paired.get{α β:Type}{R:α->β->Prop}:∀ {l1:List α} {l2:List β} {i:Nat} {a:α},Paired R l1 l2->l1[i]?=some a->∃ b,l2[i]?=some b/\R a b
 | _,_,_,_,.nil,e=>by simp at e
 | _,_,0,_,.cons r _,e=>by simp at e;subst e;exact ⟨_,rfl,r⟩
 | _,_,i+1,a,.cons _ t,e=>by
  obtain ⟨u,h1,h2⟩:=Paired.get (i:=i) (a:=a) t (by simpa using e);exact ⟨u,by simpa using h1,h2⟩
noncomputable def yj(K:F2):Sp:=fun vs H Q _=>∃ wb many ties,vs=[.ref wb]/\WebAt K H wb many ties/\1<=many/\many<=40/\∀ p ls H',ls.length=many.toNat->Adj H p ls ties H'->Q (.ref p) H'
def zc:D->Option (Int×Int)
 | .tup [.int a,.int b]=>some (a,b)
 | _=>none
noncomputable def mP:List D->Option (List (Int×Int))
 | []=>some []
 | d::r=>match zc d,mP r with
  | some p,some ps=>some (p::ps)
  | _,_=>none
noncomputable def zO(many:Int)(ts:List (Int×Int)):Bool:=decide (1<=many)&&decide (many<=40)&&decide (ts.length<=60)&&ts.all (fun t=>decide (0<=t.1)&&decide (t.1 < t.2)&&decide (t.2 < many))&&decide ts.Nodup
noncomputable def adjD(many:Int)(ts:List (Int×Int)):D:= .lst ((List.range many.toNat).map fun j=> .lst ((nb (j:Nat) ts).map D.int))
noncomputable def sV:FS:=fun ds=>match ds with
 | [.tup [.int many,.tup ties]]=>match mP ties with
  | some ts=>if zO many ts then some (.ok (adjD many ts) false,.non) else none
  | none=>none
 | _=>none
theorem wJ{K:F2}{H:Hp}{d:D}{t:Int×Int}(h:zc d=some t){v:V}(r:ay K H d v):AH K H v t:=by
 unfold zc at h
 split at h
 ·cases h
  obtain ⟨p,xs,rfl,h2,h3⟩:=r;refine ⟨p,rfl,?_⟩
  match xs,h3 with
  | [x,y],⟨r1,r2,_⟩=>rw [h2,show x=_ from r1,show y=_ from r2]
  | [],h3=>exact h3.elim
  | [_],⟨_,h3⟩=>exact h3.elim
  | _::_::_::_,⟨_,_,h3⟩=>exact h3.elim
 ·cases h
theorem mO{K:F2}{H:Hp}:∀ {ds:List D} {ts:List (Int×Int)} {xs:List V},mP ds=some ts->ah K H ds xs->Paired (AH K H) xs ts
 | [],ts,[],h,_=>by cases h;exact .nil
 | d::ds,ts,x::xs,h,r=>by
  unfold mP at h
  split at h
  ·rename_i p ps h1 h2
   cases h;exact .cons (wJ h1 r.1) (mO h2 r.2)
  ·cases h
 | [],_,_::_,_,r=>r.elim
 | _::_,_,[],_,r=>r.elim
theorem vz{K:F2}{H:Hp}{ls:List Addr}{g:Nat->List Int}:∀ (n:Nat) (k:Nat),ls.length=n->(∀ (j:Nat) (l:Addr),ls[j]?=some l->H l=some (.lst ((g (k+j)).map V.int)))->ah K H ((List.range' k n).map fun j=> .lst ((g j).map D.int)) (ls.map V.ref)
 | 0,k,hl,h=>by
  have:ls=[]:=List.length_eq_zero_iff.mp hl;subst this;exact trivial
 | n+1,k,hl,h=>by
  cases ls with
  | nil=>cases hl
  | cons l ls =>
   refine ⟨⟨l,_,rfl,h 0 l rfl,di _⟩,?_⟩
   exact vz n (k+1) (by simpa using hl) fun j l' e=>by
    have:=h (j+1) l' (by simpa using e);rw [show k+1+j=k+(j+1) by omega];exact this
theorem uL{ds:List D}{r:Res×D}(h:sV ds=some r):∃ many ties ts,ds=[.tup [.int many,.tup ties]]/\mP ties=some ts/\zO many ts=true/\r=(.ok (adjD many ts) false,.non):=by
 unfold sV at h
 split at h
 ·split at h
  ·split at h
   ·cases h;exact ⟨_,_,_,rfl,‹_›,‹_›,rfl⟩
   ·cases h
  ·cases h
 ·cases h
theorem two{K:F2}{H:Hp}{a b:D}{xs:List V}(h:ah K H [a,b] xs):∃ x y,xs=[x,y]/\ay K H a x/\ay K H b y:=by
 match xs,h with
 | [x,y],⟨r1,r2,_⟩=>exact ⟨x,y,rfl,r1,r2⟩
 | [],h3=>exact h3.elim
 | [_],⟨_,h3⟩=>exact h3.elim
 | _::_::_::_,⟨_,_,h3⟩=>exact h3.elim
theorem tied_x{P:Program}{w:World}{K:F2}{mg:Str->Option Value}{base:Heap}(h:Ok P w K mg base "tied_places" ["web"] 1 (yj K)):OkX P w K mg base "tied_places" ["web"] 1 (spF K none sV) :=
 Ok.x h fun vs H Q E q=>by
  obtain ⟨Z,W,ds,hlen,_,hmt,hf,_,hW,hm⟩:=q;have hW:=hW rfl;subst hW
  cases e:sV ds with
  | none=>rw [e] at hm;exact hm.elim
  | some r =>
   obtain ⟨many,ties,ts,rfl,e1,hg,rfl⟩:=uL e;rw [e] at hm;have hm:∀ v H',Fr [] H H'->ay K (hid ([]++Z) H') (adjD many ts) v->(∀ p,([]:List Addr)=[p]->aF K H' (hid ([]++Z) H') p .non)->Q v H':=hm
   obtain ⟨v,rfl⟩:∃ v,vs=[v]:=by
    match vs,hlen with
    | [v],_=>exact ⟨v,rfl⟩
   obtain ⟨wb,xs,rfl,h2,h3⟩:=hf 0 _ _ (by intro z;cases z) rfl rfl;obtain ⟨x,y,rfl,r1,r2⟩:=two h3;have r1:x = .int many:=r1;subst r1;obtain ⟨t,bs,rfl,h4,h5⟩:=r2;unfold zO at hg;simp only [DM,EE,DK] at hg;obtain ⟨⟨⟨⟨g1,g2⟩,g3⟩,g4⟩,g5⟩:=hg;refine ⟨wb,many,ts,rfl,⟨⟨t,bs,au _ _ h2,au _ _ h4,mO e1 (ac.repDs au h5)⟩,g3,fun t ht=> ?_,g5⟩,g1,g2,fun p ls H' el A=> ?_⟩
   ·have:=g4 t ht
    exact ⟨this.1.1,this.1.2,this.2⟩
   ·have nz:∀ b,H b=none->b∉[]++Z:=fun b e z=>by
     have:=hmt b z;rw [e] at this;exact this
    refine hm (.ref p) H' A.same.fr ⟨p,_,rfl,(aE (nz p A.pn)).trans A.at_,?_⟩ fun p z=>by cases z
    have:=vz (K:=K) (H:=hid ([]++Z) H') (ls:=ls) (g:=fun j=>nb (j:Nat) ts) many.toNat 0 el fun j l e=>by
     rw [aE (nz l (A.ln l (DF e))),Ew];exact A.lst j l e
    rw [<- List.range_eq_range'] at this;exact this
end Td
end L2
namespace L2
open PySem
noncomputable def eF:SS:=(ag (aI (aC gLt [.bor 1,.ex (sOp bi [.bor 0])]) (ao (sOp gIx [.bor 0,.bor 1])) aQ) (ao (sC (.int 0))))
def bh:FS:=ak 2 2 none eF
noncomputable def kQ:SS:=(ag (aD 0 (sOp cQ [.ex (sOp aM [.bor 0,.ex (sC (.int 7919))]),.ex (sC (.int 2147483647))])) (ao (sOp cQ [.ex (sOp aM [.ex (sOp aM [.ex (sOp cA [.bor 0,.bor 0]),.ex (sOp cA [.ex (sC (.int 48271)),.bor 0])]),.ex (sC (.int 12345))]),.ex (sC (.int 2147483629))])))
def dF:FS:=ak 1 1 none kQ
noncomputable def iA:SS:=(ag (aD 1 (sOp eN [.bor 0,.ex (sOp bg [.ex (sC (.int 0)),.bor 0])])) (ao (dH [(aP 1),(sOp zX [.ex (sOp gGe [.bor 1,.ex (sOp zR [.ex (sC (.int 10)),.ex (sC (.int 18))])])]),(sOp cQ [.bor 1,.ex (sC (.int 1000003))])])))
def bQ:FS:=ak 1 2 none iA
noncomputable def gH:SS:=(ag (aI (aC gEq [.ex (sOp gIx [.bor 0,.ex (sC (.int 1))]),.ex (sC (.int 1))]) (ag (aD 2 (sOp cQ [.ex (sOp gIx [.bor 0,.ex (sC (.int 0))]),.bor 1])) (ag (cY gs 0 (sOp eO [.ex (sOp gIx [.bor 0,.ex (sC (.int 0))]),.bor 1]) (sC (.int 0))) (cI 2))) aQ) (ag (cY gs 0 (ae none none dF [.ex (sOp aM [.ex (ae none none dF [.ex (sOp gIx [.bor 0,.ex (sC (.int 2))])]),.ex (sC (.int 7))])]) (sC (.int 2))) (ao (sOp cQ [.ex (sOp eO [.ex (sOp gIx [.bor 0,.ex (sC (.int 2))]),.ex (sC (.int 64))]),.bor 1]))))
def aO:FS:=ak 2 3 (some 0) gH
theorem e9{a b:Int}(h1 : -(2 ^ 64) < a)(h2:a < 2 ^ 64):gO a b=true:=by unfold gO;rw [Dy ⟨h1,h2⟩];rfl
noncomputable def sv(s:Int):Int:=(((s+7919) % 2147483647) * ((s+7919) % 2147483647)+48271 * ((s+7919) % 2147483647)+12345) % 2147483629
theorem Ah(s:Int):dF [.int s]=some (.ok (.int (sv s)) false,.non):=by
 have m1:gO ((s+7919) % 2147483647) ((s+7919) % 2147483647)=true:=e9 (by omega) (by omega);have m2:gO 48271 ((s+7919) % 2147483647)=true:=e9 (by omega) (by omega);unfold dF kQ;simp only [ak,ini,je,ioD,aQ,ag,aD,ao,oV,cI,bU,aI,lG,iW,cY,bW,ae,sOp,aC,sC,aP,dg,dH,evA,DJ,Fa,cX,jn,dh,sIf,wB,sOr,ce,wy,gJ,sBl,bw,cE,eJ,cf,gy,cj,eP,bS,dI,eI,aJ,bf,bE,fM,e8,lF,bT,oC,oB,Tg.ge,Dq,EK,DR,DX,EI,EJ,Em,Eu,List.replicate,Fw,Nat.reduceSub,Nat.reduceAdd,Ew,Option.isNone,if_true,reduceIte,decide_true,FC,Fd,FL,FM,FF,FD,Fq,EN,reduceCtorEq,cQ,aM,cA,Int.reduceLT,m1,m2];rfl
theorem vU{n i:Nat}(h:i < n):ixN n (i:Int)=some i:=by
 unfold ixN;rw [if_pos (by omega),if_pos (by omega)];rfl
theorem jg{α:Type}{l:List α}{i:Nat}{x:α}(h:l[i]?=some x):atI l (i:Int)=some x:=by
 unfold atI;rw [vU (DG.mp h).1];exact h
section
variable{α:Type}{a b c d:α}{l:List α}
theorem Dj:atI (a::l) 0=some a:=jg (i:=0) rfl
theorem Di:atI (a::b::l) 1=some b:=jg (i:=1) rfl
theorem atI_2:atI (a::b::c::l) 2=some c:=jg (i:=2) rfl
end
theorem gb{ds:List D}{i:Int}{d:D}(h:atI ds i=some d):gIx [.lst ds,.int i]=some (d,false):=by unfold gIx;simp only [h]
theorem zW{ds:List D}{i:Int}{d:D}(h:atI ds i=some d):gIx [.klst ds,.int i]=some (d,false):=by unfold gIx;simp only [h]
theorem qA{ds:List D}{i:Int}{d:D}(h:atI ds i=some d):gIx [.tup ds,.int i]=some (d,false):=by unfold gIx;simp only [h]
theorem cR(a b:Int):gEq [.int a,.int b]=some (.bl (decide (a=b)),false):=by
 unfold gEq;simp only [af,Bool.and_self,if_true,eqD,nrm,eqN];rw [show (a == b)=decide (a=b) from rfl]
theorem Ca(a b:Int):gNe [.int a,.int b]=some (.bl (!decide (a=b)),false):=by
 unfold gNe;simp only [af,Bool.and_self,if_true,eqD,nrm,eqN];rw [show (a == b)=decide (a=b) from rfl]
theorem qz{a b:Int}(h:0 < b):cQ [.int a,.int b]=some (.int (a % b),false):=by unfold cQ;simp only [h,decide_true,if_true]
theorem nG{a b:Int}(h:0 < b)(h2:b < 1073741824):eO [.int a,.int b]=some (.int (a / b),false):=by unfold eO;simp only [h,h2,and_self,decide_true,if_true]
theorem B9:zR [.int 10,.int 18]=some (.int 1000000000000000000,false):=rfl
def wH(a f s:Int):D:= .lst [.int a,.int f,.int s]
theorem Cj(c:Int):∃ a f s,bQ [.int c]=some (.ok (wH a f s) true,.non):=by
 refine ⟨if 0 - c > c then 0 - c else c,if decide (1000000000000000000<=(if 0 - c > c then 0 - c else c)) then 1 else 0,(if 0 - c > c then 0 - c else c) % 1000003,?_⟩;unfold bQ iA;simp only [ak,ini,je,ioD,aQ,ag,aD,ao,oV,cI,bU,aI,lG,iW,cY,bW,ae,sOp,aC,sC,aP,dg,dH,evA,DJ,Fa,cX,jn,dh,sIf,wB,sOr,ce,wy,gJ,sBl,bw,cE,eJ,cf,gy,cj,eP,bS,dI,eI,aJ,bf,bE,fM,e8,lF,bT,oC,oB,Tg.ge,Dq,EK,DR,DX,EI,EJ,Em,Eu,List.replicate,Fw,Nat.reduceSub,Nat.reduceAdd,Ew,Option.isNone,if_true,reduceIte,decide_true,FC,Fd,FL,FM,FF,FD,Fq,EN,reduceCtorEq,eN,zT,bg,zX,gGe,B9,cQ,Int.reduceLT];rfl
theorem sW(ns:List Int)(k:Nat):∃ c:Int,bh [.klst (ns.map D.int),.int k]=some (.ok (.int c) false,.non):=by
 by_cases h:k < ns.length
 ·refine ⟨ns[k],?_⟩
  have e:atI (ns.map D.int) (k:Int)=some (.int ns[k]):=jg (by rw [DL,Do h];rfl)
  have h':(k:Int) < ((ns.map D.int).length:Nat):=by rw [Dp];omega
  unfold bh eF;simp only [ak,ini,je,ioD,aQ,ag,aD,ao,oV,cI,bU,aI,lG,iW,cY,bW,ae,sOp,aC,sC,aP,dg,dH,evA,DJ,Fa,cX,jn,dh,sIf,wB,sOr,ce,wy,gJ,sBl,bw,cE,eJ,cf,gy,cj,eP,bS,dI,eI,aJ,bf,bE,fM,e8,lF,bT,oC,oB,Tg.ge,Dq,EK,DR,DX,EI,EJ,Em,Eu,List.replicate,Fw,Nat.reduceSub,Nat.reduceAdd,Ew,Option.isNone,if_true,reduceIte,decide_true,FC,Fd,FL,FM,FF,FD,Fq,EN,reduceCtorEq,bi,gLt,zW e,h']
 ·refine ⟨0,?_⟩
  have h':¬ (k:Int) < ((ns.map D.int).length:Nat):=by rw [Dp];omega
  unfold bh eF;simp only [ak,ini,je,ioD,aQ,ag,aD,ao,oV,cI,bU,aI,lG,iW,cY,bW,ae,sOp,aC,sC,aP,dg,dH,evA,DJ,Fa,cX,jn,dh,sIf,wB,sOr,ce,wy,gJ,sBl,bw,cE,eJ,cf,gy,cj,eP,bS,dI,eI,aJ,bf,bE,fM,e8,lF,bT,oC,oB,Tg.ge,Dq,EK,DR,DX,EI,EJ,Em,Eu,List.replicate,Fw,Nat.reduceSub,Nat.reduceAdd,Ew,Option.isNone,if_true,reduceIte,decide_true,FC,Fd,FL,FM,FF,FD,Fq,EN,reduceCtorEq,bi,gLt,h',decide_false]
theorem AR{a b c d:D}:gs (.lst [a,b,c]) (.int 0) d=some (.lst [d,b,c]):=rfl
theorem AQ{a b c d:D}:gs (.lst [a,b,c]) (.int 2) d=some (.lst [a,b,d]):=rfl
theorem Ai(a f s m:Int)(h:0 < m)(h2:m < 1073741824):∃ r a' f' s':Int,aO [wH a f s,.int m]=some (.ok (.int r) false,wH a' f' s')/\0<=r/\r < m:=by
 by_cases hf:f=1
 ·refine ⟨a % m,a / m,f,s,?_,Int.emod_nonneg _ (by omega),Int.emod_lt_of_pos _ h⟩
  unfold aO gH wH;simp only [ak,ini,je,ioD,aQ,ag,aD,ao,oV,cI,bU,aI,lG,iW,cY,bW,ae,sOp,aC,sC,aP,dg,dH,evA,DJ,Fa,cX,jn,dh,sIf,wB,sOr,ce,wy,gJ,sBl,bw,cE,eJ,cf,gy,cj,eP,bS,dI,eI,aJ,bf,bE,fM,e8,lF,bT,oC,oB,Tg.ge,Dq,EK,DR,DX,EI,EJ,Em,Eu,List.replicate,Fw,Nat.reduceSub,Nat.reduceAdd,Ew,Option.isNone,if_true,reduceIte,decide_true,FC,Fd,FL,FM,FF,FD,Fq,EN,reduceCtorEq,cR,gb Dj,gb Di,qz h,nG h h2,AR,hf]
 ·refine ⟨sv (sv s+7) / 64 % m,a,f,sv (sv s+7),?_,Int.emod_nonneg _ (by omega),Int.emod_lt_of_pos _ h⟩
  unfold aO gH wH;simp only [ak,ini,je,ioD,aQ,ag,aD,ao,oV,cI,bU,aI,lG,iW,cY,bW,ae,sOp,aC,sC,aP,dg,dH,evA,DJ,Fa,cX,jn,dh,sIf,wB,sOr,ce,wy,gJ,sBl,bw,cE,eJ,cf,gy,cj,eP,bS,dI,eI,aJ,bf,bE,fM,e8,lF,bT,oC,oB,Tg.ge,Dq,EK,DR,DX,EI,EJ,Em,Eu,List.replicate,Fw,Nat.reduceSub,Nat.reduceAdd,Ew,Option.isNone,if_true,reduceIte,decide_true,FC,Fd,FL,FM,FF,FD,Fq,EN,reduceCtorEq,cR,gb Dj,gb Di,gb atI_2,qz h,nG (show (0:Int) < 64 by decide) (by decide),aM,AQ,hf,decide_false,Ah]
theorem oW{T:Tg}{f:SS}(I:Nat->Rho->Prop):∀ (ds:List D) (k:Nat) (ρ:Rho),I k ρ->(∀ i d ρ,ds[i]?=some d->I (k+i) ρ->∃ ρ1 ρ2,bw T d ρ=some ρ1/\f ρ1=some (.nx,ρ2)/\I (k+i+1) ρ2)->∃ ρ',bK T f ds ρ=some (.nx,ρ')/\I (k+ds.length) ρ'
 | [],k,ρ,h,_=>⟨ρ,rfl,h⟩
 | d::ds,k,ρ,h,hs=>by
  obtain ⟨ρ1,ρ2,e1,e2,h2⟩:=hs 0 d ρ rfl h
  obtain ⟨ρ',e3,h3⟩:=oW I ds (k+1) ρ2 h2 fun i d ρ e hi=>by
   have:=hs (i+1) d ρ (by simpa using e) (by rw [show k+(i+1)=k+1+i by omega];exact hi);rw [show k+(i+1)+1=k+1+i+1 by omega] at this;exact this
  refine ⟨ρ',?_,by rw [Dq,show k+(ds.length+1)=k+1+ds.length by omega];exact h3⟩;unfold bK;simp only [e1,e2,e3]
end L2
namespace L2
open PySem PySem.Spec PyProof.Rows
section
variable{ρ ρ1 ρ2:Rho}{d c c' i:D}{ds:List D}{nw b:Bool}{f g:SE}{p q:ST}{s t:SS}{C:Str}
theorem CS{j:Nat}{x:Option (D×Md)}(h:f ρ=some (.ok d nw,ρ1))(hx:ρ1[j]?=some x)(hn:ρ1.set j (some (d,if nw then .ow else .fz))=ρ2):aD j f ρ=some (.nx,ρ2):=by subst hn;unfold aD;rw [h];show (match ρ1[j]? with | some _=>_ | none=>_)=_;rw [hx]
theorem r_ret(h:f ρ=some (.ok d nw,ρ1)):ao f ρ=some (.rt d nw,ρ1):=by unfold ao;rw [h]
theorem r_expr(h:f ρ=some (.ok d nw,ρ1)):bU f ρ=some (.nx,ρ1):=by unfold bU;rw [h]
theorem yy{r:Option (Out×Rho)}(h:s ρ=some (.nx,ρ1))(h2:t ρ1=r):ag s t ρ=r:=by unfold ag;rw [h];exact h2
theorem r_seqR(h:s ρ=some (.rt d nw,ρ1)):ag s t ρ=some (.rt d nw,ρ1):=by unfold ag;rw [h]
theorem r_ifT{r:Option (Out×Rho)}(h:p ρ=some (.ok b,ρ1))(hb:b=true)(h2:s ρ1=r):aI p s t ρ=r:=by unfold aI;subst hb;rw [h];exact h2
theorem r_ifF{r:Option (Out×Rho)}(h:p ρ=some (.ok b,ρ1))(hb:b=false)(h2:t ρ1=r):aI p s t ρ=r:=by unfold aI;subst hb;rw [h];exact h2
theorem r_nil:aQ ρ=some (.nx,ρ):=rfl
theorem r_asg{T:Tg}(h:f ρ=some (.ok d nw,ρ1))(h2:bw T d ρ1=some ρ2):lG T f ρ=some (.nx,ρ2):=by unfold lG;rw [h];show (match bw T d ρ1 with | some ρ2=>_ | none=>_)=_;rw [h2]
theorem r_aug{j:Nat}{op:Int->Int->Int}{a k:Int}{x:Option (D×Md)}(h0:ρ[j]?=some (some (.int a,.fz)))(h:f ρ=some (.ok (.int k) nw,ρ1))(hx:ρ1[j]?=some x)(hn:ρ1.set j (some (.int (op a k),.fz))=ρ2):iW j op f ρ=some (.nx,ρ2):=by
 subst hn;unfold iW;rw [h0];show (match f ρ with | some (.ok (.int b) _,ρ')=>_ | some (.ok _ _,_)=>_ | some (.ex C,ρ')=>_ | none=>_)=_;rw [h];show (match ρ1[j]? with | some _=>_ | none=>_)=_;rw [hx]
theorem Bo{u:D->D->D->Option D}{j:Nat}{x:D×Md}{nw2:Bool}(h:f ρ=some (.ok d nw,ρ1))(h1:ρ1[j]?=some (some x))(h2:g ρ1=some (.ok i nw2,ρ2))(h3:ρ2[j]?=some (some (c,.ow)))(h4:u c i d=some c'){ρ3:Rho}(hn:ρ2.set j (some (c',.ow))=ρ3):cY u j f g ρ=some (.nx,ρ3):=by subst hn;unfold cY;simp only [h,h1,h2,h3,h4]
theorem r_for{it:SI}{T:Tg}{r:Option (Out×Rho)}(h:it ρ=some (.ok ds,ρ1))(h2:bK T s ds ρ1=r):eI it T s ρ=r:=by unfold eI;rw [h];exact h2
theorem Bn{j:Nat}{u:D->List D->Option (D×D)}{fs:List SE}{l:List D}(h0:ρ[j]?=some (some (.lst l,.ow)))(h1:evA (fs.map Arg.ex) ρ=some (.ok ds,ρ1))(h2:ρ1[j]?=some (some (c,.ow)))(h3:u c ds=some (c',d))(hn:ρ1.set j (some (c',.ow))=ρ2):bW j u fs ρ=some (.ok d false,ρ2):=by subst hn;unfold bW;simp only [h0,h1,h2,h3]
theorem yz:evA [] ρ=some (.ok [],ρ):=rfl
theorem CT{as:List Arg}(h:f ρ=some (.ok d nw,ρ1))(h2:evA as ρ1=some (.ok ds,ρ2)):evA (.ex f::as) ρ=some (.ok (d::ds),ρ2):=by unfold evA;simp only [h,h2]
theorem r_nilM:evA (List.map Arg.ex []) ρ=some (.ok [],ρ):=rfl
theorem r_exM{fs:List SE}(h:f ρ=some (.ok d nw,ρ1))(h2:evA (List.map Arg.ex fs) ρ1=some (.ok ds,ρ2)):evA (List.map Arg.ex (f::fs)) ρ=some (.ok (d::ds),ρ2):=CT h h2
theorem yC{as:List Arg}{j:Nat}{x:D×Md}{m:Md}(h:ρ[j]?=some (some x))(h2:evA as ρ=some (.ok ds,ρ2))(h3:ρ2[j]?=some (some (d,m))):evA (.bor j::as) ρ=some (.ok (d::ds),ρ2):=by unfold evA;simp only [h,h2,h3]
theorem r_op{o:List D->Option (D×Bool)}{as:List Arg}(h:evA as ρ=some (.ok ds,ρ1))(h2:o ds=some (d,nw)):sOp o as ρ=some (.ok d nw,ρ1):=by unfold sOp;simp only [h,h2]
theorem r_opT{o:List D->Option (D×Bool)}{as:List Arg}(h:evA as ρ=some (.ok ds,ρ1))(h2:o ds=some (.bl b,nw)):aC o as ρ=some (.ok b,ρ1):=by unfold aC;rw [r_op h h2]
theorem r_tru{a:Arg}(h:evA [a] ρ=some (.ok [d],ρ1))(h2:jn d=some b):cX a ρ=some (.ok b,ρ1):=by unfold cX;simp only [h,h2]
theorem r_not(h:p ρ=some (.ok b,ρ1)):dh p ρ=some (.ok (!b),ρ1):=by unfold dh;rw [h]
theorem r_orF{r:Option (AI×Rho)}(h:p ρ=some (.ok b,ρ1))(hb:b=false)(h2:q ρ1=r):sOr p q ρ=r:=by unfold sOr;subst hb;rw [h];exact h2
theorem r_orT(h:p ρ=some (.ok b,ρ1))(hb:b=true):sOr p q ρ=some (.ok true,ρ1):=by unfold sOr;subst hb;rw [h]
theorem r_c:sC d ρ=some (.ok d false,ρ):=rfl
theorem p6{j:Nat}(h:ρ[j]?=some (some (d,.fz))):aP j ρ=some (.ok d false,ρ):=by unfold aP;rw [h]
theorem r_retF{j:Nat}(h:ρ[j]?=some (some (d,.fz))):cI j ρ=some (.rt d false,ρ):=by unfold cI;rw [h]
theorem r_retO{j:Nat}(h:ρ[j]?=some (some (d,.ow)))(hn:ρ.set j none=ρ1):cI j ρ=some (.rt d true,ρ1):=by subst hn;unfold cI;rw [h]
theorem r_tup{fs:List SE}(h:evA (fs.map Arg.ex) ρ=some (.ok ds,ρ1)):dg fs ρ=some (.ok (.tup ds) false,ρ1):=by unfold dg;rw [h]
theorem r_lst{fs:List SE}(h:evA (fs.map Arg.ex) ρ=some (.ok ds,ρ1)):dH fs ρ=some (.ok (.lst ds) true,ρ1):=by unfold dH;rw [h]
theorem ui{l:List D}(h:f ρ=some (.ok d nw,ρ1))(h2:bT d=some l):bf f ρ=some (.ok l,ρ1):=by unfold bf;simp only [h,h2]
theorem r_enum{l:List D}(h:f ρ=some (.ok d nw,ρ1))(h2:bT d=some l):e8 f ρ=some (.ok (g7 0 l),ρ1):=by unfold e8;simp only [h,h2]
theorem r_zip{fs:List SE}{l l':List D}(h:evA (fs.map Arg.ex) ρ=some (.ok ds,ρ1))(h2:yl ds=some (l,l'))(h3:l.length<=l'.length):lF fs ρ=some (.ok (kd l l'),ρ1):=by unfold lF;simp only [h,h2,h3,decide_true,if_true]
theorem r_rng1{x:Arg}{j:Int}(h:evA [x] ρ=some (.ok [.int j],ρ1))(o:okR 0 j=true):bE x ρ=some (.ok (gK 0 j.toNat),ρ1):=by
 unfold bE;rw [h];show (if okR 0 j=true then some (qO.ok (gK 0 j.toNat),ρ1) else none)=_;rw [if_pos o]
theorem r_rng2{x y:Arg}{j k:Int}(h:evA [x,y] ρ=some (.ok [.int j,.int k],ρ1))(o:okR j k=true):fM x y ρ=some (.ok (gK j (k - j).toNat),ρ1):=by
 unfold fM;rw [h];show (if okR j k=true then some (qO.ok (gK j (k - j).toNat),ρ1) else none)=_;rw [if_pos o]
theorem mF{k:Nat}{it:SI}{T:Tg}{e:Option ST}{ys:List D}(h1:it ρ=some (.ok ds,ρ1))(h2:Tg.ge ρ1.length T=true)(h3:bx k T e f ds ρ1=some (ys,ρ2)):aJ k it T e f ρ=some (.ok (.lst ys) true,ρ2):=by
 unfold aJ;rw [h1];show (if Tg.ge ρ1.length T=true then _ else none)=_;rw [if_pos h2,h3]
theorem r_call{as:List Arg}{run:FS}{x:D}(h:evA as ρ=some (.ok ds,ρ1))(h2:run ds=some (.ok d nw,x))(h3:(cf none 0 as ρ1||(gy d nw&&((none:Option Nat).isNone||cj x)))=true):ae none none run as ρ=some (.ok d nw,ρ1):=by
 unfold ae;simp only [h,h2];rw [if_pos h3];rfl
theorem yB{k j:Nat}{as:List Arg}{run:FS}{x:D}(h:evA as ρ=some (.ok ds,ρ1))(h2:run ds=some (.ok d nw,x))(h3:(cf (some k) 0 as ρ1||(gy d nw&&((some k).isNone||cj x)))=true)(h4:eJ (some j) x ρ1=some ρ2):ae (some k) (some j) run as ρ=some (.ok d nw,ρ2):=by
 unfold ae;simp only [h,h2];rw [if_pos h3,h4]
theorem Bs{o o':List D->Option (D×Bool)}{f3:SE}{x y z:D}{b2:Bool}(h:evA [.ex f,.ex g] ρ=some (.ok [x,y],ρ1))(h1:o [x,y]=some (.bl b,false))(h2:f3 ρ1=some (.ok z nw,ρ1))(h3:o' [y,z]=some (.bl b2,false)):dI o o' f g f3 ρ=some (.ok (.bl (b&&b2)) false,ρ1):=by
 unfold dI;simp only [h,h1]
 cases b with
 | true=>simp only [h2,h3,FC]
 | false=>rfl
theorem Bt{r:Option (Res×Rho)}(h:f ρ=some (.ok (.bl b) nw,ρ1))(hb:b=true)(h2:g ρ1=r):ce f g ρ=r:=by unfold ce;subst hb;rw [h];exact h2
theorem r_andV{b2:Bool}(h:f ρ=some (.ok (.bl b) nw,ρ1))(h2:g ρ1=some (.ok (.bl b2) false,ρ1)):ce f g ρ=some (.ok (.bl (b&&b2)) false,ρ1):=by
 unfold ce;rw [h]
 cases b with
 | true=>exact h2
 | false=>rfl
theorem r_notV(h:f ρ=some (.ok (.bl b) nw,ρ1)):gJ f ρ=some (.ok (.bl (!b)) false,ρ1):=by unfold gJ;rw [h]
theorem r_ieT{r:Option (Res×Rho)}(h:p ρ=some (.ok b,ρ1))(hb:b=true)(h2:f ρ1=r):sIf p f g ρ=r:=by unfold sIf;subst hb;rw [h];exact h2
theorem r_ieF{r:Option (Res×Rho)}(h:p ρ=some (.ok b,ρ1))(hb:b=false)(h2:g ρ1=r):sIf p f g ρ=r:=by unfold sIf;subst hb;rw [h];exact h2
section
variable{np n:Nat}{body:SS}{io:Option Nat}{x:D}
theorem r_fn(hi:ini n io ds=ρ)(h:body ρ=some (.rt d nw,ρ1))(hx:ioD io ρ1=some x)(hl:ds.length=np):ak np n io body ds=some (.ok d nw,x):=by subst hi;unfold ak;rw [if_pos hl,h];show (match ioD io ρ1 with | some x=>_ | none=>_)=_;rw [hx]
theorem r_fnN(hi:ini n io ds=ρ)(h:body ρ=some (.nx,ρ1))(hx:ioD io ρ1=some x)(hl:ds.length=np):ak np n io body ds=some (.ok .non false,x):=by subst hi;unfold ak;rw [if_pos hl,h];show (match ioD io ρ1 with | some x=>_ | none=>_)=_;rw [hx]
end
end
theorem fN{α:Type}{k:Nat}{T:Tg}{f:SE}{ρ:Rho}{inj g:α->D}:∀ (xs:List α),(∀ x∈xs,∃ ρ1 ρ3 nw,bw T (inj x) (ρ++List.replicate k none)=some ρ1/\f ρ1=some (.ok (g x) nw,ρ3)/\ρ3.take ρ.length=ρ)->bx k T none f (xs.map inj) ρ=some (xs.map g,ρ)
 | [],_=>rfl
 | x::xs,h=>by
  obtain ⟨ρ1,ρ3,nw,e1,e2,e3⟩:=h x DC;rw [DJ];unfold bx;simp only [e1,evC,e2,e3,fN xs fun d hd=>h d (Dv _ hd),DJ]
theorem zY(bs:List Bool):kA [.lst (bs.map D.bl)]=some (.bl (bs.all id),false):=by unfold kA;simp only [xR]
theorem xc(ns:List Int)(h:ns.length<=1000):xf [.tup (ns.map D.int)]=some (.set (dd ns),false):=by unfold xf;simp only [cz,h,decide_true,if_true]
theorem dd_len(ns:List Int):(dd ns).length<=ns.length:=by
 unfold dd
 have:∀ (l acc:List Int),(l.foldl step_dedup acc).length<=acc.length+l.length:=by
  intro l
  induction l with
  | nil=>intro acc;simp
  | cons x l ih =>
   intro acc
   have h1:(step_dedup acc x).length<=acc.length+1:=by
    unfold step_dedup
    split<;>simp
   have:=ih (step_dedup acc x);rw [List.foldl_cons,Dq];omega
 have:=this ns [];simpa using this
theorem zV(ns:List Int)(h:ns.length<=1000):bi [.set (dd ns)]=some (.int (dd ns).length,false):=by
 have:=dd_len ns;unfold bi;simp only [show (dd ns).length<=1000 by omega,decide_true,if_true]
theorem xi(ns:List Int)(h:ns≠[]):eN [.lst (ns.map D.int)]=some (.int (fP ns),false):=by
 unfold eN zT
 cases ns with
 | nil=>exact absurd rfl h
 | cons n ns=>simp only [cz]
theorem xh(ns:List Int)(h:ns≠[]):eM [.lst (ns.map D.int)]=some (.int (eU ns),false):=by
 unfold eM Cc
 cases ns with
 | nil=>exact absurd rfl h
 | cons n ns=>simp only [cz]
theorem tS{ns:List Int}{i:Int}(h0:0<=i)(h1:i < ns.length):atI (ns.map D.int) i=some (.int (ns.getD i.toNat 0)):=by
 obtain ⟨k,rfl⟩:∃ k:Nat,i=k:=⟨i.toNat,by omega⟩
 have hk:k < ns.length:=by omega
 refine jg ?_;rw [DL,Do hk];simp [hk]
theorem fG{n:Nat}(h:n<=1000):small n=true:=by unfold small;exact Dy (by omega)
theorem cut_lo{l:List D}{n:Nat}(h:n<=l.length):kC l none (some (n:Int))=l.take n:=by
 unfold kC;have e1:HT.sIx l.length 0 none=0:=rfl
 have e2:HT.sIx l.length l.length (some (n:Int))=n:=by
  unfold HT.sIx;simp;rw [if_neg (by omega)];omega
 rw [e1,e2,List.drop_zero,Nat.sub_zero]
theorem cut_hi{l:List D}{n:Nat}(h:n<=l.length):kC l (some (n:Int)) none=l.drop n:=by
 unfold kC;have e1:HT.sIx l.length l.length none=l.length:=rfl
 have e2:HT.sIx l.length 0 (some (n:Int))=n:=by
  unfold HT.sIx;simp;rw [if_neg (by omega)];omega
 rw [e1,e2];apply List.take_of_length_le;rw [List.length_drop];exact DE _
theorem zl{lo hi:Int}(h1 : -1000000<=lo)(h2:lo<=1000000)(h3 : -1000000<=hi)(h4:hi<=1000000)(h5:hi - lo<=1000000):okR lo hi=true:=by
 unfold okR
 refine Dy ⟨?_,?_,?_,?_,?_⟩<;>omega
theorem el_mk{k:Nat}{T:Tg}{f:SE}{ρ ρ1 ρ3:Rho}{d y y':D}{nw:Bool}(h1:bw T d (ρ++List.replicate k none)=some ρ1)(h2:f ρ1=some (.ok y' nw,ρ3))(h3:ρ3.take ρ.length=ρ)(hy:y'=y):∃ ρ1 ρ3 nw,bw T d (ρ++List.replicate k none)=some ρ1/\f ρ1=some (.ok y nw,ρ3)/\ρ3.take ρ.length=ρ:=⟨ρ1,ρ3,nw,h1,by rw [<- hy];exact h2,h3⟩
theorem lp_mk{T:Tg}{f:SS}{ρ ρ1 ρ2:Rho}{d:D}{I:Rho->Prop}(h1:bw T d ρ=some ρ1)(h2:f ρ1=some (.nx,ρ2))(h3:I ρ2):∃ ρ1 ρ2,bw T d ρ=some ρ1/\f ρ1=some (.nx,ρ2)/\I ρ2:=⟨ρ1,ρ2,h1,h2,h3⟩
end L2
namespace Srt
open PySem PySem.W PyProof.Rows
noncomputable def Tru{α:Type}(lt:Nat->Nat->Bool)(P:α->Prop):KasT α->Prop
 | .ret a=>P a
 | .ask i j k=>Tru lt P (k (lt i j))
theorem Tru.bind{α β:Type}{lt:Nat->Nat->Bool}{P:β->Prop}{f:α->KasT β}:∀ {t:KasT α},Tru lt (fun a=>Tru lt P (f a)) t->Tru lt P (t.bind f)
 | .ret _,h=>h
 | .ask i j k,h=>Tru.bind (t:=k (lt i j)) h
theorem Tru.mono{α:Type}{lt:Nat->Nat->Bool}{P P':α->Prop}(hp:∀ a,P a->P' a):∀ {t:KasT α},Tru lt P t->Tru lt P' t
 | .ret a,h=>hp a h
 | .ask i j k,h=>Tru.mono hp (t:=k (lt i j)) h
theorem both{α:Type}{n:Nat}{lt:Nat->Nat->Bool}{P P':α->Prop}{cmp:Nat->Nat->(Bool->Shared->Prop)->Shared->Prop}{Q:α->Shared->Prop}{s:Shared}
 (hc:∀ i j C,i < n->j < n->C (lt i j) s->cmp i j C s) (hq:∀ a,P a->P' a->Q a s):∀ {t:KasT α},All n P t->Tru lt P' t->t.kasWp cmp Q s
 | .ret a,h,g=>hq a h g
 | .ask i j k,⟨h1,h2,h3⟩,g=>hc i j _ h1 h2 (both hc hq (h3 _) g)
structure Ord(lt:Nat->Nat->Bool):Prop where
 asym:∀ a b,lt a b=true->lt b a=false
 trans:∀ a b c,lt b a=false->lt c b=false->lt c a=false
section
variable{lt:Nat->Nat->Bool}(O:Ord lt)
theorem Ord.refl(O:Ord lt)(a:Nat):lt a a=false:=by
 cases h:lt a a with
 | false=>rfl
 | true=>exact absurd (O.asym a a h) (by rw [h];decide)
abbrev Le(lt:Nat->Nat->Bool)(a b:Nat):Prop:=lt b a=false
abbrev at_(p:Array Nat)(i:Nat):Nat:=p.getD i 0
def Asc(lt:Nat->Nat->Bool)(p:Array Nat)(m:Nat):Prop:=∀ i j,i<=j->j < m->Le lt (at_ p i) (at_ p j)
def Des(lt:Nat->Nat->Bool)(p:Array Nat)(m:Nat):Prop:=∀ i j,i<=j->j < m->Le lt (at_ p j) (at_ p i)
noncomputable def Eqv(lt:Nat->Nat->Bool)(p:Array Nat)(a b:Nat):Prop:=∀ i j,a<=i->i < b->a<=j->j < b->Le lt (at_ p i) (at_ p j)
theorem qL{p:Array Nat}{i j:Nat}(hj:j<=p.size)(k:Nat):at_ (kas_rev p i j) k=if i<=k/\k < j then at_ p (i+j - 1 - k) else at_ p k:=by
 have h:=getElem?_mirror_all (xs:=p) (i:=i) hj k
 show (kas_rev p i j).getD k 0=_
 unfold kas_rev at_;rw [Eo,h]
 split<;>rw [Eo]
theorem at_bub{p:Array Nat}{k l:Nat}(hk:k < p.size)(hl:l<=k)(t:Nat):at_ (bubble p k (k - l)) t=if t=l then at_ p k else if l < t/\t<=k then at_ p (t - 1) else at_ p t:=by
 have h:=getElem?_bubble (xs:=p) hk (k - l) (by omega) t;rw [show k - (k - l)=l by omega] at h
 show (bubble p k (k - l)).getD t 0=_
 rw [Eo,h]
 by_cases h1:t=l
 ·rw [if_pos h1,if_pos h1,<- Eo]
 ·rw [if_neg h1,if_neg h1]
  by_cases h2:l < t/\t<=k
  ·rw [if_pos h2,if_pos h2,<- Eo]
  ·rw [if_neg h2,if_neg h2,<- Eo]
include O
theorem Asc.snoc{p:Array Nat}{n:Nat}(h:Asc lt p n)(h1:1<=n)(hn:Le lt (at_ p (n - 1)) (at_ p n)):Asc lt p (n+1):=fun i j hij hj=>by
 by_cases e:j=n
 ·subst e
  by_cases e2:i=j
  ·subst e2;exact O.refl _
  ·exact O.trans _ _ _ (h i (j - 1) (by omega) (by omega)) hn
 ·exact h i j hij (by omega)
theorem Des.snoc{p:Array Nat}{n:Nat}(h:Des lt p n)(h1:1<=n)(hn:Le lt (at_ p n) (at_ p (n - 1))):Des lt p (n+1):=fun i j hij hj=>by
 by_cases e:j=n
 ·subst e
  by_cases e2:i=j
  ·subst e2;exact O.refl _
  ·exact O.trans _ _ _ hn (h i (j - 1) (by omega) (by omega))
 ·exact h i j hij (by omega)
theorem u8{p:Array Nat}:∀ f n,1<=n->Asc lt p n->Tru lt (fun m=>n<=m/\m<=n+f/\Asc lt p m/\(m=n+f\/lt (at_ p m) (at_ p (m - 1))=true)) (kas_asc p f n)
 | 0,n,h1,h=>⟨DE _,DE _,h,.inl rfl⟩
 | f+1,n,h1,h=>by
  show Tru lt _ (if lt (at_ p n) (at_ p (n - 1))=true then KasT.ret n else kas_asc p f (n+1))
  by_cases c:lt (at_ p n) (at_ p (n - 1))=true
  ·rw [if_pos c]
   exact ⟨DE _,by omega,h,.inr c⟩
  ·rw [if_neg c]
   exact (u8 f (n+1) (by omega) (h.snoc O h1 (by simpa using c))).mono fun m ⟨a,b,c,d⟩=>⟨by omega,by omega,c,d.imp (fun z=>by omega) id⟩
theorem lY:∀ f (p:Array Nat) n q,1<=n->q+1<=n->n+f<=p.size->Des lt p n->Eqv lt p (n - (q+1)) n ->
 Tru lt (fun r=>n<=r.2.1/\r.2.1<=n+f/\r.2.2+1<=r.2.1/\r.1.size=p.size/\Des lt r.1 r.2.1/\Eqv lt r.1 (r.2.1 - (r.2.2+1)) r.2.1) (kas_desc f p n q)
 | 0,p,n,q,h1,hq,hs,hd,he=>⟨DE _,DE _,hq,rfl,hd,he⟩
 | f+1,p,n,q,h1,hq,hs,hd,he=>by
  have one:∀ (p':Array Nat),Eqv lt p' (n+1 - (0+1)) (n+1):=fun p' i j a b c d=>by
   have:i=j:=by omega
   subst this;exact O.refl _
  show Tru lt _ (if lt (at_ p n) (at_ p (n - 1))=true then (if q > 0 then kas_desc f (kas_rev p (n - (q+1)) n) (n+1) 0 else kas_desc f p (n+1) 0)
   else KasT.ask (at_ p (n - 1)) (at_ p n) fun d=>if d=true then .ret (p,n,q) else kas_desc f p (n+1) (q+1))
  by_cases c:lt (at_ p n) (at_ p (n - 1))=true
  ·rw [if_pos c]
   have hle:Le lt (at_ p n) (at_ p (n - 1)):=O.asym _ _ c
   by_cases q0:q > 0
   ·rw [if_pos q0]
    have hn:n<=p.size:=by omega
    have sz:(kas_rev p (n - (q+1)) n).size=p.size:=mirror_size _ _ _ _;have R:=qL (p:=p) (i:=n - (q+1)) hn
    have D:Des lt (kas_rev p (n - (q+1)) n) (n+1):=fun i j hij hj=>by
     rw [R i,R j]
     by_cases ej:j=n
     ·subst ej
      rw [if_neg (by omega:¬ (j - (q+1)<=j/\j < j))]
      split
      ·exact O.trans _ _ _ hle (hd _ (j - 1) (by omega) (by omega))
      ·by_cases ei:i=j
       ·subst ei;exact O.refl _
       ·exact O.trans _ _ _ hle (hd _ (j - 1) (by omega) (by omega))
     ·by_cases si:n - (q+1)<=i/\i < n
      ·rw [if_pos si,if_pos (by omega:n - (q+1)<=j/\j < n)]
       exact he _ _ (by omega) (by omega) (by omega) (by omega)
      ·rw [if_neg si]
       split
       ·exact hd _ _ (by omega) (by omega)
       ·exact hd _ _ hij (by omega)
    exact (lY f _ (n+1) 0 (by omega) (by omega) (by rw [sz];omega) D (one _)).mono fun r ⟨a,b,c,d,e,g⟩=>⟨by omega,by omega,c,d.trans sz,e,g⟩
   ·rw [if_neg q0]
    exact (lY f p (n+1) 0 (by omega) (by omega) (by omega) (hd.snoc O h1 hle) (one _)).mono fun r ⟨a,b,c,d,e,g⟩=>⟨by omega,by omega,c,d,e,g⟩
  ·rw [if_neg c]
   have c:lt (at_ p n) (at_ p (n - 1))=false:=by simpa using c
   show Tru lt _ (if lt (at_ p (n - 1)) (at_ p n)=true then KasT.ret (p,n,q) else kas_desc f p (n+1) (q+1))
   by_cases d:lt (at_ p (n - 1)) (at_ p n)=true
   ·rw [if_pos d]
    exact ⟨DE _,FN _ _,hq,rfl,hd,he⟩
   ·rw [if_neg d]
    have d:lt (at_ p (n - 1)) (at_ p n)=false:=by simpa using d
    have E:Eqv lt p (n+1 - (q+1+1)) (n+1):=fun i j a b a2 b2=>by
     by_cases ei:i=n
     ·by_cases ej:j=n
      ·rw [ei,ej];exact O.refl _
      ·rw [ei]
       exact O.trans _ _ _ d (he (n - 1) j (by omega) (by omega) (by omega) (by omega))
     ·by_cases ej:j=n
      ·rw [ej]
       exact O.trans _ _ _ (he i (n - 1) (by omega) (by omega) (by omega) (by omega)) c
      ·exact he i j (by omega) (by omega) (by omega) (by omega)
    exact (lY f p (n+1) (q+1) (by omega) (by omega) (by omega) (hd.snoc O h1 d) E).mono fun r ⟨a,b,c,d,e,g⟩=>⟨by omega,by omega,c,d,e,g⟩
theorem qZ{p:Array Nat}{n N:Nat}(h1:1<=n)(hn:n<=N)(hs:p.size=N)(hd:Des lt p n):Tru lt (fun r:Nat×Array Nat=>1<=r.1/\r.1<=N/\r.2.size=N/\Asc lt r.2 r.1) (kas_tail3 n N p):=by
 unfold kas_tail3;have sz:(kas_rev p 0 n).size=p.size:=mirror_size _ _ _ _;have R:=qL (p:=p) (i:=0) (j:=n) (by omega)
 have A:Asc lt (kas_rev p 0 n) n:=fun i j hij hj=>by
  rw [R i,R j,if_pos (by omega),if_pos (by omega)];exact hd _ _ (by omega) (by omega)
 exact ((u8 O (N - n) n h1 A).mono fun m ⟨a,b,c,_⟩=>(show 1<=m/\m<=N/\(kas_rev p 0 n).size=N/\Asc lt (kas_rev p 0 n) m from ⟨by omega,by omega,sz.trans hs,c⟩)).bind
theorem k7{p:Array Nat}{n N:Nat}(h1:1<=n)(hn:n+1<=N)(hs:p.size=N)(hd:Des lt p (n+1)):Tru lt (fun r:Nat×Array Nat=>1<=r.1/\r.1<=N/\r.2.size=N/\Asc lt r.2 r.1) (kas_descPart n N p):=by
 unfold kas_descPart
 refine ((lY O (N - (n+1)) p (n+1) 0 (by omega) (by omega) (by omega) hd (fun i j a b c d=>by
  have:i=j:=by omega
  subst this
  exact O.refl _)).mono fun r ⟨a,b,c,d,e,g⟩=> ?_).bind
 by_cases q:r.2.2 > 0
 ·rw [if_pos q]
  have hz:r.2.1<=r.1.size:=by omega
  have R:=qL (p:=r.1) (i:=r.2.1 - (r.2.2+1)) (j:=r.2.1) hz
  refine qZ O (by omega) (by omega) ((mirror_size _ _ _ _).trans (d.trans hs)) fun i j hij hj=> ?_
  rw [R i,R j]
  by_cases si:r.2.1 - (r.2.2+1)<=i/\i < r.2.1
  ·rw [if_pos si,if_pos (by omega)]
   exact g _ _ (by omega) (by omega) (by omega) (by omega)
  ·rw [if_neg si]
   split
   ·exact e _ _ (by omega) (by omega)
   ·exact e _ _ hij hj
 ·rw [if_neg q]
  exact qZ O (by omega) (by omega) (d.trans hs) e
theorem Ar{p:Array Nat}{N:Nat}(hN:1<=N)(hs:p.size=N):Tru lt (fun r:Nat×Array Nat=>1<=r.1/\r.1<=N/\r.2.size=N/\Asc lt r.2 r.1) (kas_count N p):=by
 unfold kas_count
 refine ((u8 O (p:=p) (N - 1) 1 (DE _) (fun i j a b=>by
  have:i=j:=by omega
  subst this
  exact O.refl _)).mono fun n ⟨a,b,c,d⟩=> ?_).bind
 by_cases e:(n == N)=true
 ·rw [if_pos e]
  exact ⟨a,by omega,hs,c⟩
 ·rw [if_neg e]
  have ne:n≠N:=by simpa using e
  have hl:lt (at_ p n) (at_ p (n - 1))=true:=d.resolve_left (by omega)
  by_cases n1:n > 1
  ·rw [if_pos n1]
   show Tru lt _ (if lt (at_ p 0) (at_ p (n - 1))=true then _ else _)
   by_cases z:lt (at_ p 0) (at_ p (n - 1))=true
   ·rw [if_pos z]
    exact ⟨a,by omega,hs,c⟩
   ·rw [if_neg z]
    have z:lt (at_ p 0) (at_ p (n - 1))=false:=by simpa using z
    have R:=qL (p:=p) (i:=0) (j:=n) (by omega)
    have ev:∀ i j,i < n->j < n->Le lt (at_ p i) (at_ p j):=fun i j hi hj =>
     O.trans _ _ _ (c i (n - 1) (by omega) (by omega)) (O.trans _ _ _ z (c 0 j (by omega) hj))
    refine k7 O (by omega) (by omega) ((mirror_size _ _ _ _).trans hs) fun i j hij hj=> ?_
    rw [R i,R j]
    by_cases ej:j=n
    ·subst ej
     rw [if_neg (by omega:¬ (0<=j/\j < j))]
     split
     ·exact O.trans _ _ _ (O.asym _ _ hl) (ev _ _ (by omega) (by omega))
     ·have:i=j:=by omega
      subst this;exact O.refl _
    ·rw [if_pos (by omega:0<=i/\i < n),if_pos (by omega:0<=j/\j < n)]
     exact ev _ _ (by omega) (by omega)
  ·rw [if_neg n1]
   have:n=1:=by omega
   subst this
   refine k7 O (by omega) (by omega) hs fun i j hij hj=> ?_
   by_cases e:i=j
   ·subst e;exact O.refl _
   ·have hi:i=0:=by omega
    have hj:j=1:=by omega
    subst hi hj;exact O.asym _ _ hl
theorem mK{p:Array Nat}{k:Nat}(h:Asc lt p k):∀ f l r,l<=r->r<=k->r<=l+f->(∀ i,i < l->Le lt (at_ p i) (at_ p k))->(∀ i,r<=i->i < k->Le lt (at_ p k) (at_ p i)) ->
 Tru lt (fun m=>m<=k/\(∀ i,i < m->Le lt (at_ p i) (at_ p k))/\∀ i,m<=i->i < k->Le lt (at_ p k) (at_ p i)) (kas_place p k f l r)
 | 0,l,r,h1,h2,h3,h4,h5=>⟨by omega,h4,fun i a b=>h5 i (by omega) b⟩
 | f+1,l,r,h1,h2,h3,h4,h5=>by
  unfold kas_place
  by_cases g:l>=r
  ·rw [if_pos g]
   exact ⟨by omega,h4,fun i a b=>h5 i (by omega) b⟩
  ·rw [if_neg g]
   show Tru lt _ (if lt (at_ p k) (at_ p ((l+r) / 2))=true then _ else _)
   by_cases c:lt (at_ p k) (at_ p ((l+r) / 2))=true
   ·rw [if_pos c]
    exact mK h f l ((l+r) / 2) (by omega) (by omega) (by omega) h4 fun i a b=>O.trans _ _ _ (O.asym _ _ c) (h _ i a b)
   ·rw [if_neg c]
    have c:lt (at_ p k) (at_ p ((l+r) / 2))=false:=by simpa using c
    exact mK h f ((l+r) / 2+1) r (by omega) h2 (by omega) (fun i a=>O.trans _ _ _ (h i _ (by omega) (by omega)) c) h5
theorem AF{N:Nat}:∀ f (p:Array Nat) k,1<=k->k+f=N->p.size=N->Asc lt p k->Tru lt (fun r:Array Nat=>r.size=N/\Asc lt r N) (kas_bin f p k)
 | 0,p,k,h1,h2,hs,h=>⟨hs,by rw [<- h2];exact h⟩
 | f+1,p,k,h1,h2,hs,h=>by
  unfold kas_bin;refine ((mK O h k 0 k (by omega) (DE _) (by omega) (fun i z=>by omega) (fun i a b=>by omega)).mono fun l ⟨a,b,c⟩=> ?_).bind;have B:=at_bub (p:=p) (k:=k) (l:=l) (by omega) a
  refine AF f _ (k+1) (by omega) (by omega) ((bubble_size _ _ _).trans hs) fun i j hij hj=> ?_
  rw [B i,B j]
  by_cases ei:i=l
  ·rw [if_pos ei]
   by_cases ej:j=l
   ·rw [if_pos ej];exact O.refl _
   ·rw [if_neg ej,if_pos (by omega)]
    exact c _ (by omega) (by omega)
  ·rw [if_neg ei]
   by_cases ej:j=l
   ·rw [if_pos ej,if_neg (by omega)]
    exact b i (by omega)
   ·rw [if_neg ej]
    split
    ·rw [if_pos (by omega)]
     exact h _ _ (by omega) (by omega)
    ·split
     ·exact h _ _ (by omega) (by omega)
     ·exact h _ _ hij (by omega)
theorem Bb{n:Nat}(h:1<=n):Tru lt (fun r:Array Nat=>r.size=n/\Asc lt r n) (kas_sort n):=by
 unfold kas_sort;refine ((Ar O h (by simp)).mono fun r ⟨a,b,c,d⟩=> ?_).bind
 by_cases e:r.1 < n
 ·rw [if_pos e,show max r.1 1=r.1 by omega]
  exact AF O _ _ _ a (by omega) c d
 ·rw [if_neg e]
  have:r.1=n:=by omega
  exact ⟨c,by rw [<- this];exact d⟩
end
end Srt
namespace Srt
open PySem PySem.W PyProof.Rows
noncomputable def dE:List Int->List Int->Bool
 | [],[]=>false
 | [],_::_=>true
 | _::_,[]=>false
 | a::as,b::bs=>if a=b then dE as bs else decide (a < b)
theorem i9:∀ a b:List Int,dE a b=true->dE b a=false
 | [],[],h=>by cases h
 | [],_::_,_=>rfl
 | _::_,[],h=>by cases h
 | a::as,b::bs,h=>by
  unfold dE at h ⊢
  by_cases e:a=b
  ·rw [if_pos e] at h
   rw [if_pos e.symm];exact i9 as bs h
  ·rw [if_neg e] at h
   rw [if_neg (Ne.symm e)];have:=DI h;exact DS (by omega)
theorem nh:∀ a b:List Int,dE a b=false->dE b a=false->a=b
 | [],[],_,_=>rfl
 | [],_::_,h,_=>by cases h
 | _::_,[],_,h=>by cases h
 | a::as,b::bs,h,g=>by
  unfold dE at h g
  by_cases e:a=b
  ·rw [if_pos e] at h
   rw [if_pos e.symm] at g;rw [e,nh as bs h g]
  ·rw [if_neg e] at h
   rw [if_neg (Ne.symm e)] at g;have h:=Fy h;have g:=Fy g;omega
theorem gW:∀ a b c:List Int,dE b a=false->dE c b=false->dE c a=false
 | [],_,[],_,_=>rfl
 | [],[],_::_,_,_=>rfl
 | [],_::_,_::_,_,_=>rfl
 | _::_,[],_,h,_=>by cases h
 | _::_,_::_,[],_,h=>by cases h
 | a::as,b::bs,c::cs,h,g=>by
  unfold dE at h g ⊢
  by_cases e1:b=a
  ·rw [if_pos e1] at h
   by_cases e2:c=b
   ·rw [if_pos e2] at g
    rw [if_pos (e2.trans e1)];exact gW as bs cs h g
   ·rw [if_neg e2] at g
    have g:=Fy g;rw [if_neg (fun z=>e2 (z.trans e1.symm))];exact DS (by omega)
  ·rw [if_neg e1] at h
   have h:=Fy h
   by_cases e2:c=b
   ·rw [if_neg (fun z=>e1 (e2.symm.trans z))]
    exact DS (by omega)
   ·rw [if_neg e2] at g
    have g:=Fy g;rw [if_neg (by omega)];exact DS (by omega)
noncomputable def wY(x:List Int):List (List Int)->List (List Int)
 | []=>[x]
 | y::l=>if dE y x=true then y::wY x l else x::y::l
def gR:List (List Int)->List (List Int)
 | []=>[]
 | x::l=>wY x (gR l)
theorem kt(x:List Int):∀ l,(wY x l).Perm (x::l)
 | []=> .refl _
 | y::l=>by
  unfold wY
  split
  ·exact ((kt x l).cons y).trans (.swap _ _ _)
  ·exact .refl _
theorem bX:∀ l,(gR l).Perm l
 | []=> .refl _
 | x::l=>(kt x _).trans ((bX l).cons x)
abbrev LeL(a b:List Int):Prop:=dE b a=false
theorem kU(x:List Int):∀ l:List (List Int),l.Pairwise LeL->(wY x l).Pairwise LeL
 | [],_=>List.pairwise_singleton _ _
 | y::l,h=>by
  have hc:=Ef.mp h;unfold wY
  split
  ·rename_i hl
   refine Ef.mpr ⟨fun z hz=> ?_,kU x l hc.2⟩
   rcases Dx.mp ((kt x l).mem_iff.mp hz) with rfl | hz
   ·exact i9 _ _ hl
   ·exact hc.1 z hz
  ·rename_i hl
   have hl:dE y x=false:=by simpa using hl
   refine Ef.mpr ⟨fun z hz=> ?_,h⟩
   rcases Dx.mp hz with rfl | hz
   ·exact hl
   ·exact gW _ _ _ hl (hc.1 z hz)
theorem cM:∀ l,(gR l).Pairwise LeL
 | []=> .nil
 | x::l=>kU x _ (cM l)
theorem bu:∀ {a b:List (List Int)},a.Pairwise LeL->b.Pairwise LeL->a.Perm b->a=b
 | [],b,_,_,p=>by rw [p.nil_eq]
 | x::a,[],_,_,p=>absurd p.symm.nil_eq (by simp)
 | x::a,y::b,ha,hb,p=>by
  have ha':=Ef.mp ha;have hb':=Ef.mp hb
  have exy:x=y:=by
   have hx:x∈y::b:=p.mem_iff.mp DC;have hy:y∈x::a:=p.mem_iff.mpr DC
   rcases Dx.mp hx with e | hx
   ·exact e
   ·rcases Dx.mp hy with e | hy
    ·exact e.symm
    ·exact nh _ _ (hb'.1 x hx) (ha'.1 y hy)
  subst exy;rw [bu ha'.2 hb'.2 (List.Perm.cons_inv p)]
theorem lexE{prog:Program}{w:World}{A:Around}{fin:Bool}{C:Bool->Shared->Prop}{s:Shared}:∀ {vs ws:List Value} {ns ms:List Int} (i:Nat),IntsAre vs ns->IntsAre ws ms->fin=decide (ns.length < ms.length)->C (dE ns ms) s->KatLex prog w A true fin C (vs.zip ws) i s
 | [],[],_,_,i,.nil,.nil,hf,hC=>kat_nil (by subst hf;exact hC)
 | [],_::_,_,_,i,.nil,.cons _ _ _,hf,hC=>kat_nil (by subst hf;rw [Dy (by simp)];exact hC)
 | _::_,[],_,_,i,.cons _ _ _,.nil,hf,hC=>kat_nil (by subst hf;rw [DS (by simp)];exact hC)
 | _::vs,_::ws,_::ns,_::ms,i,.cons a t h1,.cons c u h2,hf,hC=>by
  rw [FZ];refine kat_cons ?_;obtain ⟨e,he,h3⟩:=HT.Ak A s a t c u;refine he prog w _ _ ?_;unfold dE at hC
  cases e with
  | true =>
   rw [if_pos (h3.mp rfl)] at hC;exact kat_yes (lexE (i+1) h1 h2 (by rw [hf];simp) hC)
  | false =>
   rw [if_neg (fun z=>by cases h3.mpr z)] at hC;refine kat_no ?_
   cases i with
   | zero=>exact oneLt_int hC
   | succ i=>exact kat_one _ _ (lt_int hC)
section
variable{prog:Program}{w:World}{A:Around}{E:Value->Shared->Prop}{s:Shared}
noncomputable def iP(h:Heap)(vs:List Value)(ks:List (List Int)):Prop:=vs.length=ks.length/\∀ (i:Nat) (hi:i < vs.length),∃ a items,vs[i] = .ref a/\IsTup h a items/\IntsAre items.toList (ks.getD i [])/\ks.getD i []≠[]
theorem iP.tups{h:Heap}{vs:List Value}{ks:List (List Int)}(t:iP h vs ks):Tups h vs:=fun v hv=>by
 obtain ⟨i,hi,rfl⟩:=E2.mp hv;obtain ⟨a,items,h1,h2,h3,h4⟩:=t.2 i hi;exact ⟨a,items,_,h1,h2,h3,h4⟩
theorem iP.keep{h h':Heap}{vs:List Value}{ks:List (List Int)}(t:iP h vs ks)(k:∀ b o,h.get? b=some o->o.cls = .type "tuple" -> h'.get? b=some o):iP h' vs ks:=⟨t.1,fun i hi=>by
 obtain ⟨a,items,e,⟨o,h1,h2,n,h3⟩,i,ne⟩:=t.2 i hi
 exact ⟨a,items,e,⟨o,k a o h1 h2,h2,n,h3⟩,i,ne⟩⟩
abbrev klt(ks:List (List Int))(i j:Nat):Bool:=dE (ks.getD i []) (ks.getD j [])
theorem B1(ks:List (List Int)):Ord (klt ks):=⟨fun _ _ h=>i9 _ _ h,fun _ _ _ h g=>gW _ _ _ h g⟩
theorem asc_pw{lt:Nat->Nat->Bool}{p:Array Nat}(h:Asc lt p p.size):p.toList.Pairwise (Le lt):=by
 rw [List.pairwise_iff_getElem];intro i j hi hj hij;have:=h i j (E9 hij) (by simpa using hj);unfold Le at_ at this
 have gi:i < p.size:=by simpa using hi
 have gj:j < p.size:=by simpa using hj
 rw [Eo,Eo,EO gi,EO gj] at this;simpa using this
end
end Srt
namespace Srt
open PySem PySem.W PyProof.Rows
section
variable{prog:Program}{w:World}{A:Around}{E:Value->Shared->Prop}{s:Shared}
theorem _root_.L2.IntsAre_len{vs:List Value}{ns:List Int}(h:IntsAre vs ns):vs.length=ns.length:=by
 induction h with
 | nil=>rfl
 | cons _ _ _ ih=>rw [Dq,Dq,ih]
theorem CG{a:Addr}{vs:List Value}{ks:List (List Int)}{n:Nat}{P:PySem.Fin->Shared->Prop}(ho:s.heap.get? a=some (seqObj "list" vs.toArray n))(ht:iP s.heap vs ks)(h64:vs.length < 64)
 (h:∀ p:List Nat,p.Perm (List.range vs.length)->p.Pairwise (Le (klt ks))->P (.done (.ret .none)) { s with heap:=sortedHeap s.heap a vs (p.map fun i=>vs.getD i Value.none).toArray }):wpAny (model prog w) A (Builtin.«list.sort» ⟨[.ref a],[]⟩) P E s:=by
 rw [list_sort_plain];have ha:a < s.heap.objs.size:=DA ho;refine Dl (listItems_at ho rfl (Dl (listUpdate_at ho rfl ?_)));obtain ⟨e1,o1⟩:∃ e1,(s.heap.update a (Obj.mapSeq fun _ => #[])).get? a=some (seqObj "list" #[] e1):=⟨_,get?_update_seq ho (fun _ => #[])⟩;refine Dl (seqEpoch_at o1 rfl (Dl (wpAny_newTuple (Dl (FR ?_)))));refine ER ?_;have o6:(((s.heap.update a (Obj.mapSeq fun _ => #[])).push (seqObj "tuple" vs.toArray 0)).push (seqObj "list" #[] 0)).get? a=some (seqObj "list" #[] e1):=Dm _ (Dm _ o1)
 show wpAny (model prog w) A _ P E { s with heap:=((s.heap.update a (Obj.mapSeq fun _ => #[])).push (seqObj "tuple" vs.toArray 0)).push (seqObj "list" #[] 0) }
 dsimp only
 have hsz:vs.toArray.size=vs.length:=by simp
 have t6:iP (((s.heap.update a (Obj.mapSeq fun _ => #[])).push (seqObj "tuple" vs.toArray 0)).push (seqObj "list" #[] 0)) vs ks:=ht.keep fun b o e c=>by
  refine Dm _ (Dm _ ((Fi _ _ ?_).trans e));rintro rfl;rw [ho] at e;cases e;exact absurd c (by simp [seqObj])
 by_cases h2:vs.toArray.size < 2
 ·rw [if_pos h2,if_pos h2]
  refine Dl (Dr ?_);rw [StateT.run_pure];refine Dl (Dr ?_);dsimp only;refine Dl (seqEpoch_at o6 rfl (Dl (listUpdate_at o6 rfl ?_ (hsz2:=by rw [Array.size_map];show (pairsOf vs).size<=_;rw [pairsOf_size,sizeLine_eq];omega))));simp only [bne_self_eq_false,FG,if_false];refine Dr ?_
  have e:((vs.toArray.zip vs.toArray).map (·.2))=vs.toArray:=by
   apply Array.toList_inj.mp;rw [Array.toList_map,Array.toList_zip];exact List.map_snd_zip (DE _)
  have q:=h (List.range vs.length) (List.Perm.refl _) (List.pairwise_iff_getElem.mpr fun i j hi hj hij=>by
   rw [ET] at hi hj
   omega)
  rw [show ((List.range vs.length).map fun i=>vs.getD i Value.none)=vs by
   apply Fg
   ·simp
   ·intro i h1 h2
    simp [h2]] at q
  rw [<- e] at q;exact q
 ·rw [if_neg h2,if_neg h2]
  have h2':2<=vs.length:=by omega
  obtain ⟨fs,f1,f2,f3⟩:=Ae (M:=model prog w) t6.tups;refine Dl (kat_kind (T:= .type "int") f2 (by omega) f3 (by decide) ?_);rw [show ((Value.type "int" != Value.type "tuple")=true) from by decide]
  refine Dl (EQ (kat_run (Q:=fun st' s'=>∃ p:Array Nat,(dG vs.length p/\p.size=vs.length/\Asc (klt ks) p vs.length)/\arrOf st'=p.map (kas_item (vs.toArray.zip vs.toArray))/\failedOf st'=none/\s'=_) (G:=fun p s'=>(dG vs.length p/\p.size=vs.length/\Asc (klt ks) p vs.length)/\s'=_) (ks:=vs) rfl h2' h64
   (fun p st' s' _ a2 a3 a4=>⟨p,a4.1,a2,a3,a4.2⟩) (both (lt:=klt ks) (P:=dG vs.length) (P':=fun p:Array Nat=>p.size=vs.length/\Asc (klt ks) p vs.length) (fun i j C hi hj hC=> ?_) (fun p hp hp2=>⟨⟨hp,hp2⟩,rfl⟩) (sort (by omega)) (Bb (B1 ks) (by omega)))) ?_ fun _ _ x=>x)
  ·show wpAny (model prog w) A (keyLt' (tuples' true) (vs.getD i Value.none) (vs.getD j Value.none)) C (fun _ _=>False) _
   have gi:vs.getD i Value.none=vs[i]:=by simp [hi]
   have gj:vs.getD j Value.none=vs[j]:=by simp [hj]
   rw [gi,gj];obtain ⟨x,xs,ex,⟨ox,x1,x2,nx,x3⟩,ix,_⟩:=t6.2 i hi;obtain ⟨y,ys,ey,⟨oy,y1,y2,ny,y3⟩,iy,_⟩:=t6.2 j hj;rw [ex,ey];refine kat_lt x1 x3 y1 y3 (lexE 0 ix iy ?_ hC);rw [<- Ez,<- Ez,L2.IntsAre_len ix,L2.IntsAre_len iy]
  ·rintro ⟨⟨⟩,st'⟩ s' ⟨p,⟨hp,hpz,hpa⟩,har,hf,rfl⟩
   dsimp only;have hout:=kat_snds (vs:=vs) (ks:=vs) rfl har
   have hperm:(p.toList.map fun i=>vs.getD i Value.none).Perm vs:=by
    have e:=hp.2.map fun i=>vs.getD i Value.none
    refine e.trans (Fk ?_);apply Fg
    ·simp
    ·intro i h1 h2
     simp [h2]
   rw [hout];refine Dl (seqEpoch_at o6 rfl (Dl (listUpdate_at o6 rfl ?_ (hsz2:=by rw [Ds,hperm.length_eq,sizeLine_eq];omega))));rw [hf];simp only [bne_self_eq_false,FG,if_false];exact Dr (h p.toList hp.2 (asc_pw (by rw [hpz];exact hpa)))
theorem Ba{l:Addr}{vs:List Value}{ks:List (List Int)}{Q:Value->Shared->Prop}(hl:s.heap.IsList l vs.toArray)(ht:iP s.heap vs ks)(h64:vs.length < 64)
 (h:∀ p:List Nat,p.Perm (List.range vs.length)->p.Pairwise (Le (klt ks))->Q (.ref (s.heap.objs.size+1)) { s with heap:=sortedAll s.heap vs (p.map fun i=>vs.getD i Value.none).toArray }):wpAny (model prog w) A (call (.builtin "sorted") [.ref l]) Q E s:=by
 refine Calls.call_function_entry kind_sorted plain_sorted entry_sorted (args_sorted1 _) ?_;unfold Builtin.«sorted»;refine Dl (m:=checkCount "sorted" 1 1 _) (Dr ?_);refine Dl (collect_list hl (Dl (FR ?_)))
 have hsz:((s.heap.push (seqObj "list" #[] 0)).update s.heap.objs.size (Obj.mapSeq (·++ vs.toArray))).objs.size=s.heap.objs.size+1:=by
  rw [Heap.size_update,size_push']
 have oL:(((s.heap.push (seqObj "list" #[] 0)).update s.heap.objs.size (Obj.mapSeq (·++ vs.toArray))).push (seqObj "list" vs.toArray 0)).get? (s.heap.objs.size+1)=some (seqObj "list" vs.toArray 0):=by
  rw [<- hsz];exact Dw _ rfl
 show wpAny _ _ _ _ _ { s with heap:=((s.heap.push (seqObj "list" #[] 0)).update s.heap.objs.size (Obj.mapSeq (·++ vs.toArray))).push (seqObj "list" vs.toArray 0) }
 rw [hsz]
 have tL:iP (((s.heap.push (seqObj "list" #[] 0)).update s.heap.objs.size (Obj.mapSeq (·++ vs.toArray))).push (seqObj "list" vs.toArray 0)) vs ks:=ht.keep fun b o e _ =>
  Dm _ ((Fi _ _ (Ne.symm (DO (DA e)))).trans (Dm _ e))
 refine Dl (ER (Es slot_list_sort ⟨_,oL,rfl⟩ entry_list_sort (CG oL tL h64 fun p hp hs=>⟨_,rfl,?_⟩) (args_list_sort _)));exact Dr ⟨_,rfl,h p hp hs⟩
end
end Srt
namespace L2
open PySem PySem.Spec PyProof.Rows
section
variable{X:Cx}
noncomputable def kl(K:F2):List V->Hp->VK->Prop:=fun xs H Q=>∃ (p:Addr) (bs:List V) (ks:List (List Int)),xs=[V.ref p]/\SqL K H p bs/\bs.length < 64/\bs.length=ks.length/\(∀ (i:Nat) (k:List Int),ks[i]?=some k->∃ a:Addr,bs[i]?=some (.ref a)/\SqT K H a (k.map V.int)/\k≠[]) /\
 ∀ l (q:List Nat),H l=none->q.Perm (List.range bs.length)->q.map (fun i=>ks.getD i [])=Srt.gR ks->Q (.ref l) (upd H l (.lst (q.map fun i=>bs.getD i .non)))
theorem qH:ax X (.builtin "sorted") (kl X.K):=by
 intro pins s σ H xs us Q I r h;obtain ⟨p,bs,ks,rfl,hq,h64,hlk,ht,q⟩:=h;obtain ⟨u,rfl,ru⟩:=bC r;cases ru;obtain ⟨its,rv,pl,hz⟩:=I.list hq;have hlen:=rv.length
 have isref:∀ b∈bs,∃ a,b = .ref a:=fun b hb=>by
  obtain ⟨i,hi,rfl⟩:=E2.mp hb;obtain ⟨a,e,_⟩:=ht i _ (Do (by omega));rw [Do hi] at e;exact ⟨a,Option.some.inj e⟩
 obtain ⟨eb,refs⟩:=oY rv isref
 refine Srt.Ba (ks:=ks) pl.isList ⟨by omega,fun i hi=> ?_⟩ (by omega) fun p hp hs=> ?_
 ·obtain ⟨a,e,hS,ne⟩:=ht i _ (Do (by omega))
  have hv:its[i] = .ref a:=by
   obtain ⟨b,hb⟩:=refs its[i] (Ea hi)
   have:(its.map rH)[i]?=some (.ref a):=by rw [<- eb];exact e
   rw [DL,Do hi,hb] at this;rw [hb];have:=Option.some.inj this;cases this;rfl
  obtain ⟨items,ri,pt,_⟩:=I.tuple hS
  have hk:ks.getD i []=ks[i]'(by omega):=by simp [DB,Do (show i < ks.length by omega)]
  rw [hk];exact ⟨a,items.toArray,hv,pt,dl ri,ne⟩
 ·have hf:H (s.heap.objs.size+1)=none:=I.hok.fresh (Nat.le_succ _)
  have perm:(p.map fun i=>its.getD i Value.none).Perm its:=by
   refine (hp.map _).trans (Fk ?_);apply Fg
   ·simp
   ·intro i h1 h2
    simp [h2]
  have ro:∀ u∈(p.map fun i=>its.getD i Value.none),∃ b,u = .ref b:=fun u hu=>refs u (perm.mem_iff.mp hu)
  have eo:(p.map fun i=>its.getD i Value.none).map rH=p.map fun i=>bs.getD i .non:=by
   rw [Ed];apply DU;intro i hi
   have hi':i < its.length:=by
    have:=hp.mem_iff.mp hi;simpa using this
   show rH (its.getD i Value.none)=_
   rw [eb];simp [DB,hi']
  have es:p.map (fun i=>ks.getD i [])=Srt.gR ks:=by
   refine Srt.bu ?_ (Srt.cM ks) (((hp.map _).trans (Fk ?_)).trans (Srt.bX ks).symm)
   ·rw [FH]
    exact hs.imp fun h=>h
   ·rw [hlen.symm.trans hlk]
    apply Fg
    ·simp
    ·intro i h1 h2
     simp [h2]
  obtain ⟨e,he⟩:=sortedAll_at s.heap its (p.map fun i=>its.getD i Value.none).toArray;refine ⟨.ref (s.heap.objs.size+1),upd H (s.heap.objs.size+1) (.lst (p.map fun i=>bs.getD i .non)),I.laid (t':=s.toks) (fun b o=>sortedAll_old) (Nat.le_succ _) ⟨?_,_,e,by rw [<- eo];exact ke ro,he⟩,rfl,q _ p hf (by rw [hlen];exact hp) es⟩;rw [Dp,hp.length_eq,ET,<- hlen];exact hz
end
noncomputable def tupI:D->Option (List Int)
 | .tup ds=>match aT ds with
  | some (n::ns)=>some (n::ns)
  | _=>none
 | _=>none
noncomputable def qW:List D->Option (List (List Int))
 | []=>some []
 | d::ds=>match tupI d,qW ds with
  | some k,some ks=>some (k::ks)
  | _,_=>none
abbrev tZ(k:List Int):D:= .tup (k.map D.int)
theorem AS{d:D}{k:List Int}(h:tupI d=some k):d=tZ k/\k≠[]:=by
 unfold tupI at h
 split at h
 ·rename_i ds
  split at h
  ·rename_i n ns e
   cases h;exact ⟨by rw [aX e],by simp⟩
  ·cases h
 ·cases h
theorem qV:∀ {ds:List D} {ks:List (List Int)},qW ds=some ks->ds=ks.map tZ/\∀ k∈ks,k≠[]
 | [],_,h=>by cases h;exact ⟨rfl,fun k hk=>by cases hk⟩
 | d::ds,ks,h=>by
  unfold qW at h
  split at h
  ·rename_i k ks' h1 h2
   cases h;obtain ⟨e1,n1⟩:=AS h1;obtain ⟨e2,n2⟩:=qV h2;exact ⟨by rw [e1,e2];rfl,fun k hk=>(Dx.mp hk).elim (fun e=>e ▸ n1) (n2 k)⟩
  ·cases h
noncomputable def uE:List D->Option (D×Bool)
 | [.lst ds]=>match qW ds with
  | some ks=>if decide (ks.length < 64)=true then some (.lst ((Srt.gR ks).map tZ),true) else none
  | none=>none
 | _=>none
theorem oX{K:F2}{H:Hp}{ds:List D}{xs:List V}(h:ah K H ds xs):∀ (q:List Nat),(∀ i∈q,i < ds.length)->ah K H (q.map fun i=>ds.getD i .non) (q.map fun i=>xs.getD i .non)
 | [],_=>trivial
 | i::q,hq=>by
  have hi:=hq i DC;obtain ⟨x,hx,r⟩:=h.get (Do hi);refine ⟨?_,oX h q fun j hj=>hq j (Dv _ hj)⟩
  show ay K H (ds.getD i .non) (xs.getD i .non)
  rw [DB,DB,hx,Do hi];exact r
theorem zf{K:F2}:OpS K (kl K) uE:=by
 intro vs ds H L Q d nw hm r e q;unfold uE at e
 split at e
 ·rename_i es
  obtain ⟨x,rfl,⟨p,xs,rfl,h1,h2⟩⟩:=aA r
  cases ek:qW es with
  | none=>rw [ek] at e;cases e
  | some ks =>
   rw [ek] at e;simp only at e
   split at e
   ·rename_i hk
    cases e;have hk:=DI hk;obtain ⟨ee,hne⟩:=qV ek
    have hl:ks.length=xs.length:=by rw [<- h2.len,ee,Dp]
    refine ⟨p,xs,ks,rfl,.inl (.inl h1),by omega,hl.symm,fun i k hi=> ?_,fun l p' hl' hp hs=>q _ _ (ac.upd hl') (cv ?_ hl')⟩
    ·obtain ⟨v,hv,a,ys,rfl,g1,g2⟩:=h2.get (i:=i) (d:=tZ k) (by rw [ee,DL,hi];rfl)
     exact ⟨a,hv,.inl (.inl (by rw [(am g1).2,aN g2])),hne k (DF hi)⟩
    ·have:=oX h2 p' fun i hi=>by
      have:=hp.mem_iff.mp hi;rw [EA,<- h2.len] at this;exact this
     rw [<- hs,Ed]
     have e2:(p'.map fun i=>es.getD i .non)=p'.map (tZ ∘ fun i=>ks.getD i []):=by
      apply DU;intro i hi
      have hi':i < ks.length:=by
       have:=hp.mem_iff.mp hi;rw [EA] at this;omega
      rw [ee];simp [DB,hi']
     rw [<- e2];exact this
   ·cases e
 ·cases e
def nB(ds:List D):Option (D×Bool):=match ie ds with
 | some r=>some r
 | none=>uE ds
theorem zh{K:F2}:OpS K (fun xs H Q=>(iZ K xs H Q\/iY K xs H Q)\/kl K xs H Q) nB:=by
 intro vs ds H L Q d nw hm r e q;unfold nB at e
 cases es:ie ds with
 | some z =>
  rw [es] at e;cases e;exact .inl (wK vs ds H L Q d nw hm r es q)
 | none =>
  rw [es] at e;exact .inr (zf vs ds H L Q d nw hm r e q)
theorem uT{X:Cx}:ax X (.builtin "sorted") (fun xs H Q=>(iZ X.K xs H Q\/iY X.K xs H Q)\/kl X.K xs H Q):=qI.or qH
section
variable{X:Cx}{EX:EXT}{e:Expr}{es:List Expr}{pos p:Pos}{as:List Arg}
end
section
variable{K:F2}{F:Fx}{EX:EXT}{σ:St}{H:Hp}{ρ:Rho}{W:List Addr}
end
end L2
namespace L2
theorem s_none{X:Cx}{EX:EXT}{s:PySem.Stmt}:JS X EX s (fun _=>none):=⟨fun pins s σ H D I ⟨_,_,_,_,h⟩=>h.elim⟩
namespace Kd
open PySem L2 PyProof.Rows
def words:List Str:=["web", "place", "kind", "share", "square", "number", "text", "row", "great"]
section
variable{X:Cx}{e:Expr}{te:TE}{pos p1 p2:Pos}
end
noncomputable def names:List Str:=["NoWeb", "NoPlace", "NoKind", "NoShare", "NoSquare", "NoNumber", "NoText", "NoRow", "TooGreat"]
end Kd
end L2
namespace L2
open PySem PySem.Spec PyProof.Rows
def keyD:Key->D
 | .inl i=> .int i
 | .inr x=> .str x
theorem zy{K:F2}{H:Hp}:∀ (k:Key),ay K H (keyD k) (kV k)
 | .inl _=>rfl
 | .inr _=>rfl
theorem o5{K:F2}{H:Hp}:∀ (k:List Key),ah K H (k.map keyD) (k.map kV)
 | []=>trivial
 | k::ks=>⟨zy k,o5 ks⟩
noncomputable def fC(ds:List D):Option (D×Bool):=match ds with
 | [.dT ks _]=>some (.lst (ks.map fun k=> .tup (k.map keyD)),true)
 | ds=>zU ds
noncomputable def yI:List V->Hp->VK->Prop:=fun xs H Q=>∃ a kvs,xs=[V.ref a]/\H a=some (.dT kvs) /\
 ∀ l bs,H l=none->(kvs.map (·.1)).Nodup->bs.length=kvs.length->(∀ (i:Nat) k v,kvs[i]?=some (k,v)->∃ b,bs[i]?=some (V.ref b)/\H b=some (.tup (k.map kV)))->Q (.ref l) (upd H l (.lst bs))
theorem p5{K:F2}{H:Hp}:∀ {ds:List D} {xs:List V},ds.length=xs.length->(∀ (i:Nat) (d:D),ds[i]?=some d->∃ x,xs[i]?=some x/\ay K H d x)->ah K H ds xs
 | [],[],_,_=>trivial
 | d::ds,x::xs,hl,h=>by
  obtain ⟨y,e,r⟩:=h 0 d rfl;cases e
  exact ⟨r,p5 (by simpa using hl) fun i d' hd=>by
   obtain ⟨y,e,r⟩:=h (i+1) d' (by simpa using hd)
   exact ⟨y,by simpa using e,r⟩⟩
 | [],_::_,hl,_=>by simp at hl
 | _::_,[],hl,_=>by simp at hl
theorem zj{K:F2}:OpS K (fun xs H Q=>(lT K xs H Q\/mG xs H Q)\/yI xs H Q) fC:=by
 intro vs ds H L Q d nw hm r e q;unfold fC at e
 split at e
 ·rename_i ks es
  cases e;obtain ⟨x,rfl,⟨p,xs,rfl,h1,hl,h2⟩⟩:=aA r;refine .inr ⟨p,_,rfl,h1,fun l bs hf _ hb hk=>q _ _ (ac.upd hf) (cv (p5 ?_ fun i d hd=> ?_) hf)⟩
  ·rw [Dp,hb,Fj,hl,E8]
  ·rw [DL] at hd
   obtain ⟨k,hk1,rfl⟩:=El.mp hd
   have hi:i < xs.length:=by rw [<- hl];exact (DG.mp hk1).1
   obtain ⟨b,e1,e2⟩:=hk i k xs[i] (by rw [Fp];exact ⟨hk1,Do hi⟩);refine ⟨_,e1,b,_,rfl,?_,o5 k⟩;rw [aE fun z=>by have:=hm b z;rw [e2] at this;exact this];exact e2
 ·exact .inl (BM vs ds H L Q d nw hm r e q)
theorem tM{X:Cx}(hc:X.calm=true):ax X (.type "list") (fun xs H Q=>(lT X.K xs H Q\/mG xs H Q)\/yI xs H Q):=(uY hc).or (uW hc)
section
variable{X:Cx}{EX:EXT}{e:Expr}{es:List Expr}{pos p:Pos}{as:List Arg}
theorem CA(he:starEach (e::es) X.env=(false,eval e X.env)::starEach es X.env:=by rfl)(hpl:(backTo pos (starEach es X.env)).any (·.1)=false:=by rfl)(m:X.mg "list" = none)(ha:JA X EX (e::es) as)(hg:Gl X "list" := by rfl)(hc:X.calm=true:=by rfl):JE X EX (.Call (.Name "list" p) (e::es) [] pos) (sOp fC as):=g8 (tM hc) zj hg m PyProof.Rows.boot_list ha (by decide) (by decide) he hpl
end
end L2
namespace St2
open PySem PySem.Spec PyProof.Rows
section
variable{prog:Program}{w:World}{A:Around}{E:Value->Shared->Prop}{s:Shared}
theorem tG{T:String}{d:Addr}{n:Nat}{P:Nat->Value->Prop}{OK:Heap->Prop}{Q:List Value->Shared->Prop}(K:PySem.W.KdlSrc prog w T d d n P OK)(hh:A.handled=none)(hd:OK s.heap)(hz:n<=sizeLine)
 (h:∀ h' tk (acc:Array Value) c,(∀ b o,s.heap.get? b=some o->h'.get? b=some o)->h'.get? s.heap.objs.size=some { cls:= .type "list",dict:=none,data:= .seq acc c,slots := #[] }->ItemsOf P acc n->Q acc.toList { s with heap:=h',toks:=tk }) :
 wpAny (model prog w) A (collect (.ref d)) Q E s:=by
 unfold collect;refine Dl (F1 (codeAny_builtin F.entry_proto_collect ?_));unfold Builtin.«proto.collect»
 show wpAny _ _ (newList [] >>= _) _ _ _
 refine Dl (FR ?_ (by simp));refine Dr ⟨Code.quiet_builtin _ (by decide +kernel),codeAny_builtin F.entry_list_iadd ?_⟩;have hn:(s.heap.push { cls:=Value.type "list",data:=Data.seq #[] }).get? s.heap.objs.size=some { cls:=Value.type "list",data:=Data.seq #[] }:=Dw _ rfl
 show wpAny _ _ (Builtin.List.listExtendWith (.ref s.heap.objs.size) (.ref d) (.ref s.heap.objs.size)) _ _ _
 have nd:s.heap.objs.size≠d:=E7 (K.there _ hd).1
 have key:=PySem.W.kdl_extend (A:=A) (s:={ s with heap:=s.heap.push { cls:=Value.type "list",data:=Data.seq #[] } }) (R:=fun r s'=>∃ h' tk acc c,r = .ok (.ret (.ref s.heap.objs.size))/\s'={ s with heap:=h',toks:=tk }/\(∀ b o,s.heap.get? b=some o->h'.get? b=some o)/\h'.get? s.heap.objs.size=some { cls:= .type "list",dict:=none,data:= .seq acc c,slots := #[] }/\ItemsOf P acc n)
  K hh (K.keep _ _ hd fun b _ o e=>Dm _ e) _ nd nd (.ref s.heap.objs.size) 0 hn (fun h' tk acc c keep hS items=>⟨h',tk,acc,c,rfl,rfl,fun b o e=>keep b o (DO (DA e)) (Dm _ e),hS,items⟩) hz
 refine EQ key (fun f s' hf=> ?_) (fun e s' he=> ?_)
 ·cases f with
  | done f =>
   obtain ⟨h',tk,acc,c,e1,rfl,keep,hS,items⟩:=hf;cases e1
   show wpAny _ _ (load s.heap.objs.size >>= _) _ _ _
   refine Dl (wpAny_load hS ?_)
   show wpAny _ _ (pure acc.toList) _ _ _
   exact Dr (h h' tk acc c keep hS items)
  | again c' =>
   refine ⟨hf.1,codeAny_mono hf.2 fun r s' z=> ?_⟩;obtain ⟨h',tk,acc,c,e1,rfl,keep,hS,items⟩:=z;cases e1
   show wpAny _ _ (load s.heap.objs.size >>= _) _ _ _
   refine Dl (wpAny_load hS ?_)
   show wpAny _ _ (pure acc.toList) _ _ _
   exact Dr (h h' tk acc c keep hS items)
 ·obtain ⟨_,_,_,_,e1,_⟩:=he
  cases e1
end
end St2
namespace L2
open PySem PySem.Spec PyProof.Rows
section
variable{X:Cx}
noncomputable def p7:List V->Hp->VK->Prop:=fun xs H Q=>∃ (a:Addr) (ks:List (List Int)) (vs:List V),xs=[V.ref a]/\H a=some (.dT ((ks.map fun k=>k.map Sum.inl).zip vs))/\ks.length=vs.length/\ks.length < 64/\(∀ k∈ks,k≠[]) /\
 ∀ l (bs:List V),H l=none->bs.length=ks.length->(∀ (i:Nat) k,(Srt.gR ks)[i]?=some k->∃ b,bs[i]?=some (V.ref b)/\H b=some (.tup (k.map V.int)))->Q (.ref l) (upd H l (.lst bs))
theorem inl_kV(k:List Int):(k.map (Sum.inl:Int->Key)).map kV=k.map V.int:=by rw [Ed];rfl
theorem oF(hc:X.calm=true):ax X (.builtin "sorted") p7:=by
 intro pins s σ H xs us Q I r h;obtain ⟨a,ks,vs,rfl,ha,hlv,h64,hne,q⟩:=h;obtain ⟨u,rfl,ru⟩:=bC r;cases ru;obtain ⟨z,lo,nd,es,ep,x,hl,hk⟩:=uh I.hok ha;have lsz:sizeLine=16777216:=sizeLine_eq
 have hlz:((ks.map fun k=>k.map (Sum.inl:Int->Key)).zip vs).length=ks.length:=by rw [Fj,Dp,hlv,E8]
 have hes:es.size=ks.length:=hl.trans hlz;refine Calls.call_function_entry kind_sorted plain_sorted entry_sorted (args_sorted1 _) ?_;unfold Builtin.«sorted»;refine Dl (m:=checkCount "sorted" 1 1 _) (Dr ?_);refine Dl (St2.tG (RawD.src (ep:=ep) (es:=es) lo) (I.ok.hd hc) x (by omega) fun h1 tk acc c keep hS items=>Dl (FR ?_ (by rw [Ez,items.1];omega)));have hsz:s.heap.objs.size+1<=h1.objs.size:=DA hS
 have lacc:acc.toList.length=ks.length:=by rw [Ez,items.1,hes]
 have at_:∀ (i:Nat) (hi:i < acc.toList.length),∃ b,acc.toList[i] = .ref b/\H b=some (.tup ((ks.getD i []).map V.int))/\ks.getD i []≠[]:=fun i hi=>by
  obtain ⟨hi',e⟩:=items.2 i acc.toList[i] (by rw [<- E0];exact Do hi);obtain ⟨b,k,v,e1,e2,e3⟩:=hk i hi'
  have hi2:i < ks.length:=by omega
  have ek:k=(ks.getD i []).map Sum.inl:=by
   rw [Fp] at e2;have:=e2.1;rw [DL,Do hi2] at this;have this:ks[i].map Sum.inl=k:=Option.some.inj this;rw [<- this];simp [DB,hi2]
  refine ⟨b,e.trans e1,by rw [e3,ek,inl_kV],hne _ ?_⟩;rw [DB,Do hi2];exact Ea _
 show wpAny _ _ _ _ _ { s with heap:=h1.push (seqObj "list" acc.toList.toArray 0),toks:=tk }
 have oL:(h1.push (seqObj "list" acc.toList.toArray 0)).get? h1.objs.size=some (seqObj "list" acc.toList.toArray 0):=Dw _ rfl
 have tk1:Srt.iP (h1.push (seqObj "list" acc.toList.toArray 0)) acc.toList ks:=⟨lacc,fun i hi=>by
  obtain ⟨b,e1,e2,e3⟩:=at_ i hi;obtain ⟨items',ri,⟨o,g1,g2,n,g3⟩,_⟩:=I.tuple (X:=X) (.inl (.inl e2))
  exact ⟨b,items'.toArray,e1,⟨o,Dm _ (keep b o g1),g2,n,g3⟩,dl ri,e3⟩⟩
 refine Dl (ER (Es slot_list_sort ⟨_,oL,rfl⟩ entry_list_sort (Srt.CG oL tk1 (by omega) fun p hp hs=>⟨_,rfl,?_⟩) (args_list_sort _)))
 have hle:s.heap.objs.size<=h1.objs.size:=by omega
 have hf:H h1.objs.size=none:=I.hok.fresh hle
 have hin:∀ i∈p,i < acc.toList.length:=fun i hi=>by
  have:=hp.mem_iff.mp hi
  rwa [EA] at this
 have refs:∀ u∈(p.map fun i=>acc.toList.getD i Value.none),∃ b,u = .ref b:=fun u hu=>by
  obtain ⟨i,hi,rfl⟩:=DP.mp hu;obtain ⟨b,e1,_⟩:=at_ i (hin i hi);exact ⟨b,by rw [DB,Do (hin i hi)];exact e1⟩
 have es':p.map (fun i=>ks.getD i [])=Srt.gR ks:=by
  refine Srt.bu ?_ (Srt.cM ks) (((hp.map _).trans (Fk ?_)).trans (Srt.bX ks).symm)
  ·rw [FH]
   exact hs.imp fun h=>h
  ·rw [lacc]
   apply Fg
   ·simp
   ·intro i h1 h2
    simp [h2]
 obtain ⟨e,he⟩:=sortedHeap_at (out:=(p.map fun i=>acc.toList.getD i Value.none).toArray) oL
 have lp:p.length=ks.length:=by rw [hp.length_eq,ET,lacc]
 refine Dr ⟨_,rfl,.ref h1.objs.size,upd H h1.objs.size (.lst ((p.map fun i=>acc.toList.getD i Value.none).map rH)),I.laid (t':=tk) (fun b o q=> ?_) hle ⟨?_,_,e,ke refs,by simpa using he⟩,rfl,q _ _ hf (by rw [Dp,Dp,lp]) fun i k hik=> ?_⟩
 ·have lb:=DA (keep b o q)
  rw [sortedHeap_old (DO lb) (by rw [DZ];exact EL lb)];exact Dm _ (keep b o q)
 ·rw [Dp,Dp,lp]
  omega
 ·rw [<- es',DL] at hik
  obtain ⟨j,hj,rfl⟩:=El.mp hik;have hj':=hin j (DF hj);obtain ⟨b,e1,e2,_⟩:=at_ j hj';refine ⟨b,?_,e2⟩;rw [DL,DL,hj]
  show some (rH (acc.toList.getD j Value.none))=_
  rw [DB,Do hj']
  show some (rH acc.toList[j])=_
  rw [e1];rfl
end
noncomputable def B3:List Key->Option (List Int)
 | []=>some []
 | .inl i::ks=>match B3 ks with
  | some l=>some (i::l)
  | none=>none
 | .inr _::_=>none
noncomputable def o4:List (List Key)->Option (List (List Int))
 | []=>some []
 | k::ks=>match B3 k,o4 ks with
  | some (i::l),some r=>some ((i::l)::r)
  | _,_=>none
theorem vS:∀ {k:List Key} {l:List Int},B3 k=some l->k=l.map Sum.inl
 | [],_,h=>by cases h;rfl
 | .inl i::ks,l,h=>by
  unfold B3 at h
  split at h
  ·rename_i l' e
   cases h;rw [vS e];rfl
  ·cases h
 | .inr _::_,_,h=>by cases h
theorem sy:∀ {ks:List (List Key)} {r:List (List Int)},o4 ks=some r->ks=(r.map fun k=>k.map Sum.inl)/\∀ k∈r,k≠[]
 | [],_,h=>by cases h;exact ⟨rfl,fun k hk=>by cases hk⟩
 | k::ks,r,h=>by
  unfold o4 at h
  split at h
  ·rename_i i l r' e1 e2
   cases h;obtain ⟨g1,g2⟩:=sy e2;exact ⟨by rw [g1,vS e1];rfl,fun k hk=>(Dx.mp hk).elim (fun e=>by rw [e];simp) (g2 k)⟩
  ·cases h
noncomputable def fB(ds:List D):Option (D×Bool):=match ds with
 | [.dT ks _]=>match o4 ks with
  | some r=>if decide (r.length < 64)=true then some (.lst ((Srt.gR r).map tZ),true) else none
  | none=>none
 | ds=>nB ds
theorem zg{K:F2}:OpS K (fun xs H Q=>((iZ K xs H Q\/iY K xs H Q)\/kl K xs H Q)\/p7 xs H Q) fB:=by
 intro vs ds H L Q d nw hm r e q;unfold fB at e
 split at e
 ·rename_i ks es
  split at e
  ·rename_i ns hk
   split at e
   ·rename_i h64
    cases e;have h64:=DI h64;obtain ⟨g1,g2⟩:=sy hk;obtain ⟨x,rfl,⟨p,xs,rfl,h1,hl,h2⟩⟩:=aA r
    have ll:ns.length=xs.length:=by rw [<- hl,g1,Dp]
    refine .inr ⟨p,ns,xs,rfl,by rw [<- g1];exact h1,ll,h64,g2,fun l bs hf hb hk'=>q _ _ (ac.upd hf) (cv (p5 ?_ fun i d hd=> ?_) hf)⟩
    ·rw [Dp,hb,(Srt.bX ns).length_eq]
    ·rw [DL] at hd
     obtain ⟨k,hk1,rfl⟩:=El.mp hd;obtain ⟨b,e1,e2⟩:=hk' i k hk1;refine ⟨_,e1,b,_,rfl,?_,di k⟩;rw [aE fun z=>by have:=hm b z;rw [e2] at this;exact this];exact e2
   ·cases e
  ·cases e
 ·exact .inl (zh vs ds H L Q d nw hm r e q)
theorem uS{X:Cx}(hc:X.calm=true):ax X (.builtin "sorted") (fun xs H Q=>((iZ X.K xs H Q\/iY X.K xs H Q)\/kl X.K xs H Q)\/p7 xs H Q):=uT.or (oF hc)
section
variable{X:Cx}{EX:EXT}{e:Expr}{es:List Expr}{pos p:Pos}{as:List Arg}
theorem Cy(he:starEach (e::es) X.env=(false,eval e X.env)::starEach es X.env:=by rfl)(hpl:(backTo pos (starEach es X.env)).any (·.1)=false:=by rfl)(m:X.mg "sorted" = none)(ha:JA X EX (e::es) as)(hg:Gl X "sorted" := by rfl)(hc:X.calm=true:=by rfl):JE X EX (.Call (.Name "sorted" p) (e::es) [] pos) (sOp fB as):=gn (uS hc) zg hg m PyProof.Rows.boot_sorted ha (by decide) (by decide) he hpl
end
end L2
namespace L2
open PySem
section
variable{ρ ρ1 ρ2 ρ3:Rho}{d:D}{nw b:Bool}{f g:SE}{s t:SS}{C:Str}{nms:List Str}{i:Nat}
theorem r_dnew:vw d ρ=some (.ok d true,ρ):=rfl
end
abbrev nD(l:List Int):List D:=l.map D.int
abbrev bD(l:List Bool):List D:=l.map D.bl
abbrev AX(t:Int×Int):D:= .tup [.int t.1,.int t.2]
abbrev tD(ts:List (Int×Int)):List D:=ts.map AX
abbrev a7(n:Int)(ts:List (Int×Int)):D:= .tup [.int n,.tup (tD ts)]
def rgI(lo:Int)(n:Nat):List Int:=(List.range n).map fun k=>lo+(k:Nat)
theorem aq(lo:Int)(n:Nat):(rgI lo n).length=n:=by unfold rgI;simp
theorem az{lo:Int}{n:Nat}{x:Int}:x∈rgI lo n↔lo<=x/\x < lo+n:=by
 unfold rgI;rw [DP]
 constructor
 ·rintro ⟨k,hk,rfl⟩
  have:=EA.mp hk;omega
 ·rintro ⟨a,b⟩
  exact ⟨(x - lo).toNat,EA.mpr (by omega),by omega⟩
theorem Bj{lo:Int}{n i:Nat}{x:Int}(h:(rgI lo n)[i]?=some x):i < n/\x=lo+i:=by
 unfold rgI at h;rw [DL] at h;obtain ⟨k,hk,rfl⟩:=El.mp h;obtain ⟨a,b⟩:=DG.mp hk;simp at a b;subst b;exact ⟨a,rfl⟩
theorem rgI_at{lo:Int}{n i:Nat}(h:i < n):(rgI lo n)[i]?=some (lo+(i:Nat)):=by
 unfold rgI;rw [DL,List.getElem?_range h];rfl
theorem bL(lo:Int)(n:Nat):rgI lo (n+1)=rgI lo n++[lo+(n:Nat)]:=by unfold rgI;rw [List.range_succ,Ev];rfl
theorem jA(lo:Int)(n:Nat):rgI lo (n+1)=lo::rgI (lo+1) n:=by
 unfold rgI;rw [List.range_succ_eq_map,DJ,Ed]
 congr 1
 ·simp
 ·refine DU fun k _=> ?_
  show lo+((k+1:Nat):Int)=lo+1+(k:Nat)
  omega
theorem pZ(lo:Int)(n:Nat):gK lo n=nD (rgI lo n):=by unfold gK rgI;rw [nD,Ed];rfl
theorem pj{α:Type}{inj:α->D}:∀ (xs:List α) (k:Nat),g7 k (xs.map inj)=(xs.zipIdx k).map fun p=> .tup [.int (p.2:Nat),inj p.1]
 | [],_=>rfl
 | x::xs,k=>by rw [DJ,List.zipIdx_cons,DJ];show _::g7 (k+1) _=_;rw [pj xs (k+1)]
section
variable{ρ ρ1 ρ2 ρ3 ρ4:Rho}{d y:D}{ds ys:List D}{nw b:Bool}{f g:SE}{p:ST}{s:SS}{T:Tg}{k:Nat}
theorem lS{x:Arg}{j:Int}(h:evA [x] ρ=some (.ok [.int j],ρ1))(h1 : -1000000<=j)(h2:j<=1000000):bE x ρ=some (.ok (nD (rgI 0 j.toNat)),ρ1):=by rw [r_rng1 h (zl (by omega) (by omega) h1 h2 (by omega)),pZ]
theorem Bm{x:Arg}{n:Nat}(h:evA [x] ρ=some (.ok [.int (n:Nat)],ρ1))(h2:n<=1000000):bE x ρ=some (.ok (nD (rgI 0 n)),ρ1):=by rw [lS h (by omega) (by omega),EM]
theorem Bl{x z:Arg}{i j:Int}(h:evA [x,z] ρ=some (.ok [.int i,.int j],ρ1))(h0 : -1000000<=i)(h0':i<=1000000)(h1 : -1000000<=j)(h2:j<=1000000)(h3:j - i<=1000000):fM x z ρ=some (.ok (nD (rgI i (j - i).toNat)),ρ1):=by rw [r_rng2 h (zl h0 h0' h1 h2 h3),pZ]
theorem Bq{α:Type}{inj:α->D}{xs:List α}(h:f ρ=some (.ok d nw,ρ1))(hs:bT d=some (xs.map inj)):e8 f ρ=some (.ok (xs.zipIdx.map fun p=> .tup [.int (p.2:Nat),inj p.1]),ρ1):=by
 rw [r_enum h hs,pj]
theorem r_ieI{x z:Int}(h:p ρ=some (.ok b,ρ1))(h1:f ρ1=some (.ok (.int x) false,ρ1))(h2:g ρ1=some (.ok (.int z) false,ρ1)):sIf p f g ρ=some (.ok (.int (if b=true then x else z)) false,ρ1):=by
 unfold sIf;rw [h]
 cases b with
 | true=>exact h1
 | false=>exact h2
theorem Br{e:Option ST}:bx k T e f [] ρ=some ([],ρ):=rfl
theorem vA(h1:bw T d (ρ++List.replicate k none)=some ρ1)(h2:f ρ1=some (.ok y nw,ρ2))(h3:ρ2.take ρ.length=ρ3)(h4:bx k T none f ds ρ3=some (ys,ρ4)):bx k T none f (d::ds) ρ=some (y::ys,ρ4):=by
 subst h3;unfold bx;simp only [h1,evC,h2,h4]
theorem jB{r:Option (Out×Rho)}(h1:bw T d ρ=some ρ1)(h2:s ρ1=some (.nx,ρ2))(h3:bK T s ds ρ2=r):bK T s (d::ds) ρ=r:=by
 unfold bK;simp only [h1,h2];exact h3
end
section
variable{α:Type}{k:Nat}{T:Tg}{f:SE}{c:ST}{ρ:Rho}{inj:α->D}{q:α->Bool}
theorem iV{g:α->Int}(xs:List α)(h:∀ x∈xs,∃ ρ1 ρ3 nw,bw T (inj x) (ρ++List.replicate k none)=some ρ1/\f ρ1=some (.ok (.int (g x)) nw,ρ3)/\ρ3.take ρ.length=ρ):bx k T none f (xs.map inj) ρ=some (nD (xs.map g),ρ):=by
 rw [fN (g:=fun x=>D.int (g x)) xs h,nD,Ed];rfl
theorem ud{g:α->Bool}(xs:List α)(h:∀ x∈xs,∃ ρ1 ρ3 nw,bw T (inj x) (ρ++List.replicate k none)=some ρ1/\f ρ1=some (.ok (.bl (g x)) nw,ρ3)/\ρ3.take ρ.length=ρ):bx k T none f (xs.map inj) ρ=some (bD (xs.map g),ρ):=by
 rw [fN (g:=fun x=>D.bl (g x)) xs h,bD,Ed];rfl
theorem uc{g1 g2:α->Int}(xs:List α)(h:∀ x∈xs,∃ ρ1 ρ3 nw,bw T (inj x) (ρ++List.replicate k none)=some ρ1/\f ρ1=some (.ok (.tup [.int (g1 x),.int (g2 x)]) nw,ρ3)/\ρ3.take ρ.length=ρ):bx k T none f (xs.map inj) ρ=some (tD (xs.map fun x=>(g1 x,g2 x)),ρ):=by
 rw [fN (g:=fun x=> .tup [.int (g1 x),.int (g2 x)]) xs h,tD,Ed];rfl
theorem mC{I:Rho->Prop}{P:D->Prop}:∀ (ds:List D) (ρ:Rho),I ρ->(∀ d∈ds,∀ ρ,I ρ->∃ ρ1 ρ2 y nw,bw T d (ρ++List.replicate k none)=some ρ1/\f ρ1=some (.ok y nw,ρ2)/\P y/\I (ρ2.take ρ.length))->∃ ys ρ',bx k T none f ds ρ=some (ys,ρ')/\I ρ'/\ys.length=ds.length/\∀ y∈ys,P y
 | [],ρ,hI,_=>⟨[],ρ,rfl,hI,rfl,fun _ h=>absurd h Et⟩
 | d::ds,ρ,hI,h=>by
  obtain ⟨ρ1,ρ2,y,nw,e1,e2,hP,hI2⟩:=h d DC ρ hI
  obtain ⟨ys,ρ',e3,hI3,hl,hA⟩:=mC ds _ hI2 fun d hd=>h d (Dv _ hd)
  exact ⟨y::ys,ρ',vA e1 e2 rfl e3,hI3,by rw [Dq,Dq,hl],fun z hz=>by
   rcases Dx.mp hz with rfl | hz
   ·exact hP
   ·exact hA z hz⟩
end
def wl(o:Option (Out×Rho))(Q:Rho->Prop):Prop:=∃ ρ',o=some (.nx,ρ')/\Q ρ'
theorem ex_seq{s t:SS}{ρ ρ1:Rho}{Q:Rho->Prop}(h1:s ρ=some (.nx,ρ1))(h2:wl (t ρ1) Q):wl (ag s t ρ) Q:=by obtain ⟨ρ',e,q⟩:=h2;exact ⟨ρ',yy h1 e,q⟩
theorem ex_one{s:SS}{ρ ρ1:Rho}{Q:Rho->Prop}(h1:s ρ=some (.nx,ρ1))(h2:Q ρ1):wl (s ρ) Q:=⟨ρ1,h1,h2⟩
theorem elA_mk{k:Nat}{T:Tg}{f:SE}{ρ ρ1 ρ2:Rho}{d y:D}{nw:Bool}{P:D->Prop}{J:Rho->Prop}(h1:bw T d (ρ++List.replicate k none)=some ρ1)(h2:f ρ1=some (.ok y nw,ρ2))(h3:P y)(h4:J ρ2):∃ ρ1 ρ2 y nw,bw T d (ρ++List.replicate k none)=some ρ1/\f ρ1=some (.ok y nw,ρ2)/\P y/\J ρ2:=⟨ρ1,ρ2,y,nw,h1,h2,h3,h4⟩
section
variable{α σ:Type}{T:Tg}{f:SS}{inj:α->D}
theorem kS(R:σ->Rho->Prop)(step:σ->α->σ):∀ (xs:List α) (s:σ) (ρ:Rho),R s ρ->(∀ x∈xs,∀ s ρ,R s ρ->∃ ρ1 ρ2,bw T (inj x) ρ=some ρ1/\f ρ1=some (.nx,ρ2)/\R (step s x) ρ2)->∃ ρ',bK T f (xs.map inj) ρ=some (.nx,ρ')/\R (xs.foldl step s) ρ'
 | [],s,ρ,h,_=>⟨ρ,rfl,h⟩
 | x::xs,s,ρ,h,hs=>by
  obtain ⟨ρ1,ρ2,e1,e2,h2⟩:=hs x DC s ρ h
  obtain ⟨ρ',e3,h3⟩:=kS R step xs _ ρ2 h2 fun x hx=>hs x (Dv _ hx)
  exact ⟨ρ',jB e1 e2 e3,h3⟩
theorem wA{lo:Int}(I:Nat->Rho->Prop)(n:Nat)(ρ:Rho)(h0:I 0 ρ)(hs:∀ i,i < n->∀ ρ,I i ρ->∃ ρ1 ρ2,bw T (.int (lo+(i:Nat))) ρ=some ρ1/\f ρ1=some (.nx,ρ2)/\I (i+1) ρ2):∃ ρ',bK T f (nD (rgI lo n)) ρ=some (.nx,ρ')/\I n ρ':=by
 obtain ⟨ρ',e,h⟩:=oW (T:=T) (f:=f) I (nD (rgI lo n)) 0 ρ h0 fun i d ρ hd hI=>by
  rw [nD,DL] at hd;obtain ⟨x,hx,rfl⟩:=El.mp hd;obtain ⟨h1,rfl⟩:=Bj hx;rw [Ew] at hI ⊢;exact hs i h1 ρ hI
 rw [Dp,aq,Ew] at h;exact ⟨ρ',e,h⟩
theorem eG(I:Nat->Rho->Prop)(n:Nat)(ρ:Rho)(h0:I 0 ρ)(hs:∀ i,i < n->∀ ρ,I i ρ->∃ ρ1 ρ2,bw T (.int (i:Nat)) ρ=some ρ1/\f ρ1=some (.nx,ρ2)/\I (i+1) ρ2):∃ ρ',bK T f (nD (rgI 0 n)) ρ=some (.nx,ρ')/\I n ρ' :=
 wA I n ρ h0 fun i hi ρ hI=>by rw [Int.zero_add];exact hs i hi ρ hI
theorem kR(R:Nat->σ->Rho->Prop)(step:σ->α->σ):∀ (xs:List α) (n:Nat) (s:σ) (ρ:Rho),R n s ρ->(∀ i x,xs[i]?=some x->∀ s ρ,R (n+i) s ρ->∃ ρ1 ρ2,bw T (inj x) ρ=some ρ1/\f ρ1=some (.nx,ρ2)/\R (n+i+1) (step s x) ρ2)->∃ ρ',bK T f (xs.map inj) ρ=some (.nx,ρ')/\R (n+xs.length) (xs.foldl step s) ρ'
 | [],n,s,ρ,h,_=>⟨ρ,rfl,h⟩
 | x::xs,n,s,ρ,h,hs=>by
  obtain ⟨ρ1,ρ2,e1,e2,h2⟩:=hs 0 x rfl s ρ h
  obtain ⟨ρ',e3,h3⟩:=kR R step xs (n+1) _ ρ2 h2 fun i x hx s ρ hR=>by
   have:=hs (i+1) x (by simpa using hx) s ρ (by rw [show n+(i+1)=n+1+i by omega];exact hR);rw [show n+(i+1)+1=n+1+i+1 by omega] at this;exact this
  refine ⟨ρ',jB e1 e2 e3,?_⟩;rw [Dq,show n+(xs.length+1)=n+1+xs.length by omega];exact h3
end
section
variable{α:Type}{inj:α->D}{xs ys:List α}{ns ms:List Int}{i a b:Int}
theorem xj:bi [.lst (xs.map inj)]=some (.int (xs.length:Nat),false):=by show some (D.int ((xs.map inj).length:Nat),false)=_;rw [Dp]
theorem eh:bi [.tup (xs.map inj)]=some (.int (xs.length:Nat),false):=by show some (D.int ((xs.map inj).length:Nat),false)=_;rw [Dp]
theorem cq(h0:0<=i)(h1:i < ns.length):gIx [.tup (nD ns),.int i]=some (.int (ns.getD i.toNat 0),false):=qA (tS h0 h1)
theorem sQ(h0:0<=i)(h1:i < ns.length):gIx [.lst (nD ns),.int i]=some (.int (ns.getD i.toNat 0),false):=gb (tS h0 h1)
theorem pc:qy [.tup (nD ns)]=some (.int ns.sum,false):=by unfold qy;simp only [cz]
theorem uF(h:ns≠[]):eN [.lst (nD ns)]=some (.int (fP ns),false):=xi ns h
theorem nF(h:ns≠[]):eM [.lst (nD ns)]=some (.int (eU ns),false):=xh ns h
theorem Cd:eN [.int a,.int b]=some (.int (max a b),false):=by
 show some (D.int (if b > a then b else a),false)=_
 congr 3
 rw [Int.max_def]
 split<;>split<;>omega
theorem Cb:eM [.int a,.int b]=some (.int (min a b),false):=by
 show some (D.int (if b < a then b else a),false)=_
 congr 3
 rw [Int.min_def]
 split<;>split<;>omega
theorem Cf:zZ [.int a]=some (.int (a.natAbs:Nat),false):=by
 show some (D.int (if a < 0 then -a else a),false)=_
 congr 3
 split<;>omega
theorem yq(h : -1000000<=a)(h2:b<=1000000)(h3:a<=1000000)(h4 : -1000000<=b)(h5:b - a<=1000):rC a b=true:=by
 unfold rC
 refine Dy ⟨?_,?_,?_,?_,?_⟩<;>omega
theorem pd(h : -1000000<=a)(h2:b<=1000000)(h3:a<=1000000)(h4 : -1000000<=b)(h5:b - a<=1000):fC [.rng a b]=some (.lst (nD (rgI a (b - a).toNat)),true):=by
 show (if rC a b=true then some (D.lst (gK a (b - a).toNat),true) else none)=_
 rw [if_pos (yq h h2 h3 h4 h5),pZ]
theorem uH{n:Nat}(h:n<=1000):fC [.rng 0 (n:Nat)]=some (.lst (nD (rgI 0 n)),true):=by rw [pd (by omega) (by omega) (by omega) (by omega) (by omega),show ((n:Int) - 0).toNat=n by omega]
theorem uG{n:Nat}(h:n<=1000):fC [.rng 1 ((n:Nat)+1)]=some (.lst (nD (rgI 1 n)),true):=by rw [pd (by omega) (by omega) (by omega) (by omega) (by omega),show ((n:Int)+1 - 1).toNat=n by omega]
theorem kY(h:ns.length < 64):fB [.lst (nD ns)]=some (.lst (nD (fg ns)),true):=by
 have:ie [.lst (nD ns)]=some (.lst (nD (fg ns)),true):=by unfold ie;simp only [cz,h,decide_true,if_true]
 show nB _=_
 unfold nB;rw [this]
noncomputable def a9(ts:List (Int×Int)):List (Int×Int):=(Srt.gR (ts.map fun t=>[t.1,t.2])).map fun k=>(k.getD 0 0,k.getD 1 0)
theorem bI(ts:List (Int×Int)):(a9 ts).Perm ts:=by
 unfold a9;refine ((Srt.bX _).map _).trans ?_;rw [Ed];refine Fk ?_;exact (DU (fun t _=>rfl)).trans (List.map_id' _)
theorem ul(ts:List (Int×Int)):(a9 ts).map (fun t=>[t.1,t.2])=Srt.gR (ts.map fun t=>[t.1,t.2]):=by
 unfold a9;rw [Ed];refine (DU fun k hk=> ?_).trans (List.map_id' _);obtain ⟨t,_,rfl⟩:=DP.mp ((Srt.bX _).mem_iff.mp hk);rfl
theorem tD_tup(ts:List (Int×Int)):tD ts=(ts.map fun t=>[t.1,t.2]).map tZ:=by rw [tD,Ed];rfl
theorem tf:∀ (a b:List Int),gh (a.map D.int) (b.map D.int)=decide (a=b)
 | [],[]=>rfl
 | [],_::_=>rfl
 | _::_,[]=>rfl
 | x::a,y::b=>by
  show ((x == y)&&gh (a.map D.int) (b.map D.int))=_
  rw [tf a b,Bool.eq_iff_iff];simp
theorem m7:∀ (a:List Int),cn (a.map D.int)=a.map D.int
 | []=>rfl
 | x::a=>by show nrm (.int x)::cn (a.map D.int)=_;rw [m7 a];rfl
theorem eR(n:Nat):∀ (a:List Int),(a.map D.int).all (af n)=true
 | []=>rfl
 | x::a=>by rw [DJ,List.all_cons,eR n a];unfold af;rfl
theorem sY(n:Nat)(a:List Int):af (n+1) (.tup (nD a))=true:=by unfold af;exact eR n a
theorem k6(n:Nat)(a:List Int):af (n+1) (.lst (nD a))=true:=by unfold af;exact eR n a
theorem tj(a b:List Int):eqD (.lst (nD a)) (.lst (nD b))=decide (a=b):=by unfold eqD nrm;rw [m7,m7];show gh _ _=_;exact tf a b
theorem sR:gEq [.lst (nD ns),.lst (nD ms)]=some (.bl (decide (ns=ms)),false):=by unfold gEq;simp only [k6,Bool.and_self,if_true,tj]
theorem zS:gNe [.lst (nD ns),.lst (nD ms)]=some (.bl (!decide (ns=ms)),false):=by unfold gNe;simp only [k6,Bool.and_self,if_true,tj]
theorem ig(h:xs.length+ys.length<=1000):aM [.lst (xs.map inj),.lst (ys.map inj)]=some (.lst ((xs++ys).map inj),true):=by
 unfold aM;simp only [fG (show (xs.map inj).length+(ys.map inj).length<=1000 by rw [Dp,Dp];exact h),if_true,Ev]
theorem uI(h:ns.length<=999):aM [.lst [.int a],.lst (nD ns)]=some (.lst (nD (a::ns)),true):=ig (inj:=D.int) (xs:=[a]) (ys:=ns) (by simp;omega)
theorem xk{ts:List (Int×Int)}(h:ts.length<=999):aM [.lst (tD ts),.lst [.tup [.int a,.int b]]]=some (.lst (tD (ts++[(a,b)])),true):=ig (inj:=AX) (xs:=ts) (ys:=[(a,b)]) (by simp;omega)
theorem xX(h:ns.length<=1000):eV (.lst (nD ns)) [.int a]=some (.lst (nD (ns++[a])),.non):=by
 show (if small (nD ns).length=true then some (D.lst (nD ns++[.int a]),D.non) else none)=_
 rw [if_pos (fG (by rw [Dp];exact h)),nD,nD,Ev];rfl
theorem gC(h:xs.length+ys.length<=1000):bG (.lst (xs.map inj)) [.lst (ys.map inj)]=some (.lst ((xs++ys).map inj),.non):=by
 show (if small ((xs.map inj).length+(ys.map inj).length)=true then some (D.lst (xs.map inj++ys.map inj),D.non) else none)=_
 rw [if_pos (fG (by rw [Dp,Dp];exact h)),Ev]
theorem CF(h0:0<=i)(h1:i < ns.length):gs (.lst (nD ns)) (.int i) (.int a)=some (.lst (nD (ns.set i.toNat a))):=by
 obtain ⟨k,rfl⟩:∃ k:Nat,i=k:=⟨i.toNat,by omega⟩
 show (match ixN (nD ns).length (k:Int) with | some n=>some (D.lst ((nD ns).set n (.int a))) | none=>none)=_
 rw [vU (by rw [Dp];omega)];simp [nD,List.map_set]
theorem oK:jn (.tup (xs.map inj))=some (!xs.isEmpty):=by cases xs<;>rfl
theorem gMul_l(h1 : -(2 ^ 64) < a)(h2:a < 2 ^ 64):cA [.int a,.int b]=some (.int (a * b),false):=by
 show (if gO a b=true then some (D.int (a * b),false) else none)=_
 rw [if_pos (e9 h1 h2)]
theorem rG(d:D):∀ n,repL n [d]=List.replicate n d
 | 0=>rfl
 | n+1=>by
  have:=rG d n;unfold repL at this ⊢;rw [ED,E5,this];rfl
theorem sP(h1 : -1000000<=b)(h2:b<=1000000):cA [.lst [.int a],.int b]=some (.lst (nD (List.replicate b.toNat a)),true):=by
 show (if (decide (-1000000<=b/\b<=1000000)&&small ([D.int a].length * b.toNat))=true then some (D.lst (repL b.toNat [.int a]),true) else none)=_
 have:small ([D.int a].length * b.toNat)=true:=Dy (by simp;omega);rw [if_pos (by rw [this,Dy ⟨h1,h2⟩];rfl),rG,nD,List.map_replicate]
end
noncomputable def tE(xs:List Int)(lo hi:Option Int):List Int:=(xs.drop (HT.sIx xs.length 0 lo)).take (HT.sIx xs.length xs.length hi - HT.sIx xs.length 0 lo)
theorem cut_nD(ns:List Int)(lo hi:Option Int):kC (nD ns) lo hi=nD (tE ns lo hi):=by
 unfold kC tE;rw [Dp,nD,nD,List.map_take,List.map_drop]
theorem ub{n d:Nat}{i:Int}(h:0<=i):HT.sIx n d (some i)<=i.toNat:=by
 unfold HT.sIx;simp
 split<;>omega
theorem Cm{ns:List Int}{lo:Option Int}{j:Int}(h:0<=j):(tE ns lo (some j)).length<=j.toNat:=by
 unfold tE;rw [EY];have:=ub (n:=ns.length) (d:=ns.length) h;omega
theorem sN{ns:List Int}{i j:Int}:B8 i j [.klst (nD ns)]=some (.lst (nD (tE ns (some i) (some j))),true):=by
 show some (D.lst (kC (nD ns) _ _),true)=_
 rw [cut_nD]
theorem uJ{ns:List Int}{a i j:Int}(h:0<=j)(h2:j < 100):aM [.lst [.int a],.lst (nD (tE ns (some i) (some j)))]=some (.lst (nD (a::tE ns (some i) (some j))),true):=uI (by have:=Cm (ns:=ns) (lo:=some i) h;omega)
structure Pn where
 a:Int
 f:Int
 s:Int
abbrev pD(P:Pn):D:=wH P.a P.f P.s
theorem lX(P:Pn)(m:Int):∃ q:Int×Pn,(0 < m->m < 1073741824->aO [pD P,.int m]=some (.ok (.int q.1) false,pD q.2))/\(0 < m->m < 1073741824->0<=q.1/\q.1 < m):=by
 by_cases h:0 < m/\m < 1073741824
 ·obtain ⟨r,a,f,s,e,h1,h2⟩:=Ai P.a P.f P.s m h.1 h.2
  exact ⟨(r,⟨a,f,s⟩),fun _ _=>e,fun _ _=>⟨h1,h2⟩⟩
 ·exact ⟨(0,P),fun a b=>absurd ⟨a,b⟩ h,fun a b=>absurd ⟨a,b⟩ h⟩
noncomputable def dr(P:Pn)(m:Int):Int:=(Classical.choose (lX P m)).1
noncomputable def nx(P:Pn)(m:Int):Pn:=(Classical.choose (lX P m)).2
theorem tDraw{P:Pn}{m:Int}(h:0 < m)(h2:m < 1073741824):aO [pD P,.int m]=some (.ok (.int (dr P m)) false,pD (nx P m)):=(Classical.choose_spec (lX P m)).1 h h2
theorem pp(P:Pn){m:Int}(h:0 < m)(h2:m < 1073741824):0<=dr P m/\dr P m < m:=(Classical.choose_spec (lX P m)).2 h h2
theorem yT(c:Int):∃ P:Pn,bQ [.int c]=some (.ok (pD P) true,.non):=by
 obtain ⟨a,f,s,e⟩:=Cj c;exact ⟨⟨a,f,s⟩,e⟩
noncomputable def pen0(c:Int):Pn:=Classical.choose (yT c)
theorem tPen{c:Int}:bQ [.int c]=some (.ok (pD (pen0 c)) true,.non):=Classical.choose_spec (yT c)
noncomputable def Au(ns:List Int)(k:Nat):Int:=Classical.choose (sW ns k)
theorem tCell{ns:List Int}{k:Nat}:bh [.klst (nD ns),.int k]=some (.ok (.int (Au ns k)) false,.non):=Classical.choose_spec (sW ns k)
theorem tCell0{ns:List Int}:bh [.klst (nD ns),.int 0]=some (.ok (.int (Au ns 0)) false,.non):=tCell (k:=0)
end L2
namespace L2
open PySem PySem.Spec PyProof.Rows
section
variable{K:F2}{F:Fx}{σ:St}{H H1 H2:Hp}{ρ:Rho}{W:List Addr}{p:Addr}
end
section
variable{X:Cx}{EX:EXT}{e:Expr}{es:List Expr}{as:List Arg}
end
def constK:Key->Const
 | .inl i=> .int i
 | .inr x=> .str x
inductive JP(X:Cx)(EX:EXT)(pos:Pos):List (Option Expr)->List Expr->List Key->List SE->Prop where
 | nil:JP X EX pos [] [] [] []
 | cons {k:Key} {j:Nat} {p:Pos} {e:Expr} {f:SE} {es:List (Option Expr)} {vs:List Expr} {ks:List Key} {fs:List SE} (h:JE X EX e f) (t:JP X EX pos es vs ks fs):JP X EX pos (some (.Constant (constK k) j p)::es) (e::vs) (k::ks) (f::fs)
noncomputable def prT(K:F2)(EX:EXT):List Key->List SE->List (TE×TE)
 | k::ks,f::fs=>(tC (kV k),tV K EX f)::prT K EX ks fs
 | _,_=>[]
noncomputable def FzM(P:Program)(w:World)(K:F2)(a:Addr)(kvs:List (Key×V)):Prop :=
 (a == sysModules)=false/\∃ (o:Obj) (es:Array DictEntry) (ep:Nat) (vs:List (Key×Value)),K.lookup a=some o/\o.ExactDict/\o.data = .dict es ep /\
   KeysOf (aW P w) es/\Pairs (aW P w) es.toList vs/\(vs.map (·.1)).Nodup/\KV kvs vs
structure wk(w:World)(K:F2)(mg:Str->Option Value)(n:Str)(ks:List Key)(ds:List D):Prop where
 ex:∃ a xs,mg n=some (.ref a)/\ks.length=xs.length/\(∀ P,FzM P w K a (ks.zip xs))/\∀ H,ah K H ds xs
noncomputable def pe(ks:List Key)(ds:List D):List D->Option (D×Bool)
 | [d]=>match gw d with
  | some k=>match bN ks ds k with
   | some d=>some (d,false)
   | none=>none
  | none=>none
 | _=>none
noncomputable def Ce(ks:List Key)(ds:List D)(neg:Bool):List D->Option (D×Bool)
 | [d]=>match gw d with
  | some k=>some (.bl (if neg then !(bN ks ds k).isSome else (bN ks ds k).isSome),false)
  | none=>none
 | _=>none
section
variable{X:Cx}{EX:EXT}{i:Expr}{pos p:Pos}{y:Arg}{n:Str}{ks:List Key}{ds:List D}
theorem FzM.dict{pins:List (Addr×Obj)}{σ:St}{H:Hp}{s:Shared}{a:Addr}{kvs:List (Key×V)}(h:FzM X.prog X.w X.K a kvs)(I:Inv X pins σ H s):∃ vs,KV kvs vs/\s.heap.DictOf (aW X.prog X.w) a vs:=by
 obtain ⟨_,ob,es,ep,vs,h1,h2,h3,h4,h5,h6,h7⟩:=h;exact ⟨vs,h7,ob,es,ep,I.kIn a ob h1,h2,h3,h4,h5,h6⟩
noncomputable def tMGet(X:Cx)(td ty:TE):TE:=fun σ H Q=>td σ H fun x H1=>ty σ H1 fun y H2=>∃ a kvs k v,x = .ref a/\y=kV k/\FzM X.prog X.w X.K a kvs/\eA kvs k=some v/\Q v H2
noncomputable def tMIn(X:Cx)(neg:Bool)(ty td:TE):TE:=fun σ H Q=>ty σ H fun y H1=>td σ H1 fun x H2=>∃ a kvs k,x = .ref a/\y=kV k/\FzM X.prog X.w X.K a kvs/\Q (.bl (if neg then !(eA kvs k).isSome else (eA kvs k).isSome)) H2
theorem BG{o:Expr}{td ty:TE}(ho:PE X o td)(hi:PE X i ty)(hs:NoSl i):PE X (.Subscript o i pos) (tMGet X td ty):=by
 intro pins s σ H Q I h;refine A8 PySem.F.slot_dict_getitem.lookup hs (thn (ho pins s σ H _ I h) fun u s1 ⟨x,H1,I1,rx,q1⟩=>thn (hi pins s1 σ H1 _ I1 q1) fun iv s2 ⟨y,H2,I2,ry,a,kvs,j,v,ex,ey,g,e,q2⟩=> ?_);subst ex;subst ey;obtain rfl:u=Value.ref a:=rx;obtain ⟨vs,rel,dd⟩:=g.dict I2;obtain ⟨w',hw,rw'⟩:=qP.some_of (v:=v) (o:=valueAt vs j) (by rw [<- e];exact rel.val j);exact ⟨dd.typeIs,wpAny_getItem_of (o8 ry) dd.mapOf hw ⟨v,H2,I2.tok _,rw',q2⟩⟩
theorem pc_min{neg:Bool}{o:Expr}{td ty:TE}(hi:PE X i ty)(ho:PE X o td):PC X (if neg then .NotIn else .In) i o (tMIn X neg ty td):=by
 intro pins s σ H Q I h
 refine thn (hi pins s σ H _ I h) fun iv s1 ⟨y,H1,I1,ry,q1⟩=>thn (ho pins s1 σ H1 _ I1 q1) fun u s2 ⟨x,H2,I2,rx,a,kvs,k,ex,ey,g,q2⟩=> ?_
 subst ex;subst ey;obtain rfl:u=Value.ref a:=rx;obtain ⟨vs,rel,dd⟩:=g.dict I2
 cases neg with
 | false =>
  refine wpAny_in_of (o8 ry) g.1 dd.mapOf ⟨.bl (eA kvs k).isSome,H2,I2.tok _,?_,q2⟩;rw [(rel.val k).isSome_eq];rfl
 | true =>
  refine wpAny_notIn_of (o8 ry) g.1 dd.mapOf ⟨.bl (!(eA kvs k).isSome),H2,I2.tok _,?_,q2⟩;rw [(rel.val k).isSome_eq];rfl
theorem nk{K:F2}{H Hh:Hp}{d:D}{v:V}{k:Key}(e:gw d=some k)(r:gr K H Hh d v):v=kV k:=by
 cases d<;>first | (unfold gw at e;cases e;done) | (unfold gw at e;cases e;exact r)
theorem c_kget(M:wk X.w X.K X.mg n ks ds)(hg:Gl X n)(hi:JB X EX i y)(hd:(n == ("__debug__" : Str))=false:=by decide)(hs:NoSl i:=by exact fun _ _=>rfl):JE X EX (.Subscript (.Name n p) i pos) (sOp (pe ks ds) [y]):=by
 obtain ⟨a,xs,hm,hl,fz,rep⟩:=M.ex;refine ⟨(BG (lV (v:= .ref a) hg hm rfl hd) hi.p hs).by fun σ H Q ⟨F,ρ,W,R,h⟩=> ?_⟩
 have os:OpS X.K (r1 fun yv H2 Q=>∃ a' kvs k v,V.ref a = .ref a'/\yv=kV k/\FzM X.prog X.w X.K a' kvs/\eA kvs k=some v/\Q v H2) (pe ks ds):=by
  intro vs ds' H L Q d nw hm r e q;unfold pe at e
  split at e
  ·obtain ⟨v,rfl,rb⟩:=aA r
   split at e
   ·rename_i k ek
    split at e
    ·rename_i d' ed
     cases e;obtain ⟨v',h1,h2⟩:=(fQ (x:=k) hl (rep (hid L H))).1 _ ed;exact ⟨a,_,k,v',rfl,nk ek rb,fz _,h1,q v' H (ac.refl _) h2⟩
    ·cases e
   ·cases e
  ·cases e
 exact cK os R h
theorem B2{neg:Bool}{a:Addr}{xs:List V}(hl:ks.length=xs.length)(fz:∀ P,FzM P X.w X.K a (ks.zip xs))(rep:∀ H,ah X.K H ds xs):OpS X.K (r1 fun yv H2 Q=>∃ a' kvs k,V.ref a = .ref a'/\yv=kV k/\FzM X.prog X.w X.K a' kvs/\Q (.bl (if neg then !(eA kvs k).isSome else (eA kvs k).isSome)) H2) (Ce ks ds neg):=by
 intro vs ds' H L Q d nw hm r e q;unfold Ce at e
 split at e
 ·obtain ⟨v,rfl,rb⟩:=aA r
  split at e
  ·rename_i k ek
   cases e;refine ⟨a,_,k,rfl,nk ek rb,fz _,q _ H (ac.refl _) ?_⟩;have l:=fQ (x:=k) hl (rep (hid L H))
   have e2:(eA (ks.zip xs) k).isSome=(bN ks ds k).isSome:=by
    cases h:bN ks ds k with
    | none=>rw [l.2 h];rfl
    | some d=>obtain ⟨v',h1,_⟩:=l.1 d h;rw [h1];rfl
   show V.bl _ = .bl _
   rw [e2]
  ·cases e
 ·cases e
theorem t_kin{neg:Bool}(M:wk X.w X.K X.mg n ks ds)(hg:Gl X n)(hi:JB X EX i y)(hm2:behindInMarks (if neg then .NotIn else .In) (.Name n p)=false)(hd:(n == ("__debug__" : Str))=false:=by decide):JT X EX (.Compare i [if neg then .NotIn else .In] [.Name n p] pos) (aC (Ce ks ds neg) [y]):=by
 obtain ⟨a,xs,hm,hl,fz,rep⟩:=M.ex;exact ⟨(pt_cmp (pc_min (neg:=neg) hi.p (lV (v:= .ref a) hg hm rfl hd)) hm2).by fun σ H Q ⟨F,ρ,W,R,h⟩=>cK (B2 hl fz rep) R (Dh h)⟩
end
theorem fzM_of{w:World}{K:F2}{a:Addr}{ep:Nat}(xs:List (Str×Tok×Addr))(nd:(a == sysModules)=false)(l:K.lookup a=some ⟨.type "dict",none,.dict (xs.map fun x=>(⟨PyData.keyHash w.params x.1,.str x.1 x.2.1,.ref x.2.2⟩:DictEntry)).toArray ep,#[]⟩)(ndp:(xs.map (·.1)).Nodup):∀ P,FzM P w K a (xs.map fun x=>(Sum.inr x.1,V.ref x.2.2)):=by
 intro P;refine ⟨nd,_,_,ep,xs.map fun x=>(Sum.inr x.1,Value.ref x.2.2),l,⟨rfl,rfl,rfl⟩,rfl,fun e he=> ?_,?_,?_,?_⟩
 ·have he:e∈xs.map fun x=>(⟨PyData.keyHash w.params x.1,.str x.1 x.2.1,.ref x.2.2⟩:DictEntry):=by simpa using he
  obtain ⟨x,_,rfl⟩:=DP.mp he;exact ⟨.inr x.1,fb _ _ x.1 x.2.1,rfl⟩
 ·rw [List.toList_toArray]
  induction xs with
  | nil=>exact .nil
  | cons x xs ih =>
   rw [DJ,DJ];refine .cons (fb _ _ x.1 x.2.1) rfl ?_;clear ih l
   have:∀ ys:List (Str×Tok×Addr),Pairs (aW P w) (ys.map fun x=>(⟨PyData.keyHash w.params x.1,.str x.1 x.2.1,.ref x.2.2⟩:DictEntry)) (ys.map fun x=>(Sum.inr x.1,Value.ref x.2.2)):=by
    intro ys
    induction ys with
    | nil=>exact .nil
    | cons y ys ih=>exact .cons (fb _ _ y.1 y.2.1) rfl ih
   exact this xs
 ·rw [Ed]
  have:(xs.map ((fun x:Key×Value=>x.1) ∘ fun x:Str×Tok×Addr=>((Sum.inr x.1:Key),Value.ref x.2.2)))=(xs.map (·.1)).map Sum.inr:=by rw [Ed];rfl
  rw [this];refine List.Pairwise.map _ (fun a b h z=>h (Sum.inr.inj z)) ndp
 ·clear l ndp
  induction xs with
  | nil=>exact .nil
  | cons x xs ih=>exact .cons ⟨rfl,rfl⟩ ih
theorem r_zipE{ρ ρ1:Rho}{ds a b zs:List D}{fs:List SE}(h:evA (fs.map Arg.ex) ρ=some (.ok ds,ρ1))(hs:yl ds=some (a,b))(hl:a.length<=b.length)(hz:kd a b=zs):lF fs ρ=some (.ok zs,ρ1):=by rw [r_zip h hs hl,hz]
def vf(o:Option (Out×Rho))(Q:D->Bool->Rho->Prop):Prop:=∃ d nw ρ',o=some (.rt d nw,ρ')/\Q d nw ρ'
section
variable{s t:SS}{p:ST}{ρ ρ1:Rho}{Q:D->Bool->Rho->Prop}{b:Bool}
theorem yo(h1:s ρ=some (.nx,ρ1))(h2:vf (t ρ1) Q):vf (ag s t ρ) Q:=by obtain ⟨d,nw,ρ',e,q⟩:=h2;exact ⟨d,nw,ρ',yy h1 e,q⟩
theorem rq_ret{d:D}{nw:Bool}(h:s ρ=some (.rt d nw,ρ1))(q:Q d nw ρ1):vf (s ρ) Q:=⟨d,nw,ρ1,h,q⟩
theorem ue{j n:Nat}{it:SI}{ds:List D}{T:Tg}{f:SE}(I:Rho->Prop)(P:D->Prop)(hit:it ρ=some (.ok ds,ρ1))(hg:Tg.ge ρ1.length T=true)(hI:I ρ1)
 (hs:∀ d∈ds,∀ ρ,I ρ->∃ ρ1 ρ2 y nw,bw T d (ρ++List.replicate n none)=some ρ1/\f ρ1=some (.ok y nw,ρ2)/\P y/\I (ρ2.take ρ.length))
 (go:∀ ys ρ',I ρ'->ys.length=ds.length->(∀ y∈ys,P y)->∃ x,ρ'[j]?=some x/\vf (s (ρ'.set j (some (.lst ys,.ow)))) Q):vf (ag (aD j (aJ n it T none f)) s ρ) Q:=by
 obtain ⟨ys,ρ',e,h1,h2,h3⟩:=mC (k:=n) (T:=T) (f:=f) (I:=I) (P:=P) ds ρ1 hI hs;obtain ⟨x,hx,hr⟩:=go ys ρ' h1 h2 h3;exact yo (CS (mF hit hg e) hx rfl) hr
end
theorem r_b1{ρ:Rho}{i:Nat}{d:D}{m:Md}(h:ρ[i]?=some (some (d,m))):evA [.bor i] ρ=some (.ok [d],ρ):=yC h yz h
section
variable{X:Cx}{EX:EXT}{a b:Expr}{x y:Arg}{pos:Pos}{K:F2}
end
section
variable{P:Program}{w:World}{K:F2}{mg:Str->Option Value}{base:Heap}{x:Str}{st:Stmt}{N ps:List Str}{k:Nat}{io:Option Nat}{body:SS}
theorem B6{f:Addr}{cdv:Value}{A:Around}{outer:List Env}{s:Shared}{H:Hp}{E:XK}{c:Nat}(h:c<=10)(hr:cV k (A.deeper (envOfC x (aa st) s.heap.objs.size f cdv))):(bZ (CXr P w) P w K mg base N x (aa st) f cdv A outer s H E).A.units+c < cLine:=by
 have:=hr.units
 show (A.deeper _).units+c < cLine
 omega
theorem ar(h:Has K mg x st ps)(S:cW N ps (aa st))
 (hb:∀ (f:Addr) (cdv:Value) (A:Around) (outer:List Env) (s:Shared) (H:Hp) (E:XK),cV k (A.deeper (envOfC x (aa st) s.heap.objs.size f cdv))->N.Nodup ->
   (bZ (CXr P w) P w K mg base N x (aa st) f cdv A outer s H E).A.units+10 < cLine->(bZ (CXr P w) P w K mg base N x (aa st) f cdv A outer s H E).A.units+1 < cLine ->
   JSs (bZ (CXr P w) P w K mg base N x (aa st) f cdv A outer s H E) (EXf K E) (aY st) body) (hps:ps.length<=N.length:=by decide):OkX P w K mg base x ps (k+1) (spF K io (ak ps.length N.length io body)) :=
 fn_ok h S (fun f cdv A outer s H E hr=>hb f cdv A outer s H E hr S.nd (B6 (by decide) hr) (B6 (by decide) hr)) hps
theorem fn_okV{f0:Addr}{fd0:FuncData}(h:Fun K x x st f0 fd0)(S:cW N ps (aa st))
 (hb:∀ (f:Addr) (cdv:Value) (A:Around) (outer:List Env) (s:Shared) (H:Hp) (E:XK),cV k (A.deeper (envOfC x (aa st) s.heap.objs.size f cdv))->N.Nodup ->
   (bZ (CXr P w) P w K mg base N x (aa st) f cdv A outer s H E).A.units+10 < cLine->(bZ (CXr P w) P w K mg base N x (aa st) f cdv A outer s H E).A.units+1 < cLine ->
   JSs (bZ (CXr P w) P w K mg base N x (aa st) f cdv A outer s H E) (EXf K E) (aY st) body) (hps:ps.length<=N.length:=by decide):kF P w K mg base (CXr P w) (k+1) f0 fd0 ps (spF K io (ak ps.length N.length io body)) :=
 Ab h S (fun f cdv A outer s H E hr=>hb f cdv A outer s H E hr S.nd (B6 (by decide) hr) (B6 (by decide) hr)) hps
end
theorem nd_k{l:List Str}(h:decide l.Nodup=true):l.Nodup:=DI h
abbrev OkY(x:Str)(ps:List Str)(k:Nat)(io:Option Nat)(f:FS)(P:Program)(w:World)(K:F2)(mg:Str->Option Value)(base:Heap):Prop:=OkX P w K mg base x ps k (spF K io f)
structure dD(K:F2)(mg:Str->Option Value)(base:Heap)(x:Str):Prop where
 ex:∃ C bm B newId initId,OwnCls x C bm newId mg base/\ExcBaseFacts B newId initId bm/\qE K x C
theorem mq{P:Program}{w:World}{K:F2}{mg:Str->Option Value}{base:Heap}{N:List Str}{qual:Str}{scope:Scope}{f:Addr}{cd:Value}{A:Around}{outer:List Env}{s:Shared}{H:Hp}{E:XK}{x:Str}{np cpos pos:Pos}{k:Nat}
 (O:dD K mg base x) (hr:cV k (A.deeper (envOfC qual scope s.heap.objs.size f cd)))
 (hg:Gl (bZ (CXr P w) P w K mg base N qual scope f cd A outer s H E) x) (hd:(x == ("__debug__" : Str))=false:=by decide):JS (bZ (CXr P w) P w K mg base N qual scope f cd A outer s H E) (EXf K E) (.Raise (some (.Call (.Name x np) [] [] cpos)) none pos) (gI x):=by
 obtain ⟨C,bm,B,nI,iI,h1,h2,h3⟩:=O.ex;exact Bf h1 h2 h3 hr hg hd
section
variable{X:Cx}{EX:EXT}{e i1 i2:Expr}{pos pos1 pos2 tpos p1 p2:Pos}{n:Str}{j k:Nat}{f f1 f2:SE}
end
def isBl:D->Bool
 | .bl _=>true
 | _=>false
noncomputable def dS:List D->Option (D×Bool)
 | [d,.non]=>some (.bl (!zI d),false)
 | [.bl a,.bl b]=>some (.bl (a != b),false)
 | [d,.bl b]=>if isBl d then none else some (.bl true,false)
 | _=>none
def vE:R2:=fun x y H Q=>∃ b,y = .bl b/\(∀ a,x ≠ .bl a)/\(∀ n,x ≠ .ty n)/\Q (.bl true) H
theorem wM{X:Cx}:OpR X (compareOp .IsNot) vE:=by
 intro pins s σ H x y v u Q I rx ry h;obtain ⟨b,rfl,hx,hy,q⟩:=h;cases ry;have z:EP X pins σ Q (.bool true) s:=⟨.bl true,H,I,rfl,q⟩
 cases x<;>first
  | exact absurd rfl (hx _)
  | exact absurd rfl (hy _)
  | (cases rx;exact Dr z)
  | (obtain ⟨t,rfl⟩:=rx;exact Dr z)
theorem nb_of{K:F2}{H Hh:Hp}{d:D}{v:V}(r:gr K H Hh d v)(h:isBl d=false):(∀ a,v ≠ .bl a)/\∀ n,v ≠ .ty n:=by
 cases d with
 | bl b=>cases h
 | non=>have r:v = .non:=r;subst r;exact ⟨fun a=>by simp,fun n=>by simp⟩
 | int i=>have r:v = .int i:=r;subst r;exact ⟨fun a=>by simp,fun n=>by simp⟩
 | str i=>have r:v = .str i:=r;subst r;exact ⟨fun a=>by simp,fun n=>by simp⟩
 | _=>obtain ⟨p,h2⟩:=r;first | (obtain ⟨xs,rfl,_⟩:=h2;exact ⟨fun a=>by simp,fun n=>by simp⟩) | (obtain ⟨rfl,_⟩:=h2;exact ⟨fun a=>by simp,fun n=>by simp⟩)
theorem wL{K:F2}:OpS K (r2 fun x y H Q=>vF x y H Q\/vE x y H Q) dS:=by
 intro vs ds H L Q d nw hm r e q;unfold dS at e
 split at e
 ·obtain ⟨x,y,rfl,ra,rb⟩:=aK r
  cases e;refine .inl (.inl ⟨rb,?_⟩);rw [sK ra];exact q _ H (ac.refl _) rfl
 ·obtain ⟨x,y,rfl,ra,rb⟩:=aK r
  cases e;exact .inl (.inr ⟨_,_,ra,rb,q _ H (ac.refl _) rfl⟩)
 ·obtain ⟨x,y,rfl,ra,rb⟩:=aK r
  split at e
  ·cases e
  ·rename_i hb
   cases e;obtain ⟨h1,h2⟩:=nb_of ra (by simpa using hb);exact .inr ⟨_,rb,h1,h2,q _ H (ac.refl _) rfl⟩
 ·cases e
section
variable{X:Cx}{EX:EXT}{a b:Expr}{x y:Arg}{pos:Pos}
theorem ya(ha:JB X EX a x)(hb:JB X EX b y):JT X EX (.Compare a [.IsNot] [b] pos) (aC dS [x,y]):=jK (wN.or wM) wL ha hb (dJ _)
end
section
variable{X:Cx}
theorem tup_is{pins:List (Addr×Obj)}{σ:St}{H:Hp}{s:Shared}{p:Addr}{xs:List V}(I:Inv X pins σ H s)(h:H p=some (.tup xs)):s.TypeIs (.ref p) "tuple" /\ ∃ ob,s.heap.get? p=some ob/\ob.dict=none:=by
 obtain ⟨_,its,_,tb⟩:=(show bt X.prog X.w H s.heap p (.tup xs) from I.hok p _ h);obtain ⟨o,h1,h2,_⟩:=tb.t;exact ⟨⟨o,h1,h2⟩,o,h1,tb.nd o h1⟩
noncomputable def tBMT(r:V->List V->Hp->VK->Prop)(to:TE)(t:TA):TE:=fun σ H Q=>to σ H fun x H1=>(∃ p xs,x = .ref p/\H1 p=some (.tup xs))/\t σ H1 fun xs H2=>r x xs H2 Q
variable{o e:Expr}{es:List Expr}{to:TE}{t:TA}{name:Str}{apos cpos:Pos}{id:String}{r:V->List V->Hp->VK->Prop}
theorem pe_bmT(slot:Slot "tuple" name id)(hty:typeOf (.builtin id)=pure (.type "method_descriptor"))(hm:MtM X id r)(ho:PE X o to)(ha:PA X (e::es) t)
 (hbase:attributeBase o name X.env (eval o X.env)=eval o X.env:=by rfl)
 (hfew:((backTo cpos (starEach (e::es) X.env)).all (fun x => !x.1)&&(backToKw cpos (keywordEach [] X.env)).all (fun x=>x.1.isSome)
   && decide ((e::es).length+([]:List Keyword).length+(if ([]:List Keyword).isEmpty then 0 else 1) < 30))=true:=by rfl)
 (hline:(apos.endLine == cpos.line)=true:=by rfl) (hs:starEach (e::es) X.env=(false,eval e X.env)::starEach es X.env:=by rfl) (hplain:(backTo cpos (starEach es X.env)).any (·.1)=false:=by rfl) :
 PE X (.Call (.Attribute o name apos) (e::es) [] cpos) (tBMT r to t):=by
 intro pins s σ H Q I h;refine wpAny_Call_method_late hbase hfew hline rfl (thn (ho pins s σ H _ I h) fun v s1 ⟨x,H1,I1,r1,ty,q1⟩=> ?_);obtain ⟨p,xs,rfl,hob⟩:=ty;cases r1;obtain ⟨e1,ob,e2,e3⟩:=tup_is I1 hob;refine ⟨"tuple",id,PySem.F.plainAttrs_tuple,slot,hty,e1,fun a ea=> ?_,?_⟩
 ·cases ea
  exact ⟨ob,e2,e3⟩
 have hA:=ha cpos pins s1 σ H1 _ I1 q1;rw [hs] at hA ⊢;refine Calls.callWith_builtin (by show (false||(backTo cpos (starEach es X.env)).any (·.1))=false;rw [hplain]<;>rfl) (Calls.evalArgs_plain ?_)
 exact thn hA fun us s2 ⟨vs,H2,I2,r2,q2⟩=>hm pins s2 σ H2 (.ref p) vs _ us Q I2 rfl r2 q2
end
def ixI:List Int->Int->Option Nat
 | [],_=>none
 | x::l,k=>if x=k then some 0 else (ixI l k).map (·+ 1)
theorem nq:∀ {l:List Int} {k:Int} {j:Nat},ixI l k=some j->∃ h:j < l.length,l[j]=k/\∀ m (hm:m < l.length),m < j->l[m]≠k
 | x::l,k,j,h=>by
  unfold ixI at h
  split at h
  ·rename_i e
   cases h;exact ⟨Nat.zero_lt_succ _,e,fun m _ hm=>absurd hm (Nat.not_lt_zero _)⟩
  ·rename_i e
   obtain ⟨i,hi,rfl⟩:=El.mp h;obtain ⟨h1,h2,h3⟩:=nq hi;refine ⟨Nat.succ_lt_succ h1,h2,fun m hm h=> ?_⟩
   cases m with
   | zero=>exact e
   | succ m=>exact h3 m (Nat.lt_of_succ_lt_succ hm) (Nat.lt_of_succ_lt_succ h)
 | [],k,j,h=>by cases h
theorem qr:∀ {l:List Int} {k:Int},k∈l->∃ j,ixI l k=some j
 | x::l,k,h=>by
  unfold ixI
  by_cases e:x=k
  ·exact ⟨0,if_pos e⟩
  ·rw [if_neg e]
   obtain ⟨j,hj⟩:=qr ((Dx.mp h).resolve_left fun z=>e z.symm);exact ⟨j+1,by rw [hj];rfl⟩
noncomputable def ki(i:Nat)(f:SE):SE:=fun ρ=>match ρ[i]? with
 | some (some (.tup ds,.fz))=>match aT ds with
  | some ns=>match f ρ with
   | some (.ok (.int k) _,ρ')=>match ixI ns k with
    | some j=>some (.ok (.int (j:Nat)) false,ρ')
    | none=>none
   | _=>none
  | none=>none
 | _=>none
theorem Bp{i:Nat}{f:SE}{ρ ρ1:Rho}{ns:List Int}{k:Int}{nw:Bool}{j:Nat}(h0:ρ[i]?=some (some (.tup (ns.map D.int),.fz)))(h:f ρ=some (.ok (.int k) nw,ρ1))(hi:ixI ns k=some j):ki i f ρ=some (.ok (.int (j:Nat)) false,ρ1):=by
 unfold ki;simp only [h0,cz,h,hi]
section
variable{X:Cx}{EX:EXT}{e:Expr}{f:SE}{n:Str}{i:Nat}{p1 apos cpos:Pos}
theorem Cs(he:JE X EX e f)(hN:X.N[i]?=some n)(hv:Vis X.env.scope n)(hd:(n == ("__debug__" : Str))=false:=by decide)(hcd:(n == ("__classdict__" : Str))=false:=by decide)
 (hbase:attributeBase (.Name n p1) "index" X.env (eval (.Name n p1) X.env)=eval (.Name n p1) X.env:=by rfl)
 (hfew:((backTo cpos (starEach [e] X.env)).all (fun x => !x.1)&&(backToKw cpos (keywordEach [] X.env)).all (fun x=>x.1.isSome)
   && decide ([e].length+([]:List Keyword).length+(if ([]:List Keyword).isEmpty then 0 else 1) < 30))=true:=by rfl)
 (hline:(apos.endLine == cpos.line)=true:=by rfl) (hs:starEach [e] X.env=(false,eval e X.env)::starEach [] X.env:=by rfl) (hplain:(backTo cpos (starEach [] X.env)).any (·.1)=false:=by rfl) :
 JE X EX (.Call (.Attribute (.Name n p1) "index" apos) [e] [] cpos) (ki i f) :=
 ⟨(pe_bmT PySem.F.slot_tuple_index PySem.F.type_tuple_index wT (gN hN hv hd hcd) (dw he.p fA hs) hbase hfew hline hs hplain).by fun σ H Q ⟨F,ρ,W,R,h⟩=>by
   unfold ki at h
   revert h
   split
   ·rename_i ds e0
    split
    ·rename_i ns en
     split
     ·rename_i k nw ρ' ef
      split
      ·rename_i j ej
       intro h;obtain ⟨v,hv,p,xs,rfl,hp,rx⟩:=R.slot i _ _ e0;obtain ⟨pn,hpH⟩:=am hp;refine ⟨_,hv,⟨p,xs,rfl,hpH⟩,F,ρ,W,R,?_⟩;rw [ef];intro y H2 W2 fr2 sub2 P2;have hy:y = .int k:=P2.plain.1;subst hy;have hp2:H2 p=some (.tup xs):=fr2.keep p _ (fun z=>pn (Dz _ z)) hpH
       have hx:xs=ns.map V.int:=by
        have:ds=ns.map D.int:=aX en;rw [this] at rx;exact aN rx
       subst hx;obtain ⟨hj,hat,hno⟩:=nq ej;refine ⟨p,ns.map V.int,.int k,j,rfl,rfl,.inl (.inl hp2),rfl,by rw [FK,DK];exact fun _ _=>rfl,⟨by rw [Dp];exact hj,?_⟩,fun m hm hmj=> ?_,h _ H2 W2 fr2 sub2 ⟨rfl,P2.plain.2⟩⟩
       ·rw [Ff,hat]
        show (k == k)=true
        exact EW k
       ·rw [Ff]
        show (ns[m]'(by rw [Dp] at hm;exact hm) == k)=false
        exact beq_false_of_ne (hno m (by rw [Dp] at hm;exact hm) hmj)
      ·exact fun h=>h.elim
     ·exact fun h=>h.elim
    ·exact fun h=>h.elim
   ·exact fun h=>h.elim⟩
end
section
variable{X:Cx}{EX:EXT}{o e x:Expr}{f g h:SE}{apos cpos:Pos}
end
section
variable{X:Cx}{EX:EXT}{o:Expr}{f:SE}{apos cpos:Pos}
end
noncomputable def relS(sc osc:Scope):Scope:={ sc with names:=sc.names.map fun (n,k)=>if (k == .free&&osc.kind == .function&&osc.names.lookup n == some .cell) then (n,.cell) else (n,k) }
theorem dO.okR{X:Cx}{osc sc0:Scope}{cl:List (Str×Addr)}{C:Addr}{fp:List Addr}{s:Shared}{H:Hp}{N:List Str}{sc:Scope}{M tgs:List Str}(b:dO (relS sc0 osc) N sc M tgs)(h1:X.env.scope=osc:=by rfl):lD (blkC X sc0 cl C fp s H N) sc M tgs:=by
 subst h1;exact dO.ok (X:=blkC X sc0 cl C fp s H N) b rfl rfl
noncomputable def ib(f g:SE):SE:=fun ρ=>match f ρ with
 | some (.ok (.lst ds) _,ρ1)=>match aT ds with
  | some ns=>match g ρ1 with
   | some (.ok (.int k) _,ρ2)=>match ixI ns k with
    | some j=>some (.ok (.int (j:Nat)) false,ρ2)
    | none=>none
   | _=>none
  | none=>none
 | _=>none
theorem yA{f g:SE}{ρ ρ1 ρ2:Rho}{ns:List Int}{k:Int}{n1 n2:Bool}{j:Nat}(h0:f ρ=some (.ok (.lst (ns.map D.int)) n1,ρ1))(h:g ρ1=some (.ok (.int k) n2,ρ2))(hi:ixI ns k=some j):ib f g ρ=some (.ok (.int (j:Nat)) false,ρ2):=by
 unfold ib;simp only [h0,cz,h,hi]
section
variable{X:Cx}{EX:EXT}{o e:Expr}{f g:SE}{apos cpos:Pos}
theorem AA(ho:JE X EX o f)(he:JE X EX e g)
 (hbase:attributeBase o "index" X.env (eval o X.env)=eval o X.env:=by rfl)
 (hfew:((backTo cpos (starEach [e] X.env)).all (fun x => !x.1)&&(backToKw cpos (keywordEach [] X.env)).all (fun x=>x.1.isSome)
   && decide ([e].length+([]:List Keyword).length+(if ([]:List Keyword).isEmpty then 0 else 1) < 30))=true:=by rfl)
 (hline:(apos.endLine == cpos.line)=true:=by rfl) (hs:starEach [e] X.env=(false,eval e X.env)::starEach [] X.env:=by rfl) (hplain:(backTo cpos (starEach [] X.env)).any (·.1)=false:=by rfl) :
 JE X EX (.Call (.Attribute o "index" apos) [e] [] cpos) (ib f g) :=
 ⟨(vM Fz PySem.F.slot_list_index PySem.F.type_list_index zq ho.p (dw he.p fA hs) hbase hfew hline hs hplain).by fun σ H Q ⟨F,ρ,W,R,z⟩=>by
   refine ⟨F,ρ,W,R,?_⟩;unfold ib at z
   revert z
   split
   ·rename_i ds n1 ρ1 e1
    split
    ·rename_i ns en
     split
     ·rename_i k n2 ρ2 e2
      split
      ·rename_i j ej
       intro z;rw [e1];intro v1 H1 W1 fr1 sub1 P1;obtain ⟨⟨p,xs,rfl,hp,rx⟩,R1⟩:=P1.plain;obtain ⟨pn,hp1⟩:=am hp;refine ⟨.inl ⟨rfl,xs,.inl (.inl hp1)⟩,F,ρ1,W1,R1,?_⟩;rw [e2];intro v2 H2 W2 fr2 sub2 P2;obtain ⟨r2,R2⟩:=P2.plain;have hy:v2 = .int k:=r2;subst hy;have hp2:=fr2.keep p _ (fun y=>pn (Dz _ y)) hp1
       have hx:xs=ns.map V.int:=by
        have:ds=ns.map D.int:=aX en;rw [this] at rx;exact aN rx
       subst hx;obtain ⟨hj,hat,hno⟩:=nq ej;refine ⟨p,ns.map V.int,.int k,j,rfl,rfl,hp2,rfl,by rw [FK,DK];exact fun _ _=>rfl,⟨by rw [Dp];exact hj,?_⟩,fun m hm hmj=> ?_,z _ H2 W2 (fr1.trans fr2 fun q hq=> .inl (sub1 q hq)) (fun q hq=>sub1 q (sub2 q hq)) ⟨rfl,R2⟩⟩
       ·rw [Ff,hat]
        show (k == k)=true
        exact EW k
       ·rw [Ff]
        show (ns[m]'(by rw [Dp] at hm;exact hm) == k)=false
        exact beq_false_of_ne (hno m (by rw [Dp] at hm;exact hm) hmj)
      ·exact fun z=>z.elim
     ·exact fun z=>z.elim
    ·exact fun z=>z.elim
   ·exact fun z=>z.elim⟩
end
end L2
namespace L2
open PyProof.Rows
theorem gD:∀ {a b:List Int},a.Pairwise (·<= ·)->b.Pairwise (·<= ·)->a.Perm b->a=b
 | [],b,_,_,p=>by rw [p.nil_eq]
 | x::a,[],_,_,p=>absurd p.symm.nil_eq (by simp)
 | x::a,y::b,ha,hb,p=>by
  have ha':=Ef.mp ha;have hb':=Ef.mp hb
  have e:x=y:=by
   have h1:x∈y::b:=p.mem_iff.mp DC;have h2:y∈x::a:=p.mem_iff.mpr DC
   rcases Dx.mp h1 with h | h
   ·exact h
   ·rcases Dx.mp h2 with g | g
    ·exact g.symm
    ·have:=hb'.1 x h
     have:=ha'.1 y g;omega
  subst e;rw [gD ha'.2 hb'.2 (List.Perm.cons_inv p)]
theorem mD(lo:Int):∀ n,(rgI lo n).Pairwise (·<= ·)
 | 0=>List.Pairwise.nil
 | n+1=>by
  rw [bL,List.pairwise_append];refine ⟨mD lo n,List.pairwise_singleton _ _,fun a ha b hb=> ?_⟩;rw [DQ.mp hb];have:=az.mp ha;omega
theorem b8(lo:Int):∀ n,(rgI lo n).Nodup
 | 0=>Fh
 | n+1=>by
  rw [bL,Ee];refine ⟨b8 lo n,List.pairwise_singleton _ _,fun a ha b hb=> ?_⟩;rw [DQ.mp hb];have:=az.mp ha;omega
theorem lQ(lo:Int)(m:Nat):∀ n,rgI lo (m+n)=rgI lo m++rgI (lo+(m:Nat)) n
 | 0=>by simp [rgI]
 | n+1=>by
  rw [<- Nat.add_assoc,bL,lQ lo m n,bL,EF]
  congr 3
  omega
theorem iB{l m:List Int}(h:l.Perm m)(hm:m.Pairwise (·<= ·)):fg l=m:=gD (f8 l) hm ((f9 l).trans h)
theorem pb{l:List Int}{lo:Int}{n:Nat}(h:l.Perm (rgI lo n)):fg l=rgI lo n:=iB h (mD lo n)
theorem k8:∀ (l acc:List Int),(l++acc).Nodup->(l.foldl step_dedup acc).length=acc.length+l.length
 | [],acc,_=>rfl
 | x::l,acc,h=>by
  have h':=En.mp h
  have e:(step_dedup acc x).length=acc.length+1/\(step_dedup acc x).Perm (x::acc):=by
   unfold step_dedup;rw [if_neg]
   ·exact ⟨by simp,by first | exact List.Perm.refl _ | exact FX x acc⟩
   ·intro z
    refine h'.1 (Du _ ?_)
    first
     | (obtain ⟨y,hy,e⟩:=List.any_eq_true.mp z;rw [<- eq_of_beq e];exact hy)
     | simpa using z
  have nd:(l++step_dedup acc x).Nodup:=by
   refine ((List.Perm.append_left l e.2).trans ?_).nodup_iff.mpr h;exact List.perm_middle
  rw [List.foldl_cons,k8 l _ nd,e.1,Dq];omega
theorem dZ{l:List Int}(h:l.Nodup):(dd l).length=l.length:=by
 have:=k8 l [] (by simpa using h);unfold dd;simpa using this
theorem tw:∀ (l acc:List Int),acc.Nodup->(l.foldl step_dedup acc).Nodup
 | [],acc,h=>h
 | x::l,acc,h=>by
  rw [List.foldl_cons];refine tw l _ ?_;unfold step_dedup
  split
  ·exact h
  ·rename_i hn
   have hx:x∉acc:=fun z=>hn (by
    first
     | exact List.any_eq_true.mpr ⟨x,z,EW x⟩
     | simpa using z)
   first
    | exact En.mpr ⟨hx,h⟩
    | exact (FX x acc).nodup_iff.mpr (En.mpr ⟨hx,h⟩)
theorem dd_nd(l:List Int):(dd l).Nodup:=tw l [] Fh
end L2
namespace L2
def dnI(hi:Int)(n:Nat):List Int:=(List.range n).map fun k=>hi - (k:Nat)
theorem jX(hi:Int)(n:Nat):(dnI hi n).length=n:=by unfold dnI;simp
theorem An(hi:Int)(n:Nat):dnI hi (n+1)=hi::dnI (hi - 1) n:=by
 unfold dnI;rw [List.range_succ_eq_map,DJ,Ed]
 congr 1
 ·simp
 ·refine DU fun k _=> ?_
  show hi - ((k+1:Nat):Int)=hi - 1 - (k:Nat)
  omega
theorem jV(hi:Int)(n:Nat):dnI hi (n+1)=dnI hi n++[hi - (n:Nat)]:=by unfold dnI;rw [List.range_succ,Ev];rfl
theorem v8(hi:Int)(m:Nat):∀ n,dnI hi (m+n)=dnI hi m++dnI (hi - (m:Nat)) n
 | 0=>by simp [dnI]
 | n+1=>by
  rw [<- Nat.add_assoc,jV,v8 hi m n,jV,EF]
  congr 3
  omega
theorem jW(hi:Int):∀ n:Nat,(dnI hi n).Perm (rgI (hi - (n:Nat)+1) n)
 | 0=>List.Perm.refl _
 | n+1=>by
  rw [jV,jA];refine (FX _ _).trans ?_
  have e:hi - ((n+1:Nat):Int)+1=hi - (n:Nat):=by omega
  rw [e];exact (jW hi n).cons _
theorem dnI_at{hi:Int}{n i:Nat}(h:i < n):(dnI hi n)[i]?=some (hi - (i:Nat)):=by
 unfold dnI;rw [DL,List.getElem?_range h];rfl
def rem(legs:List Nat):Nat:=legs.sum+legs.length - 1
noncomputable def cS(b:Bool)(lo hi:Int):List Nat->List Int
 | []=>[]
 | l::r=>if r=[] then [] else if b then (hi - l)::cS false lo (hi - l - 1) r else (lo+l)::cS true (lo+l+1) hi r
noncomputable def cL(b:Bool)(lo hi:Int):List Nat->List Int
 | []=>[]
 | l::r=>if b then dnI hi l++cL false lo (hi - l - 1) r else rgI lo l++cL true (lo+l+1) hi r
noncomputable def cP(b:Bool)(lo hi:Int):List Nat->Int
 | []=>lo - 1
 | l::r=>if r=[] then (if b then lo - 1 else lo+l - 1) else if b then cP false lo (hi - l - 1) r else cP true (lo+l+1) hi r
noncomputable def cT(k fr:Int):List Nat->List (Int×Int)
 | []=>[]
 | l::r=>(rgI fr l).map (fun x=>(k,x))++(if r=[] then [] else (k,k+1)::cT (k+1) (fr+l) r)
theorem mE{l:Nat}{r:List Nat}(h:r≠[]):rem (l::r)=l+1+rem r:=by
 unfold rem;have:=DV.mpr h;rw [EZ,Dq];omega
theorem lR{l:Nat}:rem [l]=l:=by unfold rem;simp
theorem nO:∀ (legs:List Nat) (b:Bool) (lo hi:Int),(cS b lo hi legs).length=legs.length - 1
 | [],_,_,_=>rfl
 | l::r,b,lo,hi=>by
  unfold cS
  split
  ·rename_i h;rw [h];rfl
  ·rename_i h
   have:=DV.mpr h
   split
   ·rw [Dq,nO r,Dq];omega
   ·rw [Dq,nO r,Dq];omega
theorem nM:∀ (legs:List Nat) (b:Bool) (lo hi:Int),legs≠[]->hi - lo+1=(rem legs:Nat)->(cS b lo hi legs++cL b lo hi legs).Perm (rgI lo (rem legs))
 | [],_,_,_,h,_=>absurd rfl h
 | l::r,b,lo,hi,_,e=>by
  by_cases hr:r=[]
  ·subst hr
   rw [lR] at e ⊢;unfold cS cL;rw [if_pos rfl,Eu]
   show (if b=true then dnI hi l++[] else rgI lo l++[]).Perm _
   split
   ·rw [Ec]
    have:=jW hi l;rw [show hi - (l:Nat)+1=lo by omega] at this;exact this
   ·rw [Ec]
  ·rw [mE hr] at e ⊢
   unfold cS cL;rw [if_neg hr]
   cases b with
   | true =>
    have ih:=nM r false lo (hi - l - 1) hr (by omega)
    show (((hi - l)::cS false lo (hi - l - 1) r)++(dnI hi l++cL false lo (hi - l - 1) r)).Perm _
    have p1:(((hi - l)::cS false lo (hi - l - 1) r)++(dnI hi l++cL false lo (hi - l - 1) r)).Perm ((dnI hi l++[hi - l])++(cS false lo (hi - l - 1) r++cL false lo (hi - l - 1) r)):=by
     rw [Fc];intro a;simp only [List.count_append,List.count_cons,List.count_nil];omega
    refine p1.trans ?_;rw [show l+1+rem r=rem r+(l+1) by omega,lQ,<- jV];have p2:=jW hi (l+1);rw [show hi - ((l+1:Nat):Int)+1=lo+(rem r:Nat) by omega] at p2;exact (List.Perm.append p2 ih).trans List.perm_append_comm
   | false =>
    have ih:=nM r true (lo+l+1) hi hr (by omega)
    show (((lo+l)::cS true (lo+l+1) hi r)++(rgI lo l++cL true (lo+l+1) hi r)).Perm _
    have p1:(((lo+l)::cS true (lo+l+1) hi r)++(rgI lo l++cL true (lo+l+1) hi r)).Perm ((rgI lo l++[lo+l])++(cS true (lo+l+1) hi r++cL true (lo+l+1) hi r)):=by
     rw [Fc];intro a;simp only [List.count_append,List.count_cons,List.count_nil];omega
    refine p1.trans ?_;rw [lQ,<- bL,show lo+((l+1:Nat):Int)=lo+l+1 by omega];exact List.Perm.append_left _ ih
theorem we:∀ (legs:List Nat) (b:Bool) (lo hi:Int),legs≠[]->hi - lo+1=(rem legs:Nat)->lo - 1<=cP b lo hi legs/\cP b lo hi legs<=hi
 | [],_,_,_,h,_=>absurd rfl h
 | l::r,b,lo,hi,_,e=>by
  by_cases hr:r=[]
  ·subst hr
   rw [lR] at e;unfold cP;rw [if_pos rfl]
   split<;>omega
  ·rw [mE hr] at e
   unfold cP;rw [if_neg hr]
   split
   ·have:=we r false lo (hi - l - 1) hr (by omega)
    omega
   ·have:=we r true (lo+l+1) hi hr (by omega)
    omega
theorem pz(N:Int->Int):∀ (legs:List Nat) (b:Bool) (lo hi k fr:Int),legs≠[]->hi - lo+1=(rem legs:Nat)->N k=(if b then lo - 1 else hi+1) ->
 (∀ (j:Nat) x,(cS b lo hi legs)[j]?=some x->N (k+1+j)=x)->(∀ (j:Nat) x,(cL b lo hi legs)[j]?=some x->N (fr+j)=x) ->
 (cT k fr legs).map (fun t=>((N t.1 - N t.2).natAbs:Int))=dnI (rem legs:Nat) (rem legs)/\∀ t∈cT k fr legs,min (N t.1) (N t.2)<=cP b lo hi legs/\cP b lo hi legs < max (N t.1) (N t.2)
 | [],_,_,_,_,_,h,_,_,_,_=>absurd rfl h
 | l::r,b,lo,hi,k,fr,_,e,hk,hs,hl=>by
  have legN:∀ j:Nat,j < l->N (fr+j)=if b then hi - j else lo+j:=fun j hj=>by
   refine hl j _ ?_;unfold cL
   cases b with
   | true=>show (dnI hi l++_)[j]?=_;rw [DN (by rw [jX];exact hj),dnI_at hj];rfl
   | false=>show (rgI lo l++_)[j]?=_;rw [DN (by rw [aq];exact hj),rgI_at hj];rfl
  have here:((rgI fr l).map (fun x=>(k,x))).map (fun t=>((N t.1 - N t.2).natAbs:Int))=dnI (rem (l::r):Nat) l:=by
   unfold rgI dnI;rw [Ed,Ed]
   refine DU fun j hj=> ?_
   have hj:=EA.mp hj
   show ((N k - N (fr+(j:Nat))).natAbs:Int)=_
   rw [hk,legN j hj]
   have:l<=rem (l::r):=by unfold rem;rw [EZ,Dq];omega
   split<;>omega
  have bnd:=we (l::r) b lo hi (by simp) e
  by_cases hr:r=[]
  ·subst hr
   refine ⟨?_,?_⟩
   ·unfold cT
    rw [if_pos rfl,Ec,here,lR]
   ·intro t ht
    unfold cT at ht;rw [if_pos rfl,Ec] at ht;obtain ⟨x,hx,rfl⟩:=DP.mp ht;obtain ⟨h1,h2⟩:=az.mp hx;have hx2:=legN (x - fr).toNat (by omega);rw [show fr+((x - fr).toNat:Nat)=x by omega] at hx2;rw [lR] at e
    show min (N k) (N x)<=_/\_ < max (N k) (N x)
    rw [hk,hx2];unfold cP;rw [if_pos rfl]
    split<;>omega
  ·have er:=mE (l:=l) hr
   have nxt:N (k+1)=if b then hi - l else lo+l:=by
    have:=hs 0 (if b then hi - l else lo+l) (by
     unfold cS;rw [if_neg hr]
     cases b<;>rfl)
    simpa using this
   have ih:=pz N r (!b) (if b then lo else lo+l+1) (if b then hi - l - 1 else hi) (k+1) (fr+l) hr (by rw [er] at e;cases b<;>simp<;>omega) (by rw [nxt];cases b<;>simp<;>omega)
    (fun j x hx=>by
      have:=hs (j+1) x (by
       unfold cS;rw [if_neg hr]
       cases b<;>simpa using hx)
      rw [<- this]
      congr 1
      omega)
    (fun j x hx=>by
      have:=hl (l+j) x (by
       unfold cL
       cases b with
       | true=>show (dnI hi l++_)[l+j]?=_;rw [Eb (by rw [jX];omega),jX,Nat.add_sub_cancel_left];simpa using hx
       | false=>show (rgI lo l++_)[l+j]?=_;rw [Eb (by rw [aq];omega),aq,Nat.add_sub_cancel_left];simpa using hx)
      rw [<- this]
      congr 1
      omega)
   have cp:cP b lo hi (l::r)=cP (!b) (if b then lo else lo+l+1) (if b then hi - l - 1 else hi) r:=by
    conv=>lhs;unfold cP
    rw [if_neg hr];cases b<;>rfl
   refine ⟨?_,?_⟩
   ·unfold cT
    rw [if_neg hr,Ev,here,DJ,ih.1]
    show _++((N k - N (k+1)).natAbs:Int)::_=_
    rw [hk,nxt,er,show l+1+rem r=l+(rem r+1) by omega,v8,An]
    congr 2
    ·rw [er] at e
     split<;>omega
    ·congr 1
     omega
   ·intro t ht
    unfold cT at ht;rw [if_neg hr] at ht;have bnd2:=we r (!b) (if b then lo else lo+l+1) (if b then hi - l - 1 else hi) hr (by rw [er] at e;cases b<;>simp<;>omega);rw [cp];rw [er] at e
    rcases DT.mp ht with ht | ht
    ·obtain ⟨x,hx,rfl⟩:=DP.mp ht
     obtain ⟨h1,h2⟩:=az.mp hx;have hx2:=legN (x - fr).toNat (by omega);rw [show fr+((x - fr).toNat:Nat)=x by omega] at hx2
     show min (N k) (N x)<=_/\_ < max (N k) (N x)
     rw [hk,hx2]
     cases b<;>simp at bnd2 ⊢ <;> omega
    ·rcases Dx.mp ht with rfl | ht
     ·show min (N k) (N (k+1))<=_/\_ < max (N k) (N (k+1))
      rw [hk,nxt]
      cases b<;>simp at bnd2 ⊢ <;> omega
     ·exact ih.2 t ht
theorem u4:∀ (legs:List Nat) (k fr:Int),legs≠[]->((cT k fr legs).map Prod.snd).Perm (rgI (k+1) (legs.length - 1)++rgI fr legs.sum)
 | [],_,_,h=>absurd rfl h
 | l::r,k,fr,_=>by
  have e0:((rgI fr l).map (fun x=>(k,x))).map Prod.snd=rgI fr l:=by rw [Ed];exact (DU fun x _=>rfl).trans (List.map_id' _)
  unfold cT
  by_cases hr:r=[]
  ·subst hr
   rw [if_pos rfl,Ec,e0];simp [rgI]
  ·have:=DV.mpr hr
   rw [if_neg hr,Ev,e0,DJ,Dq,EZ,lQ,show r.length+1 - 1=(r.length - 1)+1 by omega,jA];have ih:=u4 r (k+1) (fr+l) hr
   show (rgI fr l++(k+1)::(cT (k+1) (fr+l) r).map Prod.snd).Perm ((k+1)::rgI (k+1+1) (r.length - 1)++(rgI fr l++rgI (fr+(l:Nat)) r.sum))
   rw [Fc];intro a;have:=Fc.mp ih a;simp only [List.count_append,List.count_cons] at this ⊢;omega
theorem AC{legs:List Nat}(h:legs≠[])(k fr:Int):(cT k fr legs).length=rem legs:=by
 have:=(u4 legs k fr h).length_eq;rw [Dp,DD,aq,aq] at this;have:=DV.mpr h;unfold rem;omega
theorem u5:∀ (legs:List Nat) (k fr:Int),k+legs.length<=fr->∀ t∈cT k fr legs,k<=t.1/\t.1 < k+legs.length/\t.1 < t.2/\t.2 < fr+legs.sum
 | [],_,_,_,t,ht=>by unfold cT at ht;exact absurd ht Et
 | l::r,k,fr,hf,t,ht=>by
  rw [Dq] at hf ⊢;rw [EZ];unfold cT at ht
  rcases DT.mp ht with ht | ht
  ·obtain ⟨x,hx,rfl⟩:=DP.mp ht
   obtain ⟨h1,h2⟩:=az.mp hx
   show k<=k/\k < _/\k < x/\x < _
   omega
  ·split at ht
   ·exact absurd ht Et
   ·rename_i hr
    have:=DV.mpr hr
    rcases Dx.mp ht with rfl | ht
    ·show k<=k/\k < _/\k < k+1/\k+1 < _
     omega
    ·have:=u5 r (k+1) (fr+l) (by omega) t ht
     omega
def cN(legs:List Nat):List Int:=(0::cS true 1 (rem legs:Nat) legs)++cL true 1 (rem legs:Nat) legs
theorem wg{legs:List Nat}(h:legs≠[]):(cN legs).Perm (rgI 0 (rem legs+1)):=by
 unfold cN;rw [jA,Em];exact (nM legs true 1 _ h (by omega)).cons 0
theorem cN_len{legs:List Nat}(h:legs≠[]):(cN legs).length=rem legs+1:=by rw [(wg h).length_eq,aq]
theorem vX{l:List Int}{i:Nat}{x:Int}(h:l[i]?=some x):l.getD i 0=x:=by rw [DB,h];rfl
theorem AD{legs:List Nat}(h:legs≠[]):(cT 0 (legs.length:Nat) legs).map (fun t=>(((cN legs).getD t.1.toNat 0 - (cN legs).getD t.2.toNat 0).natAbs:Int))=dnI (rem legs:Nat) (rem legs)/\∀ t∈cT 0 (legs.length:Nat) legs,min ((cN legs).getD t.1.toNat 0) ((cN legs).getD t.2.toNat 0)<=cP true 1 (rem legs:Nat) legs/\cP true 1 (rem legs:Nat) legs < max ((cN legs).getD t.1.toNat 0) ((cN legs).getD t.2.toNat 0):=by
 have hl:=DV.mpr h;refine pz (fun i=>(cN legs).getD i.toNat 0) legs true 1 (rem legs:Nat) 0 (legs.length:Nat) h (by omega) rfl (fun j x hx=> ?_) (fun j x hx=> ?_)
 ·refine vX ?_
  rw [show ((0:Int)+1+(j:Nat)).toNat=j+1 by omega];unfold cN;rw [DN (by rw [Dq,nO];have:=(DG.mp hx).1;rw [nO] at this;omega),DX];exact hx
 ·refine vX ?_
  rw [show ((legs.length:Int)+(j:Nat)).toNat=legs.length+j by omega];unfold cN
  have e:(0::cS true 1 (rem legs:Nat) legs).length=legs.length:=by rw [Dq,nO];omega
  rw [Eb (by rw [e];omega),e,Nat.add_sub_cancel_left];exact hx
noncomputable def rS(b:Bool)(lo hi:Int)(r:List Nat):List Int:=if r=[] then [] else if b then lo::cS true (lo+1) hi r else hi::cS false lo (hi - 1) r
noncomputable def rL(b:Bool)(lo hi:Int)(r:List Nat):List Int:=if b then cL true (lo+1) hi r else cL false lo (hi - 1) r
theorem rS_t(lo hi:Int)(l:Nat)(r:List Nat):rS true lo hi (l::r)=lo::rS false (lo+1) (hi - (l:Nat)) r:=by
 unfold rS;rw [if_neg (by simp)]
 by_cases hr:r=[]
 ·subst hr;rfl
 ·rw [if_neg hr]
  show lo::cS true (lo+1) hi (l::r)=lo::((hi - (l:Nat))::cS false (lo+1) (hi - (l:Nat) - 1) r)
  rw [cS,if_neg hr];rfl
theorem rS_f(lo hi:Int)(l:Nat)(r:List Nat):rS false lo hi (l::r)=hi::rS true (lo+(l:Nat)) (hi - 1) r:=by
 unfold rS;rw [if_neg (by simp)]
 by_cases hr:r=[]
 ·subst hr;rfl
 ·rw [if_neg hr]
  show hi::cS false lo (hi - 1) (l::r)=hi::((lo+(l:Nat))::cS true (lo+(l:Nat)+1) (hi - 1) r)
  rw [cS,if_neg hr];rfl
theorem rL_t(lo hi:Int)(l:Nat)(r:List Nat):rL true lo hi (l::r)=dnI hi l++rL false (lo+1) (hi - (l:Nat)) r:=rfl
theorem rL_f(lo hi:Int)(l:Nat)(r:List Nat):rL false lo hi (l::r)=rgI lo l++rL true (lo+(l:Nat)) (hi - 1) r:=rfl
theorem Dg{legs:List Nat}(h:legs≠[]):rS true 0 (rem legs:Nat) legs++rL true 0 (rem legs:Nat) legs=cN legs:=by
 unfold rS rL cN;rw [if_neg h];rfl
end L2
namespace L2
theorem bJ{α β:Type}{f:α->β}:∀ {l:List α},l.Nodup->(∀ x∈l,∀ y∈l,f x=f y->x=y)->(l.map f).Nodup
 | [],_,_=>Fh
 | x::l,nd,h=>by
  have nd:=En.mp nd;rw [DJ,En];refine ⟨fun z=> ?_,bJ nd.2 fun a ha b hb=>h a (Dv _ ha) b (Dv _ hb)⟩;obtain ⟨y,hy,e⟩:=DP.mp z;have:=h y (Dv _ hy) x DC e;subst this;exact nd.1 hy
abbrev stG(ps:List Int)(t:Int×Int):Int:=((ps.getD t.1.toNat 0 - ps.getD t.2.toNat 0).natAbs:Nat)
structure Prt(ts:List (Int×Int))(q:Nat)(ps:List Int)(P:Int):Prop where
 p:ps.Perm (rgI 0 (q+1))
 s:(ts.map (stG ps)).Perm (rgI 1 q)
 m:∀ t∈ts,min (ps.getD t.1.toNat 0) (ps.getD t.2.toNat 0)<=P/\P < max (ps.getD t.1.toNat 0) (ps.getD t.2.toNat 0)
 r:∀ t∈ts,0<=t.1/\t.1 < (q:Int)+1/\0<=t.2/\t.2 < (q:Int)+1
 q0:0 < q
theorem Prt.len{ts:List (Int×Int)}{q:Nat}{ps:List Int}{P:Int}(h:Prt ts q ps P):ps.length=q+1:=by rw [h.p.length_eq,aq]
theorem Prt.tlen{ts:List (Int×Int)}{q:Nat}{ps:List Int}{P:Int}(h:Prt ts q ps P):ts.length=q:=by have:=h.s.length_eq;rwa [Dp,aq] at this
theorem jP{l:List Int}{i:Nat}(h:i < l.length):l.getD i 0∈l:=by rw [DB,Do h];exact Ea h
theorem Prt.one{ts:List (Int×Int)}{q:Nat}{ps:List Int}{P:Int}(h:Prt ts q ps P):∃ t∈ts,min (ps.getD t.1.toNat 0) (ps.getD t.2.toNat 0)=P/\max (ps.getD t.1.toNat 0) (ps.getD t.2.toNat 0)=P+1:=by
 have:(1:Int)∈ts.map (stG ps):=h.s.mem_iff.mpr (az.mpr (by have:=h.q0;omega));obtain ⟨t,ht,e⟩:=DP.mp this;have:=h.m t ht;have e:(((ps.getD t.1.toNat 0 - ps.getD t.2.toNat 0).natAbs:Nat):Int)=1:=e;exact ⟨t,ht,by omega,by omega⟩
theorem Prt.max{ts:List (Int×Int)}{q:Nat}{ps:List Int}{P:Int}(h:Prt ts q ps P):fP (ts.map fun t=>min (ps.getD t.1.toNat 0) (ps.getD t.2.toNat 0))=P:=by
 obtain ⟨t,ht,e1,e2⟩:=h.one
 have ne:(ts.map fun t=>min (ps.getD t.1.toNat 0) (ps.getD t.2.toNat 0))≠[]:=fun z=>by rw [List.map_eq_nil_iff] at z;rw [z] at ht;exact absurd ht Et
 obtain ⟨m1,m2⟩:=fc ne;have:=m2 P (DP.mpr ⟨t,ht,e1⟩);obtain ⟨u,hu,e⟩:=DP.mp m1;have:=h.m u hu;omega
theorem Prt.min{ts:List (Int×Int)}{q:Nat}{ps:List Int}{P:Int}(h:Prt ts q ps P):P < eU (ts.map fun t=>Max.max (ps.getD t.1.toNat 0) (ps.getD t.2.toNat 0)):=by
 obtain ⟨t,ht,e1,e2⟩:=h.one
 have ne:(ts.map fun t=>Max.max (ps.getD t.1.toNat 0) (ps.getD t.2.toNat 0))≠[]:=fun z=>by rw [List.map_eq_nil_iff] at z;rw [z] at ht;exact absurd ht Et
 obtain ⟨m1,m2⟩:=dR ne;obtain ⟨u,hu,e⟩:=DP.mp m1;have:=h.m u hu;omega
theorem ky{f:Int->Int}{l:List Int}{i:Nat}(h:i < l.length):(l.map f).getD i 0=f (l.getD i 0):=by
 simp [DB,DL,Do h]
theorem Co{legs:List Nat}(h0:0 < rem legs)(h:legs≠[]):Prt (a9 (cT 0 (legs.length:Nat) legs)) (rem legs) (cN legs) (cP true 1 (rem legs:Nat) legs):=by
 obtain ⟨s1,s2⟩:=AD h;have pm:=bI (cT 0 (legs.length:Nat) legs);refine ⟨wg h,(pm.map _).trans ?_,fun t ht=>s2 t (pm.mem_iff.mp ht),fun t ht=> ?_,h0⟩
 ·refine (Fk s1).trans ?_
  have:=jW (rem legs:Nat) (rem legs);rw [show ((rem legs:Nat):Int) - (rem legs:Nat)+1=1 by omega] at this;exact this
 ·have:=u5 legs 0 (legs.length:Nat) (by omega) t (pm.mem_iff.mp ht)
  unfold rem;have:=DV.mpr h;omega
end L2
namespace L2
theorem yL{a b:List (Int×Int)}(h:a.Perm b):a9 a=a9 b:=by
 unfold a9;rw [Srt.bu (Srt.cM _) (Srt.cM _) ((Srt.bX _).trans ((h.map _).trans (Srt.bX _).symm))]
abbrev iL(legs:List Nat):List Int:=legs.map fun (n:Nat)=>(n:Int)
theorem t7:∀ legs:List Nat,(iL legs).sum=((legs.sum:Nat):Int)
 | []=>rfl
 | l::r=>by show ((l:Nat):Int)+(iL r).sum=_;rw [t7 r,EZ];omega
noncomputable def stT(k fr:Int):List Nat->List (Int×Int)
 | []=>[]
 | l::r=>(rgI fr l).map (fun x=>(k,x))++stT (k+1) (fr+l) r
def iX(a:Int)(n:Nat):List (Int×Int):=(rgI a n).map fun p=>(p,p+1)
theorem Df:∀ (legs:List Nat) (k fr:Int),legs≠[]->(iX k (legs.length - 1)++stT k fr legs).Perm (cT k fr legs)
 | [],_,_,h=>absurd rfl h
 | l::r,k,fr,_=>by
  unfold cT stT
  by_cases hr:r=[]
  ·subst hr
   rw [if_pos rfl,Ec];simp [iX,stT,rgI]
  ·have:=DV.mpr hr
   rw [if_neg hr,Dq,show r.length+1 - 1=(r.length - 1)+1 by omega];have ih:=Df r (k+1) (fr+l) hr
   have e:iX k ((r.length - 1)+1)=(k,k+1)::iX (k+1) (r.length - 1):=by unfold iX;rw [jA,DJ]
   rw [e];rw [Fc];intro a;have:=Fc.mp ih a;simp only [List.count_append,List.count_cons] at this ⊢;omega
def spT(legs:List Nat):List (Int×Int):=iX 0 (legs.length - 1)++stT 0 (legs.length:Nat) legs
theorem l9{legs:List Nat}(h:legs≠[]):(spT legs).Perm (cT 0 (legs.length:Nat) legs):=Df legs 0 _ h
def jy(n:Nat):List (Int×Int):=iX 0 (n - 1)++[(0,(n:Int) - 1)]
def gF(m n:Nat):List (Int×Int):=(rgI 0 m).flatMap fun p=>(rgI (m:Nat) n).map fun x=>(p,x)
structure aH(n:Nat)(ts:List (Int×Int)):Prop where
 r:∀ t∈ts,0<=t.1/\t.1 < t.2/\t.2 < n
 d:ts.Nodup
 l:ts.length<=60
 n0:1<=n
 n:n<=40
theorem jI{α β:Type}{f:α->β}:∀ {l:List α},(l.map f).Nodup->l.Nodup
 | [],_=>Fh
 | x::l,h=>by
  rw [DJ] at h;have h:=En.mp h;exact En.mpr ⟨fun z=>h.1 (DP.mpr ⟨x,z,rfl⟩),jI h.2⟩
theorem aH.perm{n:Nat}{a b:List (Int×Int)}(h:aH n a)(p:a.Perm b):aH n b:=⟨fun t ht=>h.r t (p.mem_iff.mpr ht),p.nodup_iff.mp h.d,by rw [<- p.length_eq];exact h.l,h.n0,h.n⟩
theorem sp_ok{legs:List Nat}(h:legs≠[])(m:legs.length+legs.sum<=40):aH (legs.length+legs.sum) (spT legs):=by
 have hl:=DV.mpr h;refine aH.perm ⟨fun t ht=> ?_,?_,?_,by omega,m⟩ (l9 h).symm
 ·have:=u5 legs 0 (legs.length:Nat) (by omega) t ht
  omega
 ·refine jI (f:=Prod.snd) ((u4 legs 0 _ h).nodup_iff.mpr ?_)
  rw [Ee];refine ⟨b8 _ _,b8 _ _,fun a ha b hb=> ?_⟩;have:=az.mp ha;have:=az.mp hb;omega
 ·rw [AC h];unfold rem;omega
noncomputable def lN(n:Nat)(ts:List (Int×Int)):Bool:=ts.all (fun t=>decide (0<=t.1)&&decide (t.1 < t.2)&&decide (t.2 < (n:Int)))&&decide ts.Nodup&&decide (ts.length<=60)&&decide (1<=n)&&decide (n<=40)
theorem kf{n:Nat}{ts:List (Int×Int)}(h:lN n ts=true):aH n ts:=by
 unfold lN at h;simp only [DM,EE,DK] at h;obtain ⟨⟨⟨⟨h1,h2⟩,h3⟩,h4⟩,h5⟩:=h;exact ⟨fun t ht=>⟨(h1 t ht).1.1,(h1 t ht).1.2,(h1 t ht).2⟩,h2,h3,h4,h5⟩
theorem t8(m n:Nat):(gF m n).length=m * n:=by
 have:∀ i:Nat,((rgI 0 i).flatMap fun p=>(rgI (m:Nat) n).map fun x=>(p,x)).length=i * n:=by
  intro i
  induction i with
  | zero=>simp [rgI]
  | succ i ih=>rw [bL,EU,DD,ih];simp [aq,Nat.add_mul]
 exact this m
theorem zu:∀ {legs:List Nat} {m:Nat},legs.sum<=m->∀ l∈legs,l<=m
 | [],_,_,_,h=>absurd h Et
 | x::r,m,hs,l,h=>by
  rw [EZ] at hs
  rcases Dx.mp h with rfl | h
  ·omega
  ·exact zu (legs:=r) (by omega) l h
theorem vQ{m:Nat}:∀ (ys:List D),(∀ y∈ys,∃ n:Nat,n<=m/\y = .int (n:Nat))->∃ legs:List Nat,ys=nD (iL legs)/\legs.length=ys.length/\∀ l∈legs,l<=m
 | [],_=>⟨[],rfl,rfl,fun _ h=>absurd h Et⟩
 | y::ys,h=>by
  obtain ⟨n,hn,rfl⟩:=h _ DC
  obtain ⟨legs,rfl,e,hl⟩:=vQ ys fun y hy=>h y (Dv _ hy)
  exact ⟨n::legs,rfl,by rw [Dq,Dq,e],fun l hl'=>by
   rcases Dx.mp hl' with rfl | hl'
   ·exact hn
   ·exact hl l hl'⟩
end L2
namespace L2
def jb(m n:Nat):List (Int×Int):=(rgI 0 (m * n)).map fun k=>(k / (n:Nat),(m:Int)+k % (n:Nat))
def sdN(m n:Nat):List Int:=rgI 0 m++(rgI 0 n).map fun k=>(m:Int) * (k+1)
noncomputable def sdB(m n:Nat):Bool:=decide (a9 (gF m n)=jb m n)&&decide (fg ((jb m n).map fun t=>max ((sdN m n).getD t.1.toNat 0) ((sdN m n).getD t.2.toNat 0) - min ((sdN m n).getD t.1.toNat 0) ((sdN m n).getD t.2.toNat 0))=rgI 1 (m * n))&&decide (fP ((jb m n).map fun t=>min ((sdN m n).getD t.1.toNat 0) ((sdN m n).getD t.2.toNat 0)) < eU ((jb m n).map fun t=>max ((sdN m n).getD t.1.toNat 0) ((sdN m n).getD t.2.toNat 0)))
noncomputable def CO:Bool:=(List.range 40).all fun m=>(List.range 40).all fun n=>(decide (m=0)||decide (n=0)||decide (40 < m+n)||decide (60 < m * n))||sdB m n
theorem sd_all:CO=true:=by decide +kernel
theorem CN{m n:Nat}(h1:1<=m)(h2:1<=n)(h3:m+n<=40)(h4:m * n<=60):sdB m n=true:=by
 have h:=sd_all;unfold CO at h;have h:=DK.mp h m (EA.mpr (by omega));have h:=DK.mp h n (EA.mpr (by omega))
 rcases (FE _ _).mp h with h | h
 ·simp only [FE,EE] at h
  omega
 ·exact h
theorem vR{m n:Nat}(h2:1<=n):∀ t∈jb m n,0<=t.1/\t.1 < m/\(m:Int)<=t.2/\t.2 < (m:Int)+n:=fun t ht=>by
 obtain ⟨k,hk,rfl⟩:=DP.mp ht;have hk:=az.mp hk;have e:((m * n:Nat):Int)=(m:Int) * n:=Int.natCast_mul m n;have h1:k / (n:Int) < m:=Int.ediv_lt_of_lt_mul (by omega) (by omega);have h3:=Int.emod_nonneg k (b:=(n:Int)) (by omega);have h4:=Int.emod_lt_of_pos k (b:=(n:Int)) (by omega);have h5:0<=k / (n:Int):=Int.ediv_nonneg (by omega) (by omega);exact ⟨h5,h1,by show (m:Int)<=m+k % n;omega,by show (m:Int)+k % n < _;omega⟩
theorem uy{m n:Nat}(h2:1<=n):(jb m n).Nodup:=by
 refine bJ (b8 _ _) fun x _ y _ e=> ?_
 injection e with e1 e2
 have h1:=Int.mul_ediv_add_emod x n;have h2:=Int.mul_ediv_add_emod y n;rw [e1] at h1;omega
theorem gX(m n:Nat):(jb m n).length=m * n:=by unfold jb;rw [Dp,aq]
theorem vt{m n:Nat}(h1:1<=m)(h2:1<=n)(h3:m+n<=40)(h4:m * n<=60):a9 (gF m n)=jb m n/\aH (m+n) (gF m n):=by
 have h:=CN h1 h2 h3 h4;unfold sdB at h;simp only [DM,EE] at h;refine ⟨h.1.1,aH.perm ⟨fun t ht=> ?_,uy h2,by rw [gX];exact h4,by omega,h3⟩ (by rw [<- h.1.1];exact bI _)⟩;have:=vR h2 t ht;omega
end L2
namespace L2
structure Nm(n:Nat)(ts:List (Int×Int))(ps:List Int):Prop where
 r:∀ t∈ts,0<=t.1/\t.1 < n/\0<=t.2/\t.2 < n
 l:ts.length < 62
 nl:n<=40
 n0:0 < n
 pl:ps.length=n
 d:(dd ps).length=n
 lo:0<=eU ps
 hi:fP ps<=ts.length
 s:fg (ts.map fun t=>max (ps.getD t.1.toNat 0) (ps.getD t.2.toNat 0) - min (ps.getD t.1.toNat 0) (ps.getD t.2.toNat 0))=rgI 1 ts.length
theorem Prt.nm{ts:List (Int×Int)}{q:Nat}{ps:List Int}{P:Int}(h:Prt ts q ps P)(hq:q+1<=40):Nm (q+1) ts ps:=by
 have tl:=h.tlen;have ne:ps≠[]:=List.ne_nil_of_length_pos (by rw [h.len];omega);refine ⟨fun t ht=> ?_,by omega,hq,by omega,h.len,by rw [dZ (h.p.nodup_iff.mpr (b8 _ _)),h.len],?_,?_,?_⟩
 ·have:=h.r t ht
  omega
 ·have:=az.mp (h.p.mem_iff.mp (dR ne).1)
  omega
 ·have:=az.mp (h.p.mem_iff.mp (fc ne).1)
  omega
 ·rw [tl]
  refine pb (List.Perm.trans (Fk (DU fun t ht=> ?_)) h.s)
  show _=(((ps.getD t.1.toNat 0 - ps.getD t.2.toNat 0).natAbs:Nat):Int)
  omega
theorem pV(m n:Nat):(sdN m n).length=m+n:=by unfold sdN;rw [DD,Dp,aq,aq]
theorem vv{m n:Nat}{x:Int}(hx:x∈sdN m n)(h1:1<=m)(h2:1<=n):0<=x/\x<=((m * n:Nat):Int):=by
 unfold sdN at hx;have e:((m * n:Nat):Int)=(m:Int) * n:=Int.natCast_mul m n
 rcases DT.mp hx with hx | hx
 ·have:=az.mp hx
  have:(m:Int) * 1<=(m:Int) * n:=FP (by omega) (by omega);omega
 ·obtain ⟨k,hk,rfl⟩:=DP.mp hx
  have hk:=az.mp hk;have h3:(m:Int) * (k+1)<=(m:Int) * n:=FP (by omega) (by omega);have h4:0<=(m:Int) * (k+1):=Int.mul_nonneg (by omega) (by omega);omega
theorem ww{m n:Nat}(h1:1<=m):(sdN m n).Nodup:=by
 unfold sdN;rw [Ee];refine ⟨b8 _ _,bJ (b8 _ _) fun x _ y _ e=> ?_,fun a ha b hb=> ?_⟩
 ·have:=Int.eq_of_mul_eq_mul_left (by omega:(m:Int)≠0) e
  omega
 ·obtain ⟨k,hk,rfl⟩:=DP.mp hb
  have hk:=az.mp hk;have ha:=az.mp ha;have:(m:Int) * 1<=(m:Int) * (k+1):=FP (by omega) (by omega);omega
theorem sd_nm{m n:Nat}(h1:1<=m)(h2:1<=n)(h3:m+n<=40)(h4:m * n<=60):Nm (m+n) (jb m n) (sdN m n)/\fP ((jb m n).map fun t=>min ((sdN m n).getD t.1.toNat 0) ((sdN m n).getD t.2.toNat 0)) < eU ((jb m n).map fun t=>max ((sdN m n).getD t.1.toNat 0) ((sdN m n).getD t.2.toNat 0)):=by
 have h:=CN h1 h2 h3 h4;unfold sdB at h;simp only [DM,EE] at h;have ne:sdN m n≠[]:=List.ne_nil_of_length_pos (by rw [pV];omega);refine ⟨⟨fun t ht=> ?_,by rw [gX];omega,h3,by omega,pV m n,by rw [dZ (ww h1),pV],(vv (dR ne).1 h1 h2).1,by rw [gX];exact (vv (fc ne).1 h1 h2).2,by rw [gX];exact h.1.2⟩,h.2⟩;have:=vR h2 t ht;omega
def Bi:Bool:=(List.range 38).all fun n=>lN (n+3) (jy (n+3))
theorem yt:Bi=true:=by decide +kernel
theorem kj{n:Nat}(h1:3<=n)(h2:n<=40):lN n (jy n)=true:=by
 have:=DK.mp yt (n - 3) (EA.mpr (by omega));rw [show n - 3+3=n by omega] at this;exact this
end L2
namespace L2
noncomputable def gv(n:Nat):List Int:=(rgI 0 n).map fun p=>if decide (p % 2=0)=true then p / 2+(if decide ((n:Int) % 4=3)=true then (if decide ((n:Int) / 2<=p)=true then 1 else 0) else 0) else (n:Int) - p / 2 - (if decide ((n:Int) % 4=0)=true then (if decide ((n:Int) / 2<=p)=true then 1 else 0) else 0)
noncomputable def lawR(n:Nat):List (Int×Int):=(rgI 0 n).flatMap fun one=>((rgI 0 one.toNat).filter fun other=>decide (other+1=one)||decide (one - other=(n:Int) - 1)).map fun other=>(other,one)
def cntI(n:Nat)(ts:List (Int×Int)):List Int:=(List.range n).map fun j=>((Td.nb (j:Nat) ts).length:Int)
def cy(n:Nat):List (Int×Int):=(0,1)::(0,(n:Int) - 1)::iX 1 (n - 2)
noncomputable def vy(n:Nat):Bool :=
 decide (a9 (jy n)=cy n)&&decide (a9 (lawR n)=cy n) &&
 (if n % 4=0\/n % 4=3 then
   decide ((dd (gv n)).length=n)&&decide (0<=eU (gv n))&&decide (fP (gv n)<=n)&&decide (fg ((cy n).map fun t=>max ((gv n).getD t.1.toNat 0) ((gv n).getD t.2.toNat 0) - min ((gv n).getD t.1.toNat 0) ((gv n).getD t.2.toNat 0))=rgI 1 n)
 else (cntI n (cy n)).all (fun c=>decide (c % 2=0))&&decide ((n:Int) * ((n:Int)+1) / 2 % 2=1))
def ringGo:Bool:=(List.range 38).all fun n=>vy (n+3)
theorem Bh:ringGo=true:=by decide +kernel
theorem vx{n:Nat}(h1:3<=n)(h2:n<=40):vy n=true:=by
 have:=DK.mp Bh (n - 3) (EA.mpr (by omega));rw [show n - 3+3=n by omega] at this;exact this
theorem f7{n:Nat}(h:3<=n):(cy n).length=n:=by unfold cy iX;simp [aq];omega
theorem wC{n:Nat}(h:3<=n):∀ t∈cy n,0<=t.1/\t.1 < t.2/\t.2 < (n:Int):=fun t ht=>by
 unfold cy iX at ht
 rcases Dx.mp ht with rfl | ht
 ·show (0:Int)<=0/\(0:Int) < 1/\(1:Int) < n;omega
 ·rcases Dx.mp ht with rfl | ht
  ·show (0:Int)<=0/\(0:Int) < (n:Int) - 1/\(n:Int) - 1 < n;omega
  ·obtain ⟨p,hp,rfl⟩:=DP.mp ht
   have:=az.mp hp
   show 0<=p/\p < p+1/\p+1 < (n:Int)
   omega
theorem uf{n:Nat}(h1:3<=n)(h2:n<=40):a9 (jy n)=cy n/\a9 (lawR n)=cy n:=by
 have h:=vx h1 h2;unfold vy at h;simp only [DM,EE] at h;exact h.1
theorem Bg{n:Nat}(h1:3<=n)(h2:n<=40)(h3:n % 4=0\/n % 4=3):Nm n (cy n) (gv n):=by
 have h:=vx h1 h2;unfold vy at h;rw [if_pos h3] at h;simp only [DM,EE] at h;obtain ⟨_,⟨⟨a,b⟩,c⟩,d⟩:=h;refine ⟨fun t ht=> ?_,by rw [f7 h1];omega,h2,by omega,by unfold gv;rw [Dp,aq],a,b,by rw [f7 h1];exact c,by rw [f7 h1];exact d⟩;have:=wC h1 t ht;omega
end L2
namespace L2
end L2
namespace L2
section
variable{n:Nat}{ts:List (Int×Int)}{ps us:List Int}{c:Int}
end
end L2
namespace L2
theorem zo{l:List Int}(h:(dd l).length=l.length):l.Nodup:=by
 by_cases nd:l.Nodup
 ·exact nd
 ·exfalso
  have key:∀ {l:List Int},¬ l.Nodup->∃ m:List Int,m.length < l.length/\∀ x,x∈l->x∈m:=by
   intro l
   induction l with
   | nil=>intro h;exact absurd Fh h
   | cons a l ih =>
    intro h
    by_cases ha:a∈l
    ·exact ⟨l,by rw [Dq];omega,fun x hx=>(Dx.mp hx).elim (fun z=>z ▸ ha) id⟩
    ·obtain ⟨m,h1,h2⟩:=ih fun z=>h (En.mpr ⟨ha,z⟩)
     exact ⟨a::m,by rw [Dq,Dq];omega,fun x hx=>(Dx.mp hx).elim (fun z=>by rw [z];exact DC) fun z=>Dv _ (h2 x z)⟩
  obtain ⟨m,h1,h2⟩:=key nd;have:=List.Nodup.length_le_of_subset (dd_nd l) (fun x hx=>h2 x ((Ap l x).mp hx):dd l ⊆ m);omega
structure Stp(n:Nat)(ts:List (Int×Int))(ps:List Int):Prop where
 O:aH n ts
 l:ps.length=n
 d:ps.Nodup
 b:∀ x∈ps,0<=x/\x<=(ts.length:Int)
 s:(ts.map (stG ps)).Perm (rgI 1 ts.length)
section
variable{n:Nat}{ts:List (Int×Int)}{ps:List Int}
theorem Stp.of_nm(O:aH n ts)(h:Nm n ts ps):Stp n ts ps:=by
 have ne:ps≠[]:=fun z=>by have:=h.pl;have:=h.n0;rw [z] at *;simp at *;omega
 refine ⟨O,h.pl,zo (by rw [h.d,h.pl]),fun x hx=> ?_,?_⟩
 ·have h1:=(dR ne).2 x hx
  have h2:=(fc ne).2 x hx;have:=h.lo;have:=h.hi;omega
 ·have e:(ts.map fun t=>max (ps.getD t.1.toNat 0) (ps.getD t.2.toNat 0) - min (ps.getD t.1.toNat 0) (ps.getD t.2.toNat 0))=ts.map (stG ps):=DU fun t _=>by unfold stG;omega
  have s:=h.s;rw [e] at s;rw [<- s];exact (f9 _).symm
theorem Stp.at(h:Stp n ts ps){i:Int}(h0:0<=i)(h1:i < n):ps.getD i.toNat 0∈ps:=jP (by rw [h.l];omega)
theorem Stp.ends(h:Stp n ts ps):(0:Int)∈ps/\(ts.length:Int)∈ps:=by
 have n0:=h.O.n0
 by_cases z:ts.length=0
 ·have hx:=jP (l:=ps) (i:=0) (by rw [h.l];omega)
  have:=h.b _ hx
  have e:ps.getD 0 0=0:=by omega
  rw [e] at hx;rw [z];exact ⟨hx,hx⟩
 ·obtain ⟨t,ht,e⟩:=DP.mp (h.s.mem_iff.mpr (az.mpr (show (1:Int)<=(ts.length:Int)/\(ts.length:Int) < 1+ts.length by omega)))
  have r:=h.O.r t ht;have m1:=h.at r.1 (by omega);have m2:=h.at (i:=t.2) (by omega) r.2.2;have b1:=h.b _ m1;have b2:=h.b _ m2;unfold stG at e
  by_cases c:ps.getD t.1.toNat 0=0
  ·have c2:ps.getD t.2.toNat 0=ts.length:=by omega
   rw [c] at m1;rw [c2] at m2;exact ⟨m1,m2⟩
  ·have c1:ps.getD t.1.toNat 0=ts.length:=by omega
   have c2:ps.getD t.2.toNat 0=0:=by omega
   rw [c1] at m1;rw [c2] at m2;exact ⟨m2,m1⟩
theorem Stp.more{qs:List Int}{p:Nat}{v:Int}(h:Stp n ts ps)(hn:n+1<=40)(hm:ts.length+1<=60)(hp:p < n)(hq:qs.length=n)(same:ts.map (stG qs)=ts.map (stG ps))(nd:(qs++[v]).Nodup)(hb:∀ x∈qs++[v],0<=x/\x<=(ts.length:Int)+1)(hv:((qs.getD p 0 - v).natAbs:Int)=(ts.length:Int)+1) :
 Stp (n+1) (a9 (ts++[((p:Int),(n:Int))])) (qs++[v])/\aH (n+1) (ts++[((p:Int),(n:Int))]):=by
 have O:=h.O
 have O1:aH (n+1) (ts++[((p:Int),(n:Int))]):=⟨fun t ht=>by
  rcases DT.mp ht with ht | ht
  ·have:=O.r t ht;omega
  ·rw [DQ.mp ht]
   show 0<=(p:Int)/\(p:Int) < (n:Int)/\(n:Int) < ((n+1:Nat):Int)
   omega,Ee.mpr ⟨O.d,by simp,fun a ha b hb e=>by
   rw [DQ.mp hb] at e;have:=O.r a ha;rw [e] at this;have:(n:Int) < n:=this.2.2
   omega⟩,by rw [DD];simpa using hm,by omega,hn⟩
 have pm:=bI (ts++[((p:Int),(n:Int))])
 have pl:(a9 (ts++[((p:Int),(n:Int))])).length=ts.length+1:=by rw [pm.length_eq,DD];rfl
 refine ⟨⟨O1.perm pm.symm,by rw [DD,hq];rfl,nd,fun x hx=>by rw [pl];have:=hb x hx;omega,?_⟩,O1⟩;refine (pm.map _).trans ?_;rw [pl,Ev,bL]
 have e1:ts.map (stG (qs++[v]))=ts.map (stG ps):=by
  rw [<- same]
  refine DU fun t ht=> ?_
  have r:=O.r t ht
  have a:∀ j,j < n->(qs++[v]).getD j 0=qs.getD j 0:=fun j hj=>by
   rw [DB,DN (by rw [hq];exact hj),<- DB]
  unfold stG;rw [a _ (by omega),a _ (by omega)]
 have e2:[((p:Int),(n:Int))].map (stG (qs++[v]))=[1+(ts.length:Int)]:=by
  have a:(qs++[v]).getD p 0=qs.getD p 0:=by rw [DB,DN (by rw [hq];exact hp),<- DB]
  have b:(qs++[v]).getD n 0=v:=by rw [DB,Eb (by omega),hq,Fw];rfl
  show [(((qs++[v]).getD (p:Int).toNat 0 - (qs++[v]).getD (n:Int).toNat 0).natAbs:Int)]=_
  rw [show (p:Int).toNat=p by omega,show (n:Int).toNat=n by omega,a,b,hv]
  congr 1
  omega
 rw [e1,e2];exact h.s.append_right _
theorem Stp.above{p:Nat}(h:Stp n ts ps)(hn:n+1<=40)(hm:ts.length+1<=60)(hp:p < n)(h0:ps.getD p 0=(ts.length:Int)):Stp (n+1) (a9 (ts++[((p:Int),(n:Int))])) ((ps.map fun x=>x+1)++[0])/\aH (n+1) (ts++[((p:Int),(n:Int))]):=by
 have hl:=h.l;refine h.more hn hm hp (by rw [Dp];exact h.l) (DU fun t ht=> ?_) (Ee.mpr ⟨bJ h.d fun x _ y _ e=>by omega,by simp,fun a ha b hb e=> ?_⟩) (fun x hx=> ?_) ?_
 ·have r:=h.O.r t ht
  unfold stG;rw [ky (by omega),ky (by omega)];omega
 ·obtain ⟨y,hy,rfl⟩:=DP.mp ha
  rw [DQ.mp hb] at e;have:=h.b y hy;omega
 ·rcases DT.mp hx with hx | hx
  ·obtain ⟨y,hy,rfl⟩:=DP.mp hx
   have:=h.b y hy;omega
  ·rw [DQ.mp hx];omega
 ·rw [ky (by omega),h0]
  omega
theorem Stp.few(h:Stp n ts ps):n<=ts.length+1:=by
 have:=List.Nodup.length_le_of_subset h.d (fun x hx=>az.mpr (by have:=h.b x hx;omega):ps ⊆ rgI 0 (ts.length+1));rw [h.l,aq] at this;exact this
end
end L2
namespace L2
open PySem
theorem sZ{α β:Type}{f:α->β}:∀ {l:List α},l.Pairwise (fun a b=>f a≠f b)->∀ {a b:α},a∈l->b∈l->f a=f b->a=b
 | x::l,h,a,b,ha,hb,e=>by
  obtain ⟨h1,h2⟩:=Ef.mp h
  rcases Dx.mp ha with ea | ha2
  ·rcases Dx.mp hb with eb | hb2
   ·rw [ea,eb]
   ·exact absurd (by rw [<- ea];exact e) (h1 b hb2)
  ·rcases Dx.mp hb with eb | hb2
   ·exact absurd (by rw [<- eb];exact e.symm) (h1 a ha2)
   ·exact sZ h2 ha2 hb2 e
abbrev tn(m t x:Int):Int:=(x+t) % m
theorem jo{m t x:Int}(h0:0<=x)(h1:x < m)(t0:0<=t)(t1:t < m):(x+t < m/\tn m t x=x+t)\/(m<=x+t/\tn m t x=x+t - m):=by
 by_cases h:x+t < m
 ·exact .inl ⟨h,Fn (by omega) h⟩
 ·refine .inr ⟨by omega,?_⟩
  show (x+t) % m=_
  rw [<- Int.sub_emod_right];exact Fn (by omega) (by omega)
abbrev prE(a b:Int):Int×Int:=(min a b,max a b)
theorem vm{m q t x y:Int}(hm:m=2 * q+1)(x0:0<=x)(x1:x < m)(y0:0<=y)(y1:y < m)(t0:0<=t)(t1:t < m)(hs:((x - y).natAbs:Int)<=q) :
 min ((prE (tn m t x) (tn m t y)).2 - (prE (tn m t x) (tn m t y)).1) (m - ((prE (tn m t x) (tn m t y)).2 - (prE (tn m t x) (tn m t y)).1))=((x - y).natAbs:Int):=by
 show min (max (tn m t x) (tn m t y) - min (tn m t x) (tn m t y)) (m - (max (tn m t x) (tn m t y) - min (tn m t x) (tn m t y)))=_
 rcases jo x0 x1 t0 t1 with ⟨a1,a2⟩ | ⟨a1,a2⟩<;>rcases jo y0 y1 t0 t1 with ⟨b1,b2⟩ | ⟨b1,b2⟩<;>rw [a2,b2]<;>omega
theorem mm_sum{a b c d:Int}(e1:min a b=min c d)(e2:max a b=max c d):a+b=c+d:=by omega
theorem vn{m t x:Int}(h0:0<=x)(h1:x < m)(t0:0<=t)(t1:t < m):tn m t x=x+t\/tn m t x=x+t - m:=(jo h0 h1 t0 t1).imp And.right And.right
theorem AT{m q t u x y:Int}(hm:m=2 * q+1)(x0:0<=x)(x1:x < m)(y0:0<=y)(y1:y < m)(t0:0<=t)(t1:t < m)(u0:0<=u)(u1:u < m)(hs:((x - y).natAbs:Int)<=q)(ne:x≠y)
 (e:prE (tn m t x) (tn m t y)=prE (tn m u x) (tn m u y)):t=u:=by
 have s:tn m t x+tn m t y=tn m u x+tn m u y:=mm_sum (congrArg Prod.fst e) (congrArg Prod.snd e);have a:=vn x0 x1 t0 t1;have b:=vn y0 y1 t0 t1;have c:=vn x0 x1 u0 u1;have d:=vn y0 y1 u0 u1;clear e hs ne x0 x1 y0 y1
 rcases a with a | a<;>rcases b with b | b<;>rw [a,b] at s<;>clear a b <;>
 rcases c with c | c<;>rcases d with d | d<;>rw [c,d] at s<;>clear c d<;>omega
abbrev cpT(ts:List (Int×Int))(c:List Int):List (Int×Int):=ts.map fun e=>prE (c.getD e.1.toNat 0) (c.getD e.2.toNat 0)
abbrev cpy(m:Int)(l:List Int)(t:Int):List Int:=l.map fun x=>tn m t x
theorem jQ{m t:Int}{l:List Int}{i:Nat}(h:i < l.length):(cpy m l t).getD i 0=tn m t (l.getD i 0):=by
 rw [DB,DB,DL,Do h];rfl
structure Lab(n:Nat)(ts:List (Int×Int))(m q:Int)(l:List Int):Prop where
 n:l.length=n
 d:l.Nodup
 b:∀ x∈l,0<=x/\x < m
 s:∀ e∈ts,1<=stG l e/\stG l e<=q
section
variable{n:Nat}{ts:List (Int×Int)}{m q:Int}{l l':List Int}
theorem Lab.at(h:Lab n ts m q l)(O:aH n ts){e:Int×Int}(he:e∈ts):(0<=l.getD e.1.toNat 0/\l.getD e.1.toNat 0 < m)/\(0<=l.getD e.2.toNat 0/\l.getD e.2.toNat 0 < m):=by
 have r:=O.r e he;exact ⟨h.b _ (jP (by rw [h.n];omega)),h.b _ (jP (by rw [h.n];omega))⟩
theorem Lab.tie(h:Lab n ts m q l)(O:aH n ts){e:Int×Int}(he:e∈ts)(t:Int):prE ((cpy m l t).getD e.1.toNat 0) ((cpy m l t).getD e.2.toNat 0)=prE (tn m t (l.getD e.1.toNat 0)) (tn m t (l.getD e.2.toNat 0)):=by
 have r:=O.r e he;rw [jQ (by rw [h.n];omega),jQ (by rw [h.n];omega)]
theorem Lab.apart(hm:m=2 * q+1)(h:Lab n ts m q l)(h':Lab n ts m q l')(O:aH n ts){e e':Int×Int}(he:e∈ts)(he':e'∈ts){t t':Int}(t0:0<=t/\t < m)(t1:0<=t'/\t' < m)
 (z:prE ((cpy m l t).getD e.1.toNat 0) ((cpy m l t).getD e.2.toNat 0)=prE ((cpy m l' t').getD e'.1.toNat 0) ((cpy m l' t').getD e'.2.toNat 0)):stG l e=stG l' e':=by
 rw [h.tie O he,h'.tie O he'] at z;obtain ⟨⟨a1,a2⟩,a3,a4⟩:=h.at O he;obtain ⟨⟨b1,b2⟩,b3,b4⟩:=h'.at O he';have s1:=vm hm a1 a2 a3 a4 t0.1 t0.2 (h.s e he).2;have s2:=vm hm b1 b2 b3 b4 t1.1 t1.2 (h'.s e' he').2;rw [z] at s1;exact s1.symm.trans s2
theorem Lab.cpT_nd(hm:m=2 * q+1)(h:Lab n ts m q l)(O:aH n ts)(nd:(ts.map (stG l)).Nodup){t:Int}(t0:0<=t/\t < m):(cpT ts (cpy m l t)).Nodup:=by
 unfold cpT;rw [List.Nodup,FH];rw [List.Nodup,FH] at nd
 refine nd.imp_of_mem fun {e e'} he he' ne z=>ne ?_
 exact h.apart hm h O he he' t0 t0 z
abbrev cps(m:Int)(l:List Int):List (List Int):=(rgI 0 m.toNat).map (cpy m l)
theorem Lab.nd(hm:m=2 * q+1)(hq:0<=q)(h:Lab n ts m q l)(O:aH n ts)(nd:(ts.map (stG l)).Nodup):((cps m l).flatMap (cpT ts)).Nodup:=by
 rw [List.flatMap_map,List.Nodup,List.pairwise_flatMap];refine ⟨fun t ht=>h.cpT_nd hm O nd ?_,(b8 0 _).imp_of_mem fun {t u} ht hu ne x hx y hy z=>ne ?_⟩
 ·have:=az.mp ht;omega
 ·have t0:=az.mp ht
  have u0:=az.mp hu;obtain ⟨e,he,rfl⟩:=DP.mp hx;obtain ⟨e',he',rfl⟩:=DP.mp hy;have s:=h.apart hm h O he he' ⟨by omega,by omega⟩ ⟨by omega,by omega⟩ z
  have ee:e=e':=by
   rw [List.Nodup,FH] at nd;exact sZ nd he he' s
  subst ee;rw [h.tie O he,h.tie O he] at z;obtain ⟨⟨a1,a2⟩,a3,a4⟩:=h.at O he;exact AT hm a1 a2 a3 a4 (by omega) (by omega) (by omega) (by omega) (h.s e he).2 (fun w=>by have:=(h.s e he).1;unfold stG at this;rw [w] at this;simp at this) z
theorem Lab.nd2(hm:m=2 * q+1)(hq:0<=q)(h:Lab n ts m q l)(h':Lab n ts m q l')(O:aH n ts)(nd:(ts.map (stG l)++ts.map (stG l')).Nodup):((cps m l++cps m l').flatMap (cpT ts)).Nodup:=by
 obtain ⟨n1,n2,n3⟩:=Ee.mp nd;rw [EU];refine Ee.mpr ⟨h.nd hm hq O n1,h'.nd hm hq O n2,fun x hx y hy z=> ?_⟩;rw [List.flatMap_map] at hx hy;obtain ⟨t,ht,hx⟩:=List.mem_flatMap.mp hx;obtain ⟨u,hu,hy⟩:=List.mem_flatMap.mp hy;have t0:=az.mp ht;have u0:=az.mp hu;obtain ⟨e,he,rfl⟩:=DP.mp hx;obtain ⟨e',he',rfl⟩:=DP.mp hy;have s:=h.apart hm h' O he he' ⟨by omega,by omega⟩ ⟨by omega,by omega⟩ z;exact n3 _ (DP.mpr ⟨e,he,rfl⟩) _ (DP.mpr ⟨e',he',rfl⟩) s
theorem gk(m:Int)(l:List Int):(cps m l).length=m.toNat:=by rw [Dp,aq]
theorem jR:∀ cs:List (List Int),(cs.flatMap (cpT ts)).length=cs.length * ts.length
 | []=>by simp
 | c::cs=>by rw [E6,DD,jR cs,Dp,Dq,Nat.succ_mul,Nat.add_comm]
theorem Lab.good(h:Lab n ts m q l){c:List Int}(hc:c∈cps m l):c.length=n/\c.Nodup/\∀ x∈c,0<=x/\x<=m - 1:=by
 obtain ⟨t,ht,rfl⟩:=DP.mp hc;have t0:=az.mp ht;refine ⟨by rw [Dp,h.n],bJ h.d fun x hx y hy e=> ?_,fun x hx=> ?_⟩
 ·have hx:=h.b x hx
  have hy:=h.b y hy;have e:tn m t x=tn m t y:=e
  rcases jo hx.1 hx.2 (t:=t) (by omega) (by omega) with ⟨a1,a2⟩ | ⟨a1,a2⟩<;>rcases jo hy.1 hy.2 (t:=t) (by omega) (by omega) with ⟨b1,b2⟩ | ⟨b1,b2⟩<;>rw [a2,b2] at e<;>omega
 ·obtain ⟨y,hy,rfl⟩:=DP.mp hx
  have hy:=h.b y hy
  show 0<=tn m t y/\tn m t y<=m - 1
  rcases jo hy.1 hy.2 (t:=t) (by omega) (by omega) with ⟨a1,a2⟩ | ⟨a1,a2⟩<;>rw [a2]<;>omega
theorem Stp.lab{ps:List Int}(h:Stp n ts ps):Lab n ts (2 * (ts.length:Int)+1) ts.length ps/\(ts.map (stG ps)).Nodup:=by
 refine ⟨⟨h.l,h.d,fun x hx=> ?_,fun e he=> ?_⟩,h.s.nodup_iff.mpr (b8 _ _)⟩
 ·have:=h.b x hx;omega
 ·have:=az.mp (h.s.mem_iff.mp (DP.mpr ⟨e,he,rfl⟩));omega
abbrev upP(p k x:Int):Int:=if p < x then x+k else x
theorem Stp.fold{ps:List Int}{p:Int}(h:Stp n ts ps)(hp:∀ e∈ts,min (ps.getD e.1.toNat 0) (ps.getD e.2.toNat 0)<=p/\p < max (ps.getD e.1.toNat 0) (ps.getD e.2.toNat 0)) :
 Lab n ts (4 * (ts.length:Int)+1) (2 * ts.length) ps/\Lab n ts (4 * (ts.length:Int)+1) (2 * ts.length) (ps.map (upP p ts.length))/\(ts.map (stG ps)++ts.map (stG (ps.map (upP p ts.length)))).Nodup:=by
 obtain ⟨L,nd⟩:=h.lab
 have st:∀ e∈ts,stG (ps.map (upP p ts.length)) e=stG ps e+ts.length:=fun e he=>by
  have r:=h.O.r e he
  have g:∀ i:Nat,i < ps.length->(ps.map (upP p ts.length)).getD i 0=upP p ts.length (ps.getD i 0):=fun i hi=>by
   rw [DB,DB,DL,Do hi];rfl
  unfold stG;rw [g _ (by rw [h.l];omega),g _ (by rw [h.l];omega)];have:=hp e he
  generalize ps.getD e.1.toNat 0=x at *
  generalize ps.getD e.2.toNat 0=y at *
  show (((if p < x then x+(ts.length:Int) else x) - (if p < y then y+(ts.length:Int) else y)).natAbs:Int)=((x - y).natAbs:Int)+ts.length
  by_cases h1:p < x<;>by_cases h2:p < y<;>simp only [h1,h2,if_true,if_false]<;>omega
 refine ⟨⟨h.l,h.d,fun x hx=> ?_,fun e he=> ?_⟩,⟨by rw [Dp,h.l],bJ h.d fun x hx y hy e=> ?_,fun x hx=> ?_,fun e he=> ?_⟩,?_⟩
 ·have:=h.b x hx;omega
 ·have:=L.s e he;omega
 ·have hx:=h.b x hx
  have hy:=h.b y hy;have e:(if p < x then x+(ts.length:Int) else x)=(if p < y then y+(ts.length:Int) else y):=e
  by_cases h1:p < x<;>by_cases h2:p < y<;>simp only [h1,h2,if_true,if_false] at e<;>omega
 ·obtain ⟨y,hy,rfl⟩:=DP.mp hx
  have hy:=h.b y hy
  show 0<=(if p < y then y+(ts.length:Int) else y)/\(if p < y then y+(ts.length:Int) else y) < _
  by_cases h1:p < y<;>simp only [h1,if_true,if_false]<;>omega
 ·rw [st e he]
  have:=L.s e he;omega
 ·have e2:ts.map (stG (ps.map (upP p ts.length)))=(ts.map (stG ps)).map fun x=>x+(ts.length:Int):=by
   rw [Ed]
   exact DU fun e he=>st e he
  rw [e2];refine Ee.mpr ⟨nd,bJ nd fun x _ y _ e=>by omega,fun x hx y hy e=> ?_⟩;obtain ⟨a,ha,rfl⟩:=DP.mp hx;obtain ⟨b,hb,rfl⟩:=DP.mp hy;obtain ⟨c,hc,rfl⟩:=DP.mp hb;have h1:=L.s a ha;have h2:=L.s c hc;omega
theorem qw(q:Nat):(2 * (q:Int)+1) * (2 * (q:Int)+1 - 1) / 2=(((2 * (q:Int)+1).toNat * q:Nat):Int):=by
 rw [show (2 * (q:Int)+1).toNat=2 * q+1 by omega,show (2 * (q:Int)+1) * (2 * (q:Int)+1 - 1)=((2 * q+1) * q:Nat) * 2 by
  rw [show 2 * (q:Int)+1 - 1=(q:Int) * 2 by omega,<- Int.mul_assoc];push_cast;rfl]
 exact Int.mul_ediv_cancel _ (by decide)
end
end L2
set_option linter.all false
private def xp(r:Array String):Nat->Char->List Nat
 | 0,_=>[]
 | k+1,c=>let x:=c.toNat;if x < 80 then [x - 33 - (if x < 35 then 0 else 1)] else if 255 < x&&x < 1024 then [x - 210] else (r.getD (if x < 127 then x - 80 - (if x < 93 then 0 else 1) else x - 978) "").toList.flatMap (xp r k)
set_option hygiene false
set_option compiler.extract_closed false
private def ta:Lean.MacroM (Lean.TSyntax `tactic) := `(tactic| (exact .nil;refine .cons ?_ ?_;exact ⟨rfl,rfl,rfl,by decide +kernel,rfl,by decide +kernel,by decide +kernel⟩;exact qx nd rfl (Or.inl rfl);(simp only [EI,EJ,reduceIte,FG];exact rfl);(with_reducible assumption);(simp only [bw,cE,AX,DR,DX,EI,EJ,List.replicate,Em,Eu,Ew];exact rfl);omega;exact qx (nd_k (by kernel_rfl)) rfl (Or.inl rfl);(simp only [Dq,EK,List.take_succ_cons,List.take_zero,Ew];exact rfl);exact DS (by omega);intro x0 hx0;refine q_eq hu ?_ ?_;exact ⟨rfl,by decide +kernel,by decide +kernel,by decide +kernel,rfl,by decide +kernel,by decide +kernel,by decide +kernel,by decide +kernel⟩;intros;refine Cw (m:=T.tuple) (ha:= ?_);(first | exact Or.inl rfl | exact Or.inr (Or.inl rfl) | exact Or.inr (Or.inr rfl));refine t_eq hu ?_ ?_;have hy0:=az.mp hx0;(simp only [Dp,DD,ET,Dq,EK,Er,EC,aq,List.length_zipIdx,Fj,List.length_reverse] at *;omega);exact Dy (by omega);refine b_len (m:=T.len) (ha:= ?_);refine b_min (m:=T.min) (ha:= ?_);refine zr _ ?_;refine tQ ?_ T.isi T.tuple;refine b_max (m:=T.max) (ha:= ?_);refine CP nd rfl (Or.inr rfl) ?_;refine b_all (m:=T.all) (ha:= ?_);exact uZ (by rfl) T.MOST_PLACES;refine t_ne hu ?_ ?_;(simp only [ini,je,Dq,EK,List.replicate,Em,Eu,Ec,Nat.reduceSub,Fw,Nat.reduceAdd,Ew,reduceCtorEq,reduceIte,Option.some.injEq,Nat.reduceEqDiff,Nat.zero_ne_one,Nat.one_ne_zero];exact rfl);(with_reducible apply cR _ _);refine ar (N:=["thing"]) h ?_ fun f cdv A outer s H E hr nd hu hu1=> ?_;refine zt _ ?_;refine s_item ?_ ?_ rfl ?_;(with_reducible apply Ca _ _);(with_reducible apply zY _);refine s_for rfl ?_ ?_ ?_;refine i_enum (by rfl) T.enumerate ?_;refine CA (m:=T.list) (ha:= ?_);refine ar (N:=["n"]) h ?_ fun f cdv A outer s H E hr nd hu hu1=> ?_;exact mq R_NoKind hr (by rfl);refine Cy (m:=T.sorted) (ha:= ?_);exact uZ (by rfl) T.MOST_TIES;(simp only [kd];exact rfl);unfold js;(simp only [Bool.not_eq_true',Bool.not_eq_false',EE,decide_eq_false_iff_not];omega);refine ar (N:=["web", "thing"]) h ?_ fun f cdv A outer s H E hr nd hu hu1=> ?_;refine i_rng1 (by rfl) T.range ?_;refine ar (N:=["kind", "word"]) h ?_ fun f cdv A outer s H E hr nd hu hu1=> ?_;refine b_sum (m:=T.sum) (ha:= ?_);refine i_rng2 (by rfl) T.range ?_;refine b7 (M:=["legs", "low", "high", "row", "further", "place", "leg"]) (tgs:=["k"]) rfl ?_ ?_ ?_ ?_ ?_;refine dO.ok (osc:=aa (top 62)) (N:=["legs", "low", "high", "row", "further", "place", "leg"]) ?_;refine yn zK nd rfl (Or.inr rfl) ?_;refine yn ip_sub nd rfl (Or.inr rfl) ?_;refine Cz (m:=T.range) (ha:= ?_);refine ar (N:=["web"]) h ?_ fun f cdv A outer s H E hr nd hu hu1=> ?_;refine ar (N:=["kind"]) h ?_ fun f cdv A outer s H E hr nd hu hu1=> ?_;refine ar (N:=["many", "thing"]) h ?_ fun f cdv A outer s H E hr nd hu hu1=> ?_;refine ar (N:=["web", "thing", "q"]) h ?_ fun f cdv A outer s H E hr nd hu hu1=> ?_;refine c_sl10 yk os_s10 ?_ ?_;refine t_in hu ?_ ?_;refine s_dput hu1 ?_ ?_ rfl ?_;exact mq R_NoNumber hr (by rfl);refine b7 (M:=["web", "numbers", "lesser", "greater"]) (tgs:=["a", "b"]) rfl ?_ ?_ ?_ ?_ ?_;refine dO.ok (osc:=aa (top 26)) (N:=["web", "numbers", "lesser", "greater"]) ?_;refine ar (N:=["kind", "web"]) h ?_ fun f cdv A outer s H E hr nd hu hu1=> ?_;refine dO.ok (osc:=aa (top 66)) (N:=["web", "numbering", "count", "grown", "numbers"]) ?_;(simp only [Bool.not_eq_true',Bool.not_eq_false',DM,FE,Bool.and_eq_false_iff,Bool.or_eq_false_iff,EE,decide_eq_false_iff_not];omega);(with_reducible apply xc _);(with_reducible apply zV _);(simp only [eJ,DR,DX,EI,EJ];exact rfl);refine xT ?_ T.isi T.int;refine u7 ?_ T.isi T.bool;refine ar (N:=["web", "numbers"]) h ?_ fun f cdv A outer s H E hr nd hu hu1=> ?_;refine b7 (M:=["web", "numbers"]) (tgs:=["a", "b"]) rfl ?_ ?_ ?_ ?_ ?_;refine dO.ok (osc:=aa (top 24)) (N:=["web", "numbers"]) ?_;refine g_tup rfl ?_;exact .no;refine b_abs (m:=T.abs) (ha:= ?_);refine ar (N:=["web", "seats"]) h ?_ fun f cdv A outer s H E hr nd hu hu1=> ?_;refine b7 (M:=["web", "seats"]) (tgs:=["a", "b"]) rfl ?_ ?_ ?_ ?_ ?_;refine dO.ok (osc:=aa (top 34)) (N:=["web", "seats"]) ?_;refine ar (N:=["many"]) h ?_ fun f cdv A outer s H E hr nd hu hu1=> ?_;exact uZ (by rfl) T.MOST_CUT_TIES;refine ar (N:=["numbers", "size"]) h ?_ fun f cdv A outer s H E hr nd hu hu1=> ?_;refine Cu (M:=["numbers", "size"]) (tgs:=["t"]) rfl ?_ ?_ ?_ ?_ ?_;refine AM.ok (osc:=aa (top 37)) (N:=["numbers", "size"]) ?_;exact ⟨rfl,by decide +kernel,by decide +kernel,by decide +kernel,by decide +kernel,rfl,by decide +kernel,by decide +kernel,by decide +kernel,by decide +kernel,by decide +kernel⟩;exact qx (nd_k (by kernel_rfl)) rfl (Or.inr rfl);refine b7 (M:=["numbers", "size", "t"]) (tgs:=["number"]) rfl (dO.okR (osc:=aa (top 37)) (N:=["numbers", "size", "t"]) ⟨rfl,by decide +kernel,by decide +kernel,by decide +kernel,rfl,by decide +kernel,by decide +kernel,by decide +kernel,by decide +kernel⟩) ?_ ?_ ?_ ?_;refine CP nd rfl (Or.inl rfl) ?_;refine ar (N:=["first", "last"]) h ?_ fun f cdv A outer s H E hr nd hu hu1=> ?_;refine b7 (M:=["first", "last"]) (tgs:=["place"]) rfl ?_ ?_ ?_ ?_ ?_;refine dO.ok (osc:=aa (top 50)) (N:=["first", "last"]) ?_;refine ar (N:=["middle", "first", "last"]) h ?_ fun f cdv A outer s H E hr nd hu hu1=> ?_;refine b7 (M:=["middle", "first", "last"]) (tgs:=["place"]) rfl ?_ ?_ ?_ ?_ ?_;refine dO.ok (osc:=aa (top 51)) (N:=["middle", "first", "last"]) ?_;refine ar (N:=["legs", "low", "high", "row", "further", "place", "leg"]) h ?_ fun f cdv A outer s H E hr nd hu hu1=> ?_;refine ar (N:=["m", "n"]) h ?_ fun f cdv A outer s H E hr nd hu hu1=> ?_;refine b7 (M:=["m", "n"]) (tgs:=["k"]) rfl ?_ ?_ ?_ ?_ ?_;refine dO.ok (osc:=aa (top 63)) (N:=["m", "n"]) ?_;refine ar (N:=["n", "numbers", "place", "skipped"]) h ?_ fun f cdv A outer s H E hr nd hu hu1=> ?_;refine ar (N:=["script", "k"]) h ?_ fun f cdv A outer s H E hr nd hu hu1=> ?_;refine ar (N:=["seed"]) h ?_ fun f cdv A outer s H E hr nd hu hu1=> ?_;refine ar (N:=["cell", "left"]) h ?_ fun f cdv A outer s H E hr nd hu hu1=> ?_;refine b_int (m:=T.int) (ha:= ?_);refine ar (N:=["thing", "least", "most"]) h ?_ fun f cdv A outer s H E hr nd hu hu1=> ?_;refine Cv vO vO vN vN ?_ ?_ ?_;refine b7 (M:=["web"]) (tgs:=["others"]) rfl ?_ ?_ ?_ ?_ ?_;refine dO.ok (osc:=aa (top 18)) (N:=["web"]) ?_;refine ar (N:=["web", "numbering", "q"]) h ?_ fun f cdv A outer s H E hr nd hu hu1=> ?_;refine ar (N:=["web", "numbering", "lesser", "step", "tie", "number"]) h ?_ fun f cdv A outer s H E hr nd hu hu1=> ?_;refine b7 (M:=["web", "numbering", "lesser", "step", "tie", "number"]) (tgs:=["end"]) rfl ?_ ?_ ?_ ?_ ?_;refine dO.ok (osc:=aa (top 39)) (N:=["web", "numbering", "lesser", "step", "tie", "number"]) ?_;refine ar (N:=["legs", "ties", "further", "place", "leg"]) h ?_ fun f cdv A outer s H E hr nd hu hu1=> ?_;refine yn zK nd rfl (Or.inl rfl) ?_;refine s_retV rfl ?_;refine ar (N:=["m", "n", "ties", "place"]) h ?_ fun f cdv A outer s H E hr nd hu hu1=> ?_;refine ar (N:=["n", "ties", "place"]) h ?_ fun f cdv A outer s H E hr nd hu hu1=> ?_;refine ar (N:=["pen", "many", "found"]) h ?_ fun f cdv A outer s H E hr nd hu hu1=> ?_;refine ar (N:=["things", "least", "most"]) h ?_ fun f cdv A outer s H E hr nd hu hu1=> ?_;refine b7 (M:=["things", "least", "most"]) (tgs:=["thing"]) rfl ?_ ?_ ?_ ?_ ?_;refine dO.ok (osc:=aa (top 10)) (N:=["things", "least", "most"]) ?_;refine b_set (m:=T.set) (ha:= ?_);refine b7 (M:=["web", "thing", "q"]) (tgs:=["count"]) rfl ?_ ?_ ?_ ?_ ?_;refine dO.ok (osc:=aa (top 28)) (N:=["web", "thing", "q"]) ?_;refine b7 (M:=["thing"]) (tgs:=["leg"]) rfl ?_ ?_ ?_ ?_ ?_;refine dO.ok (osc:=aa (top 46)) (N:=["thing"]) ?_;refine ar (N:=["leasts", "things"]) h ?_ fun f cdv A outer s H E hr nd hu hu1=> ?_;refine b7 (M:=["leasts", "things"]) (tgs:=["least", "thing"]) rfl ?_ ?_ ?_ ?_ ?_;refine dO.ok (osc:=aa (top 47)) (N:=["leasts", "things"]) ?_;refine i_zip (by rfl) T.zip ?_;refine ar (N:=["pen", "way", "one", "legs"]) h ?_ fun f cdv A outer s H E hr nd hu hu1=> ?_;refine kh (M:=["pen", "way", "one", "legs"]) (tgs:=["k"]) rfl ?_ ?_ ?_ ?_ ?_ nd rfl rfl;refine dO.ok (osc:=aa (top 73)) (N:=["pen", "way", "one", "legs"]) ?_;refine b7 (M:=["many", "thing"]) (tgs:=["end"]) rfl ?_ ?_ ?_ ?_ ?_;refine dO.ok (osc:=aa (top 15)) (N:=["many", "thing"]) ?_;refine ar (N:=["web", "bar"]) h ?_ fun f cdv A outer s H E hr nd hu hu1=> ?_;exact c_gk (by rfl) T.STEP_BARS;refine ar (N:=["web", "size", "thing"]) h ?_ fun f cdv A outer s H E hr nd hu hu1=> ?_;refine ar (N:=["web", "numbering", "one", "other", "q", "size"]) h ?_ fun f cdv A outer s H E hr nd hu hu1=> ?_;exact mq R_NoPlace hr (by rfl);refine ar (N:=["thing", "word"]) h ?_ fun f cdv A outer s H E hr nd hu hu1=> ?_;refine xS ?_ T.isi T.str;refine t_kin (neg:=true) M_LEAST_NUMBERS (by rfl) ?_ (by rfl);refine c_kget M_LEAST_NUMBERS (by rfl) ?_;refine ar (N:=["many", "things", "told", "number", "thing", "tie"]) h ?_ fun f cdv A outer s H E hr nd hu hu1=> ?_;refine ar (N:=["web", "size", "thing", "told", "copied", "tie"]) h ?_ fun f cdv A outer s H E hr nd hu hu1=> ?_;refine u6 ?_ T.isi T.list;refine ar (N:=["web", "numbering", "cut", "size", "tally", "one", "other", "turn", "tie", "copy", "ends"]) h ?_ fun f cdv A outer s H E hr nd hu hu1=> ?_;refine kh (M:=["web", "numbering", "cut", "size", "tally", "one", "other", "turn", "tie", "copy", "ends"]) (tgs:=["place"]) rfl ?_ ?_ ?_ ?_ ?_ nd rfl rfl;refine dO.ok (osc:=aa (top 74)) (N:=["web", "numbering", "cut", "size", "tally", "one", "other", "turn", "tie", "copy", "ends"]) ?_;refine ar (N:=["web", "numbers", "lesser", "greater"]) h ?_ fun f cdv A outer s H E hr nd hu hu1=> ?_;refine ar (N:=["web", "place", "count", "many", "room"]) h ?_ fun f cdv A outer s H E hr nd hu hu1=> ?_;refine ar (N:=["web", "numbers", "parting"]) h ?_ fun f cdv A outer s H E hr nd hu hu1=> ?_;refine ar (N:=["web", "numbering", "count", "grown", "numbers"]) h ?_ fun f cdv A outer s H E hr nd hu hu1=> ?_;refine Cs (i:=1) ?_ rfl ?_;refine b7 (M:=["web", "numbering", "count", "grown", "numbers"]) (tgs:=["number"]) rfl ?_ ?_ ?_ ?_ ?_;refine b7 (M:=["web", "numbering", "count", "grown", "numbers"]) (tgs:=["k"]) rfl ?_ ?_ ?_ ?_ ?_;refine ar (N:=["web", "numbering", "folds", "q", "parting", "size", "copies", "fold", "folded"]) h ?_ fun f cdv A outer s H E hr nd hu hu1=> ?_;exact qx nd rfl (Or.inr rfl);refine kh (M:=["web", "numbering", "folds", "q", "parting", "size", "copies", "fold", "folded"]) (tgs:=["number"]) rfl ?_ ?_ ?_ ?_ ?_ nd rfl rfl;refine dO.ok (osc:=aa (top 40)) (N:=["web", "numbering", "folds", "q", "parting", "size", "copies", "fold", "folded"]) ?_;refine fn_okV (N:=["script", "cell", "pen", "kind", "web", "numbering", "size", "cut", "more", "numbers", "parted"]) h ?_ fun f cdv A outer s H E hr nd hu hu1=> ?_;refine c_sl11 yk os_s11 ?_;skip))
private def tb(k:Nat)(i:Lean.Ident):Lean.MacroM (Lean.TSyntax `tactic):=match k with | 0 => `(tactic| with_reducible apply $i) | 1 => `(tactic| exact $i) | 2 => `(tactic| refine $i ?_) | 3 => `(tactic| refine $i ?_ ?_) | 4 => `(tactic| refine $i ?_ ?_ ?_) | 5 => `(tactic| exact $i _) | 6 => `(tactic| apply $i) | 7 => `(tactic| intro $i:ident) | 8 => `(tactic| refine AB uR $i hr (by decide) (by rfl) ?_) | _ => `(tactic| refine AB uQ $i hr (by decide) (by rfl) ?_)
private def tc:Array (Nat×Lean.Name) := #[(1,`rfl),(2,`cb_ex),(0,`yz),(1,`ca_nil),(5,`vb),(0,`CT),(0,`r_op),(0,`r_opT),(5,`v),(2,`s_one),(0,`r_ret),(3,`b_add),(0,`r_nilM),(6,`Eq.trans),(3,`s_cons),(0,`r_c),(3,`b_sub),(1,`s_nil),(0,`yy),(1,`e),(1,`c_int),(0,`r_nil),(0,`r_lst),(0,`p6),(0,`r_exM),(3,`g_cons),(2,`w_or1),(0,`Bt),(0,`r_call),(0,`h),(0,`r_ifF),(1,`g_nil),(3,`b_mul),(0,`mF),(1,`g),(0,`ex_seq),(3,`b_ix),(1,`c_bl),(0,`r_tup),(2,`c_one),(3,`b_fdiv),(0,`r_orF),(1,`g1),(1,`c_non),(0,`ui),(0,`r_for),(0,`r_expr),(1,`e0),(1,`h),(1,`g2),(0,`h1),(0,`h2),(2,`i_seq),(2,`s_expr),(0,`r_tru),(0,`Br),(6,`lp_mk),(1,`ex),(0,`r_aug),(1,`ln),(0,`ud),(0,`nG),(1,`c),(1,`ge),(1,`q1),(3,`c_and),(4,`c_if),(8,`G16),(1,`al),(0,`qA),(0,`Bo),(0,`r_seqR),(0,`r_ifT),(1,`h1),(0,`xX),(1,`e1),(0,`r_ieI),(1,`w),(1,`ix),(1,`m1),(0,`yB),(1,`s_none),(3,`b_mod),(1,`c_str),(2,`c_lst),(3,`ya),(9,`G5),(0,`Bq),(0,`uc),(1,`st),(0,`r_retO),(1,`h2),(1,`h3),(0,`eh),(0,`Cb),(1,`gl),(1,`ga),(1,`m2),(0,`r_asg),(1,`c1),(1,`c2),(1,`cu),(3,`Cr),(3,`t_gt),(3,`w_or),(3,`t_lt),(8,`G51),(8,`G12),(9,`G27),(9,`G47),(9,`G0),(0,`CS),(1,`gi),(1,`up),(0,`r_dnew),(0,`Bl),(1,`e2),(1,`r),(0,`r_zipE),(1,`sm),(0,`xj),(1,`hl),(1,`ad),(0,`ig),(1,`a),(1,`b),(0,`r_retF),(0,`r_fnN),(1,`gq),(1,`gm),(0,`Cd),(0,`r_ieT),(1,`ci),(1,`t),(1,`mu),(1,`fd),(1,`p1),(1,`p2),(1,`ca),(1,`f),(0,`rq_ret),(0,`tPen),(1,`wf),(1,`sf),(1,`dr),(1,`q2),(1,`pr),(1,`cm),(1,`cg),(0,`ex_one),(4,`s_if),(3,`t_ge),(8,`G14),(8,`G27),(8,`G17),(8,`G47),(2,`k_tru),(8,`G6),(8,`G49),(8,`G10),(8,`G2),(1,`Ct),(3,`t_is),(3,`q_le),(8,`G25),(8,`G3),(3,`s_asg),(8,`G1),(8,`G4),(8,`G40),(9,`G7),(0,`r_fn),(0,`yC),(0,`r_notV),(0,`Bs),(0,`r_not),(0,`vA),(1,`mn),(1,`mx),(0,`tt),(0,`tm),(1,`sr),(6,`el_mk),(0,`Bn),(0,`jB),(0,`xk),(0,`Bm),(1,`hm),(1,`h4),(0,`qz),(0,`iV),(1,`mi),(0,`uH),(0,`gMul_l),(0,`r_fnX),(0,`r_raise),(1,`hn),(1,`s0),(0,`r_loopR),(0,`r_orT),(1,`m),(1,`md),(0,`r_andV),(0,`Cf),(0,`kY),(0,`uG),(0,`sR),(0,`r_andVF),(1,`gd),(1,`gx),(1,`gz),(0,`r_loopN),(1,`s),(1,`h0),(1,`tr),(1,`u),(1,`tt),(1,`so),(1,`i1),(1,`u1),(1,`i2),(1,`u2),(1,`hi2),(1,`rg),(1,`g3),(0,`r_ieF),(1,`fr),(1,`tu),(0,`tr),(1,`ck),(1,`pa),(1,`m3),(1,`m4),(1,`hK'),(0,`lS),(0,`tDraw),(6,`elA_mk),(1,`hx),(1,`q3),(1,`nr),(1,`pf),(1,`f1),(1,`nc),(1,`f2),(1,`ti),(0,`yo),(0,`tCell0),(0,`sN),(0,`uJ),(2,`s_ret),(2,`c_not),(2,`c_tup),(2,`JW.t),(3,`q_ge),(3,`b_pow),(8,`G11),(8,`G44),(8,`G48),(3,`AA),(8,`G43),(8,`G42),(3,`q_gt),(8,`G34),(2,`k_not),(9,`G16),(9,`G10),(8,`G54),(9,`G53),(3,`t_le),(8,`G22),(8,`G46),(8,`G32),(8,`G26),(8,`G31),(8,`G20),(8,`G35),(8,`G23),(9,`G15),(8,`G33),(9,`G18),(9,`G38),(8,`G19),(8,`G30),(8,`G13),(9,`G8),(8,`G37),(8,`G21),(8,`G24),(8,`G41),(8,`G9),(8,`G52),(9,`G48),(9,`G45),(9,`G36),(9,`G55),(9,`G4),(9,`G28),(9,`G50),(9,`G39),(9,`G29)]
private def xg(q:Array Lean.Syntax):List Nat->Lean.MacroM (Array (Lean.TSyntax `tactic))
 | []=>return #[]
 | i::l=>do let a <- (match tc[i]? with | some (k,n)=>tb k (Lean.mkIdent n) | none=>pure ⟨q.getD (2 * (i - tc.size)) .missing⟩);let b <- xg q l;return #[a]++b
local macro_rules
 | `(tactic| trace $s:str)=>do
  let q <- ta
  let a <- xg q.raw[1][0][0].getArgs (s.getString.toList.flatMap (xp #["T!", "ĸ#", "o%", "'(", "!!", "#6", "!Ȃ", ">]", "+ǋ", "0ɚ", "$!", "", "_Z", "!7", "ž!", "-#", "oR", "/ŽȜ", "kė!", "TȂ", "&U", "&&", "#|", "ȀY", ">_", "0Ũ", "SЅ", "u(", "3X", "ЄZ", "ĸ&", "&#", "b,", "'i", ":Ѭ", "ёК", "4Ł", "ȅȅ", "!Z", ":(", "S]", "bu", "rК", "Fe", "Є$", "Ѳ)", "TT", "ȀX", "ȋĆ", "e%", "'1", "_n", "c$", "]T", ":1", "SК", "ȌȆо", "_К", "ђ(", "EŁ", "ѳ%", "('", "ęѫ", "iК", ".P", "Ѕ!", ".!", "_Ї", "рR", "ȮR", "0ȣ", "ǿ6", "]!", "Z!", "Ǎǿ", "9T", "Ɍ;", "2#", "Ѧ3", "oQ", "Ѷ#", "SЄ", "kw", "ƂȄ", "ĀƉ!", "~Ѿ", ",>", ",(", "kѽ", "Ɛȉ", "ѵт", "!}", "Ĥ#", "ǿ*", "eU", "0ć", "є%", "ƁĈ", "ѧO", "ƌ]", "n^", "w^", "Ѹn", "Qу", "ѺѨ", "Ў3", "BU", "Мĥ", "ȌɍȌ", "ĸU", "#ȓ", "jȏ", "Іį", "Ff", "ѩЉѿ", "ѰЇ", "ѵѱ", "@)", "_'ѷ.Z", "V~", "ĢЅҀ", "+Ũ", "ȓЎ", "oС", "+ɴȎ", "#Ħ", "ѪТ", "S_", "ƈȄ", "Ѕė", "oп", "ĂЀ", "Ѳг", "ƊȄ", "!$", "Џѯ", "Аѭ", "Іѕ", "T$", "}ѽ", "ѻ:", "ѯ(", "У]", "Ёē", "*Њ", "ĦǾ", "ȏҁ", "R%", "XG", "V4", "ĥX", "Ѯг", "jǎĺ", "Ě)", "9!", "ЅT", "ѲK", "CN", "Sё", "ѓd", "4@", "Q|", "}ȝ", "bl", "ǙŮ", "HЈ", "Ɠv", "!Ɇ", "сp", ",ѷ", "Əȅ", "ѼѴ", "ѭ7", "Л)", "ƽvѹ", "#Ĥ"] 99))
  `(tactic| ($[$a];*))
set_option compiler.extract_closed true
set_option hygiene true
namespace K74
open PySem L2 PyProof.Rows
noncomputable def top(i:Nat):Stmt:=PySem.Challenge.pw_tienumbers_k74_whole_cuts_and_places.main.body.getD i (.Pass ⟨0,0,0,0⟩)
def kX:D:= .ktup [.ktup [.str "places"],.ktup [.str "even"]]
def bd:List Key:=[.inr "ring",.inr "sides",.inr "full",.inr "wheel",.inr "fan"]
def be:List D:=[.ktup [.int 3],.ktup [.int 1,.int 1],.ktup [.int 1],.ktup [.int 3],.ktup [.int 1]]
structure Txt(K:F2)(mg:Str->Option Value):Prop where
 abs:mg "abs" = none
 all:mg "all" = none
 bool:mg "bool" = none
 enumerate:mg "enumerate" = none
 int:mg "int" = none
 isi:mg "isinstance" = none
 len:mg "len" = none
 list:mg "list" = none
 max:mg "max" = none
 min:mg "min" = none
 range:mg "range" = none
 set:mg "set" = none
 sorted:mg "sorted" = none
 str:mg "str" = none
 sum:mg "sum" = none
 tuple:mg "tuple" = none
 zip:mg "zip" = none
 MOST_CUT_TIES:∃ t,mg "MOST_CUT_TIES" = some (.int 30 t)
 MOST_PLACES:∃ t,mg "MOST_PLACES" = some (.int 40 t)
 MOST_TIES:∃ t,mg "MOST_TIES" = some (.int 60 t)
 STEP_BARS:∃ a,mg "STEP_BARS" = some (.ref a)/\∀ H,ay K H kX (.ref a)
section
variable{P:Program}{w:World}{K:F2}{mg:Str->Option Value}{base:Heap}
noncomputable def mr:SS:=(ao (ce (sOp (gY "int") [.bor 0]) (gJ (sOp (gY "bool") [.bor 0]))))
noncomputable def gf:FS:=ak 1 1 none mr
abbrev nU:=OkY "is_whole" ["thing"] 1 none gf
theorem r6(h:Has K mg "is_whole" (top 8) ["thing"])(T:Txt K mg):nU P w K mg base:=by
 trace "Ȟѡɇ&IǌɈ&"
open L2.Td in
theorem pW:cW ["web", "tied", "a", "b"] ["web"] (aa (top 19)):=⟨rfl,rfl,rfl,by decide +kernel,rfl,by decide +kernel,by decide +kernel⟩
open L2.Td in
noncomputable def Be:Scope:={ kind:= .function,names:=[(".0",.local),("place",.local)],isGenerator:=false,isCoroutine:=false,more:=[] }
open L2.Td in
theorem AE:dO (aa (top 19)) ["web", "tied", "a", "b"] Be ["web", "tied", "a", "b"] ["place"]:=⟨rfl,by decide +kernel,by decide +kernel,by decide +kernel,rfl,by decide +kernel,by decide +kernel,by decide +kernel,by decide +kernel⟩
open L2.Td in
theorem BW(h:Has K mg "tied_places" (top 19) ["web"])(T:Txt K mg):Ok P w K mg base "tied_places" ["web"] 1 (yj K):=by
 refine h.ok pW (fun vs H Q E h=> ?_) (fun f cdv A outer s H vs Q E hr h=> ?_)
 ·obtain ⟨wb,many,ties,rfl,_⟩:=h;rfl
 ·obtain ⟨wb,many,ties,rfl,web,m0,m1,q⟩:=h
  obtain ⟨t,bs,h1,h2,h3⟩:=web.at_;have bl:bs.length=ties.length:=Paired.length h3;have lt60:ties.length<=60:=web.len
  refine ⟨_,jD (mJ (j:=1) (M:=["web", "tied", "a", "b"]) (tgs:=["place"]) rfl AE.ok (oZ (by rfl) T.range (dw (rR uB (pv 0) mM (fun _ _=>rfl)) fA))
   (fun cl C fp s H=>lU (i:=4) AE.nd rfl (Or.inl rfl)) (fun cl C fp s H=>pif0) (fun cl C fp s H=>yU fA) pW.nd rfl rfl)
   (jD (yM PassesOwn.never rfl (pi_tup (rR uB (pv 0) mM (fun _ _=>rfl))) (yS rfl (mL (lU (i:=2) pW.nd rfl (Or.inl rfl)) (mL (lU (i:=3) pW.nd rfl (Or.inl rfl)) vK)))
     (jD (p9 (vM Fz PySem.F.slot_list_append PySem.F.type_list_append kq (rR qq (pv 1) (pv 2) (fun _ _=>rfl)) (dw (pv 3) fA)))
     (p8 (p9 (vM Fz PySem.F.slot_list_append PySem.F.type_list_append kq (rR qq (pv 1) (pv 3) (fun _ _=>rfl)) (dw (pv 2) fA))))))
   (p8 (um (pv 1)))),?_⟩
  refine ⟨_,rfl,wb,[.int many,.ref t],0,_,rfl,rfl,.inl (.inl h1),rfl,many,rfl,by omega,by omega,?_⟩;refine uN (n:=many.toNat) (fun k ys H'=>ac H H'/\∃ ls:List Addr,ys=ls.map V.ref/\ls.length=k/\ls.Nodup/\∀ l∈ls,H l=none/\H' l=some (.lst [])) ⟨ac.refl H,[],rfl,rfl,Fh,fun l hl=>by cases hl⟩ (fun k ys H' hk pv=> ?_) (fun k ys H' hk pv=> ?_) (fun ys H' pv p hp=> ?_)
  ·obtain ⟨_,ls,rfl,e,_⟩:=pv
   rw [Dp,e];exact E9 (df (by omega))
  ·obtain ⟨e,ls,rfl,el,nd,ea⟩:=pv
   refine ⟨rfl,by show 0<=sizeLine;decide,fun l hl=> .mk hk ⟨e.trans (ac.upd hl),ls++[l],by simp,by simp [el],?_,fun l' hl'=> ?_⟩⟩
   ·refine Ee.mpr ⟨nd,by simp,fun a ha b hb=> ?_⟩
    have:b=l:=by simpa using hb
    subst this;exact aj (ea a ha).2 hl
   ·rcases DT.mp hl' with hl' | hl'
    ·exact ⟨(ea l' hl').1,ac.upd hl _ _ (ea l' hl').2⟩
    ·have:l'=l:=by simpa using hl'
     subst this;exact ⟨e.free hl,av⟩
  ·obtain ⟨e,ls,rfl,el,nd,ea⟩:=pv
   have A0:Adj H p ls [] (upd H' p (.lst (ls.map V.ref))):=by
    have np:∀ l∈ls,l≠p:=fun l hl=>aj (ea l hl).2 hp
    refine ⟨e.trans (ac.upd hp),av,nd,fun z=>np p z rfl,e.free hp,fun l hl=>(ea l hl).1,fun j l hj=> ?_⟩;have hl:=DF hj;rw [ai (np l hl)];exact (ea l hl).2
   have s0:=A0.same;refine ⟨_,rfl,wb,[.int many,.ref t],1,_,rfl,rfl,.inl (.inl (s0 _ _ h1)),rfl,t,rfl,⟨bs,.inl (.inl (s0 _ _ h2))⟩,?_⟩;refine Cg (K:=K) (a:=t) (xs:=bs) (fun k σ H'=>∃ v2 v3,σ=[some (.ref wb),some (.ref p),v2,v3]/\Adj H p ls (ties.take k) H') ⟨none,none,rfl,A0⟩ (fun k σ H' hk ⟨_,_,_,A⟩=> .inl (.inl (A.same _ _ h2))) ?_ ?_
   ·rintro k x σ H2 hk ⟨v2,v3,rfl,A⟩
    obtain ⟨tt,ht,a,rfl,ha⟩:=Paired.get h3 hk;obtain ⟨g1,g2,g3⟩:=web.good tt (DF ht);obtain ⟨na,ea'⟩:∃ n:Nat,tt.1=n:=⟨tt.1.toNat,by omega⟩;obtain ⟨nb',eb'⟩:∃ n:Nat,tt.2=n:=⟨tt.2.toNat,by omega⟩;have la:ls[na]?=some ls[na]:=Do (by omega);have lb:ls[nb']?=some ls[nb']:=Do (by omega);have hla:=A.lst na _ la;have hlb:=A.lst nb' _ lb
    have nab:ls[na]≠ls[nb']:=fun z=>by
     have:=A.inj la (z ▸ lb);omega
    have lenN:∀ j:Int,(nb j (ties.take k)).length<=60:=fun j=>by
     have:=zp j (ties.take k);rw [EY] at this;omega
    refine ⟨a,[.int tt.1,.int tt.2],rfl,.inl (.inl (A.same _ _ ha)),rfl,_,_,rfl,_,_,rfl,rfl,?_⟩;refine ⟨_,rfl,_,rfl,p,ls.map V.ref,tt.1,.ref ls[na],rfl,rfl,.inl (.inl A.at_),by rw [ea'];exact wj (by rw [DL,la];rfl),?_⟩;refine ⟨.inl ⟨rfl,_,.inl (.inl hla)⟩,_,rfl,ls[na],_,_,rfl,rfl,hla,df (by rw [Dp];have:=lenN na;omega),?_⟩
    have p2:(upd H2 ls[na] (.lst ((nb na (ties.take k)).map V.int++[.int tt.2]))) p=some (.lst (ls.map V.ref)):=by
     rw [ai (fun z:p=ls[na]=>A.np (by rw [z];exact Ea _))];exact A.at_
    have hlb2:(upd H2 ls[na] (.lst ((nb na (ties.take k)).map V.int++[.int tt.2]))) ls[nb']=some (.lst ((nb nb' (ties.take k)).map V.int)):=by
     rw [ai (Ne.symm nab)];exact hlb
    refine ⟨_,rfl,_,rfl,p,ls.map V.ref,tt.2,.ref ls[nb'],rfl,rfl,.inl (.inl p2),by rw [eb'];exact wj (by rw [DL,lb];rfl),?_⟩;refine ⟨.inl ⟨rfl,_,.inl (.inl hlb2)⟩,_,rfl,ls[nb'],_,_,rfl,rfl,hlb2,df (by rw [Dp];have:=lenN nb';omega),?_⟩;refine ⟨_,_,rfl,?_⟩;have st:=A.step la lb (by omega)
    have e1:ties.take (k+1)=ties.take k++[((na:Int),(nb':Int))]:=by
     rw [List.take_add_one,ht]
     show _++[tt]=_
     rw [<- ea',<- eb']
    rw [e1,ea',eb'];rw [Ev,Ev] at st;exact st
   ·rintro σ H2 ⟨v2,v3,rfl,A⟩
    refine ⟨_,rfl,q p ls H2 el ?_⟩;rw [bl,List.take_length] at A;exact A
noncomputable def iD:FS:=Td.sV
abbrev iF:=OkY "tied_places" ["web"] 1 none iD
theorem mQ(h:Has K mg "tied_places" (top 19) ["web"])(T:Txt K mg):iF P w K mg base:=Td.tied_x (BW h T)
noncomputable def eX:SS:=(ao (ce (sOp (gY "tuple") [.bor 1]) (sOp gEq [.ex (sOp bi [.bor 1]),.ex (sOp gIx [.bor 0,.ex (sC (.int 0))])])))
noncomputable def bV:FS:=ak 2 2 none eX
abbrev ft:=OkY "places_numbered" ["web", "thing"] 1 none bV
theorem i7(h:Has K mg "places_numbered" (top 23) ["web", "thing"])(T:Txt K mg):ft P w K mg base:=by
 trace "ȭѡȖ&IȊЖg"
noncomputable def mm:SS:=(ao (aJ 2 (bf (sOp gIx [.bor 0,.ex (sC (.int 1))])) (.tp [(.nm 2),(.nm 3)]) none (sOp zZ [.ex (sOp bg [.ex (sOp gIx [.bor 1,.bor 2]),.ex (sOp gIx [.bor 1,.bor 3])])])))
noncomputable def du:FS:=ak 2 2 none mm
abbrev ji:=OkY "steps_by" ["web", "numbers"] 1 none du
theorem rW(h:Has K mg "steps_by" (top 24) ["web", "numbers"])(T:Txt K mg):ji P w K mg base:=by
 trace "ɉЁɊɋЂ|ȌОȆ;ȆAоɎQПу#у%"
noncomputable def iw:SS:=(ao (aJ 2 (bf (sOp gIx [.bor 0,.ex (sC (.int 1))])) (.tp [(.nm 2),(.nm 3)]) none (dg [(sOp eM [.ex (sOp gIx [.bor 1,.bor 2]),.ex (sOp gIx [.bor 1,.bor 3])]),(sOp eN [.ex (sOp gIx [.bor 1,.bor 2]),.ex (sOp gIx [.bor 1,.bor 3])])])))
noncomputable def dB:FS:=ak 2 2 none iw
abbrev iM:=OkY "copied_ties" ["web", "seats"] 1 none dB
theorem mW(h:Has K mg "copied_ties" (top 34) ["web", "seats"])(T:Txt K mg):iM P w K mg base:=by
 trace "ɏЁɐɑЂ|ȌОȆ;ȆAоМȔйй%ǿȗйй%Ǿ"
noncomputable def fJ:SS:=(aI (aC gGt [.bor 0,.ex (sC (.int 30))]) (fun _=>none) aQ)
noncomputable def aU:FS:=ak 1 1 none fJ
abbrev cc:=OkY "check_cut_ties" ["many"] 1 none aU
theorem jG(h:Has K mg "check_cut_ties" (top 35) ["many"])(T:Txt K mg):cc P w K mg base:=by
 trace "ɒȀыĹpɓ+ģ3"
noncomputable def gu:SS:=(ao (aJ 1 (bE (.bor 1)) (.nm 2) none (sOp dL [.ex (aJ 1 (bf (aP 0)) (.nm 3) none (sOp cQ [.ex (sOp aM [.bor 3,.bor 2]),.bor 1]))])))
noncomputable def bO:FS:=ak 2 2 none gu
abbrev dN:=OkY "turned_copies" ["numbers", "size"] 1 none bO
theorem ko(h:Has K mg "turned_copies" (top 37) ["numbers", "size"])(T:Txt K mg):dN P w K mg base:=by
 trace "ɔЁɕɖɗЗȌɘоȍQəĆѢЮ-f&%"
noncomputable def eY:SS:=(ag (aD 1 (sOp gIx [.bor 0,.ex (sC (.int 0))])) (ag (aI (aC gEq [.bor 1,.ex (sC (.str "spine"))]) (ao (sOp aM [.ex (sOp bi [.ex (sOp gIx [.bor 0,.ex (sC (.int 1))])]),.ex (sOp qy [.ex (sOp gIx [.bor 0,.ex (sC (.int 1))])])])) aQ) (ag (aI (aC gEq [.bor 1,.ex (sC (.str "sides"))]) (ao (sOp aM [.ex (sOp gIx [.bor 0,.ex (sC (.int 1))]),.ex (sOp gIx [.bor 0,.ex (sC (.int 2))])])) aQ) (ag (aI (sOr (aC gEq [.bor 1,.ex (sC (.str "wheel"))]) (aC gEq [.bor 1,.ex (sC (.str "fan"))])) (ao (sOp aM [.ex (sOp gIx [.bor 0,.ex (sC (.int 1))]),.ex (sC (.int 1))])) aQ) (ao (sOp gIx [.bor 0,.ex (sC (.int 1))]))))))
noncomputable def bb:FS:=ak 1 2 none eY
abbrev hU:=OkY "places_in" ["kind"] 1 none bb
theorem qe(h:Has K mg "places_in" (top 48) ["kind"])(T:Txt K mg):hU P w K mg base:=by
 trace "ȯh|к`ь#Ȱлк`|g3Ѫȏpĥ<ȏpѨ`|Um|"
noncomputable def mo:SS:=(ao (aJ 1 (fM (.bor 0) (.bor 1)) (.nm 2) none (dg [(aP 2),(sOp aM [.bor 2,.ex (sC (.int 1))])])))
noncomputable def dv:FS:=ak 2 2 none mo
abbrev gp:=OkY "row_ties" ["first", "last"] 1 none dv
theorem rZ(h:Has K mg "row_ties" (top 50) ["first", "last"])(T:Txt K mg):gp P w K mg base:=by
 trace "ɛЁɜɝȋȱaЊМ*ǿ-eǾ"
noncomputable def kI:SS:=(ao (aJ 1 (fM (.bor 1) (.ex (sOp aM [.bor 2,.ex (sC (.int 1))]))) (.nm 3) none (dg [(aP 0),(aP 3)])))
noncomputable def ba:FS:=ak 3 3 none kI
abbrev cF:=OkY "star_ties" ["middle", "first", "last"] 1 none ba
theorem qc(h:Has K mg "star_ties" (top 51) ["middle", "first", "last"])(T:Txt K mg):cF P w K mg base:=by
 trace "ɞЁɟɠȋȱС-ЃЊМ*ЯǾ"
noncomputable def aZ:SS:=(aI (aC gEq [.ex (sOp cQ [.bor 5,.ex (sC (.int 2))]),.ex (sC (.int 0))]) (ag (bU (bW 3 eV [(aP 1)])) (ag (bU (bW 4 bG [(aJ 1 (bE (.bor 6)) (.nm 7) none (sOp bg [.bor 2,.bor 7]))])) (ag (iW 1 (fun i j=>i+j) (sC (.int 1))) (iW 2 (fun i j=>i - j) (aP 6))))) (ag (bU (bW 3 eV [(aP 2)])) (ag (bU (bW 4 bG [(aJ 1 (bE (.bor 6)) (.nm 7) none (sOp aM [.bor 1,.bor 7]))])) (ag (iW 1 (fun i j=>i+j) (aP 6)) (iW 2 (fun i j=>i - j) (sC (.int 1)))))))
noncomputable def ip:SS:=(ag (aD 1 (sC (.int 0))) (ag (aD 2 (sOp bg [.ex (sOp aM [.ex (sOp bi [.bor 0]),.ex (sOp qy [.bor 0])]),.ex (sC (.int 1))])) (ag (aD 3 (dH [])) (ag (aD 4 (dH [])) (ag (eI (e8 (aP 0)) (.tp [(.nm 5),(.nm 6)]) aZ) (ao (sOp dL [.ex (sOp aM [.bor 3,.bor 4])])))))))
noncomputable def dy:FS:=ak 1 7 none ip
abbrev iG:=OkY "spine_steps" ["legs"] 1 none dy
theorem mR(h:Has K mg "spine_steps" (top 62) ["legs"])(T:Txt K mg):iG P w K mg base:=by
 trace "ɡȀ0Ș60ȘП`ȓR#ȰRUYѣYѣИȤ*Оȁ;ȁAыѤабȟ*бȕȲȳȋЗЊ2f0ȴ6+ȵ*бȟ*бȕȲȳȋЗЊ-f0ȴ*+ȵ6XȍQ-f%"
noncomputable def iq:SS:=(ao (sOp dL [.ex (sOp aM [.ex (sOp fC [.ex (sOp nE [.bor 0])]),.ex (aJ 1 (bE (.bor 1)) (.nm 2) none (sOp cA [.bor 0,.ex (sOp aM [.bor 2,.ex (sC (.int 1))])]))])]))
noncomputable def dz:FS:=ak 2 2 none iq
abbrev iH:=OkY "sides_steps" ["m", "n"] 1 none dz
theorem mS(h:Has K mg "sides_steps" (top 63) ["m", "n"])(T:Txt K mg):iH P w K mg base:=by
 trace "ɢЁȍQ`ȥQȶѥ#ɣɤȋЗЊBp-Ѓ"
noncomputable def eD:SS:=(ag (aD 3 (sIf (aC gGe [.bor 2,.ex (sOp eO [.bor 0,.ex (sC (.int 2))])]) (sC (.int 1)) (sC (.int 0)))) (aI (aC gEq [.ex (sOp cQ [.bor 2,.ex (sC (.int 2))]),.ex (sC (.int 0))]) (bU (bW 1 eV [(sOp aM [.ex (sOp eO [.bor 2,.ex (sC (.int 2))]),.ex (sIf (aC gEq [.ex (sOp cQ [.bor 0,.ex (sC (.int 4))]),.ex (sC (.int 3))]) (aP 3) (sC (.int 0)))])])) (bU (bW 1 eV [(sOp bg [.ex (sOp bg [.bor 0,.ex (sOp eO [.bor 2,.ex (sC (.int 2))])]),.ex (sIf (aC gEq [.ex (sOp cQ [.bor 0,.ex (sC (.int 4))]),.ex (sC (.int 0))]) (aP 3) (sC (.int 0)))])]))))
noncomputable def jv:SS:=(ag (aD 1 (dH [])) (ag (eI (bE (.bor 0)) (.nm 2) eD) (ao (sOp dL [.bor 1]))))
noncomputable def dY:FS:=ak 1 4 none jv
abbrev kb:=OkY "ring_steps" ["n"] 1 none dY
theorem oz(h:Has K mg "ring_steps" (top 65) ["n"])(T:Txt K mg):kb P w K mg base:=by
 trace "ɥhѣИЗȁYĔũpJe66ыѤа+ćȟ`Je#ĔѤа*6+ćȟП2pJe#ĔѤа*6XȍR"
abbrev hX:=OkY "_law_cell_at" ["script", "k"] 1 none bh
theorem lK(h:Has K mg "_law_cell_at" (top 69) ["script", "k"])(T:Txt K mg):hX P w K mg base:=by
 trace "ɦȀjĻpȓRXуm6"
abbrev lA:=OkY "_law_next" ["seed"] 1 none dF
theorem qm(h:Has K mg "_law_next" (top 70) ["seed"])(T:Txt K mg):lA P w K mg base:=by
 trace "ɧhЮ-аXЮ``Bf#ма"
abbrev iO:=OkY "_law_pen_of" ["cell"] 1 none bQ
theorem mY(h:Has K mg "_law_pen_of" (top 71) ["cell"])(T:Txt K mg):iO P w K mg base:=by
 trace "ɨhȗС2U&%XĦЯǿɩQǏpǐUU%ǿĤeǾ"
noncomputable def gG:SS:=(ao (ce (ae none none gf [.bor 0]) (dI gLe gLe (aP 1) (aP 0) (aP 2))))
noncomputable def aV:FS:=ak 3 3 none gG
abbrev bB:=OkY "whole_within" ["thing", "least", "most"] 2 none aV
theorem lI(h:Has K mg "whole_within" (top 9) ["thing", "least", "most"])(T:Txt K mg)(G11:nU P w K mg base):bB P w K mg base:=by
 trace "ɪѡǑRIɫ***"
noncomputable def pY:SS:=(ao (sOp dL [.ex (aJ 1 (bf (ae none none iD [.bor 0])) (.nm 1) none (sOp bi [.bor 1]))]))
noncomputable def jT:FS:=ak 1 1 none pY
abbrev j7:=OkY "tie_counts" ["web"] 2 none jT
theorem oo(h:Has K mg "tie_counts" (top 18) ["web"])(T:Txt K mg)(G44:iF P w K mg base):j7 P w K mg base:=by
 trace "ȷЁȍQɬɭЂǒRЊȓѥ"
noncomputable def rB:SS:=(ag (aD 2 (sOp bi [.ex (sOp gIx [.bor 0,.ex (sC (.int 1))])])) (ag (bU (ae none none aU [.bor 2])) (ao (ae none none bO [.bor 1,.ex (sOp aM [.ex (sOp cA [.ex (sC (.int 2)),.bor 2]),.ex (sC (.int 1))])]))))
noncomputable def fS:FS:=ak 2 3 none rB
abbrev tT:=OkY "cut_by" ["web", "numbering"] 2 none fS
theorem wQ(h:Has K mg "cut_by" (top 36) ["web", "numbering"])(T:Txt K mg)(G51:cc P w K mg base)(G48:dN P w K mg base):tT P w K mg base:=by
 trace "ɮhьбļRXǓС`мЃ"
noncomputable def oU:SS:=(ag (aD 4 (ib (ae none none du [.bor 0,.bor 1]) (aP 3))) (ag (aD 5 (sOp eM [.ex (aJ 1 (bf (sOp gIx [.ex (sOp gIx [.bor 0,.ex (sC (.int 1))]),.bor 4])) (.nm 6) none (sOp gIx [.bor 1,.bor 6]))])) (ao (dg [(sOp cQ [.ex (sOp bg [.bor 2,.bor 5]),.ex (sOp aM [.ex (sOp cA [.ex (sC (.int 2)),.ex (sOp bi [.ex (sOp gIx [.bor 0,.ex (sC (.int 1))])])]),.ex (sC (.int 1))])]),(aP 4)]))))
noncomputable def fT:FS:=ak 4 6 none oU
abbrev pL:=OkY "copy_at" ["web", "numbering", "lesser", "step"] 2 none fT
theorem uu(h:Has K mg "copy_at" (top 39) ["web", "numbering", "lesser", "step"])(T:Txt K mg)(G14:ji P w K mg base):pL P w K mg base:=by
 trace "ɯhǔŪa*YȔQɰɱЂFg&Њу%XМЮ2f#`мрЎUЯǾ"
noncomputable def cG:SS:=(ag (bU (bW 1 bG [(ae none none ba [.bor 3,.bor 2,.ex (sOp bg [.ex (sOp aM [.bor 2,.bor 4]),.ex (sC (.int 1))])])])) (iW 2 (fun i j=>i+j) (aP 4)))
noncomputable def jt:SS:=(ag (aD 1 (ae none none dv [.ex (sC (.int 0)),.ex (sOp bg [.ex (sOp bi [.bor 0]),.ex (sC (.int 1))])])) (ag (aD 2 (sOp bi [.bor 0])) (ag (eI (e8 (aP 0)) (.tp [(.nm 3),(.nm 4)]) cG) (cI 1))))
noncomputable def dW:FS:=ak 1 5 none jt
abbrev j9:=OkY "spine_ties" ["legs"] 2 none dW
theorem ot(h:Has K mg "spine_ties" (top 52) ["legs"])(T:Txt K mg)(G12:gp P w K mg base)(G27:cF P w K mg base):j9 P w K mg base:=by
 trace "ɲhĽпQ2ЖU%YȓRИȤ*Оȁ;ȁAбȕľэП-&Ѓ+ɳ*ю"
noncomputable def kJ:SS:=(ao (sOp aM [.ex (ae none none dv [.ex (sC (.int 0)),.ex (sOp bg [.bor 0,.ex (sC (.int 1))])]),.ex (dH [(dg [(sC (.int 0)),(sOp bg [.bor 0,.ex (sC (.int 1))])])])]))
noncomputable def fh:FS:=ak 1 1 none kJ
abbrev lf:=OkY "ring_ties" ["n"] 2 none fh
theorem qd(h:Has K mg "ring_ties" (top 53) ["n"])(T:Txt K mg)(G12:gp P w K mg base):lf P w K mg base:=by
 trace "ȦЁ`ĽпQ2ЃяǿМ6ǿ2eǾǾ"
noncomputable def eC:SS:=(bU (bW 2 bG [(ae none none ba [.bor 3,.bor 0,.ex (sOp bg [.ex (sOp aM [.bor 0,.bor 1]),.ex (sC (.int 1))])])]))
noncomputable def ju:SS:=(ag (aD 2 (dH [])) (ag (eI (bE (.bor 0)) (.nm 3) eC) (cI 2)))
noncomputable def dX:FS:=ak 2 4 none ju
abbrev ka:=OkY "sides_ties" ["m", "n"] 2 none dX
theorem ou(h:Has K mg "sides_ties" (top 54) ["m", "n"])(T:Txt K mg)(G27:cF P w K mg base):ka P w K mg base:=by
 trace "ɵhѣИЗȁ+ćȕľэП-&Ѓю"
noncomputable def oj:SS:=(bU (bW 1 bG [(ae none none ba [.bor 2,.ex (sOp aM [.bor 2,.ex (sC (.int 1))]),.ex (sOp bg [.bor 0,.ex (sC (.int 1))])])]))
noncomputable def rA:SS:=(ag (aD 1 (dH [])) (ag (eI (bE (.bor 0)) (.nm 2) oj) (cI 1)))
noncomputable def kZ:FS:=ak 1 3 none rA
abbrev lq:=OkY "full_ties" ["n"] 2 none kZ
theorem qj(h:Has K mg "full_ties" (top 55) ["n"])(T:Txt K mg)(G27:cF P w K mg base):lq P w K mg base:=by
 trace "ɶhѣИЗȁ+ćȕľС-eQ2Ѓю"
noncomputable def ua:SS:=(ao (sOp aM [.ex (ae none none ba [.ex (sC (.int 0)),.ex (sC (.int 1)),.bor 0]),.ex (ae none none dv [.ex (sC (.int 1)),.bor 0])]))
noncomputable def jf:FS:=ak 1 1 none ua
abbrev jk:=OkY "fan_ties" ["n"] 2 none jf
theorem sj(h:Has K mg "fan_ties" (top 56) ["n"])(T:Txt K mg)(G27:cF P w K mg base)(G12:gp P w K mg base):jk P w K mg base:=by
 trace "ȦЁ`ūппR#ĽпR"
noncomputable def fv:SS:=(ag (aI (aC gEq [.ex (sOp gIx [.bor 0,.ex (sC (.int 0))]),.ex (sC (.str "spine"))]) (ao (ae none none dy [.ex (sOp gIx [.bor 0,.ex (sC (.int 1))])])) aQ) (ag (aI (aC gEq [.ex (sOp gIx [.bor 0,.ex (sC (.int 0))]),.ex (sC (.str "sides"))]) (ao (ae none none dz [.ex (sOp gIx [.bor 0,.ex (sC (.int 1))]),.ex (sOp gIx [.bor 0,.ex (sC (.int 2))])])) aQ) (gI "NoKind")))
noncomputable def bc:FS:=ak 1 1 none fv
abbrev fD:=OkY "parted_made" ["kind"] 2 none bc
theorem mU(h:Has K mg "parted_made" (top 61) ["kind"])(T:Txt K mg)(G43:iG P w K mg base)(G42:iH P w K mg base)(R_NoKind:dD K mg base "NoKind"):fD P w K mg base:=by
 trace "ȸȀсg#ѨǕлсg#Ѩǖѳл+ȧ"
abbrev lB:=OkY "_law_draw" ["pen", "many"] 2 (some 0) aO
theorem qo(h:Has K mg "_law_draw" (top 72) ["pen", "many"])(T:Txt K mg)(G17:lA P w K mg base):lB P w K mg base:=by
 trace "ɷȀсgUYĤg&0ȠJg&6Ȏю30ȠŬQ`ŬЎU%6ȎXЮJgU&"
noncomputable def gt:SS:=(ao (ce (sOp kA [.ex (aJ 1 (bf (aP 0)) (.nm 3) none (ae none none aV [.bor 3,.bor 1,.bor 2]))]) (sOp gEq [.ex (sOp bi [.ex (sOp xf [.bor 0])]),.ex (sOp bi [.bor 0])])))
noncomputable def bj:FS:=ak 3 3 none gt
abbrev dM:=OkY "unlike_within" ["things", "least", "most"] 3 none bj
theorem kn(h:Has K mg "unlike_within" (top 10) ["things", "least", "most"])(T:Txt K mg)(G47:bB P w K mg base):dM P w K mg base:=by
 trace "ɸѡșQɹɺЂѢĿoa%IȊрQɻѥЖ"
noncomputable def kM:SS:=(ao (ae none none aV [.bor 0,.ex (sC (.int 1)),.ex (sC (.int 40))]))
noncomputable def fk:FS:=ak 1 1 none kM
abbrev lh:=OkY "many_good" ["thing"] 3 none fk
theorem qg(h:Has K mg "many_good" (top 14) ["thing"])(T:Txt K mg)(G47:bB P w K mg base):lh P w K mg base:=by
 trace "ȞЁŭєQȚ%"
noncomputable def mw:SS:=(ao (ae none none aV [.bor 1,.ex (sC (.int 0)),.ex (sOp bg [.bor 0,.ex (sC (.int 1))])]))
noncomputable def bY:FS:=ak 2 2 none mw
abbrev jj:=OkY "is_place" ["many", "thing"] 3 none bY
theorem r8(h:Has K mg "is_place" (top 16) ["many", "thing"])(T:Txt K mg)(G47:bB P w K mg base):jj P w K mg base:=by
 trace "ȹЁŭєQ2Ѓ"
noncomputable def kg:SS:=(ag (aD 2 (sOp bi [.ex (sOp gIx [.bor 0,.ex (sC (.int 1))])])) (ag (aI (aC gEq [.bor 1,.ex (dg [(sC (.str "places"))])]) (ao (sOp gGt [.ex (sOp gIx [.bor 0,.ex (sC (.int 0))]),.ex (sOp aM [.bor 2,.ex (sC (.int 1))])])) aQ) (ag (aI (aC gEq [.bor 1,.ex (dg [(sC (.str "even"))])]) (ao (ce (sOp kA [.ex (aJ 1 (bf (ae none none jT [.bor 0])) (.nm 3) none (sOp gEq [.ex (sOp cQ [.bor 3,.ex (sC (.int 2))]),.ex (sC (.int 0))]))]) (sOp gEq [.ex (sOp cQ [.ex (sOp eO [.ex (sOp cA [.bor 2,.ex (sOp aM [.bor 2,.ex (sC (.int 1))])]),.ex (sC (.int 2))]),.ex (sC (.int 2))]),.ex (sC (.int 1))]))) aQ) (ao (sC (.bl false))))))
noncomputable def fR:FS:=ak 2 3 none kg
abbrev fV:=OkY "step_bar_holds" ["web", "thing"] 3 none fR
theorem jE(h:Has K mg "step_bar_holds" (top 28) ["web", "thing"])(T:Txt K mg)(G34:j7 P w K mg base):fV P w K mg base:=by
 trace "ȺhьѺнǾXǗg#-e3ѺнǾXēșQɼɽЂǘRЊȊҁа%IȊ#ЮJ#Bp-аUUmG"
noncomputable def kN:SS:=(ag (aI (sOr (dh (cX (.ex (sOp (gY "tuple") [.bor 0])))) (aC gEq [.ex (sOp bi [.bor 0]),.ex (sC (.int 0))])) (ao (sC (.bl false))) aQ) (ao (sOp kA [.ex (aJ 1 (bf (aP 0)) (.nm 1) none (ae none none aV [.bor 1,.ex (sC (.int 0)),.ex (sC (.int 40))]))])))
noncomputable def fm:FS:=ak 1 1 none kN
abbrev lj:=OkY "legs_good" ["thing"] 3 none fm
theorem qh(h:Has K mg "legs_good" (top 46) ["thing"])(T:Txt K mg)(G47:bB P w K mg base):lj P w K mg base:=by
 trace "ȞȀѐȖ&<ȏЖUѦmșQɾɿЂѢĿєQȚ%%"
noncomputable def eE:SS:=(ag (aI (aC gNe [.ex (sOp bi [.bor 1]),.ex (sOp bi [.bor 0])]) (ao (sC (.bl false))) aQ) (ao (sOp kA [.ex (aJ 2 (lF [(aP 0),(aP 1)]) (.tp [(.nm 2),(.nm 3)]) none (ae none none aV [.bor 3,.bor 2,.ex (sC (.int 40))]))])))
noncomputable def bA:FS:=ak 2 2 none eE
abbrev hV:=OkY "numbers_good" ["leasts", "things"] 3 none bA
theorem lJ(h:Has K mg "numbers_good" (top 47) ["leasts", "things"])(T:Txt K mg)(G47:bB P w K mg base):hV P w K mg base:=by
 trace "ʀȀjțЖЖѦmșQʁʂȋʃЯЯǾȌОȆ;ȆAоĿэȚ%%"
noncomputable def pX:SS:=(ao (sOp aM [.ex (ae none none jf [.bor 0]),.ex (dH [(dg [(sC (.int 1)),(aP 0)])])]))
noncomputable def jS:FS:=ak 1 1 none pX
abbrev j6:=OkY "wheel_ties" ["n"] 3 none jS
theorem om(h:Has K mg "wheel_ties" (top 57) ["n"])(T:Txt K mg)(G6:jk P w K mg base):j6 P w K mg base:=by
 trace "ȦЁ`ůRяǿМ6ЯǾǾ"
noncomputable def bR:SS:=(ag (aD 3 (aJ 1 (bE (.ex (sOp aM [.ex (sC (.int 2)),.ex (ae (some 0) (some 0) aO [.bor 0,.ex (sC (.int 3))])]))) (.nm 4) none (sOp gIx [.ex (dH [(sC (.int 0)),(sC (.int 0)),(sC (.int 1)),(sC (.int 2))]),.ex (ae (some 0) (some 0) aO [.bor 0,.ex (sC (.int 4))])]))) (ao (dg [(sC (.str "spine")),(sOp dL [.bor 3])])))
noncomputable def bH:SS:=(ag (aD 1 (ae (some 0) (some 0) aO [.bor 0,.ex (sC (.int 3))])) (ag (aI (aC gEq [.bor 1,.ex (sC (.int 0))]) (ag (aD 2 (sOp aM [.ex (sC (.int 1)),.ex (ae (some 0) (some 0) aO [.bor 0,.ex (sC (.int 3))])])) (ao (dg [(sC (.str "sides")),(aP 2),(sOp aM [.ex (sC (.int 1)),.ex (ae (some 0) (some 0) aO [.bor 0,.ex (sOp eO [.ex (sC (.int 12)),.bor 2])])])]))) aQ) (ag (aI (aC gEq [.bor 1,.ex (sC (.int 1))]) (ao (dg [(sC (.str "ring")),(sOp gIx [.ex (dH [(sC (.int 3)),(sC (.int 4)),(sC (.int 7)),(sC (.int 8)),(sC (.int 11)),(sC (.int 12))]),.ex (ae (some 0) (some 0) aO [.bor 0,.ex (sC (.int 6))])])])) aQ) bR)))
noncomputable def aG:FS:=ak 1 4 (some 0) bH
abbrev eS:=OkY "_law_kind_of_few" ["pen"] 3 (some 0) aG
theorem il(h:Has K mg "_law_kind_of_few" (top 73) ["pen"])(T:Txt K mg)(G16:lB P w K mg base):eS P w K mg base:=by
 trace "ʄhĕвсeY-U#ĕвXнЯǿ-U#ĕСJU&%Ǿ3сeXнǿFяЙЙЙЙЙЙǾ#ĕвǾ30ʅʆȋȮQ-U#ĕв%ЊFяЙЙЙЙǾ#ǚвXнǿȍRǾ"
noncomputable def ml:SS:=(ag (aI (sOr (dh (cX (.ex (sOp (gY "tuple") [.bor 1])))) (aC gNe [.ex (sOp bi [.bor 1]),.ex (sC (.int 2))])) (ao (sC .non)) aQ) (ag (aI (sOr (dh (cX (.ex (sOp kA [.ex (aJ 1 (bf (aP 1)) (.nm 2) none (ae none none bY [.bor 0,.bor 2]))])))) (aC gEq [.ex (sOp gIx [.bor 1,.ex (sC (.int 0))]),.ex (sOp gIx [.bor 1,.ex (sC (.int 1))])])) (ao (sC .non)) aQ) (ao (dg [(sOp eM [.bor 1]),(sOp eN [.bor 1])]))))
noncomputable def gc:FS:=ak 2 2 none ml
abbrev nS:=OkY "tie_told" ["many", "thing"] 4 none gc
theorem rV(h:Has K mg "tie_told" (top 15) ["many", "thing"])(T:Txt K mg)(G10:jj P w K mg base):nS P w K mg base:=by
 trace "ȹȀѐȖ&<țЖUXM3ѐșQʇʈЂѢǛa%<ȏggXMmМȔRǿȗRǾ"
noncomputable def jr:SS:=(ag (aD 2 (sOp bi [.ex (sOp gIx [.bor 0,.ex (sC (.int 1))])])) (ag (aI (sOr (dh (cX (.ex (ae none none bV [.bor 0,.bor 1])))) (dh (cX (.ex (ae none none bj [.bor 1,.ex (sC (.int 0)),.bor 2]))))) (ao (sC (.bl false))) aQ) (ao (sOp gEq [.ex (sOp fB [.ex (ae none none du [.bor 0,.bor 1])]),.ex (sOp fC [.ex (sOp nE [.ex (sC (.int 1)),.ex (sOp aM [.bor 2,.ex (sC (.int 1))])])])]))))
noncomputable def dU:FS:=ak 2 3 none jr
abbrev j8:=OkY "steps_good" ["web", "thing"] 4 none dU
theorem oq(h:Has K mg "steps_good" (top 22) ["web", "thing"])(T:Txt K mg)(G54:ft P w K mg base)(G49:dM P w K mg base)(G14:ji P w K mg base):j8 P w K mg base:=by
 trace "Ⱥhьѐǜa<ТŰєRѦmȊ#ȨQŪa%#ȥQȶпQ-Ѓ%"
noncomputable def js:SS:=(aI (cX (.ex (ae none none fR [.bor 0,.bor 1]))) (cI 1) aQ)
noncomputable def t9:SS:=(ag (eI (bf (sC kX)) (.nm 1) js) (ao (sC .non)))
noncomputable def nH:FS:=ak 1 2 none t9
abbrev nT:=OkY "step_bar" ["web"] 4 none nH
theorem rX(h:Has K mg "step_bar" (top 29) ["web"])(T:Txt K mg)(G53:fV P w K mg base):nT P w K mg base:=by
 trace "ʉȀИĆʊȁыŮ#ǝaюmM"
noncomputable def kP:SS:=(ao (ce (sOp (gY "tuple") [.bor 2]) (ce (sOp gEq [.ex (sOp bi [.bor 2]),.ex (sOp gIx [.bor 0,.ex (sC (.int 0))])]) (ae none none bj [.bor 2,.ex (sC (.int 0)),.ex (sOp bg [.bor 1,.ex (sC (.int 1))])]))))
noncomputable def fq:FS:=ak 3 3 none kP
abbrev lw:=OkY "copy_good" ["web", "size", "thing"] 4 none fq
theorem ql(h:Has K mg "copy_good" (top 33) ["web", "size", "thing"])(T:Txt K mg)(G49:dM P w K mg base):lw P w K mg base:=by
 trace "ʋѡȖ&ēȊЖgIŰєQ2Ѓ"
noncomputable def iU:SS:=(ag (aD 4 (sOp bi [.ex (sOp gIx [.bor 0,.ex (sC (.int 1))])])) (ag (bU (ae none none aU [.bor 4])) (ag (aD 5 (sOp aM [.ex (sOp cA [.ex (sC (.int 2)),.bor 4]),.ex (sC (.int 1))])) (ag (aI (sOr (dh (cX (.ex (ae none none bY [.bor 5,.bor 2])))) (sOr (dh (cX (.ex (ae none none bY [.bor 5,.bor 3])))) (aC gEq [.bor 2,.bor 3]))) (gI "NoPlace") aQ) (ag (aI (aC gLe [.ex (sOp cQ [.ex (sOp bg [.bor 3,.bor 2]),.bor 5]),.bor 4]) (ao (ae none none fT [.bor 0,.bor 1,.bor 2,.ex (sOp cQ [.ex (sOp bg [.bor 3,.bor 2]),.bor 5])])) aQ) (ao (ae none none fT [.bor 0,.bor 1,.bor 3,.ex (sOp cQ [.ex (sOp bg [.bor 2,.bor 3]),.bor 5])])))))))
noncomputable def eQ:FS:=ak 4 6 none iU
abbrev nW:=OkY "found_in" ["web", "numbering", "one", "other"] 4 none eQ
theorem sd(h:Has K mg "found_in" (top 38) ["web", "numbering", "one", "other"])(T:Txt K mg)(G51:cc P w K mg base)(G10:jj P w K mg base)(G2:pL P w K mg base)(R_NoPlace:dD K mg base "NoPlace"):nW P w K mg base:=by
 trace "ʌhьбļRY`мeѐűaĺТűa<ȏf+ʍ3jǞ#Ю2ffXŲoэЮ2f&%mŲoэЮ2f&%"
noncomputable def eZ:SS:=(ag (aI (sOr (dh (cX (.ex (sOp (gY "tuple") [.bor 0])))) (aC gLt [.ex (sOp bi [.bor 0]),.ex (sC (.int 2))])) (ao (sC (.bl false))) aQ) (ag (aD 1 (sOp gIx [.bor 0,.ex (sC (.int 0))])) (ag (aI (aC gEq [.bor 1,.ex (sC (.str "spine"))]) (ao (ce (sOp gEq [.ex (sOp bi [.bor 0]),.ex (sC (.int 2))]) (ae none none fm [.ex (sOp gIx [.bor 0,.ex (sC (.int 1))])]))) aQ) (ag (aI (sOr (dh (cX (.ex (sOp (gY "str") [.bor 1])))) (aC (Ce bd be true) [.bor 1])) (ao (sC (.bl false))) aQ) (ao (ae none none bA [.ex (sOp (pe bd be) [.bor 1]),.ex (sOp sO [.bor 0,.ex (sC (.int 1))])]))))))
noncomputable def br:FS:=ak 1 2 none eZ
abbrev lu:=OkY "form_good" ["thing"] 4 none br
theorem qk(h:Has K mg "form_good" (top 45) ["thing"])(T:Txt K mg)(G22:lj P w K mg base)(G46:hV P w K mg base)(M_LEAST_NUMBERS:wk w K mg "LEAST_NUMBERS" bd be):lu P w K mg base:=by
 trace "ʎȀѐȖ&<ĻЖUРY|кēȊЖUIǟлѐʏ&<ʐ&ѦmǠQʑ&QȻЃ"
noncomputable def ia:SS:=(ag (aD 1 (sOp gIx [.bor 0,.ex (sC (.int 0))])) (ag (aI (aC gEq [.bor 1,.ex (sC (.str "spine"))]) (ao (ae none none dW [.ex (sOp gIx [.bor 0,.ex (sC (.int 1))])])) aQ) (ag (aI (aC gEq [.bor 1,.ex (sC (.str "ring"))]) (ao (ae none none fh [.ex (sOp gIx [.bor 0,.ex (sC (.int 1))])])) aQ) (ag (aI (aC gEq [.bor 1,.ex (sC (.str "sides"))]) (ao (ae none none dX [.ex (sOp gIx [.bor 0,.ex (sC (.int 1))]),.ex (sOp gIx [.bor 0,.ex (sC (.int 2))])])) aQ) (ag (aI (aC gEq [.bor 1,.ex (sC (.str "full"))]) (ao (ae none none kZ [.ex (sOp gIx [.bor 0,.ex (sC (.int 1))])])) aQ) (ag (aI (aC gEq [.bor 1,.ex (sC (.str "wheel"))]) (ao (ae none none jS [.ex (sOp gIx [.bor 0,.ex (sC (.int 1))])])) aQ) (ao (ae none none jf [.ex (sOp gIx [.bor 0,.ex (sC (.int 1))])]))))))))
noncomputable def bP:FS:=ak 1 2 none ia
abbrev kD:=OkY "ties_in" ["kind"] 4 none bP
theorem ut(h:Has K mg "ties_in" (top 49) ["kind"])(T:Txt K mg)(G32:j9 P w K mg base)(G26:lf P w K mg base)(G31:ka P w K mg base)(G20:lq P w K mg base)(G35:j6 P w K mg base)(G6:jk P w K mg base):kD P w K mg base:=by
 trace "ȯh|кǡлкǢлкǣѳлкǤлкǥЎmůЎ"
noncomputable def iT:SS:=(ag (aD 5 (ae none none gc [.bor 0,.bor 4])) (ag (aI (sOr (aC gIs [.bor 5,.ex (sC .non)]) (sOr (aC gIn [.bor 5,.bor 2]) (aC gGe [.bor 3,.ex (sC (.int 60))]))) (fun _=>none) aQ) (cY l5 2 (sC (.bl true)) (aP 5))))
noncomputable def rq:SS:=(ag (aI (dh (cX (.ex (ae none none fk [.bor 0])))) (fun _=>none) aQ) (ag (aD 2 (vw (.dT [] []))) (ag (eI (e8 (aP 1)) (.tp [(.nm 3),(.nm 4)]) iT) (ao (dg [(aP 0),(sOp dL [.ex (sOp fB [.bor 2])])])))))
noncomputable def gZ:FS:=ak 2 6 none rq
abbrev nR:=OkY "web_of" ["many", "things"] 5 none gZ
theorem wP(h:Has K mg "web_of" (top 17) ["many", "things"])(T:Txt K mg)(G23:lh P w K mg base)(G15:nS P w K mg base):nR P w K mg base:=by
 trace "ʒȀjТǦR+ģ3YųИȤ*Оȁ;ȁAYǧaѪŴpMĺȼf<ũpȩ+ģ3+ȽG*ȎXМ*ǿȍQȨѥǾ"
noncomputable def iz:SS:=(aI (dh (cX (.ex (ae none none dU [.bor 0,.bor 1])))) (gI "NoNumber") aQ)
noncomputable def dC:FS:=ak 2 2 none iz
abbrev iN:=OkY "check_steps" ["web", "thing"] 5 none dC
theorem mX(h:Has K mg "check_steps" (top 25) ["web", "thing"])(T:Txt K mg)(G33:j8 P w K mg base)(R_NoNumber:dD K mg base "NoNumber"):iN P w K mg base:=by
 trace "ȭȀыТǨa+Ⱦ3"
noncomputable def dQ:SS:=(ag (aI (aC gIn [.bor 5,.bor 3]) (ao (sC (.bl false))) aQ) (cY l5 3 (sC (.bl true)) (aP 5)))
noncomputable def cH:SS:=(ag (aI (dh (cX (.ex (ae none none fq [.bor 0,.bor 1,.bor 4])))) (ao (sC (.bl false))) aQ) (eI (bf (ae none none dB [.bor 0,.bor 4])) (.nm 5) dQ))
noncomputable def mB:SS:=(ag (aI (dh (cX (.ex (sOp (gY "list") [.bor 2])))) (ao (sC (.bl false))) aQ) (ag (aD 3 (vw (.dT [] []))) (ag (eI (bf (aP 2)) (.nm 4) cH) (ao (sOp gEq [.ex (sOp bi [.bor 3]),.ex (sOp eO [.ex (sOp cA [.bor 1,.ex (sOp bg [.bor 1,.ex (sC (.int 1))])]),.ex (sC (.int 2))])])))))
noncomputable def bv:FS:=ak 3 6 none mB
abbrev nY:=OkY "cut_good" ["web", "size", "thing"] 5 none bv
theorem sk(h:Has K mg "cut_good" (top 32) ["web", "size", "thing"])(T:Txt K mg)(G18:lw P w K mg base)(G38:iM P w K mg base):nY P w K mg base:=by
 trace "ʓȀjТʔ&РYųИĆ*ȁjТǩoaР+ȣĆǪaȁjȼfР+ȽG*ȎXȊЖ#J#Bp2а"
noncomputable def kO:SS:=(ao (ce (ae none none br [.bor 0]) (ce (sOp gLe [.ex (ae none none bb [.bor 0]),.ex (sC (.int 40))]) (sOp gLe [.ex (sOp bi [.ex (ae none none bP [.bor 0])]),.ex (sC (.int 60))]))))
noncomputable def fo:FS:=ak 1 1 none kO
abbrev lm:=OkY "kind_good" ["thing"] 5 none fo
theorem qi(h:Has K mg "kind_good" (top 43) ["thing"])(T:Txt K mg)(G19:lu P w K mg base)(G25:hU P w K mg base)(G3:kD P w K mg base):lm P w K mg base:=by
 trace "ȞѡǫRēŵ#ŶR#ȚIŵрQŷѥ#ȩ"
noncomputable def ir:SS:=(ag (aI (sOr (aC gEq [.ex (sOp cQ [.ex (sOp gIx [.bor 0,.ex (sC (.int 0))]),.ex (sC (.int 4))]),.ex (sC (.int 0))]) (aC gEq [.ex (sOp cQ [.ex (sOp gIx [.bor 0,.ex (sC (.int 0))]),.ex (sC (.int 4))]),.ex (sC (.int 3))])) (ao (dg [(sC (.str "numbering")),(ae none none dY [.ex (sOp gIx [.bor 0,.ex (sC (.int 0))])])])) aQ) (ao (dg [(sC (.str "bar")),(ae none none nH [.bor 0])])))
noncomputable def cr:FS:=ak 1 1 none ir
abbrev iJ:=OkY "ring_answer" ["web"] 5 none cr
theorem mT(h:Has K mg "ring_answer" (top 64) ["web"])(T:Txt K mg)(G30:kb P w K mg base)(G13:nT P w K mg base):iJ P w K mg base:=by
 trace "ȷȀѪѤgUU<ѤgUUXнǿǬЎǾmнǿǭRǾ"
noncomputable def aS:SS:=(ag (lG (.tp [(.nm 7),(.nm 8)]) (ae none none eQ [.bor 0,.bor 1,.bor 5,.bor 6])) (ag (aD 9 (sOp gIx [.bor 2,.bor 7])) (ag (aD 10 (aJ 1 (bf (sOp gIx [.ex (sOp gIx [.bor 0,.ex (sC (.int 1))]),.bor 8])) (.nm 11) none (sOp gIx [.bor 9,.bor 11]))) (ag (aI (aC gNe [.ex (sOp fB [.bor 10]),.ex (dH [(aP 6),(aP 5)])]) (ao (sC (.bl false))) aQ) (ag (cY gs 4 (sOp aM [.ex (sOp gIx [.bor 4,.bor 5]),.ex (sC (.int 1))]) (aP 5)) (cY gs 4 (sOp aM [.ex (sOp gIx [.bor 4,.bor 6]),.ex (sC (.int 1))]) (aP 6)))))))
noncomputable def cx:SS:=(eI (bE (.bor 5)) (.nm 6) aS)
noncomputable def fK:SS:=(ag (aD 3 (sOp aM [.ex (sOp cA [.ex (sC (.int 2)),.ex (sOp bi [.ex (sOp gIx [.bor 0,.ex (sC (.int 1))])])]),.ex (sC (.int 1))])) (ag (aD 4 (sOp cA [.ex (dH [(sC (.int 0))]),.bor 3])) (ag (eI (bE (.bor 3)) (.nm 5) cx) (ao (sOp gEq [.bor 4,.ex (sOp cA [.ex (dH [(sOp bg [.bor 3,.ex (sC (.int 1))])]),.bor 3])])))))
noncomputable def cb:FS:=ak 3 11 none fK
abbrev fX:=OkY "_law_each_pair" ["web", "numbering", "cut"] 5 none cb
theorem jH(h:Has K mg "_law_each_pair" (top 74) ["web", "numbering", "cut"])(T:Txt K mg)(G8:nW P w K mg base):fX P w K mg base:=by
 trace "ʕh`мрЎUYBяЙǾ&ИЗȁ+ȣЗȁ0ŸǮooaОȁ;ȁA0Șу0ʖʗЂFg&Њуjț#ȨRяЯЯǾР0Ƞ`F&e*Ȏ+Ƞ`F&e*ȎXȊpBяǿ2eǾ&"
noncomputable def kK:SS:=(ag (bU (ae none none dC [.bor 0,.bor 1])) (ag (aI (dh (cX (.ex (sOp gIx [.bor 0,.ex (sC (.int 1))])))) (ao (sC .non)) aQ) (ag (aD 2 (sOp eN [.ex (aJ 2 (bf (sOp gIx [.bor 0,.ex (sC (.int 1))])) (.tp [(.nm 4),(.nm 5)]) none (sOp eM [.ex (sOp gIx [.bor 1,.bor 4]),.ex (sOp gIx [.bor 1,.bor 5])]))])) (ag (aD 3 (sOp eM [.ex (aJ 2 (bf (sOp gIx [.bor 0,.ex (sC (.int 1))])) (.tp [(.nm 4),(.nm 5)]) none (sOp eN [.ex (sOp gIx [.bor 1,.bor 4]),.ex (sOp gIx [.bor 1,.bor 5])]))])) (ao (sIf (aC gLt [.bor 2,.bor 3]) (aP 2) (sC .non)))))))
noncomputable def fj:FS:=ak 2 4 none kK
abbrev lg:=OkY "parted_at" ["web", "numbers"] 6 none fj
theorem qf(h:Has K mg "parted_at" (top 26) ["web", "numbers"])(T:Txt K mg)(G37:iN P w K mg base):lg P w K mg base:=by
 trace "ʘȀбǯajѶgXM3YȗQȿɀЂ|ȌОȆ;ȆAоȔйй%%YȔQȿɀЂ|ȌОȆ;ȆAоȗйй%%XĔĻf*M"
noncomputable def oS:SS:=(ag (aI (dh (cX (.ex (ae none none fo [.bor 0])))) (gI "NoKind") aQ) (ao (ae none none gZ [.ex (ae none none bb [.bor 0]),.ex (ae none none bP [.bor 0])])))
noncomputable def dq:FS:=ak 1 1 none oS
abbrev ik:=OkY "web_for" ["kind"] 6 none dq
theorem ur(h:Has K mg "web_for" (top 44) ["kind"])(T:Txt K mg)(G21:lm P w K mg base)(G1:nR P w K mg base)(G25:hU P w K mg base)(G3:kD P w K mg base)(R_NoKind:dD K mg base "NoKind"):ik P w K mg base:=by
 trace "ȸȀjТǰR+ȧmŹQŶRQŷѥ"
noncomputable def my:SS:=(ag (aD 3 (sOp gIx [.bor 0,.ex (sC (.int 0))])) (ag (aD 4 (sOp eM [.ex (sOp bg [.ex (sC (.int 40)),.bor 3]),.ex (sOp bg [.ex (sC (.int 60)),.ex (sOp bi [.ex (sOp gIx [.bor 0,.ex (sC (.int 1))])])])])) (ag (aI (aC gGt [.bor 2,.bor 4]) (fun _=>none) aQ) (ao (ae none none gZ [.ex (sOp aM [.bor 3,.bor 2]),.ex (sOp aM [.ex (sOp fC [.ex (sOp gIx [.bor 0,.ex (sC (.int 1))])]),.ex (ae none none ba [.bor 1,.bor 3,.ex (sOp bg [.ex (sOp aM [.bor 3,.bor 2]),.ex (sC (.int 1))])])])])))))
noncomputable def gg:FS:=ak 3 5 none my
abbrev nV:=OkY "grown_at" ["web", "place", "count"] 6 none gg
theorem r9(h:Has K mg "grown_at" (top 67) ["web", "place", "count"])(T:Txt K mg)(G1:nR P w K mg base)(G27:cF P w K mg base):nV P w K mg base:=by
 trace "ʙh|YȔQПȚ&QПȩрЎ%jĹf+ģmŹQ-fQ`ȥЎ#ūэП-&Ѓ%"
noncomputable def fI:SS:=(ag (aD 2 (ae none none fj [.bor 0,.bor 1])) (ag (aI (aC gIs [.bor 2,.ex (sC .non)]) (gI "NoNumber") aQ) (cI 2)))
noncomputable def b9:FS:=ak 2 3 none fI
abbrev fW:=OkY "parting_number" ["web", "numbers"] 7 none b9
theorem jF(h:Has K mg "parting_number" (top 27) ["web", "numbers"])(T:Txt K mg)(G24:lg P w K mg base)(R_NoNumber:dD K mg base "NoNumber"):fW P w K mg base:=by
 trace "ʚhǱajŴpM+Ⱦ3ю"
noncomputable def eW:SS:=(ag (aD 1 (ae none none dq [.bor 0])) (ag (aI (aC gEq [.ex (sOp gIx [.bor 0,.ex (sC (.int 0))]),.ex (sC (.str "ring"))]) (ao (ae none none cr [.bor 1])) aQ) (ao (dg [(sC (.str "numbering")),(ae none none bc [.bor 0])]))))
noncomputable def bq:FS:=ak 1 2 none eW
abbrev le:=OkY "steps_for" ["kind"] 7 none bq
theorem qb(h:Has K mg "steps_for" (top 59) ["kind"])(T:Txt K mg)(G4:ik P w K mg base)(G41:iJ P w K mg base)(G40:fD P w K mg base):le P w K mg base:=by
 trace "ɁhźRсg#ѨǲRmнǿŻRǾ"
noncomputable def jw:SS:=(ag (aD 1 (ae none none dq [.bor 0])) (ag (aI (dh (cX (.ex (sOp gIx [.bor 1,.ex (sC (.int 1))])))) (gI "NoKind") aQ) (ao (ae none none bc [.bor 0]))))
noncomputable def cU:FS:=ak 1 2 none jw
abbrev kc:=OkY "parted_for" ["kind"] 7 none cU
theorem oA(h:Has K mg "parted_for" (top 60) ["kind"])(T:Txt K mg)(G4:ik P w K mg base)(G40:fD P w K mg base)(R_NoKind:dD K mg base "NoKind"):kc P w K mg base:=by
 trace "ɁhźRjѶg+ȧmŻR"
noncomputable def iu:SS:=(ag (aD 3 (ae none none gg [.bor 0,.ex (ki 1 (sOp bi [.ex (sOp gIx [.bor 0,.ex (sC (.int 1))])])),.bor 2])) (ag (aD 4 (sOp aM [.ex (aJ 1 (bf (aP 1)) (.nm 5) none (sOp aM [.bor 5,.bor 2])),.ex (aJ 1 (bE (.bor 2)) (.nm 5) none (sOp bg [.ex (sOp bg [.bor 2,.ex (sC (.int 1))]),.bor 5]))])) (ao (dg [(aP 3),(sOp dL [.bor 4])]))))
noncomputable def dA:FS:=ak 3 5 none iu
abbrev iK:=OkY "grown_above" ["web", "numbering", "count"] 7 none dA
theorem mV(h:Has K mg "grown_above" (top 66) ["web", "numbering", "count"])(T:Txt K mg)(G9:nV P w K mg base):iK P w K mg base:=by
 trace "ʛhǳСʜьȎRY`ʝɂЂѢ-f#ʞɂȋЗЊП2e&XМ*ǿȍRǾ"
noncomputable def fZ:SS:=(ag (aD 8 (aJ 1 (bf (aP 1)) (.nm 9) none (sIf (aC gGt [.bor 9,.bor 4]) (sOp aM [.bor 9,.ex (sOp cA [.bor 7,.bor 3])]) (aP 9)))) (bU (bW 6 bG [(ae none none bO [.bor 8,.bor 5])])))
noncomputable def mz:SS:=(ag (aD 3 (sOp bi [.ex (sOp gIx [.bor 0,.ex (sC (.int 1))])])) (ag (bU (ae none none aU [.ex (sOp cA [.bor 3,.bor 2])])) (ag (aD 4 (ae none none b9 [.bor 0,.bor 1])) (ag (aD 5 (sOp aM [.ex (sOp cA [.ex (sOp cA [.ex (sC (.int 2)),.bor 3]),.bor 2]),.ex (sC (.int 1))])) (ag (aD 6 (dH [])) (ag (eI (bE (.bor 2)) (.nm 7) fZ) (cI 6)))))))
noncomputable def cB:FS:=ak 3 9 none mz
abbrev nX:=OkY "folds_by" ["web", "numbering", "folds"] 8 none cB
theorem se(h:Has K mg "folds_by" (top 40) ["web", "numbering", "folds"])(T:Txt K mg)(G51:cc P w K mg base)(G52:fW P w K mg base)(G48:dN P w K mg base):nX P w K mg base:=by
 trace "ʟȀ0ȘьбļQBf%0ȘǴaY`B#м&eYѣИЗʠ0ʡʢЂѢĔĹf-pBf*+ćȕǵaю"
noncomputable def jx:SS:=(ag (aD 2 (ae none none bQ [.bor 1])) (ag (aD 3 (ae (some 0) (some 2) aG [.bor 2])) (ag (aD 4 (ae none none dq [.bor 3])) (ag (aD 5 (sOp gIx [.ex (ae none none bq [.bor 3]),.ex (sC (.int 1))])) (ag (aD 6 (sOp aM [.ex (sOp cA [.ex (sC (.int 2)),.ex (sOp bi [.ex (sOp gIx [.bor 4,.ex (sC (.int 1))])])]),.ex (sC (.int 1))])) (ag (aD 7 (ae none none fS [.bor 4,.bor 5])) (ag (aI (sOr (aC dS [.ex (ae none none bv [.bor 4,.bor 6,.bor 7]),.ex (sC (.bl true))]) (aC dS [.ex (ae none none bv [.bor 4,.bor 6,.ex (sOp sO [.bor 7,.ex (sC (.int 1))])]),.ex (sC (.bl false))])) (ao (sC (.bl false))) aQ) (ag (aI (dh (cX (.ex (ae none none cb [.bor 4,.bor 5,.bor 7])))) (ao (sC (.bl false))) aQ) (ag (lG (.tp [(.nm 8),(.nm 9)]) (ae none none dA [.bor 4,.bor 5,.ex (sC (.int 1))])) (ag (aI (aC dS [.ex (ae none none bv [.bor 8,.ex (sOp aM [.bor 6,.ex (sC (.int 2))]),.ex (ae none none fS [.bor 8,.bor 9])]),.ex (sC (.bl true))]) (ao (sC (.bl false))) aQ) (aI (aC gNe [.ex (sOp gIx [.bor 3,.ex (sC (.int 0))]),.ex (sC (.str "ring"))]) (ag (aD 10 (ae none none cU [.bor 3])) (ag (aI (aC gNe [.ex (ae none none cB [.bor 4,.bor 10,.ex (sC (.int 1))]),.ex (ae none none fS [.bor 4,.bor 10])]) (ao (sC (.bl false))) aQ) (aI (aC dS [.ex (ae none none bv [.bor 4,.ex (sOp bg [.ex (sOp cA [.ex (sC (.int 2)),.bor 6]),.ex (sC (.int 1))]),.ex (ae none none cB [.bor 4,.bor 10,.ex (sC (.int 2))])]),.ex (sC (.bl true))]) (ao (sC (.bl false))) aQ))) aQ)))))))))))
noncomputable def ym:SS:=(ag (eI (bf (sOp aM [.ex (dH [(ae none none bh [.bor 0,.ex (sC (.int 0))])]),.ex (sOp (B8 1 2) [.bor 0])])) (.nm 1) jx) (ao (sC (.bl true))))
noncomputable def sU:FS:=ak 1 11 none ym
theorem ok_law{f0:Addr}{fd0:FuncData}(h:Fun K "law" "law" (top 75) f0 fd0)(T:Txt K mg)(G45:hX P w K mg base)(G36:iO P w K mg base)(G55:eS P w K mg base)(G4:ik P w K mg base)(G28:le P w K mg base)(G0:tT P w K mg base)(G5:nY P w K mg base)(G50:fX P w K mg base)(G39:iK P w K mg base)(G29:kc P w K mg base)(G7:nX P w K mg base):kF P w K mg base (CXr P w) 9 f0 fd0 ["script"] (spF K none sU):=by
 trace "ʣȀИĆ`ĦǿǶвǾ#ʤ&ȁYǷRYǸRYǹRYF#ǺRUY`мрЎUYŀaѪħ#Ĩoa#G<ħ#ĨэȻЃ#GРjТǻoaР0ŸǼoвОȁ;ȁAjħ#ĨС-eQŀa%#GРыțg#ĥYǽRjț#żoв#ŀaРыħ#ĨСПмeQżoв%#GРmG"
end
end K74
namespace K74
open PySem L2
theorem AZ{i:Int}:gf [.int i]=some (.ok (.bl true) false,.non):=by
 unfold gf mr
 trace "q=(Їſ(ЇT"
theorem fF{i lo hi:Int}:aV [.int i,.int lo,.int hi]=some (.ok (.bl (decide (lo<=i)&&decide (i<=hi))) false,.non):=by
 have h := @AZ;unfold aV gG
 trace "q=W?Tƀ'Ѭ'9wНP"
theorem t_many{n:Int}:fk [.int n]=some (.ok (.bl (decide (1<=n)&&decide (n<=40))) false,.non):=by
 have h := @fF;unfold fk kM
 trace "qiЄn?Ѐ"
theorem lO{n i:Int}:bY [.int n,.int i]=some (.ok (.bl (decide (0<=i)&&decide (i<=n - 1))) false,.non):=by
 have h := @fF;unfold bY mw
 trace "qiЄФ?Ѐ"
theorem t_told{n a b:Int}(h0:0<=a)(h1:a < b)(h2:b < n):gc [.int n,.tup [.int a,.int b]]=some (.ok (.tup [.int a,.int b]) false,.non):=by
 have h := @lO
 have mn:eM [.tup [.int a,.int b]]=some (.int a,false):=by
  show some (D.int (if a<=b then a else b),false)=_
  rw [if_pos (by omega)]
 have mx:eN [.tup [.int a,.int b]]=some (.int b,false):=by
  show some (D.int (if b<=a then a else b),false)=_
  rw [if_neg (by omega)]
 have al:kA [.lst [.bl (decide (0<=a)&&decide (a<=n - 1)),.bl (decide (0<=b)&&decide (b<=n - 1))]]=some (.bl true,false):=by
  rw [Dy h0,Dy (show a<=n - 1 by omega),Dy (show 0<=b by omega),Dy (show b<=n - 1 by omega)];rfl
 unfold gc ml
 trace "bфЉ}ȡ^ѩS'ѯ9PХБ?!ȇХБ?!ȇĉ$ĖѿcІȝȈ7,Hx]ƃx]ƄВ"
def kT(t:Int×Int):List Key:=[.inl t.1,.inl t.2]
theorem uA{a b:Int×Int}(h:kT a=kT b):a=b:=by
 unfold kT at h;simp at h;exact Prod.ext h.1 h.2
theorem o3{ts:List (Int×Int)}{t:Int×Int}(h:t∉ts):∀ vs:List D,bN (ts.map kT) vs (kT t)=none:=by
 induction ts with
 | nil=>intro vs;cases vs<;>rfl
 | cons u ts ih =>
  intro vs
  cases vs with
  | nil=>rfl
  | cons v vs =>
   rw [DJ];unfold bN;rw [if_neg (fun e=>h (by rw [uA e];exact DC))];exact ih (fun z=>h (Dv _ z)) vs
theorem vI{ts:List (Int×Int)}{t:Int×Int}(h:t∉ts):i6 (ts.map kT) (List.replicate ts.length (.bl true)) (kT t) (.bl true)=((ts++[t]).map kT,List.replicate (ts++[t]).length (.bl true)):=by
 induction ts with
 | nil=>rfl
 | cons u ts ih =>
  rw [DJ,Dq,ED];unfold i6;rw [if_neg (fun e=>h (by rw [uA e];exact DC)),ih fun z=>h (Dv _ z)];rfl
theorem sE{ts:List (Int×Int)}(h:ts.Nodup):(ts.map kT).Nodup:=by
 induction ts with
 | nil=>exact Fh
 | cons u ts ih =>
  have h:=En.mp h;rw [DJ];refine En.mpr ⟨fun z=> ?_,ih h.2⟩;obtain ⟨v,hv,e⟩:=DP.mp z;exact h.1 (by rw [<- uA e];exact hv)
theorem zx(ts:List (Int×Int)):o4 (ts.map kT)=some (ts.map fun t=>[t.1,t.2]):=by
 induction ts with
 | nil=>rfl
 | cons u ts ih =>
  rw [DJ];unfold o4;rw [ih];rfl
theorem wu{ts:List (Int×Int)}(h:ts.length < 64){vs:List D}:fB [.dT (ts.map kT) vs]=some (.lst (tD (a9 ts)),true):=by
 unfold fB;simp only [zx,Dp,h,decide_true,if_true];rw [<- ul,tD_tup]
theorem q5{n:Nat}{ts:List (Int×Int)}(O:aH n ts):gZ [.int (n:Nat),.lst (tD ts)]=some (.ok (a7 (n:Nat) (a9 ts)) false,.non):=by
 have n0:=O.n0;have n1:=O.n;have ll:=O.l;have tm := @t_many;have tt := @t_told;have sr:=wu (ts:=ts) (by omega) (vs:=List.replicate ts.length (.bl true))
 obtain ⟨ρ',e,a,b,c,rfl⟩:=kR (T:= .tp [.nm 3,.nm 4]) (f:=iT) (inj:=fun p:(Int×Int)×Nat=> .tup [.int (p.2:Nat),AX p.1]) (fun i (_:Unit) ρ=>∃ a b c,ρ=[some (.int (n:Nat),.fz),some (.lst (tD ts),.fz),some (.dT ((ts.take i).map kT) (List.replicate (ts.take i).length (.bl true)),.ow),a,b,c]) (fun _ _=>()) ts.zipIdx 0 () [some (.int (n:Nat),.fz),some (.lst (tD ts),.fz),some (.dT [] [],.ow),none,none,none] ⟨none,none,none,rfl⟩ (by
  rintro i ⟨t,j⟩ hx _ ρ ⟨a,b,c,rfl⟩;rw [List.getElem?_zipIdx] at hx;obtain ⟨t',ht,e⟩:=El.mp hx;cases e;rw [Ew] at *;have hi:=(DG.mp ht).1;have hr:=O.r t (DF ht)
  have tk:ts.take (i+1)=ts.take i++[t]:=by rw [List.take_add_one,ht];rfl
  have nd:(ts.take i++[t]).Nodup:=by rw [<- tk];exact O.d.sublist (List.take_sublist _ _)
  have ni:t∉ts.take i:=fun z=>by
   rw [Ee] at nd;exact nd.2.2 t z t (DQ.mpr rfl) rfl
  have gi:gIn [.tup [.int t.1,.int t.2],.dT ((ts.take i).map kT) (List.replicate (ts.take i).length (.bl true))]=some (.bl false,false):=by
   show (match (some (bN ((ts.take i).map kT) (List.replicate (ts.take i).length (.bl true)) (kT t)).isSome) with | some b=>some (D.bl b,false) | none=>none)=_
   rw [o3 ni];rfl
  have up:l5 (.dT ((ts.take i).map kT) (List.replicate (ts.take i).length (.bl true))) (.tup [.int t.1,.int t.2]) (.bl true)=some (.dT ((ts.take i++[t]).map kT) (List.replicate (ts.take i++[t]).length (.bl true))):=by
   show (if (small ((ts.take i).map kT).length&&decide ((ts.take i).map kT).Nodup)=true then some (D.dT (i6 ((ts.take i).map kT) (List.replicate (ts.take i).length (.bl true)) (kT t) (.bl true)).1 (i6 ((ts.take i).map kT) (List.replicate (ts.take i).length (.bl true)) (kT t) (.bl true)).2) else none)=_
   rw [vI ni,if_pos];rw [fG (by rw [Dp,EY];omega),Dy (sE (O.d.sublist (List.take_sublist _ _)))];rfl
  unfold iT
  trace "ĊȄuБƅvȅdѮ)ѭK)Ћł!)ГȈ7Ę1!НŃȂ"
  rw [tk]
  exact ⟨_,_,_,rfl⟩)
 rw [List.length_zipIdx,Ew,List.take_length] at e;unfold gZ rq
 trace "bі'WƆwɃ7uńдĩН5,HsxyƇZВ"
end K74
namespace K74
open PySem L2
abbrev spK(legs:List Nat):D:= .tup [.str "spine",.tup (nD (iL legs))]
abbrev jz(n:Int):D:= .tup [.str "ring",.int n]
abbrev fu(m n:Int):D:= .tup [.str "sides",.int m,.int n]
theorem CI{a b:Int}(h0:0<=a)(h1:a<=1000)(h2:0<=b)(h3:b<=1000):dv [.int a,.int b]=some (.ok (.lst (tD (iX a (b - a).toNat))) true,.non):=by
 unfold dv mo
 trace "qCŅЋvvȅ!ĪȉȐђHsxГ.TP"
theorem t3{m a b:Int}(h0:0<=a)(h1:a<=1000)(h2 : -1<=b)(h3:b<=1000):ba [.int m,.int a,.int b]=some (.ok (.lst (tD ((rgI a (b+1 - a).toNat).map fun x=>(m,x)))) true,.non):=by
 unfold ba kI
 trace "qCŅ_Фvvȅ!ĪȉȐђHss.TP"
abbrev enD(p:Nat×Nat):D:= .tup [.int (p.2:Nat),.int (p.1:Nat)]
theorem Dd(legs:List Nat):(iL legs).zipIdx.map (fun p:Int×Nat=>D.tup [.int (p.2:Nat),.int p.1])=legs.zipIdx.map enD:=by
 have:∀ (legs:List Nat) (k:Nat),((iL legs).zipIdx k).map (fun p:Int×Nat=>D.tup [.int (p.2:Nat),.int p.1])=(legs.zipIdx k).map enD:=by
  intro legs
  induction legs with
  | nil=>intro k;rfl
  | cons l r ih=>intro k;show _::_=_::_;rw [<- ih (k+1)]
 exact this legs 0
theorem oR{L:Option (D×Md)}:∀ (r:List Nat) (k:Nat) (fr:Nat) (ts:List (Int×Int)) (a c:Option (D×Md)),ts.length+r.sum<=1000->fr+r.sum<=1000 ->
 ∃ a' c':Option (D×Md),bK (.tp [.nm 3,.nm 4]) cG ((r.zipIdx k).map enD) [L,some (.lst (tD ts),.ow),some (.int (fr:Nat),.fz),a,c]=some (.nx,[L,some (.lst (tD (ts++stT (k:Nat) (fr:Nat) r)),.ow),some (.int ((fr+r.sum:Nat):Int),.fz),a',c'])
 | [],k,fr,ts,a,c,h,h2=>⟨a,c,by simp [stT];rfl⟩
 | l::r,k,fr,ts,a,c,h,h2=>by
  rw [EZ] at h h2;obtain ⟨a',c',e2⟩:=oR r (k+1) (fr+l) (ts++(rgI (fr:Nat) l).map fun x=>((k:Int),x)) (some (.int (k:Nat),.fz)) (some (.int (l:Nat),.fz)) (by simp [aq];omega) (by omega);refine ⟨a',c',?_⟩
  have eT:ts++(rgI (fr:Nat) l).map (fun x=>((k:Int),x))++stT ((k+1:Nat):Int) ((fr+l:Nat):Int) r=ts++stT (k:Nat) (fr:Nat) (l::r):=by
   rw [EF];rfl
  rw [eT,show fr+l+r.sum=fr+(l::r).sum by rw [EZ];omega] at e2
  have st:ba [.int (k:Nat),.int (fr:Nat),.int ((fr:Int)+(l:Nat) - 1)]=some (.ok (.lst (tD ((rgI (fr:Nat) l).map fun x=>((k:Int),x)))) true,.non):=by
   rw [t3 (by omega) (by omega) (by omega) (by omega),show ((fr:Int)+(l:Nat) - 1+1 - (fr:Nat)).toNat=l by omega]
  have ex:bG (.lst (tD ts)) [.lst (tD ((rgI (fr:Nat) l).map fun x=>((k:Int),x)))]=some (.lst (tD (ts++(rgI (fr:Nat) l).map fun x=>((k:Int),x))),.non):=gC (by rw [Dp,aq];omega)
  have e0:cG [L,some (.lst (tD ts),.ow),some (.int (fr:Nat),.fz),some (.int (k:Nat),.fz),some (.int (l:Nat),.fz)]=some (.nx,[L,some (.lst (tD (ts++(rgI (fr:Nat) l).map fun x=>((k:Int),x))),.ow),some (.int ((fr:Int)+(l:Nat)),.fz),some (.int (k:Nat),.fz),some (.int (l:Nat),.fz)]):=by
   unfold cG
   trace "/4Ц:i_хnЛī!ДċȂČ!9d!"
  rw [List.zipIdx_cons,DJ];rw [show ((fr+l:Nat):Int)=(fr:Int)+(l:Nat) by omega] at e2
  trace "/їāņ!"
theorem pP{legs:List Nat}(h0:legs≠[])(hb:legs.length+legs.sum<=900):dW [.tup (nD (iL legs))]=some (.ok (.lst (tD (spT legs))) true,.non):=by
 have hl:=DV.mpr h0;have r:=CI (a:=0) (b:=(legs.length:Int) - 1) (by omega) (by omega) (by omega) (by omega);rw [show ((legs.length:Int) - 1 - 0).toNat=legs.length - 1 by omega] at r;obtain ⟨a',c',e⟩:=oR (L:=some (.tup (nD (iL legs)),.fz)) legs 0 legs.length (iX 0 (legs.length - 1)) none none (by unfold iX;rw [Dp,aq];omega) (by omega)
 have ln:bi [.tup (nD (iL legs))]=some (.int (legs.length:Nat),false):=by rw [eh,Dp]
 rw [<- Dd] at e;unfold dW jt
 trace "z>ЄSyčn$Ňdl]čдĩН5ĬVP"
theorem rj{n:Nat}(h0:1<=n)(h1:n<=900):fh [.int (n:Nat)]=some (.ok (.lst (tD (jy n))) true,.non):=by
 have r:=CI (a:=0) (b:=(n:Int) - 1) (by omega) (by omega) (by omega) (by omega);rw [show ((n:Int) - 1 - 0).toNat=n - 1 by omega] at r
 have l:(iX 0 (n - 1)).length=n - 1:=by unfold iX;rw [Dp,aq]
 unfold fh kJ
 trace "qЏ>ЄkјŇ!'8:ѷxГ..$ƋȅP"
theorem pQ{m n:Nat}(h1:m<=40)(h2:n<=40)(h3:m * n<=900):dX [.int (m:Nat),.int (n:Nat)]=some (.ok (.lst (tD (gF m n))) true,.non):=by
 have fl:∀ i:Nat,((rgI 0 i).flatMap fun p=>(rgI (m:Nat) n).map fun x=>(p,x)).length=i * n:=by
  intro i
  induction i with
  | zero=>simp [rgI]
  | succ i ih=>rw [bL,EU,DD,ih];simp [aq,Nat.add_mul]
 obtain ⟨ρ',e,a,rfl⟩:=eG (T:= .nm 3) (f:=eC) (fun i ρ=>∃ a,ρ=[some (.int (m:Nat),.fz),some (.int (n:Nat),.fz),some (.lst (tD ((rgI 0 i).flatMap fun p=>(rgI (m:Nat) n).map fun x=>(p,x))),.ow),a]) m [some (.int (m:Nat),.fz),some (.int (n:Nat),.fz),some (.lst [],.ow),none] ⟨none,by simp [rgI]⟩ (by
  rintro i hi ρ ⟨a,rfl⟩
  have st:ba [.int (i:Nat),.int (m:Nat),.int ((m:Int)+(n:Nat) - 1)]=some (.ok (.lst (tD ((rgI (m:Nat) n).map fun x=>((i:Int),x)))) true,.non):=by
   rw [t3 (by omega) (by omega) (by omega) (by omega),show ((m:Int)+(n:Nat) - 1+1 - (m:Nat)).toNat=n by omega]
  have lb:i * n<=900:=Ep (Nat.mul_le_mul_right n (by omega)) h3;have ex:bG (.lst (tD ((rgI 0 i).flatMap fun p=>(rgI (m:Nat) n).map fun x=>(p,x)))) [.lst (tD ((rgI (m:Nat) n).map fun x=>((i:Int),x)))]=some (.lst (tD (((rgI 0 i).flatMap fun p=>(rgI (m:Nat) n).map fun x=>(p,x))++(rgI (m:Nat) n).map fun x=>((i:Int),x))),.non):=gC (by rw [fl,Dp,aq];omega);unfold eC
  trace "ĊȄЦ:i_хnЛī!ДċȂ"
  rw [bL,EU,Int.zero_add,E6,FO,Ec]
  exact ⟨_,rfl⟩)
 have hm:m<=1000000:=by omega
 unfold dX ju
 trace "z8.деƍ5ĬVP"
end K74
namespace K74
open PySem L2
theorem t_legs{legs:List Nat}(h0:legs≠[])(hb:∀ l∈legs,l<=40):fm [.tup (nD (iL legs))]=some (.ok (.bl true) false,.non):=by
 have h := @fF;have hl:=DV.mpr h0
 have ln:bi [.tup (nD (iL legs))]=some (.int (legs.length:Nat),false):=by rw [eh,Dp]
 have al:((iL legs).map fun x=>decide (0<=x)&&decide (x<=40)).all id=true:=by
  rw [FK,FK,DK];intro x hx;have:=hb x hx
  show (decide (0<=(x:Int))&&decide ((x:Int)<=40))=true
  rw [Dy (by omega),Dy (by omega)];rfl
 unfold fm kN
 trace "bфyčѴȈ7,љ9PĎȉђiЄn?P$ȢT"
 rw [al]
theorem t_num1{a n:Int}(h1:a<=n)(h2:n<=40):bA [.ktup [.int a],.tup [.int n]]=some (.ok (.bl true) false,.non):=by
 have h := @fF
 have al:kA [.lst [.bl (decide (a<=n)&&decide (n<=40))]]=some (.bl true,false):=by rw [Dy h1,Dy h2];rfl
 unfold bA eE
 trace "b~ЉЉ$ȡ^,ЏCňssДȑȪ!ХiГ?!ȇĉ$ĖP"
theorem t_num2{a b n m:Int}(h1:a<=n)(h2:n<=40)(h3:b<=m)(h4:m<=40):bA [.ktup [.int a,.int b],.tup [.int n,.int m]]=some (.ok (.bl true) false,.non):=by
 have h := @fF
 have al:kA [.lst [.bl (decide (a<=n)&&decide (n<=40)),.bl (decide (b<=m)&&decide (m<=40))]]=some (.bl true,false):=by rw [Dy h1,Dy h2,Dy h3,Dy h4];rfl
 unfold bA eE
 trace "b~ЉЉ$ȡ^,ЏCňssДȑȪ!ХiГ?!ȇХiГ?!ȇĉ$ĖP"
theorem wr{legs:List Nat}(h0:legs≠[])(hb:∀ l∈legs,l<=40):br [spK legs]=some (.ok (.bl true) false,.non):=by
 have h:=t_legs h0 hb;unfold br eZ
 trace "bфЉжlѱњ,=(ЉѴ!>ћ"
theorem rm{n:Int}(h1:3<=n)(h2:n<=40):br [jz n]=some (.ok (.bl true) false,.non):=by
 have h:=t_num1 h1 h2;have g1:pe bd be [.str "ring"]=some (.ktup [.int 3],false):=rfl;have g2:sO [jz n,.int 1]=some (.tup [.int n],false):=rfl;unfold br eZ
 trace "bфЉжlѱЧфЇ7ШyLkă$ѕ"
theorem pS{m n:Int}(h1:1<=m)(h2:m<=40)(h3:1<=n)(h4:n<=40):br [fu m n]=some (.ok (.bl true) false,.non):=by
 have h:=t_num2 h1 h2 h3 h4;have g1:pe bd be [.str "sides"]=some (.ktup [.int 1,.int 1],false):=rfl;have g2:sO [fu m n,.int 1]=some (.tup [.int m,.int n],false):=rfl;unfold br eZ
 trace "bфЉжlѱЧфЇ7ШyLkă$ѕ"
theorem rk{legs:List Nat}:bb [spK legs]=some (.ok (.int ((legs.length+legs.sum:Nat):Int)) false,.non):=by
 have ln:bi [.tup (nD (iL legs))]=some (.int (legs.length:Nat),false):=by rw [eh,Dp]
 have sm:qy [.tup (nD (iL legs))]=some (.int (legs.sum:Nat),false):=by rw [pc,t7]
 unfold bb eY
 trace "цњЩSІčSІŉZP"
theorem og{n:Int}:bb [jz n]=some (.ok (.int n) false,.non):=by
 unfold bb eY
 trace "цЧЧѮ)ѭ)ѾЩѓЀ"
theorem l7{m n:Int}:bb [fu m n]=some (.ok (.int (m+n)) false,.non):=by
 unfold bb eY
 trace "цЧњЩccZP"
theorem wp{legs:List Nat}(h0:legs≠[])(hb:legs.length+legs.sum<=900):bP [spK legs]=some (.ok (.lst (tD (spT legs))) true,.non):=by
 have h:=pP h0 hb;unfold bP ia
 trace "цњШћ"
theorem rh{n:Nat}(h0:1<=n)(h1:n<=900):bP [jz (n:Nat)]=some (.ok (.lst (tD (jy n))) true,.non):=by
 have h:=rj h0 h1;unfold bP ia
 trace "цЧњШћ"
theorem pO{m n:Nat}(h1:m<=40)(h2:n<=40)(h3:m * n<=900):bP [fu (m:Nat) (n:Nat)]=some (.ok (.lst (tD (gF m n))) true,.non):=by
 have h:=pQ h1 h2 h3;unfold bP ia
 trace "цЧЧњШcћ"
structure kE(k:D)(n:Nat)(ts:List (Int×Int)):Prop where
 f:br [k]=some (.ok (.bl true) false,.non)
 p:bb [k]=some (.ok (.int (n:Nat)) false,.non)
 t:bP [k]=some (.ok (.lst (tD ts)) true,.non)
 o:aH n ts
theorem rl{k:D}{n:Nat}{ts:List (Int×Int)}(O:kE k n ts):fo [k]=some (.ok (.bl true) false,.non):=by
 have h1:=O.f;have h2:=O.p;have h3:=O.t;have n1:=O.o.n;have l1:=O.o.l;unfold fo kO
 trace "q=WěT=ЏWĭ!nȒ(S'WĮјŊnT"
 rw [Dy (show (ts.length:Int)<=60 by omega)]
theorem de{k:D}{n:Nat}{ts:List (Int×Int)}(O:kE k n ts):dq [k]=some (.ok (a7 (n:Nat) (a9 ts)) false,.non):=by
 have h1:=rl O;have h2:=O.p;have h3:=O.t;have h4:=q5 O.o;unfold dq oS
 trace "bі'WěзШ'Wĭ!'WĮјƎЀ"
theorem C8{legs:List Nat}(h0:legs≠[])(m:legs.length+legs.sum<=40):kE (spK legs) (legs.length+legs.sum) (spT legs):=⟨wr h0 (zu (by omega)),rk,wp h0 (by omega),sp_ok h0 m⟩
theorem vP{n:Nat}(h1:3<=n)(h2:n<=40)(o:aH n (jy n)):kE (jz (n:Nat)) n (jy n):=⟨rm (by omega) (by omega),og,rh (by omega) (by omega),o⟩
theorem rY{m n:Nat}(h1:1<=m)(h2:1<=n)(h3:m+n<=40)(o:aH (m+n) (gF m n)):kE (fu (m:Nat) (n:Nat)) (m+n) (gF m n):=⟨pS (by omega) (by omega) (by omega) (by omega),l7,pO (by omega) (by omega) (by have:=o.l;rw [t8] at this;omega),o⟩
end K74
namespace K74
open PySem L2
theorem yi{L:Option (D×Md)}:∀ (r:List Nat) (k:Nat) (b:Bool) (lo hi:Int) (row fur:List Int) (x5 x6:Option (D×Md)),(b=true↔k % 2=0)->row.length+r.length<=900->fur.length+r.sum<=900 ->
 ∃ lo' hi' x5' x6',bK (.tp [.nm 5,.nm 6]) aZ ((r.zipIdx k).map enD) [L,some (.int lo,.fz),some (.int hi,.fz),some (.lst (nD row),.ow),some (.lst (nD fur),.ow),x5,x6]=some (.nx,[L,some (.int lo',.fz),some (.int hi',.fz),some (.lst (nD (row++rS b lo hi r)),.ow),some (.lst (nD (fur++rL b lo hi r)),.ow),x5',x6'])
 | [],k,b,lo,hi,row,fur,x5,x6,hb,h1,h2=>⟨lo,hi,x5,x6,by cases b<;>simp [rS,rL,cL]<;>rfl⟩
 | l::r,k,b,lo,hi,row,fur,x5,x6,hb,h1,h2=>by
  rw [Dq] at h1;rw [EZ] at h2;rw [List.zipIdx_cons,DJ]
  have hl:l<=1000000:=by omega
  cases b with
  | true =>
   have hk:=hb.mp rfl;obtain ⟨lo',hi',x5',x6',e⟩:=yi (L:=L) r (k+1) false (lo+1) (hi - (l:Nat)) (row++[lo]) (fur++dnI hi l) (some (.int (k:Nat),.fz)) (some (.int (l:Nat),.fz)) (by constructor<;>intro z<;>first | cases z | omega) (by simp;omega) (by simp [jX];omega);refine ⟨lo',hi',x5',x6',?_⟩;rw [rS_t,rL_t,show row++lo::rS false (lo+1) (hi - (l:Nat)) r=row++[lo]++rS false (lo+1) (hi - (l:Nat)) r by simp,<- EF]
   have dn:(rgI 0 l).map (fun x=>hi - x)=dnI hi l:=by unfold rgI dnI;rw [Ed];exact DU fun x _=>by show hi - (0+(x:Nat))=hi - (x:Nat);omega
   have ex:bG (.lst (nD fur)) [.lst (nD ((rgI 0 l).map fun x=>hi - x))]=some (.lst (nD (fur++dnI hi l)),.non):=by rw [dn];exact gC (by rw [jX];omega)
   have e0:aZ [L,some (.int lo,.fz),some (.int hi,.fz),some (.lst (nD row),.ow),some (.lst (nD fur),.ow),some (.int (k:Nat),.fz),some (.int (l:Nat),.fz)]=some (.nx,[L,some (.int (lo+1),.fz),some (.int (hi - (l:Nat)),.fz),some (.lst (nD (row++[lo])),.ow),some (.lst (nD (fur++dnI hi l)),.ow),some (.int (k:Nat),.fz),some (.int (l:Nat),.fz)]):=by
    unfold aZ
    trace "/ѫЪȒ4ЦsДĜȅȂ4Ц:Cеŋ!ЫȐЌЕTДċȂ4Č!1VČ!9d!"
   trace "/їā5!"
  | false =>
   have hk:¬ k % 2=0:=fun z=>by have:=hb.mpr z;cases this
   obtain ⟨lo',hi',x5',x6',e⟩:=yi (L:=L) r (k+1) true (lo+(l:Nat)) (hi - 1) (row++[hi]) (fur++rgI lo l) (some (.int (k:Nat),.fz)) (some (.int (l:Nat),.fz)) (by constructor<;>intro z<;>first | rfl | omega) (by simp;omega) (by simp [aq];omega);refine ⟨lo',hi',x5',x6',?_⟩;rw [rS_f,rL_f,show row++hi::rS true (lo+(l:Nat)) (hi - 1) r=row++[hi]++rS true (lo+(l:Nat)) (hi - 1) r by simp,<- EF]
   have dn:(rgI 0 l).map (fun x=>lo+x)=rgI lo l:=by unfold rgI;rw [Ed];exact DU fun x _=>by show lo+(0+(x:Nat))=lo+(x:Nat);omega
   have ex:bG (.lst (nD fur)) [.lst (nD ((rgI 0 l).map fun x=>lo+x))]=some (.lst (nD (fur++rgI lo l)),.non):=by rw [dn];exact gC (by rw [aq];omega)
   have e0:aZ [L,some (.int lo,.fz),some (.int hi,.fz),some (.lst (nD row),.ow),some (.lst (nD fur),.ow),some (.int (k:Nat),.fz),some (.int (l:Nat),.fz)]=some (.nx,[L,some (.int (lo+(l:Nat)),.fz),some (.int (hi - 1),.fz),some (.lst (nD (row++[hi])),.ow),some (.lst (nD (fur++rgI lo l)),.ow),some (.int (k:Nat),.fz),some (.int (l:Nat),.fz)]):=by
    unfold aZ
    trace "/чЪȈ4ЦsДĜȅȂ4Ц:Cеŋ!ЫȐЌЕTДċȂ4Č!9dČ!1V!"
   trace "/їā5!"
theorem t4{legs:List Nat}(h0:legs≠[])(hb:legs.length+legs.sum<=800):dy [.tup (nD (iL legs))]=some (.ok (.tup (nD (cN legs))) false,.non):=by
 have hl:=DV.mpr h0
 have hq:(legs.length:Int)+(legs.sum:Nat) - 1=(rem legs:Nat):=by unfold rem;omega
 obtain ⟨lo',hi',x5,x6,e⟩:=yi (L:=some (.tup (nD (iL legs)),.fz)) legs 0 true 0 (rem legs:Nat) [] [] none none (by simp) (by simp;omega) (by simp;omega);rw [Eu,Eu,<- Dd] at e;have e1:bK (.tp [.nm 5,.nm 6]) aZ ((iL legs).zipIdx.map fun p:Int×Nat=>D.tup [.int (p.2:Nat),.int p.1]) [some (.tup (nD (iL legs)),.fz),some (.int 0,.fz),some (.int (rem legs:Nat),.fz),some (.lst [],.ow),some (.lst [],.ow),none,none]=_:=e
 have ln:bi [.tup (nD (iL legs))]=some (.int (legs.length:Nat),false):=by rw [eh,Dp]
 have sm:qy [.tup (nD (iL legs))]=some (.int (legs.sum:Nat),false):=by rw [pc,t7]
 have mi:bg [.int ((legs.length:Int)+(legs.sum:Nat)),.int 1]=some (.int (rem legs:Nat),false):=by show some (D.int (_ - 1),false)=_;rw [hq]
 have cl:(rS true 0 (rem legs:Nat) legs++rL true 0 (rem legs:Nat) legs).length=rem legs+1:=by rw [Dg h0,cN_len h0]
 rw [DD] at cl
 have ad:aM [.lst (nD (rS true 0 (rem legs:Nat) legs)),.lst (nD (rL true 0 (rem legs:Nat) legs))]=some (.lst (nD (cN legs)),true):=by rw [<- Dg h0];exact ig (by rw [cl];unfold rem;omega)
 unfold dy ip
 trace "z1VlSyčyŉZ}ƑVu8.Vu8.дĩНĝЩtŌZP"
theorem of{m n:Nat}(h1:m<=40)(h2:n<=40):dz [.int (m:Nat),.int (n:Nat)]=some (.ok (.tup (nD (sdN m n))) false,.non):=by
 unfold dz iq
 trace "q(SSЉ$ƒȅ'Cеȅ!ЫȐЌ_ФѸќōȑZP"
theorem oM{legs:List Nat}(h0:legs≠[])(hb:legs.length+legs.sum<=800):bc [spK legs]=some (.ok (.tup (nD (cN legs))) false,.non):=by
 have h:=t4 h0 hb;unfold bc fv
 trace "bАcn!Шћ"
theorem jq{m n:Nat}(h1:m<=40)(h2:n<=40):bc [fu (m:Nat) (n:Nat)]=some (.ok (.tup (nD (sdN m n))) false,.non):=by
 have h:=of h1 h2;unfold bc fv
 trace "b~cжАcn!Шcћ"
theorem ne_tru{ts:List (Int×Int)}(h:ts≠[]):jn (.tup (tD (a9 ts)))=some true:=by
 rw [oK]
 have:a9 ts≠[]:=fun z=>by
  have:=(bI ts).length_eq;rw [z] at this;exact h (List.length_eq_zero_iff.mp this.symm)
 cases e:a9 ts with
 | nil=>exact absurd e this
 | cons _ _=>rfl
end K74
namespace K74
open PySem L2
end K74
namespace K74
open PySem L2
abbrev rgf(n p:Int):Int:=if decide (p % 2=0)=true then p / 2+(if decide (n % 4=3)=true then (if decide (n / 2<=p)=true then 1 else 0) else 0) else n - p / 2 - (if decide (n % 4=0)=true then (if decide (n / 2<=p)=true then 1 else 0) else 0)
theorem pR{n:Nat}(h:n<=900):dY [.int (n:Nat)]=some (.ok (.tup (nD (gv n))) false,.non):=by
 obtain ⟨ρ',e,a,b,rfl⟩:=eG (T:= .nm 2) (f:=eD) (fun i ρ=>∃ a b,ρ=[some (.int (n:Nat),.fz),some (.lst (nD ((rgI 0 i).map (rgf n))),.ow),a,b]) n [some (.int (n:Nat),.fz),some (.lst [],.ow),none,none] ⟨none,none,by simp [rgI]⟩ (by
  rintro i hi ρ ⟨a,b,rfl⟩
  have hb:((rgI 0 i).map (rgf n)).length<=1000:=by rw [Dp,aq];omega
  rw [bL,Ev,Int.zero_add,DJ,Fa];unfold eD
  by_cases h2:(i:Int) % 2=0
  ·have e1:rgf n i=(i:Int) / 2+(if decide ((n:Int) % 4=3)=true then (if decide ((n:Int) / 2<=i)=true then 1 else 0) else 0):=by unfold rgf;rw [if_pos (Dy h2)]
   rw [e1]
   trace "ĊȄuĞ)_kďvЛ11VѫЪȒЦxkďv'Ğ)ЪѬ1ZДĜȃȂ"
   exact ⟨_,_,rfl⟩
  ·have e1:rgf n i=(n:Int) - (i:Int) / 2 - (if decide ((n:Int) % 4=0)=true then (if decide ((n:Int) / 2<=i)=true then 1 else 0) else 0):=by unfold rgf;rw [if_neg (by rw [EE];exact h2)]
   rw [e1]
   trace "ĊȄuĞ)_kďvЛ11VчЪȈЦxёkďvЛ'Ğ)ЪѬ1ZДĜȃȂ"
   exact ⟨_,_,rfl⟩)
 have hn:n<=1000000:=by omega
 unfold dY jv
 trace "z8.деƖ5ЩЇT"
theorem rg_ok{n:Nat}(h1:3<=n)(h2:n<=40):aH n (cy n):=by
 have:=(kf (kj h1 h2)).perm (bI (jy n)).symm;rw [(uf h1 h2).1] at this;exact this
theorem wt{n:Nat}(h1:3<=n)(h2:n<=40)(h3:n % 4=0\/n % 4=3):cr [a7 (n:Nat) (cy n)]=some (.ok (.tup [.str "numbering",.tup (nD (gv n))]) false,.non):=by
 have h:=pR (n:=n) (by omega);unfold cr ir
 rcases h3 with h3 | h3
 ·trace "bęĚƙ)ScѝȒ!ў>ІĂ!В"
 ·trace "bęĚK)ScѝȈ)ScѝȒў>ІĂ!В"
theorem t5{n:Nat}{d:D}(h1:3<=n)(h2:n<=40)(h:cr [a7 (n:Nat) (cy n)]=some (.ok d false,.non)):bq [jz (n:Nat)]=some (.ok d false,.non):=by
 have w:=de (vP h1 h2 (kf (kj h1 h2)));rw [(uf h1 h2).1] at w;unfold bq eW
 trace "zWğdАcn!,Wѕ"
theorem yb{legs:List Nat}(h0:legs≠[])(hb:legs.length+legs.sum<=40):bq [spK legs]=some (.ok (.tup [.str "numbering",.tup (nD (cN legs))]) false,.non):=by
 have w:=de (C8 h0 hb);have m:=oM h0 (by omega);unfold bq eW
 trace "zWğd~cжўWƚ!В"
theorem rn{m n:Nat}(h1:1<=m)(h2:1<=n)(h3:m+n<=40)(h4:m * n<=60):bq [fu (m:Nat) (n:Nat)]=some (.ok (.tup [.str "numbering",.tup (nD (sdN m n))]) false,.non):=by
 have w:=de (rY h1 h2 h3 (vt h1 h2 h3 h4).2);have md:=jq (m:=m) (n:=n) (by omega) (by omega);unfold bq eW
 trace "zWğd~cжўWƛ!В"
end K74
namespace K74
open PySem L2
section
variable{n:Nat}{x1:Option (D×Md)}
end
end K74
namespace K74
open PySem L2
section
variable{x0 x1 x2 x4 x5 x6 x7 x8:Option (D×Md)}
end
end K74
namespace K74
open PySem L2
end K74
namespace K74
open PySem L2
noncomputable def pM(ns:List Int)(lo hi:Int):Bool:=(ns.map fun i=>decide (lo<=i)&&decide (i<=hi)).all id&&decide (((dd ns).length:Int)=ns.length)
theorem re{ns:List Int}{lo hi:Int}(hl:ns.length<=1000):bj [.tup (nD ns),.int lo,.int hi]=some (.ok (.bl (pM ns lo hi)) false,.non):=by
 have h := @fF;unfold bj gt
 trace "qƜљ9PĎȉђiЕ?P$Ȣ(SyɄȃ$Ʌȃyį$ȝP"
theorem t_num{n:Int}{ts:List (Int×Int)}{ns:List Int}:bV [a7 n ts,.tup (nD ns)]=some (.ok (.bl (decide ((ns.length:Int)=n))) false,.non):=by
 unfold bV eX
 trace "q=(Ї(yįІȝP"
section
variable{n:Nat}{ts:List (Int×Int)}{ps:List Int}
theorem vo{m:Int}(O:aH n ts)(hp:ps.length=n):du [a7 m ts,.tup (nD ps)]=some (.ok (.lst (nD (ts.map (stG ps)))) true,.non):=by
 have h1:∀ t∈ts,gIx [.tup (nD ps),.int t.1]=some (.int (ps.getD t.1.toNat 0),false):=fun t ht=>cq (O.r t ht).1 (by have:=O.r t ht;omega)
 have h2:∀ t∈ts,gIx [.tup (nD ps),.int t.2]=some (.int (ps.getD t.2.toNat 0),false):=fun t ht=>cq (by have:=O.r t ht;omega) (by have:=O.r t ht;omega)
 unfold du mm
 trace "qџѓPЫЌStĄȃtąȃZ$ƝTP"
theorem wm(h:Stp n ts ps):pM ps 0 (ts.length:Nat)=true:=by
 unfold pM;rw [DM,FK,DK];refine ⟨fun x hx=> ?_,Dy (by rw [dZ h.d])⟩;have:=h.b x hx
 show (decide (0<=x)&&decide (x<=((ts.length:Nat):Int)))=true
 rw [Dy this.1,Dy this.2];rfl
theorem t_good(h:Stp n ts ps):dU [a7 (n:Nat) ts,.tup (nD ps)]=some (.ok (.bl true) false,.non):=by
 have h1 := @t_num;have h2 := @re;have h3:=vo (m:=(n:Nat)) h.O h.l;have l1:=h.O.l;have l2:=h.O.n;have l3:=h.l;have u:=wm h;unfold dU jr
 trace "ЬVѩ{ĄwȬгrЄКąȅwȬ7ЩS{ĮјƞȑSУФ$Ɵȅ$ƠT"
 rw [Dy (pb h.s)]
theorem A5(h:Stp n ts ps):dC [a7 (n:Nat) ts,.tup (nD ps)]=some (.ok .non false,.non):=by
 have h1:=t_good h;unfold dC iz
 trace "/őȜ@г{ěзP"
end
end K74
namespace K74
open PySem L2
section
variable{n:Nat}{ts:List (Int×Int)}{ps:List Int}
theorem A3{p:Nat}(hp:p < n)(hn:n+1<=40)(hm:ts.length+1<=60)(O:aH (n+1) (ts++[((p:Int),(n:Int))])):gg [a7 (n:Nat) ts,.int (p:Nat),.int 1]=some (.ok (a7 ((n+1:Nat):Int) (a9 (ts++[((p:Int),(n:Int))]))) false,.non):=by
 have w:=q5 O;rw [show ((n+1:Nat):Int)=(n:Int)+1 by omega] at w ⊢;have s:=t3 (m:=(p:Nat)) (a:=(n:Nat)) (b:=(n:Int)+1 - 1) (by omega) (by omega) (by omega) (by omega);rw [show ((n:Int)+1 - 1+1 - (n:Nat)).toNat=1 by omega] at s;have gl:fC [.tup (tD ts)]=some (.lst (tD ts),true):=rfl
 have ga:aM [.lst (tD ts),.lst (tD ((rgI (n:Nat) 1).map fun x=>((p:Int),x)))]=some (.lst (tD (ts++[((p:Int),(n:Int))])),true):=by
  show (if small _=true then _ else _)=_
  rw [if_pos (fG (by rw [Dp,Dp,Dp,aq];omega)),tD,tD,tD,Ev]
  have:(rgI (n:Nat) 1)=[(n:Int)]:=by show [((n:Nat):Int)+((0:Nat):Int)]=_;simp
  rw [this];rfl
 have q:¬ (1:Int) > min (40 - (n:Int)) (60 - (ts.length:Int)):=by omega
 unfold gg my
 trace "цlУКУSтZ$İщЕȈ7ШёЇSSІır_хnЛƦјĲ$ğЀ"
theorem t_ga(h:Stp n ts ps)(hn:n+1<=40)(hm:ts.length+1<=60):∃ p:Nat,dA [a7 (n:Nat) ts,.tup (nD ps),.int 1]=some (.ok (.tup [a7 ((n+1:Nat):Int) (a9 (ts++[((p:Int),(n:Int))])),.tup (nD ((ps.map fun x=>x+1)++[0]))]) false,.non)/\Stp (n+1) (a9 (ts++[((p:Int),(n:Int))])) ((ps.map fun x=>x+1)++[0]):=by
 obtain ⟨p,hp⟩:=qr h.ends.2;obtain ⟨h1,h2,_⟩:=nq hp;have hl:=h.l
 have g0:ps.getD p 0=(ts.length:Int):=by rw [DB,Do h1,h2];rfl
 obtain ⟨S,O⟩:=h.above hn hm (by omega) g0;refine ⟨p,?_,S⟩;have g:=A3 (ts:=ts) (p:=p) (n:=n) (by omega) hn hm O
 have lx:sOp bi [.ex (sOp gIx [.bor 0,.ex (sC (.int 1))])] [some (a7 (n:Nat) ts,.fz),some (.tup (nD ps),.fz),some (.int 1,.fz),none,none]=some (.ok (.int (ts.length:Nat)) false,[some (a7 (n:Nat) ts,.fz),some (.tup (nD ps),.fz),some (.int 1,.fz),none,none]):=by
  trace "(т"
 have ix:ki 1 (sOp bi [.ex (sOp gIx [.bor 0,.ex (sC (.int 1))])]) [some (a7 (n:Nat) ts,.fz),some (.tup (nD ps),.fz),some (.int 1,.fz),none,none]=some (.ok (.int (p:Nat)) false,[some (a7 (n:Nat) ts,.fz),some (.tup (nD ps),.fz),some (.int 1,.fz),none,none]):=Bp rfl lx hp
 have ga:aM [.lst (nD (ps.map fun x=>x+1)),.lst (nD ((rgI 0 (1:Int).toNat).map fun k=>1 - 1 - k))]=some (.lst (nD ((ps.map fun x=>x+1)++[0])),true):=by
  show (if small _=true then _ else _)=_
  have hO:=h.O.n;rw [if_pos (fG (by rw [Dp,Dp,Dp,Dp,aq];show _+1<=_;omega)),nD,nD,nD,Ev];rfl
 unfold dA iu
 trace "zi'ĠКDdl'ѯ9PЫЌЕT'Cеȑ!ЫȐЌk!]P$ōȑV,HsxКВ"
end
end K74
namespace K74
open PySem L2
abbrev loE(ps:List Int)(t:Int×Int):Int:=min (ps.getD t.1.toNat 0) (ps.getD t.2.toNat 0)
abbrev hiE(ps:List Int)(t:Int×Int):Int:=max (ps.getD t.1.toNat 0) (ps.getD t.2.toNat 0)
section
variable{n:Nat}{ts:List (Int×Int)}{ps:List Int}
theorem t_part(h:Stp n ts ps)(ne:ts≠[]){p:Int}(hp:fP (ts.map (loE ps))=p)(hq:p < eU (ts.map (hiE ps))):fj [a7 (n:Nat) ts,.tup (nD ps)]=some (.ok (.int p) false,.non):=by
 have h0:=A5 h;have l3:=h.l
 have h1:∀ t∈ts,gIx [.tup (nD ps),.int t.1]=some (.int (ps.getD t.1.toNat 0),false):=fun t ht=>cq (h.O.r t ht).1 (by have:=h.O.r t ht;omega)
 have h2:∀ t∈ts,gIx [.tup (nD ps),.int t.2]=some (.int (ps.getD t.2.toNat 0),false):=fun t ht=>cq (by have:=h.O.r t ht;omega) (by have:=h.O.r t ht;omega)
 have n1:ts.map (loE ps)≠[]:=by simpa using ne
 have n2:ts.map (hiE ps)≠[]:=by simpa using ne
 have m1:eN [.lst (nD (ts.map (loE ps)))]=some (.int p,false):=by rw [uF n1,hp]
 have m2:=nF n2
 have ne':(!ts.isEmpty)=true:=by simpa using ne
 have tr:jn (.tup (tD ts))=some true:=by rw [oK,ne']
 unfold fj kK
 trace "b4ĀБƧ!іІƨ^l'џѓPЫЌtĄȃtąȃ$İќġVl'џѓPЫЌtĄȃtąȃ$ŔќĳV,ŕ)ЕȒ9Ѐ"
abbrev Z(ns:List Int)(ρ:Rho):Prop:=∃ y1 y2 y3 y4 y5 y6 y7 y8 y9 y10,ρ=[some (.klst (nD ns),.fz),y1,y2,y3,y4,y5,y6,y7,y8,y9,y10]
structure Num(k:D)(n:Nat)(ts:List (Int×Int))(ps:List Int)(wd:Str):Prop where
 w:dq [k]=some (.ok (a7 (n:Nat) ts) false,.non)
 s:bq [k]=some (.ok (.tup [.str "numbering",.tup (nD ps)]) false,.non)
 h:Stp n ts ps
 i:gIx [k,.int 0]=some (.str wd,false)
 p:wd = "ring" \/ (gNe [.str wd,.str "ring"]=some (.bl true,false)/\(ts≠[]->cU [k]=some (.ok (.tup (nD ps)) false,.non)/\∃ p:Int,fP (ts.map (loE ps))=p/\p < eU (ts.map (hiE ps))))
end
end K74
namespace K74
open PySem L2
theorem jp{k:D}{n:Nat}{ts:List (Int×Int)}{ps:List Int}(O:kE k n ts)(ne:ts≠[])(h:bc [k]=some (.ok (.tup (nD ps)) false,.non)):cU [k]=some (.ok (.tup (nD ps)) false,.non):=by
 have h1:=de O;have h2:=ne_tru ne;unfold cU jw
 trace "zWědіІĭ^,Wѕ"
theorem zm{n:Nat}(h1:3<=n)(h2:n<=40)(h3:n % 4=0\/n % 4=3):Num (jz (n:Nat)) n (cy n) (gv n) "ring" := by
 have w:=de (vP h1 h2 (kf (kj h1 h2)));rw [(uf h1 h2).1] at w;exact ⟨w,t5 h1 h2 (wt h1 h2 h3),Stp.of_nm (rg_ok h1 h2) (Bg h1 h2 h3),rfl,.inl rfl⟩
theorem wS{m n:Nat}(h1:1<=m)(h2:1<=n)(h3:m+n<=40)(h4:m * n<=60):Num (fu (m:Nat) (n:Nat)) (m+n) (jb m n) (sdN m n) "sides" := by
 obtain ⟨nm,hq⟩:=sd_nm h1 h2 h3 h4;obtain ⟨e,o⟩:=vt h1 h2 h3 h4;have KO:=rY h1 h2 h3 o;have w:=de KO;rw [e] at w
 have O:aH (m+n) (jb m n):=by rw [<- e];exact o.perm (bI _).symm
 have S:=Stp.of_nm O nm;refine ⟨w,rn h1 h2 h3 h4,S,rfl,.inr ⟨rfl,fun ne=>⟨?_,_,rfl,hq⟩⟩⟩;have md:=jq (m:=m) (n:=n) (by omega) (by omega);exact jp KO (fun z=>ne (by rw [<- e,z];rfl)) md
theorem num_sp{legs:List Nat}(h0:legs≠[])(hb:legs.length+legs.sum<=40):Num (spK legs) (legs.length+legs.sum) (a9 (spT legs)) (cN legs) "spine" := by
 have hl:=DV.mpr h0;have KO:=C8 h0 hb;have w:=de KO;have O:aH (legs.length+legs.sum) (a9 (spT legs)):=KO.o.perm (bI _).symm;have f:=yb h0 hb
 by_cases q0:0 < rem legs
 ·have hq:rem legs+1=legs.length+legs.sum:=by unfold rem;omega
  have pr:=Co q0 h0;rw [<- yL (l9 h0)] at pr;have nm:=pr.nm (by omega);rw [hq] at nm;have S:=Stp.of_nm O nm;refine ⟨w,f,S,rfl,.inr ⟨rfl,fun ne=>⟨?_,_,pr.max,pr.min⟩⟩⟩;exact jp KO (fun z=>ne (by rw [z];rfl)) (oM h0 (by omega))
 ·have:legs=[0]:=by
   unfold rem at q0
   cases legs with
   | nil=>exact absurd rfl h0
   | cons l r =>
    cases r with
    | nil=>simp at q0;rw [q0]
    | cons m r=>simp at q0
  subst this;exact ⟨w,f,⟨O,rfl,by decide,by decide,by decide⟩,rfl,.inr ⟨rfl,fun ne=>absurd rfl ne⟩⟩
end K74
namespace K74
open PySem L2
abbrev cD(cs:List (List Int)):List D:=cs.map fun c=> .tup (nD c)
section
variable{n:Nat}{ts:List (Int×Int)}{ps c:List Int}{m q:Int}
theorem yc{k:Int}(O:aH n ts)(hp:c.length=n):dB [a7 k ts,.tup (nD c)]=some (.ok (.lst (tD (cpT ts c))) true,.non):=by
 have h1:∀ t∈ts,gIx [.tup (nD c),.int t.1]=some (.int (c.getD t.1.toNat 0),false):=fun t ht=>cq (O.r t ht).1 (by have:=O.r t ht;omega)
 have h2:∀ t∈ts,gIx [.tup (nD c),.int t.2]=some (.int (c.getD t.2.toNat 0),false):=fun t ht=>cq (by have:=O.r t ht;omega) (by have:=O.r t ht;omega)
 unfold dB iw
 trace "qџѓPĪȉђHxtĄȃtąȃ$İxtĄȃtąȃ$Ŕ.TP"
theorem A6(hl:c.length=n)(h1:n<=40)(nd:c.Nodup)(hb:∀ x∈c,0<=x/\x<=m - 1):fq [a7 (n:Nat) ts,.int m,.tup (nD c)]=some (.ok (.bl true) false,.non):=by
 have u:bj [.tup (nD c),.int 0,.int (m - 1)]=some (.ok (.bl true) false,.non):=by
  rw [re (by omega)];unfold pM
  rw [show ((c.map fun i=>decide (0<=i)&&decide (i<=m - 1)).all id&&decide (((dd c).length:Int)=c.length))=true by
   rw [DM,FK,DK];refine ⟨fun x hx=> ?_,Dy (by rw [dZ nd])⟩;have:=hb x hx
   show (decide (0<=x)&&decide (x<=m - 1))=true
   rw [Dy this.1,Dy this.2]
   rfl]
 have gl:bi [.tup (nD c)]=some (.int (n:Nat),false):=by rw [eh,hl]
 have ge:gEq [.int (n:Nat),.int (n:Nat)]=some (.bl true,false):=by rw [cR,Dy rfl]
 unfold fq kP
 trace "q=(Ї=(yıІđ!iЄФƩЀ"
theorem yd{k:Int}(h:k<=30):aU [.int k]=some (.ok .non false,.non):=by
 have g:gGt [.int k,.int 30]=some (.bl false,false):=by
  show some (D.bl (decide (30 < k)),false)=_
  rw [DS (by omega)]
 unfold aU fJ
 trace "/őȜчЅD^P"
theorem B5{d:D}{t:Int}{md:Md}(hs:bT d=some (nD ps))(hm:0 < m)(hmd:md = .fz):aJ 1 (bf (aP 0)) (.nm 3) none (sOp cQ [.ex (sOp aM [.bor 3,.bor 2]),.bor 1]) [some (d,.fz),some (.int m,.fz),some (.int t,.fz)]=some (.ok (.lst (nD (cpy m ps t))) true,[some (d,.fz),some (.int m,.fz),some (.int t,.fz)]):=by
 have g:∀ x:Int,cQ [.int (x+t),.int m]=some (.int ((x+t) % m),false):=fun x=>by
  show (if decide (0 < m)=true then some (D.int ((x+t) % m),false) else none)=_
  rw [if_pos (Dy hm)]
 refine mF (ds:=nD ps) (ui (p6 rfl) hs) rfl (iV (inj:=D.int) (g:=fun x=>tn m t x) ps fun x _=>⟨[some (d,.fz),some (.int m,.fz),some (.int t,.fz),some (.int x,.fz)],[some (d,.fz),some (.int m,.fz),some (.int t,.fz),some (.int x,.fz)],false,rfl,?_,rfl⟩);have g:=g x
 trace "/(ёЇ]D!"
theorem zd{d:D}(hs:bT d=some (nD ps))(hm:0 < m)(hb:m<=1000):aJ 1 (bE (.bor 1)) (.nm 2) none (sOp dL [.ex (aJ 1 (bf (aP 0)) (.nm 3) none (sOp cQ [.ex (sOp aM [.bor 3,.bor 2]),.bor 1]))]) [some (d,.fz),some (.int m,.fz)]=some (.ok (.lst (cD (cps m ps))) true,[some (d,.fz),some (.int m,.fz)]):=by
 have e:cD (cps m ps)=(rgI 0 m.toNat).map fun t=>D.tup (nD (cpy m ps t)):=by rw [cD,cps,Ed];rfl
 rw [e];refine mF (ds:=nD (rgI 0 m.toNat)) (lS (r_b1 rfl) (by omega) (by omega)) rfl (fN (inj:=D.int) (g:=fun t=>D.tup (nD (cpy m ps t))) (rgI 0 m.toNat) fun t _=>⟨[some (d,.fz),some (.int m,.fz),some (.int t,.fz)],[some (d,.fz),some (.int m,.fz),some (.int t,.fz)],false,rfl,?_,rfl⟩);have ci:=B5 (d:=d) (ps:=ps) (m:=m) (t:=t) hs hm (md:= .fz) rfl
 trace "/ЏŖЛ"
theorem rf{d:D}(hs:bT d=some (nD ps))(hm:0 < m)(hb:m<=1000):bO [d,.int m]=some (.ok (.lst (cD (cps m ps))) true,.non):=by
 have ci:=zd (d:=d) (ps:=ps) (m:=m) hs hm hb;unfold bO gu
 trace "qŖP"
theorem CJ(hl:ts.length<=30):fS [a7 (n:Nat) ts,.tup (nD ps)]=some (.ok (.lst (cD (cps (2 * (ts.length:Int)+1) ps))) true,.non):=by
 have h:=rf (d:= .tup (nD ps)) (ps:=ps) (m:=2 * (ts.length:Int)+1) rfl (by omega) (by omega);have c:=yd (k:=(ts.length:Nat)) (by omega);unfold fS rB
 trace "ЬѧĀWĐ!,iSѠиZѕ"
end
end K74
namespace K74
open PySem L2
abbrev toD(ks:List (Int×Int)):D:= .dT (ks.map kT) (List.replicate ks.length (.bl true))
section
variable{n:Nat}{ts:List (Int×Int)}{ps c:List Int}{m q:Int}{x0 x1 x2 x4:Option (D×Md)}
theorem Bx{pre:List (Int×Int)}{t:Int×Int}(nd:(pre++[t]).Nodup)(hl:pre.length<=9000){y:Option (D×Md)}:dQ [x0,x1,x2,some (toD pre,.ow),x4,some (.tup [.int t.1,.int t.2],.fz)]=some (.nx,[x0,x1,x2,some (toD (pre++[t]),.ow),x4,some (.tup [.int t.1,.int t.2],.fz)]):=by
 have ni:t∉pre:=fun z=>by
  rw [Ee] at nd;exact nd.2.2 t z t (DQ.mpr rfl) rfl
 have np:pre.Nodup:=(Ee.mp nd).1
 have gi:gIn [.tup [.int t.1,.int t.2],.dT (pre.map kT) (List.replicate pre.length (.bl true))]=some (.bl false,false):=by
  show (match (some (bN (pre.map kT) (List.replicate pre.length (.bl true)) (kT t)).isSome) with | some b=>some (D.bl b,false) | none=>none)=_
  rw [o3 ni];rfl
 have up:l5 (.dT (pre.map kT) (List.replicate pre.length (.bl true))) (.tup [.int t.1,.int t.2]) (.bl true)=some (.dT ((pre++[t]).map kT) (List.replicate (pre++[t]).length (.bl true))):=by
  show (if (small (pre.map kT).length&&decide (pre.map kT).Nodup)=true then some (D.dT (i6 (pre.map kT) (List.replicate pre.length (.bl true)) (kT t) (.bl true)).1 (i6 (pre.map kT) (List.replicate pre.length (.bl true)) (kT t) (.bl true)).2) else none)=_
  rw [vI ni,if_pos];rw [show small (pre.map kT).length=true from Dy (by rw [Dp];omega),Dy (sE np)];rfl
 unfold dQ
 trace "/~Ћł^Ę1!НŃȂ!"
theorem vJ:∀ (us pre:List (Int×Int)) (y:Option (D×Md)),(pre++us).Nodup->pre.length+us.length<=9000->∃ y',bK (.nm 5) dQ (tD us) [x0,x1,x2,some (toD pre,.ow),x4,y]=some (.nx,[x0,x1,x2,some (toD (pre++us),.ow),x4,y'])
 | [],pre,y,_,_=>⟨y,by rw [Ec];rfl⟩
 | t::us,pre,y,nd,hl=>by
  have e:pre++t::us=(pre++[t])++us:=by rw [EF];rfl
  rw [e] at nd ⊢;rw [Dq] at hl;obtain ⟨y',h⟩:=vJ us (pre++[t]) (some (.tup [.int t.1,.int t.2],.fz)) nd (by rw [DD,List.length_singleton];omega);refine ⟨y',?_⟩;exact jB (T:= .nm 5) (ρ1:=[x0,x1,x2,some (toD pre,.ow),x4,some (.tup [.int t.1,.int t.2],.fz)]) rfl (Bx (y:=y) (Ee.mp nd).1 (by omega)) h
theorem tz(O:aH n ts){md:Option (D×Md)}:∀ (cs:List (List Int)) (pre:List (Int×Int)) (y4 y5:Option (D×Md)),(∀ c∈cs,c.length=n/\c.Nodup/\∀ x∈c,0<=x/\x<=m - 1)->(pre++cs.flatMap (cpT ts)).Nodup->pre.length+(cs.flatMap (cpT ts)).length<=9000 ->
 ∃ y4' y5',bK (.nm 4) cH (cD cs) [some (a7 (n:Nat) ts,.fz),some (.int m,.fz),md,some (toD pre,.ow),y4,y5]=some (.nx,[some (a7 (n:Nat) ts,.fz),some (.int m,.fz),md,some (toD (pre++cs.flatMap (cpT ts)),.ow),y4',y5'])
 | [],pre,y4,y5,_,_,_=>⟨y4,y5,by rw [FO,Ec];rfl⟩
 | c::cs,pre,y4,y5,hc,nd,hl=>by
  rw [E6,<- EF] at nd ⊢;rw [E6,DD] at hl;obtain ⟨c1,c2,c3⟩:=hc c DC;obtain ⟨y',e1⟩:=vJ (x0:=some (a7 (n:Nat) ts,.fz)) (x1:=some (.int m,.fz)) (x2:=md) (x4:=some (.tup (nD c),.fz)) (cpT ts c) pre y5 (Ee.mp nd).1 (by omega);obtain ⟨y4',y5',h⟩:=tz O (md:=md) cs (pre++cpT ts c) (some (.tup (nD c),.fz)) y' (fun c hc'=>hc c (Dv _ hc')) nd (by rw [DD];omega);have g:=A6 (ts:=ts) (m:=m) c1 O.n c2 c3;have t:=yc (k:=(n:Nat)) (c:=c) O c1
  have e2:cH [some (a7 (n:Nat) ts,.fz),some (.int m,.fz),md,some (toD pre,.ow),some (.tup (nD c),.fz),y5]=some (.nx,[some (a7 (n:Nat) ts,.fz),some (.int m,.fz),md,some (toD (pre++cpT ts c),.ow),some (.tup (nD c),.fz),y']):=by
   unfold cH
   trace "/іrЕDзONБŗTĝ!"
  exact ⟨y4',y5',jB (T:= .nm 4) (ρ1:=[some (a7 (n:Nat) ts,.fz),some (.int m,.fz),md,some (toD pre,.ow),some (.tup (nD c),.fz),y5]) rfl e2 h⟩
theorem iS{b:Bool}{cs:List (List Int)}(O:aH n ts)(hm:0 < m)(hm2:m<=1000)(hc:∀ c∈cs,c.length=n/\c.Nodup/\∀ x∈c,0<=x/\x<=m - 1)(nd:(cs.flatMap (cpT ts)).Nodup)(hl:(cs.flatMap (cpT ts)).length<=9000)(hb:decide (((cs.flatMap (cpT ts)).length:Int)=m * (m - 1) / 2)=b) :
 bv [a7 (n:Nat) ts,.int m,.lst (cD cs)]=some (.ok (.bl b) false,.non):=by
 obtain ⟨y4,y5,e⟩:=tz (m:=m) O (md:=some (.lst (cD cs),.fz)) cs [] none none hc (by rw [Eu];exact nd) (by rw [EK];omega);rw [Eu] at e;have e:bK (.nm 4) cH (cD cs) [some (a7 (n:Nat) ts,.fz),some (.int m,.fz),some (.lst (cD cs),.fz),some (.dT [] [],.ow),none,none]=_:=e
 have gl:bi [toD (cs.flatMap (cpT ts))]=some (.int ((cs.flatMap (cpT ts)).length:Nat),false):=by
  show some (D.int (((cs.flatMap (cpT ts)).map kT).length:Nat),false)=_
  rw [Dp]
 have mu:cA [.int m,.int (m - 1)]=some (.int (m * (m - 1)),false):=by
  show (if gO m (m - 1)=true then some (D.int (m * (m - 1)),false) else none)=_
  rw [if_pos (e9 (by omega) (by omega))]
 have fd:eO [.int (m * (m - 1)),.int 2]=some (.int (m * (m - 1) / 2),false):=rfl
 have ge:gEq [.int ((cs.flatMap (cpT ts)).length:Nat),.int (m * (m - 1) / 2)]=some (.bl b,false):=by rw [cR,hb]
 unfold bv mB
 trace "bіЉZ^uńдNН5ЩyıѰФŘ}ř$đP"
end
end K74
namespace K74
open PySem L2
theorem AY(d:D)(ds:List D):sO [.lst (d::ds),.int 1]=some (.lst ds,true):=by
 show some (D.lst (kC (d::ds) (some 1) none),true)=_
 have:=cut_hi (l:=d::ds) (n:=1) (by simp);rw [show (some (1:Int))=some ((1:Nat):Int) from rfl,this];rfl
section
variable{n:Nat}{ts:List (Int×Int)}{ps:List Int}
theorem Aq(h:Stp n ts ps)(hl:ts.length<=30):bv [a7 (n:Nat) ts,.int (2 * (ts.length:Int)+1),.lst (cD (cps (2 * (ts.length:Int)+1) ps))]=some (.ok (.bl true) false,.non):=by
 obtain ⟨L,nd⟩:=h.lab;have fl:=jR (ts:=ts) (cps (2 * (ts.length:Int)+1) ps);rw [gk] at fl;refine iS h.O (by omega) (by omega) (fun c hc=>L.good hc) (L.nd rfl (by omega) h.O nd) (by rw [fl,show (2 * (ts.length:Int)+1).toNat=2 * ts.length+1 by omega];exact Ep (FI (show 2 * ts.length+1<=61 by omega) hl) (by decide)) (Dy ?_);rw [fl,qw]
theorem cut_no(h:Stp n ts ps)(ne:ts≠[])(hl:ts.length<=30):bv [a7 (n:Nat) ts,.int (2 * (ts.length:Int)+1),.lst (cD ((cps (2 * (ts.length:Int)+1) ps).drop 1))]=some (.ok (.bl false) false,.non):=by
 obtain ⟨L,nd⟩:=h.lab;have fl:=jR (ts:=ts) ((cps (2 * (ts.length:Int)+1) ps).drop 1);have l0:=DV.mpr ne;rw [List.length_drop,gk,show (2 * (ts.length:Int)+1).toNat - 1=2 * ts.length by omega] at fl;refine iS h.O (by omega) (by omega) (fun c hc=>L.good (List.mem_of_mem_drop hc)) ?_ (by rw [fl];exact Ep (FI (show 2 * ts.length<=60 by omega) hl) (by decide)) (DS ?_)
 ·have z:=L.nd rfl (by omega) h.O nd
  rw [<- List.take_append_drop 1 (cps (2 * (ts.length:Int)+1) ps),EU] at z;exact (Ee.mp z).2.1
 ·rw [fl,qw,show (2 * (ts.length:Int)+1).toNat=2 * ts.length+1 by omega,Nat.add_mul (2 * ts.length) 1 ts.length]
  generalize 2 * ts.length * ts.length=z
  omega
theorem em{z m:Int}(h0 : -m<=z)(h1:z < m):(0<=z/\z % m=z)\/(z < 0/\z % m=z+m):=by
 by_cases h:0<=z
 ·exact .inl ⟨h,Fn h h1⟩
 ·refine .inr ⟨by omega,?_⟩
  rw [<- Int.add_emod_right];exact Fn (by omega) (by omega)
theorem find(h:Stp n ts ps){a s:Int}(a0:0<=a)(a1:a < 2 * (ts.length:Int)+1)(s0:1<=s)(s1:s<=ts.length):∃ j:Nat,∃ hj:j < ts.length,ixI (ts.map (stG ps)) s=some j /\
 0<=(a - min (ps.getD ts[j].1.toNat 0) (ps.getD ts[j].2.toNat 0)) % (2 * (ts.length:Int)+1)/\(a - min (ps.getD ts[j].1.toNat 0) (ps.getD ts[j].2.toNat 0)) % (2 * (ts.length:Int)+1) < 2 * (ts.length:Int)+1 /\
 prE (tn (2 * (ts.length:Int)+1) ((a - min (ps.getD ts[j].1.toNat 0) (ps.getD ts[j].2.toNat 0)) % (2 * (ts.length:Int)+1)) (ps.getD ts[j].1.toNat 0)) (tn (2 * (ts.length:Int)+1) ((a - min (ps.getD ts[j].1.toNat 0) (ps.getD ts[j].2.toNat 0)) % (2 * (ts.length:Int)+1)) (ps.getD ts[j].2.toNat 0))=prE a ((a+s) % (2 * (ts.length:Int)+1)):=by
 obtain ⟨L,nd⟩:=h.lab;obtain ⟨j,hj⟩:=qr (h.s.mem_iff.mpr (az.mpr ⟨s0,by omega⟩));obtain ⟨h1,h2,_⟩:=nq hj
 have hl:j < ts.length:=by rwa [Dp] at h1
 rw [Ff] at h2;refine ⟨j,hl,hj,?_⟩;obtain ⟨⟨b1,b2⟩,b3,b4⟩:=L.at h.O (Ea hl);have c1:=h.b _ (h.at (i:=ts[j].1) (h.O.r _ (Ea hl)).1 (by have:=h.O.r _ (Ea hl);omega));have c2:=h.b _ (h.at (i:=ts[j].2) (by have:=h.O.r _ (Ea hl);omega) (h.O.r _ (Ea hl)).2.2);unfold stG at h2
 generalize ps.getD ts[j].1.toNat 0=x at *
 generalize ps.getD ts[j].2.toNat 0=y at *
 generalize (ts.length:Int)=q at *
 have e1:=em (z:=a - min x y) (m:=2 * q+1) (by omega) (by omega)
 generalize (a - min x y) % (2 * q+1)=T at *
 refine ⟨by omega,by omega,?_⟩
 have t0:0<=T:=by omega
 have t1:T < 2 * q+1:=by omega
 have e2:=jo (m:=2 * q+1) (x:=a) (t:=s) (by omega) (by omega) (by omega) (by omega);have e3:=jo (m:=2 * q+1) (x:=x) (t:=T) (by omega) (by omega) t0 t1;have e4:=jo (m:=2 * q+1) (x:=y) (t:=T) (by omega) (by omega) t0 t1;have e2:(a+s < 2 * q+1/\(a+s) % (2 * q+1)=a+s)\/(2 * q+1<=a+s/\(a+s) % (2 * q+1)=a+s - (2 * q+1)):=e2;unfold prE
 generalize tn (2 * q+1) T x=X at *
 generalize tn (2 * q+1) T y=Y at *
 generalize (a+s) % (2 * q+1)=Z at *
 clear nd L b1 b2 b3 b4 h1 hj hl
 rcases Int.le_total x y with xy | xy
 ·rw [Int.min_eq_left xy] at e1
  have f0:s=y - x:=by clear e1 e2 e3 e4;omega
  have f1:X=a:=by clear e2 e4 h2;omega
  have f2:Y=Z:=by clear e3 f1 h2;omega
  rw [f1,f2]
 ·rw [Int.min_eq_right xy] at e1
  have f0:s=x - y:=by clear e1 e2 e3 e4;omega
  have f1:Y=a:=by clear e2 e3 h2;omega
  have f2:X=Z:=by clear e4 f1 h2;omega
  rw [f1,f2,Int.min_comm,Int.max_comm]
end
end K74
namespace K74
open PySem L2
section
variable{n:Nat}{ts:List (Int×Int)}{ps:List Int}
theorem xZ{j:Nat}(hj:j < ts.length):gIx [.tup (tD ts),.int (j:Nat)]=some (.tup [.int ts[j].1,.int ts[j].2],false):=by
 refine qA (jg ?_);rw [tD,DL,Do hj];rfl
theorem oN(h:Stp n ts ps){a s:Int}{j:Nat}(hj:j < ts.length)(hi:ixI (ts.map (stG ps)) s=some j):fT [a7 (n:Nat) ts,.tup (nD ps),.int a,.int s]=some (.ok (.tup [.int ((a - min (ps.getD ts[j].1.toNat 0) (ps.getD ts[j].2.toNat 0)) % (2 * (ts.length:Int)+1)),.int (j:Nat)]) false,.non):=by
 have st:=vo (m:=(n:Nat)) h.O h.l;have r:=h.O.r _ (Ea hj);have l:=h.l
 have ix:ib (ae none none du [.bor 0,.bor 1]) (aP 3) [some (a7 (n:Nat) ts,.fz),some (.tup (nD ps),.fz),some (.int a,.fz),some (.int s,.fz),none,none]=some (.ok (.int (j:Nat)) false,[some (a7 (n:Nat) ts,.fz),some (.tup (nD ps),.fz),some (.int a,.fz),some (.int s,.fz),none,none]):=by
  refine yA (ns:=ts.map (stG ps)) (k:=s) (n1:=true) (n2:=false) (ρ1:=[some (a7 (n:Nat) ts,.fz),some (.tup (nD ps),.fz),some (.int a,.fz),some (.int s,.fz),none,none]) ?_ (p6 rfl) hi
  trace "/БīT"
 have t:=xZ hj;have g1:gIx [.tup (nD ps),.int ts[j].1]=some (.int (ps.getD ts[j].1.toNat 0),false):=cq r.1 (by omega);have g2:gIx [.tup (nD ps),.int ts[j].2]=some (.int (ps.getD ts[j].2.toNat 0),false):=cq (by omega) (by omega)
 have gm:eM [.lst [.int (ps.getD ts[j].1.toNat 0),.int (ps.getD ts[j].2.toNat 0)]]=some (.int (min (ps.getD ts[j].1.toNat 0) (ps.getD ts[j].2.toNat 0)),false):=by
  have:=nF (ns:=[ps.getD ts[j].1.toNat 0,ps.getD ts[j].2.toNat 0]) (by simp);refine Eq.trans this ?_
  show some (D.int (eU [ps.getD ts[j].1.toNat 0,ps.getD ts[j].2.toNat 0]),false)=_
  rw [show eU [ps.getD ts[j].1.toNat 0,ps.getD ts[j].2.toNat 0]=min (ps.getD ts[j].1.toNat 0) (ps.getD ts[j].2.toNat 0) by
   have z:=dR (l:=[ps.getD ts[j].1.toNat 0,ps.getD ts[j].2.toNat 0]) (by simp);have z1:=z.2 _ DC;have z2:=z.2 _ (Dv _ DC);have z3:=z.1;simp only [Dx,Et,or_false] at z3
   omega]
 unfold fT oU
 trace "zĠVl'џc]ŗTХ(ЋLȇХ(Ћăȇĉ$œV,HxёЇSУSт$и$ѼsВ"
theorem A4(h:Stp n ts ps)(hl:ts.length<=30){A B:Int}(b0:0<=B)(ab:B < A)(a1:A < 2 * (ts.length:Int)+1):∃ (j:Nat) (hj:j < ts.length) (T:Int),eQ [a7 (n:Nat) ts,.tup (nD ps),.int A,.int B]=some (.ok (.tup [.int T,.int (j:Nat)]) false,.non)/\0<=T/\T < 2 * (ts.length:Int)+1 /\
 prE (tn (2 * (ts.length:Int)+1) T (ps.getD ts[j].1.toNat 0)) (tn (2 * (ts.length:Int)+1) T (ps.getD ts[j].2.toNat 0))=(B,A):=by
 have c:=yd (k:=(ts.length:Nat)) (by omega);have pl := @lO
 have p1:bY [.int (2 * (ts.length:Int)+1),.int A]=some (.ok (.bl true) false,.non):=by rw [lO,Dy (by omega),Dy (by omega)];rfl
 have p2:bY [.int (2 * (ts.length:Int)+1),.int B]=some (.ok (.bl true) false,.non):=by rw [lO,Dy (by omega),Dy (by omega)];rfl
 have ge:gEq [.int A,.int B]=some (.bl false,false):=by rw [cR,DS (by omega)]
 have m0:∀ z:Int,cQ [.int z,.int (2 * (ts.length:Int)+1)]=some (.int (z % (2 * (ts.length:Int)+1)),false):=fun z=>by
  show (if decide (0 < 2 * (ts.length:Int)+1)=true then some (D.int (z % (2 * (ts.length:Int)+1)),false) else none)=_
  rw [if_pos (Dy (by omega))]
 have e1:=em (z:=B - A) (m:=2 * (ts.length:Int)+1) (by omega) (by omega);have e2:=em (z:=A - B) (m:=2 * (ts.length:Int)+1) (by omega) (by omega);have m1:=m0 (B - A);have m2:=m0 (A - B);rw [show (B - A) % (2 * (ts.length:Int)+1)=B - A+(2 * (ts.length:Int)+1) by omega] at m1;rw [show (A - B) % (2 * (ts.length:Int)+1)=A - B by omega] at m2;clear pl m0
 by_cases hd:B - A+(2 * (ts.length:Int)+1)<=ts.length
 ·obtain ⟨j,hj,i1,i2,i3,i4⟩:=find h (a:=A) (s:=B - A+(2 * (ts.length:Int)+1)) (by omega) (by omega) (by omega) hd
  have ca:=oN h (a:=A) hj i1;refine ⟨j,hj,_,?_,i2,i3,i4.trans ?_⟩
  ·have g:gLe [.int (B - A+(2 * (ts.length:Int)+1)),.int (ts.length:Nat)]=some (.bl true,false):=by
    show some (D.bl (decide (B - A+(2 * (ts.length:Int)+1)<=(ts.length:Nat))),false)=_
    rw [Dy hd]
   unfold eQ iU
   trace "ЬѧĀWĐ!lѠиVѩ{Św!Kг{św!)Ћđ^Ах]ġ]D!,i__х]ġZTŜЀ"
  ·rw [show A+(B - A+(2 * (ts.length:Int)+1))=B+(2 * (ts.length:Int)+1) by omega,Int.add_emod_right,Fn b0 (by omega)]
   show (min A B,max A B)=_
   rw [show min A B=B by omega,show max A B=A by omega]
 ·obtain ⟨j,hj,i1,i2,i3,i4⟩:=find h (a:=B) (s:=A - B) (by omega) (by omega) (by omega) (by omega)
  have ca:=oN h (a:=B) hj i1;refine ⟨j,hj,_,?_,i2,i3,i4.trans ?_⟩
  ·have g:gLe [.int (B - A+(2 * (ts.length:Int)+1)),.int (ts.length:Nat)]=some (.bl false,false):=by
    show some (D.bl (decide (B - A+(2 * (ts.length:Int)+1)<=(ts.length:Nat))),false)=_
    rw [DS hd]
   unfold eQ iU
   trace "ЬѧĀWĐ!lѠиVѩ{Św!Kг{św!)Ћđ^~х]ġ]D^,i__х]ĳZTŜЀ"
  ·rw [show B+(A - B)=A by omega,Fn (by omega) a1]
   show (min B A,max B A)=_
   rw [show min B A=B by omega,show max B A=A by omega]
end
end K74
namespace K74
open PySem L2
theorem yw{M k:Nat}(h:k < M):(rgI 0 M)[k]'(by rw [aq];exact h)=(k:Int):=by
 unfold rgI;simp
theorem yu{f:Int->Int}{M k:Nat}(h:k < M):((rgI 0 M).map f).getD k 0=f k:=by
 rw [DB,DL,Do (by rw [aq];exact h),yw h];rfl
theorem ug{f:Int->Int}{M k:Nat}{v:Int}(h:k < M):((rgI 0 M).map f).set k v=(rgI 0 M).map fun j=>if j=(k:Int) then v else f j:=by
 refine Fg (by simp) fun i h1 h2=> ?_
 have hi:i < M:=by rw [Dp,aq] at h2;exact h2
 rw [List.getElem_set,Ff,Ff,yw hi]
 by_cases e:k=i
 ·rw [if_pos e,if_pos (by omega)]
 ·rw [if_neg e,if_neg (by omega)]
abbrev tF(A B j:Int):Int:=if j < A then A - 1+(if j < B then 1 else 0) else if j=A then B else 0
abbrev tL(M:Nat)(A B:Int):List Int:=(rgI 0 M).map (tF A B)
theorem AV{M A B:Nat}(hA:A < M)(hB:B < A):((tL M A B).set A ((B:Int)+1)).set B ((A:Int))=tL M A ((B:Int)+1):=by
 rw [ug hA,ug (by omega)]
 refine DU fun j hj=> ?_
 unfold tF
 by_cases h1:j=(B:Int)
 ·subst h1;simp only [if_true];rw [if_pos (by omega),if_pos (by omega)];omega
 ·rw [if_neg h1]
  by_cases h2:j=(A:Int)
  ·subst h2;rw [if_pos rfl,if_neg (by omega),if_pos rfl]
  ·rw [if_neg h2,if_neg h2,if_neg h2]
   by_cases h3:j < (A:Int)
   ·rw [if_pos h3,if_pos h3]
    by_cases h4:j < (B:Int)
    ·rw [if_pos h4,if_pos (by omega)]
    ·rw [if_neg h4,if_neg (by omega)]
   ·rw [if_neg h3,if_neg h3]
theorem AW{M A:Nat}:tL M A (A:Int)=tL M ((A:Int)+1) 0:=by
 refine DU fun j hj=> ?_
 have:=az.mp hj;unfold tF
 by_cases h1:j < (A:Int)
 ·rw [if_pos h1,if_pos h1,if_pos (by omega),if_neg (by omega)];omega
 ·rw [if_neg h1]
  by_cases h2:j=(A:Int)
  ·rw [if_pos h2,if_pos (by omega),if_neg (by omega)];omega
  ·rw [if_neg h2,if_neg (by omega)]
   by_cases h3:j=(A:Int)+1
   ·rw [if_pos h3]
   ·rw [if_neg h3]
theorem AU(M:Nat):tL M 0 0=List.replicate M 0:=by
 rw [List.eq_replicate_iff];refine ⟨by rw [Dp,aq],fun x hx=> ?_⟩;obtain ⟨j,hj,rfl⟩:=DP.mp hx;have:=az.mp hj;unfold tF;rw [if_neg (by omega)]
 split<;>rfl
theorem tl_end(M:Nat):tL M M 0=List.replicate M ((M:Int) - 1):=by
 rw [List.eq_replicate_iff];refine ⟨by rw [Dp,aq],fun x hx=> ?_⟩;obtain ⟨j,hj,rfl⟩:=DP.mp hx;have:=az.mp hj;unfold tF;rw [if_pos (by omega),if_neg (by omega)];omega
section
variable{n:Nat}{ts:List (Int×Int)}{ps:List Int}
theorem Ck{a b A B:Int}(h:prE a b=(B,A)):fB [.lst [.int a,.int b]]=some (.lst [.int B,.int A],true):=by
 have e1:min a b=B:=congrArg Prod.fst h;have e2:max a b=A:=congrArg Prod.snd h;have:=kY (ns:=[a,b]) (show (2:Nat) < 64 by decide);refine Eq.trans this ?_;rw [iB (m:=[B,A]) ?_ ?_]
 ·rfl
 ·by_cases z:a<=b
  ·rw [show B=a by omega,show A=b by omega]
  ·rw [show B=b by omega,show A=a by omega]
   exact List.Perm.swap _ _ _
 ·simp only [Ef,DQ,forall_eq,Et,false_implies,implies_true,List.Pairwise.nil,and_true]
  omega
abbrev pD'(n:Nat)(ts:List (Int×Int))(ps:List Int)(M:Nat)(A B:Int)(x5 x6 x7 x8 x9 x10:Option (D×Md)):Rho:=[some (a7 (n:Nat) ts,.fz),some (.tup (nD ps),.fz),some (.lst (cD (cps (2 * (ts.length:Int)+1) ps)),.fz),some (.int (2 * (ts.length:Int)+1),.fz),some (.lst (nD (tL M A B)),.ow),x5,x6,x7,x8,x9,x10]
theorem zb(h:Stp n ts ps)(hl:ts.length<=30){A B:Nat}(hB:B < A)(hA:A < 2 * ts.length+1){x7 x8 x9 x10:Option (D×Md)}:∃ y7 y8 y9 y10,aS (pD' n ts ps (2 * ts.length+1) A B (some (.int (A:Nat),.fz)) (some (.int (B:Nat),.fz)) x7 x8 x9 x10)=some (.nx,pD' n ts ps (2 * ts.length+1) A ((B:Int)+1) (some (.int (A:Nat),.fz)) (some (.int (B:Nat),.fz)) y7 y8 y9 y10):=by
 obtain ⟨j,hj,T,f,t0,t1,e⟩:=A4 h hl (A:=(A:Nat)) (B:=(B:Nat)) (by omega) (by omega) (by omega);have r:=h.O.r _ (Ea hj);have l:=h.l;obtain ⟨t,rfl⟩:=Int.eq_ofNat_of_zero_le t0
 have g1:gIx [.lst (cD (cps (2 * (ts.length:Int)+1) ps)),.int (t:Nat)]=some (.tup (nD (cpy (2 * (ts.length:Int)+1) ps (t:Nat))),false):=by
  refine gb (jg ?_);rw [DL,DL,Do (by rw [aq];omega),yw (by omega)];rfl
 have tt:=xZ hj
 have c1:gIx [.tup (nD (cpy (2 * (ts.length:Int)+1) ps (t:Nat))),.int ts[j].1]=some (.int (tn (2 * (ts.length:Int)+1) (t:Nat) (ps.getD ts[j].1.toNat 0)),false):=by
  rw [cq r.1 (by rw [Dp];omega),jQ (by omega)]
 have c2:gIx [.tup (nD (cpy (2 * (ts.length:Int)+1) ps (t:Nat))),.int ts[j].2]=some (.int (tn (2 * (ts.length:Int)+1) (t:Nat) (ps.getD ts[j].2.toNat 0)),false):=by
  rw [cq (by omega) (by rw [Dp];omega),jQ (by omega)]
 have so:=Ck e
 have ge:gNe [.lst [.int (B:Nat),.int (A:Nat)],.lst [.int (B:Nat),.int (A:Nat)]]=some (.bl false,false):=by
  have:=zS (ns:=[(B:Int),(A:Int)]) (ms:=[(B:Int),(A:Int)]);rw [Dy rfl] at this;exact this
 have ll:(tL (2 * ts.length+1) A B).length=2 * ts.length+1:=by rw [Dp,aq]
 have i1:gIx [.lst (nD (tL (2 * ts.length+1) A B)),.int (A:Nat)]=some (.int (B:Nat),false):=by
  rw [sQ (by omega) (by rw [ll];omega),EM,yu hA]
  show some (D.int (if (A:Int) < A then _ else if (A:Int)=A then (B:Int) else 0),false)=_
  rw [if_neg (by omega),if_pos rfl]
 have u1:gs (.lst (nD (tL (2 * ts.length+1) A B))) (.int (A:Nat)) (.int ((B:Int)+1))=some (.lst (nD ((tL (2 * ts.length+1) A B).set A ((B:Int)+1)))):=by rw [CF (by omega) (by rw [ll];omega),EM]
 have i2:gIx [.lst (nD ((tL (2 * ts.length+1) A B).set A ((B:Int)+1))),.int (B:Nat)]=some (.int ((A:Int) - 1),false):=by
  rw [sQ (by omega) (by rw [EC,ll];omega),EM,ug hA,yu (by omega)]
  show some (D.int (if (B:Int)=(A:Int) then _ else if (B:Int) < A then (A:Int) - 1+(if (B:Int) < B then 1 else 0) else _),false)=_
  rw [if_neg (by omega),if_pos (by omega),if_neg (by omega),Int.add_zero]
 have u2:gs (.lst (nD ((tL (2 * ts.length+1) A B).set A ((B:Int)+1)))) (.int (B:Nat)) (.int ((A:Int) - 1+1))=some (.lst (nD (tL (2 * ts.length+1) A ((B:Int)+1)))):=by
  rw [CF (by omega) (by rw [EC,ll];omega),EM,show (A:Int) - 1+1=A by omega,AV hA hB]
 refine ⟨some (.int (t:Nat),.fz),some (.int (j:Nat),.fz),some (.tup (nD (cpy (2 * (ts.length:Int)+1) ps (t:Nat))),.fz),some (.lst [.int (tn (2 * (ts.length:Int)+1) (t:Nat) (ps.getD ts[j].1.toNat 0)),.int (tn (2 * (ts.length:Int)+1) (t:Nat) (ps.getD ts[j].2.toNat 0))],.ow),?_⟩;unfold aS
 trace "/4Ĵi__]Pŝ!ȄlЋLVuџc]ƪTХ(ЋĵȇХ(ЋĶȇĉщyƫ'8ss.$đ^4Ę(tƬn!НƭȂĘ(tƮn!НƯȂ!"
end
end K74
namespace K74
open PySem L2
section
variable{n:Nat}{ts:List (Int×Int)}{ps:List Int}
abbrev pE(n:Nat)(ts:List (Int×Int))(ps l:List Int)(x5 x6 x7 x8 x9 x10:Option (D×Md)):Rho:=[some (a7 (n:Nat) ts,.fz),some (.tup (nD ps),.fz),some (.lst (cD (cps (2 * (ts.length:Int)+1) ps)),.fz),some (.int (2 * (ts.length:Int)+1),.fz),some (.lst (nD l),.ow),x5,x6,x7,x8,x9,x10]
theorem yZ{M:Nat}{A B:Int}{l:List Int}(h:tL M A B=l)(x5 x6 x7 x8 x9 x10:Option (D×Md)):pD' n ts ps M A B x5 x6 x7 x8 x9 x10=pE n ts ps l x5 x6 x7 x8 x9 x10:=by subst h;rfl
theorem yp(h:Stp n ts ps)(hl:ts.length<=30){A:Nat}(hA:A < 2 * ts.length+1){x6 x7 x8 x9 x10:Option (D×Md)}:∃ y6 y7 y8 y9 y10,bK (.nm 6) aS (nD (rgI 0 A)) (pD' n ts ps (2 * ts.length+1) A 0 (some (.int (A:Nat),.fz)) x6 x7 x8 x9 x10)=some (.nx,pD' n ts ps (2 * ts.length+1) A (A:Int) (some (.int (A:Nat),.fz)) y6 y7 y8 y9 y10):=by
 obtain ⟨ρ',e,y6,y7,y8,y9,y10,rfl⟩:=eG (T:= .nm 6) (f:=aS) (fun i ρ=>∃ y6 y7 y8 y9 y10,ρ=pD' n ts ps (2 * ts.length+1) A (i:Nat) (some (.int (A:Nat),.fz)) y6 y7 y8 y9 y10) A (pD' n ts ps (2 * ts.length+1) A 0 (some (.int (A:Nat),.fz)) x6 x7 x8 x9 x10) ⟨_,_,_,_,_,rfl⟩ (by
  rintro i hi ρ ⟨y6,y7,y8,y9,y10,rfl⟩;obtain ⟨z7,z8,z9,z10,e⟩:=zb h hl hi hA (x7:=y7) (x8:=y8) (x9:=y9) (x10:=y10)
  exact ⟨_,_,rfl,e,some (.int (i:Nat),.fz),z7,z8,z9,z10,rfl⟩)
 exact ⟨y6,y7,y8,y9,y10,e⟩
theorem A2(h:Stp n ts ps)(hl:ts.length<=30):cb [a7 (n:Nat) ts,.tup (nD ps),.lst (cD (cps (2 * (ts.length:Int)+1) ps))]=some (.ok (.bl true) false,.non):=by
 obtain ⟨ρ',e,y5,y6,y7,y8,y9,y10,rfl⟩:=eG (T:= .nm 5) (f:=cx) (fun i ρ=>∃ y5 y6 y7 y8 y9 y10,ρ=pD' n ts ps (2 * ts.length+1) (i:Nat) 0 y5 y6 y7 y8 y9 y10) (2 * ts.length+1) (pD' n ts ps (2 * ts.length+1) 0 0 none none none none none none) ⟨_,_,_,_,_,_,rfl⟩ (by
  rintro i hi ρ ⟨y5,y6,y7,y8,y9,y10,rfl⟩;obtain ⟨z6,z7,z8,z9,z10,e⟩:=yp h hl hi (x6:=y6) (x7:=y7) (x8:=y8) (x9:=y9) (x10:=y10);rw [yZ (AW (M:=2 * ts.length+1) (A:=i)) _ _ _ _ _ _] at e;have e:bK (.nm 6) aS (nD (rgI 0 i)) (pD' n ts ps (2 * ts.length+1) (i:Nat) 0 (some (.int (i:Nat),.fz)) y6 y7 y8 y9 y10)=some (.nx,pD' n ts ps (2 * ts.length+1) ((i:Int)+1) 0 (some (.int (i:Nat),.fz)) z6 z7 z8 z9 z10):=e
  have hi2:i<=1000000:=by omega
  refine ⟨pD' n ts ps (2 * ts.length+1) (i:Nat) 0 (some (.int (i:Nat),.fz)) y6 y7 y8 y9 y10,pD' n ts ps (2 * ts.length+1) ((i:Int)+1) 0 (some (.int (i:Nat),.fz)) z6 z7 z8 z9 z10,rfl,?_,_,_,_,_,_,_,rfl⟩;unfold cx
  trace "/Oеư5!")
 rw [yZ (tl_end (2 * ts.length+1)) _ _ _ _ _ _,yZ (AU (2 * ts.length+1)) _ _ _ _ _ _] at e
 have tn:(2 * (ts.length:Int)+1).toNat=2 * ts.length+1:=by omega
 have g1:cA [.lst [.int 0],.int (2 * (ts.length:Int)+1)]=some (.lst (nD (List.replicate (2 * ts.length+1) 0)),true):=by rw [sP (by omega) (by omega),tn]
 have g2:cA [.lst [.int (2 * (ts.length:Int)+1 - 1)],.int (2 * (ts.length:Int)+1)]=some (.lst (nD (List.replicate (2 * ts.length+1) (((2 * ts.length+1:Nat):Int) - 1))),true):=by rw [sP (by omega) (by omega),tn,show 2 * (ts.length:Int)+1 - 1=((2 * ts.length+1:Nat):Int) - 1 by omega]
 have g3:gEq [.lst (nD (List.replicate (2 * ts.length+1) (((2 * ts.length+1:Nat):Int) - 1))),.lst (nD (List.replicate (2 * ts.length+1) (((2 * ts.length+1:Nat):Int) - 1)))]=some (.bl true,false):=by rw [sR,Dy rfl]
 have rg:bE (.bor 3) [some (a7 (n:Nat) ts,.fz),some (.tup (nD ps),.fz),some (.lst (cD (cps (2 * (ts.length:Int)+1) ps)),.fz),some (.int (2 * (ts.length:Int)+1),.fz),some (.lst (nD (List.replicate (2 * ts.length+1) 0)),.ow),none,none,none,none,none,none]=some (.ok (nD (rgI 0 (2 * ts.length+1))),[some (a7 (n:Nat) ts,.fz),some (.tup (nD ps),.fz),some (.lst (cD (cps (2 * (ts.length:Int)+1) ps)),.fz),some (.int (2 * (ts.length:Int)+1),.fz),some (.lst (nD (List.replicate (2 * ts.length+1) 0)),.ow),none,none,none,none,none,none]):=by
  have:=lS (x:= .bor 3) (j:=2 * (ts.length:Int)+1) (ρ:=[some (a7 (n:Nat) ts,.fz),some (.tup (nD ps),.fz),some (.lst (cD (cps (2 * (ts.length:Int)+1) ps)),.fz),some (.int (2 * (ts.length:Int)+1),.fz),some (.lst (nD (List.replicate (2 * ts.length+1) 0)),.ow),none,none,none,none,none,none]) (r_b1 rfl) (by omega) (by omega)
  rwa [tn] at this
 unfold cb fK
 trace "ѵУSт$иVl'8Ј.]LдƱ5Щ_S'8xГ.]ăZƲP"
theorem wq(h:Stp n ts ps)(ne:ts≠[]){p:Int}(hp:fP (ts.map (loE ps))=p)(hq:p < eU (ts.map (hiE ps))):b9 [a7 (n:Nat) ts,.tup (nD ps)]=some (.ok (.int p) false,.non):=by
 have f:=t_part h ne hp hq;unfold b9 fI
 trace "zБŝdЧŐЀ"
theorem Aa{p k:Int}{x0 x2 x5 x6 x8:Option (D×Md)}{q:Int}(hk : -100 < k/\k < 100):aJ 1 (bf (aP 1)) (.nm 9) none (sIf (aC gGt [.bor 9,.bor 4]) (sOp aM [.bor 9,.ex (sOp cA [.bor 7,.bor 3])]) (aP 9)) [x0,some (.tup (nD ps),.fz),x2,some (.int q,.fz),some (.int p,.fz),x5,x6,some (.int k,.fz),x8]=some (.ok (.lst (nD (ps.map (upP p (k * q))))) true,[x0,some (.tup (nD ps),.fz),x2,some (.int q,.fz),some (.int p,.fz),x5,x6,some (.int k,.fz),x8]):=by
 have mu:cA [.int k,.int q]=some (.int (k * q),false):=by
  show (if gO k q=true then some (D.int (k * q),false) else none)=_
  rw [if_pos (e9 (by omega) (by omega))]
 refine mF (ds:=nD ps) (ui (p6 rfl) rfl) rfl (iV (inj:=D.int) (g:=upP p (k * q)) ps fun x _=>⟨[x0,some (.tup (nD ps),.fz),x2,some (.int q,.fz),some (.int p,.fz),x5,x6,some (.int k,.fz),x8,some (.int x,.fz)],[x0,some (.tup (nD ps),.fz),x2,some (.int q,.fz),some (.int p,.fz),x5,x6,some (.int k,.fz),x8,some (.int x,.fz)],false,rfl,?_,rfl⟩)
 by_cases h:p < x
 ·have g:gGt [.int x,.int p]=some (.bl true,false):=by
   show some (D.bl (decide (p < x)),false)=_
   rw [Dy h]
  rw [show upP p (k * q) x=x+k * q from if_pos h]
  trace "/ŕ)ЋD!(_tŘZT"
 ·have g:gGt [.int x,.int p]=some (.bl false,false):=by
   show some (D.bl (decide (p < x)),false)=_
   rw [DS h]
  rw [show upP p (k * q) x=x from if_neg h]
  trace "/Ƴ)ЋD!Н"
theorem ext_cD{a b:List (List Int)}(h:a.length+b.length<=1000):bG (.lst (cD a)) [.lst (cD b)]=some (.lst (cD (a++b)),.non):=gC h
theorem v4:∀ l:List Int,bS (nD l)=true
 | []=>rfl
 | _::l=>v4 l
theorem v5:∀ cs:List (List Int),bS (cD cs)=true
 | []=>rfl
 | c::cs=>by
  show (bS (nD c)&&bS (cD cs))=true
  rw [v4,v5 cs];rfl
theorem tr_cD(cs:List (List Int))(as:List L2.Arg)(ρ:Rho):(cf none 0 as ρ||(gy (D.lst (cD cs)) true&&((none:Option Nat).isNone||cj D.non)))=true:=by
 have:gy (D.lst (cD cs)) true=true:=v5 cs;rw [this];cases cf none 0 as ρ<;>rfl
abbrev fds(ps:List Int)(p q m:Int)(i:Nat):List (List Int):=(rgI 0 i).flatMap fun k=>cps m (ps.map (upP p (k * q)))
theorem v7(ps:List Int)(p q m:Int):∀ i,(fds ps p q m i).length=i * m.toNat
 | 0=>by simp [rgI]
 | i+1=>by
  show ((rgI 0 (i+1)).flatMap _).length=_
  rw [bL,EU,DD,v7 ps p q m i,E6,FO,Ec,gk,Nat.succ_mul]
theorem sT(ps:List Int)(p q m:Int)(i:Nat):fds ps p q m (i+1)=fds ps p q m i++cps m (ps.map (upP p ((i:Int) * q))):=by
 show (rgI 0 (i+1)).flatMap _=_
 rw [bL,EU,E6,FO,Ec,Int.zero_add]
theorem vp(h:Stp n ts ps)(ne:ts≠[]){p:Int}(hp:fP (ts.map (loE ps))=p)(hq:p < eU (ts.map (hiE ps))){K:Nat}(hK:K<=2)(hl:ts.length<=15){m:Int}(hm:2 * (ts.length:Int) * (K:Nat)+1=m)(m0:0 < m)(m1:m<=100):cB [a7 (n:Nat) ts,.tup (nD ps),.int (K:Nat)]=some (.ok (.lst (cD (fds ps p ts.length m K))) true,.non):=by
 have pa:=wq h ne hp hq
 obtain ⟨ρ',e,y7,y8,rfl⟩:=eG (T:= .nm 7) (f:=fZ) (fun i ρ=>∃ y7 y8,ρ=[some (a7 (n:Nat) ts,.fz),some (.tup (nD ps),.fz),some (.int (K:Nat),.fz),some (.int (ts.length:Nat),.fz),some (.int p,.fz),some (.int m,.fz),some (.lst (cD (fds ps p ts.length m i)),.ow),y7,y8]) K [some (a7 (n:Nat) ts,.fz),some (.tup (nD ps),.fz),some (.int (K:Nat),.fz),some (.int (ts.length:Nat),.fz),some (.int p,.fz),some (.int m,.fz),some (.lst [],.ow),none,none] ⟨none,none,by simp [rgI]⟩ (by
  rintro i hi ρ ⟨y7,y8,rfl⟩;have fr:=Aa (ps:=ps) (p:=p) (k:=(i:Nat)) (q:=(ts.length:Nat)) (x0:=some (a7 (n:Nat) ts,.fz)) (x2:=some (.int (K:Nat),.fz)) (x5:=some (.int m,.fz)) (x6:=some (.lst (cD (fds ps p ts.length m i)),.ow)) (x8:=y8) (by omega);have tu:=rf (d:= .lst (nD (ps.map (upP p ((i:Int) * (ts.length:Int)))))) (ps:=ps.map (upP p ((i:Int) * (ts.length:Int)))) (m:=m) rfl m0 (by omega);have fl:=v7 ps p ts.length m i;have cl:=gk m (ps.map (upP p ((i:Int) * (ts.length:Int))))
  have ex:=ext_cD (a:=fds ps p ts.length m i) (b:=cps m (ps.map (upP p ((i:Int) * (ts.length:Int))))) (by
   rw [fl,cl];have:i * m.toNat<=1 * 100:=FI (by omega) (by omega)
   omega)
  have tr:=tr_cD (cps m (ps.map (upP p ((i:Int) * (ts.length:Int)))));unfold fZ
  trace "ĊȄuƴVЦ:БƵƶДċȂ"
  rw [<- sT]
  exact ⟨_,_,rfl⟩)
 have ck:aU [.int ((ts.length:Int) * (K:Nat))]=some (.ok .non false,.non):=yd (by
  rw [<- Int.natCast_mul];have:ts.length * K<=15 * 2:=FI hl hK
  omega)
 have m2:cA [.int (ts.length:Nat),.int (K:Nat)]=some (.int ((ts.length:Int) * (K:Nat)),false):=by
  show (if gO (ts.length:Nat) (K:Nat)=true then some (D.int ((ts.length:Int) * (K:Nat)),false) else none)=_
  rw [if_pos (e9 (by omega) (by omega))]
 have m3:cA [.int 2,.int (ts.length:Nat)]=some (.int (2 * (ts.length:Int)),false):=by
  show (if gO 2 (ts.length:Nat)=true then some (D.int (2 * (ts.length:Nat)),false) else none)=_
  rw [if_pos (e9 (by omega) (by omega))]
 have m4:cA [.int (2 * (ts.length:Int)),.int (K:Nat)]=some (.int (2 * (ts.length:Int) * (K:Nat)),false):=by
  show (if gO (2 * (ts.length:Int)) (K:Nat)=true then some (D.int (2 * (ts.length:Int) * (K:Nat)),false) else none)=_
  rw [if_pos (e9 (by omega) (by omega))]
 have ad:aM [.int (2 * (ts.length:Int) * (K:Nat)),.int 1]=some (.int m,false):=by
  show some (D.int (2 * (ts.length:Int) * (K:Nat)+1),false)=_
  rw [hm]
 have hK':K<=1000000:=by omega
 unfold cB mz
 trace "ЬѧĀ>tĳ$Ʒ!uБƸdlSѠƹ]ƺ}ŌVu8.деƻ5ĬVP"
end
end K74
namespace K74
open PySem L2
section
variable{n:Nat}{ts:List (Int×Int)}{ps:List Int}
theorem v6(p q m:Int):fds ps p q m 1=cps m ps:=by
 show (rgI 0 1).flatMap _=_
 rw [show rgI 0 1=[0] from rfl,E6,FO,Ec]
 have:ps.map (upP p (0 * q))=ps:=by
  conv=>rhs;rw [<- List.map_id ps]
  refine DU fun x _=> ?_
  show (if p < x then x+0 * q else x)=x
  split<;>omega
 rw [this]
theorem Ci(p q m:Int):fds ps p q m 2=cps m ps++cps m (ps.map (upP p q)):=by
 rw [sT,v6,show ((1:Nat):Int) * q=q by omega]
theorem two_is(h:Stp n ts ps)(ne:ts≠[]){p:Int}(hp:fP (ts.map (loE ps))=p)(hq:p < eU (ts.map (hiE ps)))(hl:ts.length<=15):bv [a7 (n:Nat) ts,.int (2 * (2 * (ts.length:Int)+1) - 1),.lst (cD (fds ps p ts.length (4 * (ts.length:Int)+1) 2))]=some (.ok (.bl true) false,.non):=by
 have n1:ts.map (loE ps)≠[]:=by simpa using ne
 have n2:ts.map (hiE ps)≠[]:=by simpa using ne
 obtain ⟨L1,L2,nd⟩:=h.fold (p:=p) fun e he=>⟨by
  have:=(fc n1).2 _ (DP.mpr ⟨e,he,rfl⟩);rw [hp] at this
  exact this,by
  have:=(dR n2).2 _ (DP.mpr ⟨e,he,rfl⟩)
  exact Int.lt_of_lt_of_le hq this⟩
 rw [Ci,show 2 * (2 * (ts.length:Int)+1) - 1=4 * (ts.length:Int)+1 by omega];have fl:=jR (ts:=ts) (cps (4 * (ts.length:Int)+1) ps++cps (4 * (ts.length:Int)+1) (ps.map (upP p ts.length)));rw [DD,gk,gk,show (4 * (ts.length:Int)+1).toNat=4 * ts.length+1 by omega] at fl;refine iS h.O (by omega) (by omega) (fun c hc=> ?_) (L1.nd2 (by omega) (by omega) L2 h.O nd) (by rw [fl];exact Ep (FI (show 4 * ts.length+1+(4 * ts.length+1)<=122 by omega) hl) (by decide)) (Dy ?_)
 ·rcases DT.mp hc with hc | hc
  ·exact L1.good hc
  ·exact L2.good hc
 ·have hu:=qw (2 * ts.length)
  rw [show 2 * ((2 * ts.length:Nat):Int)+1=4 * (ts.length:Int)+1 by omega,show (4 * (ts.length:Int)+1).toNat=4 * ts.length+1 by omega] at hu;rw [fl,hu]
  congr 1
  rw [<- Nat.mul_assoc,Nat.mul_comm (4 * ts.length+1) 2,Nat.two_mul]
end
structure Few(k:D)(n:Nat)(ts:List (Int×Int))(ps:List Int)(wd:Str):Prop where
 N:Num k n ts ps wd
 ne:ts≠[]
 l:ts.length<=12
 n:n+1<=40
def AK(k:D):Prop:=∃ (n:Nat) (ts:List (Int×Int)) (ps:List Int) (wd:Str),Few k n ts ps wd
theorem xm{m n:Nat}(h1:1<=m)(h2:1<=n)(h3:m<=3)(h4:m * n<=12)(h5:n<=12):AK (fu (m:Nat) (n:Nat)):=by
 have l:(jb m n).length=m * n:=gX m n;have p:0 < m * n:=Nat.mul_pos h1 h2;exact ⟨_,_,_,_,wS h1 h2 (by omega) (by omega),fun z=>by rw [z] at l;simp at l;omega,by omega,by omega⟩
theorem Ag{n:Nat}(h:n=3\/n=4\/n=7\/n=8\/n=11\/n=12):AK (jz (n:Nat)):=by
 have l:=f7 (n:=n) (by omega);exact ⟨_,_,_,_,zm (by omega) (by omega) (by omega),fun z=>by rw [z] at l;simp at l;omega,by omega,by omega⟩
theorem yh:∀ legs:List Nat,(∀ l∈legs,l<=2)->legs.sum<=2 * legs.length
 | [],_=>by simp
 | l::r,h=>by
  have h1:=h l DC
  have h2:=yh r fun x hx=>h x (Dv _ hx)
  rw [EZ,Dq];omega
theorem xl{legs:List Nat}(h:2<=legs.length)(h2:legs.length<=4)(h3:∀ l∈legs,l<=2):AK (spK legs):=by
 have h0:legs≠[]:=fun z=>by rw [z] at h;simp at h
 have s:legs.sum<=2 * legs.length:=yh legs h3;have N:=num_sp h0 (by omega);have fw:=N.h.few
 have l:(a9 (spT legs)).length=legs.length+legs.sum - 1:=by rw [(bI _).length_eq,(l9 h0).length_eq,AC h0];unfold rem;omega
 exact ⟨_,_,_,_,N,fun z=>by rw [z] at l;simp at l;omega,by omega,by omega⟩
end K74
namespace K74
open PySem L2
noncomputable def FQ(d:D)(nw:Bool)(ρ:Rho):Prop:=AK d/\nw=false/\∃ (P:Pn) (y1 y2 y3:Option (D×Md)),ρ=[some (pD P,.io),y1,y2,y3]
theorem pick4{d:Int}(h0:0<=d)(h1:d < 4):∃ n:Nat,n<=2/\gIx [.lst [.int 0,.int 0,.int 1,.int 2],.int d]=some (.int (n:Nat),false):=by
 obtain rfl | rfl | rfl | rfl:d=0\/d=1\/d=2\/d=3:=by omega
 ·exact ⟨0,by decide,rfl⟩
 ·exact ⟨0,by decide,rfl⟩
 ·exact ⟨1,by decide,rfl⟩
 ·exact ⟨2,by decide,rfl⟩
theorem pickR{d:Int}(h0:0<=d)(h1:d < 6):∃ n:Nat,(n=3\/n=4\/n=7\/n=8\/n=11\/n=12)/\gIx [.lst [.int 3,.int 4,.int 7,.int 8,.int 11,.int 12],.int d]=some (.int (n:Nat),false):=by
 obtain rfl | rfl | rfl | rfl | rfl | rfl:d=0\/d=1\/d=2\/d=3\/d=4\/d=5:=by omega
 ·exact ⟨3,by decide,rfl⟩
 ·exact ⟨4,by decide,rfl⟩
 ·exact ⟨7,by decide,rfl⟩
 ·exact ⟨8,by decide,rfl⟩
 ·exact ⟨11,by decide,rfl⟩
 ·exact ⟨12,by decide,rfl⟩
theorem Ch{P:Pn}{w:D}:vf (bR [some (pD P,.io),some (w,.fz),none,none]) FQ:=by
 unfold bR;have d3:=pp P (m:=3) (by omega) (by omega);refine ue (fun ρ=>∃ P:Pn,ρ=[some (pD P,.io),some (w,.fz),none,none]) (fun y=>∃ n:Nat,n<=2/\y = .int (n:Nat)) (by trace "ƼУ'ъZ$v") rfl ⟨_,rfl⟩ ?_ ?_
 ·rintro d hd ρ ⟨P,rfl⟩
  have b:=pp P (m:=4) (by omega) (by omega);obtain ⟨n,hn,hx⟩:=pick4 b.1 b.2
  trace "ƾȄЏ8ЈЈЈЈ.'ъ$ƿ"
  ·exact ⟨n,hn,rfl⟩
  ·exact ⟨_,rfl⟩
 ·rintro ys ρ ⟨P,rfl⟩ hl hy
  obtain ⟨legs,rfl,hl2,hl3⟩:=vQ ys hy;rw [Dp,Dp,Dp,aq] at hl;refine ⟨_,rfl,?_⟩
  trace "ŞѻxК."
  exact ⟨xl (by omega) (by omega) hl3,rfl,_,_,_,_,rfl⟩
theorem t_few(P:Pn):∃ k P',aG [pD P]=some (.ok k false,pD P')/\AK k:=by
 have b:=pp P (m:=3) (by omega) (by omega)
 obtain h | h | h:dr P 3=0\/dr P 3=1\/dr P 3=2:=by omega
 ·have b1:=pp (nx P 3) (m:=3) (by omega) (by omega)
  have q:0 < 12 / (1+dr (nx P 3) 3)/\12 / (1+dr (nx P 3) 3)<=12/\(1+dr (nx P 3) 3).toNat * (12 / (1+dr (nx P 3) 3)).toNat<=12:=by
   obtain h | h | h:dr (nx P 3) 3=0\/dr (nx P 3) 3=1\/dr (nx P 3) 3=2:=by omega
   all_goals (rw [h];decide)
  have b2:=pp (nx (nx P 3) 3) (m:=12 / (1+dr (nx P 3) 3)) q.1 (by omega)
  have e0:gEq [.int (dr P 3),.int 0]=some (.bl true,false):=by rw [cR,Dy h]
  have fd:eO [.int 12,.int (1+dr (nx P 3) 3)]=some (.int (12 / (1+dr (nx P 3) 3)),false):=by
   show (if decide (0 < 1+dr (nx P 3) 3/\1+dr (nx P 3) 3 < 1073741824)=true then some (D.int (12 / (1+dr (nx P 3) 3)),false) else none)=_
   rw [if_pos (Dy ⟨by omega,by omega⟩)]
  refine ⟨fu (1+dr (nx P 3) 3) (1+dr (nx (nx P 3) 3) (12 / (1+dr (nx P 3) 3))),nx (nx (nx P 3) 3) (12 / (1+dr (nx P 3) 3)),?_,?_⟩
  ·unfold aG bH
   trace "zъVАЅā!lЄ'ъZVѻsxЄ'Ģ_ѠřZҀZВ"
  ·have:=xm (m:=(1+dr (nx P 3) 3).toNat) (n:=(1+dr (nx (nx P 3) 3) (12 / (1+dr (nx P 3) 3))).toNat) (by omega) (by omega) (by omega) (Ep (FI (DE _) (show _<=(12 / (1+dr (nx P 3) 3)).toNat by omega)) q.2.2) (by omega)
   rwa [show (((1+dr (nx P 3) 3).toNat:Nat):Int)=1+dr (nx P 3) 3 by omega,show (((1+dr (nx (nx P 3) 3) (12 / (1+dr (nx P 3) 3))).toNat:Nat):Int)=1+dr (nx (nx P 3) 3) (12 / (1+dr (nx P 3) 3)) by omega] at this
 ·have e0:gEq [.int (dr P 3),.int 0]=some (.bl false,false):=by rw [cR,DS (by omega)]
  have e1:gEq [.int (dr P 3),.int 1]=some (.bl true,false):=by rw [cR,Dy h]
  have b1:=pp (nx P 3) (m:=6) (by omega) (by omega);obtain ⟨n,hn,g⟩:=pickR b1.1 b1.2;refine ⟨jz (n:Nat),nx (nx P 3) 6,?_,Ag hn⟩;unfold aG bH
  trace "zъщЅā^АЅĝ!ўЏ8ЈЈЈЈЈЈ.'ъ$DВ"
 ·have e0:gEq [.int (dr P 3),.int 0]=some (.bl false,false):=by rw [cR,DS (by omega)]
  have e1:gEq [.int (dr P 3),.int 1]=some (.bl false,false):=by rw [cR,DS (by omega)]
  obtain ⟨d,nw,ρ',e,hk,rfl,P',y1,y2,y3,rfl⟩:=Ch (P:=nx P 3) (w:= .int (dr P 3));refine ⟨d,P',?_,hk⟩;unfold aG bH
  trace "zъщЅā^~Ѕĝ^5P"
end K74
namespace K74
open PySem L2
theorem Dc:∀ cs:List (List Int),(cD cs).all (af 8)=true
 | []=>rfl
 | c::cs=>by
  rw [show cD (c::cs) = .tup (nD c)::cD cs from rfl,List.all_cons,Dc cs,sY];rfl
theorem ne_cD(cs:List (List Int)):gNe [.lst (cD cs),.lst (cD cs)]=some (.bl false,false):=by
 have h:af 9 (.lst (cD cs))=true:=Dc cs
 show (if (af 9 (D.lst (cD cs))&&af 9 (D.lst (cD cs)))=true then some (D.bl (!eqD (.lst (cD cs)) (.lst (cD cs))),false) else none)=_
 rw [h,show eqD (.lst (cD cs)) (.lst (cD cs))=true from jU 9 h];rfl
abbrev Zr(ns:List Int)(ρ:Rho):Prop:=∃ y1 y2 y3 y4 y5 y6 y7 y8 y9 y10,ρ=[some (.klst (nD ns),.fz),y1,y2,y3,y4,y5,y6,y7,y8,y9,y10]
theorem body{ns:List Int}{c:Int}{k:D}{w:Str}{P:Pn}{n:Nat}{ts:List (Int×Int)}{ps:List Int}(F:Few k n ts ps w)(e:aG [pD (pen0 c)]=some (.ok k false,pD P))(x2 x3 x4 x5 x6 x7 x8 x9 x10:Option (D×Md)):wl (jx [some (.klst (nD ns),.fz),some (.int c,.fz),x2,x3,x4,x5,x6,x7,x8,x9,x10]) (Zr ns):=by
 have l:=F.l;have nn:=F.n;have ne:=F.ne;have h:=F.N.h;have wf:=F.N.w;have sf:=F.N.s;have ix:=F.N.i;have cu:=CJ (n:=n) (ts:=ts) (ps:=ps) (by omega);have c1:=Aq h (by omega);have c2:=cut_no h ne (by omega)
 have dr:sO [.lst (cD (cps (2 * (ts.length:Int)+1) ps)),.int 1]=some (.lst (cD ((cps (2 * (ts.length:Int)+1) ps).drop 1)),true):=by
  have hc:=gk (2 * (ts.length:Int)+1) ps
  generalize cps (2 * (ts.length:Int)+1) ps=cs at *
  cases cs with
  | nil=>simp at hc;omega
  | cons a r=>exact AY _ _
 have q1:dS [.bl true,.bl true]=some (.bl false,false):=rfl;have q2:dS [.bl false,.bl false]=some (.bl false,false):=rfl;have pr:=A2 h (by omega);obtain ⟨p0,ga,S⟩:=t_ga h (by omega) (by omega)
 have pl:(a9 (ts++[((p0:Int),(n:Int))])).length=ts.length+1:=by rw [(bI _).length_eq,DD];rfl
 have cm:=CJ (n:=n+1) (ts:=a9 (ts++[((p0:Int),(n:Int))])) (ps:=(ps.map fun x=>x+1)++[0]) (by omega);have cg:=Aq S (by omega);rw [show 2 * ((a9 (ts++[((p0:Int),(n:Int))])).length:Int)+1=2 * (ts.length:Int)+1+2 by rw [pl];omega] at cm cg
 rcases F.N.p with rfl | ⟨nr,hp⟩
 ·have q3:gNe [.str "ring",.str "ring"]=some (.bl false,false):=rfl
  unfold jx
  trace "ЍWşd"
  trace "ЍĢ]5ѹV"
  trace "ЍWŠd"
  trace "ЍЏWšЭėd"
  trace "Ѝ(УSт$иV"
  trace "ЍБķd"
  trace "E@K)rЕĵЭĒ!)r_kŢЛĶЭţ^"
  trace "E@гrЕŤз"
  trace "EĴiГĲ!Ȅ"
  trace "Eчrk!{ťwŦЭĒ^"
  trace "ŧчkĠ}ǀ^"
  exact ⟨_,_,_,_,_,_,_,_,_,_,rfl⟩
 ·obtain ⟨pf,p,h1,h2⟩:=hp ne
  have f1:cB [a7 (n:Nat) ts,.tup (nD ps),.int 1]=some (.ok (.lst (cD (cps (2 * (ts.length:Int)+1) ps))) true,.non):=by
   have:=vp h ne h1 h2 (K:=1) (by omega) (by omega) (m:=2 * (ts.length:Int)+1) (by omega) (by omega) (by omega);rw [v6] at this;exact this
  have f2:cB [a7 (n:Nat) ts,.tup (nD ps),.int 2]=some (.ok (.lst (cD (fds ps p ts.length (4 * (ts.length:Int)+1) 2))) true,.non):=vp h ne h1 h2 (K:=2) (by omega) (by omega) (m:=4 * (ts.length:Int)+1) (by omega) (by omega) (by omega);have nc:=ne_cD (cps (2 * (ts.length:Int)+1) ps);have ti:=two_is h ne h1 h2 (by omega);unfold jx
  trace "ЍWşd"
  trace "ЍĢ]5ѹV"
  trace "ЍWŠd"
  trace "ЍЏWšЭėd"
  trace "Ѝ(УSт$иV"
  trace "ЍБķd"
  trace "E@K)rЕĵЭĒ!)r_kŢЛĶЭţ^"
  trace "E@гrЕŤз"
  trace "EĴiГĲ!Ȅ"
  trace "Eчrk!{ťwŦЭĒ^"
  trace "ŧѫkĠ}ǁ!uWǂd~rГǃ!{ķјǄ^чrSѠиrГǅwǆЭĒ^"
  exact ⟨_,_,_,_,_,_,_,_,_,_,rfl⟩
theorem law_ok(ns:List Int):sU [.klst (nD ns)]=some (.ok (.bl true) false,.non):=by
 have R:vf (ym [some (.klst (nD ns),.fz),none,none,none,none,none,none,none,none,none,none]) (fun d nw ρ=>d = .bl true/\nw=false):=by
  unfold ym
  obtain ⟨ρ',e,y1,y2,y3,y4,y5,y6,y7,y8,y9,y10,rfl⟩:=kS (T:= .nm 1) (f:=jx) (inj:=D.int) (fun (_:Unit) ρ=>Zr ns ρ) (fun _ _=>()) (Au ns 0::tE ns (some 1) (some 2)) () [some (.klst (nD ns),.fz),none,none,none,none,none,none,none,none,none,none] ⟨_,_,_,_,_,_,_,_,_,_,rfl⟩ (by
   rintro c hc _ ρ ⟨y1,y2,y3,y4,y5,y6,y7,y8,y9,y10,rfl⟩;obtain ⟨k,P',e,n,ts,ps,wd,F⟩:=t_few (pen0 c);obtain ⟨ρ',e,hq⟩:=body (ns:=ns) F e y2 y3 y4 y5 y6 y7 y8 y9 y10
   exact ⟨_,_,rfl,e,hq⟩)
  trace "ǇONЏ8:>Ѕǈ!.yǉ$Ǌv!5"
  trace "Ş,1"
  exact ⟨rfl,rfl⟩
 obtain ⟨d,nw,ρ',e2,rfl,rfl⟩:=R;unfold sU
 trace "bņP"
end K74
namespace K74
open PySem L2 PyProof.Rows
noncomputable def DIn(K:F2)(x:Str)(i:Nat):Prop:=∃ (f:Addr) (od an:Option Addr) (sl:Array (Option Value)) (oc kV dc pm cd ct:Value),PySem.W.nsIn K mainGlobals x=some (some (.ref f))/\K.lookup f=some ⟨oc,od,.func (PySem.W.fnOf x x (cw (top i)) (aY (top i)) (aa (top i)) .none kV dc pm an cd ct),sl⟩/\PySem.W.codeIn K cd x=true/\PySem.W.keepIn K (.ref f)=true
theorem din_mk{K:F2}{x:Str}{i:Nat}{f:Addr}{od an:Option Addr}{sl:Array (Option Value)}{oc kV dc pm cd ct:Value}(a:PySem.W.nsIn K mainGlobals x=some (some (.ref f)))(l:K.lookup f=some ⟨oc,od,.func (PySem.W.fnOf x x (cw (top i)) (aY (top i)) (aa (top i)) .none kV dc pm an cd ct),sl⟩)(c:PySem.W.codeIn K cd x=true)(k:PySem.W.keepIn K (.ref f)=true):DIn K x i:=⟨f,od,an,sl,oc,kV,dc,pm,cd,ct,a,l,c,k⟩
theorem qv{K:F2}{mg:Str->Option Value}{h:Heap}(X:K.In h)(G:h.Ns mainGlobals mg){x:Str}{i:Nat}{ps:List Str}(d:DIn K x i)
 (hb:∀ (kV doc pm:Value) (an:Option Addr) (cdv ct:Value) (us:List Value),us.length=ps.length->bindArgs (PySem.W.fnOf x x (cw (top i)) (aY (top i)) (aa (top i)) .none kV doc pm an cdv ct) ⟨us,[]⟩=pure (ps.zip us)):Has K mg x (top i) ps:=by
 obtain ⟨f,od,an,sl,oc,kV,dc,pm,cd,ct,a,l,c,k⟩:=d;exact ⟨f,_,uK l c k,Fl X G a,(uK (st:=top i) l c k).binds hb⟩
theorem uq{K:F2}{mg:Str->Option Value}{h:Heap}{x:Str}{C:Addr}{bs:List Value}{ni:String}(X:K.In h)(G:h.Ns mainGlobals mg)(e:PySem.W.nsIn K mainGlobals x=some (some (.ref C)))(q:PySem.W.excIn K C bs ni=true):OwnCls x C bs ni mg h where
 bound:=Fl X G e
 obj:=by
  unfold PySem.W.excIn at q
  split at q
  case h_2=>cases q
  case h_1 d1 cl ss look =>
   split at q
   case h_2=>cases q
   case h_1 C2 rest a0 a1 a2 a3 nw a5 hmro hslots =>
    rcases cl with ⟨c1,c2,c3,c4,c5,c6,c7,c8,c9,c10,c11⟩
    rcases ss with ⟨ss⟩
    simp only [DM,beq_iff_eq,Bool.not_eq_true'] at q
    rcases q with ⟨⟨⟨⟨⟨w1,w2⟩,w3⟩,w4⟩,w5⟩,w6⟩
    dsimp only at hmro hslots w3 w5 w6;cases w1;cases w2;cases hmro;cases w3;cases hslots;exact ⟨rest,c4,c1,c5,c2,c6,c7,c8,c9,c10,d1,a0,a1,a2,a3,a5,_,X _ _ look,.of_isNs (PySem.W.isNs_of_in X w5),PySem.W.nsMap_none_of_in X w5 w6,PySem.W.tail_of_in X w4⟩
theorem bF{K:F2}{mg:Str->Option Value}{h:Heap}(X:K.In h)(G:h.Ns mainGlobals mg){x:Str}{i:Nat}(p0:Str)(d:DIn K x i)(hb:∀ (kV doc pm:Value) (an:Option Addr) (cdv ct u0:Value),bindArgs (PySem.W.fnOf x x (cw (top i)) (aY (top i)) (aa (top i)) .none kV doc pm an cdv ct) ⟨[u0],[]⟩=pure ([p0].zip [u0])):Has K mg x (top i) [p0]:=qv X G d fun _ _ _ _ _ _ us hl=>match us,hl with | [u0],_=>hb _ _ _ _ _ _ _
theorem cO{K:F2}{mg:Str->Option Value}{h:Heap}(X:K.In h)(G:h.Ns mainGlobals mg){x:Str}{i:Nat}(p0 p1:Str)(d:DIn K x i)(hb:∀ (kV doc pm:Value) (an:Option Addr) (cdv ct u0 u1:Value),bindArgs (PySem.W.fnOf x x (cw (top i)) (aY (top i)) (aa (top i)) .none kV doc pm an cdv ct) ⟨[u0,u1],[]⟩=pure ([p0,p1].zip [u0,u1])):Has K mg x (top i) [p0,p1]:=qv X G d fun _ _ _ _ _ _ us hl=>match us,hl with | [u0,u1],_=>hb _ _ _ _ _ _ _ _
theorem jN{K:F2}{mg:Str->Option Value}{h:Heap}(X:K.In h)(G:h.Ns mainGlobals mg){x:Str}{i:Nat}(p0 p1 p2:Str)(d:DIn K x i)(hb:∀ (kV doc pm:Value) (an:Option Addr) (cdv ct u0 u1 u2:Value),bindArgs (PySem.W.fnOf x x (cw (top i)) (aY (top i)) (aa (top i)) .none kV doc pm an cdv ct) ⟨[u0,u1,u2],[]⟩=pure ([p0,p1,p2].zip [u0,u1,u2])):Has K mg x (top i) [p0,p1,p2]:=qv X G d fun _ _ _ _ _ _ us hl=>match us,hl with | [u0,u1,u2],_=>hb _ _ _ _ _ _ _ _ _
theorem Da{K:F2}{mg:Str->Option Value}{h:Heap}(X:K.In h)(G:h.Ns mainGlobals mg){x:Str}{i:Nat}(p0 p1 p2 p3:Str)(d:DIn K x i)(hb:∀ (kV doc pm:Value) (an:Option Addr) (cdv ct u0 u1 u2 u3:Value),bindArgs (PySem.W.fnOf x x (cw (top i)) (aY (top i)) (aa (top i)) .none kV doc pm an cdv ct) ⟨[u0,u1,u2,u3],[]⟩=pure ([p0,p1,p2,p3].zip [u0,u1,u2,u3])):Has K mg x (top i) [p0,p1,p2,p3]:=qv X G d fun _ _ _ _ _ _ us hl=>match us,hl with | [u0,u1,u2,u3],_=>hb _ _ _ _ _ _ _ _ _ _
theorem all_mk{l:PySem.W.OpenLaw}{w:World}{K:F2}{h:Heap}{mg:Str->Option Value}{fa:Addr}(X:K.In h)(G:h.Ns mainGlobals mg)(hfa:mg "law" = some (.ref fa))
 {f4:Addr}
 {c3:Addr}
 {k3:Addr}
 {a2:Tok}
 {g2:Tok}
 {j2:Tok}
 {bb0:Addr} {db0:Option Addr} {nb0:Nat} {sb0:Array (Option Value)} {bb1:Addr} {db1:Option Addr} {nb1:Nat} {sb1:Array (Option Value)} {tb1_0:Tok} {bb2:Addr} {db2:Option Addr} {nb2:Nat} {sb2:Array (Option Value)} {tb2_0:Tok}
 {i1:Addr} {j1:Nat}
 {a1:Tok} {bb3:Addr} {db3:Option Addr} {nb3:Nat} {sb3:Array (Option Value)} {tb3_0:Tok}
 {b1:Tok} {bb4:Addr} {db4:Option Addr} {nb4:Nat} {sb4:Array (Option Value)} {tb4_0:Tok} {tb4_1:Tok}
 {c1:Tok} {bb5:Addr} {db5:Option Addr} {nb5:Nat} {sb5:Array (Option Value)} {tb5_0:Tok}
 {f1:Tok} {bb6:Addr} {db6:Option Addr} {nb6:Nat} {sb6:Array (Option Value)} {tb6_0:Tok}
 {g1:Tok} {bb7:Addr} {db7:Option Addr} {nb7:Nat} {sb7:Array (Option Value)} {tb7_0:Tok}
 (d0:DIn K "is_whole" 8)
 (d1:DIn K "whole_within" 9)
 (d2:DIn K "unlike_within" 10)
 (d3:DIn K "many_good" 14)
 (d4:DIn K "tie_told" 15)
 (d5:DIn K "is_place" 16)
 (d6:DIn K "web_of" 17)
 (d7:DIn K "tie_counts" 18)
 (d8:DIn K "tied_places" 19)
 (d9:DIn K "steps_good" 22)
 (d10:DIn K "places_numbered" 23)
 (d11:DIn K "steps_by" 24)
 (d12:DIn K "check_steps" 25)
 (d13:DIn K "parted_at" 26)
 (d14:DIn K "parting_number" 27)
 (d15:DIn K "step_bar_holds" 28)
 (d16:DIn K "step_bar" 29)
 (d17:DIn K "cut_good" 32)
 (d18:DIn K "copy_good" 33)
 (d19:DIn K "copied_ties" 34)
 (d20:DIn K "check_cut_ties" 35)
 (d21:DIn K "cut_by" 36)
 (d22:DIn K "turned_copies" 37)
 (d23:DIn K "found_in" 38)
 (d24:DIn K "copy_at" 39)
 (d25:DIn K "folds_by" 40)
 (d26:DIn K "kind_good" 43)
 (d27:DIn K "web_for" 44)
 (d28:DIn K "form_good" 45)
 (d29:DIn K "legs_good" 46)
 (d30:DIn K "numbers_good" 47)
 (d31:DIn K "places_in" 48)
 (d32:DIn K "ties_in" 49)
 (d33:DIn K "row_ties" 50)
 (d34:DIn K "star_ties" 51)
 (d35:DIn K "spine_ties" 52)
 (d36:DIn K "ring_ties" 53)
 (d37:DIn K "sides_ties" 54)
 (d38:DIn K "full_ties" 55)
 (d39:DIn K "fan_ties" 56)
 (d40:DIn K "wheel_ties" 57)
 (d41:DIn K "steps_for" 59)
 (d42:DIn K "parted_for" 60)
 (d43:DIn K "parted_made" 61)
 (d44:DIn K "spine_steps" 62)
 (d45:DIn K "sides_steps" 63)
 (d46:DIn K "ring_answer" 64)
 (d47:DIn K "ring_steps" 65)
 (d48:DIn K "grown_above" 66)
 (d49:DIn K "grown_at" 67)
 (d50:DIn K "_law_cell_at" 69)
 (d51:DIn K "_law_next" 70)
 (d52:DIn K "_law_pen_of" 71)
 (d53:DIn K "_law_draw" 72)
 (d54:DIn K "_law_kind_of_few" 73)
 (d55:DIn K "_law_each_pair" 74)
 (d56:DIn K "law" 75)
 (g5:PySem.W.nsIn K mainGlobals "abs" = some none)
 (i5:PySem.W.nsIn K mainGlobals "all" = some none)
 (c5:PySem.W.nsIn K mainGlobals "bool" = some none)
 (b3:PySem.W.nsIn K mainGlobals "enumerate" = some none)
 (j5:PySem.W.nsIn K mainGlobals "int" = some none)
 (k2:PySem.W.nsIn K mainGlobals "isinstance" = some none)
 (k5:PySem.W.nsIn K mainGlobals "len" = some none)
 (f5:PySem.W.nsIn K mainGlobals "list" = some none)
 (m5:PySem.W.nsIn K mainGlobals "max" = some none)
 (a6:PySem.W.nsIn K mainGlobals "min" = some none)
 (a5:PySem.W.nsIn K mainGlobals "range" = some none)
 (b6:PySem.W.nsIn K mainGlobals "set" = some none)
 (m4:PySem.W.nsIn K mainGlobals "sorted" = some none)
 (c6:PySem.W.nsIn K mainGlobals "str" = some none)
 (f6:PySem.W.nsIn K mainGlobals "sum" = some none)
 (b5:PySem.W.nsIn K mainGlobals "tuple" = some none)
 (g6:PySem.W.nsIn K mainGlobals "zip" = some none)
 (f2:PySem.W.nsIn K mainGlobals "MOST_CUT_TIES" = some (some (.int 30 a2)))
 (i2:PySem.W.nsIn K mainGlobals "MOST_PLACES" = some (some (.int 40 g2)))
 (m2:PySem.W.nsIn K mainGlobals "MOST_TIES" = some (some (.int 60 j2)))
 (a3:PySem.W.nsIn K mainGlobals "STEP_BARS" = some (some (.ref bb0)))
 (lb0:K.lookup bb0=some ⟨.type "tuple",db0,.seq #[.ref bb1,.ref bb2] nb0,sb0⟩)
 (lb1:K.lookup bb1=some ⟨.type "tuple",db1,.seq #[.str "places" tb1_0] nb1,sb1⟩)
 (lb2:K.lookup bb2=some ⟨.type "tuple",db2,.seq #[.str "even" tb2_0] nb2,sb2⟩)
 (c2:PySem.W.nsIn K mainGlobals "LEAST_NUMBERS" = some (some (.ref i1)))
 (k1:K.lookup i1=some ⟨.type "dict",none,.dict #[⟨PyData.keyHash w.params "ring",.str "ring" a1,.ref bb3⟩,⟨PyData.keyHash w.params "sides",.str "sides" b1,.ref bb4⟩,⟨PyData.keyHash w.params "full",.str "full" c1,.ref bb5⟩,⟨PyData.keyHash w.params "wheel",.str "wheel" f1,.ref bb6⟩,⟨PyData.keyHash w.params "fan",.str "fan" g1,.ref bb7⟩] j1,#[]⟩)
 (lb3:K.lookup bb3=some ⟨.type "tuple",db3,.seq #[.int 3 tb3_0] nb3,sb3⟩)
 (lb4:K.lookup bb4=some ⟨.type "tuple",db4,.seq #[.int 1 tb4_0,.int 1 tb4_1] nb4,sb4⟩)
 (lb5:K.lookup bb5=some ⟨.type "tuple",db5,.seq #[.int 1 tb5_0] nb5,sb5⟩)
 (lb6:K.lookup bb6=some ⟨.type "tuple",db6,.seq #[.int 3 tb6_0] nb6,sb6⟩)
 (lb7:K.lookup bb7=some ⟨.type "tuple",db7,.seq #[.int 1 tb7_0] nb7,sb7⟩)
 (m1:(i1 == sysModules)=false)
 (j4:PySem.W.nsIn K mainGlobals "NoKind" = some (some (.ref f4)))
 (k4:PySem.W.excIn K f4 [.type "ValueError",.type "Exception",.type "BaseException",.type "object"] "ValueError.__new__" = true)
 (i3:PySem.W.nsIn K mainGlobals "NoNumber" = some (some (.ref c3)))
 (j3:PySem.W.excIn K c3 [.type "ValueError",.type "Exception",.type "BaseException",.type "object"] "ValueError.__new__" = true)
 (b4:PySem.W.nsIn K mainGlobals "NoPlace" = some (some (.ref k3)))
 (c4:PySem.W.excIn K k3 [.type "ValueError",.type "Exception",.type "BaseException",.type "object"] "ValueError.__new__" = true)
 : ∃ fd:FuncData,(∀ (s:Shared) (v:Value),BindsTo s fd ⟨[v],[]⟩ [("script",v)])/\∀ base:Heap,K.In base->base.Ns mainGlobals mg->kF l.prog w K mg base (CXr l.prog w) 9 fa fd ["script"] (spF K none sU):=by
 obtain ⟨fL,odL,anL,slL,ocL,kVL,dcL,pmL,cdL,ctL,aL,lL,cL,kL⟩:=d56;cases hfa.symm.trans (Fl X G aL);have T:Txt K mg:=⟨DY X G g5,DY X G i5,DY X G c5,DY X G b3,DY X G j5,DY X G k2,DY X G k5,DY X G f5,DY X G m5,DY X G a6,DY X G a5,DY X G b6,DY X G m4,DY X G c6,DY X G f6,DY X G b5,DY X G g6,⟨a2,Fl X G f2⟩,⟨g2,Fl X G i2⟩,⟨j2,Fl X G m2⟩,⟨bb0,Fl X G a3,fun H=>⟨bb0,[.ref bb1,.ref bb2],rfl,.inr ⟨_,#[.ref bb1,.ref bb2],nb0,lb0,rfl,rfl,by show 2<=sizeLine;decide,(.cons rfl (.cons rfl .nil))⟩,⟨bb1,[.str "places"],rfl,.inr ⟨_,#[.str "places" tb1_0],nb1,lb1,rfl,rfl,by show 1<=sizeLine;decide,(.cons ⟨_,rfl⟩ .nil)⟩,rfl,trivial⟩,⟨bb2,[.str "even"],rfl,.inr ⟨_,#[.str "even" tb2_0],nb2,lb2,rfl,rfl,by show 1<=sizeLine;decide,(.cons ⟨_,rfl⟩ .nil)⟩,rfl,trivial⟩,trivial⟩⟩⟩;have b2:wk w K mg "LEAST_NUMBERS" bd be:=⟨⟨i1,[.ref bb3,.ref bb4,.ref bb5,.ref bb6,.ref bb7],Fl X G c2,rfl,fzM_of [("ring",a1,bb3),("sides",b1,bb4),("full",c1,bb5),("wheel",f1,bb6),("fan",g1,bb7)] m1 k1 (show (["ring", "sides", "full", "wheel", "fan"]:List Str).Nodup by decide),fun H=>⟨⟨bb3,[.int 3],rfl,.inr ⟨_,#[.int 3 tb3_0],nb3,lb3,rfl,rfl,by show 1<=sizeLine;decide,(.cons ⟨_,rfl⟩ .nil)⟩,rfl,trivial⟩,⟨bb4,[.int 1,.int 1],rfl,.inr ⟨_,#[.int 1 tb4_0,.int 1 tb4_1],nb4,lb4,rfl,rfl,by show 2<=sizeLine;decide,(.cons ⟨_,rfl⟩ (.cons ⟨_,rfl⟩ .nil))⟩,rfl,rfl,trivial⟩,⟨bb5,[.int 1],rfl,.inr ⟨_,#[.int 1 tb5_0],nb5,lb5,rfl,rfl,by show 1<=sizeLine;decide,(.cons ⟨_,rfl⟩ .nil)⟩,rfl,trivial⟩,⟨bb6,[.int 3],rfl,.inr ⟨_,#[.int 3 tb6_0],nb6,lb6,rfl,rfl,by show 1<=sizeLine;decide,(.cons ⟨_,rfl⟩ .nil)⟩,rfl,trivial⟩,⟨bb7,[.int 1],rfl,.inr ⟨_,#[.int 1 tb7_0],nb7,lb7,rfl,rfl,by show 1<=sizeLine;decide,(.cons ⟨_,rfl⟩ .nil)⟩,rfl,trivial⟩,trivial⟩⟩⟩
 have D0:=bF X G "thing" d0 (by intros;rfl);have D1:=jN X G "thing" "least" "most" d1 (by intros;rfl);have D2:=jN X G "things" "least" "most" d2 (by intros;rfl);have D3:=bF X G "thing" d3 (by intros;rfl);have D4:=cO X G "many" "thing" d4 (by intros;rfl);have D5:=cO X G "many" "thing" d5 (by intros;rfl);have D6:=cO X G "many" "things" d6 (by intros;rfl);have D7:=bF X G "web" d7 (by intros;rfl);have D8:=bF X G "web" d8 (by intros;rfl);have D9:=cO X G "web" "thing" d9 (by intros;rfl);have D10:=cO X G "web" "thing" d10 (by intros;rfl);have D11:=cO X G "web" "numbers" d11 (by intros;rfl);have D12:=cO X G "web" "thing" d12 (by intros;rfl);have D13:=cO X G "web" "numbers" d13 (by intros;rfl);have D14:=cO X G "web" "numbers" d14 (by intros;rfl);have D15:=cO X G "web" "thing" d15 (by intros;rfl);have D16:=bF X G "web" d16 (by intros;rfl);have D17:=jN X G "web" "size" "thing" d17 (by intros;rfl);have D18:=jN X G "web" "size" "thing" d18 (by intros;rfl);have D19:=cO X G "web" "seats" d19 (by intros;rfl);have D20:=bF X G "many" d20 (by intros;rfl);have D21:=cO X G "web" "numbering" d21 (by intros;rfl);have D22:=cO X G "numbers" "size" d22 (by intros;rfl);have D23:=Da X G "web" "numbering" "one" "other" d23 (by intros;rfl);have D24:=Da X G "web" "numbering" "lesser" "step" d24 (by intros;rfl);have D25:=jN X G "web" "numbering" "folds" d25 (by intros;rfl);have D26:=bF X G "thing" d26 (by intros;rfl);have D27:=bF X G "kind" d27 (by intros;rfl);have D28:=bF X G "thing" d28 (by intros;rfl);have D29:=bF X G "thing" d29 (by intros;rfl);have D30:=cO X G "leasts" "things" d30 (by intros;rfl);have D31:=bF X G "kind" d31 (by intros;rfl);have D32:=bF X G "kind" d32 (by intros;rfl);have D33:=cO X G "first" "last" d33 (by intros;rfl);have D34:=jN X G "middle" "first" "last" d34 (by intros;rfl);have D35:=bF X G "legs" d35 (by intros;rfl)
 have D36:=bF X G "n" d36 (by intros;rfl);have D37:=cO X G "m" "n" d37 (by intros;rfl);have D38:=bF X G "n" d38 (by intros;rfl);have D39:=bF X G "n" d39 (by intros;rfl);have D40:=bF X G "n" d40 (by intros;rfl);have D41:=bF X G "kind" d41 (by intros;rfl);have D42:=bF X G "kind" d42 (by intros;rfl);have D43:=bF X G "kind" d43 (by intros;rfl);have D44:=bF X G "legs" d44 (by intros;rfl);have D45:=cO X G "m" "n" d45 (by intros;rfl);have D46:=bF X G "web" d46 (by intros;rfl);have D47:=bF X G "n" d47 (by intros;rfl);have D48:=jN X G "web" "numbering" "count" d48 (by intros;rfl);have D49:=jN X G "web" "place" "count" d49 (by intros;rfl);have D50:=cO X G "script" "k" d50 (by intros;rfl);have D51:=bF X G "seed" d51 (by intros;rfl);have D52:=bF X G "cell" d52 (by intros;rfl);have D53:=cO X G "pen" "many" d53 (by intros;rfl);have D54:=bF X G "pen" d54 (by intros;rfl);have D55:=jN X G "web" "numbering" "cut" d55 (by intros;rfl);refine ⟨PySem.W.fnOf "law" "law" (cw (top 75)) (aY (top 75)) (aa (top 75)) .none kVL dcL pmL anL cdL ctL,fun s v=> .of_eq rfl,fun base KB GB=> ?_⟩;have g4:OwnCls "NoKind" f4 [.type "ValueError",.type "Exception",.type "BaseException",.type "object"] "ValueError.__new__" mg base:=uq KB GB j4 k4;have i4:dD K mg base "NoKind" := ⟨_,_,_,_,_,g4,FW,j4⟩;have f3:OwnCls "NoNumber" c3 [.type "ValueError",.type "Exception",.type "BaseException",.type "object"] "ValueError.__new__" mg base:=uq KB GB i3 j3;have g3:dD K mg base "NoNumber" := ⟨_,_,_,_,_,f3,FW,i3⟩;have m3:OwnCls "NoPlace" k3 [.type "ValueError",.type "Exception",.type "BaseException",.type "object"] "ValueError.__new__" mg base:=uq KB GB b4 c4;have a4:dD K mg base "NoPlace" := ⟨_,_,_,_,_,m3,FW,b4⟩;have G11:=r6 (P:=l.prog) (w:=w) (base:=base) D0 T;have G44:=mQ (P:=l.prog) (w:=w) (base:=base) D8 T;have G54:=i7 (P:=l.prog) (w:=w) (base:=base) D10 T
 have G14:=rW (P:=l.prog) (w:=w) (base:=base) D11 T;have G38:=mW (P:=l.prog) (w:=w) (base:=base) D19 T;have G51:=jG (P:=l.prog) (w:=w) (base:=base) D20 T;have G48:=ko (P:=l.prog) (w:=w) (base:=base) D22 T;have G25:=qe (P:=l.prog) (w:=w) (base:=base) D31 T;have G12:=rZ (P:=l.prog) (w:=w) (base:=base) D33 T;have G27:=qc (P:=l.prog) (w:=w) (base:=base) D34 T;have G43:=mR (P:=l.prog) (w:=w) (base:=base) D44 T;have G42:=mS (P:=l.prog) (w:=w) (base:=base) D45 T;have G30:=oz (P:=l.prog) (w:=w) (base:=base) D47 T;have G45:=lK (P:=l.prog) (w:=w) (base:=base) D50 T;have G17:=qm (P:=l.prog) (w:=w) (base:=base) D51 T;have G36:=mY (P:=l.prog) (w:=w) (base:=base) D52 T;have G47:=lI (P:=l.prog) (w:=w) (base:=base) D1 T G11;have G34:=oo (P:=l.prog) (w:=w) (base:=base) D7 T G44;have G0:=wQ (P:=l.prog) (w:=w) (base:=base) D21 T G51 G48;have G2:=uu (P:=l.prog) (w:=w) (base:=base) D24 T G14;have G32:=ot (P:=l.prog) (w:=w) (base:=base) D35 T G12 G27;have G26:=qd (P:=l.prog) (w:=w) (base:=base) D36 T G12;have G31:=ou (P:=l.prog) (w:=w) (base:=base) D37 T G27;have G20:=qj (P:=l.prog) (w:=w) (base:=base) D38 T G27;have G6:=sj (P:=l.prog) (w:=w) (base:=base) D39 T G27 G12;have G40:=mU (P:=l.prog) (w:=w) (base:=base) D43 T G43 G42 i4;have G16:=qo (P:=l.prog) (w:=w) (base:=base) D53 T G17;have G49:=kn (P:=l.prog) (w:=w) (base:=base) D2 T G47;have G23:=qg (P:=l.prog) (w:=w) (base:=base) D3 T G47;have G10:=r8 (P:=l.prog) (w:=w) (base:=base) D5 T G47;have G53:=jE (P:=l.prog) (w:=w) (base:=base) D15 T G34;have G22:=qh (P:=l.prog) (w:=w) (base:=base) D29 T G47
 have G46:=lJ (P:=l.prog) (w:=w) (base:=base) D30 T G47;have G35:=om (P:=l.prog) (w:=w) (base:=base) D40 T G6;have G55:=il (P:=l.prog) (w:=w) (base:=base) D54 T G16;have G15:=rV (P:=l.prog) (w:=w) (base:=base) D4 T G10;have G33:=oq (P:=l.prog) (w:=w) (base:=base) D9 T G54 G49 G14;have G13:=rX (P:=l.prog) (w:=w) (base:=base) D16 T G53;have G18:=ql (P:=l.prog) (w:=w) (base:=base) D18 T G49;have G8:=sd (P:=l.prog) (w:=w) (base:=base) D23 T G51 G10 G2 a4;have G19:=qk (P:=l.prog) (w:=w) (base:=base) D28 T G22 G46 b2;have G3:=ut (P:=l.prog) (w:=w) (base:=base) D32 T G32 G26 G31 G20 G35 G6;have G1:=wP (P:=l.prog) (w:=w) (base:=base) D6 T G23 G15;have G37:=mX (P:=l.prog) (w:=w) (base:=base) D12 T G33 g3;have G5:=sk (P:=l.prog) (w:=w) (base:=base) D17 T G18 G38;have G21:=qi (P:=l.prog) (w:=w) (base:=base) D26 T G19 G25 G3;have G41:=mT (P:=l.prog) (w:=w) (base:=base) D46 T G30 G13;have G50:=jH (P:=l.prog) (w:=w) (base:=base) D55 T G8;have G24:=qf (P:=l.prog) (w:=w) (base:=base) D13 T G37;have G4:=ur (P:=l.prog) (w:=w) (base:=base) D27 T G21 G1 G25 G3 i4;have G9:=r9 (P:=l.prog) (w:=w) (base:=base) D49 T G1 G27;have G52:=jF (P:=l.prog) (w:=w) (base:=base) D14 T G24 g3;have G28:=qb (P:=l.prog) (w:=w) (base:=base) D41 T G4 G41 G40;have G29:=oA (P:=l.prog) (w:=w) (base:=base) D42 T G4 G40 i4;have G39:=mV (P:=l.prog) (w:=w) (base:=base) D48 T G9;have G7:=se (P:=l.prog) (w:=w) (base:=base) D25 T G51 G52 G48;exact ok_law (P:=l.prog) (w:=w) (base:=base) (uK lL cL kL) T G45 G36 G55 G4 G28 G0 G5 G50 G39 G29 G7
end K74
open PySem PySem.W PyProof.Rows
namespace PySem.W.Fast
def tw5105673956185107153:=0
def tw9296360433889664002:=0
def tw16968176118458789586:=0
def tw9497945907656264259:=0
def tw9515242367644423802:=0
def tw13698048360955963301:=0
def tw10426125643436316091:=0
def tw10199354318988768051:=0
def tw6397798872860733234:=0
def tw4621932581444047675:=0
def tw13402640891724300857:=0
def tw17643754061406199020:=0
def tw11187973929812520656:=0
def tw4584130408075211490:=0
def tw10667965978278278033:=0
def tw9601000219436670146:=0
def tw15452572443179084588:=0
def tw9156678896304099913:=0
def tw15886500619415505586:=0
def tw3520363519792060846:=0
def tw4419873286371483742:=0
def tw13436231055378572716:=0
def tw15221209806709932071:=0
def tw11930311979851757478:=0
def tw12798869161161681673:=0
def tw10209164474934016114:=0
def tw9774394379856643515:=0
def tw2257529940240947247:=0
def tw12533650973541477374:=0
def tw9840342860782594374:=0
def tw3101917741504857134:=0
def tw16002967266952078866:=0
def tw17704188385166749297:=0
def tw7523194637212750777:=0
def tw4361700775904427359:=0
def tw7498633149979677338:=0
def tw3092117133297227249:=0
def tw10299302589577801163:=0
def tw13840814423707232359:=0
def tw15515405784836723652:=0
def tw9563574807059059695:=0
def tw17624731456758155189:=0
def tw2947586027576077979:=0
def tw4157206338815638501:=0
def tw11630328935867623959:=0
def tw5587826856885255690:=0
def tw1349388230604553621:=0
def tw16915470645016011554:=0
def tw16472409268878238316:=0
def tw10700183255674453818:=0
def tw8164005668110941744:=0
def tw3764688243253525356:=0
def tw16352712142591305040:=0
def tw13426244417702134072:=0
def tw742405457713269000:=0
def tw5681066748535004433:=0
def tw234749781942434899:=0
def tw529536973988259948:=0
def tw1906743188756502811:=0
def tw7875376050956498882:=0
def tw8426798971799828003:=0
def tw10335527622381539264:=0
def tw14501001857826371202:=0
def tw4026151001005817321:=0
def tw5030944203280556702:=0
def tw7328447075739424539:=0
def tw13517250619966689955:=0
def tw8933567498414919238:=0
def tw5623994078177797194:=0
def tw14191745827877185554:=0
def tw5312734613080425828:=0
def tw12106905011117388788:=0
def tw17849293660312457548:=0
def tw16364373167927100580:=0
def tw14613296582639449008:=0
def tw12018387782679925087:=0
def tw1862469404965250517:=0
def tw16745343075639119971:=0
def tw16749348522385944071:=0
def tw12996339429388188178:=0
def tw69414778264802052:=0
def tw11627183963262164719:=0
def tw16550838102048051623:=0
def tw7537285074954141530:=0
def tw7215932318001415403:=0
def tw12300527617525357084:=0
def tw734138898119960010:=0
def tw16950569574821323974:=0
def tw3172541193896328996:=0
def tw4843473975253519250:=0
def tw16172578528114110199:=0
def tw6012122021747098740:=0
def tw3307598998989760257:=0
def tw8789256864460932259:=0
def tw15622835117965313283:=0
def tw5388663596951873645:=0
def tw11849525312028181438:=0
def tw10785849952161257653:=0
def tw15943592676296772274:=0
def tw7317576523658780031:=0
def tw8621301723031713458:=0
def tw17312996333117680517:=0
def tw4248988804066548162:=0
def tw3414106826494052011:=0
def tw12068798485007620914:=0
def tw2625098255110226060:=0
def tw12941643214049860704:=0
def tw13056512690104125533:=0
def tw8934421753687110507:=0
def tw4203021270051977171:=0
def tw11418939547134857076:=0
def tw3094701115853657799:=0
def tw1385777081429181588:=0
def tw16279701975793424917:=0
def tw3857615796733700780:=0
def tw15508019666092448443:=0
def tw804092199982636349:=0
def tw13829591483307370896:=0
def tw2133357390318303931:=0
def tw17969941481158815411:=0
def tw16469568281967520401:=0
def tw15213048550514571353:=0
def tw17334881123488906936:=0
def tw1165732905965986049:=0
def tw4033379813872489195:=0
def tw14712817762504950641:=0
def tw8903238766108814736:=0
def tw539595736760451978:=0
def tw16149030986926176842:=0
def tw11622863634709415212:=0
def tw1820406046763328738:=0
def tw8436589768386056944:=0
def tw3103751414666246812:=0
def tw10097012582147076362:=0
def tw1147522009701800784:=0
def tw9192171586001469603:=0
def tw9455475090630465045:=0
def tw17004574920194074796:=0
def tw2766794811542550618:=0
def tw7825248364748044718:=0
def tw17845374550828520631:=0
def tw17619882183920601743:=0
def tw14439765378166140033:=0
def tw8454840944936950519:=0
def tw18221076124747093969:=0
def tw10752687858943698738:=0
def tw7470021291188754609:=0
def tw17601101962401091345:=0
def tw16629561534657121264:=0
def tw14864845329073380503:=0
def tw7586693836618795562:=0
def tw12059592832596718669:=0
def tw16118103595353321548:=0
def tw10746989603658154836:=0
def tw11905978938385298303:=0
def tw12976177241038019767:=0
def tw13231743877010270464:=0
def tw14566440943485919492:=0
def tw14374603453287560736:=0
def tw14678158920106854735:=0
def tw14790834132378566595:=0
def tw8839083969933755074:=0
def tw8369868683130302868:=0
def tw802917404587063742:=0
def tw5488966160659634681:=0
def tw12221415409051222339:=0
def tw9685044298169568939:=0
def tw15845117809764550140:=0
def tw6664951462986138201:=0
def tw3241244739717862871:=0
def tw15679247252792206210:=0
def tw8160871880118814707:=0
def tw6951939212644042833:=0
def tw7805864855692585105:=0
def tw9715166753854553471:=0
def tw5613845454599061817:=0
def tw15431134087688302020:=0
def tw9508736203920968164:=0
def tw5759927347364260171:=0
def tw6585068141940680455:=0
def tw11990459337992974956:=0
def tw11980157197973918583:=0
def tw4952506757814975653:=0
def tw13300952022263913132:=0
def tw5036445103931068615:=0
def tw517312751163448032:=0
def tw10780761586765376359:=0
def tw13792483299354683862:=0
def tw4954584648838934644:=0
def tw217222266210458990:=0
def tw6511239469406747073:=0
def tw11002848052431835627:=0
def tw11973505968982382900:=0
def tw11289143093466461953:=0
def tw16919330064296535691:=0
def tw13989995598129119793:=0
def tw9516800180062724845:=0
def tw1948689806639624469:=0
def tw2852278927748849453:=0
def tw5427499738942290107:=0
def tw10042499479572932358:=0
def tw6731276024794131016:=0
def tw4626940704210403192:=0
def tw14015890951069844909:=0
def tw17996964024917085871:=0
def tw3992908553847606798:=0
def tw7042659310547366237:=0
def tw10015853644003576960:=0
def tw931956834028986255:=0
def tw13078823862939028812:=0
def tw17857563459279650048:=0
def tw4211952112222678748:=0
def tw8864380892348041232:=0
def tw7388713464098733815:=0
def tw12434779806091606683:=0
def tw13218621648322568166:=0
def tw14495299557687959983:=0
def tw12184380411685104690:=0
def tw4475145619620083286:=0
def tw10693841506766600124:=0
def tw5354334518347375462:=0
def tw3555141088238359772:=0
def tw5485572742587201778:=0
def tw11081772624950168284:=0
def tw17093224777342109595:=0
def tw8237626310708396552:=0
def tw4211700434839312001:=0
def tw17837415989878807268:=0
def tw9585978970863474492:=0
def tw4674102799890499726:=0
def tw11386625637836781638:=0
def tw6315216371427503177:=0
def tw15862806813707239167:=0
def tw5260856337621036202:=0
def tw8824595633291508535:=0
def tw1611551182742943237:=0
def tw14199714164133228370:=0
def tw9761588102954696855:=0
def tw14805814515597417852:=0
def tw726985913927333873:=0
def tw2385268686561707046:=0
def tw2335157872551914648:=0
def tw2927799364441409784:=0
def tw729466047920990731:=0
def tw15137687247720179910:=0
def tw8605165415444627158:=0
def tw13553050674002434610:=0
def tw7097827964152542560:=0
def tw15632992782082381434:=0
def tw5661640270340304354:=0
def tw3904583755211930517:=0
def tw17119971604622065936:=0
def tw2648174423076098445:=0
def tw7317234293075219:=0
def tw10069975712529536831:=0
def tw4425046354534653865:=0
def tw2969480146181677978:=0
def tw18431155831084640082:=0
def tw14722794537435163219:=0
def tw11069628954808310989:=0
def tw7942853410682446962:=0
def tw17698735102306075112:=0
def tw317932667124481529:=0
def tw11118301316682269745:=0
def tw15078095837771203109:=0
def tw11188117447681078326:=0
def tw4227517698962585424:=0
def tw10235683861645269560:=0
def tw11763852733077360975:=0
def tw8526028360262338249:=0
def tw10052001805573714066:=0
def tw1877378965866140348:=0
def tw306725001281121169:=0
def tw12694589447371642155:=0
def tw17882641709403210578:=0
def tw12067549021546063074:=0
def tw16396790404030501481:=0
def tw15755044616229629136:=0
def tw1647960591809683682:=0
def tw17878424488110687958:=0
def tw4668391469298039243:=0
def tw10015450608781386451:=0
def tw3345597093286824917:=0
def tw8174591469460913490:=0
def tw5680315236850328200:=0
def tw15223397061033166810:=0
def tw7343611390307366373:=0
def tw7340446101256811000:=0
def tw3121739546393284973:=0
def tw14323227155912201964:=0
def tw14734032772098568817:=0
def tw8553059368797141306:=0
def tw2962324470309885386:=0
def tw16266442582153907279:=0
def tw8667492640987031791:=0
def tw11320351676317602388:=0
def tw6793172497655745189:=0
def tw6905212232875527693:=0
def tw13952158723898717365:=0
def tw18012574323051992567:=0
def tw5310652868755799522:=0
def tw8079883169468671255:=0
def tw7524379617451308511:=0
def tw18167724695441219349:=0
def tw12392129776423771058:=0
def tw7449380015497254634:=0
def tw4968929673044707356:=0
def tw13887902116395311400:=0
def tw4123384860583450000:=0
def tw16299953051713170110:=0
def tw1391549112126926301:=0
def tw10846345724684618374:=0
def tw13055661147411815287:=0
def tw3934833063311361131:=0
def tw7076977106511060911:=0
def tw274189353798237994:=0
def tw2873748437651673626:=0
def tw10896712999787139778:=0
def tw16655083059833703075:=0
def tw5979879043188829338:=0
def tw14029171239946634462:=0
def tw6771182271545134960:=0
def tw3664731896753646195:=0
def tw8891557043749499067:=0
def tw6873971014812347169:=0
def tw4340971767527515617:=0
def tw10497823618577955822:=0
def tw644751248652905101:=0
def tw13508602156133886167:=0
def tw2680141511932349947:=0
def tw897888412878121761:=0
def tw14279065940840616024:=0
def tw7806371153506077241:=0
def tw10131873952172028942:=0
def tw4038909232737020655:=0
def tw18329075359065952542:=0
def tw1267704075650749254:=0
def tw16463793508043411602:=0
def tw5587484289544270231:=0
def tw8131721106225051767:=0
def tw3808584094389355786:=0
def tw15261137711255440680:=0
def tw10800367221633172730:=0
def tw4177351759533223642:=0
def tw2202087279664922802:=0
def tw16925118299729312639:=0
def tw3471986238504059686:=0
def tw17084317755948004794:=0
def tw5363195699714531557:=0
def tw1567247161763788871:=0
def tw835821947353785074:=0
def tw18182889222666715495:=0
def tw7894344252036594922:=0
def tw7090585071989052306:=0
def tw5845538515087863352:=0
def tw438459731153329746:=0
def tw4188684199736651882:=0
def tw17338234738716814015:=0
def tw6623812351622530092:=0
def tw1998032249293215463:=0
def tw704147369595269066:=0
def tw9161490523856799436:=0
def tw6760056911573607715:=0
def tw7618804249908900691:=0
def tw11300376045408061371:=0
def tw18277388166739348960:=0
def tw3133745999044795564:=0
def tw671769174312181376:=0
def tw670427922429333600:=0
def tw10354477200866600673:=0
def tw7395645310213146516:=0
def tw12079628635447562283:=0
def tw6252695792229605141:=0
def tw10393078302967963895:=0
def tw6205024481829086969:=0
def tw16884622931589843948:=0
def tw5015507407206683207:=0
def tw8621336744817483243:=0
def tw10412780308102683651:=0
def tw14064692534454641163:=0
def tw11347631108264317165:=0
def tw5425125011635884837:=0
def tw11586196018267737339:=0
def tw17590088832654516399:=0
def tw14398365135244066966:=0
def tw6606014719576569030:=0
def tw6999941293234460784:=0
def tw10241233070082051121:=0
def tw17960406059949683352:=0
def tw8249347019533418915:=0
def tw14112606434462084385:=0
def tw1173414789623836638:=0
def tw12319047049370110589:=0
def tw7158441374720773216:=0
def tw16286715671046524454:=0
def tw133755455108545178:=0
def tw12514039047250868702:=0
def tw5609530884314319229:=0
def tw6788773261714906821:=0
def tw7945405709010385892:=0
def tw12694112234171929671:=0
def tw2484844197603217540:=0
def tw7717702957765121957:=0
def tw13350131943787299761:=0
def tw2965179421226197397:=0
def tw1354003750591732747:=0
def tw14731147920152588799:=0
def tw11887224372650548316:=0
def tw8078195926588453703:=0
def tw3822784309164373692:=0
def tw12523711969749109062:=0
def tw11970942820725077907:=0
def tw1292346606274980823:=0
def tw14245618210516037357:=0
def tw6784790241324674965:=0
def tw2456577590951144490:=0
def tw12661032092557703082:=0
def tw4636031889025220839:=0
def tw16607927582987124570:=0
def tw13949155002146243131:=0
def tw4589182232624314844:=0
def tw15250815165864183617:=0
def tw16970792351503237766:=0
def tw14949513074056673275:=0
def tw13323373534744806615:=0
def tw15854262060937163188:=0
def tw17960848765466677729:=0
def tw7910172739516966087:=0
def tw5713610079918043996:=0
def tw18042889414512086050:=0
def tw3016012700857477809:=0
def tw3942624392001961204:=0
def tw5738919822854818926:=0
def tw2450569374399577549:=0
def tw6662249597110656733:=0
def tw11843833423457600547:=0
def tw15536387163757344236:=0
def tw17108046237660401759:=0
def tw16504757533647375273:=0
end PySem.W.Fast
open_top head for PySem.Challenge.rw_tienumbers_k74_whole_cuts_and_places
set_option maxRecDepth 100000 in
set_option maxHeartbeats 0 in
theorem PySem.Challenge.cw_tienumbers_k74_whole_cuts_and_places_holds : PySem.Challenge.rw_tienumbers_k74_whole_cuts_and_places.Holds := by
 refine head ?_
 k_fill
 refine L2.AO (l:=PySem.Challenge.rw_tienumbers_k74_whole_cuts_and_places) (n:=63) (k:=9) (x := "script") (CX:=fun w=>L2.CXr (PySem.Challenge.rw_tienumbers_k74_whole_cuts_and_places).prog w) (sp:=fun w=>L2.spF _ none K74.sU) rfl (by decide) rfl ⟨rfl,by decide,by decide,rfl⟩ (fun w h Y=>PySem.W.kIn_of Y) ?F (fun _ _ a ns hl _ hS=>L2.A9 ⟨_,K74.law_ok ns⟩ hS) fun _ _ _ _ _ z=>L2.xq z
 case F =>
  intro w mg fa h KX G hmg;refine' K74.all_mk KX G hmg ?_ ?_ ?_ ?_ ?_ ?_ ?_ ?_ ?_ ?_ ?_ ?_ ?_ ?_ ?_ ?_ ?_ ?_ ?_ ?_ ?_ ?_ ?_ ?_ ?_ ?_ ?_ ?_ ?_ ?_ ?_ ?_ ?_ ?_ ?_ ?_ ?_ ?_ ?_ ?_ ?_ ?_ ?_ ?_ ?_ ?_ ?_ ?_ ?_ ?_ ?_ ?_ ?_ ?_ ?_ ?_ ?_ ?_ ?_ ?_ ?_ ?_ ?_ ?_ ?_ ?_ ?_ ?_ ?_ ?_ ?_ ?_ ?_ ?_ ?_ ?_ ?_ ?_ ?_ ?_ ?_ ?_ ?_ ?_ ?_ ?_ ?_ ?_ ?_ ?_ ?_ ?_ ?_ ?_ ?_
  all_goals first | (apply K74.din_mk<;>k_is) | k_is | k_exc | decide | skip
end
