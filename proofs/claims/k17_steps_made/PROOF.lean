import PyProof.Rows.All
import Wide.All
import OpenK.AllK
import Wide.FinOn
import Lean
import PyProof.EqAt
import PyProof.EqKinds
import PyProof.TupleCall
import PyProof.CallFns
import PyProof.Draws
import PyProof.EnumMake
import PyProof.ExcArgsOwn
import PyProof.FactsAll.dict_1
import PyProof.FactsAll.dict_4
import PyProof.FactsAll.subtypes_4
import PyProof.FactsAll.tuple_2
import PyProof.ListMulRoad
import PyProof.ListRange
import PyProof.MaxThree
import PyProof.NeKinds
import PyProof.ReprRoads
import PyProof.Rows.CallKwBuiltin
import PyProof.Rows.EnumRows
import PyProof.Rows.SetFrom
import PyProof.Rows.SortRev
import PyProof.TupleOfStr
import PySem.Challenge.RW_tienumbers_k17_steps_made
set_option Elab.async false
set_option linter.all false
set_option maxRecDepth 100000
set_option maxHeartbeats 4000000
noncomputable section
section
open PySem PySem.Spec PyProof.Rows
abbrev Dj:=@wpAny_bind
abbrev Dk:=@Heap.get?_push_of_some
abbrev Dl:=@List.mem_append_right
abbrev Dm:=@List.getElem?_eq_getElem
abbrev Do:=@List.length_map
abbrev Dp:=@List.mem_append_left
abbrev Dq:=@List.length_cons
abbrev Dr:=@List.mem_cons_of_mem
abbrev Ds:=@wpAny_pure
abbrev Du:=@List.size_toArray
abbrev Dv:=@List.mem_cons_self
abbrev Dw:=@Heap.get?_push_size
abbrev Dx:=@Heap.lt_size
abbrev Dy:=@Nat.le_refl
abbrev Dz:=@List.mem_cons
abbrev DA:=@List.getElem?_eq_some_iff
abbrev DB:=@Bool.false_ne_true
abbrev DC:=@List.mem_singleton
abbrev DD:=@List.mem_of_getElem?
abbrev DE:=@List.map_cons
abbrev DF:=@decide_eq_true
abbrev DG:=@List.mem_append
abbrev DH:=@of_decide_eq_true
abbrev DI:=@List.length_append
abbrev DJ:=@List.all_eq_true
abbrev DK:=@Bool.and_eq_true
abbrev DL:=@Nat.ne_of_lt
abbrev DM:=@List.getElem?_map
abbrev DN:=@List.getElem?_cons_zero
abbrev DO:=@decide_eq_false
abbrev DP:=@List.getD_eq_getElem?_getD
abbrev DQ:=@List.getElem?_append_left
abbrev DR:=@List.getElem?_cons_succ
abbrev DS:=@List.length_pos_iff
abbrev DT:=@Nat.lt_of_lt_of_le
abbrev DU:=@PySem.W.mg_none_of
abbrev DV:=@List.getElem?_set_ne
abbrev DW:=@List.append_nil
abbrev DX:=@List.nil_append
abbrev DY:=@Heap.size_push
abbrev DZ:=@wpAny_pyIter_tuple
abbrev Ea:=@wpAny_callSpecial?_slot
abbrev Eb:=@List.map_map
abbrev Ec:=@List.map_append
abbrev Ed:=@List.map_congr_left
abbrev Ee:=@Option.map_eq_some_iff
abbrev Ef:=@List.cons_append
abbrev Eg:=@wpAny_newObj_type
abbrev Eh:=@List.append_assoc
abbrev Ei:=@Array.getD_eq_getD_getElem?
abbrev Ej:=@List.pairwise_cons
abbrev Ek:=@List.getElem?_append_right
abbrev El:=@PySem.W.mg_of
abbrev Em:=@Array.length_toList
abbrev En:=@wpAny_call_entry
abbrev Eo:=@decide_eq_true_eq
abbrev Ep:=@Nat.zero_add
abbrev Er:=@List.nodup_cons
abbrev Es:=@List.mem_filter
abbrev Et:=@List.mem_range
abbrev Eu:=@Nat.le_trans
abbrev Ev:=@List.mem_map
abbrev Ew:=@List.getElem?_set_self
abbrev Ex:=@List.length_set
abbrev Ey:=@PySem.mem_of_lookup
abbrev Ez:=@List.replicate_succ
abbrev EA:=@wpAny_mono
abbrev EB:=@List.length_replicate
abbrev EC:=@Heap.get?_update_self
abbrev ED:=@wpAny_loadPart'
abbrev EE:=@wpAny_field
abbrev EF:=@List.set_cons_zero
abbrev EG:=@List.set_cons_succ
abbrev EH:=@List.length_nil
abbrev EI:=@List.not_mem_nil
abbrev EJ:=@List.getElem_mem
abbrev EK:=@wpAny_truthy_bool
abbrev EL:=@Nat.lt_succ_of_lt
abbrev EM:=@List.sum_cons
abbrev EN:=@Bool.and_false
abbrev EO:=@Bool.false_eq_true
abbrev EQ:=@wpAny_holding
abbrev ER:=@PySem.F.plainAttrs_list
abbrev ES:=@List.map_nil
abbrev ET:=@List.length_range
abbrev EU:=@List.length_take
abbrev EV:=@Nat.le_of_lt
abbrev EW:=@Bool.and_true
abbrev EY:=@Array.getElem?_toList
abbrev EZ:=@wpAny_setField
abbrev E1:=@Array.getElem?_eq_getElem
abbrev E2:=@List.mem_iff_getElem
abbrev E3:=@wpAny_pyIter_list
abbrev E4:=@List.length_zip
abbrev E5:=@List.flatten_cons
abbrev E6:=@Bool.eq_iff_iff
abbrev E7:=@Nat.ne_of_gt
abbrev E8:=@beq_eq_false_iff_ne
abbrev E9:=@Nat.zero_le
abbrev Fa:=@List.perm_iff_count
abbrev Fb:=@List.getElem?_replicate
abbrev Fc:=@wpAny_typeNameOfWhole_keyiter
abbrev Fd:=@Nat.lt_succ_self
abbrev Fe:=@List.lookup_cons
abbrev Ff:=@Heap.get?_update_other
abbrev Fg:=@wpAny_passesOwn
abbrev Fh:=@Nat.min_self
abbrev Fi:=@List.Perm.of_eq
abbrev Fj:=@Bool.true_and
abbrev Fk:=@Bool.false_or
abbrev Fl:=@wpAny_seqItems
abbrev Fm:=@List.ne_nil_of_length_pos
abbrev Fn:=@Bool.false_and
abbrev Fo:=@List.ext_getElem
abbrev Fp:=@PySem.W.hideAll_get
abbrev Fq:=@List.flatMap_append
abbrev Fs:=@wpAny_typeNameOf_keyiter
abbrev Ft:=@PySem.F.type_list_append
abbrev Fu:=@PySem.F.slot_list_append
abbrev Fv:=@Bool.or_true
abbrev Fw:=@wpAny_Call_Name_kw
abbrev Fy:=@of_decide_eq_false
abbrev Fz:=@Nat.lt_irrefl
abbrev FA:=@List.zip_cons_cons
abbrev FC:=@List.find?_cons
abbrev FD:=@Bool.or_false
abbrev FE:=@Bool.or_eq_true
abbrev FF:=@List.nodup_append
abbrev FG:=@Int.toNat_natCast
abbrev FH:=@List.nodup_nil
abbrev FI:=@Nat.sub_self
abbrev FJ:=@List.getElem?_eq_none
abbrev FK:=@Bool.true_or
abbrev FL:=@Nat.le_add_right
abbrev FM:=@Int.mul_le_mul_of_nonneg_left
abbrev FN:=@wpAny_newList
abbrev FO:=@List.all_cons
abbrev FP:=@wpAny_execs_nil
abbrev FQ:=@List.of_mem_zip
abbrev FR:=@List.getElem_of_mem
abbrev FT:=@List.forIn_cons
abbrev FU:=@List.filterMap_cons
abbrev FV:=@Obj.data_mapFields
abbrev FW:=@List.mem_filterMap
abbrev FX:=@wpAny_runValue
abbrev FY:=@List.getElem?_zip_eq_some
abbrev FZ:=@PySem.W.Frag
end
namespace L2
open PySem PySem.Spec PyProof.Rows
abbrev Key:=Sum Int Str
noncomputable def o4:Key->Value->Bool
 | .inl k,v=>Value.isInt k v
 | .inr x,v=>Value.isStrOf x v
noncomputable def keyH(w:World):Key->Int
 | .inl k=>hashInt k
 | .inr x=>hashStr w x
theorem bu:∀ {k:Key} {v:Value},o4 k v=true->(∃ i t,k=Sum.inl i/\v=Value.int i t)\/(∃ x t,k=Sum.inr x/\v=Value.str x t)
 | .inl i,v,h=>by
  obtain ⟨t,e⟩:=Value.isInt_shape (k:=i) (v:=v) h;exact .inl ⟨i,t,rfl,e⟩
 | .inr x,v,h=>by
  obtain ⟨t,e⟩:=Value.isStrOf_shape (x:=x) (v:=v) h;exact .inr ⟨x,t,rfl,e⟩
theorem wE(i:Int)(t:Tok):o4 (.inl i) (.int i t)=true:=by simp [o4,Value.isInt]
theorem wD(x:Str)(t:Tok):o4 (.inr x) (.str x t)=true:=by simp [o4,Value.isStrOf]
theorem key_ll(a b:Int):decide ((Sum.inl a:Key)=Sum.inl b)=(a == b):=by
 by_cases e:a=b
 ·subst e;simp
 ·have h:¬ (Sum.inl a:Key)=Sum.inl b:=fun q=>e (Sum.inl.inj q)
  rw [DO h];exact (E8.mpr e).symm
theorem key_rr(a b:Str):decide ((Sum.inr a:Key)=Sum.inr b)=decide (a=b):=by
 by_cases e:a=b
 ·subst e;simp
 ·have h:¬ (Sum.inr a:Key)=Sum.inr b:=fun q=>e (Sum.inr.inj q)
  rw [DO h,DO e]
theorem key_lr(a:Int)(b:Str):decide ((Sum.inl a:Key)=Sum.inr b)=false:=DO (fun q=>nomatch q)
theorem key_rl(a:Str)(b:Int):decide ((Sum.inr a:Key)=Sum.inl b)=false:=DO (fun q=>nomatch q)
noncomputable def aV(prog:Program)(w:World):PySem.KeyKind prog w Key where
 is:=o4
 hash:=keyH w
 inj:=fun v a b ha hb=>by
  rcases bu ha with ⟨i,t,rfl,rfl⟩ | ⟨x,t,rfl,rfl⟩
  ·rcases bu hb with ⟨j,u,rfl,e⟩ | ⟨y,u,rfl,e⟩
   ·injection e with e1 _;rw [e1]
   ·exact nomatch e
  ·rcases bu hb with ⟨j,u,rfl,e⟩ | ⟨y,u,rfl,e⟩
   ·exact nomatch e
   ·injection e with e1 _;rw [e1]
 byValue:=fun k v h=>by
  rcases bu h with ⟨i,t,rfl,rfl⟩ | ⟨x,t,rfl,rfl⟩<;>rfl
 pyHash:=fun hv h=>by
  rcases bu hv with ⟨i,t,rfl,rfl⟩ | ⟨x,t,rfl,rfl⟩
  ·exact wpAny_pyHash_int h
  ·exact wpAny_pyHash_str h
 eqBool:=fun hu hv h=>by
  rcases bu hu with ⟨i,t,rfl,rfl⟩ | ⟨x,t,rfl,rfl⟩
  ·rcases bu hv with ⟨j,u,rfl,rfl⟩ | ⟨y,u,rfl,rfl⟩
   ·rw [key_ll] at h;exact wpAny_eqBool_int h
   ·rw [key_lr] at h;exact SeqAt.EqAt.int_str i t y u _ _ _ _ h
  ·rcases bu hv with ⟨j,u,rfl,rfl⟩ | ⟨y,u,rfl,rfl⟩
   ·rw [key_rl] at h;exact SeqAt.EqAt.str_int x t j u _ _ _ _ h
   ·rw [key_rr] at h;exact wpAny_eqBool_str h
 «strs»:=fun k x t v h=>by
  rcases bu h with ⟨i,u,rfl,e⟩ | ⟨y,u,rfl,e⟩
  ·exact nomatch e
  ·injection e with e1 _
   subst e1;cases v<;>rfl
theorem sj(prog:Program)(w:World)(i:Int)(t:Tok):(aV prog w).is (.inl i) (.int i t)=true:=wE i t
theorem eW(prog:Program)(w:World)(x:Str)(t:Tok):(aV prog w).is (.inr x) (.str x t)=true:=wD x t
inductive V where
 | non | bl (b:Bool) | int (i:Int) | str (x:Str) | byt (b:Array UInt8) | flt (b:UInt64) | ref (a:Addr) | ty (n:String)
 deriving DecidableEq
noncomputable def aG:V->Value->Prop
 | .non,u=>u=Value.none
 | .bl b,u=>u=Value.bool b
 | .int i,u=>∃ t,u=Value.int i t
 | .str x,u=>∃ t,u=Value.str x t
 | .byt b,u=>∃ t,u=Value.bytes b t
 | .flt b,u=>∃ t,u=Value.float b t
 | .ref a,u=>u=Value.ref a
 | .ty n,u=>u=Value.type n
abbrev aC:List V->List Value->Prop:=Paired aG
theorem aC.length{xs:List V}{us:List Value}(r:aC xs us):xs.length=us.length:=Paired.length r
theorem aC.get:∀ {xs:List V} {us:List Value} {i:Nat} {x:V},aC xs us->xs[i]?=some x->∃ u,us[i]?=some u/\aG x u
 | _,_,_,_,.nil,e=>by simp at e
 | _,_,0,_,.cons r _,e=>by simp at e;subst e;exact ⟨_,rfl,r⟩
 | _,_,i+1,x,.cons _ t,e=>by
  obtain ⟨u,h1,h2⟩:=aC.get (i:=i) (x:=x) t (by simpa using e);exact ⟨u,by simpa using h1,h2⟩
theorem aC.set{x:V}{u:Value}(r:aG x u):∀ {xs:List V} {us:List Value} (i:Nat),aC xs us->aC (xs.set i x) (us.set i u)
 | _,_,_,.nil=> .nil
 | _,_,0,.cons _ t=> .cons r t
 | _,_,i+1,.cons q t=> .cons q (aC.set r i t)
theorem aC.append:∀ {xs ys:List V} {us ws:List Value},aC xs us->aC ys ws->aC (xs++ys) (us++ws)
 | _,_,_,_,.nil,s=>s
 | _,_,_,_,.cons r t,s=> .cons r (aC.append t s)
theorem aC.take:∀ {xs:List V} {us:List Value} (n:Nat),aC xs us->aC (xs.take n) (us.take n)
 | _,_,0,_=> .nil
 | _,_,_+1,.nil=> .nil
 | _,_,n+1,.cons r t=> .cons r (aC.take n t)
theorem aC.drop:∀ {xs:List V} {us:List Value} (n:Nat),aC xs us->aC (xs.drop n) (us.drop n)
 | _,_,0,r=>r
 | _,_,_+1,.nil=> .nil
 | _,_,n+1,.cons _ t=>aC.drop n t
noncomputable def nU:Option V->Option Value->Prop
 | some v,some u=>aG v u
 | none,none=>True
 | _,_=>False
noncomputable def KV{κ:Type}:List (κ×V)->List (κ×Value)->Prop:=Paired fun (p:κ×V) (q:κ×Value)=>p.1=q.1/\aG p.2 q.2
noncomputable def kV:Key->V
 | .inl i=> .int i
 | .inr x=> .str x
inductive HO where
 | lst (xs:List V)
 | tup (xs:List V)
 | dK (kvs:List (Key×V)) | dT (kvs:List (List Key×V))
 | set (S:Int->Bool) (n:Nat)
 | ins (C dx:Addr) (fs:List (Str×V))
 | own (x:Addr)
 | xd (fs:List (Str×V))
 | met (f x:Addr)
 | rng (lo hi:Int)
 | frz (o:Obj) (u:HO)
 | tbl (ps:Array Value)
 | ext (φ:Heap->Prop)
abbrev Hp:=Addr->Option HO
noncomputable def upd(H:Hp)(a:Addr)(o:HO):Hp:=fun b=>if b=a then some o else H b
theorem ao{H:Hp}{a:Addr}{o:HO}:upd H a o a=some o:=by unfold upd;rw [if_pos rfl]
theorem am{H:Hp}{a b:Addr}{o:HO}(h:b≠a):upd H a o b=H b:=by unfold upd;rw [if_neg h]
theorem AG{H:Hp}{a:Addr}{o u:HO}:upd (upd H a o) a u=upd H a u:=by
 funext b;unfold upd;split<;>rfl
theorem ne_of{H:Hp}{a b:Addr}{o u:HO}(h:H a=some o)(h':H b=some u)(d:o≠u):a≠b:=by
 intro e;subst e;rw [h] at h';exact d (Option.some.inj h')
theorem aq{H:Hp}{a b:Addr}{o:HO}(h:H a=some o)(h':H b=none):a≠b:=by
 intro e;subst e;rw [h] at h';cases h'
section
variable(P:Program)(w:World)
noncomputable def bA(H:Hp)(h:Heap)(a:Addr):HO->Prop
 | .lst xs=>xs.length<=sizeLine/\∃ (its:List Value) (n:Nat),aC xs its/\h.get? a=some { cls:= .type "list",data:= .seq its.toArray n }
 | .tup xs=>xs.length<=sizeLine/\∃ its:List Value,aC xs its/\IsTup h a its.toArray
 | .dK kvs=>kvs.length<=sizeLine/\(a == sysModules)=false/\∃ vs,KV kvs vs/\h.DictOf (aV P w) a vs
 | .dT kvs=>kvs.length<=sizeLine/\(a == sysModules)=false/\∃ xs:List (List Key×Addr×Value),
  Paired (fun (p:List Key×V) (q:List Key×Addr×Value)=>p.1=q.1/\H q.2.1=some (.tup (p.1.map kV))/\aG p.2 q.2.2) kvs xs /\
  ∃ o es ep,h.get? a=some o/\o.ExactDict/\o.data = .dict es ep/\es.toList=xs.map (entryOfKey (tupleKind (aV P w)))/\(xs.map (·.1)).Nodup
 | .set S n=>h.SetOf (intKind P w) a S n
 | .ins C dx fs=>H dx=some (.own a)/\fs.length<=1000/\dx≠a/\h.get? a=some (PySem.W.instObj C dx) /\
  ∃ mA,h.Ns1 dx mA/\(∀ f,nU (fs.lookup f) (mA f))/\PySem.Within mA (fs.map (·.1))
 | .own _=>∃ o,h.get? a=some o
 | .xd fs=>∃ mA,h.Ns1 a mA/\∀ f,nU (fs.lookup f) (mA f)
 | .rng lo hi=>∃ t u v,h.get? a=some { cls:= .type "range",data:= .fields #[.int lo t,.int hi u,.int 1 v] }
 | .frz o u=>h.get? a=some o/\bA H h a u
 | .tbl ps=>h.get? a=some { cls:= .none,data:= .fields ps }
 | .met f x=>h.get? a=some (PySem.W.methodObj (.ref f) (.ref x))
 | .ext φ=>φ h/\(∃ o,h.get? a=some o)/\∀ h1 h2:Heap,φ h1->(∀ o,h1.get? a=some o->h2.get? a=some o)->φ h2
noncomputable def HOk(H:Hp)(h:Heap):Prop:=∀ a o,H a=some o->bA P w H h a o
end
section
variable{P:Program}{w:World}{H H':Hp}{h h':Heap}{a:Addr}{o:HO}
theorem bA.lt(x:bA P w H h a o):a < h.objs.size:=by
 cases o with
 | lst xs=>obtain ⟨_,_,_,_,e⟩:=x;exact Dx e
 | tup xs=>obtain ⟨_,_,_,p⟩:=x;exact p.lt
 | dK kvs=>obtain ⟨_,_,_,_,o,_,_,e,_⟩:=x;exact Dx e
 | dT kvs=>obtain ⟨_,_,_,_,o,_,_,e,_⟩:=x;exact Dx e
 | set S n=>obtain ⟨o,_,_,_,e,_⟩:=x;exact Dx e
 | ins C dx fs=>obtain ⟨_,_,_,e,_⟩:=x;exact Dx e
 | own y=>obtain ⟨_,e⟩:=x;exact Dx e
 | xd fs=>obtain ⟨_,⟨_,_,_,e,_⟩,_⟩:=x;exact Dx e
 | rng lo hi=>obtain ⟨_,_,_,e⟩:=x;exact Dx e
 | frz ob u=>obtain ⟨e,_⟩:=x;exact Dx e
 | tbl ps=>exact Dx (show h.get? a=some _ from x)
 | met f y=>exact Dx (show h.get? a=some _ from x)
 | ext φ=>obtain ⟨_,⟨_,e⟩,_⟩:=x;exact Dx e
theorem Paired.mapP{α β:Type}{F G:α->β->Prop}:∀ {l₁:List α} {l₂:List β},Paired F l₁ l₂->(∀ a b,F a b->G a b)->Paired G l₁ l₂
 | _,_,.nil,_=> .nil
 | _,_,.cons r t,f=> .cons (f _ _ r) (Paired.mapP t f)
theorem bA.stay(x:bA P w H h a o)(k:∀ b u,(b=a\/H b=some (.own a))->h.get? b=some u->h'.get? b=some u)
 (ho:∀ b,H b=some (.own a)->H' b=some (.own a)) (ht:∀ b xs,H b=some (.tup xs)->H' b=some (.tup xs)):bA P w H' h' a o:=by
 induction o with
 | lst xs=>obtain ⟨z,its,n,r,e⟩:=x;exact ⟨z,its,n,r,k _ _ (.inl rfl) e⟩
 | tup xs=>obtain ⟨z,its,r,ob,e,c⟩:=x;exact ⟨z,its,r,ob,k _ _ (.inl rfl) e,c⟩
 | dK kvs=>obtain ⟨z,y,vs,r,ob,es,ep,e,c⟩:=x;exact ⟨z,y,vs,r,ob,es,ep,k _ _ (.inl rfl) e,c⟩
 | dT kvs =>
  obtain ⟨z,y,xs,r,ob,es,ep,e,c⟩:=x;exact ⟨z,y,xs,Paired.mapP r fun p q z=>⟨z.1,ht _ _ z.2.1,z.2.2⟩,ob,es,ep,k _ _ (.inl rfl) e,c⟩
 | set S n=>obtain ⟨ob,es,ep,t,e,c⟩:=x;exact ⟨ob,es,ep,t,k _ _ (.inl rfl) e,c⟩
 | ins C dx fs =>
  obtain ⟨d,z,ne,e,mA,⟨od,es,ep,e2,c⟩,r⟩:=x;exact ⟨ho _ d,z,ne,k _ _ (.inl rfl) e,mA,⟨od,es,ep,k _ _ (.inr d) e2,c⟩,r⟩
 | own y=>obtain ⟨ob,e⟩:=x;exact ⟨ob,k _ _ (.inl rfl) e⟩
 | xd fs=>obtain ⟨mA,⟨od,es,ep,e,c⟩,r⟩:=x;exact ⟨mA,⟨od,es,ep,k _ _ (.inl rfl) e,c⟩,r⟩
 | rng lo hi=>obtain ⟨t,u,v,e⟩:=x;exact ⟨t,u,v,k _ _ (.inl rfl) e⟩
 | frz ob u ih=>obtain ⟨e,q⟩:=x;exact ⟨k _ _ (.inl rfl) e,ih q⟩
 | tbl ps =>
  have e:h.get? a=some { cls:= .none,data:= .fields ps }:=x
  show h'.get? a=some { cls:= .none,data:= .fields ps }
  exact k a _ (.inl rfl) e
 | met f y =>
  have e:h.get? a=some (PySem.W.methodObj (.ref f) (.ref y)):=x
  show h'.get? a=some (PySem.W.methodObj (.ref f) (.ref y))
  exact k a _ (.inl rfl) e
 | ext φ=>obtain ⟨p,⟨o,e⟩,st⟩:=x;exact ⟨st _ _ p fun o q=>k _ _ (.inl rfl) q,⟨o,k _ _ (.inl rfl) e⟩,st⟩
theorem HOk.lt(x:HOk P w H h)(e:H a=some o):a < h.objs.size:=(x a o e).lt
theorem HOk.fresh(x:HOk P w H h)(e:h.objs.size<=a):H a=none:=by
 cases q:H a with
 | none=>rfl
 | some u=>exact absurd (DT (x.lt q) e) (Fz _)
theorem HOk.kept(x:HOk P w H h)(k:∀ b u,h.get? b=some u->h'.get? b=some u):HOk P w H h':=fun a o e =>
 (x a o e).stay (fun b u _ q=>k b u q) (fun _ q=>q) fun _ _ q=>q
theorem HOk.laid(x:HOk P w H h)(k:∀ b u,h.get? b=some u->h'.get? b=some u)(hp:h.objs.size<=a)(new:bA P w (upd H a o) h' a o):HOk P w (upd H a o) h':=fun b u e=>by
 have hn:=x.fresh hp
 by_cases hb:b=a
 ·subst hb;rw [ao] at e;cases e;exact new
 ·rw [am hb] at e
  exact (x b u e).stay (fun c v _ q=>k c v q) (fun c q=>by rw [am (aq q hn)];exact q) fun c xs q=>by rw [am (aq q hn)];exact q
end
noncomputable def Rd(H:Hp)(a:Addr)(u:HO):Prop:=H a=some u\/∃ o,H a=some (.frz o u)
theorem Rd.ok{P:Program}{w:World}{H:Hp}{h:Heap}{a:Addr}{u:HO}(r:Rd H a u)(x:HOk P w H h):bA P w H h a u:=by
 rcases r with r | ⟨o,r⟩
 ·exact x a u r
 ·obtain ⟨_,q⟩:=x a _ r
  exact q
noncomputable def Mut:Option HO->Prop
 | some (.lst _)=>True
 | some (.dK _)=>True
 | some (.dT _)=>True
 | some (.set _ _)=>True
 | some (.ins _ _ _)=>True
 | some (.ext _)=>True
 | _=>False
section
variable{P:Program}{w:World}{H:Hp}{h h':Heap}{x e:Addr}{o':HO}
theorem HOk.write(ok:HOk P w H h)(mu:Mut (H x))(he:e=x\/H e=some (.own x))(k:∀ b u,b≠e->h.get? b=some u->h'.get? b=some u)(heo:∃ u,h'.get? e=some u)
 (new:bA P w (upd H x o') h' x o'):HOk P w (upd H x o') h':=fun b u q=>by
 have nown:∀ c y,H c=some (.own y)->c≠x:=fun c y r z=>by subst z;rw [r] at mu;exact mu
 have ntup:∀ c xs,H c=some (.tup xs)->c≠x:=fun c xs r z=>by subst z;rw [r] at mu;exact mu
 by_cases hb:b=x
 ·subst hb;rw [ao] at q;cases q;exact new
 ·rw [am hb] at q
  by_cases hbe:b=e
  ·have q':H b=some (.own x):=by
    rcases he with z | z
    ·exact absurd (hbe.trans z) hb
    ·rw [hbe];exact z
   rw [q] at q';cases q';obtain ⟨v,hv⟩:=heo;exact ⟨v,by rw [hbe];exact hv⟩
  ·refine (ok b u q).stay (fun c v hc r=>k c v ?_ r) (fun c r=>by rw [am (nown c b r)];exact r) fun c xs r=>by rw [am (ntup c xs r)];exact r
   rcases hc with rfl | hc
   ·exact hbe
   ·rintro rfl
    rcases he with z | z
    ·exact nown c b hc z
    ·rw [hc] at z;cases z;exact hb rfl
end
structure Un(fs ex:List Addr)(H H':Hp)(h h':Heap):Prop where
 keep:∀ b o,h.get? b=some o->H b=none->b∉fs->b∉ex->h'.get? b=some o
 slot:∀ b o,h.get? b=some o->H b=none->b∈fs->b∉ex->∃ sl,h'.get? b=some { o with slots:=sl }
 free:∀ b o,h.get? b=some o->H b=none->b∉ex->H' b=none
 there:∀ b o,h.get? b=some o->b∉ex->∃ o',h'.get? b=some o'
 tups:∀ b xs,H b=some (.tup xs)->H' b=some (.tup xs)
 frzs:∀ b o u,H b=some (.frz o u)->H' b=some (.frz o u)
 tbls:∀ b ps,H b=some (.tbl ps)->∃ more,H' b=some (.tbl (ps++more))
section
variable{fs fs' ex ex':List Addr}{H H1 H2:Hp}{h h1 h2 h':Heap}{a x e:Addr}{o:HO}
theorem Un.any(u:Un fs ex H H1 h h1){b:Addr}{ob:Obj}(q:h.get? b=some ob)(n:H b=none)(hx:b∉ex):∃ sl,h1.get? b=some { ob with slots:=sl }:=by
 by_cases hb:b∈fs
 ·exact u.slot b ob q n hb hx
 ·exact ⟨ob.slots,u.keep b ob q n hb hx⟩
theorem Un.kept(k:∀ b u,h.get? b=some u->h'.get? b=some u):Un fs ex H H h h' :=
 ⟨fun b ob q _ _ _=>k b ob q,fun b ob q _ _ _=>⟨ob.slots,k b ob q⟩,fun _ _ _ n _=>n,fun b ob q _=>⟨ob,k b ob q⟩,fun _ _ q=>q,fun _ _ _ q=>q,fun _ ps q=>⟨#[],by rw [q];simp⟩⟩
theorem Un.refl:Un fs ex H H h h:=Un.kept fun _ _ q=>q
theorem Un.laid(k:∀ b u,h.get? b=some u->h'.get? b=some u)(hp:h.objs.size<=a)(hn:H a=none):Un fs ex H (upd H a o) h h' where
 keep:=fun b u q _ _ _=>k b u q
 slot:=fun b u q _ _ _=>⟨u.slots,k b u q⟩
 free:=fun b u q n _=>by rw [am (DL (DT (Dx q) hp))];exact n
 there:=fun b u q _=>⟨u,k b u q⟩
 tups:=fun b xs q=>by rw [am (aq q hn)];exact q
 frzs:=fun b u xs q=>by rw [am (aq q hn)];exact q
 tbls:=fun b ps q=>⟨#[],by rw [am (aq q hn),q];simp⟩
theorem Un.write(mu:Mut (H x))(he:e=x\/H e=some (.own x))(k:∀ b u,b≠e->h.get? b=some u->h'.get? b=some u)(heo:∃ u,h'.get? e=some u):Un fs ex H (upd H x o) h h':=by
 have hx:∀ b,H b=none->b≠x:=fun b n z=>by subst z;rw [n] at mu;exact mu
 have hb:∀ b,H b=none->b≠e:=fun b n z=>by
  subst z
  rcases he with r | r
  ·exact hx b n r
  ·rw [n] at r;cases r
 have hm:∀ b u,H b=some u->¬ Mut (some u)->b≠x:=fun b u q nm z=>by subst z;rw [q] at mu;exact nm mu
 refine ⟨fun b u q n _ _=>k b u (hb b n) q,fun b u q n _ _=>⟨u.slots,k b u (hb b n) q⟩,fun b u q n _=>by rw [am (hx b n)];exact n,fun b u q _=> ?_,
  fun b xs q=>by rw [am (hm b _ q fun z=>z)];exact q,fun b u xs q=>by rw [am (hm b _ q fun z=>z)];exact q,fun b ps q=>⟨#[],by rw [am (hm b _ q fun z=>z),q];simp⟩⟩
 by_cases hbe:b=e
 ·subst hbe;exact heo
 ·exact ⟨u,k b u hbe q⟩
end
noncomputable def trk(h:Heap)(H:Hp):List Addr:=(List.range h.objs.size).filter fun a=>(H a).isSome
noncomputable def qD(h:Heap)(H:Hp):Heap:=PySem.W.hideAll h (trk h H)
theorem wG(h:Heap)(H:Hp):(qD h H).objs.size=h.objs.size:=PySem.W.hideAll_size _ _
theorem zE{h:Heap}{H:Hp}{b:Addr}{o:Obj}(e:h.get? b=some o)(n:H b=none):(qD h H).get? b=some o :=
 Fp _ e fun hm=>by
  have q:(H b).isSome=true:=(Es.mp hm).2;rw [n] at q;simp at q
theorem BS{h:Heap}{H:Hp}{b:Addr}{o:Obj}(e:(qD h H).get? b=some o):h.get? b=some o/\H b=none:=by
 have e':h.get? b=some o:=PySem.W.of_hideAll (trk h H) e;refine ⟨e',?_⟩
 cases q:H b with
 | none=>rfl
 | some x =>
  have hm:b∈trk h H:=Es.mpr ⟨Et.mpr (Dx e'),by simp [q]⟩;have z:(qD h H).get? b=none:=PySem.W.hideAll_none (trk h H) hm;rw [z] at e;cases e
structure Mod(K:FZ)(mg:Str->Option Value)(base:Heap):Prop where
 kin:K.In base
 glob:base.Ns mainGlobals mg
 blt:∃ mb,base.Ns builtinsNs mb/\∀ x:Str,x ≠ "__name__" -> mb x=bootBuiltins x
 nolimit:base.NoLimit
structure Cx where
 prog:Program
 w:World
 K:FZ
 mg:Str->Option Value
 base:Heap
 A:Around
 N:List Str
 s₀:Shared
 H₀:Hp
 env:Env
 outer:List Env
 stack:List Env
 ex:List Addr
 fn:Str->Bool
 calm:Bool
 pn:List (Addr×Obj)
 xe:Value->Shared->Prop
noncomputable def frs(l:List Env):List Addr:=l.filterMap (·.frame)
abbrev Cx.fs(X:Cx):List Addr:=frs X.outer
noncomputable def Vis(sc:Scope)(x:Str):Prop:=sc.names.lookup x=some .local\/sc.names.lookup x=some .cell\/sc.names.lookup x=some .free
noncomputable def Loc(sc:Scope)(x:Str):Prop:=sc.names.lookup x=some .local\/sc.names.lookup x=some .cell
noncomputable def Look(env:Env)(h:Heap)(m:Str->Option Value)(x:Str)(u:Value):Prop :=
 (env.kindOf x=some .local/\m x=some u)\/((env.kindOf x=some .cell\/env.kindOf x=some .free)/\∃ c,env.cells.lookup x=some c/\h.IsCell c (some u))
structure Cx.Ok(X:Cx):Prop where
 mod:Mod X.K X.mg X.base
 kind:X.env.scope.kind = .function
 glob:X.env.globals=mainGlobals
 blt:X.env.builtins=builtinsNs
 above:X.s₀.heap.objs.size<=X.env.locals
 inj:∀ x y c,X.env.cells.lookup x=some c->X.env.cells.lookup y=some c->x=y
 has:∀ x,(X.env.kindOf x=some .cell\/X.env.kindOf x=some .free)->∃ c,X.env.cells.lookup x=some c
 cab:∀ x c,X.fn x=true->X.env.cells.lookup x=some c->X.s₀.heap.objs.size<=c
 hd:X.calm=true->X.A.handled=none
 frames:X.A.frames=some X.stack
 stk:X.stack=X.outer\/(X.stack=X.env::X.outer/\X.env.frame=some X.env.locals)
 exf:∀ b∈X.ex,b≠X.env.locals/\∀ x c,X.env.cells.lookup x=some c->c≠b
 bs:∀ b o,X.base.get? b=some o->X.s₀.heap.get? b=some o/\X.H₀ b=none
 bsz:X.base.objs.size<=X.s₀.heap.objs.size
 noex:∀ b o,X.base.get? b=some o->b∉X.ex
 exfs:∀ b∈X.ex,b∉X.fs
 funs:X.s₀.heap.FunFrames X.base X.outer
 frf:∀ b∈X.fs,X.H₀ b=none
structure Inv(X:Cx)(pins:List (Addr×Obj))(σ:List (Option V))(H:Hp)(s:Shared):Prop where
 ok:X.Ok
 os:s.os=X.s₀.os
 bare:AllBare s.gens
 base:Un X.fs X.ex X.H₀ H X.s₀.heap s.heap
 loc:∃ m,s.heap.Ns X.env.locals m/\∀ (i:Nat) (x:Str) (v:V),X.N[i]?=some x->σ[i]?=some (some v)->Vis X.env.scope x->∃ u,aG v u/\Look X.env s.heap m x u
 cell:∀ x c,X.env.cells.lookup x=some c->∃ v,s.heap.IsCell c v
 free:H X.env.locals=none
 freeC:∀ x c,X.env.cells.lookup x=some c->H c=none
 pin:∀ p∈X.pn++pins,s.heap.get? p.1=some p.2/\H p.1=none/\p.1≠X.env.locals/\p.1∉X.fs/\∀ v,p.2.data ≠ .cell v
 hok:HOk X.prog X.w H s.heap
 len:σ.length=X.N.length
section
variable{X:Cx}{pins:List (Addr×Obj)}{σ:List (Option V)}{H H':Hp}{s:Shared}{h':Heap}
theorem Cx.Ok.nofr(ok:X.Ok){b:Addr}{o:Obj}(e:X.base.get? b=some o):b∉X.fs:=fun hb=>by
 have:=(ok.funs.mem hb).1;rw [e] at this;cases this
theorem Inv.bs(I:Inv X pins σ H s):∀ b o,X.base.get? b=some o->s.heap.get? b=some o/\H b=none:=fun b o e =>
 ⟨I.base.keep b o (I.ok.bs b o e).1 (I.ok.bs b o e).2 (I.ok.nofr e) (I.ok.noex b o e),I.base.free b o (I.ok.bs b o e).1 (I.ok.bs b o e).2 (I.ok.noex b o e)⟩
theorem Inv.bk(I:Inv X pins σ H s):∀ b o,X.base.get? b=some o->s.heap.get? b=some o:=fun b o e=>(I.bs b o e).1
theorem Inv.mod(I:Inv X pins σ H s):Mod X.K X.mg X.base:=I.ok.mod
theorem Inv.kIn(I:Inv X pins σ H s):X.K.In s.heap:=I.ok.mod.kin.keeps I.bk
theorem Inv.fr(I:Inv X pins σ H s):∃ m,Fr X.base X.env.locals s.heap m :=
 let ⟨m,hn,_⟩:=I.loc
 ⟨m,hn,I.bk,Eu I.ok.bsz I.ok.above⟩
theorem Inv.lt(I:Inv X pins σ H s):X.env.locals < s.heap.objs.size:=let ⟨_,hn,_⟩:=I.loc;hn.lt
theorem Inv.sz(I:Inv X pins σ H s):X.s₀.heap.objs.size<=s.heap.objs.size:=Eu I.ok.above (EV I.lt)
theorem Inv.nofs(I:Inv X pins σ H s){a:Addr}(h:s.heap.objs.size<=a):a∉X.fs:=fun hb=>by
 obtain ⟨_,o,ho,_⟩:=I.ok.funs.mem hb;exact absurd (DT (Dx ho) (Eu I.sz h)) (Fz _)
theorem Inv.cne(I:Inv X pins σ H s):∀ x c,X.env.cells.lookup x=some c->c≠X.env.locals:=fun x c e z=>by
 obtain ⟨v,o,ho,hd⟩:=I.cell x c e;obtain ⟨m,⟨o',es,ep,ho',hd',_⟩,_⟩:=I.loc;rw [z,ho'] at ho;cases ho;rw [hd'] at hd;cases hd
theorem Inv.funs(I:Inv X pins σ H s):s.heap.FunFrames X.base X.outer:=by
 have all:∀ (l:List Env),(∀ b∈frs l,b∈X.fs)->X.s₀.heap.FunFrames X.base l->s.heap.FunFrames X.base l:=by
  intro l
  induction l with
  | nil=>intro _ _;trivial
  | cons env r ih =>
   intro hs hl;obtain ⟨hk,⟨L,o,hf,hn,ho,hd⟩,hr⟩:=hl;have hL:L∈X.fs:=hs L (by unfold frs;rw [FU,hf];exact Dv)
   obtain ⟨sl,e⟩:=I.base.slot L o ho (I.ok.frf L hL) hL fun z=>I.ok.exfs L z hL
   exact ⟨hk,⟨L,_,hf,hn,e,hd⟩,ih (fun b hb=>hs b (by unfold frs;rw [FU,hf];exact Dr _ hb)) hr⟩
 exact all X.outer (fun _ hb=>hb) I.ok.funs
theorem Inv.stack(I:Inv X pins σ H s):s.heap.FunFrames X.base X.stack:=by
 rcases I.ok.stk with e | ⟨e,hf⟩
 ·rw [e];exact I.funs
 ·rw [e]
  obtain ⟨m,hn,_⟩:=I.loc;refine .cons (by rw [I.ok.kind];decide) hf hn ?_ I.funs;exact Heap.get?_none_of_le (Eu I.ok.bsz I.ok.above)
theorem Inv.stkSub(I:Inv X pins σ H s):∀ b∈frs X.stack,b∈X.env.locals::X.fs:=fun b hb=>by
 rcases I.ok.stk with e | ⟨e,hf⟩
 ·rw [e] at hb;exact Dr _ hb
 ·rw [e] at hb
  unfold frs at hb;rw [FU,hf] at hb;exact hb
theorem Inv.stkFree(I:Inv X pins σ H s):∀ b∈frs X.stack,H b=none:=fun b hb=>by
 rcases Dz.mp (I.stkSub b hb) with e | hb
 ·rw [e];exact I.free
 ·obtain ⟨_,o,ho,_⟩:=I.ok.funs.mem hb
  exact I.base.free b o ho (I.ok.frf b hb) fun z=>I.ok.exfs b z hb
theorem Inv.step{g':Array GenState}{t':Nat}{d':Drawn}{ch:List Addr}(I:Inv X pins σ H s)
 (hch:∀ b∈ch,(b∈X.ex\/X.s₀.heap.objs.size<=b)/\b≠X.env.locals/\(∀ x c,X.env.cells.lookup x=some c->c≠b)/\∀ p∈X.pn++pins,p.1≠b)
 (keep:∀ b o,b≠X.env.locals->b∉X.fs->b∉ch->s.heap.get? b=some o->H b=none->h'.get? b=some o)
 (slot:∀ b o,b≠X.env.locals->b∈X.fs->b∉ch->s.heap.get? b=some o->H b=none->∃ sl,h'.get? b=some { o with slots:=sl }) (free:∀ b o,b∉ch->s.heap.get? b=some o->H b=none->H' b=none)
 (there:∀ b o,b∉ch->s.heap.get? b=some o->∃ o',h'.get? b=some o')
 (tups:∀ b xs,H b=some (.tup xs)->H' b=some (.tup xs)) (frzs:∀ b o u,H b=some (.frz o u)->H' b=some (.frz o u)) (tbls:∀ b ps,H b=some (.tbl ps)->∃ more,H' b=some (.tbl (ps++more)))
 (ns:∀ m,s.heap.Ns X.env.locals m->h'.Ns X.env.locals m) (hok:HOk X.prog X.w H' h') (hg:AllBare g') :
 Inv X pins σ H' { s with heap:=h',gens:=g',drawn:=d',toks:=t' }:=by
 have neL:∀ b o,X.s₀.heap.get? b=some o->b≠X.env.locals:=fun b o e=>DL (DT (Dx e) I.ok.above)
 have neC:∀ b o,X.s₀.heap.get? b=some o->b∉X.ex->b∉ch:=fun b o e hx hb=>by
  rcases (hch b hb).1 with z | z
  ·exact hx z
  ·exact absurd (DT (Dx e) z) (Fz _)
 have cellK:∀ x c,X.env.cells.lookup x=some c->∀ v,s.heap.IsCell c v->h'.IsCell c v:=fun x c e v ⟨o,ho,hd⟩=>by
  have nch:c∉ch:=fun z=>(hch c z).2.2.1 x c e rfl
  by_cases hc:c∈X.fs
  ·obtain ⟨sl,q⟩:=slot c o (I.cne x c e) hc nch ho (I.freeC x c e)
   exact ⟨_,q,hd⟩
  ·exact ⟨o,keep c o (I.cne x c e) hc nch ho (I.freeC x c e),hd⟩
 refine ⟨I.ok,I.os,hg,⟨fun b o e n hb hx=> ?_,fun b o e n hb hx=> ?_,fun b o e n hx=> ?_,fun b o e hx=> ?_,fun b xs e=>tups b xs (I.base.tups b xs e),fun b o xs e=>frzs b o xs (I.base.frzs b o xs e),fun b ps e=> ?_⟩,?_,fun x c e=> ?_,?_,fun x c e=> ?_,fun p hp=> ?_,hok,I.len⟩
 ·exact keep b o (neL b o e) hb (neC b o e hx) (I.base.keep b o e n hb hx) (I.base.free b o e n hx)
 ·obtain ⟨sl,e1⟩:=I.base.slot b o e n hb hx
  obtain ⟨sl',e2⟩:=slot b _ (neL b o e) hb (neC b o e hx) e1 (I.base.free b o e n hx);exact ⟨sl',e2⟩
 ·obtain ⟨o',e1⟩:=I.base.there b o e hx
  exact free b o' (neC b o e hx) e1 (I.base.free b o e n hx)
 ·obtain ⟨o',e1⟩:=I.base.there b o e hx
  exact there b o' (neC b o e hx) e1
 ·obtain ⟨m1,e1⟩:=I.base.tbls b ps e
  obtain ⟨m2,e2⟩:=tbls b _ e1;exact ⟨m1++m2,by rw [e2,Array.append_assoc]⟩
 ·obtain ⟨m,hn,hl⟩:=I.loc
  refine ⟨m,ns m hn,fun i x v e1 e2 e3=> ?_⟩;obtain ⟨u,r,l⟩:=hl i x v e1 e2 e3;refine ⟨u,r,?_⟩
  rcases l with l | ⟨k,c,e,z⟩
  ·exact .inl l
  ·exact .inr ⟨k,c,e,cellK x c e _ z⟩
 ·obtain ⟨v,z⟩:=I.cell x c e
  exact ⟨v,cellK x c e v z⟩
 ·obtain ⟨m,⟨o,_,_,ho,_⟩,_⟩:=I.loc
  exact free _ o (fun z=>(hch _ z).2.1 rfl) ho I.free
 ·obtain ⟨v,o,ho,hd⟩:=I.cell x c e
  exact free c o (fun z=>(hch c z).2.2.1 x c e rfl) ho (I.freeC x c e)
 ·obtain ⟨e,n,ne,nf,d⟩:=I.pin p hp
  have nch:p.1∉ch:=fun z=>(hch p.1 z).2.2.2 p hp rfl
  exact ⟨keep p.1 p.2 ne nf nch e n,free p.1 p.2 nch e n,ne,nf,d⟩
theorem Inv.un{t':Nat}(I:Inv X pins σ H s)(u:Un X.fs [] H H' s.heap h')(hok:HOk X.prog X.w H' h'):Inv X pins σ H' { s with heap:=h',toks:=t' }:=by
 obtain ⟨m,⟨o,es,ep,ho,r⟩,_⟩:=id I.loc;obtain ⟨sl,hL⟩:=u.any ho I.free (by simp)
 exact I.step (g':=s.gens) (d':=s.drawn) (ch:=[]) (fun _ z=>nomatch z) (fun b o _ hb _ e n=>u.keep b o e n hb (by simp)) (fun b o _ hb _ e n=>u.slot b o e n hb (by simp)) (fun b o _ e n=>u.free b o e n (by simp)) (fun b o _ e=>u.there b o e (by simp)) u.tups u.frzs u.tbls (fun m' hm=>by
  obtain ⟨o',es',ep',ho',r'⟩:=hm;rw [ho] at ho';cases ho'
  exact ⟨_,es',ep',hL,r'⟩) hok I.bare
theorem Inv.call{g':Array GenState}{t':Nat}{d':Drawn}{ch:List Addr}(I:Inv X pins σ H s)(u:Un (frs X.stack) ch H H' s.heap h')(hok:HOk X.prog X.w H' h')(hg:AllBare g')
 (hch:∀ b∈ch,(b∈X.ex\/X.s₀.heap.objs.size<=b)/\b≠X.env.locals/\(∀ x c,X.env.cells.lookup x=some c->c≠b)/\∀ p∈X.pn++pins,p.1≠b) :
 Inv X pins σ H' { s with heap:=h',gens:=g',drawn:=d',toks:=t' }:=by
 obtain ⟨m,⟨o,es,ep,ho,r⟩,_⟩:=id I.loc
 obtain ⟨sl,hL⟩:=u.any ho I.free fun z=>(hch _ z).2.1 rfl
 exact I.step (ch:=ch) hch (fun b o hL hb hc e n=>u.keep b o e n (fun z=>(Dz.mp (I.stkSub b z)).elim hL hb) hc) (fun b o _ _ hc e n=>u.any e n hc) (fun b o hc e n=>u.free b o e n hc) (fun b o hc e=>u.there b o e hc) u.tups u.frzs u.tbls (fun m' hm=>by
  obtain ⟨o',es',ep',ho',r'⟩:=hm;rw [ho] at ho';cases ho'
  exact ⟨_,es',ep',hL,r'⟩) hok hg
theorem Inv.turned{t':Nat}{it:Addr}(I:Inv X pins σ H s)(k:∀ b o,b≠it->s.heap.get? b=some o->h'.get? b=some o)(hn:H it=none)(hL:it≠X.env.locals)
 (h1:it∈X.ex\/X.s₀.heap.objs.size<=it) (h2:∀ x c,X.env.cells.lookup x=some c->c≠it) (h3:∀ p∈X.pn++pins,p.1≠it):Inv X pins σ H { s with heap:=h',toks:=t' }:=by
 have nit:∀ b u,H b=some u->b≠it:=fun b u e z=>by rw [z,hn] at e;cases e
 refine I.step (g':=s.gens) (d':=s.drawn) (ch:=[it]) (fun b hb=> ?_) (fun b o _ _ hc e _=>k b o (fun z=>hc (by simp [z])) e) (fun b o _ _ hc e _=>⟨o.slots,k b o (fun z=>hc (by simp [z])) e⟩) (fun _ _ _ _ n=>n)
  (fun b o hc e=>⟨o,k b o (fun z=>hc (by simp [z])) e⟩) (fun _ _ e=>e) (fun _ _ _ e=>e) (fun b ps e=>⟨#[],by rw [e];simp⟩) (fun m hm=> ?_) (fun b u e=> ?_) I.bare
 ·have e:b=it:=by simpa using hb
  subst e;exact ⟨h1,hL,h2,h3⟩
 ·obtain ⟨o,es,ep,ho,r⟩:=hm
  exact ⟨o,es,ep,k _ o (Ne.symm hL) ho,r⟩
 ·refine (I.hok b u e).stay (fun c v hc q=>k c v ?_ q) (fun _ q=>q) fun _ _ q=>q
  rcases hc with z | z
  ·rw [z];exact nit b u e
  ·exact nit c _ z
theorem Inv.tok(I:Inv X pins σ H s)(t:Nat):Inv X pins σ H { s with toks:=t }:=I.un (h':=s.heap) (t':=t) Un.refl I.hok
theorem Inv.kept{t':Nat}(I:Inv X pins σ H s)(k:∀ b u,s.heap.get? b=some u->h'.get? b=some u):Inv X pins σ H { s with heap:=h',toks:=t' }:=I.un (Un.kept k) (I.hok.kept k)
theorem Inv.laid{a:Addr}{o:HO}{t':Nat}(I:Inv X pins σ H s)(k:∀ b u,s.heap.get? b=some u->h'.get? b=some u)(hp:s.heap.objs.size<=a)(new:bA X.prog X.w (upd H a o) h' a o) :
 Inv X pins σ (upd H a o) { s with heap:=h',toks:=t' }:=I.un (Un.laid k hp (I.hok.fresh hp)) (I.hok.laid k hp new)
theorem Inv.write{x e:Addr}{o:HO}{t':Nat}(I:Inv X pins σ H s)(mu:Mut (H x))(he:e=x\/H e=some (.own x))(k:∀ b u,b≠e->s.heap.get? b=some u->h'.get? b=some u)(heo:∃ u,h'.get? e=some u)
 (new:bA X.prog X.w (upd H x o) h' x o):Inv X pins σ (upd H x o) { s with heap:=h',toks:=t' }:=I.un (Un.write mu he k heo) (I.hok.write mu he k heo new)
theorem Inv.weak{σ':List (Option V)}(I:Inv X pins σ H s)(hl:σ'.length=σ.length)(w:∀ (i:Nat) v,σ'[i]?=some (some v)->σ[i]?=some (some v)):Inv X pins σ' H s :=
 ⟨I.ok,I.os,I.bare,I.base,let ⟨m,hn,hl'⟩:=I.loc;⟨m,hn,fun i x v e1 e2 e3=>hl' i x v e1 (w i v e2) e3⟩,I.cell,I.free,I.freeC,I.pin,I.hok,hl.trans I.len⟩
theorem Inv.pins_of{pins':List (Addr×Obj)}(I:Inv X pins σ H s)(h:∀ p∈pins',s.heap.get? p.1=some p.2/\H p.1=none/\p.1≠X.env.locals/\p.1∉X.fs/\∀ v,p.2.data ≠ .cell v):Inv X pins' σ H s :=
 ⟨I.ok,I.os,I.bare,I.base,I.loc,I.cell,I.free,I.freeC,fun p hp=>(DG.mp hp).elim (fun z=>I.pin p (Dp _ z)) (h p),I.hok,I.len⟩
theorem mR{N:List Str}(hN:N.Nodup){i j:Nat}{x:Str}(a:N[i]?=some x)(b:N[j]?=some x):i=j:=by
 obtain ⟨h1,e1⟩:=DA.mp a;obtain ⟨h2,e2⟩:=DA.mp b;exact (List.getElem_inj hN).mp (e1.trans e2.symm)
theorem oI{M:Model}{A:Around}{E:Value->Shared->Prop}{i:Nat}{x:Str}{v:V}{u:Value}{Q:Unit->Shared->Prop}(I:Inv X pins σ H s)(hN:X.N.Nodup)(hi:X.N[i]?=some x)(hx:Loc X.env.scope x)(r:aG v u)
 (h:∀ s',Inv X pins (σ.set i (some v)) H s'->(∃ a,Heap.SameBut a s.heap s'.heap/\(a=X.env.locals\/X.env.cells.lookup x=some a))->Q () s') (hf:X.fn x=true\/X.env.scope.names.lookup x=some .local:=by first | exact .inl rfl | exact .inr rfl | assumption):wpAny M A (storeName X.env x u) Q E s:=by
 obtain ⟨m,hn,hl⟩:=id I.loc
 have hcls:(X.env.scope.kind == .class||(X.env.scope.kind == .module&&X.env.locals != X.env.globals))=false:=by rw [I.ok.kind];rfl
 have hiσ:i < σ.length:=by rw [I.len];exact (DA.mp hi).1
 have cne:=I.cne
 have tracked:∀ {a:Addr} {h':Heap},(∃ o,s.heap.get? a=some o/\H a=none)->Heap.SameBut a s.heap h'->HOk X.prog X.w H h':=fun {a h'} ha hs b ob e=>by
  obtain ⟨_,_,hfree⟩:=ha
  refine (I.hok b ob e).stay (fun c w' hc q=>(hs.2 c ?_).trans q) (fun _ q=>q) fun _ _ q=>q
  rintro rfl
  rcases hc with rfl | hc
  ·rw [hfree] at e;cases e
  ·rw [hfree] at hc;cases hc
 rcases hx with hk | hk
 ·refine wpAny_storeName_local hk hn (fun h' hn' hs=> ?_) hcls
  obtain ⟨oL,_,_,hoL,_⟩:=id hn;refine h _ ⟨I.ok,I.os,I.bare,⟨fun b o e n hb hx=> ?_,fun b o e n hb hx=> ?_,I.base.free,fun b o e hx=> ?_,I.base.tups,I.base.frzs,I.base.tbls⟩,⟨_,hn',fun j y v' e1 e2 e3=> ?_⟩,fun y c e=> ?_,I.free,I.freeC,fun p hp=> ?_,tracked ⟨oL,hoL,I.free⟩ hs,by simpa using I.len⟩ ⟨_,hs,.inl rfl⟩
  ·exact (hs.2 b (DL (DT (Dx e) I.ok.above))).trans (I.base.keep b o e n hb hx)
  ·obtain ⟨sl,e1⟩:=I.base.slot b o e n hb hx
   exact ⟨sl,(hs.2 b (DL (DT (Dx e) I.ok.above))).trans e1⟩
  ·obtain ⟨o',e1⟩:=I.base.there b o e hx
   exact ⟨o',(hs.2 b (DL (DT (Dx e) I.ok.above))).trans e1⟩
  ·by_cases hj:j=i
   ·subst hj
    rw [hi] at e1;cases e1;rw [Ew hiσ] at e2;cases e2;exact ⟨u,r,.inl ⟨hk,by simp⟩⟩
   ·rw [DV (Ne.symm hj)] at e2
    obtain ⟨u',r',q⟩:=hl j y v' e1 e2 e3;refine ⟨u',r',?_⟩
    rcases q with ⟨k,e⟩ | ⟨k,c,e,z⟩
    ·refine .inl ⟨k,?_⟩
     have:y≠x:=fun e=>hj (mR hN e1 (e ▸ hi))
     simp [this,e]
    ·exact .inr ⟨k,c,e,z.sameBut hs (cne y c e)⟩
  ·obtain ⟨w',z⟩:=I.cell y c e
   exact ⟨w',z.sameBut hs (cne y c e)⟩
  ·obtain ⟨e,n,ne,nf,d⟩:=I.pin p hp
   exact ⟨(hs.2 p.1 ne).trans e,n,ne,nf,d⟩
 ·have hfn:X.fn x=true:=by
   rcases hf with z | z
   ·exact z
   ·rw [z] at hk;cases hk
  obtain ⟨c,hc⟩:=I.ok.has x (.inl hk);obtain ⟨w',z⟩:=I.cell x c hc;refine wpAny_storeName_cell I.ok.kind hk hc z (fun h' hc' hs=> ?_);obtain ⟨oc,hoc,hocd⟩:=id z;refine h { s with heap:=h' } ⟨I.ok,I.os,I.bare,⟨fun b o e n hb hx=> ?_,fun b o e n hb hx=> ?_,I.base.free,fun b o e hx=> ?_,I.base.tups,I.base.frzs,I.base.tbls⟩,⟨m,hn.sameBut hs (Ne.symm (cne x c hc)),fun j y v' e1 e2 e3=> ?_⟩,fun y c' e=> ?_,I.free,I.freeC,fun p hp=> ?_,tracked ⟨oc,hoc,I.freeC x c hc⟩ hs,by simpa using I.len⟩ ⟨c,hs,.inr hc⟩
  ·exact (hs.2 b (DL (DT (Dx e) (I.ok.cab x c hfn hc)))).trans (I.base.keep b o e n hb hx)
  ·obtain ⟨sl,e1⟩:=I.base.slot b o e n hb hx
   exact ⟨sl,(hs.2 b (DL (DT (Dx e) (I.ok.cab x c hfn hc)))).trans e1⟩
  ·obtain ⟨o',e1⟩:=I.base.there b o e hx
   exact ⟨o',(hs.2 b (DL (DT (Dx e) (I.ok.cab x c hfn hc)))).trans e1⟩
  ·by_cases hj:j=i
   ·subst hj
    rw [hi] at e1;cases e1;rw [Ew hiσ] at e2;cases e2;exact ⟨u,r,.inr ⟨.inl hk,c,hc,hc'⟩⟩
   ·rw [DV (Ne.symm hj)] at e2
    obtain ⟨u',r',q⟩:=hl j y v' e1 e2 e3;refine ⟨u',r',?_⟩
    rcases q with q | ⟨k,c',e,z'⟩
    ·exact .inl q
    ·refine .inr ⟨k,c',e,z'.sameBut hs ?_⟩
     rintro rfl;exact hj (mR hN e1 (I.ok.inj _ _ _ e hc ▸ hi))
  ·by_cases hcc:c'=c
   ·subst hcc;exact ⟨_,hc'⟩
   ·obtain ⟨w2,z2⟩:=I.cell y c' e
    exact ⟨w2,z2.sameBut hs hcc⟩
  ·obtain ⟨e,n,ne,nf,d⟩:=I.pin p hp
   refine ⟨(hs.2 p.1 ?_).trans e,n,ne,nf,d⟩;intro q;rw [q,hoc] at e;have q':oc=p.2:=Option.some.inj e;exact d w' (by rw [<- q'];exact hocd)
theorem gg{M:Model}{A:Around}{E:Value->Shared->Prop}{i:Nat}{x:Str}{v:V}{u:Value}{Q:Unit->Shared->Prop}(I:Inv X pins σ H s)(hN:X.N.Nodup)(hi:X.N[i]?=some x)(hx:Loc X.env.scope x)(r:aG v u)
 (h:∀ s',Inv X pins (σ.set i (some v)) H s'->Q () s') (hf:X.fn x=true\/X.env.scope.names.lookup x=some .local:=by first | exact .inl rfl | exact .inr rfl | assumption):wpAny M A (storeName X.env x u) Q E s :=
 oI I hN hi hx r (fun s' I' _=>h s' I') hf
theorem Inv.call'{s':Shared}{ch:List Addr}(I:Inv X pins σ H s)(ho:s'.os=s.os)(u:Un (frs X.stack) ch H H' s.heap s'.heap)(hok:HOk X.prog X.w H' s'.heap)(hg:AllBare s'.gens)
 (hch:∀ b∈ch,(b∈X.ex\/X.s₀.heap.objs.size<=b)/\b≠X.env.locals/\(∀ x c,X.env.cells.lookup x=some c->c≠b)/\∀ p∈X.pn++pins,p.1≠b):Inv X pins σ H' s':=by
 obtain ⟨h',g',d',t',o'⟩:=s';have e:o'=s.os:=ho;subst e;exact I.call (g':=g') (t':=t') (d':=d') u hok hg hch
end
abbrev XK:=Value->Option Addr->Hp->Prop
abbrev St:=List (Option V)
abbrev VK:=V->Hp->Prop
abbrev TE:=St->Hp->VK->Prop
abbrev TT:=St->Hp->(Bool->Hp->Prop)->Prop
abbrev TA:=St->Hp->(List V->Hp->Prop)->Prop
structure lq where
 nx:St->Hp->Prop
 rt:VK
 bk:St->Hp->Prop:=fun _ _=>False
 ct:St->Hp->Prop:=fun _ _=>False
abbrev TS:=lq->St->Hp->Prop
noncomputable def EP(X:Cx)(pins:List (Addr×Obj))(σ:St)(Q:VK)(u:Value)(s':Shared):Prop:=∃ v H',Inv X pins σ H' s'/\aG v u/\Q v H'
noncomputable def TP(X:Cx)(pins:List (Addr×Obj))(σ:St)(Q:Bool->Hp->Prop)(b:Bool)(s':Shared):Prop:=∃ H',Inv X pins σ H' s'/\Q b H'
noncomputable def AP(X:Cx)(pins:List (Addr×Obj))(σ:St)(Q:List V->Hp->Prop)(us:List Value)(s':Shared):Prop:=∃ vs H',Inv X pins σ H' s'/\aC vs us/\Q vs H'
noncomputable def SP(X:Cx)(pins:List (Addr×Obj))(D:lq)(f:Flow)(s':Shared):Prop :=
 match f with
 | .next=>∃ σ' H',Inv X pins σ' H' s'/\D.nx σ' H'
 | .brk=>∃ σ' H',Inv X pins σ' H' s'/\D.bk σ' H'
 | .cont=>∃ σ' H',Inv X pins σ' H' s'/\D.ct σ' H'
 | .ret u=>∃ v σ' H',Inv X pins σ' H' s'/\aG v u/\D.rt v H'
noncomputable def PE(X:Cx)(e:Expr)(t:TE):Prop :=
 ∀ (pins:List (Addr×Obj)) (s:Shared) (σ:St) (H:Hp) (Q:VK),Inv X pins σ H s->t σ H Q->wpAny (model X.prog X.w) X.A (eval e X.env) (EP X pins σ Q) X.xe s
noncomputable def PT(X:Cx)(e:Expr)(t:TT):Prop :=
 ∀ (pins:List (Addr×Obj)) (s:Shared) (σ:St) (H:Hp) (Q:Bool->Hp->Prop),Inv X pins σ H s->t σ H Q->wpAny (model X.prog X.w) X.A (isTrue e X.env (eval e X.env)) (TP X pins σ Q) X.xe s
noncomputable def PW(X:Cx)(e:Expr)(t:TT):Prop :=
 ∀ (whole:Sem Value) (pins:List (Addr×Obj)) (s:Shared) (σ:St) (H:Hp) (Q:Bool->Hp->Prop),Inv X pins σ H s->t σ H Q->wpAny (model X.prog X.w) X.A (isTrue e X.env whole) (TP X pins σ Q) X.xe s
theorem PW.pt{X:Cx}{e:Expr}{t:TT}(h:PW X e t):PT X e t:=h _
noncomputable def PA(X:Cx)(es:List Expr)(t:TA):Prop :=
 ∀ (pos:Pos) (pins:List (Addr×Obj)) (s:Shared) (σ:St) (H:Hp) (Q:List V->Hp->Prop),Inv X pins σ H s->t σ H Q->wpAny (model X.prog X.w) X.A (spliced (backTo pos (starEach es X.env))) (AP X pins σ Q) X.xe s
noncomputable def PS(X:Cx)(st:Stmt)(t:TS):Prop :=
 ∀ (pins:List (Addr×Obj)) (s:Shared) (σ:St) (H:Hp) (D:lq),Inv X pins σ H s->t D σ H->wpAny (model X.prog X.w) X.A (exec st X.env) (SP X pins D) X.xe s
noncomputable def PSs(X:Cx)(st:List Stmt)(t:TS):Prop :=
 ∀ (pins:List (Addr×Obj)) (s:Shared) (σ:St) (H:Hp) (D:lq),Inv X pins σ H s->t D σ H->wpAny (model X.prog X.w) X.A (execs st X.env) (SP X pins D) X.xe s
theorem thn{α:Type}{t:Sem α}{Q Q':α->Shared->Prop}{M:Model}{A:Around}{E:Value->Shared->Prop}{s:Shared}(h:wpAny M A t Q E s)(hQ:∀ a s,Q a s->Q' a s):wpAny M A t Q' E s:=EA h hQ fun _ _ x=>x
section
variable{X:Cx}
theorem bin{a b:Expr}{ta tb:TE}(ha:PE X a ta)(hb:PE X b tb){pins:List (Addr×Obj)}{s:Shared}{σ:St}{H:Hp}{R:V->V->Hp->Prop}(I:Inv X pins σ H s)(h:ta σ H fun x H1=>tb σ H1 fun y H2=>R x y H2)
 {α:Type} {Q:α->Shared->Prop} {f:Value->Value->Sem α}
 (hf:∀ v u s2 x y H2,Inv X pins σ H2 s2->aG x v->aG y u->R x y H2->wpAny (model X.prog X.w) X.A (f v u) Q X.xe s2) :
 wpAny (model X.prog X.w) X.A (eval a X.env) (fun v s₁=>wpAny (model X.prog X.w) X.A (eval b X.env) (fun u s₂=>wpAny (model X.prog X.w) X.A (f v u) Q X.xe s₂) X.xe s₁) X.xe s:=by
 refine thn (ha pins s σ H _ I h) fun v s1 ⟨x,H1,I1,r1,q1⟩=> ?_
 refine thn (hb pins s1 σ H1 _ I1 q1) fun u s2 ⟨y,H2,I2,r2,q2⟩=> ?_
 exact hf v u s2 x y H2 I2 r1 r2 q2
noncomputable def xO(i:Nat):TE:=fun σ H Q=>∃ v,σ[i]?=some (some v)/\Q v H
noncomputable def tC(v:V):TE:=fun _ H Q=>Q v H
theorem gw{i:Nat}{x:Str}{pos:Pos}(hN:X.N[i]?=some x)(hv:Vis X.env.scope x)(hd:(x == ("__debug__" : Str))=false:=by decide)(hcd:(x == ("__classdict__" : Str))=false:=by decide):PE X (.Name x pos) (xO i):=by
 intro pins s σ H Q I h;obtain ⟨v,e,h⟩:=h;obtain ⟨m,hn,hl⟩:=I.loc;obtain ⟨u,r,l⟩:=hl i x v hN e hv;have fin:EP X pins σ Q u s:=⟨v,H,I,r,h⟩
 rcases l with ⟨hk,hm⟩ | ⟨hk,c,hc,hcell⟩
 ·exact wpAny_Name (wpAny_loadName_local I.ok.kind hk hn hm fin) hd
 ·rcases hk with hk | hk
  ·exact wpAny_Name (wpAny_loadName_cell I.ok.kind hk hc hcell fin) hd
  ·exact wpAny_Name (wpAny_loadName_free I.ok.kind hk hc hcell fin hcd) hd
theorem iO{i j pos}:PE X (.Constant (.int i) j pos) (tC (.int i)):=fun _ _ _ H _ I h=>wpAny_Constant_int ⟨.int i,H,I.tok _,⟨_,rfl⟩,h⟩
theorem yK{b j pos}:PE X (.Constant (.bool b) j pos) (tC (.bl b)):=fun _ _ _ H _ I h=>Constant_bool ⟨.bl b,H,I,rfl,h⟩
theorem pe_non{j pos}:PE X (.Constant .none j pos) (tC .non):=fun _ _ _ H _ I h=>Constant_none ⟨.non,H,I,rfl,h⟩
theorem dJ{x j pos}:PE X (.Constant (.str x) j pos) (tC (.str x)):=fun _ _ _ H _ I h=>Calls.Constant_str ⟨.str x,H,I.tok _,⟨_,rfl⟩,h⟩
noncomputable def Gl(X:Cx)(x:Str):Prop:=X.env.kindOf x=some .globalImplicit
theorem hV{E:Value->Shared->Prop}{pins:List (Addr×Obj)}{s:Shared}{σ:St}{H:Hp}{x:Str}{u:Value}{pos:Pos}{Q:Value->Shared->Prop}(I:Inv X pins σ H s)(hg:Gl X x)(hm:X.mg x=some u)(h:Q u s)
 (hd:(x == ("__debug__" : Str))=false:=by decide):wpAny (model X.prog X.w) X.A (eval (.Name x pos) X.env) Q E s :=
 Calls.Name_function_global I.ok.kind hg (Calls.loadGlobal_global (by rw [I.ok.glob];exact I.mod.glob.keeps I.bk) hm h) hd
theorem iV{E:Value->Shared->Prop}{pins:List (Addr×Obj)}{s:Shared}{σ:St}{H:Hp}{x:Str}{u:Value}{pos:Pos}{Q:Value->Shared->Prop}(I:Inv X pins σ H s)(hg:Gl X x)(hm:X.mg x=none)(hv:bootBuiltins x=some u)(h:Q u s)
 (hn:x ≠ "__name__" := by decide) (hd:(x == ("__debug__" : Str))=false:=by decide):wpAny (model X.prog X.w) X.A (eval (.Name x pos) X.env) Q E s:=by
 obtain ⟨mb,h1,h2⟩:=I.mod.blt;exact Calls.Name_function_global I.ok.kind hg (Calls.loadGlobal_builtin (by rw [I.ok.glob];exact I.mod.glob.keeps I.bk) hm (by rw [I.ok.blt];exact h1.keeps I.bk) ((h2 x hn).trans hv) h) hd
theorem js{x:Str}{v:V}{u:Value}{pos:Pos}(hg:Gl X x)(hm:X.mg x=some u)(r:aG v u)(hd:(x == ("__debug__" : Str))=false:=by decide):PE X (.Name x pos) (tC v) :=
 fun _ _ _ H _ I h=>hV I hg hm ⟨v,H,I,r,h⟩ hd
theorem vy{x:Str}{v:V}{u:Value}{pos:Pos}(hg:Gl X x)(hm:X.mg x=none)(hv:bootBuiltins x=some u)(r:aG v u)(hn:x ≠ "__name__" := by decide)(hd:(x == ("__debug__" : Str))=false:=by decide):PE X (.Name x pos) (tC v) :=
 fun _ _ _ H _ I h=>iV I hg hm hv ⟨v,H,I,r,h⟩ hn hd
variable{a b:Expr}{ta tb:TE}{pos:Pos}
noncomputable def PC(X:Cx)(op:CmpOp)(a b:Expr)(t:TE):Prop :=
 ∀ (pins:List (Addr×Obj)) (s:Shared) (σ:St) (H:Hp) (Q:VK),Inv X pins σ H s->t σ H Q ->
  wpAny (model X.prog X.w) X.A (eval a X.env) (fun v s₁=>wpAny (model X.prog X.w) X.A (eval b X.env) (fun u s₂=>wpAny (model X.prog X.w) X.A (compareOp op v u) (EP X pins σ Q) X.xe s₂) X.xe s₁) X.xe s
theorem zb(b:Expr){op:CmpOp}(h:op ≠ .In)(h2:op ≠ .NotIn):behindInMarks op b=false:=by
 have e1:(op == CmpOp.In)=false:=by cases op<;>first | rfl | exact absurd rfl h
 have e2:(op == CmpOp.NotIn)=false:=by cases op<;>first | rfl | exact absurd rfl h2
 cases b<;>simp [behindInMarks,e1,e2]
noncomputable def tB(t:TE):TT:=fun σ H Q=>t σ H fun x H1=>∃ c,x = .bl c/\Q c H1
theorem pt_cmp{op:CmpOp}{t:TE}(h:PC X op a b t)(h1:behindInMarks op b=false:=by first | exact zb _ (by decide) (by decide) | rfl):PT X (.Compare a [op] [b] pos) (tB t):=by
 intro pins s σ H Q I hw;refine wpAny_isTrue_Compare1 (thn (h pins s σ H _ I hw) fun v s1 h1=>thn h1 fun u s2 h2=>thn h2 fun c s3 ⟨x,H1,I1,r1,q1⟩=> ?_) h1;obtain ⟨d,rfl,q⟩:=q1;cases r1;exact EK ⟨H1,I1,q⟩
theorem pt_val{e:Expr}{t:TE}(h:PE X e t)(he:∀ whole,isTrue e X.env whole=(do let v <- whole;standAt e.pos;holding [v] (truthy v)):=by intro _;rfl):PT X e (tB t):=by
 intro pins s σ H Q I hw;refine isTrue_plain (thn (h pins s σ H _ I hw) fun v s1 ⟨x,H1,I1,r1,q1⟩=> ?_) (he _);obtain ⟨d,rfl,q⟩:=q1;cases r1;exact EK ⟨H1,I1,q⟩
variable{tA tB':TT}{rest:List Expr}
noncomputable def tAnd(t u:TT):TT:=fun σ H Q=>t σ H fun c H1=>if c=true then u σ H1 Q else Q false H1
noncomputable def tOr(t u:TT):TT:=fun σ H Q=>t σ H fun c H1=>if c=true then Q true H1 else u σ H1 Q
noncomputable def tNot(t:TT):TT:=fun σ H Q=>t σ H fun c H1=>Q (!c) H1
theorem Bp(ha:PT X a tA):PW X (.BoolOp .And [a] pos) tA:=by
 intro wh pins s σ H Q I h;refine isTrue_and (thn (ha pins s σ H Q I h) fun c s1 e=> ?_)
 cases c with
 | true=>exact isTrue_and_nil e
 | false=>exact e
theorem yq(ha:PT X a tA):PW X (.BoolOp .Or [a] pos) tA:=by
 intro wh pins s σ H Q I h;refine isTrue_or (thn (ha pins s σ H Q I h) fun c s1 e=> ?_)
 cases c with
 | false=>exact isTrue_or_nil e
 | true=>exact e
theorem pw_and(ha:PT X a tA)(hb:PW X (.BoolOp .And (b::rest) pos) tB'):PW X (.BoolOp .And (a::b::rest) pos) (tAnd tA tB'):=by
 intro wh pins s σ H Q I h;refine isTrue_and (thn (ha pins s σ H _ I h) fun c s1 ⟨H1,I1,q1⟩=> ?_)
 cases c with
 | true=>exact hb wh pins s1 σ H1 Q I1 q1
 | false=>exact ⟨H1,I1,q1⟩
theorem CT(ha:PT X a tA)(hb:PW X (.BoolOp .Or (b::rest) pos) tB'):PW X (.BoolOp .Or (a::b::rest) pos) (tOr tA tB'):=by
 intro wh pins s σ H Q I h;refine isTrue_or (thn (ha pins s σ H _ I h) fun c s1 ⟨H1,I1,q1⟩=> ?_)
 cases c with
 | true=>exact ⟨H1,I1,q1⟩
 | false=>exact hb wh pins s1 σ H1 Q I1 q1
theorem yt(ha:PT X a tA):PT X (.UnaryOp .Not a pos) (tNot tA):=by
 intro pins s σ H Q I h;exact isTrue_not (ha pins s σ H (fun c H1=>Q (!c) H1) I h)
noncomputable def tAndV(ta tb:TE):TE:=fun σ H Q=>ta σ H fun x H1=>∃ c,x = .bl c/\if c=true then tb σ H1 Q else Q (.bl false) H1
noncomputable def tOrV(ta tb:TE):TE:=fun σ H Q=>ta σ H fun x H1=>∃ c,x = .bl c/\if c=true then Q (.bl true) H1 else tb σ H1 Q
noncomputable def tNotV(ta:TE):TE:=fun σ H Q=>ta σ H fun x H1=>∃ c,x = .bl c/\Q (.bl (!c)) H1
theorem pe_one{op}{t:TE}(h:PE X a t):PE X (.BoolOp op [a] pos) t:=fun pins s σ H Q I hw=>BoolOp_one (h pins s σ H Q I hw)
theorem pe_and(ha:PE X a ta)(hb:PE X (.BoolOp .And (b::rest) pos) tb):PE X (.BoolOp .And (a::b::rest) pos) (tAndV ta tb):=by
 intro pins s σ H Q I h;refine BoolOp_and (thn (ha pins s σ H _ I h) fun v s1 ⟨x,H1,I1,r1,q1⟩=> ?_);obtain ⟨c,rfl,q1⟩:=q1;cases r1;refine EK ?_
 cases c with
 | true=>exact hb pins s1 σ H1 Q I1 q1
 | false=>exact ⟨.bl false,H1,I1,rfl,q1⟩
theorem pe_or(ha:PE X a ta)(hb:PE X (.BoolOp .Or (b::rest) pos) tb):PE X (.BoolOp .Or (a::b::rest) pos) (tOrV ta tb):=by
 intro pins s σ H Q I h;refine BoolOp_or (thn (ha pins s σ H _ I h) fun v s1 ⟨x,H1,I1,r1,q1⟩=> ?_);obtain ⟨c,rfl,q1⟩:=q1;cases r1;refine EK ?_
 cases c with
 | false=>exact hb pins s1 σ H1 Q I1 q1
 | true=>exact ⟨.bl true,H1,I1,rfl,q1⟩
theorem pe_not(ha:PE X a ta):PE X (.UnaryOp .Not a pos) (tNotV ta):=by
 intro pins s σ H Q I h;refine UnaryOp_ (thn (ha pins s σ H _ I h) fun v s1 ⟨x,H1,I1,r1,q1⟩=> ?_);obtain ⟨c,rfl,q1⟩:=q1;cases r1;exact not_of (EK ⟨.bl (!c),H1,I1,rfl,q1⟩)
noncomputable def tIf(t:TT)(ta tb:TE):TE:=fun σ H Q=>t σ H fun c H1=>if c=true then ta σ H1 Q else tb σ H1 Q
theorem yF{c:Expr}(hc:PT X c tA)(ha:PE X a ta)(hb:PE X b tb):PE X (.IfExp c a b pos) (tIf tA ta tb):=by
 intro pins s σ H Q I h;refine wpAny_IfExp (thn (hc pins s σ H _ I h) fun d s1 ⟨H1,I1,q1⟩=> ?_)
 cases d with
 | true=>exact ha pins s1 σ H1 Q I1 q1
 | false=>exact hb pins s1 σ H1 Q I1 q1
end
noncomputable def SqL(K:FZ)(H:Hp)(a:Addr)(xs:List V):Prop :=
 Rd H a (.lst xs) \/
  ∃ (o:Obj) (its:Array Value) (n:Nat),K.lookup a=some o/\o.cls = .type "list" /\ o.dict=none/\o.data = .seq its n/\its.size<=sizeLine/\aC xs its.toList
noncomputable def SqT(K:FZ)(H:Hp)(a:Addr)(xs:List V):Prop :=
 Rd H a (.tup xs) \/
  ∃ (o:Obj) (its:Array Value) (n:Nat),K.lookup a=some o/\o.cls = .type "tuple" /\ o.data = .seq its n/\its.size<=sizeLine/\aC xs its.toList
noncomputable def absV:Value->Option V
 | .none=>some .non
 | .bool b=>some (.bl b)
 | .int i _=>some (.int i)
 | .str x _=>some (.str x)
 | .bytes b _=>some (.byt b)
 | .float b _=>some (.flt b)
 | .ref a=>some (.ref a)
 | .type n=>some (.ty n)
 | _=>none
theorem aG.abs{x:V}{u:Value}(r:aG x u):absV u=some x:=by
 cases x with
 | non=>cases r;rfl
 | bl _=>cases r;rfl
 | int _=>obtain ⟨t,rfl⟩:=r;rfl
 | str _=>obtain ⟨t,rfl⟩:=r;rfl
 | byt _=>obtain ⟨t,rfl⟩:=r;rfl
 | flt _=>obtain ⟨t,rfl⟩:=r;rfl
 | ref _=>cases r;rfl
 | ty _=>cases r;rfl
theorem aG.inj{x y:V}{u:Value}(r:aG x u)(q:aG y u):x=y:=Option.some.inj (r.abs.symm.trans q.abs)
theorem aC.inj:∀ {xs ys:List V} {us:List Value},aC xs us->aC ys us->xs=ys
 | _,_,_,.nil,.nil=>rfl
 | _,_,_,.cons r t,.cons r' t'=>by rw [r.inj r',aC.inj t t']
section
variable{X:Cx}{pins:List (Addr×Obj)}{σ:St}{H:Hp}{s:Shared}{a:Addr}{xs ys:List V}
theorem Inv.list(I:Inv X pins σ H s)(h:SqL X.K H a xs):∃ its:List Value,aC xs its/\PlainL s.heap a its.toArray/\xs.length<=sizeLine:=by
 rcases h with h | ⟨o,its,n,hk,hc,hd,hs,hz,r⟩
 ·obtain ⟨z,its,n,r,e⟩:=h.ok I.hok
  exact ⟨its,r,⟨_,n,e,rfl,rfl,rfl⟩,z⟩
 ·refine ⟨its.toList,r,⟨o,n,I.kIn a o hk,hc,hd,by simpa using hs⟩,?_⟩
  have e:=r.length;simp only [Em] at e;omega
theorem Inv.tuple(I:Inv X pins σ H s)(h:SqT X.K H a xs):∃ its:List Value,aC xs its/\IsTup s.heap a its.toArray/\xs.length<=sizeLine:=by
 rcases h with h | ⟨o,its,n,hk,hc,hs,hz,r⟩
 ·obtain ⟨z,its,r,p⟩:=h.ok I.hok
  exact ⟨its,r,p,z⟩
 ·refine ⟨its.toList,r,⟨o,I.kIn a o hk,hc,n,by simpa using hs⟩,?_⟩
  have e:=r.length;simp only [Em] at e;omega
theorem Inv.list_inj(I:Inv X pins σ H s)(h:SqL X.K H a xs)(h':SqL X.K H a ys):xs=ys:=by
 obtain ⟨its,r,⟨o,n,e,_,_,d⟩,_⟩:=I.list h;obtain ⟨its',r',⟨o',n',e',_,_,d'⟩,_⟩:=I.list h';rw [e] at e';cases e';rw [d] at d'
 injection d' with d1 _
 have:its=its':=by simpa using congrArg Array.toList d1
 subst this;exact r.inj r'
theorem Inv.tuple_inj(I:Inv X pins σ H s)(h:SqT X.K H a xs)(h':SqT X.K H a ys):xs=ys:=by
 obtain ⟨its,r,⟨o,e,_,n,d⟩,_⟩:=I.tuple h;obtain ⟨its',r',⟨o',e',_,n',d'⟩,_⟩:=I.tuple h';rw [e] at e';cases e';rw [d] at d'
 injection d' with d1 _
 have:its=its':=by simpa using congrArg Array.toList d1
 subst this;exact r.inj r'
end
abbrev Cx.wish(X:Cx)(E:Value->Shared->Prop):Cx:={ X with xe:=E }
abbrev Cx.nox(X:Cx):Cx:=X.wish fun _ _=>False
theorem Cx.Ok.wish{X:Cx}(ok:X.Ok)(E:Value->Shared->Prop):(X.wish E).Ok :=
 ⟨ok.mod,ok.kind,ok.glob,ok.blt,ok.above,ok.inj,ok.has,ok.cab,ok.hd,ok.frames,ok.stk,ok.exf,ok.bs,ok.bsz,ok.noex,ok.exfs,ok.funs,ok.frf⟩
theorem Cx.Ok.unwish{X:Cx}{E:Value->Shared->Prop}(ok:(X.wish E).Ok):X.Ok :=
 ⟨ok.mod,ok.kind,ok.glob,ok.blt,ok.above,ok.inj,ok.has,ok.cab,ok.hd,ok.frames,ok.stk,ok.exf,ok.bs,ok.bsz,ok.noex,ok.exfs,ok.funs,ok.frf⟩
section
variable{X:Cx}{pins:List (Addr×Obj)}{σ:St}{H:Hp}{s:Shared}{E:Value->Shared->Prop}
theorem Inv.wish(I:Inv X pins σ H s)(E:Value->Shared->Prop):Inv (X.wish E) pins σ H s:=⟨I.ok.wish E,I.os,I.bare,I.base,I.loc,I.cell,I.free,I.freeC,I.pin,I.hok,I.len⟩
theorem Inv.unwish(I:Inv (X.wish E) pins σ H s):Inv X pins σ H s:=⟨I.ok.unwish,I.os,I.bare,I.base,I.loc,I.cell,I.free,I.freeC,I.pin,I.hok,I.len⟩
theorem SP.unwish{D:lq}{f:Flow}{s':Shared}(h:SP (X.wish E) pins D f s'):SP X pins D f s':=by
 cases f with
 | next=>obtain ⟨σ',H',I,q⟩:=h;exact ⟨σ',H',I.unwish,q⟩
 | brk=>obtain ⟨σ',H',I,q⟩:=h;exact ⟨σ',H',I.unwish,q⟩
 | cont=>obtain ⟨σ',H',I,q⟩:=h;exact ⟨σ',H',I.unwish,q⟩
 | ret u=>obtain ⟨v,σ',H',I,r,q⟩:=h;exact ⟨v,σ',H',I.unwish,r,q⟩
theorem PSs.nox{st:List Stmt}{t:TS}(h:PSs X.nox st t):PSs X st t:=fun pins s σ H D I hw =>
 EA (h pins s σ H D (I.wish _) hw) (fun _ _ q=>q.unwish) fun _ _ z=>False.elim z
end
section
variable{X:Cx}{st:Stmt}{rest:List Stmt}{t u:TS}{e:Expr}{te:TE}{pos:Pos}
noncomputable def tNext:TS:=fun D σ H=>D.nx σ H
noncomputable def tSeq(t u:TS):TS:=fun D σ H=>t { D with nx:=u D } σ H
theorem vv:PSs X [] tNext:=fun _ _ σ H _ I h=>FP ⟨σ,H,I,h⟩
theorem df(h1:PS X st t)(h2:PSs X rest u):PSs X (st::rest) (tSeq t u):=by
 intro pins s σ H D I h;refine wpAny_execs_cons (thn (h1 pins s σ H { D with nx:=u D } I h) fun f s1 q=> ?_)
 cases f with
 | next =>
  obtain ⟨σ',H',I',q⟩:=q;exact h2 pins s1 σ' H' D I' q
 | ret v=>exact q
 | brk=>exact q
 | cont=>exact q
theorem jr(h1:PS X st t):PSs X [st] t:=by
 intro pins s σ H D I h;refine wpAny_execs_cons (thn (h1 pins s σ H D I h) fun f s1 q=> ?_)
 cases f with
 | next=>exact FP q
 | ret v=>exact q
 | brk=>exact q
 | cont=>exact q
theorem Inv.quiet{pins:List (Addr×Obj)}{σ:St}{H:Hp}{s:Shared}(I:Inv X pins σ H s):interactive X.env=false:=by simp [interactive,I.ok.kind]
noncomputable def tDrop(te:TE):TS:=fun D σ H=>te σ H fun _ H1=>D.nx σ H1
theorem lC(he:PE X e te)(hs:swapsWith e none pos.line X.env=pure false:=by rfl):PS X (.Expr e pos) (tDrop te):=by
 intro pins s σ H D I h;exact wpAny_Expr_any (thn (he pins s σ H _ I h) fun v s1 ⟨x,H1,I1,r1,q1⟩=>⟨σ,H1,I1,q1⟩) I.quiet hs
noncomputable def tRet(te:TE):TS:=fun D σ H=>te σ H D.rt
theorem mz(he:PE X e te):PS X (.Return (some e) pos) (tRet te):=by
 intro pins s σ H D I h;exact wpAny_Return_some (thn (he pins s σ H _ I h) fun v s1 ⟨x,H1,I1,r1,q1⟩=>⟨x,σ,H1,I1,r1,q1⟩)
noncomputable def tIfS(c:TT)(t u:TS):TS:=fun D σ H=>c σ H fun b H1=>if b=true then t D σ H1 else u D σ H1
theorem CU{c:Expr}{a b:List Stmt}{tc:TT}(hc:PT X c tc)(ha:PSs X a t)(hb:PSs X b u):PS X (.If c a b pos) (tIfS tc t u):=by
 intro pins s σ H D I h;refine wpAny_If (thn (hc pins s σ H _ I h) fun d s1 ⟨H1,I1,q1⟩=> ?_)
 cases d with
 | true=>exact ha pins s1 σ H1 D I1 q1
 | false=>exact hb pins s1 σ H1 D I1 q1
end
abbrev TG:=V->St->Hp->(St->Hp->Prop)->Prop
abbrev TGs:=List V->St->Hp->(St->Hp->Prop)->Prop
noncomputable def PG(X:Cx)(target:Expr)(t:TG):Prop :=
 ∀ (pins:List (Addr×Obj)) (s:Shared) (σ:St) (H:Hp) (v:V) (u:Value) (Q:St->Hp->Prop),Inv X pins σ H s->aG v u->t v σ H Q ->
  wpAny (model X.prog X.w) X.A (assign target X.env u) (fun _ s'=>∃ σ' H',Inv X pins σ' H' s'/\Q σ' H') X.xe s
noncomputable def PGs(X:Cx)(ts:List Expr)(t:TGs):Prop :=
 ∀ (pins:List (Addr×Obj)) (s:Shared) (σ:St) (H:Hp) (vs:List V) (us:List Value) (Q:St->Hp->Prop),Inv X pins σ H s->aC vs us->t vs σ H Q ->
  wpAny (model X.prog X.w) X.A (assignInOrder ((assignEach ts X.env).map (·.2)) us) (fun _ s'=>∃ σ' H',Inv X pins σ' H' s'/\Q σ' H') X.xe s
abbrev TSet:=V->V->V->Hp->(Hp->Prop)->Prop
noncomputable def PSet(X:Cx)(t:TSet):Prop :=
 ∀ (pins:List (Addr×Obj)) (s:Shared) (σ:St) (H:Hp) (o i v:V) (ov iv u:Value) (Q:Hp->Prop),Inv X pins σ H s->aG o ov->aG i iv->aG v u->t o i v H Q ->
  wpAny (model X.prog X.w) X.A (setItem ov iv u) (fun _ s'=>∃ H',Inv X pins σ H' s'/\Q H') X.xe s
abbrev TIp:=V->V->Hp->VK->Prop
noncomputable def PIp(X:Cx)(op:Operator)(t:TIp):Prop :=
 ∀ (pins:List (Addr×Obj)) (s:Shared) (σ:St) (H:Hp) (x y:V) (v u:Value) (Q:VK),Inv X pins σ H s->aG x v->aG y u->t x y H Q ->
  wpAny (model X.prog X.w) X.A (inplaceOp op v u) (EP X pins σ Q) X.xe s
section
variable{X:Cx}{pos:Pos}
noncomputable def vJ(i:Nat):TG:=fun v σ H Q=>Q (σ.set i (some v)) H
theorem lD{i:Nat}{x:Str}(hN:X.N.Nodup)(hi:X.N[i]?=some x)(hx:Loc X.env.scope x)(hf:X.fn x=true\/X.env.scope.names.lookup x=some .local:=by first | exact .inl rfl | exact .inr rfl | assumption):PG X (.Name x pos) (vJ i):=by
 intro pins s σ H v u Q I r h;exact wpAny_assign_Name (gg I hN hi hx r (fun s' I'=>⟨_,H,I',h⟩) hf)
noncomputable def gNil:TGs:=fun vs σ H Q=>vs=[]/\Q σ H
noncomputable def C9(t:TG)(u:TGs):TGs:=fun vs σ H Q=>∃ v r,vs=v::r/\t v σ H fun σ' H'=>u r σ' H' Q
theorem vw:PGs X [] gNil:=by
 intro pins s σ H vs us Q I r h;obtain ⟨e,h⟩:=h;subst e;cases r;exact assignInOrder_nil ⟨σ,H,I,h⟩
theorem mE{e:Expr}{es:List Expr}{t:TG}{u:TGs}(h1:PG X e t)(h2:PGs X es u)
 (hs:(assignEach (e::es) X.env).map (·.2)=assign e X.env::(assignEach es X.env).map (·.2):=by rfl):PGs X (e::es) (C9 t u):=by
 intro pins s σ H vs us Q I r h;obtain ⟨v,vr,e1,h⟩:=h;subst e1
 cases r with
 | cons r rr =>
  rw [hs];refine assignInOrder_cons (thn (h1 pins s σ H _ _ _ I r h) fun _ s1 ⟨σ1,H1,I1,q1⟩=> ?_);exact h2 pins s1 σ1 H1 _ _ Q I1 rr q1
noncomputable def gTup(K:FZ)(n:Nat)(t:TGs):TG:=fun v σ H Q=>∃ a xs,v = .ref a/\SqT K H a xs/\xs.length=n/\t xs σ H Q
theorem yD{es:List Expr}{k:Nat}{t:TGs}{n:Nat}(hc:X.calm=true)(h:PGs X es t)
 (hn:(assignEach es X.env).length=n:=by rfl) (hst:(assignEach es X.env).findIdx? (·.1)=none:=by rfl):PG X (.Tuple es k pos) (gTup X.K n t):=by
 intro pins s σ H v u Q I r hw;obtain ⟨a,xs,e1,hq,hl,hw⟩:=hw;subst e1;cases r;obtain ⟨its,rv,ht,hz⟩:=I.tuple hq
 refine assign_Tuple_tuple (I.ok.hd hc) ht (by simp [hn,<- hl,rv.length]) hst fun h' hx=> ?_
 have I1:Inv X pins σ H { s with heap:=h' }:=I.kept (t':=s.toks) fun b o e=>hx b o (DL (Dx e)) e
 exact h pins _ σ H xs _ Q I1 (by simpa using rv) hw
noncomputable def gSub(to ti:TE)(t:TSet):TG:=fun v σ H Q=>to σ H fun o H1=>ti σ H1 fun i H2=>t o i v H2 fun H3=>Q σ H3
theorem pg_sub{o i:Expr}{to ti:TE}{t:TSet}(ho:PE X o to)(hi:PE X i ti)(hs:PSet X t)
 (ha:∀ v,assign (.Subscript o i pos) X.env v=(do
   let ov <- holding [v] (eval o X.env)
   let iv <- holding [v,ov] (eval i X.env)
   standAt pos
   holding [v,ov,iv] (setItem ov iv v)
   release [v,ov,iv] []):=by intro _;rfl):PG X (.Subscript o i pos) (gSub to ti t):=by
 intro pins s σ H v u Q I r h;rw [ha];refine Dj (EQ (thn (ho pins s σ H _ I h) fun ov s1 ⟨x,H1,I1,r1,q1⟩=> ?_));refine Dj (EQ (thn (hi pins s1 σ H1 _ I1 q1) fun iv s2 ⟨y,H2,I2,r2,q2⟩=> ?_));refine Dj (wpAny_standAt (Dj (EQ (thn (hs pins s2 σ H2 x y v ov iv u _ I2 r1 r2 r q2) fun _ s3 ⟨H3,I3,q3⟩=> ?_))));exact wpAny_release ⟨σ,H3,I3,q3⟩
noncomputable def tAsg(te:TE)(g:TG):TS:=fun D σ H=>te σ H fun x H1=>g x σ H1 D.nx
theorem yx{tg e:Expr}{te:TE}{g:TG}(he:PE X e te)(hg:PG X tg g)(hs:swapsWithSole [tg] e pos.line X.env=pure false:=by rfl)(hw:swappedStores [tg] e X.env=pure none:=by rfl)
 (h1:(assignEach [tg] X.env).map (·.2)=[assign tg X.env]:=by rfl):PS X (.Assign [tg] e pos) (tAsg te g):=by
 intro pins s σ H D I h;refine wpAny_Assign_stores (thn (he pins s σ H _ I h) fun v s1 ⟨x,H1,I1,r1,q1⟩=> ?_) hs hw;rw [h1]
 exact thn (hg pins s1 σ H1 x v _ I1 r1 q1) fun _ s2 q=>q
theorem qk{i:Nat}{x:Str}{e:Expr}{te:TE}{pos':Pos}(hN:X.N.Nodup)(hi:X.N[i]?=some x)(hx:Loc X.env.scope x)(he:PE X e te)(hs:swapsWith e (some (.Name x pos')) pos.line X.env=pure false:=by rfl)(hf:X.fn x=true\/X.env.scope.names.lookup x=some .local:=by first | exact .inl rfl | exact .inr rfl | assumption) :
 PS X (.Assign [.Name x pos'] e pos) (tAsg te (vJ i)):=by
 intro pins s σ H D I h;refine wpAny_Assign_Name (thn (he pins s σ H _ I h) fun v s1 ⟨y,H1,I1,r1,q1⟩=> ?_) hs;exact gg I1 hN hi hx r1 (fun s2 I2=>⟨_,H1,I2,q1⟩) hf
noncomputable def tAug(i:Nat)(te:TE)(ti:TIp):TS:=fun D σ H=>∃ x,σ[i]?=some (some x)/\te σ H fun y H1=>ti x y H1 fun z H2=>D.nx (σ.set i (some z)) H2
theorem ps_aug{i:Nat}{x:Str}{e:Expr}{te:TE}{op:Operator}{ti:TIp}{pos':Pos}(hN:X.N.Nodup)(hi:X.N[i]?=some x)(hx:Loc X.env.scope x)(he:PE X e te)(ho:PIp X op ti)(hf:X.fn x=true\/X.env.scope.names.lookup x=some .local:=by first | exact .inl rfl | exact .inr rfl | assumption) :
 PS X (.AugAssign (.Name x pos') op e pos) (tAug i te ti):=by
 intro pins s σ H D I h;obtain ⟨v,e1,h⟩:=h;obtain ⟨m,hn,hl⟩:=I.loc
 have vis:Vis X.env.scope x:=by rcases hx with k | k;exact .inl k;exact .inr (.inl k)
 obtain ⟨u,r,l⟩:=hl i x v hi e1 vis;refine wpAny_AugAssign_Name ?_
 have go:wpAny (model X.prog X.w) X.A (eval e X.env) (fun w s₂=>wpAny (model X.prog X.w) X.A (inplaceOp op u w) (fun r s₃=>wpAny (model X.prog X.w) X.A (storeName X.env x r) (fun _=>SP X pins D .next) X.xe s₃) X.xe s₂) X.xe s:=by
  refine thn (he pins s σ H _ I h) fun w s1 ⟨y,H1,I1,r1,q1⟩=> ?_
  refine thn (ho pins s1 σ H1 v y u w _ I1 r r1 q1) fun z s2 ⟨zv,H2,I2,r2,q2⟩=> ?_
  exact gg I2 hN hi hx r2 (fun s3 I3=>⟨_,H2,I3,q2⟩) hf
 rcases l with ⟨hk,hm⟩ | ⟨hk,c,hc,hcell⟩
 ·exact wpAny_loadName_local I.ok.kind hk hn hm go
 ·rcases hk with hk | hk
  ·exact wpAny_loadName_cell I.ok.kind hk hc hcell go
  ·rcases hx with k | k
   ·have:X.env.scope.names.lookup x=some .free:=hk
    rw [k] at this;cases this
   ·have:X.env.scope.names.lookup x=some .free:=hk
    rw [k] at this;cases this
noncomputable def ipI(f:Int->Int->Int):TIp:=fun x y H Q=>∃ i j,x = .int i/\y = .int j/\Q (.int (f i j)) H
theorem zx:PIp X .Add (ipI fun i j=>i+j):=by
 intro pins s σ H x y v u Q I r1 r2 h;obtain ⟨i,j,e1,e2,q⟩:=h;subst e1;subst e2;obtain ⟨t,rfl⟩:=r1;obtain ⟨t',rfl⟩:=r2;exact iadd_int ⟨.int _,H,I.tok _,⟨_,rfl⟩,q⟩
theorem ip_sub:PIp X .Sub (ipI fun i j=>i - j):=by
 intro pins s σ H x y v u Q I r1 r2 h;obtain ⟨i,j,e1,e2,q⟩:=h;subst e1;subst e2;obtain ⟨t,rfl⟩:=r1;obtain ⟨t',rfl⟩:=r2;exact isub_int ⟨.int _,H,I.tok _,⟨_,rfl⟩,q⟩
end
section
variable{X:Cx}{pos:Pos}
noncomputable def tWhile(c:TT)(tb:TS):TS:=fun D σ H=>∃ W:Nat->St->Hp->Prop,(∃ m,W m σ H)/\∀ m σ H,W m σ H ->
 c σ H fun b H1=>if b=true then ∃ N:St->Hp->Prop,(∀ σ' H',N σ' H'->∃ m',m' < m/\W m' σ' H')/\tb { D with nx:=N,ct:=N,bk:=D.nx } σ H1 else D.nx σ H1
theorem yu{c:Expr}{body:List Stmt}{tc:TT}{tb:TS}(hp:PassesOwn (model X.prog X.w) X.A X.env X.xe)(hc:PT X c tc)(hb:PSs X body tb):PS X (.While c body [] pos) (tWhile tc tb):=by
 intro pins s σ H D I h;obtain ⟨W,⟨m0,w0⟩,turn⟩:=h;refine wpAny_While (codeAny_whileLoop (fun n s'=>∃ σ' H',Inv X pins σ' H' s'/\W n σ' H') ?_ m0 ⟨σ,H,I,w0⟩);rintro n s1 ⟨σ1,H1,I1,w1⟩;refine Fg hp (thn (hc pins s1 σ1 H1 _ I1 (turn n σ1 H1 w1)) fun b s2 ⟨H2,I2,q2⟩=> ?_)
 cases b with
 | true =>
  obtain ⟨N,hN,q2⟩:=q2;rw [if_pos rfl];refine Fg hp (thn (hb pins s2 σ1 H2 _ I2 q2) fun f s3 q3=> ?_)
  cases f with
  | next =>
   obtain ⟨σ3,H3,I3,n3⟩:=q3;obtain ⟨m',hm,w3⟩:=hN σ3 H3 n3;exact ⟨m',hm,σ3,H3,I3,w3⟩
  | cont =>
   obtain ⟨σ3,H3,I3,n3⟩:=q3;obtain ⟨m',hm,w3⟩:=hN σ3 H3 n3;exact ⟨m',hm,σ3,H3,I3,w3⟩
  | brk=>exact q3
  | ret v=>exact q3
 | false =>
  rw [if_neg DB];exact FP ⟨σ1,H2,I2,q2⟩
end
structure It where
 go:Nat->Hp->Prop
 yld:Nat->Hp->V->Hp->Prop
 stop:Nat->Hp->Prop
noncomputable def tM(X:Cx)(pins:List (Addr×Obj))(H:Hp)(b:Addr):Prop :=
 H b=none/\b≠X.env.locals/\b∉X.fs/\(b∈X.ex\/X.s₀.heap.objs.size<=b)/\(∀ x c,X.env.cells.lookup x=some c->c≠b)/\∀ p∈X.pn++pins,p.1≠b
theorem Inv.fpOk{X:Cx}{pins:List (Addr×Obj)}{σ:St}{H H':Hp}{s:Shared}{b:Addr}(I:Inv X pins σ H s)(hb:s.heap.objs.size<=b)(hn:H' b=none):tM X pins H' b:=by
 refine ⟨hn,E7 (DT I.lt hb),I.nofs hb,.inr (Eu I.sz hb),fun x c e z=> ?_,fun p hp z=> ?_⟩
 ·obtain ⟨v,q⟩:=I.cell x c e
  exact absurd (DT q.lt (by rw [z];exact hb)) (Fz _)
 ·exact absurd (DT (Dx (I.pin p hp).1) (by rw [z];exact hb)) (Fz _)
structure xw(P:Program)(w:World)(K:FZ)(tg:Expr)(J:It)(fp:List Addr)(it:Addr)(tn:Nat->Heap->Prop):Prop where
 mem:it∈fp
 obj:∀ i h,tn i h->∀ b∈fp,∃ o,h.get? b=some o/\∀ v,o.data ≠ .cell v
 keep:∀ i h h',tn i h->(∀ b∈fp,∀ o,h.get? b=some o->h'.get? b=some o)->tn i h'
 item:∀ (X:Cx),X.prog=P->X.w=w->X.K=K->X.calm=true->∀ (i:Nat) (pins:List (Addr×Obj)) (s:Shared) (σ:St) (H:Hp) (E:Value->Shared->Prop),Inv X pins σ H s->(∀ b∈fp,tM X pins H b)->tn i s.heap->J.go i H ->
  wpAny (model P w) X.A (pyNext (.ref it)) (fun r s1=>∃ u,r=some u /\
   wpAny (model P w) X.A (letOwnedTupleGo tg (.ref it) u) (fun _ s2=>∃ x H',Inv X pins σ H' s2/\aG x u/\J.yld i H x H'/\tn (i+1) s2.heap/\∀ b∈fp,H' b=none) E s1) E s
 done:∀ (X:Cx),X.prog=P->X.w=w->X.K=K->X.calm=true->∀ (i:Nat) (pins:List (Addr×Obj)) (s:Shared) (σ:St) (H:Hp) (E:Value->Shared->Prop),Inv X pins σ H s->(∀ b∈fp,tM X pins H b)->tn i s.heap->J.stop i H ->
  wpAny (model P w) X.A (pyNext (.ref it)) (fun r s1=>r=none/\Inv X pins σ H s1) E s
 self:∀ (A:Around) (i:Nat) (s:Shared) (Q:Value->Shared->Prop) (E:Value->Shared->Prop),tn i s.heap->Q (.ref it) s->wpAny (model P w) A (pyIter (.ref it)) Q E s
abbrev TI:=St->Hp->(It->Hp->Prop)->Prop
noncomputable def PIE(X:Cx)(pins:List (Addr×Obj))(σ:St)(tg:Expr)(R:It->Hp->Prop)(itv:Value)(s2:Shared):Prop :=
 ∃ (it:Addr) (fp:List Addr) (tn:Nat->Heap->Prop) (J:It) (H':Hp),itv = .ref it/\Inv X pins σ H' s2/\xw X.prog X.w X.K tg J fp it tn/\tn 0 s2.heap/\(∀ b∈fp,tM X pins H' b)/\R J H'
noncomputable def PI(X:Cx)(tg iter:Expr)(wi:TI):Prop :=
 ∀ (pins:List (Addr×Obj)) (s:Shared) (σ:St) (H:Hp) (R:It->Hp->Prop),Inv X pins σ H s->wi σ H R ->
  wpAny (model X.prog X.w) X.A (eval iter X.env) (fun v s1=>wpAny (model X.prog X.w) X.A (pyIter v) (PIE X pins σ tg R) X.xe s1) X.xe s
theorem zK{M:Model}{A:Around}{E:Value->Shared->Prop}{s:Shared}{tg:Expr}{it:Addr}{u:Value}{o:Obj}{n:String}{vs:Array Value}{Q:Unit->Shared->Prop}(ho:s.heap.get? it=some o)(hc:o.cls = .type n)(hd:o.data = .fields vs)
 (hn:["enumerate", "zip", "dict_itemiterator", "dict_reverseitemiterator", "odict_iterator", "itertools.zip_longest", "itertools.pairwise"].contains n=false) (hQ:Q () s):wpAny M A (letOwnedTupleGo tg (.ref it) u) Q E s:=by
 unfold letOwnedTupleGo
 cases tg<;>first
  | exact Ds hQ
  | (cases u<;>first
      | exact Ds hQ
      | (refine Dj (wpAny_load ho ?_)
         rw [hc,hd]
         show wpAny M A (if (["enumerate", "zip", "dict_itemiterator", "dict_reverseitemiterator", "odict_iterator", "itertools.zip_longest", "itertools.pairwise"].contains n&&vs[0]? == some (rawInt _))=true then _ else _) Q E s
         rw [if_neg (by intro h;rw [hn,Fn] at h;cases h)]
         exact Ds hQ))
noncomputable def Itl(K:FZ)(a:Addr):It :=
 ⟨fun i H=>∃ xs x,SqL K H a xs/\xs[i]?=some x,fun i H x H'=>H'=H/\∀ xs,SqL K H a xs->xs[i]?=some x,fun i H=>∃ xs,SqL K H a xs/\xs.length<=i⟩
noncomputable def Itt(K:FZ)(a:Addr):It :=
 ⟨fun i H=>∃ xs x,SqT K H a xs/\xs[i]?=some x,fun i H x H'=>H'=H/\∀ xs,SqT K H a xs->xs[i]?=some x,fun i H=>∃ xs,SqT K H a xs/\xs.length<=i⟩
noncomputable def Itr(lo:Int)(n:Nat):It:=⟨fun i _=>i < n,fun i H x H'=>H'=H/\x = .int (lo+i),fun i _=>n<=i⟩
theorem vY{P:Program}{w:World}{K:FZ}{tg:Expr}(a it:Addr):xw P w K tg (Itl K a) [it] it (fun i h=>h.IsListIter it a i) where
 mem:=by simp
 obj:=fun i h st b hb=>by
  have e:b=it:=by simpa using hb
  subst e;obtain ⟨o,e,c,d⟩:=st;exact ⟨o,e,fun v z=>by rw [d] at z;cases z⟩
 keep:=fun i h h' st k=>st.at fun o e=>k it (by simp) o e
 item:=by
  intro X hP hw hK hc i pins s σ H E I hf st hg;subst hP hw hK;obtain ⟨xs,x,hq,hx⟩:=hg;obtain ⟨its,rv,p,hz⟩:=I.list hq;obtain ⟨u,hu,ru⟩:=rv.get hx;obtain ⟨f0,f1,f2,f3,f4,f5⟩:=hf it (by simp)
  refine wpAny_pyNext_list_item st p.isList (x:=u) (by simpa using hu) fun h' st' sb=> ?_
  have I1:Inv X pins σ H { s with heap:=h' }:=I.turned (t':=s.toks) (fun b o hb e=>(sb.2 b hb).trans e) f0 f1 f3 f4 f5;obtain ⟨o,e,c,d⟩:=id st';exact ⟨u,rfl,zK (s:={ s with heap:=h' }) e c d (by decide) ⟨x,H,I1,ru,⟨rfl,fun ys hy=>by rw [I.list_inj hy hq];exact hx⟩,st',fun b hb=>(hf b hb).1⟩⟩
 done:=by
  intro X hP hw hK hc i pins s σ H E I hf st hg;subst hP hw hK;obtain ⟨xs,hq,hx⟩:=hg;obtain ⟨its,rv,p,hz⟩:=I.list hq;obtain ⟨f0,f1,f2,f3,f4,f5⟩:=hf it (by simp);have hl:=rv.length
  exact wpAny_pyNext_list_end (I.ok.hd hc) st p.isList (by simp;omega) fun h' eb=>⟨rfl,I.turned (t':=s.toks) (fun b o hb e=>eb b o hb e) f0 f1 f3 f4 f5⟩
 self:=fun _ _ _ _ _ st h=>wpAny_pyIter_listiter st h
theorem lN{P:Program}{w:World}{K:FZ}{tg:Expr}(a it:Addr):xw P w K tg (Itt K a) [it] it (fun i h=>h.IsTupleIter it a i) where
 mem:=by simp
 obj:=fun i h st b hb=>by
  have e:b=it:=by simpa using hb
  subst e;obtain ⟨o,e,c,d⟩:=st;exact ⟨o,e,fun v z=>by rw [d] at z;cases z⟩
 keep:=fun i h h' st k=>st.at fun o e=>k it (by simp) o e
 item:=by
  intro X hP hw hK hc i pins s σ H E I hf st hg;subst hP hw hK;obtain ⟨xs,x,hq,hx⟩:=hg;obtain ⟨its,rv,p,hz⟩:=I.tuple hq;obtain ⟨u,hu,ru⟩:=rv.get hx;obtain ⟨f0,f1,f2,f3,f4,f5⟩:=hf it (by simp)
  refine wpAny_pyNext_tuple_item st (show s.heap.IsTuple a its.toArray from p) (x:=u) (by simpa using hu) fun h' st' sb=> ?_
  have I1:Inv X pins σ H { s with heap:=h' }:=I.turned (t':=s.toks) (fun b o hb e=>(sb.2 b hb).trans e) f0 f1 f3 f4 f5;obtain ⟨o,e,c,d⟩:=id st';exact ⟨u,rfl,zK (s:={ s with heap:=h' }) e c d (by decide) ⟨x,H,I1,ru,⟨rfl,fun ys hy=>by rw [I.tuple_inj hy hq];exact hx⟩,st',fun b hb=>(hf b hb).1⟩⟩
 done:=by
  intro X hP hw hK hc i pins s σ H E I hf st hg;subst hP hw hK;obtain ⟨xs,hq,hx⟩:=hg;obtain ⟨its,rv,p,hz⟩:=I.tuple hq;obtain ⟨f0,f1,f2,f3,f4,f5⟩:=hf it (by simp);have hl:=rv.length
  exact wpAny_pyNext_tuple_end (I.ok.hd hc) st (show s.heap.IsTuple a its.toArray from p) (by simp;omega) fun h' eb=>⟨rfl,I.turned (t':=s.toks) (fun b o hb e=>eb b o hb e) f0 f1 f3 f4 f5⟩
 self:=fun _ _ _ _ _ st h=>wpAny_pyIter_tupleiter st h
theorem tO{P:Program}{w:World}{K:FZ}{tg:Expr}(it:Addr)(lo:Int)(n:Nat):xw P w K tg (Itr lo n) [it] it (fun i h=>IsRangeIter h it (lo+(i:Nat) * 1) ((n:Int) - (i:Nat)) 1) where
 mem:=by simp
 obj:=fun i h st b hb=>by
  have e:b=it:=by simpa using hb
  subst e
  exact ⟨_,st,fun v z=>by
   have z':Data.fields _=Data.cell v:=z
   cases z'⟩
 keep:=fun i h h' st k=>k it (by simp) _ st
 item:=by
  intro X hP hw hK hc i pins s σ H E I hf st hg;subst hP hw hK;obtain ⟨f0,f1,f2,f3,f4,f5⟩:=hf it (by simp);have W:=Walks.range (prog:=X.prog) (w:=X.w) (I.ok.hd hc) it lo 1 n
  refine W.item i s _ _ hg st fun v h' tk hv st' kk=> ?_
  obtain ⟨t,rfl⟩:=hv;have I1:Inv X pins σ H { s with heap:=h',toks:=tk }:=I.turned (fun b o hb e=>kk b o (by simpa using hb) e) f0 f1 f3 f4 f5;refine ⟨_,rfl,zK (s:={ s with heap:=h',toks:=tk }) (n := "range_iterator") st' rfl rfl (by decide) ⟨.int (lo+i),H,I1,⟨t,?_⟩,⟨rfl,rfl⟩,st',fun b hb=>(hf b hb).1⟩⟩;rw [Int.mul_one]
 done:=by
  intro X hP hw hK hc i pins s σ H E I hf st hg;subst hP hw hK;obtain ⟨f0,f1,f2,f3,f4,f5⟩:=hf it (by simp)
  exact wpAny_pyNext_range_end (I.ok.hd hc) st (by have:n<=i:=hg;omega) fun h' eb=>⟨rfl,I.turned (t':=s.toks) (fun b o hb e=>eb b o hb e) f0 f1 f3 f4 f5⟩
 self:=fun _ _ _ _ _ st h=>wpAny_pyIter_rangeiter st h
section
variable{X:Cx}{tg:Expr}
noncomputable def iTup(K:FZ)(tl:TE):TI:=fun σ H R=>tl σ H fun x H1=>∃ a,x = .ref a/\(∃ xs,SqT K H1 a xs)/\R (Itt K a) H1
theorem pi_tup{l:Expr}{tl:TE}(hl:PE X l tl):PI X tg l (iTup X.K tl):=by
 intro pins s σ H R I h
 refine thn (hl pins s σ H _ I h) fun v s1 ⟨x,H1,I1,r1,q1⟩=> ?_
 obtain ⟨a,e,⟨xs,hq⟩,q⟩:=q1;subst e;cases r1;obtain ⟨its,rv,p,hz⟩:=I1.tuple hq;refine DZ (show s1.heap.IsTuple a its.toArray from p) ?_;refine ⟨s1.heap.objs.size,[s1.heap.objs.size],_,_,H1,rfl,I1.kept (t':=s1.toks) fun b o e=>Dk _ e,lN a _,⟨_,Dw _ rfl,rfl,rfl⟩,fun b hb=> ?_,q⟩
 have e:b=s1.heap.objs.size:=by simpa using hb
 subst e;exact I1.fpOk (Dy _) (I1.hok.fresh (Dy _))
theorem rP{pins:List (Addr×Obj)}{σ:St}{H:Hp}{s:Shared}{R:It->Hp->Prop}{E:Value->Shared->Prop}{lo hi:Int}{t u v:Tok}{tk:Nat}(I:Inv X pins σ H s)(h1 : -(2 ^ 62)<=lo)(h2:lo < 2 ^ 62)(h3 : -(2 ^ 62)<=hi)(h4:hi < 2 ^ 62)
 (q:R (Itr lo (hi - lo).toNat) H):wpAny (model X.prog X.w) X.A (pyIter (.ref s.heap.objs.size)) (PIE X pins σ tg R) E { s with heap:=s.heap.push { cls:= .type "range",data:= .fields #[.int lo t,.int hi u,.int 1 v] },toks:=tk }:=by
 refine wpAny_pyIter_range (IsRange.new ..) (small_one h1 h2 h3 h4) ?_
 have I1:Inv X pins σ H { s with heap:=s.heap.push { cls:= .type "range",data:= .fields #[.int lo t,.int hi u,.int 1 v] },toks:=tk }:=I.kept fun b o e=>Dk _ e
 refine ⟨(s.heap.push { cls:= .type "range",data:= .fields #[.int lo t,.int hi u,.int 1 v] }).objs.size,[(s.heap.push { cls:= .type "range",data:= .fields #[.int lo t,.int hi u,.int 1 v] }).objs.size],_,_,H,rfl,
  I1.kept (t':=tk) fun b o e=>Dk _ e,tO _ lo (hi - lo).toNat,?_,fun b hb=> ?_,q⟩
 ·have e1:lo+((0:Nat):Int) * 1=lo:=by simp
  have e2:(((hi - lo).toNat:Nat):Int) - ((0:Nat):Int)=Builtin.Range.rangeSize lo hi 1:=by rw [rangeSize_one];split<;>omega
  show IsRangeIter _ _ (lo+((0:Nat):Int) * 1) ((((hi - lo).toNat:Nat):Int) - ((0:Nat):Int)) 1
  rw [e1,e2];exact Dw _ rfl
 ·have e:b=(s.heap.push { cls:= .type "range",data:= .fields #[.int lo t,.int hi u,.int 1 v] }).objs.size:=by simpa using hb
  subst e;exact I1.fpOk (Dy _) (I1.hok.fresh (Dy _))
noncomputable def iRng1(ta:TA):TI:=fun σ H R=>ta σ H fun vs H1=>∃ j:Int,vs=[.int j] /\ -(2 ^ 62)<=j/\j < 2 ^ 62/\R (Itr 0 j.toNat) H1
noncomputable def iRng2(ta:TA):TI:=fun σ H R=>ta σ H fun vs H1=>∃ i j:Int,vs=[.int i,.int j]/\(-(2 ^ 62)<=i/\i < 2 ^ 62 /\ -(2 ^ 62)<=j/\j < 2 ^ 62)/\R (Itr i (j - i).toNat) H1
theorem oS{a:Expr}{ta:TA}{p pos:Pos}(hg:Gl X "range")(hm:X.mg "range" = none)(ha:PA X [a] ta)(hs:starEach [a] X.env=[(false,eval a X.env)]:=by rfl):PI X tg (.Call (.Name "range" p) [a] [] pos) (iRng1 ta):=by
 intro pins s σ H R I h;refine Call_ (iV I hg hm boot_range (PyProof.Rows.callWith_type1 (thn (ha pos pins s σ H _ I h) fun us s1 ⟨vs,H1,I1,r1,q1⟩=> ?_) hs rfl));obtain ⟨j,e,q1,q2,q⟩:=q1;subst e
 cases r1 with
 | cons r rr =>
  cases rr;obtain ⟨t,rfl⟩:=r;exact call_range_1 (rP I1 (by omega) (by omega) q1 q2 (by simpa using q))
theorem wn{a b:Expr}{ta:TA}{p pos:Pos}(hg:Gl X "range")(hm:X.mg "range" = none)(ha:PA X [a,b] ta)(hs:starEach [a,b] X.env=[(false,eval a X.env),(false,eval b X.env)]:=by rfl)(hs2:starEach [b] X.env=[(false,eval b X.env)]:=by rfl) :
 PI X tg (.Call (.Name "range" p) [a,b] [] pos) (iRng2 ta):=by
 intro pins s σ H R I h;refine Call_ (iV I hg hm boot_range (PyProof.Rows.callWith_type1 (thn (ha pos pins s σ H _ I h) fun us s1 ⟨vs,H1,I1,r1,q1⟩=> ?_) (by rw [hs,hs2]) (by rw [hs2];rfl)));obtain ⟨i,j,e,⟨q1,q2,q3,q4⟩,q⟩:=q1;subst e
 cases r1 with
 | cons r rr =>
  cases rr with
  | cons r' rr =>
   cases rr;obtain ⟨t,rfl⟩:=r;obtain ⟨t',rfl⟩:=r';exact call_range_2 (rP I1 q1 q2 q3 q4 q)
noncomputable def tFor(wi:TI)(g:TG)(tb:TS):TS:=fun D σ H=>wi σ H fun J H1=>∃ W:Nat->Nat->St->Hp->Prop,(∃ m,W 0 m σ H1)/\∀ i m σ H,W i m σ H ->
 (J.stop i H/\D.nx σ H)\/(J.go i H/\∃ N:St->Hp->Prop,(∀ σ' H',N σ' H'->∃ m',m' < m/\W (i+1) m' σ' H')/\∀ x H',J.yld i H x H'->g x σ H' fun σ2 H2=>tb { D with nx:=N,ct:=N,bk:=D.nx } σ2 H2)
noncomputable def mD(fp:List Addr)(h:Heap):List (Addr×Obj):=fp.filterMap fun b=>(h.get? b).map fun o=>(b,o)
theorem fH{fp:List Addr}{h:Heap}{b:Addr}{o:Obj}(hb:b∈fp)(e:h.get? b=some o):(b,o)∈mD fp h:=FW.mpr ⟨b,hb,by rw [e];rfl⟩
theorem wu{fp:List Addr}{h:Heap}{p:Addr×Obj}(hp:p∈mD fp h):p.1∈fp/\h.get? p.1=some p.2:=by
 obtain ⟨b,hb,e⟩:=FW.mp hp
 cases q:h.get? b with
 | none=>rw [q] at e;cases e
 | some o =>
  rw [q] at e;have e':(b,o)=p:=Option.some.inj e;subst e';exact ⟨hb,q⟩
theorem Inv.pinned{pins:List (Addr×Obj)}{σ:St}{H:Hp}{s:Shared}{fp:List Addr}(I:Inv X pins σ H s)(hf:∀ b∈fp,tM X pins H b)(ho:∀ b∈fp,∃ o,s.heap.get? b=some o/\∀ v,o.data ≠ .cell v):Inv X (pins++mD fp s.heap) σ H s :=
 I.pins_of fun p hp=>(DG.mp hp).elim (fun z=>I.pin p (Dl _ z)) fun z=>by
  obtain ⟨hb,e⟩:=wu z;obtain ⟨f0,f1,f2,_⟩:=hf p.1 hb;obtain ⟨o,e',d⟩:=ho p.1 hb;rw [e] at e';cases e';exact ⟨e,f0,f1,f2,d⟩
theorem Inv.unpinned{pins pl:List (Addr×Obj)}{σ:St}{H:Hp}{s:Shared}(I:Inv X (pins++pl) σ H s):Inv X pins σ H s:=I.pins_of fun p hp=>I.pin p (Dl _ (Dp _ hp))
theorem yw{iter:Expr}{body:List Stmt}{wi:TI}{g:TG}{tb:TS}{pos:Pos}(hp:PassesOwn (model X.prog X.w) X.A X.env X.xe)(hc:X.calm=true)(hi:PI X tg iter wi)(hg:PG X tg g)(hb:PSs X body tb)
 (hs:∀ x,foldedSetIterable iter X.env x=pure x:=by intro _;rfl):PS X (.For tg iter body [] pos) (tFor wi g tb):=by
 intro pins s σ H D I h;refine wpAny_For (thn (hi pins s σ H _ I h) fun v s1 h1=>thn h1 fun itv s2 h2=> ?_) hs;obtain ⟨it,fp,tn,J,H2,e,I2,T,st2,f2,W,⟨m0,w0⟩,turn⟩:=h2;subst e
 have stat:∀ {H':Hp},(∀ b∈fp,H' b=none)->∀ b∈fp,tM X pins H' b:=fun hn b hb=>⟨hn b hb,(f2 b hb).2⟩
 refine codeAny_forLoop_any (fun n s'=>∃ i σ' H',Inv X pins σ' H' s'/\tn i s'.heap/\(∀ b∈fp,H' b=none)/\W i n σ' H') ?_ m0 ⟨0,σ,H2,I2,st2,fun b hb=>(f2 b hb).1,w0⟩;rintro n s3 ⟨i,σ3,H3,I3,st3,fr3,w3⟩
 rcases turn i n σ3 H3 w3 with ⟨stop,qn⟩ | ⟨go,N,hN,step⟩
 ·refine Fg hp (thn (T.done X rfl rfl rfl hc i pins s3 σ3 H3 X.xe I3 (stat fr3) st3 stop) fun r s4 ⟨hr,I4⟩=> ?_)
  subst hr;exact FP ⟨σ3,H3,I4,qn⟩
 ·refine Fg hp (thn (T.item X rfl rfl rfl hc i pins s3 σ3 H3 X.xe I3 (stat fr3) st3 go) fun r s4 ⟨u,hr,h4⟩=> ?_)
  subst hr;refine Fg hp (thn h4 fun _ s5 ⟨x,H5,I5,r5,y5,st5,fr5⟩=> ?_);have I5':=I5.pinned (stat fr5) (T.obj _ _ st5);refine Fg hp (thn (hg _ s5 σ3 H5 x u _ I5' r5 (step x H5 y5)) fun _ s6 ⟨σ6,H6,I6,q6⟩=> ?_);refine Fg hp (thn (hb _ s6 σ6 H6 _ I6 q6) fun f s7 q7=> ?_)
  have again:∀ {σ7:St} {H7:Hp},Inv X (pins++mD fp s5.heap) σ7 H7 s7->N σ7 H7->∃ m,m < n/\∃ i σ' H',Inv X pins σ' H' s7/\tn i s7.heap/\(∀ b∈fp,H' b=none)/\W i m σ' H':=fun {σ7 H7} I7 n7=>by
   obtain ⟨m',hm,w7⟩:=hN σ7 H7 n7;refine ⟨m',hm,i+1,σ7,H7,I7.unpinned,T.keep _ _ _ st5 fun b hb o e=>(I7.pin (b,o) (Dl _ (Dl _ (fH hb e)))).1,fun b hb=> ?_,w7⟩;obtain ⟨o,e,d⟩:=T.obj _ _ st5 b hb;exact (I7.pin (b,o) (Dl _ (Dl _ (fH hb e)))).2.1
  cases f with
  | next=>obtain ⟨σ7,H7,I7,n7⟩:=q7;exact again I7 n7
  | cont=>obtain ⟨σ7,H7,I7,n7⟩:=q7;exact again I7 n7
  | brk=>obtain ⟨σ7,H7,I7,q7⟩:=q7;exact ⟨σ7,H7,I7.unpinned,q7⟩
  | ret v=>obtain ⟨x7,σ7,H7,I7,r7,q7⟩:=q7;exact ⟨x7,σ7,H7,I7.unpinned,r7,q7⟩
end
theorem for_list{K:FZ}{a:Addr}{xs:List V}{g:TG}{tb:TS}{D:lq}{σ:St}{H:Hp}(Pv:Nat->St->Hp->Prop)(h0:Pv 0 σ H)(hl:∀ i σ H,i<=xs.length->Pv i σ H->SqL K H a xs)
 (hs:∀ i x σ H,xs[i]?=some x->Pv i σ H->g x σ H fun σ2 H2=>tb { D with nx:=Pv (i+1),ct:=Pv (i+1),bk:=D.nx } σ2 H2) (hd:∀ σ H,Pv xs.length σ H->D.nx σ H) :
 ∃ W:Nat->Nat->St->Hp->Prop,(∃ m,W 0 m σ H)/\∀ i m σ H,W i m σ H ->
  ((Itl K a).stop i H/\D.nx σ H)\/((Itl K a).go i H/\∃ N:St->Hp->Prop,(∀ σ' H',N σ' H'->∃ m',m' < m/\W (i+1) m' σ' H')/\∀ x H',(Itl K a).yld i H x H'->g x σ H' fun σ2 H2=>tb { D with nx:=N,ct:=N,bk:=D.nx } σ2 H2):=by
 refine ⟨fun i m σ H=>m=xs.length - i/\i<=xs.length/\Pv i σ H,⟨xs.length,by simp,E9 _,h0⟩,?_⟩;rintro i m σ H ⟨rfl,hi,p⟩;have q:=hl i σ H hi p
 by_cases hlt:i < xs.length
 ·refine .inr ⟨⟨xs,xs[i],q,by simp [hlt]⟩,Pv (i+1),fun σ' H' p'=>⟨xs.length - (i+1),by omega,rfl,hlt,p'⟩,fun x H' y=> ?_⟩
  obtain ⟨e,y⟩:=y;subst e;exact hs i x σ _ (y xs q) p
 ·have e:i=xs.length:=by omega
  subst e;exact .inl ⟨⟨xs,q,Dy _⟩,hd σ H p⟩
theorem Ca{K:FZ}{a:Addr}{xs:List V}{g:TG}{tb:TS}{D:lq}{σ:St}{H:Hp}(Pv:Nat->St->Hp->Prop)(h0:Pv 0 σ H)(hl:∀ i σ H,i<=xs.length->Pv i σ H->SqT K H a xs)
 (hs:∀ i x σ H,xs[i]?=some x->Pv i σ H->g x σ H fun σ2 H2=>tb { D with nx:=Pv (i+1),ct:=Pv (i+1),bk:=D.nx } σ2 H2) (hd:∀ σ H,Pv xs.length σ H->D.nx σ H) :
 ∃ W:Nat->Nat->St->Hp->Prop,(∃ m,W 0 m σ H)/\∀ i m σ H,W i m σ H ->
  ((Itt K a).stop i H/\D.nx σ H)\/((Itt K a).go i H/\∃ N:St->Hp->Prop,(∀ σ' H',N σ' H'->∃ m',m' < m/\W (i+1) m' σ' H')/\∀ x H',(Itt K a).yld i H x H'->g x σ H' fun σ2 H2=>tb { D with nx:=N,ct:=N,bk:=D.nx } σ2 H2):=by
 refine ⟨fun i m σ H=>m=xs.length - i/\i<=xs.length/\Pv i σ H,⟨xs.length,by simp,E9 _,h0⟩,?_⟩;rintro i m σ H ⟨rfl,hi,p⟩;have q:=hl i σ H hi p
 by_cases hlt:i < xs.length
 ·refine .inr ⟨⟨xs,xs[i],q,by simp [hlt]⟩,Pv (i+1),fun σ' H' p'=>⟨xs.length - (i+1),by omega,rfl,hlt,p'⟩,fun x H' y=> ?_⟩
  obtain ⟨e,y⟩:=y;subst e;exact hs i x σ _ (y xs q) p
 ·have e:i=xs.length:=by omega
  subst e;exact .inl ⟨⟨xs,q,Dy _⟩,hd σ H p⟩
abbrev R2:=V->V->Hp->VK->Prop
noncomputable def OpR(X:Cx)(f:Value->Value->Sem Value)(r:R2):Prop :=
 ∀ (pins:List (Addr×Obj)) (s:Shared) (σ:St) (H:Hp) (x y:V) (v u:Value) (Q:VK),Inv X pins σ H s->aG x v->aG y u->r x y H Q ->
  wpAny (model X.prog X.w) X.A (f v u) (EP X pins σ Q) X.xe s
noncomputable def aH(X:Cx)(f:Value)(r:List V->Hp->VK->Prop):Prop :=
 ∀ (pins:List (Addr×Obj)) (s:Shared) (σ:St) (H:Hp) (xs:List V) (us:List Value) (Q:VK),Inv X pins σ H s->aC xs us->r xs H Q ->
  wpAny (model X.prog X.w) X.A (call f us) (EP X pins σ Q) X.xe s
noncomputable def TruR(X:Cx)(r:V->Hp->(Bool->Hp->Prop)->Prop):Prop :=
 ∀ (pins:List (Addr×Obj)) (s:Shared) (σ:St) (H:Hp) (x:V) (v:Value) (Q:Bool->Hp->Prop),Inv X pins σ H s->aG x v->r x H Q ->
  wpAny (model X.prog X.w) X.A (truthy v) (TP X pins σ Q) X.xe s
noncomputable def tOp(r:R2)(ta tb:TE):TE:=fun σ H Q=>ta σ H fun x H1=>tb σ H1 fun y H2=>r x y H2 Q
noncomputable def rI(C:Int->Int->Prop)(g:Int->Int->V):R2:=fun x y H Q=>∃ i j,x = .int i/\y = .int j/\C i j/\Q (g i j) H
noncomputable def rI0(g:Int->Int->V):R2:=fun x y H Q=>∃ i j,x = .int i/\y = .int j/\Q (g i j) H
section
variable{X:Cx}{a b c:Expr}{ta tb tc:TE}{pos:Pos}
theorem binT(ha:PE X a ta)(hb:PE X b tb){pins:List (Addr×Obj)}{s:Shared}{σ:St}{H:Hp}{R:V->V->Hp->Prop}(I:Inv X pins σ H s)
 (h:ta σ H fun x H1=>tb σ H1 fun y H2=>R x y H2) {Q:Value->Shared->Prop} {f:Value->Value->Sem Value}
 (hf:∀ v u s2 x y H2,Inv X pins σ H2 s2->aG x v->aG y u->R x y H2->wpAny (model X.prog X.w) X.A (f v u) Q X.xe s2) :
 wpAny (model X.prog X.w) X.A (eval a X.env) (fun v s₁=>wpAny (model X.prog X.w) X.A (eval b X.env) (fun u s₂=>wpAny (model X.prog X.w) X.A (f v u) Q X.xe s₂) X.xe s₁) X.xe s:=by
 refine thn (ha pins s σ H _ I h) fun v s1 ⟨x,H1,I1,r1,q1⟩=> ?_
 refine thn (hb pins s1 σ H1 _ I1 q1) fun u s2 ⟨y,H2,I2,r2,q2⟩=> ?_
 exact hf v u s2 x y H2 I2 r1 r2 q2
theorem CW{op:Operator}{r:R2}(ho:OpR X (binaryOp op) r)(ha:PE X a ta)(hb:PE X b tb):PE X (.BinOp a op b pos) (tOp r ta tb):=by
 intro pins s σ H Q I h;exact wpAny_BinOp (binT ha hb I h fun v u s2 x y H2 I2 rx ry q=>ho pins s2 σ H2 x y v u Q I2 rx ry q)
theorem opI{f:Value->Value->Sem Value}{C:Int->Int->Prop}{g:Int->Int->Int}
 (rule:∀ (i j:Int) (t u:Tok) (s:Shared) (Q:Value->Shared->Prop) (E:Value->Shared->Prop),C i j->Q (.int (g i j) s.toks) { s with toks:=s.toks+1 }->wpAny (model X.prog X.w) X.A (f (.int i t) (.int j u)) Q E s) :
 OpR X f (rI C fun i j=> .int (g i j)):=by
 intro pins s σ H x y v u Q I rx ry h;obtain ⟨i,j,rfl,rfl,hc,q⟩:=h;obtain ⟨t,rfl⟩:=rx;obtain ⟨t',rfl⟩:=ry;exact rule i j t t' s _ _ hc ⟨.int (g i j),H,I.tok _,⟨_,rfl⟩,q⟩
theorem opI0{f:Value->Value->Sem Value}{g:Int->Int->Int}
 (rule:∀ (i j:Int) (t u:Tok) (s:Shared) (Q:Value->Shared->Prop) (E:Value->Shared->Prop),Q (.int (g i j) s.toks) { s with toks:=s.toks+1 }->wpAny (model X.prog X.w) X.A (f (.int i t) (.int j u)) Q E s) :
 OpR X f (rI0 fun i j=> .int (g i j)):=by
 intro pins s σ H x y v u Q I rx ry h;obtain ⟨i,j,rfl,rfl,q⟩:=h;obtain ⟨t,rfl⟩:=rx;obtain ⟨t',rfl⟩:=ry;exact rule i j t t' s _ _ ⟨.int (g i j),H,I.tok _,⟨_,rfl⟩,q⟩
theorem BO{f:Value->Value->Sem Value}{g:Int->Int->Bool}
 (rule:∀ (i j:Int) (t u:Tok) (s:Shared) (Q:Value->Shared->Prop) (E:Value->Shared->Prop),Q (.bool (g i j)) s->wpAny (model X.prog X.w) X.A (f (.int i t) (.int j u)) Q E s) :
 OpR X f (rI0 fun i j=> .bl (g i j)):=by
 intro pins s σ H x y v u Q I rx ry h;obtain ⟨i,j,rfl,rfl,q⟩:=h;obtain ⟨t,rfl⟩:=rx;obtain ⟨t',rfl⟩:=ry;exact rule i j t t' s _ _ ⟨.bl (g i j),H,I,rfl,q⟩
noncomputable def CDiv(i j:Int):Prop:=0 < j/\j < 1073741824
noncomputable def CPow(i j:Int):Prop:=0<=j/\j<=1000000/\i.natAbs < 2 ^ 64
noncomputable def xA(i j:Int):Prop:=(-(2 ^ 64) < i/\i < 2 ^ 64)\/(-(2 ^ 64) < j/\j < 2 ^ 64)
theorem xA.ok{i j:Int}(h:xA i j):IntMulOk i j:=by
 rcases h with ⟨h1,h2⟩ | ⟨h1,h2⟩
 ·exact .of_left (intBits_le_64 h1 h2)
 ·exact .of_right (intBits_le_64 h1 h2)
theorem op_add:OpR X (binaryOp .Add) (rI0 fun i j=> .int (i+j)):=opI0 fun _ _ _ _ _ _ _ q=>add_int q
theorem op_sub:OpR X (binaryOp .Sub) (rI0 fun i j=> .int (i - j)):=opI0 fun _ _ _ _ _ _ _ q=>sub_int q
theorem op_mul:OpR X (binaryOp .Mult) (rI xA fun i j=> .int (i * j)):=opI fun _ _ _ _ _ _ _ hc q=>mul_int q hc.ok
theorem BK:OpR X (binaryOp .FloorDiv) (rI CDiv fun i j=> .int (i / j)):=opI fun i j _ _ _ _ _ hc q=>by
 have h1:(0:Int) < j:=hc.1;have h2:j < 1073741824:=hc.2;exact floordiv_int (by omega) (by rw [Int.fdiv_eq_ediv_of_nonneg i (by omega)];exact q) (.inl (PyProof.noPylong_small (by omega)))
theorem op_mod:OpR X (binaryOp .Mod) (rI (fun _ j=>0 < j) fun i j=> .int (i % j)):=opI fun i j _ _ _ _ _ hc q=>by
 have h1:(0:Int) < j:=hc;exact mod_int' (by omega) (by rw [Int.fmod_eq_emod_of_nonneg i (by omega)];exact q)
theorem op_pow:OpR X (binaryOp .Pow) (rI CPow fun i j=> .int (i ^ j.toNat)):=opI fun _ _ _ _ _ _ _ hc q=>pow_int_small hc.1 hc.2.1 hc.2.2 q
end
noncomputable def scal:V->V->Bool
 | .non,.non=>true | .non,.int _=>true | .int _,.non=>true | .non,.bl _=>true | .bl _,.non=>true | .non,.str _=>true | .str _,.non=>true
 | .int _,.int _=>true | .bl _,.bl _=>true | .str _,.str _=>true | .byt _,.byt _=>true
 | .int _,.str _=>true | .str _,.int _=>true | .bl _,.str _=>true | .str _,.bl _=>true
 | _,_=>false
noncomputable def rNe:R2:=fun x y H Q=>scal x y=true/\Q (.bl (!decide (x=y))) H
theorem Cf{i j:Int}:decide (V.int i=V.int j)=(i == j):=by
 rw [E6];simp
theorem dec_bl{i j:Bool}:decide (V.bl i=V.bl j)=(i == j):=by
 rw [E6];simp
theorem Ce{i j:Str}:decide (V.str i=V.str j)=(i == j):=by
 rw [E6];simp
theorem Cg{i j:Array UInt8}:decide (V.byt i=V.byt j)=(i.toList == j.toList):=by
 rw [E6];cases i;cases j;simp
section
variable{X:Cx}{a b c:Expr}{ta tb tc:TE}{pos:Pos}
theorem cA{pins:List (Addr×Obj)}{σ:St}{H:Hp}{s:Shared}{Q:VK}{k k':Bool}(I:Inv X pins σ H s)(q:Q (.bl k) H)(e:k=k'):EP X pins σ Q (.bool k') s:=by
 subst e;exact ⟨.bl k,H,I,rfl,q⟩
theorem op_ne:OpR X (compareOp .NotEq) rNe:=by
 intro pins s σ H x y v u Q I rx ry h;obtain ⟨hs,q⟩:=h
 cases x with
 | non =>
  cases rx
  cases y with
  | non=>cases ry;exact PySem.EqNone.ne_none_none (cA I q (by simp))
  | bl j=>cases ry;exact PySem.EqNone.ne_none_bool (cA I q (by simp))
  | int j=>obtain ⟨t',rfl⟩:=ry;exact PySem.EqNone.ne_none_int (cA I q (by simp))
  | str j=>obtain ⟨t',rfl⟩:=ry;exact PySem.EqNone.ne_none_str (cA I q (by simp))
  | _=>exact absurd (show false=true from hs) DB
 | bl i =>
  cases rx
  cases y with
  | non=>cases ry;exact PySem.EqNone.ne_bool_none (cA I q (by simp))
  | bl j=>cases ry;exact ne_bool (cA I q (congrArg not dec_bl))
  | str j=>obtain ⟨t',rfl⟩:=ry;exact PySem.EqMixed.ne_bool_str (cA I q (by simp))
  | _=>exact absurd (show false=true from hs) DB
 | int i =>
  obtain ⟨t,rfl⟩:=rx
  cases y with
  | non=>cases ry;exact PySem.EqNone.ne_int_none (cA I q (by simp))
  | int j=>obtain ⟨t',rfl⟩:=ry;exact ne_int (cA I q (congrArg not Cf))
  | str j=>obtain ⟨t',rfl⟩:=ry;exact PySem.EqMixed.ne_int_str (cA I q (by simp))
  | _=>exact absurd (show false=true from hs) DB
 | str i =>
  obtain ⟨t,rfl⟩:=rx
  cases y with
  | non=>cases ry;exact PySem.EqNone.ne_str_none (cA I q (by simp))
  | bl j=>cases ry;exact PySem.EqMixed.ne_str_bool (cA I q (by simp))
  | int j=>obtain ⟨t',rfl⟩:=ry;exact PySem.EqMixed.ne_str_int (cA I q (by simp))
  | str j=>obtain ⟨t',rfl⟩:=ry;exact ne_str (cA I q (congrArg not Ce))
  | _=>exact absurd (show false=true from hs) DB
 | byt i =>
  obtain ⟨t,rfl⟩:=rx
  cases y with
  | byt j=>obtain ⟨t',rfl⟩:=ry;exact PySem.W.ne_bytes (cA I q (congrArg not Cg))
  | _=>exact absurd (show false=true from hs) DB
 | _=>cases y<;>exact absurd (show false=true from hs) DB
theorem op_lt:OpR X (compareOp .Lt) (rI0 fun i j=> .bl (decide (i < j))):=BO fun _ _ _ _ _ _ _ q=>lt_int q
theorem yV:OpR X (compareOp .LtE) (rI0 fun i j=> .bl (decide (i<=j))):=BO fun _ _ _ _ _ _ _ q=>le_int q
theorem C3:OpR X (compareOp .Gt) (rI0 fun i j=> .bl (decide (j < i))):=BO fun _ _ _ _ _ _ _ q=>gt_int q
theorem C4:OpR X (compareOp .GtE) (rI0 fun i j=> .bl (decide (j<=i))):=BO fun _ _ _ _ _ _ _ q=>ge_int q
theorem op_isN:OpR X (compareOp .Is) (fun x y H Q=>y = .non/\Q (.bl (decide (x = .non))) H):=by
 intro pins s σ H x y v u Q I rx ry h;obtain ⟨rfl,q⟩:=h;cases ry;refine is_none_gen (cA I q ?_)
 cases x<;>first
  | (cases rx;rfl)
  | (obtain ⟨t,rfl⟩:=rx;rfl)
theorem OpR.or{f:Value->Value->Sem Value}{r r':R2}(h:OpR X f r)(h':OpR X f r'):OpR X f (fun x y H Q=>r x y H Q\/r' x y H Q):=by
 intro pins s σ H x y v u Q I rx ry q
 rcases q with q | q
 ·exact h pins s σ H x y v u Q I rx ry q
 ·exact h' pins s σ H x y v u Q I rx ry q
theorem eG(b:Expr){op:CmpOp}(h:op ≠ .In:=by decide)(h2:op ≠ .NotIn:=by decide):behindInMarks op b=false:=by
 have e1:(op == CmpOp.In)=false:=by cases op<;>first | rfl | exact absurd rfl h
 have e2:(op == CmpOp.NotIn)=false:=by cases op<;>first | rfl | exact absurd rfl h2
 cases b<;>simp [behindInMarks,e1,e2]
theorem BC{op:CmpOp}{r:R2}(ho:OpR X (compareOp op) r)(ha:PE X a ta)(hb:PE X b tb)(hm:behindInMarks op b=false):PE X (.Compare a [op] [b] pos) (tOp r ta tb):=by
 intro pins s σ H Q I h;exact wpAny_Compare1 (binT ha hb I h fun v u s2 x y H2 I2 rx ry q=>ho pins s2 σ H2 x y v u Q I2 rx ry q) hm
noncomputable def tTest(t:TE):TT:=fun σ H Q=>t σ H fun x H'=>∃ k,x = .bl k/\Q k H'
theorem vt{op:CmpOp}{r:R2}(ho:OpR X (compareOp op) r)(ha:PE X a ta)(hb:PE X b tb)(hm:behindInMarks op b=false):PT X (.Compare a [op] [b] pos) (tTest (tOp r ta tb)):=by
 intro pins s σ H Q I h
 refine wpAny_isTrue_Compare1 (thn (ha pins s σ H _ I h) fun v s1 ⟨x,H1,I1,r1,q1⟩=>thn (hb pins s1 σ H1 _ I1 q1) fun u s2 ⟨y,H2,I2,r2,q2⟩ =>
  thn (ho pins s2 σ H2 x y v u _ I2 r1 r2 q2) fun c s3 ⟨z,H3,I3,r3,k,e,q3⟩=> ?_) hm
 subst e;cases r3;exact EK ⟨H3,I3,q3⟩
noncomputable def xP(r r':R2)(ta tb tc:TE):TE:=fun σ H Q=>ta σ H fun x H1=>tb σ H1 fun y H2=>r x y H2 fun z H3=>∃ k,z = .bl k /\
 (if k=true then tc σ H3 fun w' H4=>r' y w' H4 Q else Q (.bl false) H3)
theorem yH{op op':CmpOp}{r r':R2}(ho:OpR X (compareOp op) r)(ho':OpR X (compareOp op') r')(ha:PE X a ta)(hb:PE X b tb)(hc:PE X c tc)
 (hm:lastMarks [op,op'] [b,c]=false:=by with_unfolding_all rfl):PE X (.Compare a [op,op'] [b,c] pos) (xP r r' ta tb tc):=by
 intro pins s σ H Q I h
 refine Compare_chain (thn (ha pins s σ H _ I h) fun v s1 ⟨x,H1,I1,r1,q1⟩=>chain_link (thn (hb pins s1 σ H1 _ I1 q1) fun u s2 ⟨y,H2,I2,r2,q2⟩ =>
  thn (ho pins s2 σ H2 x y v u _ I2 r1 r2 q2) fun d s3 ⟨z,H3,I3,r3,k,e,q3⟩=> ?_)) hm
 subst e;cases r3;refine EK ?_
 cases k with
 | false=>exact ite_ff ⟨.bl false,H3,I3,rfl,q3⟩
 | true=>exact ite_tt (chain_last (thn (hc pins s3 σ H3 _ I3 q3) fun w' s4 ⟨z',H4,I4,r4,q4⟩=>ho' pins s4 σ H4 y z' u w' Q I4 r2 r4 q4))
noncomputable def Cu(K:FZ)(x:V)(H:Hp)(k:Bool):Prop :=
 match x with
 | .non=>k=false
 | .bl b=>k=b
 | .int i=>k=(i != 0)
 | .str y=>y.length<=sizeLine/\k=((y.length:Int) != 0)
 | .byt y=>y.size<=sizeLine/\k=((y.size:Int) != 0)
 | .ref p=>(∃ xs,SqL K H p xs/\k = !xs.isEmpty)\/(∃ xs,SqT K H p xs/\k = !xs.isEmpty)\/∃ kvs,H p=some (.dK kvs)/\k = !kvs.isEmpty
 | _=>False
theorem um{κ:Type}{kvs:List (κ×V)}{vs:List (κ×Value)}(r:KV kvs vs):(!vs.isEmpty) = !kvs.isEmpty:=by
 cases r<;>rfl
theorem mZ{xs:List V}{its:List Value}(r:aC xs its):(!its.toArray.isEmpty) = !xs.isEmpty:=by
 cases r<;>simp
theorem kf:(sizeLine:Nat) < 2 ^ 63:=by rw [sizeLine_eq];decide
theorem tru_ok:TruR X (fun x H Q=>∃ k,Cu X.K x H k/\Q k H):=by
 intro pins s σ H x v Q I rx h;obtain ⟨k,e,q⟩:=h;have hl:=kf;have hs:sizeLine=16777216:=sizeLine_eq
 cases x with
 | non =>
  cases rx;have e':k=false:=e;subst e';exact truthy_none ⟨H,I,q⟩
 | bl b =>
  cases rx;have e':k=b:=e;subst e';exact EK ⟨H,I,q⟩
 | int i =>
  obtain ⟨t,rfl⟩:=rx;have e':k=(i != 0):=e;subst e';exact PySem.P.truthy_int ⟨H,I,q⟩
 | str y =>
  obtain ⟨t,rfl⟩:=rx;obtain ⟨hy,e'⟩:y.length<=sizeLine/\k=((y.length:Int) != 0):=e;subst e';exact PySem.P.truthy_str (by omega) ⟨H,I.tok _,q⟩
 | byt y =>
  obtain ⟨t,rfl⟩:=rx;obtain ⟨hy,e'⟩:y.size<=sizeLine/\k=((y.size:Int) != 0):=e;subst e';exact PySem.W.truthy_bytes (by omega) ⟨H,I.tok _,q⟩
 | ref p =>
  cases rx;have e':(∃ xs,SqL X.K H p xs/\k = !xs.isEmpty)\/(∃ xs,SqT X.K H p xs/\k = !xs.isEmpty)\/∃ kvs,H p=some (.dK kvs)/\k = !kvs.isEmpty:=e
  rcases e' with ⟨xs,hx,e'⟩ | ⟨xs,hx,e'⟩ | ⟨kvs,hx,e'⟩
  ·subst e'
   obtain ⟨its,r,pl,hz⟩:=I.list hx;have hlen:=r.length;exact wpAny_truthy_list pl.isList (by simp only [Du];omega) ⟨H,I.tok _,by rw [mZ r];exact q⟩
  ·subst e'
   obtain ⟨its,r,pl,hz⟩:=I.tuple hx;have hlen:=r.length;exact truthy_tuple pl (by simp only [Du];omega) ⟨H,I.tok _,by rw [mZ r];exact q⟩
  ·subst e'
   obtain ⟨hz,hS,vs,r,m⟩:kvs.length<=sizeLine/\(p == sysModules)=false/\∃ vs,KV kvs vs/\s.heap.DictOf (aV X.prog X.w) p vs:=I.hok p _ hx;have hlen:kvs.length=vs.length:=Paired.length r;exact wpAny_truthy_dict hS m (by omega) ⟨H,I.tok _,by rw [um r];exact q⟩
 | _=>exact (show False from e).elim
theorem yr(ha:PE X a ta)(he:∀ whole,isTrue a X.env whole=(do let v <- whole;standAt a.pos;holding [v] (truthy v))) :
 PT X a (fun σ H Q=>ta σ H fun x H'=>∃ k,Cu X.K x H' k/\Q k H'):=by
 intro pins s σ H Q I h;exact isTrue_plain (thn (ha pins s σ H _ I h) fun v s1 ⟨x,H1,I1,r1,q1⟩=>tru_ok pins s1 σ H1 x v Q I1 r1 q1) (he _)
theorem bT{x:V}{us:List Value}(r:aC [x] us):∃ u,us=[u]/\aG x u:=by
 cases r with
 | cons r1 r2=>cases r2;exact ⟨_,rfl,r1⟩
theorem oD{x y:V}{us:List Value}(r:aC [x,y] us):∃ u w',us=[u,w']/\aG x u/\aG y w':=by
 cases r with
 | cons r1 r2 =>
  cases r2 with
  | cons r3 r4=>cases r4;exact ⟨_,_,rfl,r1,r3⟩
theorem xi(hc:X.calm=true):aH X (.builtin "max") (fun xs H Q=>∃ i j,xs=[.int i,.int j]/\Q (.int (if j > i then j else i)) H):=by
 intro pins s σ H xs us Q I r h;obtain ⟨i,j,rfl,q⟩:=h;obtain ⟨u,w',rfl,⟨t,rfl⟩,⟨t',rfl⟩⟩:=oD r
 refine max_two_ints (I.ok.hd hc) fun h' tk k=>⟨_,H,I.kept k,?_,q⟩
 by_cases hj:j > i
 ·rw [if_pos hj,if_pos hj];exact ⟨_,rfl⟩
 ·rw [if_neg hj,if_neg hj];exact ⟨_,rfl⟩
theorem xa(hc:X.calm=true):aH X (.builtin "min") (fun xs H Q=>∃ i j,xs=[.int i,.int j]/\Q (.int (if j < i then j else i)) H):=by
 intro pins s σ H xs us Q I r h;obtain ⟨i,j,rfl,q⟩:=h;obtain ⟨u,w',rfl,⟨t,rfl⟩,⟨t',rfl⟩⟩:=oD r
 refine min_two_ints (I.ok.hd hc) fun h' tk k=>⟨_,H,I.kept k,?_,q⟩
 by_cases hj:j < i
 ·rw [if_pos hj,if_pos hj];exact ⟨_,rfl⟩
 ·rw [if_neg hj,if_neg hj];exact ⟨_,rfl⟩
theorem xn:aH X (.type "int") (fun xs H Q=>(∃ i,xs=[.int i]/\Q (.int i) H)\/∃ k,xs=[.bl k]/\Q (.int (if k then 1 else 0)) H):=by
 intro pins s σ H xs us Q I r h
 rcases h with ⟨i,rfl,q⟩ | ⟨k,rfl,q⟩
 ·obtain ⟨u,rfl,t,rfl⟩:=bT r
  exact call_int_int ⟨.int i,H,I,⟨_,rfl⟩,q⟩
 ·obtain ⟨u,rfl,r1⟩:=bT r
  cases r1;exact call_int_bool ⟨.int (if k then 1 else 0),H,I.tok _,⟨_,rfl⟩,q⟩
end
section
variable{prog:Program}{w:World}{A:Around}{E:Value->Shared->Prop}{s:Shared}{K:FZ}{x dx C f:Addr}{mA:Str->Option Value}{name:Str}{v:Value}
end
theorem nU.some_of{v:V}{o:Option Value}(r:nU (some v) o):∃ u,o=some u/\aG v u:=by
 cases o with
 | none=>exact (show False from r).elim
 | some u=>exact ⟨u,rfl,r⟩
section
variable{P:Program}{w:World}{H H':Hp}{h h':Heap}{a C dx:Addr}{fs fs':List (Str×V)}
end
structure Cls(K:FZ)(C:Addr):Prop where
 pg:PySem.W.plainGet K C Str.empty=true
 hd:PySem.W.hasDictIn K C=true
 po:PySem.W.plainOver K C=true
 sa:PySem.W.findIn K (.ref C) "__setattr__" = some (some (.builtin "object.__setattr__"))
section
variable{X:Cx}{pins:List (Addr×Obj)}{σ:St}{H:Hp}{s:Shared}{a C dx:Addr}{fs:List (Str×V)}{f:Str}{v:V}{A:Around}{E:Value->Shared->Prop}
end
section
variable{X:Cx}{o e value:Expr}{f:Str}{pos pos' tpos:Pos}{ta tv:TE}
end
section
variable{X:Cx}{pins:List (Addr×Obj)}{σ:St}{H:Hp}{s:Shared}{A:Around}{E:Value->Shared->Prop}{Q:Value->Shared->Prop}{c:Value}{b:Bool}
inductive nS(K:FZ)(H:Hp):V->Value->Prop where
 | non:nS K H .non (.type "NoneType")
 | bl (x:Bool):nS K H (.bl x) (.type "bool")
 | int (i:Int):nS K H (.int i) (.type "int")
 | str (x:Str):nS K H (.str x) (.type "str")
 | flt (x:UInt64):nS K H (.flt x) (.type "float")
 | lst {a:Addr} {xs:List V} (e:H a=some (.lst xs)):nS K H (.ref a) (.type "list")
 | frz {a:Addr} {o:Obj} {xs:List V} (e:H a=some (.frz o (.lst xs))):nS K H (.ref a) (.type "list")
 | tup {a:Addr} {xs:List V} (e:H a=some (.tup xs)):nS K H (.ref a) (.type "tuple")
 | dK {a:Addr} {kvs:List (Key×V)} (e:H a=some (.dK kvs)):nS K H (.ref a) (.type "dict")
 | dT {a:Addr} {kvs:List (List Key×V)} (e:H a=some (.dT kvs)):nS K H (.ref a) (.type "dict")
 | ins {a C dx:Addr} {fs:List (Str×V)} (e:H a=some (.ins C dx fs)) (cl:Cls K C) (ha:PySem.W.findIn K (.ref C) "__class__" = some (some (.builtin "object.__class__")))
  (hn:PySem.W.specialIn K (.builtin "object.__class__") "__get__" = some (some (.builtin "getset_descriptor.__get__"))) (htk:PySem.W.takesIn K (.builtin "object.__class__")=some true)
  (hm:PySem.W.mroIn K C (.type "object")=some true):nS K H (.ref a) (.ref C)
end
structure cx(k:Nat)(A:Around):Prop where
 hd:A.handled=none
 dp:A.depth+3 * k+5 < recursionLimit
 un:A.units+16 * k+200 < cLine
 gd:A.guards=some []:=by rfl
theorem cx.mono{j k:Nat}{A:Around}(r:cx k A)(h:j<=k):cx j A:=⟨r.hd,by have:=r.dp;omega,by have:=r.un;omega,r.gd⟩
theorem cx.deeper{k:Nat}{A:Around}(r:cx (k+1) A)(env:Env):cx k (A.deeper env) :=
 ⟨r.hd,by have:=r.dp;show A.depth+1+3 * k+5 < _;omega,by have:=r.un;show A.units+3+16 * k+200 < _;omega,r.gd⟩
theorem cx.depth{k:Nat}{A:Around}(r:cx k A):A.depth < recursionLimit:=by have:=r.dp;omega
theorem cx.units{k:Nat}{A:Around}(r:cx k A):A.units+64 < cLine:=by have:=r.un;omega
noncomputable def AQ:TA:=fun _ H Q=>Q [] H
noncomputable def oG(ta:TE)(tr:TA):TA:=fun σ H Q=>ta σ H fun x H1=>tr σ H1 fun xs H2=>Q (x::xs) H2
section
variable{X:Cx}{e:Expr}{es:List Expr}{te:TE}{t:TA}{pos:Pos}
theorem ck:PA X [] AQ:=fun _ _ _ _ H Q I h=>Calls.spliced_nil ⟨[],H,I,.nil,h⟩
theorem aA(ha:PE X e te)(hr:PA X es t)(hs:starEach (e::es) X.env=(false,eval e X.env)::starEach es X.env:=by rfl):PA X (e::es) (oG te t):=by
 intro pos pins s σ H Q I h;rw [hs]
 show wpAny _ _ (spliced ((false,eval e X.env)::backTo pos (starEach es X.env))) _ _ s
 refine Calls.spliced_cons (thn (ha pins s σ H _ I h) fun u s1 ⟨x,H1,I1,r1,q1⟩=> ?_)
 exact thn (hr pos pins s1 σ H1 _ I1 q1) fun us s2 ⟨xs,H2,I2,r2,q2⟩=>⟨x::xs,H2,I2,.cons r1 r2,q2⟩
noncomputable def tTup(t:TA):TE:=fun σ H Q=>t σ H fun xs H1=>xs.length<=sizeLine/\∀ p,H1 p=none->Q (.ref p) (upd H1 p (.tup xs))
noncomputable def tLst(t:TA):TE:=fun σ H Q=>t σ H fun xs H1=>xs.length<=sizeLine/\∀ p,H1 p=none->Q (.ref p) (upd H1 p (.lst xs))
theorem pe_tup{x1}(h:PA X es t):PE X (.Tuple es x1 pos) (tTup t):=by
 intro pins s σ H Q I hq;refine wpAny_Tuple_spliced (thn (h pos pins s σ H _ I hq) fun us s1 ⟨xs,H1,I1,r,z,q⟩=>⟨by rw [<- r.length];exact z,?_⟩);have hf:H1 s1.heap.objs.size=none:=I1.hok.fresh (Dy _);refine ⟨.ref s1.heap.objs.size,upd H1 s1.heap.objs.size (.tup xs),I1.laid (t':=s1.toks) (fun b u e=>Dk _ e) (Dy _) ?_,rfl,q _ hf⟩;exact ⟨z,us,r,⟨_,Dw _ rfl,rfl,_,rfl⟩⟩
theorem mF(h:PA X es t):PE X (.List es pos) (tLst t):=by
 intro pins s σ H Q I hq;refine wpAny_List_spliced (thn (h pos pins s σ H _ I hq) fun us s1 ⟨xs,H1,I1,r,z,q⟩=>⟨by rw [<- r.length];exact z,?_⟩);have hf:H1 s1.heap.objs.size=none:=I1.hok.fresh (Dy _);refine ⟨.ref s1.heap.objs.size,upd H1 s1.heap.objs.size (.lst xs),I1.laid (t':=s1.toks) (fun b u e=>Dk _ e) (Dy _) ?_,rfl,q _ hf⟩;exact ⟨z,us,0,r,Dw _ rfl⟩
end
abbrev Sp:=List V->Hp->VK->XK->Prop
abbrev CXT:=List Env->Hp->Shared->XK->Value->Shared->Prop
structure xz(P:Program)(w:World)(K:FZ)(mg:Str->Option Value)(base:Heap)(A:Around)(outer:List Env)(s:Shared)(H:Hp):Prop where
 frames:A.frames=some outer
 mod:Mod K mg base
 bs:∀ b o,base.get? b=some o->s.heap.get? b=some o/\H b=none
 bsz:base.objs.size<=s.heap.objs.size
 funs:s.heap.FunFrames base outer
 frf:∀ b∈frs outer,H b=none
 hok:HOk P w H s.heap
 bare:AllBare s.gens
noncomputable def CE(outer:List Env)(P:Program)(w:World)(H:Hp)(s:Shared)(Q:VK)(u:Value)(s':Shared):Prop :=
 ∃ v H',s'.os=s.os/\AllBare s'.gens/\Un (frs outer) [] H H' s.heap s'.heap/\HOk P w H' s'.heap/\aG v u/\Q v H'
noncomputable def CR(CX:CXT)(outer:List Env)(P:Program)(w:World)(H:Hp)(s:Shared)(Q:VK)(E:XK)(r:Result)(s':Shared):Prop :=
 match r with
 | .ok (.ret u)=>CE outer P w H s Q u s'
 | .ok _=>False
 | .error e=>CX outer H s E e s'
structure kq(P:Program)(w:World)(K:FZ)(mg:Str->Option Value)(base:Heap)(CX:CXT)(k:Nat)(f:Addr)(fd:FuncData)(ps:List Str)(sp:Sp):Prop where
 len:∀ vs H Q E,sp vs H Q E->vs.length=ps.length
 run:∀ (A:Around) (outer:List Env) (s:Shared) (H:Hp) (args:Args) (us:List Value) (vs:List V) (Q:VK) (E:XK),cx k A->xz P w K mg base A outer s H->BindsTo s fd args (ps.zip us)->aC vs us->sp vs H Q E ->
  codeAny (model P w) A (.call (.ref f) args) (CR CX outer P w H s Q E) s
section
variable{X:Cx}{pins:List (Addr×Obj)}{σ:St}{H:Hp}{s s':Shared}
theorem Inv.env0(I:Inv X pins σ H s):xz X.prog X.w X.K X.mg X.base X.A X.stack s H :=
 ⟨I.ok.frames,I.ok.mod,I.bs,Eu I.ok.bsz I.sz,I.stack,I.stkFree,I.hok,I.bare⟩
theorem Inv.after{Q:VK}{u:Value}(I:Inv X pins σ H s)(h:CE X.stack X.prog X.w H s Q u s'):EP X pins σ Q u s':=by
 obtain ⟨v,H',os,bare,un,hok,r,q⟩:=h;obtain ⟨hh,g,d,t,os'⟩:=s';obtain rfl:os'=s.os:=os;exact ⟨v,H',I.call (h':=hh) (g':=g) (d':=d) (t':=t) (ch:=[]) un hok bare (fun b z=>absurd z (by simp)),r,q⟩
end
noncomputable def u5(sp:Sp)(dvs:List V)(E:XK)(t:TA):TE:=fun σ H Q=>t σ H fun vs H1=>sp (vs++dvs) H1 Q E
noncomputable def jV(K:FZ)(fd:FuncData)(ps:List Str)(ds:List Value):Prop :=
 ∀ (s:Shared) (us:List Value),K.In s.heap->(us++ds).length=ps.length->BindsTo s fd ⟨us,[]⟩ (ps.zip (us++ds))
theorem jV.all{K:FZ}{fd:FuncData}{ps:List Str}(h:∀ us:List Value,us.length=ps.length->bindArgs fd ⟨us,[]⟩=pure (ps.zip us)):jV K fd ps []:=fun s us _ hl=>by
 rw [DW] at hl ⊢;exact .of_eq (h us hl)
noncomputable def uX(CX:CXT)(X:Cx)(E:XK):Prop:=∀ (pins:List (Addr×Obj)) (σ:St) (H:Hp) (s:Shared) (e:Value) (s':Shared),Inv X pins σ H s->CX X.stack H s E e s'->X.xe e s'
section
variable{X:Cx}{CX:CXT}{k:Nat}{f C:Addr}{fd:FuncData}{ps:List Str}{sp:Sp}{dvs:List V}{ds:List Value}{E:XK}{x m:Str}{p pos apos:Pos}{e o:Expr}{es:List Expr}{ta:TE}{t:TA}
theorem run_fn{pins:List (Addr×Obj)}{σ:St}{H:Hp}{s:Shared}{Q:VK}{us:List Value}{vs:List V}(F:kq X.prog X.w X.K X.mg X.base CX k f fd ps sp)(hr:cx k X.A)(hb:jV X.K fd ps ds)(hd:aC dvs ds)(hx:uX CX X E)
 (I:Inv X pins σ H s) (r:aC vs us) (h:sp (vs++dvs) H Q E):wpAny (model X.prog X.w) X.A (call (.ref f) us) (EP X pins σ Q) X.xe s:=by
 have r2:aC (vs++dvs) (us++ds):=r.append hd
 have hl:(us++ds).length=ps.length:=by rw [<- r2.length];exact F.len _ _ _ _ h
 refine wpAny_call (codeAny_mono (F.run X.A X.stack s H ⟨us,[]⟩ (us++ds) (vs++dvs) Q E hr I.env0 (hb s us I.kIn hl) r2 h) fun r s' hq=> ?_)
 cases r with
 | error e=>exact hx pins σ H s e s' I hq
 | ok fl =>
  cases fl with
  | ret u=>exact I.after hq
  | next=>exact False.elim hq
  | brk=>exact False.elim hq
  | cont=>exact False.elim hq
theorem vx(F:kq X.prog X.w X.K X.mg X.base CX k f fd ps sp)(hr:cx k X.A)(hg:Gl X x)(hm:X.mg x=some (.ref f))(hk:PySem.W.keepIn X.K (.ref f)=true)(hb:jV X.K fd ps ds)(hd:aC dvs ds)(hx:uX CX X E)
 (ha:PA X (e::es) t) (hdb:(x == ("__debug__" : Str))=false:=by decide) (he:starEach (e::es) X.env=(false,eval e X.env)::starEach es X.env:=by rfl) (hpl:(backTo pos (starEach es X.env)).any (·.1)=false:=by rfl) :
 PE X (.Call (.Name x p) (e::es) [] pos) (u5 sp dvs E t):=by
 intro pins s σ H Q I h;refine Fw (hV I hg hm ?_ hdb);refine PySem.W.callWith_K (h₀:=X.base) I.ok.mod.kin hk (thn (ha pos pins s σ H _ I h) fun us s1 ⟨vs,H1,I1,r,q⟩=>⟨I1.kIn,?_⟩) he hpl;exact run_fn F hr hb hd hx I1 r q
end
section
variable{X:Cx}{CX:CXT}{k:Nat}{f C:Addr}{fd:FuncData}{ps ks:List Str}{sp:Sp}{E:XK}{x m:Str}{p pos apos kpos:Pos}{e o:Expr}{es:List Expr}{kws:List Keyword}{te ta:TE}{t tk:TA}{nm:Option Str}
variable{g:List Value->List Value->List Value}{gV:List V->List V->List V}
end
structure cy(N P:List Str)(sc:Scope):Prop where
 kind:sc.kind = .function
 co:sc.isCoroutine=false
 gen:sc.isGenerator=false
 nd:N.Nodup
 pre:N.take P.length=P
 par:∀ x∈P,sc.names.lookup x=some .local\/sc.names.lookup x=some .cell
 nofree:∀ y∈sc.names,y.2 ≠ .free
theorem pw{kindOf:Str->Option NameKind}{x:Str}:∀ {binds:List (Str×Value)} {m:Str->Option Value},(∀ v,(x,v)∉binds)->bindL kindOf binds m x=m x
 | [],_,_=>rfl
 | (n,v)::r,m,h=>by
  unfold bindL;rw [pw fun w hw=>h w (Dr _ hw)]
  split
  ·have:x≠n:=by rintro rfl;exact h v Dv
   simp [this]
  ·rfl
theorem pz{kindOf:Str->Option NameKind}{x:Str}:∀ {binds:List (Str×Value)} {m:Str->Option Value},(∀ v,(x,v)∉binds)->bindC kindOf binds m x=m x
 | [],_,_=>rfl
 | (n,v)::r,m,h=>by
  unfold bindC;rw [pz fun w hw=>h w (Dr _ hw)]
  split
  ·rfl
  ·have:x≠n:=by rintro rfl;exact h v Dv
   simp [this]
theorem px{kindOf:Str->Option NameKind}{x:Str}{v:Value}:∀ {P:List Str} {vs:List Value} {i:Nat} {m:Str->Option Value},P.Nodup->P[i]?=some x->vs[i]?=some v->kindOf x=some .local ->
 bindL kindOf (P.zip vs) m x=some v
 | [],_,_,_,_,h,_,_=>by simp at h
 | _::_,[],_,_,_,_,h,_=>by simp at h
 | p::P,w::vs,0,m,nd,h1,h2,hk=>by
  simp at h1 h2;subst h1;subst h2
  show bindL kindOf ((p,w)::P.zip vs) m p=_
  unfold bindL;rw [pw fun v hv=>(Er.mp nd).1 (FQ hv).1,if_pos hk];simp
 | p::P,w::vs,i+1,m,nd,h1,h2,hk=>by
  show bindL kindOf ((p,w)::P.zip vs) m x=_
  unfold bindL;exact px (i:=i) (Er.mp nd).2 (by simpa using h1) (by simpa using h2) hk
theorem pA{kindOf:Str->Option NameKind}{x:Str}{v:Value}:∀ {P:List Str} {vs:List Value} {i:Nat} {m:Str->Option Value},P.Nodup->P[i]?=some x->vs[i]?=some v->kindOf x≠some .local ->
 bindC kindOf (P.zip vs) m x=some v
 | [],_,_,_,_,h,_,_=>by simp at h
 | _::_,[],_,_,_,_,h,_=>by simp at h
 | p::P,w::vs,0,m,nd,h1,h2,hk=>by
  simp at h1 h2;subst h1;subst h2
  show bindC kindOf ((p,w)::P.zip vs) m p=_
  unfold bindC;rw [pz fun v hv=>(Er.mp nd).1 (FQ hv).1,if_neg hk];simp
 | p::P,w::vs,i+1,m,nd,h1,h2,hk=>by
  show bindC kindOf ((p,w)::P.zip vs) m x=_
  unfold bindC;exact pA (i:=i) (Er.mp nd).2 (by simpa using h1) (by simpa using h2) hk
noncomputable def cQ(N:List Str)(vs:List V):St:=vs.map some++List.replicate (N.length - vs.length) none
noncomputable def bZ(CX:CXT)(P:Program)(w:World)(K:FZ)(mg:Str->Option Value)(base:Heap)(N:List Str)(qual:Str)(scope:Scope)(f:Addr)(cd:Value)(A:Around)(outer:List Env)(s:Shared)(H:Hp)(E:XK):Cx where
 prog:=P
 w:=w
 K:=K
 mg:=mg
 base:=base
 A:=A.deeper (envOfC qual scope s.heap.objs.size f cd)
 N:=N
 s₀:=s
 H₀:=H
 env:=envOfC qual scope s.heap.objs.size f cd
 outer:=outer
 stack:=envOfC qual scope s.heap.objs.size f cd::outer
 ex:=[]
 calm:=true
 fn:=fun _=>true
 pn:=[]
 xe:=fun e s'=>wpAny (model P w) (A.deeper (envOfC qual scope s.heap.objs.size f cd)) (leaving (envOfC qual scope s.heap.objs.size f cd) e) (fun _ s''=>CX outer H s E e s'') (fun e' s''=>CX outer H s E e' s'') s'
theorem sY{sc:Scope}{n:Nat}{x:Str}(h:sc.names.lookup x=some .cell):∃ c,(cellsFrom n sc.names []).lookup x=some c:=by
 have q:=PySem.W.cellsFrom_some sc.names n [] (.inl h);exact Option.isSome_iff_exists.mp q
theorem o7{CX:CXT}{P:Program}{w:World}{K:FZ}{mg:Str->Option Value}{base:Heap}{N ps:List Str}{qual:Str}{scope:Scope}{f:Addr}{cd:Value}{A:Around}{outer:List Env}{s s1:Shared}{H:Hp}{E:XK}{us:List Value}{vs:List V}
 (S:cy N ps scope) (hd:A.handled=none) (e0:xz P w K mg base A outer s H) (hl:vs.length=ps.length) (r:aC vs us)
 (x:InCallC s s.heap.objs.size (bindL (envOfC qual scope s.heap.objs.size f cd).kindOf (ps.zip us) fun _=>none) (cellsFrom (s.heap.objs.size+1) scope.names []) (bindC (envOfC qual scope s.heap.objs.size f cd).kindOf (ps.zip us) fun _=>none) s1) :
 Inv (bZ CX P w K mg base N qual scope f cd A outer s H E) [] (cQ N vs) H s1:=by
 have hpl:ps.length<=N.length:=by have:=congrArg List.length S.pre;rw [EU] at this;omega
 obtain ⟨h1,tk,rfl,hk⟩:=x.done
 have noA:∀ b:Addr,b∉(bZ CX P w K mg base N qual scope f cd A outer s H E).ex:=fun b z=>absurd (show b∈([]:List Addr) from z) (by simp)
 refine ⟨⟨e0.mod,S.kind,rfl,rfl,Dy _,fun y z c h1 h2=> ?_,fun y hy=> ?_,fun y c _ h=> ?_,fun _=>hd,Around.frames_deeper e0.frames,.inr ⟨rfl,rfl⟩,fun b z=>absurd z (noA b),e0.bs,e0.bsz,fun b _ _=>noA b,fun b z=>absurd z (noA b),e0.funs,e0.frf⟩,
  rfl,e0.bare,Un.kept hk,⟨_,x.toInCall.ns,fun i y v h1 h2 h3=> ?_⟩,fun y c h=>⟨_,x.cell y c h⟩,e0.hok.fresh (Dy _),fun y c h=> ?_,fun p hp=>absurd (show p∈([]:List (Addr×Obj)) from hp) (by simp),e0.hok.kept hk,?_⟩
 ·exact name_of_addr x.apart (Ey h1) (Ey h2)
 ·have hy:scope.names.lookup y=some .cell\/scope.names.lookup y=some .free:=hy
  rcases hy with hy | hy
  ·exact sY hy
  ·exact absurd rfl (S.nofree _ (Ey hy))
 ·exact EV (x.above y c (Ey h))
 ·have hi:i < vs.length:=by
   unfold cQ at h2
   by_cases hi:i < vs.length
   ·exact hi
   ·rw [Ek (by simpa using hi)] at h2
    rw [Fb] at h2
    split at h2<;>cases h2
  have ha:vs[i]?=some v:=by
   unfold cQ at h2;rw [DQ (by simpa using hi),DM] at h2
   cases e:vs[i]? with
   | none=>rw [e] at h2;cases h2
   | some a=>rw [e] at h2;cases h2;rfl
  obtain ⟨u,hu,rv⟩:=r.get ha
  have hp:ps[i]?=some y:=by
   rw [<- S.pre,List.getElem?_take_of_lt (by omega)];exact h1
  have ndP:ps.Nodup:=by rw [<- S.pre];exact S.nd.sublist (List.take_sublist _ _)
  refine ⟨u,rv,?_⟩
  rcases S.par y (DD hp) with k | k
  ·exact .inl ⟨k,px ndP hp hu k⟩
  ·obtain ⟨c,e⟩:=sY (n:=s.heap.objs.size+1) k
   refine .inr ⟨.inl k,c,e,?_⟩;have q:=x.cell y c e;rw [pA ndP hp hu (by show scope.names.lookup y≠_;rw [k];decide)] at q;exact q
 ·exact e0.hok.fresh (EV (x.above y c (Ey h)))
 ·unfold cQ
  show _=N.length
  rw [DI,Do,EB];omega
theorem zX{CX:CXT}{P:Program}{w:World}{K:FZ}{mg:Str->Option Value}{base:Heap}{k:Nat}{f:Addr}{name qual:Str}{params:Arguments}{body:List Stmt}{scope:Scope}{dV kV doc pm cdv ct oc:Value}{an od:Option Addr}
 {osl:Array (Option Value)} {N ps:List Str} {sp:Sp} (lk:K.lookup f=some ⟨oc,od,.func (PySem.W.fnOf name qual params body scope dV kV doc pm an cdv ct),osl⟩) (hcd:PySem.W.codeIn K cdv qual=true) (S:cy N ps scope)
 (len:∀ vs H Q E,sp vs H Q E->vs.length=ps.length)
 (hbody:∀ (A:Around) (outer:List Env) (s:Shared) (H:Hp) (vs:List V) (Q:VK) (E:XK),cx k (A.deeper (envOfC qual scope s.heap.objs.size f cdv))->sp vs H Q E ->
   ∃ t,PSs (bZ CX P w K mg base N qual scope f cdv A outer s H E) body t/\t { nx:=fun _ H'=>Q .non H',rt:=Q } (cQ N vs) H) :
 kq P w K mg base CX (k+1) f (PySem.W.fnOf name qual params body scope dV kV doc pm an cdv ct) ps sp:=by
 refine ⟨len,fun A outer s H args us vs Q E hr e0 hb r hsp=> ?_⟩;have hl:=len _ _ _ _ hsp
 have KX:K.In s.heap:=e0.mod.kin.keeps fun b o e=>(e0.bs b o e).1
 have lim:s.heap.NoLimit:=e0.mod.nolimit.keeps fun b o e=>(e0.bs b o e).1
 have hkind:∀ y∈ps.zip us,scope.names.lookup y.1=some .local\/(scope.names.lookup y.1=some .cell/\((cellsFrom (s.heap.objs.size+1) scope.names []).lookup y.1).isSome=true):=fun ⟨n,v⟩ hy=>by
  rcases S.par n (FQ hy).1 with q | q
  ·exact .inl q
  ·exact .inr ⟨q,PySem.W.cellsFrom_some _ _ _ (.inl q)⟩
 refine codeAny_call_function hr.depth (KX _ _ lk) rfl S.co S.gen rfl (PySem.W.codeRec_of KX hcd) (hb _ _ _ _ ?_)
 refine wpAny_newFunctionEnv_cells S.kind hkind fun env he s1 x=> ?_
 subst he;refine ⟨lim.keeps x.toInCall.keep,codeAny_func ?_⟩;obtain ⟨t,ht,hq⟩:=hbody A outer s H vs Q E (hr.deeper _) hsp;have I:Inv (bZ CX P w K mg base N qual scope f cdv A outer s H E) [] (cQ N vs) H s1:=o7 S hr.hd e0 hl r x
 refine EA (ht [] s1 (cQ N vs) H _ I hq) (fun fl s' hs=> ?_) fun e s' hs=>hs
 have fin:∀ {σ':St} {H':Hp} {v:V} {u:Value},Inv (bZ CX P w K mg base N qual scope f cdv A outer s H E) [] σ' H' s'->aG v u->Q v H'->CE outer P w H s Q u s' :=
  fun {σ' H' v u} J rv q=>⟨v,H',J.os,J.bare,J.base,J.hok,rv,q⟩
 cases fl with
 | ret u =>
  obtain ⟨v,σ',H',J,rv,q⟩:=hs;exact fin J rv q
 | next =>
  obtain ⟨σ',H',J,q⟩:=hs;exact fin (v:=V.non) (u:=Value.none) J rfl q
 | brk =>
  obtain ⟨_,_,_,q⟩:=hs;exact False.elim q
 | cont =>
  obtain ⟨_,_,_,q⟩:=hs;exact False.elim q
section
variable{X:Cx}{x:Str}{p pos:Pos}{e:Expr}{es:List Expr}{t:TA}{id T:String}{r:List V->Hp->VK->Prop}
noncomputable def tCB(r:List V->Hp->VK->Prop)(t:TA):TE:=fun σ H Q=>t σ H fun vs H1=>r vs H1 Q
theorem jt(hc:aH X (.builtin id) r)(hg:Gl X x)(hm:X.mg x=none)(hv:bootBuiltins x=some (.builtin id))(ha:PA X (e::es) t)(hn:x ≠ "__name__" := by decide)(hdb:(x == ("__debug__" : Str))=false:=by decide)
 (he:starEach (e::es) X.env=(false,eval e X.env)::starEach es X.env:=by rfl) (hpl:(backTo pos (starEach es X.env)).any (·.1)=false:=by rfl):PE X (.Call (.Name x p) (e::es) [] pos) (tCB r t):=by
 intro pins s σ H Q I h;refine Fw (iV I hg hm hv ?_ hn hdb);exact PyProof.Rows.callWith_builtin1 (thn (ha pos pins s σ H _ I h) fun us s1 ⟨vs,H1,I1,r1,q1⟩=>hc pins s1 σ H1 vs us Q I1 r1 q1) he hpl
theorem wp(hc:aH X (.type T) r)(hg:Gl X x)(hm:X.mg x=none)(hv:bootBuiltins x=some (.type T))(ha:PA X (e::es) t)(hn:x ≠ "__name__" := by decide)(hdb:(x == ("__debug__" : Str))=false:=by decide)
 (he:starEach (e::es) X.env=(false,eval e X.env)::starEach es X.env:=by rfl) (hpl:(backTo pos (starEach es X.env)).any (·.1)=false:=by rfl):PE X (.Call (.Name x p) (e::es) [] pos) (tCB r t):=by
 intro pins s σ H Q I h;refine Fw (iV I hg hm hv ?_ hn hdb);exact PyProof.Rows.callWith_type1 (thn (ha pos pins s σ H _ I h) fun us s1 ⟨vs,H1,I1,r1,q1⟩=>hc pins s1 σ H1 vs us Q I1 r1 q1) he hpl
end
section
variable{κ:Type}[DecidableEq κ]
noncomputable def dY(kvs:List (κ×V))(k:κ):Option V:=(kvs.find? fun kv=>decide (kv.1=k)).map (·.2)
noncomputable def eN(kvs:List (κ×V))(k:κ)(v:V):List (κ×V) :=
 if (kvs.any fun kv=>decide (kv.1=k))=true then kvs.map (fun kv=>if kv.1=k then (kv.1,v) else kv) else kvs++[(k,v)]
theorem je{p:κ×V}{r:List (κ×V)}{k:κ}(e:p.1=k):dY (p::r) k=some p.2:=by simp [dY,FC,e]
theorem jf{p:κ×V}{r:List (κ×V)}{k:κ}(e:¬ p.1=k):dY (p::r) k=dY r k:=by simp [dY,FC,e]
theorem qZ(k:κ):∀ kvs:List (κ×V),(kvs.any fun kv=>decide (kv.1=k))=(dY kvs k).isSome
 | []=>rfl
 | p::r=>by
  rw [List.any_cons]
  by_cases e:p.1=k
  ·simp only [je e,DF e,FK,Option.isSome_some]
  ·rw [jf e,DO e,Fk];exact qZ k r
theorem gE(kvs:List (κ×V))(k:κ)(v:V):(eN kvs k v).length<=kvs.length+1:=by
 unfold eN
 split
 ·rw [Do];omega
 ·rw [DI,Dq,EH];omega
theorem nU.isSome_eq{o:Option V}{u:Option Value}(r:nU o u):o.isSome=u.isSome:=by
 cases o with
 | none=>cases u with
  | none=>rfl
  | some _=>exact (show False from r).elim
 | some _=>cases u with
  | none=>exact (show False from r).elim
  | some _=>rfl
theorem KV.val{kvs:List (κ×V)}{vs:List (κ×Value)}(r:KV kvs vs)(k:κ):nU (dY kvs k) (valueAt vs k):=by
 unfold KV at r
 induction r with
 | nil=>exact True.intro
 | @cons p q ps qs h t ih =>
  obtain ⟨h1,h2⟩:=h
  by_cases e:p.1=k
  ·have e':q.1=k:=h1.symm.trans e
   have b:valueAt (q::qs) k=some q.2:=by simp [valueAt,FC,e']
   rw [je e,b];exact h2
  ·have e':¬ q.1=k:=fun z=>e (h1.trans z)
   have b:valueAt (q::qs) k=valueAt qs k:=by simp [valueAt,FC,e']
   rw [jf e,b];exact ih
theorem KV.any{kvs:List (κ×V)}{vs:List (κ×Value)}(r:KV kvs vs)(k:κ):(kvs.any fun kv=>decide (kv.1=k))=vs.any fun kv=>decide (kv.1=k):=by
 unfold KV at r
 induction r with
 | nil=>rfl
 | cons h t ih=>rw [List.any_cons,List.any_cons,ih,h.1]
theorem KV.repl{kvs:List (κ×V)}{vs:List (κ×Value)}(r:KV kvs vs)(k:κ){y:V}{u:Value}(ry:aG y u) :
 KV (kvs.map fun kv=>if kv.1=k then (kv.1,y) else kv) (vs.map fun kv=>if kv.1=k then (kv.1,u) else kv):=by
 unfold KV at r ⊢
 induction r with
 | nil=>exact .nil
 | @cons p q ps qs h t ih =>
  rw [DE,DE];refine .cons ?_ ih;obtain ⟨h1,h2⟩:=h
  by_cases e:p.1=k
  ·rw [if_pos e,if_pos (h1.symm.trans e)];exact ⟨h1,ry⟩
  ·rw [if_neg e,if_neg (fun z=>e (h1.trans z))];exact ⟨h1,h2⟩
theorem KV.put{kvs:List (κ×V)}{vs:List (κ×Value)}(r:KV kvs vs)(k:κ){y:V}{u:Value}(ry:aG y u):KV (eN kvs k y) (stored vs k u):=by
 unfold eN stored;rw [r.any k]
 by_cases e:(vs.any fun kv=>decide (kv.1=k))=true
 ·rw [if_pos e,if_pos e];exact r.repl k ry
 ·rw [if_neg e,if_neg e];exact Paired.snoc r ⟨rfl,ry⟩
theorem KV.length{kvs:List (κ×V)}{vs:List (κ×Value)}(r:KV kvs vs):kvs.length=vs.length:=Paired.length r
end
theorem kG{P:Program}{w:World}{k:Key}{u:Value}(r:aG (kV k) u):(aV P w).is k u=true:=by
 cases k with
 | inl i=>obtain ⟨t,e⟩:=(show ∃ t,u=Value.int i t from r);subst e;exact sj P w i t
 | inr x=>obtain ⟨t,e⟩:=(show ∃ t,u=Value.str x t from r);subst e;exact eW P w x t
theorem o5{P:Program}{w:World}:∀ {ks:List Key} {us:List Value},aC (ks.map kV) us->ItemsAre (aV P w) ks us
 | [],_,r=>by rw [ES] at r;cases r;exact .nil
 | k::ks,_,r=>by
  rw [DE] at r
  cases r with
  | cons h t=>exact .cons (kG h) (o5 t)
abbrev KT(H:Hp):List (List Key×V)->List (List Key×Addr×Value)->Prop:=Paired fun p q=>p.1=q.1/\H q.2.1=some (.tup (p.1.map kV))/\aG p.2 q.2.2
theorem KT.val{H:Hp}{kvs:List (List Key×V)}{xs:List (List Key×Addr×Value)}(r:KT H kvs xs)(k:List Key):nU (dY kvs k) ((atKey xs k).map (·.2)):=by
 induction r with
 | nil=>exact True.intro
 | @cons p q ps qs h t ih =>
  obtain ⟨h1,_,h2⟩:=h
  by_cases e:p.1=k
  ·have e':q.1=k:=h1.symm.trans e
   have b:atKey (q::qs) k=some q.2:=by simp [atKey,FC,e']
   rw [je e,b];exact h2
  ·have e':¬ q.1=k:=fun z=>e (h1.trans z)
   have b:atKey (q::qs) k=atKey qs k:=by simp [atKey,FC,e']
   rw [jf e,b];exact ih
theorem KT.repl{H:Hp}{kvs:List (List Key×V)}{xs:List (List Key×Addr×Value)}(r:KT H kvs xs)(k:List Key){y:V}{u:Value}(ry:aG y u) :
 KT H (kvs.map fun kv=>if kv.1=k then (kv.1,y) else kv) (xs.map (putAt k u)):=by
 induction r with
 | nil=>exact .nil
 | @cons p q ps qs h t ih =>
  rw [DE,DE];refine .cons ?_ ih;obtain ⟨h1,h2,h3⟩:=h;unfold putAt
  by_cases e:p.1=k
  ·rw [if_pos e,if_pos (h1.symm.trans e)];exact ⟨h1,h2,ry⟩
  ·rw [if_neg e,if_neg (fun z=>e (h1.trans z))];exact ⟨h1,h2,h3⟩
theorem KT.put{H:Hp}{kvs:List (List Key×V)}{xs:List (List Key×Addr×Value)}(r:KT H kvs xs)(k:List Key){b:Addr}{y:V}{u:Value}(hb:H b=some (.tup (k.map kV)))(ry:aG y u) :
 KT H (eN kvs k y) (storedH xs k b u):=by
 have e:(kvs.any fun kv=>decide (kv.1=k))=(atKey xs k).isSome:=by
  rw [qZ,(r.val k).isSome_eq,Option.isSome_map]
 unfold eN storedH;rw [e]
 by_cases q:(atKey xs k).isSome=true
 ·rw [if_pos q,if_pos q];exact r.repl k ry
 ·rw [if_neg q,if_neg q];exact Paired.snoc r ⟨rfl,hb,ry⟩
theorem KT.keeps{H H':Hp}{kvs:List (List Key×V)}{xs:List (List Key×Addr×Value)}(r:KT H kvs xs)(ht:∀ b ys,H b=some (.tup ys)->H' b=some (.tup ys)):KT H' kvs xs :=
 Paired.mapP r fun _ _ z=>⟨z.1,ht _ _ z.2.1,z.2.2⟩
section
variable{P:Program}{w:World}{H:Hp}{h:Heap}{a:Addr}
theorem CG{u:HO}(ok:HOk P w H h)(e:Rd H a u):bA P w H h a u:=e.ok ok
theorem sU{kvs:List (Key×V)}(ok:HOk P w H h)(e:Rd H a (.dK kvs)):kvs.length<=sizeLine/\(a == sysModules)=false/\∃ vs,KV kvs vs/\h.DictOf (aV P w) a vs :=
 show bA P w H h a (.dK kvs) from CG ok e
theorem Db{kvs:List (Key×V)}(ok:HOk P w H h)(e:H a=some (.dK kvs)):kvs.length<=sizeLine/\(a == sysModules)=false/\∃ vs,KV kvs vs/\h.DictOf (aV P w) a vs:=sU ok (.inl e)
theorem qB{ks:List Key}(ok:HOk P w H h)(e:H a=some (.tup (ks.map kV))):(tupleKind (aV P w)).is h ks a:=by
 obtain ⟨_,its,r,o,h1,h2,n,h3⟩:=(show bA P w H h a (.tup (ks.map kV)) from ok a _ e);exact ⟨o,its.toArray,n,h1,h2,h3,by simpa using o5 r⟩
theorem vL{kvs:List (List Key×V)}(ok:HOk P w H h)(e:Rd H a (.dT kvs)):kvs.length<=sizeLine/\(a == sysModules)=false /\
 ∃ xs,KT H kvs xs/\h.DictOfH (tupleKind (aV P w)) a xs:=by
 obtain ⟨z,y,xs,r,o,es,ep,h1,h2,h3,h4,h5⟩:=(show bA P w H h a (.dT kvs) from CG ok e);refine ⟨z,y,xs,r,o,es,ep,h1,h2,h3,h4,fun x hx=> ?_,h5⟩
 have all:∀ {l:List (List Key×V)} {m:List (List Key×Addr×Value)},KT H l m->∀ x∈m,(tupleKind (aV P w)).is h x.1 x.2.1:=by
  intro l m q
  induction q with
  | nil=>intro x hx;exact nomatch hx
  | @cons p q ps qs hq t ih =>
   intro x hx
   rcases Dz.mp hx with e | hx
   ·subst e
    exact qB ok (by rw [<- hq.1];exact hq.2.1)
   ·exact ih x hx
 exact all r x hx
theorem dt_of{kvs:List (List Key×V)}(ok:HOk P w H h)(e:H a=some (.dT kvs)):kvs.length<=sizeLine/\(a == sysModules)=false /\
 ∃ xs,KT H kvs xs/\h.DictOfH (tupleKind (aV P w)) a xs:=vL ok (.inl e)
end
noncomputable def jU(H:Hp)(a:Addr)(y:V)(r:Option V):Prop :=
 (∃ kvs k,Rd H a (.dK kvs)/\y=kV k/\r=dY kvs k)\/∃ kvs k b,Rd H a (.dT kvs)/\y = .ref b/\H b=some (.tup (k.map kV))/\r=dY kvs k
noncomputable def qX(H:Hp)(a:Addr)(y v:V)(H':Hp):Prop :=
 (∃ kvs k,H a=some (.dK kvs)/\y=kV k/\kvs.length < sizeLine/\H'=upd H a (.dK (eN kvs k v))) \/
 ∃ kvs k b,H a=some (.dT kvs)/\y = .ref b/\H b=some (.tup (k.map kV))/\kvs.length < sizeLine/\H'=upd H a (.dT (eN kvs k v))
theorem jU.k{H:Hp}{a:Addr}{kvs:List (Key×V)}{k:Key}(e:H a=some (.dK kvs)):jU H a (kV k) (dY kvs k):= .inl ⟨kvs,k,.inl e,rfl,rfl⟩
theorem jU.t{H:Hp}{a b:Addr}{kvs:List (List Key×V)}{k:List Key}(e:H a=some (.dT kvs))(eb:H b=some (.tup (k.map kV))):jU H a (.ref b) (dY kvs k):= .inr ⟨kvs,k,b,.inl e,rfl,eb,rfl⟩
theorem qX.k{H:Hp}{a:Addr}{kvs:List (Key×V)}{k:Key}{v:V}(e:H a=some (.dK kvs))(hl:kvs.length < sizeLine):qX H a (kV k) v (upd H a (.dK (eN kvs k v))):= .inl ⟨kvs,k,e,rfl,hl,rfl⟩
theorem qX.t{H:Hp}{a b:Addr}{kvs:List (List Key×V)}{k:List Key}{v:V}(e:H a=some (.dT kvs))(eb:H b=some (.tup (k.map kV)))(hl:kvs.length < sizeLine) :
 qX H a (.ref b) v (upd H a (.dT (eN kvs k v))):= .inr ⟨kvs,k,b,e,rfl,eb,hl,rfl⟩
section
variable{X:Cx}{pins:List (Addr×Obj)}{σ:St}{H:Hp}{s:Shared}{a:Addr}{y v:V}{u r:Value}{o:Option V}{A:Around}{E:Value->Shared->Prop}
theorem Inv.big(I:Inv X pins σ H s):sysModules < s.heap.objs.size:=by
 have h:mainGlobals < s.heap.objs.size:=(I.mod.glob.keeps I.bk).lt;exact Nat.lt_trans (by decide) h
theorem wP{Q:Value->Shared->Prop}(hu:A.units+1 < cLine)(I:Inv X pins σ H s)(g:jU H a y (some v))(ry:aG y u)(h:∀ w' s',Inv X pins σ H s'->aG v w'->Q w' s') :
 wpAny (model X.prog X.w) A (getItem (.ref a) u) Q E s:=by
 rcases g with ⟨kvs,k,e,ey,l⟩ | ⟨kvs,k,b,e,ey,eb,l⟩
 ·subst ey
  obtain ⟨z,hd,vs,rel,dd⟩:=sU I.hok e;obtain ⟨w',hw,rw'⟩:=nU.some_of (v:=v) (o:=valueAt vs k) (by rw [l];exact rel.val k);exact wpAny_getItem_of (kG ry) dd.mapOf hw (h w' _ (I.tok _) rw')
 ·subst ey
  cases (show u=Value.ref b from ry);obtain ⟨z,hd,xs,rel,dd⟩:=vL I.hok e;obtain ⟨w',hw,rw'⟩:=nU.some_of (v:=v) (o:=(atKey xs k).map (·.2)) (by rw [l];exact rel.val k);obtain ⟨p,hp,hp2⟩:=Ee.mp hw;refine wpAny_getItem_heap (tupleKind_room_in1 hu) (qB I.hok eb) dd hp ?_;rw [hp2];exact h w' _ (I.tok _) rw'
theorem d_in{Q:Value->Shared->Prop}(hu:A.units+1 < cLine)(I:Inv X pins σ H s)(g:jU H a y o)(ry:aG y u)(h:∀ s',Inv X pins σ H s'->Q (.bool o.isSome) s') :
 wpAny (model X.prog X.w) A (compareOp .In u (.ref a)) Q E s:=by
 rcases g with ⟨kvs,k,e,ey,l⟩ | ⟨kvs,k,b,e,ey,eb,l⟩
 ·subst ey
  obtain ⟨z,hd,vs,rel,dd⟩:=sU I.hok e;refine wpAny_in_of (kG ry) hd dd.mapOf ?_;rw [<- (rel.val k).isSome_eq,<- l];exact h _ (I.tok _)
 ·subst ey
  cases (show u=Value.ref b from ry);obtain ⟨z,hd,xs,rel,dd⟩:=vL I.hok e;refine wpAny_in_heap (tupleKind_room_in1 hu) (qB I.hok eb) hd dd ?_;have q:=(rel.val k).isSome_eq;rw [Option.isSome_map] at q;rw [<- q,<- l];exact h _ (I.tok _)
theorem qG{h':Heap}{t':Nat}{ob:HO}(I:Inv X pins σ H s)(mu:Mut (H a))(hs:Heap.SameBut a s.heap h')(he:∃ q,h'.get? a=some q)(new:bA X.prog X.w (upd H a ob) h' a ob) :
 Inv X pins σ (upd H a ob) { s with heap:=h',toks:=t' } :=
 I.write (x:=a) (e:=a) mu (.inl rfl) (fun b q hb z=>(hs.2 b hb).trans z) he new
theorem Ag{P:Program}{w:World}{H':Hp}{h':Heap}{kvs:List (Key×V)}{vs:List (Key×Value)}(z:kvs.length<=sizeLine)(hd:(a == sysModules)=false)(rel:KV kvs vs)(dd:h'.DictOf (aV P w) a vs) :
 bA P w H' h' a (.dK kvs):=⟨z,hd,vs,rel,dd⟩
theorem wO{H':Hp}{Q:Unit->Shared->Prop}(hu:A.units+1 < cLine)(I:Inv X pins σ H s)(g:qX H a y v H')(ry:aG y u)(rv:aG v r)(h:∀ s',Inv X pins σ H' s'->Q () s') :
 wpAny (model X.prog X.w) A (setItem (.ref a) u r) Q E s:=by
 rcases g with ⟨kvs,k,e,ey,l,eH⟩ | ⟨kvs,k,b,e,ey,eb,l,eH⟩
 ·subst ey eH
  obtain ⟨z,hd,vs,rel,dd⟩:=Db I.hok e
  have hz:vs.length<=sizeLine:=by rw [<- rel.length];exact z
  have hl:(eN kvs k v).length<=sizeLine:=by have:=gE kvs k v;omega
  refine wpAny_setItem_pairs (hsz:=hz) (kG ry) dd fun h' dd' hs=>h _ ?_
  have he:∃ q,h'.get? a=some q:=let ⟨q,_,_,hq,_⟩:=dd';⟨q,hq⟩;exact qG I (by rw [e];exact True.intro) hs he (Ag hl hd (rel.put k rv) dd')
 ·subst ey eH
  cases (show u=Value.ref b from ry);obtain ⟨z,hd,xs,rel,dd⟩:=dt_of I.hok e
  have hz:xs.length<=sizeLine:=by rw [<- Paired.length rel];exact z
  have hl:(eN kvs k v).length<=sizeLine:=by have:=gE kvs k v;omega
  refine wpAny_setItem_heap (hsz:=hz) (tupleKind_room_in1 hu) (qB I.hok eb) dd fun h' dd' hs=>h _ ?_
  obtain ⟨q,es,ep,hq,h2,h3,h4,_,h5⟩:=dd';refine qG I (by rw [e];exact True.intro) hs ⟨q,hq⟩ ⟨hl,hd,_,(rel.put k eb rv).keeps fun c ys ec=> ?_,q,es,ep,hq,h2,h3,h4,h5⟩;rw [am (ne_of ec e (fun z=>nomatch z))];exact ec
end
section
variable{X:Cx}{pins:List (Addr×Obj)}{σ:St}{H:Hp}{s:Shared}{a:Addr}{kvs:List (Key×V)}{k:Key}{u:Value}{A:Around}{E:Value->Shared->Prop}
theorem d_len{Q:Value->Shared->Prop}(I:Inv X pins σ H s)(e:Rd H a (.dK kvs))(h:∀ t s',Inv X pins σ H s'->Q (.int kvs.length t) s'):wpAny (model X.prog X.w) A (call (.builtin "len") [.ref a]) Q E s:=by
 obtain ⟨z,hd,vs,rel,dd⟩:=sU I.hok e;refine call_len_dict hd dd (by rw [<- rel.length];rw [sizeLine_eq] at z;omega) ?_;rw [<- rel.length];exact h _ _ (I.tok _)
end
noncomputable def AC(i:Expr):Prop:=∀ ov iv,subscripted i false ov iv=operate [ov,iv] (getItem ov iv)
theorem u6{prog:Program}{w:World}{A:Around}{E:Value->Shared->Prop}{s:Shared}{env:Env}{value slice:Expr}{pos:Pos}{T id:String}{Q:Value->Shared->Prop}
 (hl:typeLookup (.type T) "__getitem__" = pure (some (.builtin id))) (hs:AC slice)
 (h:wpAny (model prog w) A (eval value env) (fun o s₁=>wpAny (model prog w) A (eval slice env) (fun i s₂=>s₂.TypeIs o T/\wpAny (model prog w) A (getItem o i) Q E s₂) E s₁) E s) :
 wpAny (model prog w) A (eval (.Subscript value slice pos) env) Q E s:=by
 refine Subscript_ (EA h (fun o s₁ h₁=>EA h₁ (fun i s₂ h₂=> ?_) fun _ _ x=>x) fun _ _ x=>x);obtain ⟨hT,h₂⟩:=h₂;unfold subscriptTail;refine Dj ?_;rw [getitemInPython_of_ne hT.not_modules];refine Dj (wpAny_specialOf hT hl ?_)
 have fin:wpAny (model prog w) A (subscripted slice false o i) (fun r s₃=>wpAny (model prog w) A (letTemporaryGo value o r >>= fun _=>pure r) Q E s₃) E s₂:=by
  rw [hs o i];exact wpAny_operating (EA h₂ (fun r s₃ h₃=>Dj (wpAny_letTemporaryGo (Ds h₃))) fun _ _ x=>x)
 first
  | exact Ds (Dj fin)
  | exact Dj (Ds (Dj fin))
  | exact Dj fin
theorem sV{X:Cx}{pins:List (Addr×Obj)}{σ:St}{H:Hp}{s:Shared}{a:Addr}{y:V}{o:Option V}(I:Inv X pins σ H s)(g:jU H a y o):s.TypeIs (.ref a) "dict" := by
 rcases g with ⟨kvs,k,e,_,_⟩ | ⟨kvs,k,b,e,_,_,_⟩
 ·obtain ⟨_,_,vs,_,dd⟩:=sU I.hok e
  exact dd.typeIs
 ·obtain ⟨_,_,xs,_,dd⟩:=vL I.hok e
  exact dd.typeIs
noncomputable def tDGet(td ty:TE):TE:=fun σ H Q=>td σ H fun x H1=>ty σ H1 fun y H2=>∃ a v,x = .ref a/\jU H2 a y (some v)/\Q v H2
noncomputable def sDPut(td ty tv:TE):TS:=fun D σ H=>tv σ H fun v H1=>td σ H1 fun x H2=>ty σ H2 fun y H3=>∃ a H4,x = .ref a/\qX H3 a y v H4/\D.nx σ H4
section
variable{X:Cx}{o i e value:Expr}{pos pos' tpos:Pos}{td ty tv:TE}
theorem BA(hu:X.A.units+1 < cLine)(ho:PE X o td)(hi:PE X i ty)(hs:AC i):PE X (.Subscript o i pos) (tDGet td ty):=by
 intro pins s σ H Q I h;refine u6 PySem.F.slot_dict_getitem.lookup hs (thn (ho pins s σ H _ I h) fun u s1 ⟨x,H1,I1,rx,q1⟩=>thn (hi pins s1 σ H1 _ I1 q1) fun iv s2 ⟨y,H2,I2,ry,a,v,ex,g,q2⟩=> ?_);subst ex;obtain rfl:u=Value.ref a:=rx;exact ⟨sV I2 g,wP hu I2 g ry fun w' s3 I3 rw'=>⟨v,H2,I3,rw',q2⟩⟩
theorem Bt(hu:X.A.units+1 < cLine)(ho:PE X o td)(hi:PE X i ty)(hv:PE X value tv)(hs:swapsWith value (some (.Subscript o i pos')) pos.line X.env=pure false) :
 PS X (.Assign [.Subscript o i pos'] value pos) (sDPut td ty tv):=by
 intro pins s σ H D I h;refine wpAny_Assign_Subscript (thn (hv pins s σ H _ I h) fun r s1 ⟨v,H1,I1,rv,q1⟩=>thn (ho pins s1 σ H1 _ I1 q1) fun u s2 ⟨x,H2,I2,rx,q2⟩=>thn (hi pins s2 σ H2 _ I2 q2) fun iv s3 ⟨y,H3,I3,ry,a,H4,ex,g,q3⟩=> ?_) hs;subst ex;obtain rfl:u=Value.ref a:=rx
 exact wO hu I3 g ry rv fun s4 I4=>⟨σ,H4,I4,q3⟩
end
theorem Ah{P:Program}{w:World}{H:Hp}(h:Heap)(hb:sysModules < h.objs.size):bA P w H (h.push { cls:= .type "dict",data:= .dict #[] }) h.objs.size (.dK []) :=
 ⟨E9 _,E8.mpr (Ne.symm (DL hb)),[],.nil,Heap.DictOf.new h⟩
theorem Ae{P:Program}{w:World}{H:Hp}(h:Heap)(hb:sysModules < h.objs.size):bA P w H (h.push { cls:= .type "dict",data:= .dict #[] }) h.objs.size (.dT []) :=
 ⟨E9 _,E8.mpr (Ne.symm (DL hb)),[],.nil,_,#[],0,Dw _ rfl,⟨rfl,rfl,rfl⟩,rfl,rfl,FH⟩
noncomputable def tDNewT:TE:=fun _ H Q=>∀ p,H p=none->Q (.ref p) (upd H p (.dT []))
section
variable{X:Cx}{pos:Pos}
theorem yG:PE X (.Dict [] [] pos) tDNewT:=fun pins s σ H Q I h =>
 wpAny_Dict_empty ⟨.ref s.heap.objs.size,_,I.laid (a:=s.heap.objs.size) (o:= .dT []) (t':=s.toks) (fun _ _ q=>Dk _ q) (Dy _) (Ae s.heap I.big),rfl,h _ (I.hok.fresh (Dy _))⟩
end
noncomputable def pS:List (TE×TE)->St->Hp->(List (V×V)->Hp->Prop)->Prop
 | [],_,H,Q=>Q [] H
 | (tk,tv)::r,σ,H,Q=>tk σ H fun x H1=>tv σ H1 fun y H2=>pS r σ H2 fun ps H3=>Q ((x,y)::ps) H3
abbrev VV:List (V×V)->List (Value×Value)->Prop:=Paired fun p q=>aG p.1 q.1/\aG p.2 q.2
noncomputable def PPs(X:Cx)(pos:Pos)(keys:List (Option Expr))(values:List Expr)(trs:List (TE×TE)):Prop :=
 ∀ (pins:List (Addr×Obj)) (s:Shared) (σ:St) (H:Hp) (Q:List (V×V)->Hp->Prop),Inv X pins σ H s->pS trs σ H Q ->
  wpAny (model X.prog X.w) X.A (evalPairs (pairTrees keys values X.env pos)) (fun vs s'=>∃ ps H',Inv X pins σ H' s'/\VV ps vs/\Q ps H') X.xe s
theorem Bu{X:Cx}{pos:Pos}:PPs X pos [] [] []:=fun pins s σ H Q I h=>pairTrees_nil_walk ⟨[],H,I,.nil,h⟩
theorem yy{X:Cx}{pos:Pos}{k v:Expr}{ks:List (Option Expr)}{vs:List Expr}{tk tv:TE}{trs:List (TE×TE)}(hk:PE X k tk)(hv:PE X v tv)(hr:PPs X pos ks vs trs) :
 PPs X pos (some k::ks) (v::vs) ((tk,tv)::trs):=fun pins s σ H Q I h =>
 pairTrees_cons_walk (thn (hk pins s σ H _ I h) fun u s1 ⟨x,H1,I1,rx,q1⟩=>thn (hv pins s1 σ H1 _ I1 q1) fun w2 s2 ⟨y,H2,I2,ry,q2⟩ =>
  thn (hr pins s2 σ H2 _ I2 q2) fun ws s3 ⟨ps,H3,I3,rel,q3⟩=>⟨(x,y)::ps,H3,I3,.cons ⟨rx,ry⟩ rel,q3⟩)
noncomputable def gB(kvs more:List (Key×V)):List (Key×V):=more.foldl (fun acc kv=>eN acc kv.1 kv.2) kvs
theorem KV.merge:∀ {more:List (Key×V)} {rs:List (Key×Value)} {kvs:List (Key×V)} {vs:List (Key×Value)},KV more rs->KV kvs vs->KV (gB kvs more) (merged vs rs):=by
 intro more rs kvs vs r;unfold KV at r
 induction r generalizing kvs vs with
 | nil=>intro q;exact q
 | @cons p q ps qs h t ih =>
  intro r0
  have e:KV (eN kvs p.1 p.2) (stored vs q.1 q.2):=by
   have:=r0.put p.1 h.2;rw [<- h.1];exact this
  exact ih e
theorem il:∀ (more kvs:List (Key×V)),(gB kvs more).length<=kvs.length+more.length
 | [],kvs=>by show kvs.length<=kvs.length+0;omega
 | p::r,kvs=>by
  have h1:=il r (eN kvs p.1 p.2);have h2:=gE kvs p.1 p.2
  show (gB (eN kvs p.1 p.2) r).length<=_
  rw [Dq];omega
theorem nH{P:Program}{w:World}:∀ {kvs:List (Key×V)} {ws:List (Value×Value)},VV (kvs.map fun kv=>(kV kv.1,kv.2)) ws->∃ rs,Carries (aV P w) ws rs/\KV kvs rs
 | [],_,r=>by rw [ES] at r;cases r;exact ⟨[],True.intro,.nil⟩
 | p::kvs,_,r=>by
  rw [DE] at r
  cases r with
  | @cons a b as bs h t =>
   obtain ⟨rs,c,q⟩:=nH (P:=P) (w:=w) t;obtain ⟨b1,b2⟩:=b;exact ⟨(p.1,b2)::rs,⟨kG h.1,rfl,c⟩,.cons ⟨rfl,h.2⟩ q⟩
noncomputable def tDisp(trs:List (TE×TE)):TE:=fun σ H Q=>∀ p,H p=none->pS trs σ (upd H p (.dK [])) fun ps H2=>H2 p=some (.dK [])/\∃ kvs:List (Key×V),ps=kvs.map (fun kv=>(kV kv.1,kv.2))/\kvs.length<=15/\Q (.ref p) (upd H2 p (.dK (gB [] kvs)))
theorem Bz{X:Cx}{pos:Pos}{keys:List (Option Expr)}{values:List Expr}{trs:List (TE×TE)}(h:PPs X pos keys values trs)(hall:keys.all (·.isSome)=true)(hl:keys.length=values.length)(h0:keys≠[])
 (h15:keys.length<=15):PE X (.Dict keys values pos) (tDisp trs):=by
 intro pins s σ H Q I q;have hn:=I.hok.fresh (Dy s.heap.objs.size);have I1:=I.laid (a:=s.heap.objs.size) (o:= .dK []) (h':=s.heap.push { cls:= .type "dict",data:= .dict #[] }) (t':=s.toks) (fun _ _ q=>Dk _ q) (Dy _) (Ah s.heap I.big);refine wpAny_Dict_walk (knd:=aV X.prog X.w) hall hl h0 h15 (thn (h pins _ σ _ _ I1 (q _ hn)) fun ws s2 ⟨ps,H2,I2,rel,e,kvs,ep,lk,q2⟩=> ?_);subst ep;obtain ⟨rs,c,rk⟩:=nH (P:=X.prog) (w:=X.w) rel;obtain ⟨z,hd,vs0,r0,dd⟩:=Db I2.hok e;cases r0;refine ⟨rs,c,dd,fun h' dd' hs=>⟨.ref s.heap.objs.size,_,?_,rfl,q2⟩⟩
 have hz:(gB [] kvs).length<=sizeLine:=by
  have h1:=il kvs [];rw [EH] at h1;rw [sizeLine_eq];omega
 have he:∃ q,h'.get? s.heap.objs.size=some q:=let ⟨q,_,_,hq,_⟩:=dd';⟨q,hq⟩;exact qG I2 (by rw [e];exact True.intro) hs he (Ag hz hd (rk.merge .nil) dd')
section
variable{X:Cx}{pins:List (Addr×Obj)}{σ:St}{H:Hp}{s:Shared}{a:Addr}{y d:V}{u r:Value}{o:Option V}{A:Around}{E:Value->Shared->Prop}
end
section
variable{X:Cx}{o e f:Expr}{apos cpos:Pos}{td ty tx:TE}
end
section
variable{X:Cx}{pins:List (Addr×Obj)}{σ:St}{H:Hp}{s:Shared}{a:Addr}{kvs:List (Key×V)}{A:Around}{E:Value->Shared->Prop}
end
section
variable{X:Cx}{pins:List (Addr×Obj)}{σ:St}{H:Hp}{s:Shared}{a:Addr}{y:V}{u:Value}{A:Around}{E:Value->Shared->Prop}
end
end L2
namespace HT
open PySem PyProof.Rows
theorem Ac(A:Around)(s:Shared)(a:Int)(t:Tok)(c:Int)(u:Tok):∃ e,SeqAt.EqAt A s (.int a t) (.int c u) e/\(e=true↔a=c) :=
 ⟨(a == c),SeqAt.EqAt.int_int a t c u,by simp⟩
section
open PySem.SeqAt
open PySem.AutoSeq1 (wpAny_loadPart')
open PySem.MeetsSeq PySem.MeetsSeq2 PySem.MeetsSeq3
end
section
variable{prog:Program}{w:World}{A:Around}{E:Value->Shared->Prop}{s:Shared}
theorem Ci{t b:Addr}{vs ws:List Value}{Q:Value->Shared->Prop}(ht:IsTup s.heap t vs.toArray)(hb:IsTup s.heap b ws.toArray)(hv:vs≠[])
 (h1:ws=[]->Q (.ref t) s) (h2:ws≠[]->Q (.ref s.heap.objs.size) { s with heap:=s.heap.push { cls:= .type "tuple",data:= .seq (vs++ws).toArray } })
 (hsz:vs.length+ws.length<=sizeLine):wpAny (model prog w) A (binaryOp .Add (.ref t) (.ref b)) Q E s:=by
 obtain ⟨⟨cls,dd,data,sl⟩,ho,hc,n,hd⟩:=id ht;obtain ⟨⟨cls2,dd2,data2,sl2⟩,ho2,hc2,n2,hd2⟩:=id hb;simp only at hc hd hc2 hd2;subst hc hd hc2 hd2
 have e:vs.toArray++ws.toArray=(vs++ws).toArray:=by simp
 by_cases hw:ws=[]
 ·exact concat_meets ⟨_,ho,rfl⟩ ⟨_,ho2,rfl⟩ noFill_tuple_add seq_tuple_add PySem.F.slot_tuple_add PySem.F.entry_tuple_add (PySem.F.args_tuple_add_2 _ _)
   (tuple_addW1 t b vs.toArray ws.toArray n n2 dd dd2 sl sl2 (by simpa using hv) (by simp [hw])) ⟨ho,ho2,h1 hw⟩
 ·refine concat_meets ⟨_,ho,rfl⟩ ⟨_,ho2,rfl⟩ noFill_tuple_add seq_tuple_add PySem.F.slot_tuple_add PySem.F.entry_tuple_add (PySem.F.args_tuple_add_2 _ _)
   (tuple_addW2 t b vs.toArray ws.toArray n n2 dd dd2 sl sl2 (by simpa using hv) (by simpa using hw) (by rw [Du,Du];exact hsz)) ⟨ho,ho2,?_⟩
  rw [e];exact h2 hw
noncomputable def sIx(n d:Nat):Option Int->Nat
 | none=>d
 | some v=>if v < 0 then (v+(n:Int)).toNat else min v.toNat n
theorem tY(n d:Nat)(hd:d<=n)(o:Option Int):sIx n d o<=n:=by
 cases o with
 | none=>exact hd
 | some v =>
  show (if v < 0 then (v+(n:Int)).toNat else min v.toNat n)<=n
  by_cases hv:v < 0
  ·rw [if_pos hv];omega
  ·rw [if_neg hv];exact Nat.min_le_right _ _
theorem vP(v:Int)(n d:Nat):(if v < 0 then max (v+(n:Int)) 0 else min v (n:Int))=((sIx n d (some v):Nat):Int):=by
 show (if v < 0 then max (v+(n:Int)) 0 else min v (n:Int))=(((if v < 0 then (v+(n:Int)).toNat else min v.toNat n):Nat):Int)
 by_cases hv:v < 0
 ·simp only [if_pos hv];omega
 ·simp only [if_neg hv];omega
theorem uU(lo hi:Option Int)(n:Nat):Builtin.Slice.sliceAdjust lo hi 1 (n:Int)=(((sIx n 0 lo:Nat):Int),((sIx n n hi:Nat):Int)):=by
 have h1:¬ ((1:Int) < 0):=by omega
 unfold Builtin.Slice.sliceAdjust;simp only [h1,if_false];refine Prod.ext ?_ ?_
 ·cases lo with
  | none=>rfl
  | some v=>exact vP v n 0
 ·cases hi with
  | none=>rfl
  | some v=>exact vP v n n
theorem ub(i j:Nat):Builtin.Slice.slicePlaces (i:Int) (j:Int) 1=j - i:=by
 unfold Builtin.Slice.slicePlaces
 have h1:(1:Int) > 0:=by omega
 simp only [h1,if_true,Int.ediv_one]
 split<;>omega
theorem lV{v:Value}{o:Option Int}{Q:Option Int->Shared->Prop}(p:IsPart v o)(h:Q o s):wpAny (model prog w) A (Builtin.Slice.slicePartIndex v) Q E s:=by
 cases p with
 | none=>exact slicePart_none h
 | int i t=>exact slicePart_int h
theorem fm{sl:Addr}{vl vu:Value}{lo hi:Option Int}{n:Nat}{Q:Int×Int×Nat->Shared->Prop}(hs:s.heap.IsSliceOf sl vl vu .none)(pl:IsPart vl lo)(pu:IsPart vu hi)
 (h:Q (((sIx n 0 lo:Nat):Int),1,sIx n n hi - sIx n 0 lo) s):wpAny (model prog w) A (Builtin.Slice.sliceApplied (.ref sl) (pure (n:Int))) Q E s:=by
 obtain ⟨os,hos,hcs,hds⟩:=id hs;unfold Builtin.Slice.sliceApplied Builtin.Slice.sliceFields;refine Dj (Dj (EE hos hds (x:=vl) rfl (Dj (EE hos hds (x:=vu) rfl (Dj (EE hos hds (x:= .none) rfl (Ds ?_)))))));refine Dj (slicePart_none ?_)
 show wpAny _ _ (if ((1:Int) == 0)=true then _ else _) _ _ s
 rw [if_neg (by decide)];refine Dj (lV pl (Dj (lV pu (Dj (Ds ?_)))))
 show wpAny _ _ (match Builtin.Slice.sliceAdjust lo hi 1 (n:Int) with | (lo,hi)=>pure (lo,(1:Int),Builtin.Slice.slicePlaces lo hi 1)) _ _ s
 rw [uU lo hi n]
 show wpAny _ _ (pure (((sIx n 0 lo:Nat):Int),(1:Int),Builtin.Slice.slicePlaces ((sIx n 0 lo:Nat):Int) ((sIx n n hi:Nat):Int) 1)) _ _ s
 rw [ub];exact Ds h
theorem yB(xs:Array Value)(i k:Nat):((List.range k).filterMap fun (m:Nat)=>xs[((i:Int)+(m:Int) * 1).toNat]?).toArray=((xs.toList.drop i).take k).toArray:=by
 have e:(fun (m:Nat)=>xs[((i:Int)+(m:Int) * 1).toNat]?)=fun m=>xs[i+m]?:=by
  funext m
  have:((i:Int)+(m:Int) * 1).toNat=i+m:=by omega
  rw [this]
 rw [e];have:=pick_run xs i k;rw [List.filterMap_map] at this
 have e2:((fun x=>xs[x]?) ∘ fun x=>i+x)=fun m=>xs[i+m]?:=rfl
 rw [e2] at this;rw [this]
theorem jC{t sl:Addr}{items:Array Value}{vl vu:Value}{lo hi:Option Int}{Q:Value->Shared->Prop}(ht:IsTup s.heap t items)(hs:s.heap.IsSliceOf sl vl vu .none)(pl:IsPart vl lo)(pu:IsPart vu hi)
 (hw:¬ (sIx items.size 0 lo=0/\sIx items.size items.size hi=items.size))
 (h:Q (.ref s.heap.objs.size) { s with heap:=s.heap.push { cls:= .type "tuple",data:= .seq ((items.toList.drop (sIx items.size 0 lo)).take (sIx items.size items.size hi - sIx items.size 0 lo)).toArray } })
 (hsz:items.size<=sizeLine):wpAny (model prog w) A (getItem (.ref t) (.ref sl)) Q E s:=by
 have htake:sizeOk (.seq ((items.toList.drop (sIx items.size 0 lo)).take (sIx items.size items.size hi - sIx items.size 0 lo)).toArray):=by
  show ((items.toList.drop (sIx items.size 0 lo)).take (sIx items.size items.size hi - sIx items.size 0 lo)).toArray.size<=sizeLine
  rw [Du,EU,List.length_drop,Em];omega
 have hj:sIx items.size items.size hi<=items.size:=tY _ _ (Dy _) hi;obtain ⟨os,hos,hcs,hds⟩:=id hs;have hTs:s.TypeIs (.ref sl) "slice" := ⟨os,hos,hcs⟩;unfold getItem
 try with_reducible refine EQ ?_
 first | refine Dj (Ds ?_) | skip
 refine Dj (wpAny_sequenceKey ht.typeIs (by decide) ?_)
 refine Dj (Ea (name:=Str.ofString "__getitem__") ht.typeIs PyProof.Rows.slot_tuple_getitem
  (En PyProof.Rows.slot_tuple_getitem ht.typeIs entry_tuple_getitem ?_ (args_tuple_getitem _ _)))
 show wpAny _ _ (Builtin.Tuple.tupleItemsOf (.ref t) >>= _) _ _ s
 refine Dj (tupleItemsOf_ ht ?_);refine Dj (wpAny_typeOf hTs ?_);rw [if_pos (by decide)];refine Dj (fm hs pl pu ?_)
 have hno:¬ ((((sIx items.size 0 lo:Nat):Int) == 0&&(1:Int) == 1&&(sIx items.size items.size hi - sIx items.size 0 lo) == items.size)=true):=by
  intro q;rw [DK,DK] at q;have q1:((sIx items.size 0 lo:Nat):Int)=0:=eq_of_beq q.1.1;have q2:sIx items.size items.size hi - sIx items.size 0 lo=items.size:=eq_of_beq q.2;exact hw ⟨by omega,by omega⟩
 show wpAny _ _ (if (((sIx items.size 0 lo:Nat):Int) == 0&&(1:Int) == 1&&(sIx items.size items.size hi - sIx items.size 0 lo) == items.size)=true then _ else _) _ _ s
 rw [if_neg hno,yB]
 first
  | exact Dj (m:=Builtin.Tuple.tupleExact _) (Eg (Ds ⟨_,rfl,Ds h⟩) htake)
  | exact Dj (m:=Builtin.Tuple.tupleExact _) (Eg (Dj (Ds (Ds ⟨_,rfl,Ds h⟩))) htake)
  | exact Dj (Dj (m:=Builtin.Tuple.tupleExact _) (Eg (Ds (Ds ⟨_,rfl,Ds h⟩)) htake))
  | exact Dj (Dj (m:=Builtin.Tuple.tupleExact _) (Eg (Ds ⟨_,rfl,Ds h⟩) htake))
end
end HT
namespace L2
open PySem PySem.Spec PyProof.Rows
abbrev TO:=St->Hp->(Option Int->Hp->Prop)->Prop
noncomputable def PO(X:Cx)(e:Option Expr)(t:TO):Prop :=
 ∀ (pins:List (Addr×Obj)) (s:Shared) (σ:St) (H:Hp) (Q:Option Int->Hp->Prop),Inv X pins σ H s->t σ H Q ->
  wpAny (model X.prog X.w) X.A (evalPart e X.env) (fun u s'=>∃ o H',Inv X pins σ H' s'/\IsPart u o/\Q o H') X.xe s
noncomputable def AO:TO:=fun _ H Q=>Q none H
noncomputable def tPart(t:TE):TO:=fun σ H Q=>t σ H fun x H1=>∃ i,x = .int i/\Q (some i) H1
theorem dw{ns:List Int}:∀ {us:List Value},aC (ns.map V.int) us->IntsAre us ns:=by
 induction ns with
 | nil=>intro us r;rw [ES] at r;cases r;exact .nil
 | cons n ns ih =>
  intro us r;rw [DE] at r
  cases r with
  | cons r1 r2 =>
   obtain ⟨t,e⟩:=r1;subst e;exact .cons n t (ih r2)
section
variable{X:Cx}{e:Expr}{te:TE}{lo hi:Option Expr}{tl th:TO}{pos p2:Pos}
theorem Bv:PO X none AO:=by
 intro pins s σ H Q I h;rw [evalPart_none];exact Ds ⟨none,H,I,.none,h⟩
theorem ql(h:PE X e te):PO X (some e) (tPart te):=by
 intro pins s σ H Q I hw;rw [evalPart_some]
 refine thn (h pins s σ H _ I hw) fun u s1 ⟨x,H1,I1,r1,q1⟩=> ?_
 obtain ⟨i,rfl,q⟩:=q1;obtain ⟨t,rfl⟩:=r1;exact ⟨some i,H1,I1,.int i t,q⟩
noncomputable def SlR(X:Cx)(r:V->Option Int->Option Int->Hp->VK->Prop):Prop :=
 ∀ (pins:List (Addr×Obj)) (s:Shared) (σ:St) (H:Hp) (x:V) (v vl vu:Value) (lo hi:Option Int) (sl:Addr) (Q:VK),Inv X pins σ H s->aG x v->s.heap.IsSliceOf sl vl vu .none->IsPart vl lo->IsPart vu hi->r x lo hi H Q ->
  ∃ T id,typeLookup (.type T) "__getitem__" = pure (some (.builtin id))/\s.TypeIs v T/\wpAny (model X.prog X.w) X.A (getItem v (.ref sl)) (EP X pins σ Q) X.xe s
theorem SlR.or{r r':V->Option Int->Option Int->Hp->VK->Prop}(h:SlR X r)(h':SlR X r'):SlR X (fun x lo hi H Q=>r x lo hi H Q\/r' x lo hi H Q):=by
 intro pins s σ H x v vl vu lo hi sl Q I rx hs pl pu q
 rcases q with q | q
 ·exact h pins s σ H x v vl vu lo hi sl Q I rx hs pl pu q
 ·exact h' pins s σ H x v vl vu lo hi sl Q I rx hs pl pu q
noncomputable def tSl(r:V->Option Int->Option Int->Hp->VK->Prop)(te:TE)(tl th:TO):TE:=fun σ H Q=>te σ H fun x H1=>tl σ H1 fun l H2=>th σ H2 fun u H3=>r x l u H3 Q
theorem rX{r:V->Option Int->Option Int->Hp->VK->Prop}(hr:SlR X r)(he:PE X e te)(hl:PO X lo tl)(hu:PO X hi th):PE X (.Subscript e (.Slice lo hi none p2) pos) (tSl r te tl th):=by
 intro pins s σ H Q I h;refine Subscript_ (thn (he pins s σ H _ I h) fun v s1 ⟨x,H1,I1,r1,q1⟩=> ?_);refine wpAny_Slice (thn (hl pins s1 σ H1 _ I1 q1) fun vl s2 ⟨l,H2,I2,pl,q2⟩=>thn (hu pins s2 σ H2 _ I2 q2) fun vu s3 ⟨u,H3,I3,pu,q3⟩=> ?_);rw [evalPart_none];refine Ds ?_
 have I4:Inv X pins σ H3 { s3 with heap:=s3.heap.push { cls:= .type "slice",data:= .fields #[vl,vu,.none] } }:=I3.kept (t':=s3.toks) fun b ob q=>Dk _ q
 obtain ⟨T,id,hT,ht,hg⟩:=hr pins { s3 with heap:=s3.heap.push { cls:= .type "slice",data:= .fields #[vl,vu,.none] } } σ H3 x v vl vu l u s3.heap.objs.size Q I4 r1 (Heap.IsSliceOf.new ..) pl pu q3
 show wpAny (model X.prog X.w) X.A (subscriptTail e (.Slice lo hi none p2) v (.ref s3.heap.objs.size)) (EP X pins σ Q) X.xe { s3 with heap:=s3.heap.push { cls:= .type "slice",data:= .fields #[vl,vu,.none] } }
 exact tail_any (ops:=[.ref s3.heap.objs.size,v]) ht hT hg (by with_unfolding_all rfl)
noncomputable def nE(xs:List V)(lo hi:Option Int):List V:=(xs.drop (HT.sIx xs.length 0 lo)).take (HT.sIx xs.length xs.length hi - HT.sIx xs.length 0 lo)
theorem kK(xs:List V)(lo hi:Option Int):(nE xs lo hi).length<=xs.length:=by
 unfold nE;rw [EU,List.length_drop];omega
noncomputable def rSlT(K:FZ):V->Option Int->Option Int->Hp->VK->Prop:=fun x lo hi H Q=>∃ a xs,x = .ref a/\SqT K H a xs /\
 ¬ (HT.sIx xs.length 0 lo=0/\HT.sIx xs.length xs.length hi=xs.length)/\∀ p,H p=none->Q (.ref p) (upd H p (.tup (nE xs lo hi)))
theorem sl_tup:SlR X (rSlT X.K):=by
 intro pins s σ H x v vl vu lo hi sl Q I rx hs pl pu h;obtain ⟨a,xs,rfl,hx,hw,q⟩:=h;cases rx;obtain ⟨its,r,ht,hz⟩:=I.tuple hx
 have hlen:its.toArray.size=xs.length:=by rw [Du];exact r.length.symm
 refine ⟨"tuple",_,PyProof.Rows.slot_tuple_getitem.lookup,ht.typeIs,?_⟩;refine HT.jC ht hs pl pu (by rw [hlen];exact hw) ?_ (by rw [hlen];exact hz);rw [hlen];refine ⟨.ref s.heap.objs.size,_,I.laid (t':=s.toks) (o:= .tup (nE xs lo hi)) (fun b ob q=>Dk _ q) (Dy _) ?_,rfl,q _ (I.hok.fresh (Dy _))⟩;exact ⟨Eu (kK xs lo hi) hz,_,(r.drop (HT.sIx xs.length 0 lo)).take (HT.sIx xs.length xs.length hi - HT.sIx xs.length 0 lo),IsTup.new _ _⟩
noncomputable def rCatT(K:FZ):R2:=fun x y H Q=>∃ a b xs ys,x = .ref a/\y = .ref b/\SqT K H a xs/\SqT K H b ys/\xs≠[]/\xs.length+ys.length<=sizeLine /\
 (ys=[]->Q (.ref a) H)/\(ys≠[]->∀ p,H p=none->Q (.ref p) (upd H p (.tup (xs++ys))))
theorem aC.nil_iff{xs:List V}{us:List Value}(r:aC xs us):us=[]↔xs=[]:=by
 cases r with
 | nil=>simp
 | cons _ _=>simp
theorem BL:OpR X (binaryOp .Add) (rCatT X.K):=by
 intro pins s σ H x y v u Q I rx ry h;obtain ⟨a,b,xs,ys,rfl,rfl,ha,hb,hx,hz,q1,q2⟩:=h;cases rx;cases ry;obtain ⟨its,r1,p1,_⟩:=I.tuple ha;obtain ⟨its2,r2,p2,_⟩:=I.tuple hb;refine HT.Ci p1 p2 (fun z=>hx (r1.nil_iff.mp z)) (fun z=>⟨.ref a,H,I,rfl,q1 (r2.nil_iff.mp z)⟩) (fun z=> ?_) (by rw [<- r1.length,<- r2.length];exact hz);refine ⟨.ref s.heap.objs.size,_,I.laid (t':=s.toks) (o:= .tup (xs++ys)) (fun b ob q=>Dk _ q) (Dy _) ?_,rfl,q2 (fun w=>z (r2.nil_iff.mpr w)) _ (I.hok.fresh (Dy _))⟩;exact ⟨by rw [DI];exact hz,_,r1.append r2,IsTup.new _ _⟩
end
noncomputable def ixN(n:Nat)(i:Int):Option Nat:=if 0<=i then (if i < n then some i.toNat else none) else if -(n:Int)<=i then some (i+n).toNat else none
noncomputable def atI{α:Type}(xs:List α)(i:Int):Option α:=(ixN xs.length i).bind fun j=>xs[j]?
theorem vE{n:Nat}{i:Int}{j:Nat}(h:ixN n i=some j):seqIndex? i n=some j/\j < n /\ -(n:Int)<=i/\i < n:=by
 unfold ixN at h
 by_cases h0:0<=i
 ·rw [if_pos h0] at h
  by_cases h1:i < n
  ·rw [if_pos h1] at h
   have e:i.toNat=j:=Option.some.inj h;exact ⟨by rw [seqIndex_of h0 h1,e],by omega,by omega,h1⟩
  ·rw [if_neg h1] at h;cases h
 ·rw [if_neg h0] at h
  by_cases h1 : -(n:Int)<=i
  ·rw [if_pos h1] at h
   have e:(i+n).toNat=j:=Option.some.inj h;exact ⟨by rw [seqIndex_neg (by omega) h1,e],by omega,h1,by omega⟩
  ·rw [if_neg h1] at h;cases h
theorem qT{α:Type}{xs:List α}{i:Int}{v:α}(h:atI xs i=some v):∃ j,seqIndex? i xs.length=some j/\xs[j]?=some v/\j < xs.length /\ -(xs.length:Int)<=i/\i < xs.length:=by
 unfold atI at h
 cases e:ixN xs.length i with
 | none=>rw [e] at h;cases h
 | some j =>
  rw [e] at h;obtain ⟨h1,h2,h3,h4⟩:=vE e;exact ⟨j,h1,h,h2,h3,h4⟩
theorem vU{α:Type}{xs:List α}{j:Nat}{v:α}(h:xs[j]?=some v):atI xs (j:Int)=some v:=by
 have hj:j < xs.length:=(DA.mp h).1
 have e:ixN xs.length (j:Int)=some j:=by
  unfold ixN;rw [if_pos (by omega),if_pos (by omega)];simp
 unfold atI;rw [e];exact h
noncomputable def qW(b:Expr):Prop:=∀ o i,subscripted b false o i=operate [o,i] (getItem o i)
noncomputable def IxR(X:Cx)(r:R2):Prop :=
 ∀ (value slice:Expr) (pins:List (Addr×Obj)) (s:Shared) (σ:St) (H:Hp) (x y:V) (v u:Value) (Q:VK),Inv X pins σ H s->aG x v->aG y u->r x y H Q ->
  subscripted slice false v u=operate [v,u] (getItem v u)->wpAny (model X.prog X.w) X.A (subscriptTail value slice v u) (EP X pins σ Q) X.xe s
noncomputable def MtR(X:Cx)(id:String)(r:V->List V->Hp->VK->Prop):Prop :=
 ∀ (pins:List (Addr×Obj)) (s:Shared) (σ:St) (H:Hp) (x:V) (xs:List V) (v:Value) (us:List Value) (Q:VK),Inv X pins σ H s->aG x v->aC xs us->r x xs H Q ->
  wpAny (model X.prog X.w) X.A (call (.builtin id) (v::us)) (EP X pins σ Q) X.xe s
section
variable{X:Cx}{a b:Expr}{ta tb:TE}{pos:Pos}
theorem IxR.or{r r':R2}(h:IxR X r)(h':IxR X r'):IxR X (fun x y H Q=>r x y H Q\/r' x y H Q):=by
 intro value slice pins s σ H x y v u Q I rx ry q hs
 rcases q with q | q
 ·exact h value slice pins s σ H x y v u Q I rx ry q hs
 ·exact h' value slice pins s σ H x y v u Q I rx ry q hs
theorem oU{r:R2}(hr:IxR X r)(ha:PE X a ta)(hb:PE X b tb)(hs:qW b):PE X (.Subscript a b pos) (tOp r ta tb):=by
 intro pins s σ H Q I h;exact Subscript_ (binT ha hb I h fun v u s2 x y H2 I2 rx ry q=>hr a b pins s2 σ H2 x y v u Q I2 rx ry q (hs _ _))
noncomputable def rIxL(K:FZ):R2:=fun x y H Q=>∃ p xs i v,x = .ref p/\y = .int i/\SqL K H p xs/\atI xs i=some v/\Q v H
noncomputable def rIxT(K:FZ):R2:=fun x y H Q=>∃ p xs i v,x = .ref p/\y = .int i/\SqT K H p xs/\atI xs i=some v/\Q v H
noncomputable def rIxS:R2:=fun x y H Q=>∃ z i c,x = .str z/\y = .int i/\z.length<=sizeLine/\atI z.cps.toList i=some c/\Q (.str ⟨#[c]⟩) H
theorem lE:IxR X (rIxL X.K):=by
 intro value slice pins s σ H x y v u Q I rx ry h hs;obtain ⟨p,xs,i,z,rfl,rfl,hq,he,q⟩:=h;cases rx;obtain ⟨t,rfl⟩:=ry;obtain ⟨its,r,pl,hz⟩:=I.list hq;obtain ⟨j,h1,h2,h3,h4,h5⟩:=qT he;obtain ⟨w,ew,rw'⟩:=r.get h2;have hl:=r.length;have hn:=kf;have fin:EP X pins σ Q w s:=⟨z,H,I,rw',q⟩
 by_cases h0:0<=i
 ·have hj:i.toNat=j:=by
   rw [seqIndex_of h0 h5] at h1;exact Option.some.inj h1
  exact item_listR pl.isList h0 (by omega) (by rw [hj];simpa using ew) fin hs
 ·have hj:(i+(its.toArray.size:Int)).toNat=j:=by
   rw [seqIndex_neg (by omega) h4] at h1;rw [Du,<- hl];exact Option.some.inj h1
  exact subscriptTail_builtinR (x:=w) pl.isList.typeIs slot_list_getitem.lookup
   (wpAny_getItem_list_neg (Q:=fun r s'=>r=w/\EP X pins σ Q r s') pl.isList (by omega) (by rw [Du]<;>omega) (by omega) (by rw [hj];simpa using ew) ⟨rfl,fin⟩) hs
theorem uk:IxR X (rIxT X.K):=by
 intro value slice pins s σ H x y v u Q I rx ry h hs;obtain ⟨p,xs,i,z,rfl,rfl,hq,he,q⟩:=h;cases rx;obtain ⟨t,rfl⟩:=ry;obtain ⟨its,r,pl,hz⟩:=I.tuple hq;obtain ⟨j,h1,h2,h3,h4,h5⟩:=qT he;obtain ⟨w,ew,rw'⟩:=r.get h2;have hl:=r.length;have hn:=kf;have fin:EP X pins σ Q w s:=⟨z,H,I,rw',q⟩
 exact subscriptTail_builtinR (x:=w) pl.typeIs slot_tuple_getitem.lookup
  (getItem_tuple (j:=j) (Q:=fun r s'=>r=w/\EP X pins σ Q r s') pl (by omega) (by omega) (by rw [Du,<- hl];exact h1) (by simpa using ew) ⟨rfl,fin⟩) hs
theorem ix_str:IxR X rIxS:=by
 intro value slice pins s σ H x y v u Q I rx ry h hs;obtain ⟨z,i,c,rfl,rfl,hz,he,q⟩:=h;obtain ⟨t,rfl⟩:=rx;obtain ⟨t',rfl⟩:=ry;obtain ⟨j,h1,h2,h3,h4,h5⟩:=qT he
 have hl:z.cps.toList.length=z.length:=by simp [Str.length]
 rw [hl] at h1 h4 h5;have hn:=kf
 exact tail_any (typeIs_str s z t) slot_str_getitem.lookup (getItem_str (c:=c) (by
  have e1:decide (i < -(2 ^ 63:Int))=false:=DO (by omega);have e2:decide (i>=2 ^ 63)=false:=DO (by omega)
  rw [e1,e2,FD]) (by rw [h1];simpa using h2) ⟨.str ⟨#[c]⟩,H,I.tok _,⟨_,rfl⟩,q⟩) hs
noncomputable def rIx(K:FZ):R2:=fun x y H Q=>rIxL K x y H Q\/rIxT K x y H Q\/rIxS x y H Q
theorem ix_seq:IxR X (rIx X.K):=lE.or (uk.or ix_str)
theorem uh(its:List Value)(n j:Nat)(u:Value):Obj.mapSeq (·.setIfInBounds j u) { cls:= .type "list",data:= .seq its.toArray n }={ cls:= .type "list",data:= .seq (its.set j u).toArray n }:=by
 simp [Obj.mapSeq]
theorem Inv.lst{pins:List (Addr×Obj)}{σ:St}{H:Hp}{s:Shared}{p:Addr}{xs:List V}(I:Inv X pins σ H s)(h:H p=some (.lst xs)) :
 ∃ (its:List Value) (n:Nat),aC xs its/\s.heap.get? p=some { cls:= .type "list",data:= .seq its.toArray n }/\xs.length<=sizeLine:=by
 obtain ⟨z,its,n,r,e⟩:=I.hok p _ h;exact ⟨its,n,r,e,z⟩
theorem Inv.lstUpd{pins:List (Addr×Obj)}{σ:St}{H:Hp}{s:Shared}{p:Addr}{xs ys:List V}{its its':List Value}{n n':Nat}{f:Obj->Obj}(I:Inv X pins σ H s)(h:H p=some (.lst xs))
 (ho:s.heap.get? p=some { cls:= .type "list",data:= .seq its.toArray n }) (hf:f { cls:= .type "list",data:= .seq its.toArray n }={ cls:= .type "list",data:= .seq its'.toArray n' }) (r:aC ys its') (hz:ys.length<=sizeLine) (t:Nat) :
 Inv X pins σ (upd H p (.lst ys)) { s with heap:=s.heap.update p f,toks:=t }:=by
 have e:(s.heap.update p f).get? p=some { cls:= .type "list",data:= .seq its'.toArray n' }:=by
  rw [EC f ho (by rw [hf]<;>rfl),hf]
 refine I.write (x:=p) (e:=p) (by rw [h];trivial) (.inl rfl) (fun b u hb q=>(Ff _ _ (Ne.symm hb)).trans q) ⟨_,e⟩ ?_;exact ⟨hz,its',n',r,e⟩
noncomputable def CL:V->V->V->Hp->(Hp->Prop)->Prop:=fun o i v H Q=>∃ p xs k j,o = .ref p/\i = .int k/\H p=some (.lst xs)/\ixN xs.length k=some j/\Q (upd H p (.lst (xs.set j v)))
theorem lW:PSet X CL:=by
 intro pins s σ H o i v ov iv u Q I ro ri rv h;obtain ⟨p,xs,k,j,rfl,rfl,hp,hj,q⟩:=h;cases ro;obtain ⟨t,rfl⟩:=ri;obtain ⟨its,n,r,ho,hz⟩:=I.lst hp;obtain ⟨h1,h2,h3,h4⟩:=vE hj;have hl:=r.length;have hn:=kf
 have I':Inv X pins σ (upd H p (.lst (xs.set j v))) { s with heap:=s.heap.update p (Obj.mapSeq (·.setIfInBounds j u)) } :=
  I.lstUpd hp ho (uh its n j u) (r.set rv j) (by rw [Ex];exact hz) s.toks
 by_cases h0:0<=k
 ·have hk:k.toNat=j:=by
   rw [seqIndex_of h0 h4] at h1;exact Option.some.inj h1
  exact PySem.W.ki_setAt ho h0 (by omega) (by rw [Du,<- hl];exact h4) (by rw [hk];exact ⟨_,I',q⟩)
 ·have hk:(k+(its.toArray.size:Int)).toNat=j:=by
   rw [seqIndex_neg (by omega) h3] at h1;rw [Du,<- hl];exact Option.some.inj h1
  exact PySem.W.ki_setBack ho (by omega) (by rw [Du,<- hl];exact h3) (by omega) (by rw [hk];exact ⟨_,I',q⟩)
theorem pV(lo hi:Option Int)(n:Nat):(sliceBounds lo hi none n).1=((HT.sIx n 0 lo:Nat):Int)/\(sliceBounds lo hi none n).2.1=((HT.sIx n n hi:Nat):Int)/\(sliceBounds lo hi none n).2.2=1:=by
 refine ⟨?_,?_,rfl⟩
 ·cases lo with
  | none=>simp [sliceBounds,HT.sIx]
  | some i =>
   simp only [sliceBounds,HT.sIx,Option.getD_none,show (1:Int) > 0 by decide,if_true]
   by_cases h:i < 0
   ·simp only [h,if_true]<;>omega
   ·simp only [h,if_false]<;>omega
 ·cases hi with
  | none=>simp [sliceBounds,HT.sIx]
  | some i =>
   simp only [sliceBounds,HT.sIx,Option.getD_none,show (1:Int) > 0 by decide,if_true]
   by_cases h:i < 0
   ·simp only [h,if_true]<;>omega
   ·simp only [h,if_false]<;>omega
theorem n5(its:List Value)(lo hi:Option Int):slicePick its.toArray lo hi none=((its.drop (HT.sIx its.length 0 lo)).take (HT.sIx its.length its.length hi - HT.sIx its.length 0 lo)).toArray:=by
 obtain ⟨h1,h2,h3⟩:=pV lo hi its.toArray.size;unfold slicePick;rw [h1,h2,h3]
 simp only [sliceRange_one,pick_run,Du]<;>rfl
noncomputable def rSlL(K:FZ):V->Option Int->Option Int->Hp->VK->Prop:=fun x lo hi H Q=>∃ a xs,x = .ref a/\SqL K H a xs/\∀ p,H p=none->Q (.ref p) (upd H p (.lst (nE xs lo hi)))
theorem AW:SlR X (rSlL X.K):=by
 intro pins s σ H x v vl vu lo hi sl Q I rx hs pl pu h;obtain ⟨a,xs,rfl,hx,q⟩:=h;cases rx;obtain ⟨its,r,ht,hz⟩:=I.list hx;have hlen:=r.length;refine ⟨"list",_,slot_list_getitem.lookup,ht.isList.typeIs,?_⟩;refine wpAny_getItem_list_slice ht.isList hs pl pu .none (by simp) ?_ (by rw [Du]<;>omega);rw [n5,<- hlen];refine ⟨.ref s.heap.objs.size,_,I.laid (t':=s.toks) (o:= .lst (nE xs lo hi)) (fun b ob q=>Dk _ q) (Dy _) ?_,rfl,q _ (I.hok.fresh (Dy _))⟩;exact ⟨Eu (kK xs lo hi) hz,_,0,(r.drop (HT.sIx xs.length 0 lo)).take (HT.sIx xs.length xs.length hi - HT.sIx xs.length 0 lo),Dw _ rfl⟩
noncomputable def fW:V->Bool
 | .non=>true
 | .bl _=>true
 | .int _=>true
 | .str _=>true
 | _=>false
noncomputable def eqV:V->V->Bool
 | .non,.non=>true
 | .bl a,.bl b=>a == b
 | .bl a,.int b=>(if a then 1 else 0) == b
 | .int a,.bl b=>a == (if b then 1 else 0)
 | .int a,.int b=>a == b
 | .str a,.str b=>a == b
 | _,_=>false
theorem eqAt_V{A:Around}{s:Shared}{y x:V}{u v:Value}(ry:aG y u)(rx:aG x v)(fy:fW y=true)(fx:fW x=true):SeqAt.EqAt A s u v (eqV y x):=by
 cases y with
 | non =>
  cases ry
  cases x with
  | non=>cases rx;exact SeqAt.EqAt.same _
  | bl b=>cases rx;exact SeqAt.EqAt.none_bool b
  | int b=>obtain ⟨t,rfl⟩:=rx;exact SeqAt.EqAt.none_int b t
  | str b=>obtain ⟨t,rfl⟩:=rx;exact SeqAt.EqAt.none_str b t
  | _=>exact absurd (show false=true from fx) DB
 | bl a =>
  cases ry
  cases x with
  | non=>cases rx;exact SeqAt.EqAt.bool_none a
  | bl b=>cases rx;exact SeqAt.EqAt.bool_bool a b
  | int b=>obtain ⟨t,rfl⟩:=rx;exact SeqAt.EqAt.bool_int a b t
  | str b=>obtain ⟨t,rfl⟩:=rx;exact SeqAt.EqAt.bool_str a b t
  | _=>exact absurd (show false=true from fx) DB
 | int a =>
  obtain ⟨t',rfl⟩:=ry
  cases x with
  | non=>cases rx;exact SeqAt.EqAt.int_none a t'
  | bl b=>cases rx;exact SeqAt.EqAt.int_bool a t' b
  | int b=>obtain ⟨t,rfl⟩:=rx;exact SeqAt.EqAt.int_int a t' b t
  | str b=>obtain ⟨t,rfl⟩:=rx;exact SeqAt.EqAt.int_str a t' b t
  | _=>exact absurd (show false=true from fx) DB
 | str a =>
  obtain ⟨t',rfl⟩:=ry
  cases x with
  | non=>cases rx;exact SeqAt.EqAt.str_none a t'
  | bl b=>cases rx;exact SeqAt.EqAt.str_bool a t' b
  | int b=>obtain ⟨t,rfl⟩:=rx;exact SeqAt.EqAt.str_int a t' b t
  | str b=>obtain ⟨t,rfl⟩:=rx;exact SeqAt.EqAt.str_str a t' b t
  | _=>exact absurd (show false=true from fx) DB
 | _=>exact absurd (show false=true from fy) DB
noncomputable def eqU(x:V)(u:Value):Bool:=match u with
 | .none=>eqV .non x
 | .bool b=>eqV (.bl b) x
 | .int i _=>eqV (.int i) x
 | .str z _=>eqV (.str z) x
 | _=>false
theorem uB{x y:V}{u:Value}(r:aG y u)(f:fW y=true):eqU x u=eqV y x:=by
 cases y with
 | non=>cases r;rfl
 | bl b=>cases r;rfl
 | int i=>obtain ⟨t,rfl⟩:=r;rfl
 | str z=>obtain ⟨t,rfl⟩:=r;rfl
 | _=>exact absurd (show false=true from f) DB
theorem mT{A:Around}{s:Shared}{x:V}{v:Value}(rx:aG x v)(fx:fW x=true):∀ {xs:List V} {us:List Value},aC xs us->xs.all fW=true->∀ u∈us,SeqAt.EqAt A s u v (eqU x u)
 | _,_,.nil,_=>fun u hu=>by cases hu
 | y::xs,u::us,.cons r t,f=>fun u' hu=>by
  rw [FO,DK] at f
  rcases Dz.mp hu with rfl | hu
  ·rw [uB r f.1];exact eqAt_V r rx f.1 fx
  ·exact mT rx fx t f.2 u' hu
theorem qQ:aH X (.builtin "len") (fun xs H Q=>∃ p ys,xs=[.ref p]/\(SqL X.K H p ys\/SqT X.K H p ys)/\Q (.int ys.length) H):=by
 intro pins s σ H xs us Q I r h;obtain ⟨p,ys,rfl,hq,q⟩:=h;obtain ⟨u,rfl,rx⟩:=bT r;cases rx;have hn:=kf
 rcases hq with hq | hq
 ·obtain ⟨its,r',pl,hz⟩:=I.list hq
  have hlen:=r'.length;exact Calls.call_len_list pl.isList (by simp only [Du]<;>omega) ⟨.int ys.length,H,I.tok _,⟨s.toks+1,by rw [Du,hlen]⟩,q⟩
 ·obtain ⟨its,r',pl,hz⟩:=I.tuple hq
  have hlen:=r'.length;exact len_tuple pl (by simp only [Du]<;>omega) ⟨.int ys.length,H,I.tok _,⟨s.toks+1,by rw [Du,hlen]⟩,q⟩
theorem aH.or{f:Value}{r r':List V->Hp->VK->Prop}(h:aH X f r)(h':aH X f r'):aH X f (fun xs H Q=>r xs H Q\/r' xs H Q):=by
 intro pins s σ H xs us Q I rs q
 rcases q with q | q
 ·exact h pins s σ H xs us Q I rs q
 ·exact h' pins s σ H xs us Q I rs q
theorem qP:aH X (.type "list") (fun xs H Q=>∃ p ys,xs=[.ref p]/\(SqL X.K H p ys\/SqT X.K H p ys)/\∀ l,H l=none->Q (.ref l) (upd H l (.lst ys))):=by
 intro pins s σ H xs us Q I r h;obtain ⟨p,ys,rfl,hq,q⟩:=h;obtain ⟨u,rfl,rx⟩:=bT r;cases rx
 have fin:∀ (its:List Value),aC ys its->ys.length<=sizeLine->∀ (h':Heap) (c':Nat),(∀ b o',s.heap.get? b=some o'->h'.get? b=some o') ->
  h'.get? s.heap.objs.size=some { cls:= .type "list",dict:=none,data:= .seq its.toArray c',slots := #[] }->EP X pins σ Q (.ref s.heap.objs.size) { s with heap:=h' }:=fun its r' hz h' c' kp e =>
  ⟨.ref s.heap.objs.size,_,I.laid (t':=s.toks) kp (Dy _) (show bA X.prog X.w _ h' _ (.lst ys) from ⟨hz,its,c',r',e⟩),rfl,q _ (I.hok.fresh (Dy _))⟩
 rcases hq with hq | hq
 ·obtain ⟨its,r',pl,hz⟩:=I.list hq
  have hlen:=r'.length;obtain ⟨o,ho,hc,n,hd⟩:=pl.isList;exact call_list_seq p (.inl rfl) ho hc hd (fun h' c' kp e=>fin its r' hz h' c' kp e) (by simp only [Du]<;>omega)
 ·obtain ⟨its,r',pl,hz⟩:=I.tuple hq
  have hlen:=r'.length;obtain ⟨o,ho,hc,n,hd⟩:=pl;exact call_list_seq p (.inr rfl) ho hc hd (fun h' c' kp e=>fin its r' hz h' c' kp e) (by simp only [Du]<;>omega)
theorem oz:aH X (.type "tuple") (fun xs H Q=>∃ p ys,xs=[.ref p]/\((SqL X.K H p ys/\∀ l,H l=none->Q (.ref l) (upd H l (.tup ys)))\/(SqT X.K H p ys/\Q (.ref p) H))):=by
 intro pins s σ H xs us Q I r h;obtain ⟨p,ys,rfl,h⟩:=h;obtain ⟨u,rfl,rx⟩:=bT r;cases rx
 rcases h with ⟨hq,q⟩ | ⟨hq,q⟩
 ·obtain ⟨its,r',pl,hz⟩:=I.list hq
  have hlen:=r'.length;refine call_tuple_list pl.isList (fun h' kp=> ?_) (by simp only [Du]<;>omega);have I1:Inv X pins σ H { s with heap:=h' }:=I.kept (t':=s.toks) kp
  have I2:Inv X pins σ (upd H h'.objs.size (.tup ys)) { s with heap:=h'.push { cls:= .type "tuple",data:= .seq its.toArray } } :=
   I1.laid (t':=s.toks) (fun b o e=>Dk _ e) (Dy _) (show bA X.prog X.w _ _ _ (.tup ys) from ⟨hz,its,r',IsTup.new _ _⟩)
  exact ⟨.ref h'.objs.size,_,I2,rfl,q _ (I1.hok.fresh (Dy _))⟩
 ·obtain ⟨its,r',pl,hz⟩:=I.tuple hq
  exact call_tuple_same pl ⟨.ref p,H,I,rfl,q⟩
noncomputable def tyV(K:FZ)(T:String)(x:V)(H:Hp):Prop:=match x with
 | .str _=>T = "str"
 | .int _=>T = "int"
 | .ref p=>(T = "list" /\ ∃ xs,SqL K H p xs)\/(T = "tuple" /\ ∃ o,K.lookup p=some o/\o.cls = .type "tuple" /\ o.dict=none) \/
  (T = "dict" /\ ((∃ kvs,H p=some (.dK kvs))\/∃ kvs,H p=some (.dT kvs)))\/(T = "set" /\ ∃ S n,H p=some (.set S n))
 | _=>False
theorem tyV_is{pins:List (Addr×Obj)}{σ:St}{H:Hp}{s:Shared}{T:String}{x:V}{v:Value}(I:Inv X pins σ H s)(r:aG x v)(ty:tyV X.K T x H) :
 s.TypeIs v T/\∀ a,v = .ref a->∃ ob,s.heap.get? a=some ob/\ob.dict=none:=by
 cases x with
 | str z =>
  obtain ⟨t,rfl⟩:=r;cases (show T = "str" from ty);exact ⟨typeIs_str s z t,fun _ e=>nomatch e⟩
 | int i =>
  obtain ⟨t,rfl⟩:=r;cases (show T = "int" from ty);exact ⟨typeIs_int s i t,fun _ e=>nomatch e⟩
 | ref p =>
  cases r
  rcases ty with ⟨rfl,xs,hq⟩ | ⟨rfl,o,hk,hc,hd⟩ | ⟨rfl,hk⟩ | ⟨rfl,S,n,hk⟩
  ·obtain ⟨its,_,pl,_⟩:=I.list hq
   refine ⟨pl.isList.typeIs,fun a e=> ?_⟩;cases e;obtain ⟨o,n,e,c,hd,_⟩:=pl;exact ⟨o,e,hd⟩
  ·refine ⟨⟨o,I.kIn p o hk,hc⟩,fun a e=> ?_⟩
   cases e;exact ⟨o,I.kIn _ o hk,hd⟩
  ·have z:∃ o,s.heap.get? p=some o/\o.ExactDict:=by
    rcases hk with ⟨kvs,hk⟩ | ⟨kvs,hk⟩
    ·obtain ⟨_,_,_,_,o,_,_,e,ex,_⟩:=I.hok p _ hk
     exact ⟨o,e,ex⟩
    ·obtain ⟨_,_,_,_,o,_,_,e,ex,_⟩:=I.hok p _ hk
     exact ⟨o,e,ex⟩
   obtain ⟨o,e,ex⟩:=z;refine ⟨⟨o,e,ex.1⟩,fun a e2=> ?_⟩;cases e2;exact ⟨o,e,ex.2.1⟩
  ·obtain ⟨o,_,_,_,e,ex,_⟩:=I.hok p _ hk
   refine ⟨⟨o,e,ex.1⟩,fun a e2=> ?_⟩;cases e2;exact ⟨o,e,ex.2.1⟩
 | _=>exact False.elim ty
noncomputable def tBM(K:FZ)(T:String)(r:V->List V->Hp->VK->Prop)(to:TE)(t:TA):TE:=fun σ H Q=>to σ H fun x H1=>tyV K T x H1/\t σ H1 fun xs H2=>r x xs H2 Q
variable{o e:Expr}{es:List Expr}{to:TE}{t:TA}{name:Str}{apos cpos:Pos}{T id:String}{r:V->List V->Hp->VK->Prop}
theorem oV(pa:PlainAttrs T)(slot:Slot T name id)(hty:typeOf (.builtin id)=pure (.type "method_descriptor"))(hm:MtR X id r)(ho:PE X o to)(ha:PA X (e::es) t)
 (hbase:attributeBase o name X.env (eval o X.env)=eval o X.env:=by rfl)
 (hfew:((backTo cpos (starEach (e::es) X.env)).all (fun x => !x.1)&&(backToKw cpos (keywordEach [] X.env)).all (fun x=>x.1.isSome)
   && decide ((e::es).length+([]:List Keyword).length+(if ([]:List Keyword).isEmpty then 0 else 1) < 30))=true:=by rfl)
 (hline:(apos.endLine == cpos.line)=true:=by rfl) (hs:starEach (e::es) X.env=(false,eval e X.env)::starEach es X.env:=by rfl) (hplain:(backTo cpos (starEach es X.env)).any (·.1)=false:=by rfl) :
 PE X (.Call (.Attribute o name apos) (e::es) [] cpos) (tBM X.K T r to t):=by
 intro pins s σ H Q I h;refine wpAny_Call_method_late hbase hfew hline rfl (thn (ho pins s σ H _ I h) fun v s1 ⟨x,H1,I1,r1,ty,q1⟩=> ?_);obtain ⟨h1,h2⟩:=tyV_is I1 r1 ty;refine ⟨T,id,pa,slot,hty,h1,h2,?_⟩;have hA:=ha cpos pins s1 σ H1 _ I1 q1;rw [hs] at hA ⊢;refine Calls.callWith_builtin (by show (false||(backTo cpos (starEach es X.env)).any (·.1))=false;rw [hplain]<;>rfl) (Calls.evalArgs_plain ?_)
 exact thn hA fun us s2 ⟨vs,H2,I2,r2,q2⟩=>hm pins s2 σ H2 x vs v us Q I2 r1 r2 q2
end
noncomputable def MtM(X:Cx)(id:String)(r:V->List V->Hp->VK->Prop):Prop :=
 ∀ (pins:List (Addr×Obj)) (s:Shared) (σ:St) (H:Hp) (x:V) (xs:List V) (v:Value) (us:List Value) (Q:VK),Inv X pins σ H s->aG x v->aC xs us->r x xs H Q ->
  wpAny (model X.prog X.w) X.A (call (.builtin id) (v::us)) (EP X pins σ Q) X.xe s
theorem aC.one:∀ {x:V} {us:List Value},aC [x] us->∃ u,us=[u]/\aG x u
 | _,_,.cons r .nil=>⟨_,rfl,r⟩
theorem aC.rep{xs:List V}{us:List Value}(h:aC xs us):∀ k:Nat,aC (List.replicate k xs).flatten (List.replicate k us).flatten
 | 0=> .nil
 | k+1=>by
  rw [Ez,Ez,E5,E5];exact aC.append h (aC.rep h k)
theorem h9(its:List Value):∀ (k:Nat) (acc:List Value),
 List.foldl (fun x1 x2=>x1++x2) acc.toArray (List.replicate k its.toArray)=(acc++(List.replicate k its).flatten).toArray
 | 0,acc=>by simp
 | k+1,acc=>by
  have e:acc.toArray++its.toArray=(acc++its).toArray:=by simp
  have e2:(acc++its)++(List.replicate k its).flatten=acc++(List.replicate (k+1) its).flatten:=by
   rw [Ez,E5,Eh]
  rw [<- e2,<- h9 its k (acc++its),<- e,Ez,List.foldl_cons]
section
variable{X:Cx}{pins:List (Addr×Obj)}{σ:St}{H:Hp}{s:Shared}{l b:Addr}{xs ys zs:List V}
theorem Inv.lset{its its':List Value}{n:Nat}{f:Array Value->Array Value}{t':Nat}(I:Inv X pins σ H s)(hH:H l=some (.lst xs))
 (e:s.heap.get? l=some { cls:= .type "list",data:= .seq its.toArray n }) (hf:f its.toArray=its'.toArray) (hv:aC ys its') (hz:ys.length<=sizeLine) :
 Inv X pins σ (upd H l (.lst ys)) { s with heap:=s.heap.update l (Obj.mapSeq f),toks:=t' }:=by
 have q:=PySem.IsL.update e f;rw [hf] at q;refine I.write (x:=l) (e:=l) (by rw [hH];exact trivial) (.inl rfl) (fun b' u hb hu=>(Ff s.heap (Obj.mapSeq f) (Ne.symm hb)).trans hu) ⟨_,q⟩ ?_;exact ⟨hz,its',_,hv,q⟩
theorem Inv.lnew{its:List Value}{t':Nat}(I:Inv X pins σ H s)(hv:aC ys its)(hz:ys.length<=sizeLine) :
 Inv X pins σ (upd H s.heap.objs.size (.lst ys)) { s with heap:=s.heap.push { cls:= .type "list",data:= .seq its.toArray },toks:=t' } :=
 I.laid (fun _ _ q=>Dk _ q) (Dy _) ⟨hz,its,0,hv,Dw _ rfl⟩
theorem Inv.fresh(I:Inv X pins σ H s):H s.heap.objs.size=none:=I.hok.fresh (Dy _)
theorem Inv.lstM(I:Inv X pins σ H s)(hH:H l=some (.lst xs)):xs.length<=sizeLine/\∃ (its:List Value) (n:Nat),aC xs its/\xs.length=its.length/\s.heap.get? l=some { cls:= .type "list",data:= .seq its.toArray n }:=by
 obtain ⟨z,its,n,r,e⟩:=I.hok l _ hH;exact ⟨z,its,n,r,r.length,e⟩
theorem mQ{n:Nat}(h:n<=sizeLine):Builtin.List.listTooLong n=false:=by
 unfold Builtin.List.listTooLong;exact DO (by omega)
end
section
variable{X:Cx}
noncomputable def vq:V->List V->Hp->VK->Prop:=fun x vs H Q=>∃ l xs y,x = .ref l/\vs=[y]/\H l=some (.lst xs)/\xs.length < sizeLine/\Q .non (upd H l (.lst (xs++[y])))
theorem hU:MtM X "list.append" vq:=by
 intro pins s σ H x vs v us Q I rx rv h;obtain ⟨l,xs,y,rfl,rfl,hH,hz,q⟩:=h;cases rx;obtain ⟨u,rfl,ru⟩:=rv.one;obtain ⟨z,its,n,r,hl,e⟩:=I.lstM hH;refine call_meets F.slot_list_append ⟨_,e,rfl⟩ F.entry_list_append (F.args_list_append_2 _ _) (PySem.list_append l its.toArray n u (by rw [Du];omega)) ⟨e,?_⟩;refine ⟨.non,_,I.lset (its':=its++[u]) hH e (by simp) (r.append (.cons ru .nil)) ?_,rfl,q⟩;rw [DI,List.length_singleton];omega
noncomputable def vp:V->List V->Hp->VK->Prop:=fun x vs H Q=>∃ l b xs zs,x = .ref l/\vs=[.ref b]/\H l=some (.lst xs)/\H b=some (.lst zs)/\xs.length+zs.length<=sizeLine/\Q .non (upd H l (.lst (xs++zs)))
theorem wv:MtM X "list.extend" vp:=by
 intro pins s σ H x vs v us Q I rx rv h;obtain ⟨l,b,xs,zs,rfl,rfl,hH,hB,hz,q⟩:=h;cases rx;obtain ⟨u,rfl,ru⟩:=rv.one;cases ru;obtain ⟨z,its,n,r,hl,e⟩:=I.lstM hH;obtain ⟨z2,its2,n2,r2,hl2,e2⟩:=I.lstM hB
 have hsz:its.toArray.size+its2.toArray.size<=sizeLine:=by rw [Du,Du];omega
 have hlong:¬ (!its.toArray.isEmpty&&Builtin.List.listTooLong (its.toArray.size+its2.toArray.size))=true:=by
  rw [mQ hsz,EN];exact DB
 refine call_meets F.slot_list_extend ⟨_,e,rfl⟩ F.entry_list_extend (F.args_list_extend_2 _ _)
  (AutoSeq1.list_extend_list_list_0 l its.toArray n b its2.toArray n2 hlong (by rw [Du];omega) (by omega)) ⟨e,e2,?_⟩
 refine ⟨.non,_,I.lset (its':=its++its2) hH e (by simp) (r.append r2) ?_,rfl,q⟩;rw [DI];omega
noncomputable def rCat:R2:=fun x y H Q=>∃ l b xs zs,x = .ref l/\y = .ref b/\H l=some (.lst xs)/\H b=some (.lst zs)/\xs.length+zs.length<=sizeLine/\∀ p,H p=none->Q (.ref p) (upd H p (.lst (xs++zs)))
theorem yY:OpR X (binaryOp .Add) rCat:=by
 intro pins s σ H x y v u Q I rx ry h;obtain ⟨l,b,xs,zs,rfl,rfl,hH,hB,hz,q⟩:=h;cases rx;cases ry;obtain ⟨z,its,n,r,hl,e⟩:=I.lstM hH;obtain ⟨z2,its2,n2,r2,hl2,e2⟩:=I.lstM hB;refine PySem.P.add_list e e2 ?_ (by rw [Du,Du];omega)
 have ea:its.toArray++its2.toArray=(its++its2).toArray:=by simp
 rw [ea];exact ⟨.ref _,_,I.lnew (t':=s.toks) (r.append r2) (by rw [DI];omega),rfl,q _ I.fresh⟩
noncomputable def Bn:R2:=fun x y H Q=>∃ l k xs,x = .ref l/\y = .int k/\H l=some (.lst xs) /\ -(2 ^ 63)<=k/\k < 2 ^ 63/\xs.length * k.toNat<=sizeLine /\
 ∀ p,H p=none->Q (.ref p) (upd H p (.lst (List.replicate k.toNat xs).flatten))
theorem qA{α:Type}(xs:List α)(k:Nat):(List.replicate k xs).flatten.length=k * xs.length:=by
 induction k with
 | zero=>simp
 | succ k ih=>rw [Ez,E5,DI,ih,Nat.succ_mul,Nat.add_comm]
theorem op_rep:OpR X (binaryOp .Mult) Bn:=by
 intro pins s σ H x y v u Q I rx ry h;obtain ⟨l,k,xs,rfl,rfl,hH,h1,h2,hz,q⟩:=h;cases rx;obtain ⟨t,rfl⟩:=ry;obtain ⟨z,its,n,r,hl,e⟩:=I.lstM hH
 have hlen:its.toArray.size * k.toNat<=sizeLine:=by rw [Du,<- hl];exact hz
 have hcap:¬ its.toArray.size * k.toNat > (2 ^ 63 - 1) / 8:=by
  have:(sizeLine:Nat)<=(2 ^ 63 - 1) / 8:=by decide
  omega
 have hfit:¬ (!Builtin.List.listFitsIndex k)=true:=by
  rw [fitsIndex_both h1 h2];exact DB
 have hlong:¬ Builtin.List.listTooLong (its.toArray.size * k.toNat)=true:=by
  rw [mQ hlen];exact DB
 have hnew:List.foldl (fun x1 x2=>x1++x2) #[] (List.replicate (if its.toArray.isEmpty=true then 0 else k.toNat) its.toArray)=(List.replicate k.toNat its).flatten.toArray:=by
  have f0:∀ m:Nat,List.foldl (fun x1 x2=>x1++x2) #[] (List.replicate m its.toArray)=(List.replicate m its).flatten.toArray:=fun m=>by
   have:=h9 its m [];rw [DX] at this;exact this
  rw [f0]
  cases its with
  | nil=>simp
  | cons a r'=>rw [if_neg (by simp)]
 refine wpAny_binaryOp_repeat_ref (T := "list") (U := "int") (by decide) ⟨_,e,rfl⟩ (fun s'=>typeIs_int s' k t) noFill_list_mul F.fills_int_mul F.slot_int_rmul repeat_list F.slot_int_index.lookup
  (call_meets F.slot_int_rmul (typeIs_int s k t) F.entry_int_rmul (F.args_int_rmul_2 _ _) (int___rmul___int_list k t l its.toArray n)
    ⟨e,rfl,⟨_,e,rfl⟩,call_meets F.slot_list_mul ⟨_,e,rfl⟩ F.entry_list_mul (F.args_list_mul_2 _ _) (AutoListH.list___mul___list_int_3 l its.toArray n k t hfit hcap hlong) ⟨e,?_⟩⟩)
 rw [hnew];exact ⟨.ref _,_,I.lnew (t':=s.toks) (r.rep k.toNat) (by rw [qA,Nat.mul_comm];exact hz),rfl,q _ I.fresh⟩
end
section
variable{prog:Program}{w:World}{A:Around}{E:Value->Shared->Prop}{s:Shared}
end
section
variable{X:Cx}
end
end L2
namespace Att
open PySem PySem.W PySem.Calls PyProof.Rows
theorem lm{P:Params}{h:Heap}:∀ (ns:List Int) (vs:List Value),WellAll P h vs (ns.map WData.int)->IntsAre vs ns:=by
 intro ns
 induction ns with
 | nil =>
  intro vs w;rw [ES] at w;cases w;exact .nil
 | cons n ns ih =>
  intro vs w;rw [DE] at w
  cases w with
  | cons a b =>
   cases a;exact .cons _ _ (ih _ b)
theorem wd{l:OpenLaw}{n:Nat}(hn:l.most=some n){P:Params}{h:Heap}{args:List WData}{vals:List Value}
 (hpre:l.row.toRowW.claim.pre args=true) (hwl:WellAll P h vals args) :
 ∃ a vs ns,vals=[Value.ref a]/\args=[WData.list (ns.map WData.int)]/\h.get? a=some { cls:= .type "list",data:= .seq vs.toArray }/\IntsAre vs ns/\ns.length<=n:=by
 have hsh:WShape.hasAll [] args [.list .int]=true:=(pre_splitW hpre).1;have hc:l.pre.holds [] { args:=args }=true:=(pre_splitW hpre).2;obtain ⟨d,r,rfl,h1,h2⟩:=hasAllW_cons hsh;obtain rfl:=hasAllW_nil h2;obtain ⟨xs,rfl,h3⟩:=hasW_list h1;obtain ⟨ns,rfl⟩:=items_int h3
 have hlen:ns.length<=n:=by
  unfold OpenLaw.pre at hc
  have h4:(WTm.not (.lt (.lit (.int (n:Int))) (.len (.arg 0)))).holds [] { args:=[.list (ns.map .int)] }=true:=by
   have h4:=(holds_andW hc).1;rw [hn] at h4;exact h4
  have h5:=condW_of h4 (w_not (w_lt w_lit (w_len_list (w_arg rfl))));rw [Do] at h5
  refine Nat.le_of_not_lt fun q=> ?_
  have q':(n:Int) < ((ns.length:Nat):Int):=by omega
  first
   | (rw [DF q'] at h5;exact absurd h5 (by decide))
   | (simp at h5;omega)
 cases hwl with
 | cons w1 w2 =>
  cases w2
  cases w1 with
  | list ho hall=>exact ⟨_,_,ns,rfl,rfl,ho,lm ns _ hall,hlen⟩
theorem wm(l:OpenLaw)(args:List WData):l.row.toRowW.claim.post args (.bool true) args=true :=
 postW_of (r:=l.row.toRowW) (X:=(true == true))
  (show WShape.has [] (.bool true) .bool=true by first | rfl | decide | simp [WShape.has,WShape.arms,WShape.armsAll])
  (show (WTm.eq .res (.lit (.bool true))).value [] { args:=args,res:=some (.bool true),after:=args }=some (.bool (true == true)) from w_eq_bool (w_res rfl) w_lit) rfl
theorem tG{l:OpenLaw}{n:Nat}{q:Program}{loose:List Str}{XP:(Str->Option Value)->Heap->Prop}{YP:World->Heap->Prop}{d:DefRec}
 (hn:l.most=some n) (hdf:d.params.defaults=[])
 (call:∀ (w:World) (s₀ s₁:Shared) (mg mb:Str->Option Value) (fa:Addr) (o:Obj) (pm cd doc:Value) (a:Addr) (vs:List Value) (ns:List Int),
   Ground q loose [] XP w s₀ mg mb s₁.heap->YP w s₁.heap ->
   s₁.heap.get? fa=some o->o.data = .func (docDef d.name d.params d.body d.scope pm cd doc)->s₁.heap.CodeRec cd d.name->mg d.name=some (.ref fa) ->
   s₁.heap.get? a=some { cls:= .type "list",data:= .seq vs.toArray }->IntsAre vs ns->ns.length<=n->s₁.gens = #[] ->
   codeAny (model l.prog w) callerA (.call (.ref fa) ⟨[.ref a],[]⟩) (fun r s'=>r = .ok (.ret (.bool true))/\OldK s₁.heap s'.heap/\s'.os=s₁.os/\AllBare s'.gens) s₁) :
 WalkO q loose XP YP l.row.toRowW d [] (fun f vs=>PySem.call f vs):=by
 intro w s₀ s₁ mg mb G Y fa o pm cd doc dV kV ho hd hcd hD hmg hg args vals as hpre hlay hrd hwl hlo;obtain rfl:dV = .none:=Dflts.none hD hdf;obtain rfl:kV = .none:=Dflts.noKw hD;obtain ⟨a,vs,ns,rfl,rfl,hobj,hints,hlen⟩:=wd hn hpre hwl;refine enter_call (codeAny_mono (call w s₀ s₁ mg mb fa o pm cd doc a vs ns G Y ho (fd_plain hd) hcd hmg hobj hints hlen hg) fun r s' hq=> ?_);obtain ⟨rfl,h2,h3,h4⟩:=hq;exact ⟨.inl ⟨.bool true,.bool true,[],rfl,fun _=>rfl,.bool true,wm l _,fun _=>⟨List.Pairwise.nil,fun _ hm=>(nomatch hm)⟩⟩,h2,h3,h4⟩
section
variable{prog:Program}{w:World}{A:Around}{E:Value->Shared->Prop}{s:Shared}{K:Frag}
end
end Att
namespace L2
open PySem PySem.Spec PyProof.Rows
theorem oC:∀ {vs:List Value} {ns:List Int},IntsAre vs ns->aC (ns.map V.int) vs
 | _,_,.nil=> .nil
 | _,_,.cons n t h=> .cons ⟨t,rfl⟩ (oC h)
noncomputable def Only(H:Hp):Prop:=∀ b,H b=none\/∃ o xs,H b=some (.frz o (.lst xs))
theorem zm{P:Program}{w:World}{K:FZ}{mg mb:Str->Option Value}{CX:CXT}{k:Nat}{fa a:Addr}{fd:FuncData}{x:Str}{sp:Sp}{s₁:Shared}{vs:List Value}{ns:List Int}
 (KX:K.In s₁.heap) (hns:s₁.heap.Ns mainGlobals mg) (hb:s₁.heap.Ns builtinsNs mb) (hbb:∀ x:Str,x ≠ "__name__" -> mb x=bootBuiltins x) (hlim:s₁.heap.NoLimit) (hg:s₁.gens = #[])
 (ha:s₁.heap.get? a=some { cls:= .type "list",data:= .seq vs.toArray }) (hi:IntsAre vs ns) (hl:ns.length<=sizeLine) (hr:cx k callerA)
 (F:∀ base:Heap,K.In base->base.Ns mainGlobals mg->kq P w K mg base CX k fa fd [x] sp) (hbind:∀ (s:Shared) (u:Value),BindsTo s fd ⟨[u],[]⟩ [(x,u)])
 (hsp:∀ H:Hp,Only H->SqL K H a (ns.map V.int)->sp [.ref a] H (fun v _=>v = .bl true) fun _ _ _=>False)
 (hCX:∀ H e s',CX [] H s₁ (fun _ _ _=>False) e s'->False) :
 codeAny (model P w) callerA (.call (.ref fa) ⟨[.ref a],[]⟩) (fun r s'=>r = .ok (.ret (.bool true))/\OldK s₁.heap s'.heap/\s'.os=s₁.os/\AllBare s'.gens) s₁:=by
 have rv:=oC hi;have lenV:=hi.length
 have core:∀ H:Hp,Only H->SqL K H a (ns.map V.int)->HOk P w H s₁.heap->(∀ b,H b≠none->b=a)->(H a≠none->K.lookup a=none) ->
  codeAny (model P w) callerA (.call (.ref fa) ⟨[.ref a],[]⟩) (fun r s'=>r = .ok (.ret (.bool true))/\OldK s₁.heap s'.heap/\s'.os=s₁.os/\AllBare s'.gens) s₁:=by
  intro H hO hS hok hA hK
  have base_of:∀ {b:Addr} {o:Obj},s₁.heap.get? b=some o->H b=none->(qD s₁.heap H).get? b=some o:=fun e n=>zE e n
  have noA:∀ {b:Addr} {o:Obj} {es:Array DictEntry} {ep:Nat},s₁.heap.get? b=some o->o.data = .dict es ep->H b=none:=fun {b o es ep} e d=>by
   cases q:H b with
   | none=>rfl
   | some u =>
    have e':b=a:=hA b (by rw [q];simp);subst e';rw [ha] at e;cases e;have d':Data.seq vs.toArray _=Data.dict es ep:=d;cases d'
  have nsK:∀ {b:Addr} {m:Str->Option Value},s₁.heap.Ns b m->(qD s₁.heap H).Ns b m:=fun {b m} ⟨o,es,ep,e,d,r⟩=>⟨o,es,ep,base_of e (noA e d),d,r⟩
  have hKb:K.In (qD s₁.heap H):=fun b o e=>base_of (KX b o e) (by
   cases q:H b with
   | none=>rfl
   | some u =>
    have e':b=a:=hA b (by rw [q];simp);subst e'
    rw [hK (by rw [q];simp)] at e;cases e)
  have hM:Mod K mg (qD s₁.heap H):=⟨hKb,nsK hns,⟨mb,nsK hb,hbb⟩,let ⟨mc,h1,h2⟩:=hlim;⟨mc,nsK h1,h2⟩⟩;have e0:xz P w K mg (qD s₁.heap H) callerA [] s₁ H:=⟨rfl,hM,fun b o e=>BS e,Nat.le_of_eq (wG _ _),trivial,fun b hb=>absurd (show b∈([]:List Addr) from hb) (by simp),hok,.of_eq hg⟩
  refine codeAny_mono ((F _ hKb (nsK hns)).run callerA [] s₁ H ⟨[.ref a],[]⟩ [.ref a] [.ref a] _ _ hr e0 (hbind s₁ (.ref a)) (.cons rfl .nil) (hsp H hO hS)) fun r s' h=> ?_
  cases r with
  | error e=>exact (hCX H e s' h).elim
  | ok fl =>
   cases fl with
   | next=>exact False.elim h
   | brk=>exact False.elim h
   | cont=>exact False.elim h
   | ret u =>
    obtain ⟨v,H',os,bare,un,hok',r',q⟩:=h;have q':v = .bl true:=q;subst q';obtain rfl:u=Value.bool true:=r';refine ⟨rfl,OldK.of_keep fun b o e=> ?_,os,bare⟩
    cases q:H b with
    | none=>exact un.keep b o e q (by intro z;exact absurd (show b∈([]:List Addr) from z) (by simp)) (by simp)
    | some u =>
     rcases hO b with z | ⟨ob,xs,z⟩
     ·rw [q] at z;cases z
     ·have z2:=un.frzs b ob _ z
      obtain ⟨e1,_⟩:=hok b _ z;obtain ⟨e2,_⟩:=hok' b _ z2;rw [e] at e1;cases e1;exact e2
 cases hk:K.lookup a with
 | some o =>
  have e:=KX a o hk;rw [ha] at e;cases e
  refine core (fun _=>none) (fun _=> .inl rfl) (.inr ⟨_,vs.toArray,_,hk,rfl,rfl,rfl,by rw [Du,lenV];exact hl,by simpa using rv⟩) (fun b u z=>by have z':(none:Option HO)=some u:=z;cases z') (fun b z=>absurd rfl z) fun z=>absurd rfl z
 | none =>
  refine core (fun b=>if b=a then some (.frz { cls:= .type "list",data:= .seq vs.toArray } (.lst (ns.map V.int))) else none) (fun b=> ?_) (.inl (.inr ⟨{ cls:= .type "list",data:= .seq vs.toArray },if_pos rfl⟩)) (fun b u z=> ?_) (fun b z=> ?_) fun _=>hk
  ·by_cases hb:b=a
   ·exact .inr ⟨_,_,if_pos hb⟩
   ·exact .inl (if_neg hb)
  ·by_cases hb:b=a
   ·have z':=(if_pos hb).symm.trans z
    cases z';subst hb;exact ⟨ha,by rw [Do];exact hl,vs,_,rv,ha⟩
   ·have z':=(if_neg hb).symm.trans z
    cases z'
  ·by_cases hb:b=a
   ·exact hb
   ·exact absurd (if_neg hb) z
abbrev KOf{K:FZ}{h:Heap}(_:K.In h):FZ:=K
theorem AF{l:PySem.W.OpenLaw}{n k:Nat}{q:Program}{loose:List Str}{XP:(Str->Option Value)->Heap->Prop}{YP:World->Heap->Prop}{d:DefRec}{K:Params->FZ}{CX:World->CXT}{sp:World->Sp}{x:Str}
 (hn:l.most=some n) (hn2:n<=sizeLine) (hdf:d.params.defaults=[]) (hr:cx k callerA)
 (hY:∀ (w:World) (h:Heap),YP w h->(K w.params).In h)
 (F:∀ (w:World) (mg:Str->Option Value) (fa:Addr) (h:Heap),(K w.params).In h->h.Ns mainGlobals mg->mg d.name=some (.ref fa) ->
   ∃ fd:FuncData,(∀ (s:Shared) (u:Value),BindsTo s fd ⟨[u],[]⟩ [(x,u)]) /\
    ∀ base:Heap,(K w.params).In base->base.Ns mainGlobals mg->kq l.prog w (K w.params) mg base (CX w) k fa fd [x] (sp w))
 (hsp:∀ (w:World) (H:Hp) (a:Addr) (ns:List Int),ns.length<=n->Only H->SqL (K w.params) H a (ns.map V.int)->sp w [.ref a] H (fun v _=>v = .bl true) fun _ _ _=>False)
 (hCX:∀ (w:World) (H:Hp) (s:Shared) (e:Value) (s':Shared),CX w [] H s (fun _ _ _=>False) e s'->False) :
 PySem.W.WalkO q loose XP YP l.row.toRowW d [] (fun f vs=>PySem.call f vs):=by
 refine Att.tG hn hdf fun w s₀ s₁ mg mb fa o pm cd doc a vs ns G Y ho hd hcd hmg hobj hints hlen hg=> ?_
 have KX:=hY w _ Y;obtain ⟨fd,hb,hF⟩:=F w mg fa _ KX G.T.g hmg
 exact zm KX G.T.g G.T.b G.T.builtins G.T.nolimit hg hobj hints (Eu hlen hn2) hr hF hb (fun H hO hS=>hsp w H a ns hlen hO hS) fun H e s'=>hCX w H s₁ e s'
noncomputable def di(s:Stmt):Arguments:=match s with
 | .FunctionDef _ a _ _ _ _ _ _ _ _=>a
 | _=>{ posonlyargs:=[],args:=[],vararg:=none,kwonlyargs:=[],kw_defaults:=[],kwarg:=none,defaults:=[] }
noncomputable def bb(s:Stmt):List Stmt:=match s with
 | .FunctionDef _ _ b _ _ _ _ _ _ _=>b
 | _=>[]
noncomputable def ah(s:Stmt):Scope:=match s with
 | .FunctionDef _ _ _ _ _ _ sc _ _ _=>sc
 | _=>{ kind:= .function,names:=[],isGenerator:=false,isCoroutine:=false }
abbrev CX0:CXT:=fun _ _ _ _ _ _=>False
abbrev E0:XK:=fun _ _ _=>False
structure Fun(K:FZ)(x qual:Str)(st:Stmt)(f:Addr)(fd:FuncData):Prop where
 ex:∃ (oc:Value) (od:Option Addr) (kV doc pm:Value) (an:Option Addr) (cdv ct:Value) (osl:Array (Option Value)),
  fd=PySem.W.fnOf x qual (di st) (bb st) (ah st) .none kV doc pm an cdv ct/\K.lookup f=some ⟨oc,od,.func fd,osl⟩/\PySem.W.codeIn K cdv qual=true
 kp:PySem.W.keepIn K (.ref f)=true
section
variable{P:Program}{w:World}{K:FZ}{mg:Str->Option Value}{base:Heap}
theorem Fun.ok{x qual:Str}{st:Stmt}{f:Addr}{fd:FuncData}{N ps:List Str}{k:Nat}{sp:Sp}(F:Fun K x qual st f fd)(S:cy N ps (ah st))(len:∀ vs H Q E,sp vs H Q E->vs.length=ps.length)
 (hbody:∀ (cdv:Value) (A:Around) (outer:List Env) (s:Shared) (H:Hp) (vs:List V) (Q:VK) (E:XK),cx k (A.deeper (envOfC qual (ah st) s.heap.objs.size f cdv))->sp vs H Q E ->
   ∃ t,PSs (bZ CX0 P w K mg base N qual (ah st) f cdv A outer s H E).nox (bb st) t/\t { nx:=fun _ H'=>Q .non H',rt:=Q } (cQ N vs) H):kq P w K mg base CX0 (k+1) f fd ps sp:=by
 obtain ⟨oc,od,kV,doc,pm,an,cdv,ct,osl,rfl,lk,hcd⟩:=F.ex
 refine zX lk hcd S len fun A outer s H vs Q E hr hsp=> ?_
 obtain ⟨t,h,q⟩:=hbody cdv A outer s H vs Q E hr hsp;exact ⟨t,h.nox,q⟩
theorem Fun.binds{x qual:Str}{st:Stmt}{f:Addr}{fd:FuncData}{ps:List Str}(F:Fun K x qual st f fd)
 (h:∀ (kV doc pm:Value) (an:Option Addr) (cdv ct:Value) (us:List Value),us.length=ps.length->bindArgs (PySem.W.fnOf x qual (di st) (bb st) (ah st) .none kV doc pm an cdv ct) ⟨us,[]⟩=pure (ps.zip us)):jV K fd ps []:=by
 obtain ⟨oc,od,kV,doc,pm,an,cdv,ct,osl,rfl,lk,hcd⟩:=F.ex;exact .all (h kV doc pm an cdv ct)
theorem uz{x qual:Str}{st:Stmt}{f:Addr}{oc:Value}{od an:Option Addr}{osl:Array (Option Value)}{kV doc pm cdv ct:Value}(l:K.lookup f=some ⟨oc,od,.func (PySem.W.fnOf x qual (di st) (bb st) (ah st) .none kV doc pm an cdv ct),osl⟩)
 (c:PySem.W.codeIn K cdv qual=true) (k:PySem.W.keepIn K (.ref f)=true):Fun K x qual st f (PySem.W.fnOf x qual (di st) (bb st) (ah st) .none kV doc pm an cdv ct):=⟨⟨oc,od,kV,doc,pm,an,cdv,ct,osl,rfl,l,c⟩,k⟩
end
theorem cw{n:Nat}(h:n<=1000):n < sizeLine:=Nat.lt_of_le_of_lt h (by decide)
section
variable{X:Cx}
theorem pv(i:Nat){x:Str}{pos:Pos}(hN:X.N[i]?=some x:=by rfl)(hv:Vis X.env.scope x:=by first | exact Or.inl rfl | exact Or.inr (Or.inl rfl) | exact Or.inr (Or.inr rfl))(hd:(x == ("__debug__" : Str))=false:=by decide)
 (hcd:(x == ("__classdict__" : Str))=false:=by decide):PE X (.Name x pos) (xO i):=gw hN hv hd hcd
theorem xk:aH X (.builtin "len") (fun xs H Q=>∃ a kvs,xs=[V.ref a]/\H a=some (.dK kvs)/\Q (.int kvs.length) H):=by
 intro pins s σ H xs us Q I r h;obtain ⟨a,kvs,rfl,ha,q⟩:=h;obtain ⟨u,rfl,ru⟩:=bT r;cases ru
 exact d_len I (.inl ha) fun t s' I'=>⟨.int kvs.length,H,I',⟨t,rfl⟩,q⟩
end
theorem iteF{A B:Prop}(h:B):if false=true then A else B:=by
 rw [if_neg DB];exact h
noncomputable def ai(H H':Hp):Prop:=∀ b o,H b=some o->H' b=some o
theorem ai.refl(H:Hp):ai H H:=fun _ _ h=>h
theorem ai.trans{H H1 H2:Hp}(a:ai H H1)(b:ai H1 H2):ai H H2:=fun c o h=>b c o (a c o h)
theorem ai.free{H H':Hp}(e:ai H H'){l:Addr}(h:H' l=Option.none):H l=Option.none:=by
 cases q:H l with
 | none=>rfl
 | some o =>
  rw [e l o q] at h;cases h
theorem ai.seq{K:FZ}{H H':Hp}{a:Addr}{xs:List V}(e:ai H H')(h:SqL K H a xs):SqL K H' a xs:=by
 rcases h with (h | ⟨o,h⟩) | h
 ·exact .inl (.inl (e _ _ h))
 ·exact .inl (.inr ⟨o,e _ _ h⟩)
 ·exact .inr h
section
variable{κ:Type}[DecidableEq κ]
end
noncomputable def clF(env:Env):List (Str×NameKind)->List (Str×Addr)->List (Str×Addr)
 | [],acc=>acc
 | (n,k)::r,acc=>clF env r (if k == NameKind.free then (n,(env.cells.lookup n).getD 0)::acc else acc)
theorem uE{env:Env}{scope:Scope}(h:∀ y∈scope.names,y.2 = .free->∃ c,env.cells.lookup y.1=some c):closureFor scope env=pure (clF env scope.names []):=by
 have go:∀ (names:List (Str×NameKind)) (acc:List (Str×Addr)),(∀ y∈names,y.2 = .free->∃ c,env.cells.lookup y.1=some c) ->
  (forIn names acc fun (x:Str×NameKind) (r:List (Str×Addr))=>(match x with
    | (name,kind)=>if (kind == NameKind.free)=true then do let a <- cellOf env name;pure (ForInStep.yield ((name,a)::r)) else pure (ForInStep.yield r):Sem (ForInStep (List (Str×Addr)))))=(pure (clF env names acc):Sem (List (Str×Addr))):=by
  intro names
  induction names with
  | nil=>intro acc _;rfl
  | cons x r ih =>
   intro acc hy;obtain ⟨n,k⟩:=x
   have ih':=fun a=>ih a fun y m=>hy y (Dr _ m)
   rw [FT]
   cases hk:(k == NameKind.free) with
   | false =>
    dsimp only;rw [hk,if_neg DB,pure_bind]
    show _=pure (clF env r (if (k == NameKind.free)=true then _ else acc))
    rw [hk,if_neg DB];exact ih' acc
   | true =>
    obtain ⟨c,hc⟩:=hy (n,k) Dv (by simpa using hk)
    have e:cellOf env n=pure c:=by unfold cellOf;rw [hc]
    dsimp only;rw [hk,if_pos rfl,e,pure_bind,pure_bind]
    show _=pure (clF env r (if (k == NameKind.free)=true then _ else acc))
    rw [hk,if_pos rfl,hc];exact ih' _
 unfold closureFor;have e:=go scope.names [] h
 show (forIn scope.names [] _ >>= _)=_
 refine (congrArg (fun z=>z >>= fun cs=>pure cs) e).trans ?_;rfl
theorem qJ{env:Env}:∀ (names:List (Str×NameKind)) (acc:List (Str×Addr)),(∀ y∈names,y.2 = .free->∃ c,env.cells.lookup y.1=some c) ->
 (∀ x c,acc.lookup x=some c->env.cells.lookup x=some c)->∀ x c,(clF env names acc).lookup x=some c->env.cells.lookup x=some c
 | [],acc,_,h,x,c,e=>h x c e
 | (n,k)::r,acc,hy,h,x,c,e=>by
  refine qJ r _ (fun y m=>hy y (Dr _ m)) (fun y d z=> ?_) x c e
  cases hk:(k == NameKind.free) with
  | false=>rw [hk,if_neg DB] at z;exact h y d z
  | true =>
   rw [hk,if_pos rfl] at z;obtain ⟨c',hc⟩:=hy (n,k) Dv (by simpa using hk);rw [Fe] at z
   cases q:y == n with
   | true =>
    rw [q] at z
    have q':y=n:=by simpa using q
    subst q';have hc':env.cells.lookup y=some c':=hc;rw [hc'] at z ⊢;exact z
   | false=>rw [q] at z;exact h y d z
theorem qK{env:Env}:∀ (names:List (Str×NameKind)) (acc:List (Str×Addr)) (x:Str),((x,NameKind.free)∈names\/∃ c,acc.lookup x=some c)->∃ c,(clF env names acc).lookup x=some c
 | [],acc,x,h=>by
  rcases h with h | h
  ·cases h
  ·exact h
 | (n,k)::r,acc,x,h=>by
  refine qK r _ x ?_
  have keep:(∃ c,acc.lookup x=some c)->∃ c,(if (k == NameKind.free)=true then (n,(env.cells.lookup n).getD 0)::acc else acc).lookup x=some c:=fun hZ=>by
   obtain ⟨c,hc⟩:=hZ
   split
   ·rw [Fe]
    split
    ·exact ⟨_,rfl⟩
    ·exact ⟨c,hc⟩
   ·exact ⟨c,hc⟩
  rcases h with h | h
  ·rcases Dz.mp h with e | e
   ·have e1:x=n:=congrArg Prod.fst e
    have e2:NameKind.free=k:=congrArg Prod.snd e;subst e1 e2;refine .inr ⟨(List.lookup x env.cells).getD 0,?_⟩;rw [if_pos (by rfl),Fe,beq_self_eq_true]
   ·exact .inl e
  ·exact .inr (keep h)
theorem gu{env:Env}:∀ {names:List (Str×NameKind)} {x:Str} {k:NameKind},
 (names.map fun (n,k)=>if (k == NameKind.free&&env.scope.kind == .function&&env.kindOf n == some .cell) then (n,NameKind.cell) else (n,k)).lookup x=some k ->
 (names.lookup x=some k)\/(k = .cell/\names.lookup x=some .free)
 | [],_,_,h=>by simp at h
 | (n,k')::r,x,k,h=>by
  have ih := @gu env r x k;have h:List.lookup x ((if (k' == NameKind.free&&env.scope.kind == .function&&env.kindOf n == some .cell)=true then (n,NameKind.cell) else (n,k'))::_)=some k:=h
  by_cases hc:(k' == NameKind.free&&env.scope.kind == .function&&env.kindOf n == some .cell)=true
  ·rw [if_pos hc,Fe] at h
   rw [Fe]
   cases hx:x == n with
   | true =>
    rw [hx] at h;have h':some NameKind.cell=some k:=h;cases h'
    have:k'=NameKind.free:=by
     have:=(DK _ _).mp ((DK _ _).mp hc).1;simpa using this.1
    subst this;exact .inr ⟨rfl,rfl⟩
   | false=>rw [hx] at h;exact ih h
  ·rw [if_neg hc,Fe] at h
   rw [Fe]
   cases hx:x == n with
   | true=>rw [hx] at h;exact .inl h
   | false=>rw [hx] at h;exact ih h
noncomputable def blk(X:Cx)(sc:Scope)(cl:List (Str×Addr))(C:Addr)(fp:List Addr)(s:Shared)(H:Hp)(N:List Str):Cx :=
 { X with env:=compEnvC sc cl C X.env,N:=N,s₀:=s,H₀:=H,outer:=X.stack,ex:=fp,fn:=fun _=>false,pn:=[],xe:=fun _ _=>False }
structure nW(X:Cx)(sc:Scope)(M tgs:List Str):Prop where
 kind:sc.kind = .function
 names:∀ y∈sc.names,y.2 = .local->sc.names.lookup y.1=some .local
 nocell:∀ y∈sc.names,y.2 ≠ .cell
 free:∀ y∈sc.names,y.2 = .free->X.env.kindOf y.1=some .cell\/X.env.kindOf y.1=some .free
 len:M.length=X.N.length
 same:∀ p∈M.zip X.N,p.1=p.2\/p.1=("" : Str)
 dummy:sc.names.lookup ("" : Str)=none
 hid:∀ x∈M,sc.names.lookup x≠some .local
section
variable{X:Cx}
theorem Inv.blk{pins:List (Addr×Obj)}{σ:St}{H:Hp}{s s4:Shared}{sc:Scope}{M tgs:List Str}{C:Addr}{fp:List Addr}{m:Str->Option Value}(I:Inv X pins σ H s)(B:nW X sc M tgs)(hf:∀ b∈fp,tM X pins H b)(hfl:∀ b∈fp,b < s.heap.objs.size)
 (hC:s.heap.objs.size<=C) (hn:s4.heap.Ns C m) (hk:∀ b o,s.heap.get? b=some o->s4.heap.get? b=some o) (ho:s4.os=s.os) (hg:s4.gens=s.gens) :
 Inv (blk X sc (clF X.env sc.names []) C fp s H (M++tgs)) [] (σ++List.replicate tgs.length none) H s4:=by
 have hfr:∀ y∈sc.names,y.2 = .free->∃ c,X.env.cells.lookup y.1=some c:=fun y hy e=>I.ok.has _ (B.free y hy e)
 have hsub:∀ x c,(clF X.env sc.names []).lookup x=some c->X.env.cells.lookup x=some c:=qJ sc.names [] hfr fun _ _ z=>by simp at z
 have hin:∀ x c,(clF X.env sc.names []).lookup x=some c->c < s.heap.objs.size:=fun x c e=>by
  obtain ⟨v,q⟩:=I.cell x c (hsub x c e);exact q.lt
 have hfree:∀ x,((relabel sc X.env).names.lookup x=some .cell\/(relabel sc X.env).names.lookup x=some .free)->sc.names.lookup x=some .free:=fun x hx=>by
  rcases hx with q | q
  ·rcases gu q with z | z
   ·exact absurd rfl (B.nocell _ (Ey z))
   ·exact z.2
  ·rcases gu q with z | z
   ·exact z
   ·exact absurd z.1 (by decide)
 refine ⟨⟨I.ok.mod,B.kind,I.ok.glob,I.ok.blt,hC,fun x y c h1 h2=>I.ok.inj x y c (hsub x c h1) (hsub y c h2),fun x hx=> ?_,fun x c z=>absurd z DB,I.ok.hd,I.ok.frames,.inl rfl,fun b hb=>⟨?_,fun x c e=> ?_⟩,I.bs,?_,fun b o e z=> ?_,fun b hb=> ?_,I.stack,I.stkFree⟩,
  ho,?_,Un.kept hk,⟨m,hn,fun i x v h1 h2 h3=> ?_⟩,fun x c e=> ?_,I.hok.fresh hC,fun x c e=>I.freeC x c (hsub x c e),fun p hp=>absurd (show p∈([]:List (Addr×Obj)) from hp) (by simp),I.hok.kept hk,?_⟩
 ·exact qK sc.names [] x (.inl (Ey (hfree x hx)))
 ·exact DL (DT (hfl b hb) hC)
 ·exact (hf b hb).2.2.2.2.1 x c (hsub x c e)
 ·exact Eu I.ok.bsz I.sz
 ·rcases (hf b z).2.2.2.1 with q | q
  ·exact I.ok.noex b o e q
  ·exact absurd (DT (Dx e) I.ok.bsz) (Nat.not_lt.mpr q)
 ·intro z
  rcases Dz.mp (I.stkSub b z) with q | q
  ·exact (hf b hb).2.1 q
  ·exact (hf b hb).2.2.1 q
 ·rw [hg];exact I.bare
 ·have hl:M.length=σ.length:=B.len.trans I.len.symm
  have hi:i < σ.length:=by
   by_cases hi:i < σ.length
   ·exact hi
   ·rw [Ek (by omega),Fb] at h2
    split at h2<;>cases h2
  rw [DQ hi] at h2;have h1:(M++tgs)[i]?=some x:=h1;rw [DQ (by omega)] at h1;have hmem:x∈M:=DD h1
  have hx:sc.names.lookup x=some .free:=by
   rcases h3 with q | q | q
   ·rcases gu q with z | z
    ·exact absurd z (B.hid x hmem)
    ·exact absurd z.1 (by decide)
   ·exact hfree x (.inl q)
   ·exact hfree x (.inr q)
  have hNi:X.N[i]?=some x:=by
   have hi2:i < X.N.length:=by rw [<- I.len];exact hi
   have hz:(M.zip X.N)[i]?=some (x,X.N[i]):=by
    rw [FY];exact ⟨h1,Dm hi2⟩
   rcases B.same _ (DD hz) with q | q
   ·have q':x=X.N[i]:=q
    rw [Dm hi2,q']
   ·have q':x=("" : Str):=q
    rw [q',B.dummy] at hx;cases hx
  have hk2:=B.free (x,.free) (Ey hx) rfl;obtain ⟨m0,_,hl0⟩:=I.loc;obtain ⟨u,r,l⟩:=hl0 i x v hNi h2 (.inr hk2);refine ⟨u,r,.inr ?_⟩
  rcases l with ⟨k,_⟩ | ⟨_,c,ec,hcell⟩
  ·have k':X.env.kindOf x=some .local:=k
   rcases hk2 with q | q
   ·have q':X.env.kindOf x=some .cell:=q
    rw [k'] at q';cases q'
   ·have q':X.env.kindOf x=some .free:=q
    rw [k'] at q';cases q'
  ·obtain ⟨c',ec'⟩:=qK (env:=X.env) sc.names [] x (.inl (Ey hx))
   have:c'=c:=by
    have:=hsub x c' ec';rw [ec] at this;exact (Option.some.inj this).symm
   subst this;refine ⟨?_,c',ec',?_⟩
   ·rcases h3 with q | q | q
    ·rcases gu q with z | z
     ·rw [hx] at z;cases z
     ·exact absurd z.1 (by decide)
    ·exact .inl q
    ·exact .inr q
   ·obtain ⟨o,e1,e2⟩:=hcell
    exact ⟨o,hk _ _ e1,e2⟩
 ·obtain ⟨v,o,e1,e2⟩:=I.cell x c (hsub x c e)
  exact ⟨v,o,hk _ _ e1,e2⟩
 ·show (σ++_).length=(M++tgs).length
  rw [DI,DI,EB,B.len,I.len]
noncomputable def xy(X:Cx)(ifs:List Expr)(t:TT):Prop :=
 ∀ (pins:List (Addr×Obj)) (s:Shared) (σ:St) (H:Hp) (Q:Bool->Hp->Prop),Inv X pins σ H s->t σ H Q ->
  wpAny (model X.prog X.w) X.A (forIn ifs true fun c r=>if r=true then do let ok <- isTrue c X.env (eval c X.env);pure (ForInStep.yield ok) else pure (ForInStep.yield r)) (TP X pins σ Q) X.xe s
noncomputable def CA:TT:=fun _ H Q=>Q true H
theorem pif0:xy X [] CA:=fun pins s σ H Q I h=>wpAny_tests_nil ⟨H,I,h⟩
theorem pif1{c:Expr}{t:TT}(h:PT X c t):xy X [c] t:=fun pins s σ H Q I hw=>wpAny_tests_one (h pins s σ H Q I hw)
theorem qI{prog:Program}{w:World}{A:Around}{R:Result->Shared->Prop}{s:Shared}{elt target iter:Expr}{ifs:List Expr}{scope:Scope}{pos:Pos}{it acc:Value}{env:Env}(I:Nat->Shared->Prop)
 (turn:∀ n s,I n s->wpAny (model prog w) A (pyNext it) (fun r s₁=>match r with
   | none=>R (.ok .next) s₁
   | some v=>wpAny (model prog w) A (letOwnedTupleGo target it v) (fun _ s₁'=>wpAny (model prog w) A (assign target env v) (fun _ s₂ =>
    wpAny (model prog w) A (forIn ifs true fun c r=>if r=true then do let ok <- isTrue c env (eval c env);pure (ForInStep.yield ok) else pure (ForInStep.yield r)) (fun ok s₃ =>
     if ok=true then wpAny (model prog w) A (eval elt env) (fun x s₄ =>
      wpAny (model prog w) A (call (.builtin "list.append") [acc,x]) (fun _ s₅=>∃ m,m < n/\I m s₅) (fun _ _=>False) s₄) (fun _ _=>False) s₃
     else ∃ m,m < n/\I m s₃) (fun _ _=>False) s₂) (fun _ _=>False) s₁') (fun _ _=>False) s₁) (fun _ _=>False) s)
 (n:Nat) (h:I n s) :
 codeAny (model prog w) A (.compLoop (.ListComp elt [⟨target,iter,ifs,0⟩] scope pos) 0 it acc env) R s:=by
 refine codeAny_loop rfl I (fun n s hI=> ?_) n h
 show wpAny _ A ((compTurn (.ListComp elt [⟨target,iter,ifs,0⟩] scope pos) 0 it acc env).onRaise (fun x=>do noteFrame x env;theTreesLotGoes x)) _ _ s
 refine wpAny_noted ?_;rw [compTurn_list];refine Dj (wpAny_standAt (Dj (EA (turn n s hI) (fun r s₁ h₁=> ?_) fun _ _ z=>z.elim)))
 cases r with
 | none=>exact Ds h₁
 | some v =>
  refine Dj (EA h₁ (fun _ s₁' h₁'=> ?_) fun _ _ z=>z.elim);refine Dj (EA h₁' (fun _ s₂ h₂=>Dj (EA h₂ (fun ok s₃ h₃=> ?_) fun _ _ z=>z.elim)) fun _ _ z=>z.elim)
  cases ok with
  | false=>exact Ds ⟨rfl,h₃⟩
  | true =>
   exact Dj (Dj (EA h₃ (fun x s₄ h₄=>Dj (EA h₄ (fun _ s₅ h₅=>Ds (Ds ⟨rfl,h₅⟩)) fun _ _ z=>z.elim)) fun _ _ z=>z.elim))
noncomputable def Di(J:It)(k:Nat)(g:TG)(tt:TT)(te:TE)(σ:St)(Q:VK)(H1:Hp):Prop:=∃ W:Nat->Nat->List V->Hp->Prop,(∃ m,W 0 m [] H1)/\∀ i m ys H,W i m ys H->ys.length<=sizeLine /\
 ((J.stop i H/\∀ l,H l=none->Q (.ref l) (upd H l (.lst ys)))\/(J.go i H/\∀ x H',J.yld i H x H'->g x (σ++List.replicate k none) H' fun σ2 H2=>σ2.take σ.length=σ/\tt σ2 H2 fun b H3 =>
   if b=true then te σ2 H3 fun y H4=>∃ m',m' < m/\W (i+1) m' (ys++[y]) H4 else ∃ m',m' < m/\W (i+1) m' ys H3))
noncomputable def rE(wi:TI)(k:Nat)(g:TG)(tt:TT)(te:TE):TE:=fun σ H Q=>wi σ H fun J H1=>Di J k g tt te σ Q H1
theorem HOk.track{P:Program}{w:World}{H:Hp}{h:Heap}{a:Addr}{o:HO}(x:HOk P w H h)(hn:H a=none)(new:bA P w (upd H a o) h a o):HOk P w (upd H a o) h:=fun b u e=>by
 by_cases hb:b=a
 ·subst hb
  rw [ao] at e;cases e;exact new
 ·rw [am hb] at e
  exact (x b u e).stay (fun _ _ _ q=>q) (fun c q=>by rw [am (aq q hn)];exact q) fun c xs q=>by rw [am (aq q hn)];exact q
theorem AR{σ σ':St}{k:Nat}(h:σ'.take σ.length=σ):∀ (i:Nat) v,(σ++List.replicate k (none:Option V))[i]?=some (some v)->σ'[i]?=some (some v):=fun i v e=>by
 by_cases hi:i < σ.length
 ·rw [DQ hi,<- h,List.getElem?_take_of_lt hi] at e
  exact e
 ·rw [Ek (by omega),Fb] at e
  split at e<;>cases e
theorem pj{elt tg iter:Expr}{ifs:List Expr}{sc:Scope}{M tgs:List Str}{pos pos':Pos}{wi:TI}{g:TG}{tt:TT}{te:TE}{use:Option (Value->Sem Unit)}{Qf:Value->Shared->Prop}{pins:List (Addr×Obj)}{s:Shared}{σ:St}{H:Hp}{Q:VK}(hc:X.calm=true)(B:nW X sc M tgs)(hi:PI X tg iter wi)
 (hg:∀ cl C fp s H,PG (blk X sc cl C fp s H (M++tgs)) tg g) (ht:∀ cl C fp s H,xy (blk X sc cl C fp s H (M++tgs)) ifs tt) (he:∀ cl C fp s H,PE (blk X sc cl C fp s H (M++tgs)) elt te)
 (hs:∀ x,foldedSetIterable iter X.env x=pure x) (I:Inv X pins σ H s) (h:rE wi tgs.length g tt te σ H Q)
 (fin:∀ (C D:Addr) (m:Str->Option Value) (s6:Shared) (H':Hp),Inv X pins σ H' s6->s6.heap.Ns C m->H' C=none->X.env.locals < C->X.s₀.heap.objs.size<=C->(∀ x c,X.env.cells.lookup x=some c->c≠C)->(∀ p∈X.pn++pins,p.1≠C)->Q (.ref D) H'->∀ f,compPost (model X.prog X.w) X.A X.xe use Qf (.ref D) C (.ok f) s6) :
 wpAny (model X.prog X.w) X.A (comprehension (.ListComp elt [⟨tg,iter,ifs,0⟩] sc pos) sc X.env pos' (newList []) false (eval iter X.env) use) Qf X.xe s:=by
 have hfr:∀ y∈sc.names,y.2 = .free->∃ c,X.env.cells.lookup y.1=some c:=fun y hy e=>I.ok.has _ (B.free y hy e)
 have hsub:∀ x c,(clF X.env sc.names []).lookup x=some c->X.env.cells.lookup x=some c:=qJ sc.names [] hfr fun _ _ z=>by simp at z
 refine wpAny_comprehension_free (use:=use) rfl hs (uE hfr) B.kind B.names (thn (hi pins s σ H _ I h) fun xv s₁ h₁=>thn h₁ fun itv s₂ h₂=> ?_);obtain ⟨it,fp,tn,J,H2,rfl,I2,T,st2,f2,W,⟨m0,w0⟩,turn⟩:=h₂
 have hfl:∀ b∈fp,b < s₂.heap.objs.size:=fun b hb=>by
  obtain ⟨o,e,_⟩:=T.obj _ _ st2 b hb;exact Dx e
 refine Eg (wpAny_newFunctionEnv B.nocell (by intro y hy;simp at hy) (fun h₁ hns₁ hsb₁=> ?_) B.kind);dsimp only at hns₁ hsb₁ ⊢
 generalize hH2:s₂.heap.push { cls:= .type "list",dict:=none,data:= .seq ([]:List Value).toArray }=HH at hns₁ hsb₁ ⊢
 have hC:HH.objs.size=s₂.heap.objs.size+1:=by rw [<- hH2,DY]
 generalize hCC:HH.objs.size=C at hC hns₁ hsb₁ ⊢
 generalize hDD:s₂.heap.objs.size=D at hC ⊢
 have hDC:D≠C:=by omega
 have below:∀ b,b < D->b≠C/\b≠D:=fun b hb=>⟨by omega,by omega⟩
 have old:∀ b o,s₂.heap.get? b=some o->h₁.get? b=some o:=fun b o e=>hsb₁.extBut b o (below b (hDD ▸ Dx e)).1 (Dk _ (hH2 ▸ Dk _ e))
 have hacc:h₁.PlainList D #[]:=⟨_,hsb₁.extBut _ _ hDC (Dk _ (by rw [<- hH2,<- hDD];exact Dw _ rfl))⟩
 have hCs:s₂.heap.objs.size<=C:=by omega
 generalize hS4:({ s₂ with heap:=h₁,toks:=s₂.toks+([]:List (Str×Value)).length }:Shared)=s₄
 have I4:Inv (blk X sc (clF X.env sc.names []) C fp s₂ H2 (M++tgs)) [] (σ++List.replicate tgs.length none) H2 s₄ :=
  I2.blk B f2 hfl hCs (by rw [<- hS4];exact hns₁) (by rw [<- hS4];exact old) (by rw [<- hS4]) (by rw [<- hS4])
 have hD4:s₄.heap.PlainList D #[]:=by rw [<- hS4];exact hacc
 have st4:tn 0 s₄.heap:=by rw [<- hS4];exact T.keep _ _ _ st2 fun b _ o e=>old b o e
 let X':=blk X sc (clF X.env sc.names []) C fp s₂ H2 (M++tgs)
 have nfs:∀ b,s₂.heap.objs.size<=b->b∉frs X.stack:=fun b hb z=>by
  rcases Dz.mp (I2.stkSub b z) with q | q
  ·rw [q] at hb;exact absurd I2.lt (Nat.not_lt.mpr hb)
  ·exact I2.nofs hb q
 have Dpin:∀ {s':Shared} {H':Hp} {its:Array Value} {n:Nat},s'.heap.get? D=some { cls:= .type "list",data:= .seq its n }->H' D=none ->
  ∀ p∈[(D,({ cls:= .type "list",data:= .seq its n }:Obj))],s'.heap.get? p.1=some p.2/\H' p.1=none/\p.1≠X'.env.locals/\p.1∉X'.fs/\∀ v,p.2.data ≠ .cell v:=fun {s' H' its n} e hn p hp=>by
  have e1:p=(D,({ cls:= .type "list",data:= .seq its n }:Obj)):=by simpa using hp
  subst e1;exact ⟨e,hn,hDC,nfs D (by omega),fun v z=>by cases z⟩
 have fpk:∀ {pl:List (Addr×Obj)} {H':Hp},(∀ p∈pl,p.1=D)->(∀ b∈fp,H' b=none)->∀ b∈fp,tM X' pl H' b:=fun {pl H'} hpl hn b hb=>by
  refine ⟨hn b hb,(below b (hDD ▸ hfl b hb)).1,fun z=> ?_,.inl hb,fun x c e=>(f2 b hb).2.2.2.2.1 x c (hsub x c e),fun p hp=> ?_⟩
  ·rcases Dz.mp (I2.stkSub b z) with q | q
   ·exact (f2 b hb).2.1 q
   ·exact (f2 b hb).2.2.1 q
  ·have hp':p∈pl:=by simpa [X',blk] using hp
   rw [hpl p hp'];exact Ne.symm (below b (hDD ▸ hfl b hb)).2
 have cellD:∀ x c,X'.env.cells.lookup x=some c->c≠D:=fun x c e z=>by
  obtain ⟨v,q⟩:=I2.cell x c (hsub x c e);have q:=q.lt;rw [z,hDD] at q;exact Fz _ q
 have loop:codeAny (model X.prog X.w) X.A (.compLoop (.ListComp elt [⟨tg,iter,ifs,0⟩] sc pos) 0 (.ref it) (.ref D) (compEnvC sc (clF X.env sc.names []) C X.env))
  (compPost (model X.prog X.w) X.A X.xe use Qf (.ref D) C) s₄:=by
  refine qI (fun n s'=>∃ i ys its k H',Inv X' [(D,{ cls:= .type "list",data:= .seq its k })] (σ++List.replicate tgs.length none) H' s'/\aC ys its.toList/\tn i s'.heap/\(∀ b∈fp,H' b=none)/\W i n ys H') ?_ m0 ?_
  ·rintro n s5 ⟨i,ys,its,k,H5,I5,hv,st5,fr5,w5⟩
   obtain ⟨hz,w5⟩:=turn i n ys H5 w5;have hD5:=I5.pin (D,{ cls:= .type "list",data:= .seq its k }) (Dl _ (by simp))
   have one:∀ p∈[(D,({ cls:= .type "list",data:= .seq its k }:Obj))],p.1=D:=fun p hp=>by
    have:p=(D,({ cls:= .type "list",data:= .seq its k }:Obj)):=by simpa using hp
    rw [this]
   rcases w5 with ⟨stop,qn⟩ | ⟨go,step⟩
   ·refine thn (T.done X' rfl rfl rfl hc i _ s5 _ H5 _ I5 (fpk one fr5) st5 stop) fun r s6 ⟨hr,I6⟩=> ?_
    subst hr;obtain ⟨m6,hn6,_⟩:=I6.loc;have hn6:s6.heap.Ns C m6:=hn6;obtain ⟨e6,n6,_⟩:=I6.pin (D,{ cls:= .type "list",data:= .seq its k }) (Dl _ (by simp));have hC6:H5 C=none:=I6.free;have hln:ys.length<=sizeLine:=hz;have ok8:HOk X.prog X.w (upd H5 D (.lst ys)) s6.heap:=I6.hok.track n6 ⟨hln,its.toList,k,hv,by simpa using e6⟩;have un:Un (frs X.stack) fp H2 H5 s₂.heap s6.heap:=I6.base
    have neC:∀ b o,s₂.heap.get? b=some o->b≠C/\b≠D:=fun b o e=>below b (hDD ▸ Dx e)
    have un7:Un (frs X.stack) fp H2 (upd H5 D (.lst ys)) s₂.heap s6.heap:=by
     refine ⟨un.keep,un.slot,fun b o e n hx=> ?_,un.there,fun b xs e=> ?_,fun b o u e=> ?_,fun b ps e=> ?_⟩
     ·rw [am (neC b o e).2];exact un.free b o e n hx
     ·have q:=un.tups b xs e
      rw [am (aq q n6)];exact q
     ·have q:=un.frzs b o u e
      rw [am (aq q n6)];exact q
     ·obtain ⟨more,q⟩:=un.tbls b ps e
      exact ⟨more,by rw [am (aq q n6)];exact q⟩
    have I8:Inv X pins σ (upd H5 D (.lst ys)) s6:=I2.call' (ch:=fp) I6.os un7 ok8 I6.bare (fun b hb=>⟨(f2 b hb).2.2.2.1,(f2 b hb).2.1,(f2 b hb).2.2.2.2.1,(f2 b hb).2.2.2.2.2⟩);have hLC:X.env.locals < C:=DT I2.lt hCs
    have hcC:∀ x c,X.env.cells.lookup x=some c->c≠C:=fun x c e z=>by
     obtain ⟨v,q⟩:=I2.cell x c e;have q:=q.lt;rw [z] at q;exact absurd q (Nat.not_lt.mpr hCs)
    exact fin C D m6 s6 _ I8 hn6 (by rw [am (Ne.symm hDC)];exact hC6) hLC (Eu I2.sz hCs) hcC (fun p hp z=>by
     have:=Dx (I2.pin p hp).1;rw [z] at this
     exact absurd this (Nat.not_lt.mpr hCs)) (qn D n6) _
   ·refine thn (T.item X' rfl rfl rfl hc i _ s5 _ H5 _ I5 (fpk one fr5) st5 go) fun r s6 ⟨u,hr,h6⟩=> ?_
    subst hr
    refine thn h6 fun _ s7 ⟨x,H7,I7,r7,y7,st7,fr7⟩=> ?_
    have I7':=I7.pinned (fpk one fr7) (T.obj _ _ st7)
    refine thn (hg _ _ _ _ _ _ s7 _ H7 x u _ I7' r7 (step x H7 y7)) fun _ s8 ⟨σ8,H8,I8,tk8,q8⟩=> ?_
    refine thn (ht _ _ _ _ _ _ s8 σ8 H8 _ I8 q8) fun b s9 ⟨H9,I9,q9⟩=> ?_
    have weak:∀ {pl:List (Addr×Obj)} {H':Hp} {s':Shared},Inv X' pl σ8 H' s'->Inv X' pl (σ++List.replicate tgs.length none) H' s':=fun {pl H' s'} J=>J.weak (by
     have e1:σ8.length=(M++tgs).length:=J.len
     rw [e1,DI,DI,EB,B.len,I2.len]) (AR tk8)
    have fin:∀ {H':Hp} {s':Shared},Inv X' ([(D,{ cls:= .type "list",data:= .seq its k })]++mD fp s7.heap) σ8 H' s'->tn (i+1) s'.heap/\∀ b∈fp,H' b=none:=fun {H' s'} J=>by
     refine ⟨T.keep _ _ _ st7 fun b hb o e=>(J.pin (b,o) (Dl _ (Dl _ (fH hb e)))).1,fun b hb=> ?_⟩;obtain ⟨o,e,d⟩:=T.obj _ _ st7 b hb;exact (J.pin (b,o) (Dl _ (Dl _ (fH hb e)))).2.1
    cases b with
    | false =>
     rw [if_neg DB] at q9 ⊢;obtain ⟨m',hm,w9⟩:=q9;exact ⟨m',hm,i+1,ys,its,k,H9,weak I9.unpinned,hv,(fin I9).1,(fin I9).2,w9⟩
    | true =>
     rw [if_pos rfl] at q9 ⊢
     refine thn (he _ _ _ _ _ _ s9 σ8 H9 _ I9 q9) fun y s10 ⟨yv,H10,I10,r10,q10⟩=> ?_
     obtain ⟨m',hm,w10⟩:=q10;obtain ⟨e10,n10,_⟩:=I10.pin (D,{ cls:= .type "list",data:= .seq its k }) (Dl _ (Dp _ (by simp)))
     have hsz:its.size<=sizeLine:=by
      have e1:=hv.length
      have e2:its.toList.length=its.size:=by simp
      omega
     refine wpAny_list_append_plain (hsz:=hsz) ⟨k,e10⟩ fun h11 hl11 hs11=> ?_
     obtain ⟨k',e11⟩:=hl11
     have J0:Inv X' [] σ8 H10 s10:=I10.pins_of fun p hp=>by simp at hp
     have J1:Inv X' [] σ8 H10 { s10 with heap:=h11 }:=J0.turned (t':=s10.toks) (it:=D) (fun b o hb e=>(hs11.2 b hb).trans e) n10 hDC (.inr (by show s₂.heap.objs.size<=D;omega)) cellD (fun p hp=>by
      have hp':p∈([]:List (Addr×Obj)):=by simpa [X',blk] using hp
      simp at hp')
     have J2:Inv X' [(D,{ cls:= .type "list",data:= .seq (its.push y) k' })] σ8 H10 { s10 with heap:=h11 }:=J1.pins_of (Dpin e11 n10);refine ⟨m',hm,i+1,ys++[yv],its.push y,k',H10,weak J2,?_,?_,(fin I10).2,w10⟩
     ·rw [Array.toList_push]
      exact hv.append (.cons r10 .nil)
     ·refine T.keep _ _ _ (fin I10).1 fun b hb o e=>(hs11.2 b ?_).trans e
      exact (below b (hDD ▸ hfl b hb)).2
  ·obtain ⟨k,e⟩:=hD4
   exact ⟨0,[],#[],k,H2,I4.pins_of (Dpin e (I2.hok.fresh (by omega))),.nil,st4,fun b hb=>(f2 b hb).1,w0⟩
 exact codeAny_compStart_list loop (T.self _ _ _ _ _ st4 loop)
theorem BB{elt tg iter:Expr}{ifs:List Expr}{sc:Scope}{M tgs:List Str}{pos:Pos}{wi:TI}{g:TG}{tt:TT}{te:TE}(hc:X.calm=true)(B:nW X sc M tgs)(hi:PI X tg iter wi)
 (hg:∀ cl C fp s H,PG (blk X sc cl C fp s H (M++tgs)) tg g) (ht:∀ cl C fp s H,xy (blk X sc cl C fp s H (M++tgs)) ifs tt) (he:∀ cl C fp s H,PE (blk X sc cl C fp s H (M++tgs)) elt te)
 (hs:∀ x,foldedSetIterable iter X.env x=pure x:=by intro _;rfl):PE X (.ListComp elt [⟨tg,iter,ifs,0⟩] sc pos) (rE wi tgs.length g tt te):=by
 intro pins s σ H Q I h;rw [eval_ListComp]
 exact pj hc B hi hg ht he hs I h fun C D m s6 H' I8 hn hC hLC hsz hcC hp q f=>⟨m,hn,fun h' hs'=>⟨.ref D,H',I8.turned (t':=s6.toks) (it:=C) (fun b o hb e=>(hs'.2 b hb).trans e) hC (E7 hLC) (.inr hsz) hcC hp,rfl,q⟩⟩
end
end L2
namespace HT
open PySem PySem.Spec PyProof.Rows PySem.SeqAt
noncomputable def C5:List Int->List Int->Bool
 | [],_=>true
 | _::_,[]=>false
 | x::xs,y::ys=>if x=y then C5 xs ys else decide (x<=y)
section
open PySem.SeqAt
open PySem.AutoSeq1 (wpAny_loadPart')
open PySem.MeetsSeq PySem.MeetsSeq2 PySem.MeetsSeq3
end
section
variable{prog:Program}{w:World}{A:Around}{E:Value->Shared->Prop}{s:Shared}
end
end HT
namespace L2
open PySem PySem.Spec PyProof.Rows
section
variable{X:Cx}
noncomputable def C6(K:FZ)(H:Hp)(T:String):V->Prop
 | .non=>T = "NoneType"
 | .bl _=>T = "bool"
 | .int _=>T = "int"
 | .str _=>T = "str"
 | .ref p=>(T = "list" /\ ∃ xs,SqL K H p xs)\/(T = "tuple" /\ ∃ xs,SqT K H p xs)\/(T = "dict" /\ ((∃ kvs,H p=some (.dK kvs))\/∃ kvs,H p=some (.dT kvs)))
 | _=>False
noncomputable def BZ(T C:String):Bool:=T == C||(T == "bool" && C == "int")
noncomputable def isiC(C:String):Prop:=C = "int" \/ C = "bool" \/ C = "tuple" \/ C = "list" \/ C = "str"
noncomputable def rIsi(K:FZ):List V->Hp->VK->Prop:=fun xs H Q=>∃ x T C,xs=[x,.ty C]/\isiC C/\C6 K H T x/\Q (.bl (BZ T C)) H
theorem Ao:aH X (.builtin "isinstance") (rIsi X.K):=by
 intro pins s σ H xs us Q I r h;obtain ⟨x,T,C,rfl,hC,hk,q⟩:=h;obtain ⟨u,w',rfl,rx,rc⟩:=oD r;cases rc
 have fin:∀ (b:Bool) (t:Nat),b=BZ T C->EP X pins σ Q (.bool b) { s with toks:=t }:=fun b t e=>⟨.bl b,H,I.tok t,rfl,by rw [e];exact q⟩
 have fin0:∀ (b:Bool),b=BZ T C->EP X pins σ Q (.bool b) s:=fun b e=>⟨.bl b,H,I,rfl,by rw [e];exact q⟩
 cases x with
 | non =>
  cases rx;cases (show T = "NoneType" from hk)
  rcases hC with rfl | rfl | rfl | rfl | rfl
  ·exact IsiPair.NoneType_int (fin _ _ rfl)
  ·exact IsiPair.NoneType_bool (fin _ _ rfl)
  ·exact IsiPair.NoneType_tuple (fin _ _ rfl)
  ·exact IsiPair.NoneType_list (fin _ _ rfl)
  ·exact IsiPair.NoneType_str (fin _ _ rfl)
 | bl b =>
  cases rx;cases (show T = "bool" from hk)
  rcases hC with rfl | rfl | rfl | rfl | rfl
  ·exact IsiPair.bool_int (fin0 _ rfl)
  ·exact IsiPair.bool_bool (fin0 _ rfl)
  ·exact IsiPair.bool_tuple (fin _ _ rfl)
  ·exact IsiPair.bool_list (fin _ _ rfl)
  ·exact IsiPair.bool_str (fin _ _ rfl)
 | int i =>
  obtain ⟨t,rfl⟩:=rx;cases (show T = "int" from hk)
  rcases hC with rfl | rfl | rfl | rfl | rfl
  ·exact IsiPair.int_int (fin0 _ rfl)
  ·exact IsiPair.int_bool (fin _ _ rfl)
  ·exact IsiPair.int_tuple (fin _ _ rfl)
  ·exact IsiPair.int_list (fin _ _ rfl)
  ·exact IsiPair.int_str (fin _ _ rfl)
 | str z =>
  obtain ⟨t,rfl⟩:=rx;cases (show T = "str" from hk)
  rcases hC with rfl | rfl | rfl | rfl | rfl
  ·exact IsiPair.str_int (fin _ _ rfl)
  ·exact IsiPair.str_bool (fin _ _ rfl)
  ·exact IsiPair.str_tuple (fin _ _ rfl)
  ·exact IsiPair.str_list (fin _ _ rfl)
  ·exact IsiPair.str_str (fin0 _ rfl)
 | ref p =>
  cases rx
  rcases hk with ⟨rfl,xs,hq⟩ | ⟨rfl,xs,hq⟩ | ⟨rfl,hk⟩
  ·obtain ⟨its,_,pl,_⟩:=I.list hq
   obtain ⟨o,n,e,c,hd,_⟩:=pl
   rcases hC with rfl | rfl | rfl | rfl | rfl
   ·exact IsiPair.list_int e c (fin _ _ rfl)
   ·exact IsiPair.list_bool e c (fin _ _ rfl)
   ·exact IsiPair.list_tuple e c (fin _ _ rfl)
   ·exact IsiPair.list_list e c (fin0 _ rfl)
   ·exact IsiPair.list_str e c (fin _ _ rfl)
  ·obtain ⟨its,_,⟨o,e,c,_⟩,_⟩:=I.tuple hq
   rcases hC with rfl | rfl | rfl | rfl | rfl
   ·exact IsiPair.tuple_int e c (fin _ _ rfl)
   ·exact IsiPair.tuple_bool e c (fin _ _ rfl)
   ·exact IsiPair.tuple_tuple e c (fin0 _ rfl)
   ·exact IsiPair.tuple_list e c (fin _ _ rfl)
   ·exact IsiPair.tuple_str e c (fin _ _ rfl)
  ·have z:∃ o,s.heap.get? p=some o/\o.cls = .type "dict" := by
    rcases hk with ⟨kvs,hk⟩ | ⟨kvs,hk⟩
    ·obtain ⟨_,_,_,_,o,_,_,e,ex,_⟩:=I.hok p _ hk
     exact ⟨o,e,ex.1⟩
    ·obtain ⟨_,_,_,_,o,_,_,e,ex,_⟩:=I.hok p _ hk
     exact ⟨o,e,ex.1⟩
   obtain ⟨o,e,c⟩:=z
   rcases hC with rfl | rfl | rfl | rfl | rfl
   ·exact IsiPair.dict_int e c (fin _ _ rfl)
   ·exact IsiPair.dict_bool e c (fin _ _ rfl)
   ·exact IsiPair.dict_tuple e c (fin _ _ rfl)
   ·exact IsiPair.dict_list e c (fin _ _ rfl)
   ·exact IsiPair.dict_str e c (fin _ _ rfl)
 | _=>exact False.elim hk
end
end L2
namespace RawD
open PySem PySem.Spec PyProof.Rows PySem.W
noncomputable def At(h:Heap)(d:Addr)(es:Array DictEntry)(ep:Nat):Prop:=∃ o,h.get? d=some o/\o.ExactDict/\o.data = .dict es ep
theorem At.keep{h h':Heap}{d:Addr}{es:Array DictEntry}{ep:Nat}(x:At h d es ep)(k:∀ o,h.get? d=some o->h'.get? d=some o):At h' d es ep:=let ⟨o,a,r⟩:=x;⟨o,k o a,r⟩
theorem At.ty{s:Shared}{d:Addr}{es:Array DictEntry}{ep:Nat}(x:At s.heap d es ep):s.TypeIs (.ref d) "dict" := let ⟨o,a,b,_⟩:=x;⟨o,a,b.1⟩
theorem At.lt{h:Heap}{d:Addr}{es:Array DictEntry}{ep:Nat}(x:At h d es ep):d < h.objs.size:=let ⟨_,a,_⟩:=x;Dx a
section
variable{prog:Program}{w:World}{A:Around}{E:Value->Shared->Prop}{s:Shared}{d it:Addr}{es:Array DictEntry}{ep i:Nat}
theorem iter{Q:Value->Shared->Prop}(lo:(d == sysModules)=false)(x:At s.heap d es ep)
 (q:Q (.ref s.heap.objs.size) { s with heap:=s.heap.push { cls:= .type "dict_keyiterator",data:= .fields #[.ref d,.int 0 0,.int es.size 0,.int ep 0] } }) :
 wpAny (model prog w) A (pyIter (.ref d)) Q E s:=by
 have ty:=x.ty;obtain ⟨o,a1,a2,a3⟩:=x;refine wpAny_pyIter_slot ty F.slot_dict_iter (En F.slot_dict_iter ty F.entry_dict_iter ?_ (F.args_dict_iter_1 _));unfold Builtin.«dict.__iter__»;refine Dj ?_;unfold Builtin.Dict.dictSlotNone;refine Dj (wpAny_notOrdered_dict ty ?_)
 show wpAny _ _ (pure (Value.ref d)) _ _ s
 refine Ds ?_
 show wpAny _ _ (Builtin.Dict.showsAll d >>= _) _ _ s
 unfold Builtin.Dict.showsAll;rw [if_neg (by rw [lo];exact DB)];refine Dj (Ds ?_);refine Dj (wpAny_dictEntries a1 a3 (Dj (wpAny_dictEpoch a1 a3 ?_)));exact Dj (Eg (Ds ⟨_,rfl, "dict_keyiterator",_,⟨_,Dw _ rfl,rfl⟩,F.slot_dict_keyiterator_next.lookup,q⟩))
theorem item{Q:Option Value->Shared->Prop}(hit:s.heap.IsKeyIter it d i es.size ep)(x:At s.heap d es ep)(hi:i < es.size)
 (q:∀ h',h'.IsKeyIter it d (i+1) es.size ep->Heap.SameBut it s.heap h'->Q (some es[i].key) { s with heap:=h' }):wpAny (model prog w) A (pyNext (.ref it)) Q E s:=by
 obtain ⟨oi,b1,b2,b3⟩:=id hit;obtain ⟨o,a1,a2,a3⟩:=x;unfold pyNext
 refine Dj (wpAny_attempt (Ea (name:=Str.ofString "__next__") hit.typeIs F.slot_dict_keyiterator_next
  (En F.slot_dict_keyiterator_next hit.typeIs F.entry_dict_keyiterator_next ?_ (F.args_dict_keyiterator_next_1 _))))
 refine Dj (Ds (Dj (Dj ?_)))
 first | refine Dj (Fc hit.typeIs (Ds ?_)) | refine Dj (Fs hit.typeIs (Ds ?_))
 refine Dj (wpAny_fieldsOf b1 b3 ?_)
 have no:Builtin.Dict_items.ownsTuple "dict_keyiterator" = false:=by decide
 simp only [no,EO,if_false]
 show wpAny _ _ (if (Value.ref d == Value.none)=true then _ else _) _ _ s
 rw [if_neg (show ¬ ((Value.ref d == Value.none)=true) from DB)];refine Dj (Ds (Dj (wpAny_dictEntries a1 a3 ?_)));rw [if_neg (by simp)];refine Dj (Ds (Dj (wpAny_dictEpoch a1 a3 ?_)));rw [if_neg (by simp)];refine Ds ?_;simp only [show ¬ ((i:Int) < 0) from by omega,if_false,FG,E1 hi];refine Dj ?_
 first | refine Dj (Fc hit.typeIs (Ds ?_)) | refine Dj (Fs hit.typeIs (Ds ?_))
 refine Dj (wpAny_isOneOf_keyiter hit.typeIs ?_)
 show wpAny _ _ (setField (.ref it) 1 (rawInt ((i:Int)+1)) >>= _) _ _ s
 refine Dj (EZ b1 b3 (by simp) ?_)
 have on:(s.heap.update it (Obj.mapFields (·.setIfInBounds 1 (rawInt ((i:Int)+1))))).IsKeyIter it d (i+1) es.size ep :=
  ⟨_,EC _ b1 (Obj.isFreed_of_fields (FV b3 _)),(Obj.cls_mapFields ..).trans b2,by rw [FV b3];simp [rawInt]⟩
 refine Dj (EQ (Dj (wpAny_isOneOf_keyiter (s:={ s with heap:=s.heap.update it (Obj.mapFields (·.setIfInBounds 1 (rawInt ((i:Int)+1)))) }) on.typeIs ?_)))
 show wpAny _ _ (pure es[i].key) _ _ _
 exact Ds (Ds ⟨_,rfl,Ds (q _ on (Heap.SameBut.update ..))⟩)
theorem stop{Q:Option Value->Shared->Prop}(hh:A.handled=none)(hit:s.heap.IsKeyIter it d i es.size ep)(x:At s.heap d es ep)(hi:es.size<=i)
 (q:∀ h',Heap.ExtBut it s.heap h'->Q none { s with heap:=h' }):wpAny (model prog w) A (pyNext (.ref it)) Q E s:=by
 obtain ⟨oi,b1,b2,b3⟩:=id hit;obtain ⟨o,a1,a2,a3⟩:=x;unfold pyNext
 refine Dj (wpAny_attempt (Ea (name:=Str.ofString "__next__") hit.typeIs F.slot_dict_keyiterator_next
  (En F.slot_dict_keyiterator_next hit.typeIs F.entry_dict_keyiterator_next ?_ (F.args_dict_keyiterator_next_1 _))))
 refine Dj (Ds (Dj (Dj ?_)))
 first | refine Dj (Fc hit.typeIs (Ds ?_)) | refine Dj (Fs hit.typeIs (Ds ?_))
 refine Dj (wpAny_fieldsOf b1 b3 ?_)
 have no:Builtin.Dict_items.ownsTuple "dict_keyiterator" = false:=by decide
 simp only [no,EO,if_false]
 show wpAny _ _ (if (Value.ref d == Value.none)=true then _ else _) _ _ s
 rw [if_neg (show ¬ ((Value.ref d == Value.none)=true) from DB)];refine Dj (Ds (Dj (wpAny_dictEntries a1 a3 ?_)));rw [if_neg (by simp)];refine Dj (Ds (Dj (wpAny_dictEpoch a1 a3 ?_)));rw [if_neg (by simp)];refine Ds ?_;simp only [show ¬ ((i:Int) < 0) from by omega,if_false,FG,Array.getElem?_eq_none hi];refine Dj ?_
 first | refine Dj (Fc hit.typeIs (Ds ?_)) | refine Dj (Fs hit.typeIs (Ds ?_))
 show wpAny _ _ (setField (.ref it) 0 .none >>= _) _ _ s
 refine Dj (EZ b1 b3 (by simp) ?_)
 show wpAny _ _ (newExc (.type "StopIteration") [] >>= _) _ _ _
 refine Dj ?_;simp only [newExc,newTuple];refine Dj (Eg ?_ (by size_fits));refine Dj (m:=firstArgMember _ _) (wpAny_of_eq (a:=Value.none) (by first | rfl | (simp only [firstArgMember];rfl)) ?_);refine Eg ?_ (by size_fits);simp only [raiseNew];refine Dj (wpAny_handled ?_);rw [show A.in1.handled=none from hh];refine Dj (Ds (wpAny_throw ?_));refine Dj (wpAny_isInstance (T := "StopIteration") (b:=true) ⟨_,Dw _ rfl,rfl⟩ isSubtype_stop ?_);exact Ds (q _ (((Heap.SameBut.update ..).extBut.push _).push _))
theorem walks(hh:A.handled=none)(I d:Addr)(hne:d≠I)(es:Array DictEntry)(ep:Nat) :
 Walks prog w A I [I,d] [I] es.size (fun i v=>∃ h:i < es.size,v=es[i].key) (fun i h=>h.IsKeyIter I d i es.size ep/\At h d es ep) where
 sub:=fun b hb=>by simp at hb;simp [hb]
 frame:=fun _ _ _ st hk=>⟨st.1.at fun o e=>hk I (by simp) o e,st.2.keep fun o e=>hk d (by simp) o e⟩
 item:=fun i s Q E hi st hQ=>item st.1 st.2 hi fun h' a b=>hQ _ h' s.toks ⟨hi,rfl⟩ ⟨a,st.2.keep fun o e=>b.extBut d o hne e⟩ fun b' o hb e=>b.extBut b' o (fun h=>hb (by simp [h])) e
 done:=fun s Q E st hQ=>stop hh st.1 st.2 (Dy _) fun h' he'=>hQ h' s.toks fun b o hb e=>he' b o (fun h=>hb (by simp [h])) e
 self:=fun _ _ _ _ st hQ=>wpAny_pyIter_keyiter st.1 hQ
theorem src(lo:(d == sysModules)=false):KdlSrc prog w "dict" d d es.size (fun i v=>∃ h:i < es.size,v=es[i].key) (fun h=>At h d es ep) where
 type:=fun _ x=>x.ty
 there:=fun _ x=>⟨x.lt,x.lt⟩
 keep:=fun _ _ x hk=>x.keep fun o e=>hk d (.inl rfl) o e
 notList:=by decide
 notTuple:=by decide
 hint:=fun _ _ _ _ x q=>kdl_hint_dict x.ty q
 iter:=fun _ _ hh x=>⟨_,_,(fun _ _ q=>iter lo x q),walks hh _ d (DL x.lt) es ep,⟨⟨_,Dw _ rfl,rfl,rfl⟩,x.keep fun _ e=>Dk _ e⟩⟩
end
end RawD
namespace RawD
open PySem PySem.Spec PyProof.Rows PySem.W
section
variable{prog:Program}{w:World}{A:Around}{E:Value->Shared->Prop}{s:Shared}{d:Addr}{es:Array DictEntry}{ep:Nat}
theorem ww(lo:(d == sysModules)=false) :
 MeetsIn prog w (Builtin.«dict.__len__» ⟨[.ref d],[]⟩) (fun _ R s=>∃ es ep,At s.heap d es ep/\R (.ok (.ret (.int es.size s.toks))) { s with toks:=s.toks+1 }) :=
 .of_wp fun A R s hZ=>by
  obtain ⟨es,ep,x,h⟩:=hZ;obtain ⟨o,a1,a2,a3⟩:=x
  show wpAny _ _ (dictSize d >>= _) _ _ s
  unfold dictSize;refine Dj (Dj (wpAny_dictEntries a1 a3 (Ds ?_)))
  show wpAny _ _ (Builtin.Dict.pendingCount d >>= _) _ _ s
  refine Dj (wpAny_pendingCount_other lo (wpAny_ret_mkInt ?_));rw [Nat.add_zero];exact h
theorem len{Q:Value->Shared->Prop}(lo:(d == sysModules)=false)(x:At s.heap d es ep)(fit:(es.size:Int) < 2 ^ 63)
 (h:Q (.int es.size (s.toks+1)) { s with toks:=s.toks+1+1 }):wpAny (model prog w) A (call (.builtin "len") [.ref d]) Q E s:=by
 refine Calls.call_function_entry kind_len plain_len entry_len (args_len1 _) ?_;unfold Builtin.«len»;refine Dj (m:=oneArg "len" _) (Ds ?_)
 refine Dj (m:=callSpecial? (.ref d) (Str.ofString "__len__")) (Ea (name:=Str.ofString "__len__") x.ty F.slot_dict_len
  (call_meetsIn F.slot_dict_len x.ty F.entry_dict_len (F.args_dict_len_1 _) (ww lo) ⟨es,ep,x,?_⟩))
 show wpAny _ _ _ _ _ { s with toks:=s.toks+1 }
 refine Dj (EQ (Ds (Dj (wpAny_letGo ?_))))
 show wpAny _ _ (if ((es.size:Nat):Int) < 0 then _ else _) _ _ _
 rw [if_neg (by omega)]
 show wpAny _ _ (if ((es.size:Nat):Int)>=2 ^ 63 then _ else _) _ _ _
 rw [if_neg (by omega)];exact Dj (wpAny_mkInt (Ds ⟨_,rfl,h⟩))
end
end RawD
namespace L2
open PySem PySem.Spec PyProof.Rows
section
variable{X:Cx}
theorem t8{P:Program}{w:World}{H:Hp}{h:Heap}{a:Addr}{kvs:List (List Key×V)}(ok:HOk P w H h)(e:H a=some (.dT kvs)) :
 kvs.length<=sizeLine/\(a == sysModules)=false/\(kvs.map (·.1)).Nodup/\∃ es ep,RawD.At h a es ep/\es.size=kvs.length/\∀ i (hi:i < es.size),∃ b k v,es[i].key = .ref b/\kvs[i]?=some (k,v)/\H b=some (.tup (k.map kV)):=by
 obtain ⟨z,y,xs,r,o,es,ep,h1,h2,h3,h4,h5⟩:=(show bA P w H h a (.dT kvs) from ok a _ e);have hl:=r.length
 have hl2:es.size=xs.length:=by
  have:=congrArg List.length h4;simpa using this
 have keys:∀ {l:List (List Key×V)} {m:List (List Key×Addr×Value)},
  Paired (fun (p:List Key×V) (q:List Key×Addr×Value)=>p.1=q.1/\H q.2.1=some (.tup (p.1.map kV))/\aG p.2 q.2.2) l m->l.map (·.1)=m.map (·.1):=by
  intro l m pr
  induction pr with
  | nil=>rfl
  | cons hd _ ih=>rw [DE,DE,ih,hd.1]
 refine ⟨z,y,by rw [keys r];exact h5,es,ep,⟨o,h1,h2,h3⟩,hl2.trans hl.symm,fun i hi=> ?_⟩
 have hx:i < xs.length:=by omega
 have get:∀ {l:List (List Key×V)} {m:List (List Key×Addr×Value)} {i:Nat} {q:List Key×Addr×Value},
  Paired (fun (p:List Key×V) (q:List Key×Addr×Value)=>p.1=q.1/\H q.2.1=some (.tup (p.1.map kV))/\aG p.2 q.2.2) l m->m[i]?=some q->∃ p,l[i]?=some p/\p.1=q.1/\H q.2.1=some (.tup (p.1.map kV)):=by
  intro l m i q pr
  induction pr generalizing i with
  | nil=>intro e;simp at e
  | cons hd _ ih =>
   intro e
   cases i with
   | zero=>simp at e;subst e;exact ⟨_,rfl,hd.1,hd.2.1⟩
   | succ i=>simp at e;exact ih e
 obtain ⟨p,e1,_,e2⟩:=get (i:=i) r (Dm hx);refine ⟨xs[i].2.1,p.1,p.2,?_,e1,e2⟩
 have:es[i]=entryOfKey (tupleKind (aV P w)) xs[i]:=by
  have q:es.toList[i]?=some (entryOfKey (tupleKind (aV P w)) xs[i]):=by rw [h4];simp [hx]
  rw [EY,E1 hi] at q;exact Option.some.inj q
 rw [this];rfl
theorem xj:aH X (.builtin "len") (fun xs H Q=>∃ a kvs,xs=[V.ref a]/\H a=some (.dT kvs)/\Q (.int kvs.length) H):=by
 intro pins s σ H xs us Q I r h;obtain ⟨a,kvs,rfl,ha,q⟩:=h;obtain ⟨u,rfl,ru⟩:=bT r;cases ru;obtain ⟨z,lo,_,es,ep,x,hl,_⟩:=t8 I.hok ha;exact RawD.len lo x (by rw [hl];rw [sizeLine_eq] at z;omega) ⟨.int kvs.length,H,I.tok _,⟨_,by rw [hl]⟩,q⟩
theorem uL(hc:X.calm=true):aH X (.type "list") (fun xs H Q=>∃ a kvs,xs=[V.ref a]/\H a=some (.dT kvs) /\
 ∀ l bs,H l=none->(kvs.map (·.1)).Nodup->bs.length=kvs.length->(∀ (i:Nat) k v,kvs[i]?=some (k,v)->∃ b,bs[i]?=some (V.ref b)/\H b=some (.tup (k.map kV)))->Q (.ref l) (upd H l (.lst bs))):=by
 intro pins s σ H xs us Q I r h;obtain ⟨a,kvs,rfl,ha,q⟩:=h;obtain ⟨u,rfl,ru⟩:=bT r;cases ru;obtain ⟨z,lo,nd,es,ep,x,hl,hk⟩:=t8 I.hok ha
 refine PySem.W.kdl_call (RawD.src (ep:=ep) (es:=es) lo) (I.ok.hd hc) x (by rw [hl];exact z) fun h' tk acc c keep hD hacc=> ?_
 have hf:H s.heap.objs.size=none:=I.hok.fresh (Dy _);have hlen:acc.size=es.size:=hacc.1
 let bs:List V:=acc.toList.map fun u=>match u with | .ref b=>V.ref b | _=>V.non
 have key:∀ i (hi:i < acc.size),∃ b k v,acc[i] = .ref b/\kvs[i]?=some (k,v)/\H b=some (.tup (k.map kV)):=fun i hi=>by
  obtain ⟨hi',e⟩:=hacc.2 i acc[i] (by simp [hi]);obtain ⟨b,k,v,e1,e2,e3⟩:=hk i hi';exact ⟨b,k,v,e.trans e1,e2,e3⟩
 have hv:aC bs acc.toList:=by
  have gen:∀ (l:List Value),(∀ u∈l,∃ b,u = .ref b)->aC (l.map fun u=>match u with | .ref b=>V.ref b | _=>V.non) l:=by
   intro l
   induction l with
   | nil=>intro _;exact .nil
   | cons u l ih =>
    intro h;obtain ⟨b,rfl⟩:=h u Dv;exact .cons rfl (ih fun v hv=>h v (Dr _ hv))
  refine gen acc.toList fun u hu=> ?_
  obtain ⟨i,hi,e⟩:=E2.mp hu
  have hi':i < acc.size:=by simpa using hi
  obtain ⟨b,k,v,e1,_⟩:=key i hi';exact ⟨b,by rw [<- e];simpa using e1⟩
 have hbl:bs.length=kvs.length:=by
  show (acc.toList.map _).length=_
  rw [Do,Em,hlen,hl]
 refine ⟨.ref s.heap.objs.size,upd H s.heap.objs.size (.lst bs),?_,rfl,q _ bs hf nd hbl fun i k v e=> ?_⟩
 ·exact I.laid (t':=tk) keep (Dy _) ⟨by rw [hbl];exact z,acc.toList,c,hv,by simpa using hD⟩
 ·have hi:i < acc.size:=by
   have:=(DA.mp e).1;omega
  obtain ⟨b,k',v',e1,e2,e3⟩:=key i hi;rw [e] at e2;cases e2;refine ⟨b,?_,e3⟩
  show (acc.toList.map _)[i]?=_
  rw [DM,EY,E1 hi,e1];rfl
theorem xu:∀ (bs:List Bool),(List.range bs.length).all (fun i=>bs.getD i false)=bs.all id:=fun bs=>by
 rw [E6];simp only [DJ,Et]
 constructor
 ·intro h b hb
  obtain ⟨i,hi,e⟩:=E2.mp hb;have:=h i hi;rw [DP,Dm hi,e] at this;exact this
 ·intro h i hi
  rw [DP,Dm hi];exact h _ (EJ hi)
theorem Ap(hc:X.calm=true):aH X (.builtin "all") (fun xs H Q=>∃ (p:Addr) (bs:List Bool),xs=[V.ref p]/\SqL X.K H p (bs.map V.bl)/\Q (.bl (bs.all id)) H):=by
 intro pins s σ H xs us Q I r h;obtain ⟨p,bs,rfl,hq,q⟩:=h;obtain ⟨u,rfl,ru⟩:=bT r;cases ru;obtain ⟨its,rv,pl,hz⟩:=I.list hq;have hlen:=rv.length;rw [Do] at hlen
 have hlt:p < s.heap.objs.size:=by
  obtain ⟨o,n,e,_⟩:=pl;exact Dx e
 refine call_all_walk (E3 pl.isList ⟨s.heap.objs.size,_,_,its.toArray.size,_,_,fun i=>bs.getD i false,rfl,Walks.list (show X.A.in1.handled=none from I.ok.hd hc) s.heap.objs.size p (DL hlt) its.toArray,
  ⟨⟨_,Dw _ rfl,rfl,rfl⟩,pl.isList.at fun o e=>Dk _ e⟩,fun i v s' Q' E' hP hQ'=> ?_,fun h' tk hk=> ?_⟩)
 ·have hP:its.toArray[i]?=some v:=hP
  have hi:i < bs.length:=by
   have:=(Array.getElem?_eq_some_iff.mp hP).1;rw [Du] at this;omega
  obtain ⟨u,e1,e2⟩:=rv.get (i:=i) (x:=V.bl bs[i]) (by simp [hi])
  have:v = .bool bs[i]:=by
   rw [show its.toArray[i]?=its[i]? by simp,e1] at hP;cases hP;exact e2
  subst this;have hQ':Q' (bs.getD i false) s':=hQ';rw [show bs.getD i false=bs[i] by simp [DP,hi]] at hQ';exact EK hQ'
 ·refine ⟨.bl (bs.all id),H,?_,?_,q⟩
  ·exact I.kept (h':=h') (t':=tk) fun b o e=>hk b o (by have:=Dx e;simp;exact DL this) (Dk _ e)
  ·show Value.bool _=Value.bool _
   rw [Du,<- hlen,xu]
theorem An:aH X (.type "range") (fun xs H Q=>(∃ j:Int,xs=[V.int j]/\∀ l,H l=none->Q (.ref l) (upd H l (.rng 0 j)))\/(∃ i j:Int,xs=[V.int i,V.int j]/\∀ l,H l=none->Q (.ref l) (upd H l (.rng i j)))):=by
 intro pins s σ H xs us Q I r h;have hf:H s.heap.objs.size=none:=I.hok.fresh (Dy _)
 rcases h with ⟨j,rfl,q⟩ | ⟨i,j,rfl,q⟩
 ·obtain ⟨u,rfl,t,rfl⟩:=bT r
  exact call_range_1 ⟨.ref s.heap.objs.size,_,I.laid (o:= .rng 0 j) (fun _ _ e=>Dk _ e) (Dy _) ⟨_,_,_,Dw _ rfl⟩,rfl,q _ hf⟩
 ·obtain ⟨u,w',rfl,⟨t,rfl⟩,⟨t',rfl⟩⟩:=oD r
  exact call_range_2 ⟨.ref s.heap.objs.size,_,I.laid (o:= .rng i j) (fun _ _ e=>Dk _ e) (Dy _) ⟨_,_,_,Dw _ rfl⟩,rfl,q _ hf⟩
theorem yz(lo hi i:Int):(Builtin.Range.rangePlace? lo hi 1 i).isSome=decide (lo<=i/\i < hi):=by
 unfold Builtin.Range.rangePlace?
 by_cases h:lo<=i/\i < hi
 ·rw [DF h]
  simp [h.1,h.2,Int.emod_one]
 ·rw [DO h]
  by_cases h1:lo<=i
  ·have h2:¬ i < hi:=fun q=>h ⟨h1,q⟩
   simp [h1,h2]
  ·simp [h1]
section
open PySem.SeqAt
open PySem.AutoSeq1 (wpAny_loadPart')
open PySem.MeetsSeq PySem.MeetsSeq2 PySem.MeetsSeq3
theorem wk(l:Addr)(lo hi i:Int)(a b c t:Tok):Meets (Builtin.«range.__contains__» ⟨[.ref l,.int i t],[]⟩)
 (fun _ R s=>s.heap.get? l=some { cls:= .type "range",data:= .fields #[.int lo a,.int hi b,.int 1 c] }/\R (.ok (.ret (.bool (decide (lo<=i/\i < hi))))) s) :=
 .of_wp fun prog w A R s h=>by
  obtain ⟨hp,g,d,tk,os⟩:=s;obtain ⟨hl,h⟩:=h;rw [<- yz] at h
  wp_walk using ED hl
  exact ⟨_,rfl,h⟩
end
noncomputable def rInR(neg:Bool):R2:=fun x y H Q=>∃ (l:Addr) (i lo hi:Int),x = .int i/\y = .ref l/\H l=some (.rng lo hi)/\Q (.bl (if neg then !decide (lo<=i/\i < hi) else decide (lo<=i/\i < hi))) H
theorem op_inR:OpR X (compareOp .In) (rInR false):=by
 intro pins s σ H x y v u Q I rx ry h;obtain ⟨l,i,lo,hi,rfl,rfl,hl,q⟩:=h;obtain ⟨t,rfl⟩:=rx;cases ry;obtain ⟨a,b,c,e⟩:=(show bA X.prog X.w H s.heap l (.rng lo hi) from I.hok l _ hl);exact PySem.SeqRoads2.in_meets ⟨_,e,rfl⟩ F.slot_range_contains F.entry_range_contains (F.args_range_contains_2 _ _) (wk l lo hi i a b c t) ⟨e,_,rfl,⟨.bl _,H,I,rfl,q⟩⟩
theorem Ck{prog:Program}{w:World}{A:Around}{E:Value->Shared->Prop}{s:Shared}{t b:Addr}{ws:List Value}{Q:Value->Shared->Prop}(ht:IsTup s.heap t #[])(hb:IsTup s.heap b ws.toArray)(h:Q (.ref b) s) :
 wpAny (model prog w) A (binaryOp .Add (.ref t) (.ref b)) Q E s:=by
 obtain ⟨⟨cls,dd,data,sl⟩,ho,hc,n,hd⟩:=id ht;obtain ⟨⟨cls2,dd2,data2,sl2⟩,ho2,hc2,n2,hd2⟩:=id hb;simp only at hc hd hc2 hd2;subst hc hd hc2 hd2
 exact concat_meets ⟨_,ho,rfl⟩ ⟨_,ho2,rfl⟩ noFill_tuple_add seq_tuple_add PySem.F.slot_tuple_add PySem.F.entry_tuple_add (PySem.F.args_tuple_add_2 _ _)
  (tuple_addW0 t b #[] ws.toArray n n2 dd dd2 sl sl2 (by simp)) ⟨ho,ho2,h⟩
end
end L2
namespace HT
open PySem PySem.Spec PyProof.Rows
section
variable{prog:Program}{w:World}{A:Around}{E:Value->Shared->Prop}{s:Shared}
theorem ic{t sl:Addr}{items:Array Value}{vl vu:Value}{lo hi:Option Int}{Q:Value->Shared->Prop}(ht:IsTup s.heap t items)(hs:s.heap.IsSliceOf sl vl vu .none)(pl:IsPart vl lo)(pu:IsPart vu hi)
 (hw:sIx items.size 0 lo=0/\sIx items.size items.size hi=items.size) (h:Q (.ref t) s):wpAny (model prog w) A (getItem (.ref t) (.ref sl)) Q E s:=by
 obtain ⟨os,hos,hcs,hds⟩:=id hs;have hTs:s.TypeIs (.ref sl) "slice" := ⟨os,hos,hcs⟩;unfold getItem
 try with_reducible refine EQ ?_
 first | refine Dj (Ds ?_) | skip
 refine Dj (wpAny_sequenceKey ht.typeIs (by decide) ?_)
 refine Dj (Ea (name:=Str.ofString "__getitem__") ht.typeIs PyProof.Rows.slot_tuple_getitem
  (En PyProof.Rows.slot_tuple_getitem ht.typeIs entry_tuple_getitem ?_ (args_tuple_getitem _ _)))
 show wpAny _ _ (Builtin.Tuple.tupleItemsOf (.ref t) >>= _) _ _ s
 refine Dj (tupleItemsOf_ ht (Dj (wpAny_typeOf hTs ?_)));rw [if_pos (by decide)];refine Dj (fm hs pl pu ?_)
 show wpAny _ _ (if (((sIx items.size 0 lo:Nat):Int) == 0&&(1:Int) == 1&&(sIx items.size items.size hi - sIx items.size 0 lo) == items.size)=true then _ else _) _ _ s
 rw [if_pos (by rw [hw.1,hw.2];simp)];unfold Builtin.Tuple.tupleIsExact;refine Dj (Dj (wpAny_typeOf ht.typeIs (Ds ?_)));rw [if_pos (by decide)];exact Dj (wpAny_rule (Ds ⟨_,rfl,Ds h⟩))
end
end HT
namespace L2
open PySem PySem.Spec PyProof.Rows
section
variable{X:Cx}
end
end L2
namespace Srt
open PySem PySem.W PyProof.Rows
noncomputable def All{α:Type}(n:Nat)(P:α->Prop):KasT α->Prop
 | .ret a=>P a
 | .ask i j k=>i < n/\j < n/\∀ b,All n P (k b)
theorem All.bind{α β:Type}{n:Nat}{P:β->Prop}{f:α->KasT β}:∀ {t:KasT α},All n (fun a=>All n P (f a)) t->All n P (t.bind f)
 | .ret _,h=>h
 | .ask _ _ _,⟨h1,h2,h3⟩=>⟨h1,h2,fun b=>All.bind (h3 b)⟩
theorem All.mono{α:Type}{n:Nat}{P P':α->Prop}(hp:∀ a,P a->P' a):∀ {t:KasT α},All n P t->All n P' t
 | .ret a,h=>hp a h
 | .ask _ _ _,⟨h1,h2,h3⟩=>⟨h1,h2,fun b=>All.mono hp (h3 b)⟩
noncomputable def dH(n:Nat)(p:Array Nat):Prop:=0 < n/\p.toList.Perm (List.range n)
theorem dH.lt{n:Nat}{p:Array Nat}(g:dH n p)(k:Nat):p.getD k 0 < n:=by
 by_cases h:k < p.size
 ·have e:p.getD k 0=p[k]:=by simp [Array.getD,h]
  rw [e];have m:p[k]∈List.range n:=g.2.mem_iff.mp (by simp);simpa using m
 ·have e:p.getD k 0=0:=by simp [Array.getD,h]
  rw [e];exact g.1
theorem dH.perm{n:Nat}{p p':Array Nat}(g:dH n p)(h:p'.Perm p):dH n p':=⟨g.1,(Array.perm_iff_toList_perm.mp h).trans g.2⟩
theorem dH.rev{n:Nat}{p:Array Nat}(g:dH n p)(i j:Nat):dH n (kas_rev p i j):=g.perm (mirror_perm _ _ _ _)
theorem asc{n:Nat}{p:Array Nat}(g:dH n p):∀ f k,All n (fun _=>True) (kas_asc p f k)
 | 0,_=>trivial
 | f+1,k=>⟨g.lt _,g.lt _,fun b=>by
  cases b with
  | true=>show All n _ (if true=true then _ else _);rw [if_pos rfl];trivial
  | false=>show All n _ (if false=true then _ else _);rw [if_neg DB];exact asc g f (k+1)⟩
theorem Cd{n:Nat}:∀ f {p:Array Nat} (k q:Nat),dH n p->All n (fun r=>dH n r.1) (kas_desc f p k q)
 | 0,p,_,_,g=>g
 | f+1,p,k,q,g=>⟨g.lt _,g.lt _,fun b=>by
  cases b with
  | true =>
   show All n _ (if true=true then _ else _)
   rw [if_pos rfl]
   by_cases hq:q > 0
   ·rw [if_pos hq];exact Cd f _ _ (g.rev _ _)
   ·rw [if_neg hq];exact Cd f _ _ g
  | false =>
   show All n _ (if false=true then _ else _)
   rw [if_neg DB];refine ⟨g.lt _,g.lt _,fun b=> ?_⟩
   cases b with
   | true=>show All n _ (if true=true then _ else _);rw [if_pos rfl];exact g
   | false=>show All n _ (if false=true then _ else _);rw [if_neg DB];exact Cd f _ _ g⟩
theorem Cy{n:Nat}{p:Array Nat}(g:dH n p)(k nrem:Nat):All n (fun r:Nat×Array Nat=>dH n r.2) (kas_tail3 k nrem p):=by
 unfold kas_tail3;exact ((asc (g.rev _ _) _ _).mono fun m _=>(show All n (fun r:Nat×Array Nat=>dH n r.2) (KasT.ret (m,kas_rev p 0 k)) from g.rev _ _)).bind
theorem sW{n:Nat}{p:Array Nat}(g:dH n p)(k nrem:Nat):All n (fun r:Nat×Array Nat=>dH n r.2) (kas_descPart k nrem p):=by
 unfold kas_descPart;refine ((Cd _ _ _ g).mono fun r hr=> ?_).bind
 by_cases h:r.2.2 > 0
 ·rw [if_pos h];exact Cy (hr.rev _ _) _ _
 ·rw [if_neg h];exact Cy hr _ _
theorem count{n:Nat}{p:Array Nat}(g:dH n p)(nrem:Nat):All n (fun r:Nat×Array Nat=>dH n r.2) (kas_count nrem p):=by
 unfold kas_count;refine ((asc g _ _).mono fun k _=> ?_).bind
 by_cases h:(k == nrem)=true
 ·rw [if_pos h];exact g
 ·rw [if_neg h]
  by_cases h2:k > 1
  ·rw [if_pos h2]
   refine ⟨g.lt _,g.lt _,fun b=> ?_⟩
   cases b with
   | true=>show All n _ (if true=true then _ else _);rw [if_pos rfl];exact g
   | false=>show All n _ (if false=true then _ else _);rw [if_neg DB];exact sW (g.rev _ _) _ _
  ·rw [if_neg h2];exact sW g _ _
theorem yA{n:Nat}{p:Array Nat}(g:dH n p)(k:Nat):∀ f l r,All n (fun _=>True) (kas_place p k f l r)
 | 0,_,_=>trivial
 | f+1,l,r=>by
  unfold kas_place
  by_cases h:l>=r
  ·rw [if_pos h];trivial
  ·rw [if_neg h]
   refine ⟨g.lt _,g.lt _,fun b=> ?_⟩
   cases b with
   | true=>show All n _ (if true=true then _ else _);rw [if_pos rfl];exact yA g k f _ _
   | false=>show All n _ (if false=true then _ else _);rw [if_neg DB];exact yA g k f _ _
theorem bin{n:Nat}:∀ f {p:Array Nat} (k:Nat),dH n p->All n (dH n) (kas_bin f p k)
 | 0,_,_,g=>g
 | f+1,p,k,g=>((yA g k k 0 k).mono fun l _=>bin f (k+1) (g.perm (bubble_perm _ _ _))).bind
theorem sort{n:Nat}(h:0 < n):All n (dH n) (kas_sort n):=by
 unfold kas_sort;have g:dH n (List.toArray (List.range n)):=⟨h,by simp⟩;refine ((count g n).mono fun r hr=> ?_).bind
 by_cases h:r.1 < n
 ·rw [if_pos h];exact bin _ _ hr
 ·rw [if_neg h];exact hr
section
variable{prog:Program}{w:World}{A:Around}{E:Value->Shared->Prop}{s:Shared}
noncomputable def Tups(h:Heap)(vs:List Value):Prop:=∀ v∈vs,∃ a items ns,v = .ref a/\IsTup h a items/\IntsAre items.toList ns/\ns≠[]
theorem zY{M:Model}{h:Heap}:∀ {vs:List Value},Tups h vs->∃ fs,fs.length=vs.length/\KatTups h vs fs/\∀ v∈fs,Looks M h (typeOf v) (.type "int")
 | [],_=>⟨[],rfl,.nil,fun v hv=>by cases hv⟩
 | v::vs,t=>by
  obtain ⟨fs,h1,h2,h3⟩:=zY (M:=M) (vs:=vs) fun u hu=>t u (Dr _ hu)
  obtain ⟨a,items,ns,rfl,⟨o,g1,g2,n,g3⟩,i,ne⟩:=t v Dv
  cases hi:items.toList with
  | nil =>
   rw [hi] at i;cases i;exact absurd rfl ne
  | cons f r =>
   rw [hi] at i
   cases i with
   | cons x tk _ =>
    refine ⟨.int x tk::fs,by simp [h1],.cons g1 g2 g3 (by rw [<- EY,hi];rfl) h2,fun u hu=> ?_⟩
    rcases Dz.mp hu with rfl | hu
    ·exact .now
    ·exact h3 u hu
end
end Srt
namespace L2
open PySem PySem.Spec PyProof.Rows
noncomputable def rO:Value->V
 | .ref b=> .ref b
 | _=> .non
theorem jX:∀ {l:List Value},(∀ u∈l,∃ b,u = .ref b)->aC (l.map rO) l
 | [],_=> .nil
 | u::l,h=>by
  obtain ⟨b,rfl⟩:=h u Dv;exact .cons rfl (jX fun v hv=>h v (Dr _ hv))
theorem oR:∀ {bs:List V} {l:List Value},aC bs l->(∀ b∈bs,∃ a,b = .ref a)->bs=l.map rO/\∀ u∈l,∃ b,u = .ref b
 | _,_,.nil,_=>⟨rfl,fun u hu=>by cases hu⟩
 | _,_,.cons r t,h=>by
  obtain ⟨a,rfl⟩:=h _ Dv;cases r
  obtain ⟨e,q⟩:=oR t fun b hb=>h b (Dr _ hb)
  refine ⟨by rw [DE,<- e];rfl,fun u hu=> ?_⟩
  rcases Dz.mp hu with rfl | hu
  ·exact ⟨a,rfl⟩
  ·exact q u hu
section
variable{X:Cx}
end
inductive Dt where
 | non | bl (b:Bool) | int (i:Int) | str (x:Str) | lst | dct | tup (ds:List Dt)
mutual
noncomputable def Rep(K:FZ)(H:Hp):Dt->V->Prop
 | .non,v=>v = .non
 | .bl b,v=>v = .bl b
 | .int i,v=>v = .int i
 | .str x,v=>v = .str x
 | .lst,v=>∃ p xs,v = .ref p/\SqL K H p xs
 | .dct,v=>∃ p,v = .ref p/\((∃ kvs,H p=some (.dK kvs))\/∃ kvs,H p=some (.dT kvs))
 | .tup ds,v=>∃ p xs,v = .ref p/\SqT K H p xs/\AB K H ds xs
noncomputable def AB(K:FZ)(H:Hp):List Dt->List V->Prop
 | [],[]=>True
 | d::ds,x::xs=>Rep K H d x/\AB K H ds xs
 | _,_=>False
end
theorem ai.tup{K:FZ}{H H':Hp}{a:Addr}{xs:List V}(e:ai H H')(h:SqT K H a xs):SqT K H' a xs:=by
 rcases h with (h | ⟨o,h⟩) | h
 ·exact .inl (.inl (e _ _ h))
 ·exact .inl (.inr ⟨o,e _ _ h⟩)
 ·exact .inr h
theorem ai.upd{H:Hp}{p:Addr}{o:HO}(h:H p=none):ai H (L2.upd H p o):=fun b u e=>by rw [am (aq e h)];exact e
mutual
theorem ai.rep{K:FZ}{H H':Hp}(e:ai H H'):∀ {d:Dt} {v:V},Rep K H d v->Rep K H' d v
 | .non,_,h=>h
 | .bl _,_,h=>h
 | .int _,_,h=>h
 | .str _,_,h=>h
 | .lst,_,⟨p,xs,h1,h2⟩=>⟨p,xs,h1,e.seq h2⟩
 | .dct,_,⟨p,h1,h2⟩=>⟨p,h1,h2.elim (fun hZ=>(by obtain ⟨k,q⟩:=hZ;exact .inl ⟨k,e _ _ q⟩)) fun hZ=>(by obtain ⟨k,q⟩:=hZ;exact .inr ⟨k,e _ _ q⟩)⟩
 | .tup _,_,⟨p,xs,h1,h2,h3⟩=>⟨p,xs,h1,e.tup h2,e.repL h3⟩
theorem ai.repL{K:FZ}{H H':Hp}(e:ai H H'):∀ {ds:List Dt} {xs:List V},AB K H ds xs->AB K H' ds xs
 | [],[],_=>trivial
 | _::_,_::_,h=>⟨e.rep h.1,e.repL h.2⟩
 | [],_::_,h=>h.elim
 | _::_,[],h=>h.elim
end
structure Has(K:FZ)(mg:Str->Option Value)(x:Str)(st:Stmt)(ps:List Str):Prop where
 ex:∃ f fd,Fun K x x st f fd/\mg x=some (.ref f)/\jV K fd ps []
structure Ok(P:Program)(w:World)(K:FZ)(mg:Str->Option Value)(base:Heap)(x:Str)(ps:List Str)(k:Nat)(sp:Sp):Prop where
 ex:∃ f fd,mg x=some (.ref f)/\PySem.W.keepIn K (.ref f)=true/\jV K fd ps []/\kq P w K mg base CX0 k f fd ps sp
theorem Has.ok{P:Program}{w:World}{K:FZ}{mg:Str->Option Value}{base:Heap}{x:Str}{st:Stmt}{N ps:List Str}{k:Nat}{sp:Sp}(h:Has K mg x st ps)(S:cy N ps (ah st))(len:∀ vs H Q E,sp vs H Q E->vs.length=ps.length)
 (hbody:∀ (f:Addr) (cdv:Value) (A:Around) (outer:List Env) (s:Shared) (H:Hp) (vs:List V) (Q:VK) (E:XK),cx k (A.deeper (envOfC x (ah st) s.heap.objs.size f cdv))->sp vs H Q E ->
   ∃ t,PSs (bZ CX0 P w K mg base N x (ah st) f cdv A outer s H E).nox (bb st) t/\t { nx:=fun _ H'=>Q .non H',rt:=Q } (cQ N vs) H):Ok P w K mg base x ps (k+1) sp:=by
 obtain ⟨f,fd,F,hm,hb⟩:=h.ex;exact ⟨f,fd,hm,F.kp,hb,F.ok S len (hbody f)⟩
section
variable{X:Cx}{e:Expr}{es:List Expr}{t:TA}{x:Str}{ps:List Str}{k:Nat}{sp:Sp}{p pos:Pos}
end
theorem iteB{c:Bool}{A B:Prop}(h1:c=true->A)(h2:c=false->B):if c=true then A else B:=by
 cases c with
 | true=>rw [if_pos rfl];exact h1 rfl
 | false=>rw [if_neg DB];exact h2 rfl
section
variable{X:Cx}{Pre:St->Hp->Prop}
end
structure jd(osc:Scope)(N:List Str)(sc:Scope)(M tgs:List Str):Prop where
 kind:sc.kind = .function
 names:∀ y∈sc.names,y.2 = .local->sc.names.lookup y.1=some .local
 nocell:∀ y∈sc.names,y.2 ≠ .cell
 free:∀ y∈sc.names,y.2 = .free->osc.names.lookup y.1=some .cell\/osc.names.lookup y.1=some .free
 len:M.length=N.length
 same:∀ p∈M.zip N,p.1=p.2\/p.1=("" : Str)
 dummy:sc.names.lookup ("" : Str)=none
 hid:∀ x∈M,sc.names.lookup x≠some .local
 nd:(M++tgs).Nodup
theorem jd.ok{X:Cx}{osc:Scope}{N:List Str}{sc:Scope}{M tgs:List Str}(b:jd osc N sc M tgs)(h1:X.env.scope=osc:=by rfl)(h2:X.N=N:=by rfl):nW X sc M tgs:=by
 subst h1 h2;exact ⟨b.kind,b.names,b.nocell,b.free,b.len,b.same,b.dummy,b.hid⟩
noncomputable def Nx(n i:Nat)(Pv:Nat->List V->Hp->Prop)(ys:List V)(H:Hp):Prop:=∃ m',m' < n - i/\(m'=n - (i+1)/\i+1<=n/\Pv (i+1) ys H)
theorem Nx.mk{n i:Nat}{Pv:Nat->List V->Hp->Prop}{ys:List V}{H:Hp}(hi:i < n)(h:Pv (i+1) ys H):Nx n i Pv ys H:=⟨n - (i+1),by omega,rfl,hi,h⟩
theorem uD{lo:Int}{n:Nat}{k:Nat}{g:TG}{tt:TT}{te:TE}{σ:St}{H:Hp}{Q:VK}(Pv:Nat->List V->Hp->Prop)(h0:Pv 0 [] H)(hl:∀ i ys H,i<=n->Pv i ys H->ys.length<=sizeLine)
 (hs:∀ i ys H,i < n->Pv i ys H->g (.int (lo+i)) (σ++List.replicate k none) H fun σ2 H2=>σ2.take σ.length=σ/\tt σ2 H2 fun b H3 =>
   if b=true then te σ2 H3 fun y H4=>Nx n i Pv (ys++[y]) H4 else Nx n i Pv ys H3)
 (hd:∀ ys H,Pv n ys H->∀ l,H l=none->Q (.ref l) (upd H l (.lst ys))):Di (Itr lo n) k g tt te σ Q H:=by
 refine ⟨fun i m ys H=>m=n - i/\i<=n/\Pv i ys H,⟨n,by simp,E9 _,h0⟩,?_⟩;rintro i m ys H ⟨rfl,hi,p⟩;refine ⟨hl i ys H hi p,?_⟩
 by_cases hlt:i < n
 ·refine .inr ⟨hlt,fun x H' y=> ?_⟩
  obtain ⟨e,y⟩:=y;subst e y;exact hs i ys _ hlt p
 ·have e:i=n:=by omega
  subst e;exact .inl ⟨Dy _,hd ys H p⟩
section
variable{κ:Type}[DecidableEq κ]
end
noncomputable def AA(K:FZ)(H:Hp)(b:V)(t:Int×Int):Prop:=∃ a,b = .ref a/\H a=some (.tup [.int t.1,.int t.2])
structure WebAt(K:FZ)(H:Hp)(w:Addr)(many:Int)(ties:List (Int×Int)):Prop where
 at_:∃ t bs,H w=some (.tup [.int many,.ref t])/\H t=some (.tup bs)/\Paired (AA K H) bs ties
 len:ties.length<=60
 good:∀ t∈ties,0<=t.1/\t.1 < t.2/\t.2 < many
 nd:ties.Nodup
theorem bA.there{P:Program}{w:World}{H:Hp}{h:Heap}{a:Addr}{o:HO}(x:bA P w H h a o):∃ ob,h.get? a=some ob:=by
 cases o with
 | lst xs=>obtain ⟨_,_,_,_,e⟩:=x;exact ⟨_,e⟩
 | tup xs=>obtain ⟨_,_,_,ob,e,_⟩:=x;exact ⟨ob,e⟩
 | dK kvs=>obtain ⟨_,_,_,_,o,_,_,e,_⟩:=x;exact ⟨_,e⟩
 | dT kvs=>obtain ⟨_,_,_,_,o,_,_,e,_⟩:=x;exact ⟨_,e⟩
 | set S n=>obtain ⟨o,_,_,_,e,_⟩:=x;exact ⟨_,e⟩
 | ins C dx fs=>obtain ⟨_,_,_,e,_⟩:=x;exact ⟨_,e⟩
 | own y=>exact x
 | xd fs=>obtain ⟨_,⟨_,_,_,e,_⟩,_⟩:=x;exact ⟨_,e⟩
 | rng lo hi=>obtain ⟨_,_,_,e⟩:=x;exact ⟨_,e⟩
 | frz ob u=>obtain ⟨e,_⟩:=x;exact ⟨_,e⟩
 | tbl ps=>exact ⟨_,(show h.get? a=some _ from x)⟩
 | met f y=>exact ⟨_,(show h.get? a=some _ from x)⟩
 | ext φ=>obtain ⟨_,e,_⟩:=x;exact e
theorem HOk.none_of{P:Program}{w:World}{H:Hp}{h:Heap}{a:Addr}(x:HOk P w H h)(e:h.get? a=none):H a=none:=by
 cases q:H a with
 | none=>rfl
 | some u =>
  obtain ⟨ob,z⟩:=(x a u q).there;rw [e] at z;cases z
structure Az(fs:List Addr)(ea T:Addr)(h h':Heap):Prop where
 keep:∀ b o,h.get? b=some o->b∉fs->b≠ea->b≠T->h'.get? b=some o
 slot:∀ b o,h.get? b=some o->b∈fs->∃ sl,h'.get? b=some { o with slots:=sl }
structure iD(g:Heap)(H:Hp)(ea T:Addr)(cls:Value)(h:Heap):Prop where
 obj:∃ (oe:Obj) (vs:Array Value) (oT:Obj) (ts:Array Value) (a0:Value),h.get? ea=some oe/\(oe.cls=cls/\vs[0]?=some a0)/\oe.data = .fields vs/\vs[1]?=some (.ref T)/\T≠ea/\h.get? T=some oT/\oT.data = .fields ts/\ts[3]?=some .none
 he:H ea=none
 hT:H T=none
 ge:g.get? ea=none
 gT:g.get? T=none
section
variable{P:Program}{w:World}{fs fs' ex:List Addr}{H₀ H:Hp}{g g₀ h h' base:Heap}{ea T:Addr}{cls:Value}{l l':List Env}
theorem iD.older(F:iD g H ea T cls h)(k:∀ b o,g₀.get? b=some o->∃ o',g.get? b=some o'):iD g₀ H ea T cls h:=by
 refine ⟨F.obj,F.he,F.hT,?_,?_⟩
 ·cases q:g₀.get? ea with
  | none=>rfl
  | some o=>obtain ⟨o',z⟩:=k _ _ q;rw [F.ge] at z;cases z
 ·cases q:g₀.get? T with
  | none=>rfl
  | some o=>obtain ⟨o',z⟩:=k _ _ q;rw [F.gT] at z;cases z
theorem iD.flyingW(F:iD g H ea T cls h)(hl:h.FunFrames base l):∃ a0,Heap.FlyingW (PySem.W.hideAll h (ea::T::frs l)) l ea cls a0 h:=by
 obtain ⟨oe,vs,oT,ts,a0,h1,h2,h3,h4,h5,h6,h7,h8⟩:=F.obj;refine ⟨a0,fun b o e=>PySem.W.of_hideAll _ e,PySem.W.hideAll_none _ Dv,PySem.W.funFrames_hide hl (fun env he a hf=> ?_),oe,vs,T,oT,ts,h1,h2,h3,h4,PySem.W.hideAll_none _ (Dr _ Dv),h5,h6,h7,h8⟩;exact Dr _ (Dr _ (FW.mpr ⟨env,he,hf⟩))
theorem nu(F:iD g H ea T cls h)(hl:h.FunFrames base l)(hok:HOk P w H h)(hg:∀ b o,g.get? b=some o->∃ o',h.get? b=some o'){a0:Value}
 (x:Heap.FlyingW (PySem.W.hideAll h (ea::T::frs l)) l' ea cls a0 h') (up:h.UpToSlots h'):Az (frs l) ea T h h'/\∃ T',iD g H ea T' cls h':=by
 obtain ⟨x1,x2,x3,oe,vs,T',oT,ts,y1,y2,y3,y4,y5,y6,y7,y8,y9⟩:=x
 have slot:∀ b o,h.get? b=some o->b∈frs l->∃ sl,h'.get? b=some { o with slots:=sl }:=fun b o e hb=>by
  obtain ⟨_,o',ho',nf⟩:=hl.mem hb;rw [e] at ho';cases ho';exact up b o e nf
 refine ⟨⟨fun b o e n1 n2 n3=>x1 b o (Fp _ e (by simp [n1,n2,n3])),slot⟩,T',?_⟩
 have fr:H T'=none/\g.get? T'=none:=by
  by_cases q:T'=T
  ·subst q;exact ⟨F.hT,F.gT⟩
  ·have nf:T'∉frs l:=fun hb=>by
    obtain ⟨_,o,ho,nf⟩:=hl.mem hb;obtain ⟨sl,z⟩:=slot T' o ho hb;rw [y7] at z;cases z;exact nf ts y8
   have hn:h.get? T'=none:=by
    cases z:h.get? T' with
    | none=>rfl
    | some o =>
     have:=Fp (ea::T::frs l) z (by simp [nf,q,y6]);rw [y5] at this;cases this
   refine ⟨hok.none_of hn,?_⟩
   cases z:g.get? T' with
   | none=>rfl
   | some o=>obtain ⟨o',z'⟩:=hg _ _ z;rw [hn] at z';cases z'
 exact ⟨⟨oe,vs,oT,ts,a0,y1,y2,y3,y4,y6,y7,y8,y9⟩,F.he,fr.1,F.ge,fr.2⟩
theorem Un.turn(u:Un fs ex H₀ H g h)(t:Az fs' ea T h h')(ge:g.get? ea=none)(gT:g.get? T=none)(h1:∀ b∈fs,b∈fs')(h2:∀ b∈fs',b∉fs->g.get? b=none):Un fs ex H₀ H g h' where
 keep:=fun b o q n hb hx=>t.keep b o (u.keep b o q n hb hx) (fun z=>by rw [h2 b z hb] at q;cases q) (fun z=>by rw [z,ge] at q;cases q) (fun z=>by rw [z,gT] at q;cases q)
 slot:=fun b o q n hb hx=>by
  obtain ⟨sl,e⟩:=u.slot b o q n hb hx;obtain ⟨sl',e'⟩:=t.slot b _ e (h1 b hb);exact ⟨sl',e'⟩
 free:=u.free
 there:=fun b o q hx=>by
  obtain ⟨o',e⟩:=u.there b o q hx
  by_cases hb:b∈fs'
  ·obtain ⟨sl,e'⟩:=t.slot b o' e hb
   exact ⟨_,e'⟩
  ·exact ⟨o',t.keep b o' e hb (fun z=>by rw [z,ge] at q;cases q) (fun z=>by rw [z,gT] at q;cases q)⟩
 tups:=u.tups
 frzs:=u.frzs
 tbls:=u.tbls
theorem HOk.turn(x:HOk P w H h)(t:Az fs ea T h h')(he:H ea=none)(hT:H T=none)(hf:∀ b∈fs,H b=none):HOk P w H h':=fun a o e=>by
 have ne:∀ b,(b=a\/H b=some (.own a))->H b≠none:=fun b hb z=>by
  rcases hb with rfl | hb
  ·rw [z] at e;cases e
  ·rw [z] at hb;cases hb
 exact (x a o e).stay (fun b u hb q=>t.keep b u q (fun z=>ne b hb (hf b z)) (fun z=>ne b hb (z ▸ he)) (fun z=>ne b hb (z ▸ hT))) (fun _ q=>q) fun _ _ q=>q
end
noncomputable def CXr(P:Program)(w:World):CXT:=fun outer H s E e s'=>∃ ea T cls H',e = .ref ea/\s'.os=s.os/\AllBare s'.gens/\Un (frs outer) [] H H' s.heap s'.heap/\HOk P w H' s'.heap/\iD s.heap H' ea T cls s'.heap/\E cls none H'
section
variable{P:Program}{w:World}{K:FZ}{mg:Str->Option Value}{base:Heap}{N:List Str}{qual:Str}{scope:Scope}{f:Addr}{cd:Value}{A:Around}{outer:List Env}{s:Shared}{H:Hp}{E E':XK}
theorem sL{env:Env}{L:Addr}{l:List Env}(h:env.frame=some L):frs (env::l)=L::frs l:=by unfold frs;rw [FU,h]
theorem yL(himp:∀ c d H,E' c d H->E c d H):uX (CXr P w) (bZ (CXr P w) P w K mg base N qual scope f cd A outer s H E) E':=by
 intro pins σ H1 s1 e s2 I hx;obtain ⟨ea,T,cls,H2,rfl,os,bare,un,hok,fl,e1⟩:=hx
 have I2:Inv (bZ (CXr P w) P w K mg base N qual scope f cd A outer s H E) pins σ H2 s2:=I.call' (ch:=[]) os un hok bare fun b z=>absurd z (by simp)
 have fl:=fl.older (g₀:=s.heap) fun b o q=>I.base.there b o q (by show b∉[];simp)
 obtain ⟨a0,fw⟩:=fl.flyingW I2.stack
 refine wpAny_leaves_onW I2.ok.frames rfl fw fun h' x1 x2=> ?_
 obtain ⟨tn,T',fl'⟩:=nu fl I2.stack hok (fun b o q=>I2.base.there b o q (by show b∉[];simp)) x1 x2;have e2:frs (bZ (CXr P w) P w K mg base N qual scope f cd A outer s H E).stack=s.heap.objs.size::frs outer:=sL rfl;refine ⟨ea,T',cls,H2,rfl,I2.os,bare,Un.turn I2.base tn fl.ge fl.gT (fun b hb=> ?_) (fun b hb nb=> ?_),hok.turn tn fl.he fl.hT I2.stkFree,fl',himp _ _ _ e1⟩
 ·rw [e2];exact Dr _ hb
 ·rw [e2] at hb
  rcases Dz.mp hb with rfl | hb
  ·exact Heap.get?_none_of_le (Dy _)
  ·exact absurd hb nb
noncomputable def tRaise(C:Addr)(E:XK):TS:=fun _ _ H=>E (.ref C) none H
theorem wl{x:Str}{C:Addr}{bm:List Value}{B newId initId:String}{np cpos pos:Pos}(O:OwnCls x C bm newId mg base)(FB:ExcBaseFacts B newId initId bm)(hh:(A.deeper (envOfC qual scope s.heap.objs.size f cd)).handled=none)
 (hg:Gl (bZ (CXr P w) P w K mg base N qual scope f cd A outer s H E) x) (hd:(x == ("__debug__" : Str))=false:=by decide):PS (bZ (CXr P w) P w K mg base N qual scope f cd A outer s H E) (.Raise (some (.Call (.Name x np) [] [] cpos)) none pos) (tRaise C E):=by
 intro pins s1 σ H1 D I h;obtain ⟨tl,N',nm,q,bs,hdct,sn,sub,ab,col,dd,k0,k1,k2,k3,k5,mN,hC,hN,hni,T⟩:=O.obj
 refine wpAny_Raise_call_subT (C:=C) (nm:=nm) (q:=q) (N:=N') (bs:=bs) (bm:=tl) (hdct:=hdct) (sn:=sn) (sub:=sub) (ab:=ab) (col:=col) (dd:=dd) (k0:=k0) (k1:=k1) (k2:=k2) (k3:=k3) (k5:=k5)
  FB (mN:=mN) (T.hasType FB.hasBase) hh rfl hni (hV I hg O.bound ⟨rfl,?_⟩ hd)
 refine evalArgs_empty ⟨rfl,E9 _,I.bk _ _ hC,hN.keeps I.bk,T.keeps I.bk,fun h' e hm=> ?_⟩
 have hin:∀ env∈(bZ (CXr P w) P w K mg base N qual scope f cd A outer s H E).stack,∀ b,env.frame=some b->b∈frs (bZ (CXr P w) P w K mg base N qual scope f cd A outer s H E).stack:=fun env he b hb=>FW.mpr ⟨env,he,hb⟩
 refine wpAny_leaves_madeW (base:=PySem.W.hideAll s1.heap (frs (bZ (CXr P w) P w K mg base N qual scope f cd A outer s H E).stack)) (h:=s1.heap) I.ok.frames rfl (fun b o q=>PySem.W.of_hideAll _ q) (PySem.W.funFrames_hide I.stack hin) hm fun h'' t x1 x2 x3 x4=> ?_
 obtain ⟨y1,y2,y3,oe,vs,T',oT,ts,z1,z2,z3,z4,z5,z6,z7,z8,z9⟩:=x1
 have tn:Az (frs (bZ (CXr P w) P w K mg base N qual scope f cd A outer s H E).stack) e T' s1.heap h'':=by
  refine ⟨fun b o q n1 _ _=>y1 b o (Fp _ q n1),fun b o q hb=> ?_⟩;obtain ⟨_,o',ho',nf⟩:=I.stack.mem hb;rw [q] at ho';cases ho';exact x4 b o (hm.keeps b o q) nf
 have hT:s1.heap.get? T'=none:=by
  have nf:T'∉frs (bZ (CXr P w) P w K mg base N qual scope f cd A outer s H E).stack:=fun hb=>by
   obtain ⟨_,o,ho,nf⟩:=I.stack.mem hb;obtain ⟨sl,z⟩:=tn.slot T' o ho hb;rw [z7] at z;cases z;exact nf ts z8
  cases z:s1.heap.get? T' with
  | none=>rfl
  | some o =>
   have:=Fp _ z nf;rw [z5] at this;cases this
 have e2:frs (bZ (CXr P w) P w K mg base N qual scope f cd A outer s H E).stack=s.heap.objs.size::frs outer:=sL rfl
 have fl:iD s.heap H1 e T' (.ref C) h'':=by
  refine iD.older (g:=s1.heap) ⟨⟨oe,vs,oT,ts,_,z1,z2,z3,z4,z6,z7,z8,z9⟩,I.hok.none_of hm.new,I.hok.none_of hT,hm.new,hT⟩ fun b o q=>I.base.there b o q (by show b∉[];simp)
 refine ⟨e,T',.ref C,H1,rfl,I.os,I.bare,Un.turn I.base tn fl.ge fl.gT (fun b hb=> ?_) (fun b hb nb=> ?_),I.hok.turn tn fl.he fl.hT I.stkFree,fl,h⟩
 ·rw [e2];exact Dr _ hb
 ·rw [e2] at hb
  rcases Dz.mp hb with rfl | hb
  ·exact Heap.get?_none_of_le (Dy _)
  ·exact absurd hb nb
end
structure OkX(P:Program)(w:World)(K:FZ)(mg:Str->Option Value)(base:Heap)(x:Str)(ps:List Str)(k:Nat)(sp:Sp):Prop where
 ex:∃ f fd,mg x=some (.ref f)/\PySem.W.keepIn K (.ref f)=true/\jV K fd ps []/\kq P w K mg base (CXr P w) k f fd ps sp
theorem Has.okX{P:Program}{w:World}{K:FZ}{mg:Str->Option Value}{base:Heap}{x:Str}{st:Stmt}{N ps:List Str}{k:Nat}{sp:Sp}(h:Has K mg x st ps)(S:cy N ps (ah st))(len:∀ vs H Q E,sp vs H Q E->vs.length=ps.length)
 (hbody:∀ (f:Addr) (cdv:Value) (A:Around) (outer:List Env) (s:Shared) (H:Hp) (vs:List V) (Q:VK) (E:XK),cx k (A.deeper (envOfC x (ah st) s.heap.objs.size f cdv))->sp vs H Q E ->
   ∃ t,PSs (bZ (CXr P w) P w K mg base N x (ah st) f cdv A outer s H E) (bb st) t/\t { nx:=fun _ H'=>Q .non H',rt:=Q } (cQ N vs) H):OkX P w K mg base x ps (k+1) sp:=by
 obtain ⟨f,fd,F,hm,hb⟩:=h.ex;obtain ⟨oc,od,kV,doc,pm,an,cdv,ct,osl,rfl,lk,hcd⟩:=F.ex;exact ⟨f,_,hm,F.kp,hb,zX lk hcd S len fun A outer s H vs Q E hr hsp=>hbody f cdv A outer s H vs Q E hr hsp⟩
section
variable{X:Cx}{e:Expr}{es:List Expr}{t:TA}{x:Str}{ps:List Str}{k:Nat}{sp:Sp}{p pos:Pos}
end
theorem Inv.frame{X:Cx}{pins:List (Addr×Obj)}{σ σ':St}{H:Hp}{s:Shared}{h':Heap}{t':Nat}{m':Str->Option Value}(I:Inv X pins σ H s)(hn':h'.Ns X.env.locals m')(hs:Heap.SameBut X.env.locals s.heap h')
 (hl:∀ (i:Nat) (x:Str) (v:V),X.N[i]?=some x->σ'[i]?=some (some v)->Vis X.env.scope x->∃ u,aG v u/\Look X.env h' m' x u) (len:σ'.length=σ.length):Inv X pins σ' H { s with heap:=h',toks:=t' }:=by
 have neL:∀ b o,X.s₀.heap.get? b=some o->b≠X.env.locals:=fun b o e=>DL (DT (Dx e) I.ok.above)
 have tracked:HOk X.prog X.w H h':=fun b ob e=>by
  refine (I.hok b ob e).stay (fun c w' hc q=>(hs.2 c ?_).trans q) (fun _ q=>q) fun _ _ q=>q
  rintro rfl
  rcases hc with rfl | hc
  ·rw [I.free] at e;cases e
  ·rw [I.free] at hc;cases hc
 refine ⟨I.ok,I.os,I.bare,⟨fun b o e n hb hx=> ?_,fun b o e n hb hx=> ?_,I.base.free,fun b o e hx=> ?_,I.base.tups,I.base.frzs,I.base.tbls⟩,⟨m',hn',hl⟩,fun y c e=> ?_,I.free,I.freeC,fun p hp=> ?_,tracked,len.trans I.len⟩
 ·exact (hs.2 b (neL b o e)).trans (I.base.keep b o e n hb hx)
 ·obtain ⟨sl,e1⟩:=I.base.slot b o e n hb hx
  exact ⟨sl,(hs.2 b (neL b o e)).trans e1⟩
 ·obtain ⟨o',e1⟩:=I.base.there b o e hx
  exact ⟨o',(hs.2 b (neL b o e)).trans e1⟩
 ·obtain ⟨w',z⟩:=I.cell y c e
  exact ⟨w',z.sameBut hs (I.cne y c e)⟩
 ·obtain ⟨e,n,ne,nf,d⟩:=I.pin p hp
  exact ⟨(hs.2 p.1 ne).trans e,n,ne,nf,d⟩
theorem g0{X:Cx}{pins:List (Addr×Obj)}{σ:St}{H:Hp}{s:Shared}{M:Model}{A:Around}{E:Value->Shared->Prop}{Q:Unit->Shared->Prop}{i:Nat}{n:Str}{pos:Pos}(I:Inv X pins σ H s)(hN:X.N.Nodup)(hi:X.N[i]?=some n)(hlo:X.env.scope.names.lookup n=some .local)
 (h:∀ s',Inv X pins (σ.set i none) H s'->Q () s'):wpAny M A (do bindName X.env n .none;unbindBehindTheSuite X.env n pos) Q E s:=by
 have hl:X.env.kindOf n=some .local:=hlo
 have hp:(X.env.scope.kind == .class||(X.env.scope.kind == .module&&X.env.locals != X.env.globals))=false:=by rw [I.ok.kind];rfl
 have hiσ:i < σ.length:=by rw [I.len];exact (DA.mp hi).1
 refine Dj (wpAny_bindName (gg I hN hi (.inl hlo) (v:= .non) rfl (fun s1 I1=> ?_) (.inr hlo)));obtain ⟨m,hn,hlk⟩:=id I1.loc
 have hmn:m n=some Value.none:=by
  obtain ⟨u,r,q⟩:=hlk i n .non hi (Ew hiσ) (.inl hlo);cases r
  rcases q with ⟨_,z⟩ | ⟨k,_⟩
  ·exact z
  ·rcases k with k | k<;>(rw [hl] at k;cases k)
 unfold unbindBehindTheSuite;refine wpAny_onRaise ?_;unfold unbindName;refine Dj (wpAny_point (Dj ?_));unfold deleteName;simp only [hl,hp];rw [if_neg (by decide)];refine Dj (wpAny_nsDel_keeps hn fun h2 v hn2 hs2=> ?_);rw [hmn];simp only [if_true,Option.isSome_some,Bool.not_true,EO,if_false];refine Ds (wpAny_point (h _ ?_));refine I1.frame (t':=s1.toks) hn2 hs2 (fun j y v' e1 e2 e3=> ?_) (by simp)
 have hj:j≠i:=fun z=>by
  subst z;rw [Ew hiσ] at e2;cases e2
 rw [DV (Ne.symm hj)] at e2;obtain ⟨u,r,q⟩:=hlk j y v' e1 (by rw [DV (Ne.symm hj)];exact e2) e3;refine ⟨u,r,?_⟩
 rcases q with ⟨k,e⟩ | ⟨k,c,e,z⟩
 ·refine .inl ⟨k,?_⟩
  have:y≠n:=fun e=>hj (mR hN e1 (e ▸ hi))
  simp [this,e]
 ·exact .inr ⟨k,c,e,z.sameBut hs2 (I1.cne y c e)⟩
abbrev rj(X:Cx)(pn:List (Addr×Obj))(W:Value->St->Hp->Prop):Cx :=
 { X with pn:=pn,xe:=fun e s'=>∃ σ' H1 s1,Inv { X with pn:=pn } [] σ' H1 s1/\CXr X.prog X.w X.stack H1 s1 (fun c _ H'=>W c σ' H') e s' }
abbrev iF(X:Cx)(pn:List (Addr×Obj))(ea:Addr):Cx:={ X with pn:=pn,A:=X.A.mark (some (.ref ea)),calm:=false,xe:=fun _ _=>False }
theorem Cx.Ok.suite{X:Cx}(ok:X.Ok)(pn:List (Addr×Obj))(ea:Addr):(iF X pn ea).Ok :=
 ⟨ok.mod,ok.kind,ok.glob,ok.blt,ok.above,ok.inj,ok.has,ok.cab,(fun z=>by cases z),ok.frames,ok.stk,ok.exf,ok.bs,ok.bsz,ok.noex,ok.exfs,ok.funs,ok.frf⟩
theorem Cx.Ok.try_{X:Cx}(ok:X.Ok)(pn:List (Addr×Obj))(W:Value->St->Hp->Prop):(rj X pn W).Ok :=
 ⟨ok.mod,ok.kind,ok.glob,ok.blt,ok.above,ok.inj,ok.has,ok.cab,ok.hd,ok.frames,ok.stk,ok.exf,ok.bs,ok.bsz,ok.noex,ok.exfs,ok.funs,ok.frf⟩
noncomputable def nA(ea C:Addr):HO:= .ext fun h=>∃ o,h.get? ea=some o/\o.cls = .ref C
theorem sP{M:Model}{A:Around}{E:Value->Shared->Prop}{s:Shared}{K:FZ}{ea C D:Addr}{ob:Obj}{Q:Bool->Shared->Prop}(XK:K.In s.heap)(ho:s.heap.get? ea=some ob)(hc:ob.cls = .ref C)
 (h1:PySem.W.subIn K (.ref C) (.ref D)=some true) (h2:PySem.W.subIn K (.ref D) (.type "BaseException")=some true) (h3:(PySem.W.clsIn K D).isSome=true) (h4:PySem.W.typeIn K (.ref D)=some (.type "type")) (q:Q true s) :
 wpAny M A (excMatches (.ref ea) (.ref D)) Q E s:=by
 obtain ⟨hp,g,d,tk,os⟩:=s;have L1:PySem.W.Looks M hp (typeOf (.ref ea)) (.ref C):=hc ▸ (PySem.W.Looks.ld ho).andThen .now;have L2:PySem.W.Looks M hp (isSubtype (.ref C) (.ref D)) true:=PySem.W.looks_subIn XK h1;have L3:PySem.W.Looks M hp (typeOf (.ref D)) (.type "type"):=PySem.W.looks_typeIn XK h4;have L4:PySem.W.Looks M hp (isSubtype (.ref D) (.type "BaseException")) true:=PySem.W.looks_subIn XK h2
 have L5:PySem.W.Looks M hp (isType (.ref D)) true:=by
  unfold PySem.W.clsIn at h3
  split at h3
  ·rename_i c' d' cd' sl' ho'
   intro A' Q' E' s' k q;unfold isType loadHead;exact Dj (wpAny_loadPart (k _ _ (XK _ _ ho')) (Ds q))
  ·cases h3
 have f:=tc_notTuple;unfold excMatches isInstance isExcClass;refine Dj (Dj (L3.at ?_));rw [f];refine Ds ?_;simp only [EO,if_false];refine Dj (Ds ?_);simp only [FT,List.forIn_nil,bind_assoc,pure_bind];refine Dj (L5.at ?_);simp only [if_true];refine Dj (L4.at ?_);simp only [Bool.not_true,EO,if_false,pure_bind];refine Dj (L1.at (Dj (L2.at ?_)));simp only [if_true,pure_bind];exact Ds q
noncomputable def tTry(K:FZ)(tb:(Value->St->Hp->Prop)->TS)(ts:TS)(i:Nat)(Dc:Addr):TS:=fun D σ H=>∃ W,tb W D σ H/\∀ cls σ' H',W cls σ' H'->∃ C,cls = .ref C/\PySem.W.subIn K (.ref C) (.ref Dc)=some true /\
 ∀ ea,H' ea=none->ts { nx:=fun σ'' H''=>D.nx (σ''.set i none) H'',rt:=D.rt,bk:=fun σ'' H''=>D.bk (σ''.set i none) H'',ct:=fun σ'' H''=>D.ct (σ''.set i none) H'' } (σ'.set i (some (.ref ea))) (upd H' ea (nA ea C))
structure Hdl(K:FZ)(mg:Str->Option Value)(x:Str)(D:Addr):Prop where
 at_:mg x=some (.ref D)
 sub:PySem.W.subIn K (.ref D) (.type "BaseException")=some true
 cls:(PySem.W.clsIn K D).isSome=true
 ty:PySem.W.typeIn K (.ref D)=some (.type "type")
theorem ps_try{X:Cx}{body:List Stmt}{b0:Stmt}{suite:List Stmt}{n x:Str}{i:Nat}{Dc:Addr}{np hpos pos:Pos}{tb:(Value->St->Hp->Prop)->TS}{ts:TS}
 (hst:X.stack=X.env::X.outer) (hfr:X.env.frame=some X.env.locals) (hb:∀ pn W,PSs (rj X pn W) body (tb W)) (hs:∀ pn ea,PSs (iF X pn ea) (b0::suite) ts)
 (hN:X.N.Nodup) (hi:X.N[i]?=some n) (hlo:X.env.scope.names.lookup n=some .local) (hg:Gl X x) (hD:Hdl X.K X.mg x Dc) (hdb:(x == ("__debug__" : Str))=false:=by decide) :
 PS X (.Try body [.ExceptHandler (some (.Name x np)) (some n) (b0::suite) hpos] [] [] pos) (tTry X.K tb ts i Dc):=by
 intro pins s σ H D I h;obtain ⟨W,hw,hh⟩:=h;have I0:Inv (rj X (X.pn++pins) W) [] σ H s:=⟨I.ok.try_ _ _,I.os,I.bare,I.base,I.loc,I.cell,I.free,I.freeC,fun p hp=>I.pin p (by simpa using hp),I.hok,I.len⟩
 have back:∀ {W':Value->St->Hp->Prop} {σ':St} {H':Hp} {s':Shared},Inv (rj X (X.pn++pins) W') [] σ' H' s'->Inv X pins σ' H' s':=fun {W' σ' H' s'} J =>
  ⟨I.ok,J.os,J.bare,J.base,J.loc,J.cell,J.free,J.freeC,fun p hp=>J.pin p (by simpa using hp),J.hok,J.len⟩
 refine wpAny_Try_except (EA (hb (X.pn++pins) W [] s σ H D I0 hw) (fun fl s1 q=> ?_) fun e s1 q=> ?_)
 ·cases fl with
  | next=>obtain ⟨σ',H',J,q⟩:=q;exact FP ⟨σ',H',back J,q⟩
  | brk=>obtain ⟨σ',H',J,q⟩:=q;exact ⟨σ',H',back J,q⟩
  | cont=>obtain ⟨σ',H',J,q⟩:=q;exact ⟨σ',H',back J,q⟩
  | ret u=>obtain ⟨v,σ',H',J,r,q⟩:=q;exact ⟨v,σ',H',back J,r,q⟩
 ·obtain ⟨σ1,H1,s2,I2,ea,T,cls,H',rfl,os,bare,un,hok,fl,hW⟩:=q
  obtain ⟨C,rfl,hsub,hts⟩:=hh _ _ _ hW
  have noch:∀ b∈([]:List Addr),(b∈X.ex\/X.s₀.heap.objs.size<=b)/\b≠X.env.locals/\(∀ x c,X.env.cells.lookup x=some c->c≠b)/\∀ p∈(X.pn++pins)++[],p.1≠b:=fun b z=>absurd z (by simp)
  have I3:Inv { X with pn:=X.pn++pins } [] σ1 H' s1:=I2.call' (ch:=[]) os un hok bare noch
  have there:∀ b o,s2.heap.get? b=some o->∃ o',s1.heap.get? b=some o':=fun b o q=>un.there b o q (by simp)
  have step:∀ h',Az (frs X.stack) ea T s1.heap h'->Inv { X with pn:=X.pn++pins } [] σ1 H' { s1 with heap:=h' }:=fun h' tn =>
   I2.call' (ch:=[]) (s':={ s1 with heap:=h' }) os (Un.turn un tn fl.ge fl.gT (fun b hb=>hb) fun b hb nb=>absurd hb nb) (hok.turn tn fl.he fl.hT I3.stkFree) bare noch
  have fn:s1.heap.FunFrames X.base (X.env::X.outer):=hst ▸ I3.stack;obtain ⟨a0,fw⟩:=fl.flyingW (l:=X.env::X.outer) fn;have fr:X.A.frames=some (X.env::X.outer):=hst ▸ I.ok.frames
  refine wpAny_looks_onW fr hfr fw fun h4 hheld4 sm4=> ?_
  refine wpAny_landsW hheld4 fun h5 fw5 sm5=> ?_
  obtain ⟨tn5,_⟩:=nu fl (l:=X.env::X.outer) fn hok there fw5 (sm4.trans sm5);rw [<- hst] at tn5;have I5:=step h5 tn5;have I5s:Inv (iF X (X.pn++pins) ea) [] σ1 H' { s1 with heap:=h5 }:=⟨I.ok.suite _ _,I5.os,I5.bare,I5.base,I5.loc,I5.cell,I5.free,I5.freeC,I5.pin,I5.hok,I5.len⟩;obtain ⟨ob5,hob5,hoc5⟩:=fw5.there;refine wpAny_handleBy_cons (codeAny_handlers_test (hV I5s hg hD.at_ ?_ hdb)) (by intro q;cases q);refine sP I5s.kIn hob5 hoc5 hsub hD.sub hD.cls hD.ty ?_;refine codeAny_handlers_suite_as ?_
  refine lands_againW fw5 fun h6 fw6 sm6=> ?_
  obtain ⟨tn6,_⟩:=nu fl (l:=X.env::X.outer) fn hok there fw6 ((sm4.trans sm5).trans sm6);rw [<- hst] at tn6;have I6:=step h6 tn6;obtain ⟨ob,hob,hoc⟩:=fw6.there;have hok7:HOk X.prog X.w (upd H' ea (nA ea C)) h6:=HOk.track I6.hok fl.he ⟨⟨ob,hob,hoc⟩,⟨ob,hob⟩,fun h1 h2 hZ k=>(by obtain ⟨o,e,c⟩:=hZ;exact ⟨o,k o e,c⟩)⟩
  have un6:=Un.turn un tn6 fl.ge fl.gT (fun b hb=>hb) fun b hb nb=>absurd hb nb
  have un7:Un (frs X.stack) [] H1 (upd H' ea (nA ea C)) s2.heap h6 :=
   ⟨un6.keep,un6.slot,fun b o q n hx=>by rw [am (fun z=>by rw [z,fl.ge] at q;cases q)];exact un6.free b o q n hx,un6.there,
    fun b xs q=>by rw [am (aq (un6.tups b xs q) fl.he)];exact un6.tups b xs q,fun b o u q=>by rw [am (aq (un6.frzs b o u q) fl.he)];exact un6.frzs b o u q,
    fun b ps q=>by obtain ⟨m,z⟩:=un6.tbls b ps q;exact ⟨m,by rw [am (aq z fl.he)];exact z⟩⟩
  have I7:Inv { X with pn:=X.pn++pins } [] σ1 (upd H' ea (nA ea C)) { s1 with heap:=h6 }:=I2.call' (ch:=[]) (s':={ s1 with heap:=h6 }) os un7 hok7 bare noch;have I7s:Inv (iF X (X.pn++pins) ea) [] σ1 (upd H' ea (nA ea C)) { s1 with heap:=h6 }:=⟨I.ok.suite _ _,I7.os,I7.bare,I7.base,I7.loc,I7.cell,I7.free,I7.freeC,I7.pin,I7.hok,I7.len⟩;refine gg (X:=iF X (X.pn++pins) ea) I7s hN hi (.inl hlo) (v:= .ref ea) rfl (fun s8 I8=> ?_) (.inr hlo)
  refine EA (hs (X.pn++pins) ea [] s8 _ _ _ I8 (hts ea fl.he)) (fun fl s9 q=> ?_) fun _ _ z=>z.elim
  have bk2:∀ {σ':St} {H':Hp} {s':Shared},Inv (iF X (X.pn++pins) ea) [] σ' H' s'->Inv X pins σ' H' s':=fun {σ' H' s'} J =>
   ⟨I.ok,J.os,J.bare,J.base,J.loc,J.cell,J.free,J.freeC,fun p hp=>J.pin p (by simpa using hp),J.hok,J.len⟩
  cases fl with
  | next=>obtain ⟨σ9,H9,J,q⟩:=q;exact g0 (bk2 J) hN hi hlo fun s' J'=>⟨_,H9,J',q⟩
  | brk=>obtain ⟨σ9,H9,J,q⟩:=q;exact g0 (bk2 J) hN hi hlo fun s' J'=>⟨_,H9,J',q⟩
  | cont=>obtain ⟨σ9,H9,J,q⟩:=q;exact g0 (bk2 J) hN hi hlo fun s' J'=>⟨_,H9,J',q⟩
  | ret u=>obtain ⟨v,σ9,H9,J,r,q⟩:=q;exact g0 (bk2 J) hN hi hlo fun s' J'=>⟨v,_,H9,J',r,q⟩
noncomputable def tCallT(sp:Sp)(W:Value->St->Hp->Prop)(t:TA):TE:=fun σ H Q=>t σ H fun vs H1=>sp vs H1 Q fun c _ H'=>W c σ H'
theorem yI{X:Cx}{pn:List (Addr×Obj)}{W:Value->St->Hp->Prop}{e:Expr}{es:List Expr}{t:TA}{x:Str}{ps:List Str}{k:Nat}{sp:Sp}{p pos:Pos}
 (h:OkX X.prog X.w X.K X.mg X.base x ps k sp) (hr:cx k X.A) (hg:Gl X x) (ha:PA (rj X pn W) (e::es) t) (hdb:(x == ("__debug__" : Str))=false:=by decide)
 (he:starEach (e::es) X.env=(false,eval e X.env)::starEach es X.env:=by rfl) (hpl:(backTo pos (starEach es X.env)).any (·.1)=false:=by rfl):PE (rj X pn W) (.Call (.Name x p) (e::es) [] pos) (tCallT sp W t):=by
 obtain ⟨f,fd,hm,hk,hb,F⟩:=h.ex;intro pins s σ H Q I hw;refine Fw (hV I hg hm ?_ hdb);refine PySem.W.callWith_K (h₀:=X.base) I.ok.mod.kin hk (thn (ha pos pins s σ H _ I hw) fun us s1 ⟨vs,H1,I1,r,q⟩=>⟨I1.kIn,?_⟩) he hpl
 have hl:us.length=ps.length:=by rw [<- r.length];exact F.len _ _ _ _ q
 have hb':BindsTo s1 fd ⟨us,[]⟩ (ps.zip us):=by
  have:=hb s1 us I1.kIn (by simpa using hl)
  rwa [DW] at this
 refine wpAny_call (codeAny_mono (F.run X.A X.stack s1 H1 ⟨us,[]⟩ us vs Q _ hr I1.env0 hb' r q) fun r s' hq=> ?_)
 cases r with
 | error e =>
  have J:Inv { X with pn:=pn } [] σ H1 s1:=⟨I1.ok.unwish,I1.os,I1.bare,I1.base,I1.loc,I1.cell,I1.free,I1.freeC,fun p hp=>I1.pin p (Dp _ (by simpa using hp)),I1.hok,I1.len⟩;exact ⟨σ,H1,s1,J,hq⟩
 | ok fl =>
  cases fl with
  | ret u=>exact I1.after hq
  | next=>exact False.elim hq
  | brk=>exact False.elim hq
  | cont=>exact False.elim hq
structure ff(k:Nat)(A:Around):Prop where
 dp:A.depth+3 * k+5 < recursionLimit
 un:A.units+16 * k+200 < cLine
 gd:A.guards=some []
theorem cx.any{k:Nat}{A:Around}(r:cx k A):ff k A:=⟨r.dp,r.un,r.gd⟩
theorem ff.mono{j k:Nat}{A:Around}(r:ff k A)(h:j<=k):ff j A:=⟨by have:=r.dp;omega,by have:=r.un;omega,r.gd⟩
theorem ff.mark{k:Nat}{A:Around}{v:Option Value}(r:ff k A):ff k (A.mark v):=⟨r.dp,r.un,r.gd⟩
theorem ff.calm{k:Nat}{A:Around}(r:ff k A):cx k { A with handled:=none }:=⟨rfl,r.dp,r.un,r.gd⟩
abbrev vN(P:Program)(w:World)(K:FZ)(mg:Str->Option Value)(base:Heap)(N:List Str)(qual:Str)(scope:Scope)(f:Addr)(cd:Value)(A:Around)(outer:List Env)(s:Shared)(H:Hp)(E:XK):Cx :=
 { bZ CX0 P w K mg base N qual scope f cd A outer s H E with calm:=false,xe:=fun _ _=>False }
structure OkA(P:Program)(w:World)(K:FZ)(mg:Str->Option Value)(base:Heap)(x:Str)(ps:List Str)(k:Nat)(sp:Sp):Prop where
 ex:∃ f fd,mg x=some (.ref f)/\PySem.W.keepIn K (.ref f)=true/\jV K fd ps []/\(∀ vs H Q E,sp vs H Q E->vs.length=ps.length) /\
  ∀ (A:Around) (outer:List Env) (s:Shared) (H:Hp) (args:Args) (us:List Value) (vs:List V) (Q:VK) (E:XK),ff k A->xz P w K mg base A outer s H->BindsTo s fd args (ps.zip us)->aC vs us->sp vs H Q E ->
   codeAny (model P w) A (.call (.ref f) args) (CR CX0 outer P w H s Q E) s
theorem Has.okA{P:Program}{w:World}{K:FZ}{mg:Str->Option Value}{base:Heap}{x:Str}{st:Stmt}{N ps:List Str}{k:Nat}{sp:Sp}(h:Has K mg x st ps)(S:cy N ps (ah st))(len:∀ vs H Q E,sp vs H Q E->vs.length=ps.length)
 (hbody:∀ (f:Addr) (cdv:Value) (A:Around) (outer:List Env) (s:Shared) (H:Hp) (vs:List V) (Q:VK) (E:XK),ff k (A.deeper (envOfC x (ah st) s.heap.objs.size f cdv))->sp vs H Q E ->
   ∃ t,PSs (vN P w K mg base N x (ah st) f cdv A outer s H E) (bb st) t/\t { nx:=fun _ H'=>Q .non H',rt:=Q } (cQ N vs) H):OkA P w K mg base x ps (k+1) sp:=by
 obtain ⟨f,fd,F,hm,hb⟩:=h.ex;obtain ⟨oc,od,kV,doc,pm,an,cdv,ct,osl,rfl,lk,hcd⟩:=F.ex;refine ⟨f,_,hm,F.kp,hb,len,fun A outer s H args us vs Q E hr e0 hb r hsp=> ?_⟩;have hl:=len _ _ _ _ hsp
 have KX:K.In s.heap:=e0.mod.kin.keeps fun b o e=>(e0.bs b o e).1
 have lim:s.heap.NoLimit:=e0.mod.nolimit.keeps fun b o e=>(e0.bs b o e).1
 have hkind:∀ y∈ps.zip us,(ah st).names.lookup y.1=some .local\/((ah st).names.lookup y.1=some .cell/\((cellsFrom (s.heap.objs.size+1) (ah st).names []).lookup y.1).isSome=true):=fun hZ hy=>by
  obtain ⟨n,v⟩:=hZ
  rcases S.par n (FQ hy).1 with q | q
  ·exact .inl q
  ·exact .inr ⟨q,PySem.W.cellsFrom_some _ _ _ (.inl q)⟩
 refine codeAny_call_function hr.calm.depth (KX _ _ lk) rfl S.co S.gen rfl (PySem.W.codeRec_of KX hcd) (hb _ _ _ _ ?_)
 refine wpAny_newFunctionEnv_cells S.kind hkind fun env he s1 x1=> ?_
 subst he;refine ⟨lim.keeps x1.toInCall.keep,codeAny_func ?_⟩;have hrd:ff k (A.deeper (envOfC x (ah st) s.heap.objs.size f cdv)):=⟨by have:=hr.dp;show A.depth+1+3 * k+5 < _;omega,by have:=hr.un;show A.units+3+16 * k+200 < _;omega,hr.gd⟩;obtain ⟨t,ht,hq⟩:=hbody f cdv A outer s H vs Q E hrd hsp;have e0':xz P w K mg base { A with handled:=none } outer s H:=⟨e0.frames,e0.mod,e0.bs,e0.bsz,e0.funs,e0.frf,e0.hok,e0.bare⟩;have J:Inv (bZ CX0 P w K mg base N x (ah st) f cdv { A with handled:=none } outer s H E) [] (cQ N vs) H s1:=o7 S rfl e0' hl r x1
 have ok:(vN P w K mg base N x (ah st) f cdv A outer s H E).Ok :=
  ⟨J.ok.mod,J.ok.kind,J.ok.glob,J.ok.blt,J.ok.above,J.ok.inj,J.ok.has,J.ok.cab,(fun z=>by cases z),Around.frames_deeper e0.frames,J.ok.stk,J.ok.exf,J.ok.bs,J.ok.bsz,J.ok.noex,J.ok.exfs,J.ok.funs,J.ok.frf⟩
 have I:Inv (vN P w K mg base N x (ah st) f cdv A outer s H E) [] (cQ N vs) H s1:=⟨ok,J.os,J.bare,J.base,J.loc,J.cell,J.free,J.freeC,J.pin,J.hok,J.len⟩
 refine EA (ht [] s1 (cQ N vs) H _ I hq) (fun fl s' hs=> ?_) fun e s' hs=>hs.elim
 have fin:∀ {σ':St} {H':Hp} {v:V} {u:Value},Inv (vN P w K mg base N x (ah st) f cdv A outer s H E) [] σ' H' s'->aG v u->Q v H'->CE outer P w H s Q u s' :=
  fun {σ' H' v u} J rv q=>⟨v,H',J.os,J.bare,J.base,J.hok,rv,q⟩
 cases fl with
 | ret u =>
  obtain ⟨v,σ',H',J,rv,q⟩:=hs;exact fin J rv q
 | next =>
  obtain ⟨σ',H',J,q⟩:=hs;exact fin (v:=V.non) (u:=Value.none) J rfl q
 | brk =>
  obtain ⟨_,_,_,q⟩:=hs;exact False.elim q
 | cont =>
  obtain ⟨_,_,_,q⟩:=hs;exact False.elim q
theorem yJ{X:Cx}{e:Expr}{es:List Expr}{t:TA}{x:Str}{ps:List Str}{k:Nat}{sp:Sp}{p pos:Pos}(h:OkA X.prog X.w X.K X.mg X.base x ps k sp)(hr:ff k X.A)(hg:Gl X x)(ha:PA X (e::es) t)(hdb:(x == ("__debug__" : Str))=false:=by decide)
 (he:starEach (e::es) X.env=(false,eval e X.env)::starEach es X.env:=by rfl) (hpl:(backTo pos (starEach es X.env)).any (·.1)=false:=by rfl):PE X (.Call (.Name x p) (e::es) [] pos) (u5 sp [] E0 t):=by
 obtain ⟨f,fd,hm,hk,hb,hlen,F⟩:=h.ex;intro pins s σ H Q I hw;refine Fw (hV I hg hm ?_ hdb);refine PySem.W.callWith_K (h₀:=X.base) I.ok.mod.kin hk (thn (ha pos pins s σ H _ I hw) fun us s1 ⟨vs,H1,I1,r,q⟩=>⟨I1.kIn,?_⟩) he hpl;have q:sp (vs++[]) H1 Q E0:=q;rw [DW] at q
 have hl:us.length=ps.length:=by rw [<- r.length];exact hlen _ _ _ _ q
 have hb':BindsTo s1 fd ⟨us,[]⟩ (ps.zip us):=by
  have:=hb s1 us I1.kIn (by simpa using hl)
  rwa [DW] at this
 refine wpAny_call (codeAny_mono (F X.A X.stack s1 H1 ⟨us,[]⟩ us vs Q _ hr I1.env0 hb' r q) fun r s' hq=> ?_)
 cases r with
 | error e=>exact hq.elim
 | ok fl =>
  cases fl with
  | ret u=>exact I1.after hq
  | next=>exact False.elim hq
  | brk=>exact False.elim hq
  | cont=>exact False.elim hq
section
variable{X:Cx}
theorem nF{x:V}:∀ {xs:List V} {us:List Value},aC xs us->xs.all fW=true->us.countP (eqU x)=xs.countP fun y=>eqV y x
 | _,_,.nil,_=>rfl
 | y::xs,u::us,.cons r t,f=>by
  rw [FO,DK] at f;rw [List.countP_cons,List.countP_cons,uB r f.1,nF t f.2]
noncomputable def rCount:V->List V->Hp->VK->Prop:=fun x vs H Q=>∃ l xs y,x = .ref l/\vs=[y]/\H l=some (.lst xs)/\fW y=true/\xs.all fW=true/\Q (.int ((xs.countP fun z=>eqV z y):Nat)) H
theorem zf:MtM X "list.count" rCount:=by
 intro pins s σ H x vs v us Q I rx rv h;obtain ⟨l,xs,y,rfl,rfl,hH,fy,fs,q⟩:=h;cases rx;obtain ⟨u,rfl,ru⟩:=rv.one;obtain ⟨z,its,n,r,hl,e⟩:=I.lstM hH;refine call_meets F.slot_list_count ⟨_,e,rfl⟩ F.entry_list_count (F.args_list_count_2 _ _) (SeqAt.list_countAt l its.toArray n none #[] u (eqU y)) ⟨e,fun w hw=>mT ru fy r fs w (by simpa using hw),?_⟩;refine ⟨.int _,H,I.tok _,⟨_,rfl⟩,?_⟩;rw [List.toList_toArray,nF r fs];exact q
theorem vK{y:V}{xs:List V}{us:List Value}(r:aC xs us)(f:xs.all fW=true)(m:Nat)(h1:m < us.toArray.size)(h2:m < xs.length):eqU y us.toArray[m]=eqV xs[m] y:=by
 obtain ⟨u,e,ru⟩:=r.get (i:=m) (Dm h2)
 have hm:m < us.length:=by simpa using h1
 rw [Dm hm] at e
 have:us.toArray[m]=u:=by simpa using Option.some.inj e
 rw [this];exact uB ru (DJ.mp f _ (EJ h2))
noncomputable def rIndex:V->List V->Hp->VK->Prop:=fun x vs H Q=>∃ l xs y j,x = .ref l/\vs=[y]/\H l=some (.lst xs)/\fW y=true/\xs.all fW=true/\(∃ h:j < xs.length,eqV xs[j] y=true)/\(∀ m (hm:m < xs.length),m < j->eqV xs[m] y=false)/\Q (.int (j:Nat)) H
theorem ze:MtM X "list.index" rIndex:=by
 intro pins s σ H x vs v us Q I rx rv h;obtain ⟨l,xs,y,j,rfl,rfl,hH,fy,fs,⟨hj,hit⟩,hno,q⟩:=h;cases rx;obtain ⟨u,rfl,ru⟩:=rv.one;obtain ⟨z,its,n,r,hl,e⟩:=I.lstM hH
 have hz:sizeLine < 2 ^ 63 - 1:=by decide
 refine call_meets F.slot_list_index ⟨_,e,rfl⟩ F.entry_list_index (F.args_list_index_2 _ _) (SeqAt.list_indexAt l its.toArray n none #[] u (eqU y) j (by simp;omega) (by omega)
  (by rw [vK r fs j (by simp;omega) hj];exact hit) (fun m hm h2=>by rw [vK r fs m hm (by simp at hm;omega)];exact hno m _ h2)) ⟨e,fun w hw=>mT ru fy r fs w (by simpa using hw),?_⟩
 exact ⟨.int _,H,I.tok _,⟨_,rfl⟩,q⟩
end
end L2
namespace EnT
open PySem PySem.Spec PyProof.Rows
open AutoSeq1 (wpAny_loadPart')
theorem kc(l:Addr)(items:Array Value)(n:Nat)(dct:Option Addr)(sl:Array (Option Value)) :
 Meets (Builtin.«enumerate.__new__» ⟨[.type "enumerate",.ref l],[]⟩) (fun _ R s=>s.heap.get? l=some { cls:= .type "tuple",dict:=dct,data:= .seq items n,slots:=sl } /\
  R (.ok (.ret (.ref (s.heap.push { cls:= .type "tuple_iterator",data:= .fields #[.ref l,.int 0 0] }).objs.size)))
   { s with heap:=(s.heap.push { cls:= .type "tuple_iterator",data:= .fields #[.ref l,.int 0 0] }).push { cls:= .type "enumerate",data:= .fields #[.none,.bool false,.ref s.heap.objs.size,rawInt 0,.none,.none] } }) :=
 .of_wp fun prog w A R s h=>by
  obtain ⟨hp,g,d,tk,os⟩:=s;obtain ⟨hl,h⟩:=h;have hsub:=sub_enumerate;have hL:Heap.IsTuple (Shared.heap ⟨hp,g,d,tk,os⟩) l items:=⟨_,hl,rfl,n,rfl⟩
  wp_walk using ED hl
  refine wpAny_stack_any fun st=>Ds ?_
  split
  ·rename_i c _ _ _ _ _
   cases (c == Value.type "enumerate")
   ·wp_walk using ED hl,DZ hL
    exact ⟨_,rfl,h⟩
   ·wp_walk using ED hl,DZ hL
    exact ⟨_,rfl,h⟩
  ·wp_walk using ED hl,DZ hL
   exact ⟨_,rfl,h⟩
section
variable{prog:Program}{w:World}{A:Around}{E:Value->Shared->Prop}{s:Shared}
theorem nK{l:Addr}{items:Array Value}{Q:Value->Shared->Prop}(hL:s.heap.IsTuple l items)
 (h:∀ h',IsEnum h' (s.heap.objs.size+1) s.heap.objs.size 0 .none->h'.IsTupleIter s.heap.objs.size l 0->h'.objs.size=s.heap.objs.size+2 ->
   (∀ b o,s.heap.get? b=some o->h'.get? b=some o)->Q (.ref (s.heap.objs.size+1)) { s with heap:=h' }) :
 wpAny (model prog w) A (call (.type "enumerate") [.ref l]) Q E s:=by
 obtain ⟨⟨c,dct,dt,sl⟩,hl,hc,n,hd⟩:=hL
 replace hc:c = .type "tuple" := hc
 replace hd:dt = .seq items n:=hd
 subst hc hd
 refine callType_new F.called_enumerate (by decide) (F.typeCall_enumerate_1 _) (F.newCall_enumerate_1 _) (fun obj=>F.args_object_init_2 obj _) F.entry_enumerate_new
  (kc l items n dct sl) ⟨hl,?_⟩
 have hz:(s.heap.push { cls:= .type "tuple_iterator",data:= .fields #[.ref l,.int 0 0] }).objs.size=s.heap.objs.size+1:=DY ..
 show _/\_
 rw [hz]
 have he:IsEnum ((s.heap.push { cls:= .type "tuple_iterator",data:= .fields #[.ref l,.int 0 0] }).push
  { cls:= .type "enumerate",data:= .fields #[.none,.bool false,.ref s.heap.objs.size,rawInt 0,.none,.none] }) (s.heap.objs.size+1) s.heap.objs.size 0 .none:=by
  have:=Dw (s.heap.push { cls:= .type "tuple_iterator",data:= .fields #[.ref l,.int 0 0] })
   (o:={ cls:= .type "enumerate",data:= .fields #[.none,.bool false,.ref s.heap.objs.size,rawInt 0,.none,.none] }) rfl
  rw [hz] at this;exact this
 refine ⟨⟨_,he,rfl⟩,h _ he ⟨_,Dk _ (Dw _ rfl),rfl,rfl⟩ (by rw [DY,hz]) fun b o x=>Dk _ (Dk _ x)⟩
theorem ft{it l:Addr}{i:Nat}{items}{x:Value}{Q:Value->Shared->Prop}(hit:s.heap.IsTupleIter it l i)
 (hl:s.heap.IsTuple l items) (hx:items[i]?=some x)
 (hQ:∀ h',h'.IsTupleIter it l (i+1)->Heap.SameBut it s.heap h'->Q x { s with heap:=h' }) :
 wpAny (model prog w) A (Builtin.SmallTypes.nextOf (.ref it)) Q E s:=by
 obtain ⟨o,ho,hc,hd⟩:=id hit;obtain ⟨ol,hol,_,nl,hdl⟩:=hl;unfold Builtin.SmallTypes.nextOf
 refine Dj (Ea (name:=Str.ofString "__next__") hit.typeIs F.slot_tuple_iterator_next
  (En F.slot_tuple_iterator_next hit.typeIs F.entry_tuple_iterator_next ?_ (F.args_tuple_iterator_next_1 _)))
 show wpAny _ _ (field (.ref it) 0 >>= _) _ _ s
 refine Dj (EE ho hd (x:= .ref l) rfl ?_)
 show wpAny _ _ (if (Value.ref l == Value.none)=true then _ else _) _ _ s
 rw [if_neg (show ¬ ((Value.ref l == Value.none)=true) from DB)]
 show wpAny _ _ (field (.ref it) 1 >>= _) _ _ s
 refine Dj (EE ho hd (x:= .int i 0) rfl ?_)
 show wpAny _ _ (seqItems? (.ref l) >>= _) _ _ s
 refine Dj (Fl hol hdl ?_);simp only [FG,hx];refine Dj (EZ ho hd (by simp) (Ds ⟨x,rfl,Ds (hQ _ ?_ (Heap.SameBut.update ..))⟩))
 exact ⟨_,EC _ ho (Obj.isFreed_of_fields (FV hd _)),(Obj.cls_mapFields ..).trans hc,by
  rw [FV hd];simp [rawInt]⟩
theorem gy{it l:Addr}{i:Nat}{items}{Q:Value->Shared->Prop}(hh:A.handled=none)
 (hit:s.heap.IsTupleIter it l i) (hl:s.heap.IsTuple l items) (hx:items[i]?=none)
 (hE:∀ h' e,Heap.ExtBut it s.heap h'->(∃ o,h'.get? e=some o/\o.cls = .type "StopIteration")->E (.ref e) { s with heap:=h' }) :
 wpAny (model prog w) A (Builtin.SmallTypes.nextOf (.ref it)) Q E s:=by
 obtain ⟨o,ho,hc,hd⟩:=id hit;obtain ⟨ol,hol,_,nl,hdl⟩:=hl;unfold Builtin.SmallTypes.nextOf
 refine Dj (Ea (name:=Str.ofString "__next__") hit.typeIs F.slot_tuple_iterator_next
  (En F.slot_tuple_iterator_next hit.typeIs F.entry_tuple_iterator_next ?_ (F.args_tuple_iterator_next_1 _)))
 show wpAny _ _ (field (.ref it) 0 >>= _) _ _ s
 refine Dj (EE ho hd (x:= .ref l) rfl ?_)
 show wpAny _ _ (if (Value.ref l == Value.none)=true then _ else _) _ _ s
 rw [if_neg (show ¬ ((Value.ref l == Value.none)=true) from DB)]
 show wpAny _ _ (field (.ref it) 1 >>= _) _ _ s
 refine Dj (EE ho hd (x:= .int i 0) rfl ?_)
 show wpAny _ _ (seqItems? (.ref l) >>= _) _ _ s
 refine Dj (Fl hol hdl ?_);simp only [FG,hx];refine Dj (wpAny_rule (Dj (EZ ho hd (by simp) ?_)))
 show wpAny _ _ (newExc (.type "StopIteration") [] >>= _) _ _ _
 refine Dj ?_;simp only [newExc,newTuple];refine Dj (Eg ?_ (by size_fits));refine Dj (m:=firstArgMember _ _) (wpAny_of_eq (a:=Value.none) (by first | rfl | (simp only [firstArgMember];rfl)) ?_);refine Eg ?_ (by size_fits);simp only [raiseNew];refine Dj (wpAny_handled ?_)
 first | rw [show A.in1.handled=none from hh] | rw [hh]
 refine Dj (Ds (wpAny_throw ?_));exact hE _ _ (((Heap.SameBut.update ..).extBut.push _).push _) ⟨_,Dw _ rfl,rfl⟩
end
end EnT
namespace L2
open PySem PySem.Spec PyProof.Rows
section
variable{X:Cx}
end
end L2
namespace XK
open PySem PySem.W PySem.Spec PySem.Calls PyProof.Rows PySem.Builtin PySem.Builtin.ObjectAttr PySem.Builtin.Getset_descriptor
structure tN(K:Frag)(C:Addr):Prop where
 ga:findIn K (.ref C) "__getattribute__" = some (some (.builtin "BaseException.__getattribute__"))
 gh:findIn K (.ref C) "__getattr__" = some none
 sub:mroIn K C (.type "BaseException")=some true
 cl:findIn K (.ref C) "__class__" = some (some (.builtin "object.__class__"))
 ob:mroIn K C (.type "object")=some true
 cls:(clsIn K C).isSome=true
section
variable{prog:Program}{w:World}{A:Around}{E:Value->Shared->Prop}{h:Heap}{g:Array GenState}{d:Drawn}{t:Nat}{os:OsState}{a:Addr}{o:Obj}{C:Addr}{K:Frag}
theorem ty(hx:h.get? a=some o)(hc:o.cls = .ref C){M:Model}:Looks M h (typeOf (.ref a)) (.ref C):=hc ▸ (Looks.ld hx).andThen .now
theorem get_{tp:Value}{R:Result->Shared->Prop}(X:K.In h)(hx:h.get? a=some o)(hc:o.cls = .ref C)(k:tN K C)(hq:R (.ok (.ret (.ref C))) ⟨h,g,d,t,os⟩) :
 codeAny (model prog w) A (.call (.builtin "getset_descriptor.__get__") ⟨[.builtin "object.__class__",.ref a,tp],[]⟩) R ⟨h,g,d,t,os⟩:=by
 have L0:=ty (M:=model prog w) hx hc;have L1:=looks_mroIn (M:=model prog w) X k.ob;refine codeAny_call_builtin KF.slot_gs.plain KF.entry_gs (KF.slot_gs.check _ _ _ _ _ _ _ _ KF.type_class (KF.args_gs _ _ _) ?_);unfold Builtin.«getset_descriptor.__get__» descrGet;rw [dga_obj];refine Dj (Ds ?_);unfold descrGetter descrCheckInstance descrNameAndClass isInstance;simp only [KF.owner_class]
 repeat lk
 refine ⟨Code.quiet_builtin _ (by decide +kernel),codeAny_builtin KF.entry_class ?_⟩;unfold Builtin.«object.__class__» shownTypeOf
 repeat lk
 exact hq
theorem entry_{tk:Tok}{Q:Fin->Shared->Prop}(X:K.In h)(hx:h.get? a=some o)(hc:o.cls = .ref C)(k:tN K C)(hq:Q (.done (.ret (.ref C))) ⟨h,g,d,t,os⟩) :
 wpAny (model prog w) A (Builtin.«object.__getattribute__» ⟨[.ref a,.str "__class__" tk],[]⟩) Q E ⟨h,g,d,t,os⟩:=by
 have hT5:(⟨h,g,d,t,os⟩:Shared).TypeIs (.builtin "object.__class__") "getset_descriptor" := F.typeOf_object_class;have L0:=ty (M:=model prog w) hx hc;have L4:=looks_findIn (M:=model prog w) X k.cl;have f5:=F.typeOf_object_class;have f6:=F.slot_gs_get.lookup;have f7:=F.slot_gs_set.lookup
 repeat (any_goals (first | assumption | with_reducible refine Looks.at L0 ?_ | with_reducible refine Looks.at L4 ?_ | wp_step))
 refine get_ X hx hc k ?_
 repeat (any_goals (first | assumption | wp_step))
theorem check_{M:Model}{nameV:Value}{Q:Unit->Shared->Prop}(X:K.In h)(hx:h.get? a=some o)(hc:o.cls = .ref C)(k:tN K C)(hq:Q () ⟨h,g,d,t,os⟩):wpAny M A (checkBuiltinCall "BaseException.__getattribute__" ⟨[.ref a,nameV],[]⟩) Q E ⟨h,g,d,t,os⟩:=by
 have hk:builtinKind "BaseException.__getattribute__" = some .slot:=by decide +kernel
 have hsplit:splitId "BaseException.__getattribute__" = some ("BaseException", "__getattribute__"):=by decide +kernel
 have L0:=ty (M:=M) hx hc;have L3:=looks_mroIn (M:=M) X k.sub;have ha:=F.args_bexc_ga (.ref a) nameV;simp only [checkBuiltinCall,hk,hsplit];refine Dj ?_;unfold isInstance
 repeat (first | with_reducible refine Looks.at L0 ?_ | with_reducible refine Looks.at L3 ?_ | wp_step)
 exact hq
theorem by_{tk:Tok}{fill expr:Bool}{Q:Value->Shared->Prop}(X:K.In h)(hx:h.get? a=some o)(hc:o.cls = .ref C)(k:tN K C)(hq:Q (.ref C) ⟨h,g,d,t,os⟩) :
 wpAny (model prog w) A (getAttrBy (.ref a) (.str "__class__" tk) fill expr) Q E ⟨h,g,d,t,os⟩:=by
 have f3:=F.excAttr_ValueError.ga.bind (.ref a)
 have hx0:(expr&&onTheHeap (Value.builtin "BaseException.__getattribute__"))=false:=by cases expr<;>rfl
 have hx2:(Value.builtin "BaseException.__getattribute__" == Value.builtin "object.__getattribute__")=false:=by decide +kernel
 have hx1:(onTheHeap (Value.ref C)&&Value.builtin "BaseException.__getattribute__" == Value.builtin "object.__getattribute__")=false:=by rw [hx2];rfl
 have L0:=ty (M:=model prog w) hx hc;have L1:=looks_findIn (M:=model prog w) X k.ga;have L2:=looks_findIn (M:=model prog w) X k.gh
 repeat (any_goals (first | assumption | with_reducible refine Looks.at L0 ?_ | with_reducible refine Looks.at L1 ?_ | with_reducible refine Looks.at L2 ?_ | wp_step))
 refine codeAny_call_builtin F.excAttr_ValueError.ga.plain F.entry_bexc_ga (check_ X hx hc k (entry_ X hx hc k ?_))
 repeat (any_goals (first | assumption | wp_step))
theorem attr_{Q:Option Value->Shared->Prop}(X:K.In h)(hx:h.get? a=some o)(hc:o.cls = .ref C)(k:tN K C)(hq:Q (some (.ref C)) ⟨h,g,d,t+1,os⟩):wpAny (model prog w) A (getAttr? (.ref a) "__class__") Q E ⟨h,g,d,t,os⟩:=by
 unfold getAttr? getAttrBy?
 repeat (any_goals (first | assumption | with_reducible apply by_ X hx hc k | wp_step))
end
theorem kitx{K:Frag}{a C:Addr}(k:tN K C):KitX K (.ref a) (.ref C) (fun h=>∃ o,h.get? a=some o/\o.cls = .ref C) where
 ty:=fun M h X hZ=>(by obtain ⟨o,hx,hc⟩:=hZ;exact ty hx hc)
 it:=fun M h X _=>by
  have z:=k.cls;unfold clsIn at z
  split at z
  ·rename_i c' d' cd' sl' ho
   intro A' Q' E' s' k q;unfold isType loadHead;exact Dj (wpAny_loadPart (k _ _ (X _ _ ho)) (Ds q))
  ·cases z
 ne:=fun h tp dd its n sl X htp=>by
  have z:=k.cls
  refine Bool.eq_false_iff.mpr fun q=> ?_
  have e:C=tp:=Value.ref.inj (beq_iff_eq.mp q);subst e;unfold clsIn at z
  split at z
  ·rename_i c' d' cd' sl' ho
   have z:=(X _ _ ho).symm.trans htp;cases z
  ·cases z
 ca:=fun {prog w A E Q s} X p h=>by
  obtain ⟨hp,g,d,t,os⟩:=s;obtain ⟨o,hx,hc⟩:=p;exact attr_ X hx hc k h
end XK
namespace L2
open PySem PySem.Spec PyProof.Rows
section
variable{X:Cx}{e:Expr}{te:TE}{x:Str}{p1 p2 pos:Pos}
noncomputable def rIsx(K:FZ):List V->Hp->VK->Prop:=fun xs H Q=>∃ ea C c u b,xs=[.ref ea,c]/\H ea=some (nA ea C)/\XK.tN K C/\aG c u/\PySem.W.kitOne K (.ref C) u=some b/\Q (.bl b) H
theorem tw:aH X (.builtin "isinstance") (rIsx X.K):=by
 intro pins s σ H xs us Q I r h;obtain ⟨ea,C,c,u,b,rfl,hH,k,rc,e,q⟩:=h;obtain ⟨v,u',rfl,rv,ru⟩:=oD r;cases rv
 have hu:u'=u:=by
  cases c with
  | ref a=>exact (show u' = .ref a from ru).trans (show u = .ref a from rc).symm
  | ty n=>exact (show u' = .type n from ru).trans (show u = .type n from rc).symm
  | non=>exact (show u' = .none from ru).trans (show u = .none from rc).symm
  | bl a=>exact (show u' = .bool a from ru).trans (show u = .bool a from rc).symm
  | int i=>exfalso;obtain ⟨t,rfl⟩:=rc;unfold PySem.W.kitOne PySem.W.kitCls at e;simp at e
  | str i=>exfalso;obtain ⟨t,rfl⟩:=rc;unfold PySem.W.kitOne PySem.W.kitCls at e;simp at e
  | byt i=>exfalso;obtain ⟨t,rfl⟩:=rc;unfold PySem.W.kitOne PySem.W.kitCls at e;simp at e
  | flt i=>exfalso;obtain ⟨t,rfl⟩:=rc;unfold PySem.W.kitOne PySem.W.kitCls at e;simp at e
 subst hu;have ho:∃ o,s.heap.get? ea=some o/\o.cls = .ref C:=(I.hok ea _ hH).1
 exact PySem.W.kia_one (XK.kitx k) I.kIn ho e (fun z=>nomatch z) fun tk=>⟨.bl b,H,I.tok tk,rfl,q⟩
end
section
variable{X:Cx}
theorem mB{elt tg iter:Expr}{ifs:List Expr}{sc:Scope}{M tgs:List Str}{pos:Pos}{wi:TI}{g:TG}{tt:TT}{te:TE}{j:Nat}{y:Str}{py spos:Pos}(hc:X.calm=true)(B:nW X sc M tgs)(hi:PI X tg iter wi)
 (hg:∀ cl C fp s H,PG (blk X sc cl C fp s H (M++tgs)) tg g) (ht:∀ cl C fp s H,xy (blk X sc cl C fp s H (M++tgs)) ifs tt) (he:∀ cl C fp s H,PE (blk X sc cl C fp s H (M++tgs)) elt te)
 (hN:X.N.Nodup) (hjy:X.N[j]?=some y) (hy:X.env.scope.names.lookup y=some .local) (hsw:swapsWith (.ListComp elt [⟨tg,iter,ifs,0⟩] sc pos) (some (.Name y py)) spos.line X.env=pure true:=by rfl)
 (hs:∀ x,foldedSetIterable iter X.env x=pure x:=by intro _;rfl):PS X (.Assign [.Name y py] (.ListComp elt [⟨tg,iter,ifs,0⟩] sc pos) spos) (tAsg (rE wi tgs.length g tt te) (vJ j)):=by
 intro pins s σ H Dn I h
 let Q:VK:=fun x H1=>Dn.nx (σ.set j (some x)) H1
 have h:rE wi tgs.length g tt te σ H Q:=h;rw [exec_Assign_Name_used _ _ _ _ hsw];refine Dj (wpAny_standAt (Dj ?_));refine Dj (EA (pj (use:=some (assign (.Name y py) X.env)) (Qf:=fun _ s'=>SP X pins Dn .next s') hc B hi hg ht he hs I h fun C D m s6 H' I8 hn hC hLC hsz hcC hp q f=> ?_) (fun _ s' hq=>Ds (Ds hq)) fun _ _ e=>e)
 show wpAny _ _ (assign (.Name y py) X.env (.ref D)) _ _ _
 refine wpAny_assign_Name (oI I8 hN hjy (.inl hy) (v:= .ref D) rfl (fun s9 I9 hsb=> ?_) (.inr hy));obtain ⟨a,sb,ha⟩:=hsb
 have haC:C≠a:=by
  rcases ha with rfl | ha
  ·exact E7 hLC
  ·exact Ne.symm (hcC _ _ ha)
 exact ⟨m,hn.sameBut sb haC,fun h' hs'=>⟨_,H',I9.turned (t':=s9.toks) (it:=C) (fun b o hb e=>(hs'.2 b hb).trans e) hC (E7 hLC) (.inr hsz) hcC hp,q⟩⟩
end
section
variable{X:Cx}
noncomputable def iN(K:FZ):List V->Hp->(V->Hp->Prop)->Prop:=fun xs H Q=>∃ (p:Addr) (ns:List Int),xs=[V.ref p]/\SqL K H p (ns.map V.int)/\ns.length < 64 /\
 ∀ l (ms:List Int),H l=none->List.Perm ms ns->ms.Pairwise (·<= ·)->Q (.ref l) (upd H l (.lst (ms.map V.int)))
theorem kt{us:List Value}{ns:List Int}(h:IntsAre us ns):aC (ns.map V.int) us:=by
 induction h with
 | nil=>exact .nil
 | cons a t _ ih=>exact .cons ⟨t,rfl⟩ ih
theorem qM:aH X (.builtin "sorted") (iN X.K):=by
 intro pins s σ H xs us Q I r h;obtain ⟨p,ns,rfl,hq,h64,q⟩:=h;obtain ⟨u,rfl,ru⟩:=bT r;cases ru;obtain ⟨its,rv,pl,hz⟩:=I.list hq;have hlen:=rv.length;rw [Do] at hlen
 refine sorted_ints pl.isList (dw rv) (by omega) fun out ms hi hp hs=> ?_
 have hf:H (s.heap.objs.size+1)=none:=I.hok.fresh (Nat.le_succ _);obtain ⟨e,he⟩:=sortedAll_at s.heap its out;refine ⟨.ref (s.heap.objs.size+1),upd H (s.heap.objs.size+1) (.lst (ms.map V.int)),I.laid (t':=s.toks) (fun b o=>sortedAll_old) (Nat.le_succ _) ⟨?_,out.toList,e,kt hi,by simpa using he⟩,rfl,q _ _ hf hp hs⟩;rw [Do,hp.length_eq]
 rwa [Do] at hz
noncomputable def mq:List V->Hp->(V->Hp->Prop)->Prop:=fun xs H Q=>∃ (p:Addr) (lo hi:Int),xs=[V.ref p]/\H p=some (.rng lo hi) /\ -(2 ^ 62)<=lo/\lo < 2 ^ 62 /\ -(2 ^ 62)<=hi/\hi < 2 ^ 62/\(hi - lo).toNat<=1000 /\
 ∀ l,H l=none->Q (.ref l) (upd H l (.lst ((List.range (hi - lo).toNat).map fun k=>V.int (lo+(k:Nat)))))
theorem gc:∀ {xs:List V} {us:List Value},xs.length=us.length->(∀ (i:Nat) (x:V) (u:Value),xs[i]?=some x->us[i]?=some u->aG x u)->aC xs us
 | [],[],_,_=> .nil
 | x::xs,u::us,h,q=> .cons (q 0 x u rfl rfl) (gc (by simpa using h) fun i x' u' h1 h2=>q (i+1) x' u' (by simpa using h1) (by simpa using h2))
 | [],_::_,h,_=>by simp at h
 | _::_,[],h,_=>by simp at h
theorem uM(hc:X.calm=true):aH X (.type "list") mq:=by
 intro pins s σ H xs us Q I r h;obtain ⟨p,lo,hi,rfl,hp,h1,h2,h3,h4,hn,q⟩:=h;obtain ⟨u,rfl,ru⟩:=bT r;cases ru;obtain ⟨t,u,v,e⟩:=(show bA X.prog X.w H s.heap p (.rng lo hi) from I.hok p _ hp)
 have hsz:Builtin.Range.rangeSize lo hi 1=((hi - lo).toNat:Nat):=by rw [rangeSize_one];split<;>omega
 refine call_list_range (n:=(hi - lo).toNat) (I.ok.hd hc) (show IsRange s.heap p lo hi 1 t u v from e) (small_one h1 h2 h3 h4) hsz (by omega) fun h' tk acc c hk hS hacc=> ?_
 have hf:H s.heap.objs.size=none:=I.hok.fresh (Dy _);refine ⟨.ref s.heap.objs.size,_,I.laid (o:= .lst ((List.range (hi - lo).toNat).map fun k=>V.int (lo+(k:Nat)))) hk (Dy _) ⟨?_,acc.toList,c,gc ?_ ?_,by simpa using hS⟩,rfl,q _ hf⟩
 ·rw [Do,ET];exact EV (cw hn)
 ·rw [Do,ET,Em,hacc.1]
 ·intro i x w hx hw
  rw [DM] at hx;obtain ⟨k,hk',rfl⟩:=Ee.mp hx
  have ek:i=k:=by
   rw [DA] at hk';obtain ⟨z,e⟩:=hk';simpa using e
  subst ek;obtain ⟨t',rfl⟩:=hacc.2 i w (by simpa using hw);refine ⟨t',?_⟩;rw [Int.mul_one]
end
theorem ue:fillsNumberSlot (.type "tuple") "mul" = pure false :=
 PySem.fillsNumberSlot_seq (id := "tuple.__mul__") (r:=some (.builtin "tuple.__rmul__")) F.slot_tuple_mul.lookup (by decide +kernel) F.slot_tuple_rmul.lookup (by decide +kernel)
theorem t7:seqRepeat? (.type "tuple")=pure (some (.builtin "tuple.__mul__")):=by
 unfold seqRepeat?;rw [PySem.seqSlot_of (T := "tuple") (name := "__mul__") F.slot_tuple_mul.lookup (by decide +kernel),PySem.seqSlot_of (T := "tuple") (name := "__rmul__") F.slot_tuple_rmul.lookup (by decide +kernel)];rfl
theorem yd(a:Int)(t:Tok)(l:Addr)(items:Array Value)(n:Nat)(dd:Option Addr)(sl:Array (Option Value)):Meets (Builtin.«int.__rmul__» ⟨[.int a t,.ref l],[]⟩) (fun _ R s=>s.heap.get? l=some ⟨.type "tuple",dd,.seq items n,sl⟩/\R (.ok (.ret Value.notImplemented)) s) :=
 .of_wp fun prog w A R s h=>by
  obtain ⟨hp,g,d,tk,os⟩:=s;obtain ⟨hl,h⟩:=h
  wp_walk
  exact ⟨_,rfl,h⟩
theorem zd(l:Addr)(items:Array Value)(n:Nat)(dd:Option Addr)(sl:Array (Option Value))(x:Int)(u:Tok)(h1:2<=x)(h2:items.size * x.toNat<=sizeLine)(h3:items.isEmpty=false):Meets (Builtin.«tuple.__mul__» ⟨[.ref l,.int x u],[]⟩) (fun _ R s=>s.heap.get? l=some ⟨.type "tuple",dd,.seq items n,sl⟩ /\
 R (.ok (.ret (.ref s.heap.objs.size))) { s with heap:=s.heap.push { cls:= .type "tuple",data:= .seq (List.foldl (fun x1 x2=>x1++x2) #[] (List.replicate x.toNat items)) } }) :=
 .of_wp fun prog w A R s h=>by
  have p1:0 < items.size:=by
   rcases Nat.eq_zero_or_pos items.size with z | z
   ·rw [Array.isEmpty,z] at h3;cases h3
   ·exact z
  have hz:=sizeLine_eq;have h4:x.toNat<=sizeLine:=Eu (Nat.le_mul_of_pos_left _ p1) h2
  have h5:(items.size:Int) * x<=(sizeLine:Nat):=by
   have e:x=((x.toNat:Nat):Int):=by omega
   rw [e,<- Int.natCast_mul];exact Int.ofNat_le.mpr h2
  have c0:¬(decide (x < -2 ^ 63)||decide (x>=2 ^ 63))=true:=by
   rw [DO (by omega),DO (by omega)];decide
  have c1:¬(items.isEmpty||x == 1)=true:=by
   rw [h3,Fk,beq_iff_eq];omega
  have c2:¬(decide (x<=0)||items.isEmpty)=true:=by
   rw [h3,DO (by omega)];decide
  have c3:¬ (items.size:Int) * x > (2 ^ 63 - 1) / 8:=by
   rw [hz] at h5
   have:((16777216:Nat):Int)<=(2 ^ 63 - 1) / 8:=by decide
   omega
  have c4:¬ Builtin.Tuple.tupleTooMany ((items.size:Int) * x)=true:=by
   show ¬ decide ((items.size:Int) * x > (sizeLine:Nat))=true
   rw [DO (by omega)]
   decide
  have c5:(List.foldl (fun x1 x2=>x1++x2) #[] (List.replicate x.toNat items)).size<=sizeLine:=by
   have:=h9 items.toList x.toNat [];rw [DX,Array.toArray_toList] at this;rw [this,Du,qA,Em,Nat.mul_comm];exact h2
  obtain ⟨hp,g,d,tk,os⟩:=s;obtain ⟨hl,h⟩:=h;have f1:=AutoSeq1.idx_int
  wp_walk using AutoSeq1.wpAny_loadPart' hl
  rw [if_neg c0]
  wp_walk using AutoSeq1.wpAny_loadPart' hl
  rw [if_neg c1]
  wp_walk using AutoSeq1.wpAny_loadPart' hl
  rw [if_neg c2]
  wp_walk using AutoSeq1.wpAny_loadPart' hl
  rw [if_neg c3]
  wp_walk using AutoSeq1.wpAny_loadPart' hl
  rw [if_neg (Nat.not_lt.mpr c5)]
  wp_walk using AutoSeq1.wpAny_loadPart' hl
  exact ⟨_,rfl,h⟩
end L2
namespace St2
open PySem PyProof.Rows
abbrev eI(ns:List Int)(k:Nat):List Int:=firstMet (fun j=>ns.getD j 0) k
abbrev gA(led:Bool):Obj:={ cls:= .type "set",dict:=none,data:= .set #[] 0 (.fresh 0 0 led) }
section
variable{prog:Program}{w:World}{A:Around}{E:Value->Shared->Prop}{s:Shared}
theorem wa{a:Addr}{its:Array Value}{ns:List Int}{Q:Value->Shared->Prop}(calm:A.handled=none)(tu:IsTup s.heap a its)(inz:IntsAre its.toList ns)(few:its.size+1 < scanBound)
 (q:∀ (h':Heap) (tk:Nat),h'.SetOf (intKind prog w) s.heap.objs.size (fun x=>(eI ns its.size).any (·== x)) (eI ns its.size).length->(∀ b o,b < s.heap.objs.size->s.heap.get? b=some o->h'.get? b=some o)->Q (.ref s.heap.objs.size) { s with heap:=h',toks:=tk }) :
 wpAny (model prog w) A (call (.type "set") [.ref a]) Q E s:=by
 obtain ⟨c0,tl0,mro0⟩:=F.called_set.mro;have m1:=F.called_set.made;have m2:=F.called_set.sub;have m3:=F.called_set.notType;have m4:=F.called_set.canCreate;have m5:=F.typeCall_set_1 (.ref a);refine wpAny_call (codeAny_of_tree ?_)
 show wpAny _ _ (callAny (.type "set") _) _ _ _
 refine Ds ⟨Code.quiet_builtin _ (by decide +kernel),codeAny_builtin F.entry_type_call ?_⟩;rw [Around.under_plain (weight_type_call_type "set" [.ref a] []) rfl]
 repeat (any_goals (first | assumption | wp_step))
 refine codeAny_mono (code_set_new_1 (.ref a) (E:=E) (Q₁:=fun ob t1=>∃ led:Bool,ob = .ref s.heap.objs.size/\t1={ s with heap:=s.heap.push (gA led) }) fun led=>⟨led,rfl,rfl⟩) fun res t1 hres=> ?_
 cases res with
 | error x=>exact hres
 | ok fl =>
  cases fl with
  | next=>exact hres.elim
  | brk=>exact hres.elim
  | cont=>exact hres.elim
  | ret ob =>
   obtain ⟨led,rfl,rfl⟩:=hres;have atS:(s.heap.push (gA led)).get? s.heap.objs.size=some (gA led):=Dw _ rfl;have tyS:Shared.TypeIs { s with heap:=s.heap.push (gA led) } (.ref s.heap.objs.size) "set" := ⟨_,atS,rfl⟩;have i1:=F.called_set.init.lookup;have i2:=F.called_set.init.bind (.ref s.heap.objs.size)
   repeat (any_goals (first | assumption | wp_step))
   refine codeAny_mono (codeAny_call_builtin (R:=wants (fun r t2=>r = .none/\∃ h' tk,t2={ s with heap:=h',toks:=tk }/\h'.SetOf (intKind prog w) s.heap.objs.size (fun x=>(eI ns its.size).any (·== x)) (eI ns its.size).length /\
    (∀ b o,b < s.heap.objs.size->s.heap.get? b=some o->h'.get? b=some o)) E) F.called_set.init.plain F.entry_set_init (check_set_init_1 tyS ?_)) fun r2 t2 hr2=> ?_
   ·obtain ⟨⟨k1,k2,k3,k4⟩,e0,e1,n0,e2⟩:=id tu
    simp only at e1 e2;subst e1 e2;have e0':(s.heap.push (gA led)).get? a=some ⟨.type "tuple",k2,.seq its n0,k4⟩:=Dk _ e0;have j1:=F.sub_tuple_set;have j2:=F.sub_tuple_frozenset
    have j3:(Value.type "tuple" == Value.type "dict")=false:=by decide
    have tu1:IsTup (s.heap.push (gA led)) a its:=⟨_,e0',rfl,n0,rfl⟩;unfold Builtin.«set.__init__» noKeywords Builtin.Frozenset.updateFrom
    generalize hPy:pyIter=PY
    wp_walk
    subst hPy;refine DZ (show (s.heap.push (gA led)).IsTuple a its from tu1) ?_;refine Dj (FX ?_);have lt:a < s.heap.objs.size:=Dx e0
    have calm3:A.in1.in1.in1.handled=none:=by simp [calm]
    have ne1:a≠(s.heap.push (gA led)).objs.size:=by rw [DY];exact DL (EL lt)
    have out:s.heap.objs.size∉[(s.heap.push (gA led)).objs.size,a]:=by
     rw [DY];simp only [Dz,EI,or_false,not_or];exact ⟨DL (Fd _),E7 lt⟩
    refine codeAny_set_update_loopS ((Walks.tuple calm3 _ a ne1 its).toS) s.heap.objs.size out (fun j=>ns.getD j 0) (fun i v hv=>IntsAre.int_at inz i v (by rw [EY];exact hv)) few (its.size - 0) 0 _ (by omega) (E9 _) ⟨⟨_,Dw _ rfl,rfl,rfl⟩,?T⟩ ?S ?R
    case T=>exact ⟨_,Dk _ e0',rfl,n0,rfl⟩
    case S=>exact SetOf_congr ((setObjOf_fresh (knd:=intKind prog w) led).setOf (Dk _ atS) (by unfold scanBound;omega)) (fun _=>rfl) rfl
    case R =>
     rintro ⟨h',g',d',tk',os'⟩ mv st;have w1:g'=s.gens:=mv.gens;have w2:d'=s.drawn:=mv.drawn;have w3:os'=s.os:=mv.os;subst w1 w2 w3;refine Ds ?_
     show wpAny _ _ (ret Value.none) _ _ _
     refine Ds ⟨rfl,h',tk',rfl,st,fun b o lb e=>mv.heap b o ?_ (Dk _ (Dk _ e))⟩;rw [DY];simp only [Dz,EI,or_false,not_or];exact ⟨DL lb,DL (EL lb)⟩
   ·cases r2 with
    | error x=>exact hr2
    | ok f2 =>
     cases f2 with
     | ret r =>
      obtain ⟨rfl,h',tk,rfl,st,kp⟩:=hr2
      repeat (any_goals (first | assumption | wp_step))
      exact q _ _ st kp
     | next=>exact hr2.elim
     | brk=>exact hr2.elim
     | cont=>exact hr2.elim
end
end St2
namespace L2
open PySem PySem.Spec PyProof.Rows
section
variable{X:Cx}
noncomputable def vo:List V->Hp->VK->Prop:=fun xs H Q=>∃ (p:Addr) (S:Int->Bool) (n:Nat),xs=[V.ref p]/\H p=some (.set S n)/\n<=1000/\Q (.int (n:Nat)) H
theorem tq:aH X (.builtin "len") vo:=by
 intro pins s σ H xs us Q I r h;obtain ⟨p,S,n,rfl,hp,hn,q⟩:=h;obtain ⟨u,rfl,ru⟩:=bT r;cases ru;obtain ⟨o,es,ep,t,ho,ex,hd,_,_,_,hf,rfl⟩:=(show s.heap.SetOf (intKind X.prog X.w) p S n from I.hok p _ hp);exact call_len_set ho ex hd hf (by omega) ⟨.int (es.size:Nat),H,I.tok _,⟨_,rfl⟩,q⟩
end
end L2
namespace St2
open PySem PyProof.Rows
theorem rl(ns:List Int):∀ i,i<=ns.length->(List.range i).map (fun j=>ns.getD j 0)=ns.take i
 | 0,_=>rfl
 | i+1,h=>by
  have hi:i < ns.length:=by omega
  rw [List.range_succ,Ec,rl ns i (by omega),List.take_add_one,Dm hi];simp [hi]
end St2
namespace Tr2
open PySem PyProof.Rows
section
variable{prog:Program}{w:World}{A:Around}{E:Value->Shared->Prop}{s:Shared}
theorem B2{R:Result->Shared->Prop}{r:Addr}{a b:Int}{t u v:Tok}{k:Nat}(calm:A.handled=none)(rg:IsRange s.heap r a b 1 t u v)(sm:Builtin.Range.small a b 1=true)(sz:Builtin.Range.rangeSize a b 1=k)(few:k<=1000)
 (q:∀ (h':Heap) (tk:Nat) (acc:Array Value) (c0:Nat),(∀ x o,s.heap.get? x=some o->h'.get? x=some o)->h'.get? s.heap.objs.size=some { cls:= .type "list",dict:=none,data:= .seq acc c0,slots := #[] }->ItemsOf (fun i v=>∃ t,v = .int (a+i * 1) t) acc k->R (.ok (.ret (.ref s.heap.objs.size))) { s with heap:=h',toks:=tk }) :
 codeAny (model prog w) A (.builtin "proto.collect" ⟨[.ref r],[]⟩) R s:=by
 refine (codeAny_builtin PySem.F.entry_proto_collect ?_);rw [(Around.under_plainId PySem.F.plain_proto_collect _)]
 show wpAny _ A.in1 (newList [] >>= fun l=>again (.builtin "list.__iadd__" ⟨[l,.ref r],[]⟩)) (_) _ s
 refine Dj (Eg (Ds ⟨plainId_quiet PySem.F.plain_list_iadd _,codeAny_builtin PySem.F.entry_list_iadd ?_⟩));rw [(Around.under_plainId PySem.F.plain_list_iadd _)];have at_:(s.heap.push { cls:= .type "list",data:= .seq ([]:List Value).toArray }).get? s.heap.objs.size=some { cls:= .type "list",data:= .seq #[] 0 }:=Dw _ rfl
 show wpAny _ A.in1 (Builtin.List.listExtendWith (.ref s.heap.objs.size) (.ref r) (.ref s.heap.objs.size)) (_) _ _
 exact wpAny_extend_range (A:=A) (R:=R) (s:={ s with heap:=s.heap.push { cls:= .type "list",data:= .seq ([]:List Value).toArray } }) calm (Dk _ rg) sm sz (by omega) s.heap.objs.size (.ref s.heap.objs.size) 0 at_ fun h' tk acc c0 kp hS it =>
  q h' tk acc c0 (fun x o e=>kp x o (DL (Dx e)) (Dk _ e)) hS it
theorem gather{Q:List Value->Shared->Prop}{r:Addr}{a b:Int}{t u v:Tok}{k:Nat}(calm:A.handled=none)(rg:IsRange s.heap r a b 1 t u v)(sm:Builtin.Range.small a b 1=true)(sz:Builtin.Range.rangeSize a b 1=k)(few:k<=1000)
 (q:∀ (h':Heap) (tk:Nat) (acc:Array Value),s.heap.objs.size < h'.objs.size->(∀ x o,s.heap.get? x=some o->h'.get? x=some o)->ItemsOf (fun i v=>∃ t,v = .int (a+i * 1) t) acc k->Q acc.toList { s with heap:=h',toks:=tk }):wpAny (model prog w) A (collect (.ref r)) Q E s:=by
 unfold collect;refine Dj (FX (B2 calm rg sm sz few fun h' tk acc c0 kp hS it=> ?_))
 show wpAny _ A (load s.heap.objs.size >>= _) (_) _ _
 refine Dj (wpAny_load hS ?_);exact Ds (q h' tk acc (Dx hS) kp it)
theorem made{r:Addr}{a b:Int}{t u v:Tok}{k:Nat}(sm:Builtin.Range.small a b 1=true)(sz:Builtin.Range.rangeSize a b 1=k)(few:k<=1000):Meets (Builtin.«tuple.__new__» ⟨[.type "tuple",.ref r],[]⟩)
 (fun A R s=>A.handled=none/\IsRange s.heap r a b 1 t u v/\∀ (h':Heap) (tk:Nat) (acc:Array Value),s.heap.objs.size < h'.objs.size->(∀ x o,s.heap.get? x=some o->h'.get? x=some o)->ItemsOf (fun i v=>∃ t,v = .int (a+i * 1) t) acc k->R (.ok (.ret (.ref h'.objs.size))) { s with heap:=h'.push { cls:= .type "tuple",data:= .seq acc },toks:=tk }) :=
 .of_wp fun prog w A R s h=>by
  obtain ⟨calm,rg,h⟩:=h;have f1:=sub_tuple_self;have f2:=init_tuple_lookup;have f3:=madeHere_tuple;have ty:s.TypeIs (.ref r) "range" := ⟨_,rg,rfl⟩;have calm1:A.in1.handled=none:=calm
  wp_walk using wpAny_typeOf ty,gather calm1 rg sm sz few
  intro h' tk acc lz kp it
  show wpAny _ _ (Builtin.Tuple.tupleExact acc.toList.toArray >>= fun v=>ret v) (_) _ _
  unfold Builtin.Tuple.tupleExact;refine (Dj (Eg ?_ (show acc.toList.toArray.size<=sizeLine by simp only [Array.toArray_toList];rw [it.1,sizeLine_eq];omega)));refine Ds ⟨_,rfl,?_⟩;rw [show acc.toList.toArray=acc by simp];exact h h' tk acc lz kp it
theorem rh{Q:Value->Shared->Prop}{r:Addr}{a b:Int}{t u v:Tok}{k:Nat}(calm:A.handled=none)(rg:IsRange s.heap r a b 1 t u v)(sm:Builtin.Range.small a b 1=true)(sz:Builtin.Range.rangeSize a b 1=k)(few:k<=1000)
 (q:∀ (h':Heap) (tk:Nat) (acc:Array Value),s.heap.objs.size < h'.objs.size->(∀ x o,s.heap.get? x=some o->h'.get? x=some o)->ItemsOf (fun i v=>∃ t,v = .int (a+i * 1) t) acc k->Q (.ref h'.objs.size) { s with heap:=h'.push { cls:= .type "tuple",data:= .seq acc },toks:=tk }):wpAny (model prog w) A (call (.type "tuple") [.ref r]) Q E s :=
 callType_new PySem.F.called_tuple (by decide) (PySem.F.typeCall_tuple_1 _) (PySem.F.newCall_tuple_1 _) (fun obj=>PySem.F.args_object_init_2 obj _) PySem.F.entry_tuple_new (made sm sz few) ⟨calm,rg,fun h' tk acc lz kp it=>⟨⟨_,Dw _ rfl,rfl⟩,q h' tk acc lz kp it⟩⟩
end
end Tr2
namespace L2
open PySem PySem.Spec PyProof.Rows
section
variable{X:Cx}
theorem op_isB:OpR X (compareOp .Is) (fun x y H Q=>∃ a b,x = .bl a/\y = .bl b/\Q (.bl (a == b)) H):=by
 intro pins s σ H x y v u Q I rx ry h;obtain ⟨a,b,rfl,rfl,q⟩:=h;cases rx;cases ry;exact is_bool ⟨.bl (a == b),H,I,rfl,q⟩
noncomputable def yj:List V->Hp->VK->Prop:=fun xs H Q=>∃ (p:Addr) (lo hi:Int),xs=[V.ref p]/\H p=some (.rng lo hi) /\ -(2 ^ 62)<=lo/\lo < 2 ^ 62 /\ -(2 ^ 62)<=hi/\hi < 2 ^ 62/\(hi - lo).toNat<=1000 /\
 ∀ l,H l=none->Q (.ref l) (upd H l (.tup ((List.range (hi - lo).toNat).map fun k=>V.int (lo+(k:Nat)))))
theorem wS(hc:X.calm=true):aH X (.type "tuple") yj:=by
 intro pins s σ H xs us Q I r h;obtain ⟨p,lo,hi,rfl,hp,h1,h2,h3,h4,hn,q⟩:=h;obtain ⟨u,rfl,ru⟩:=bT r;cases ru;obtain ⟨t,u,v,e⟩:=(show bA X.prog X.w H s.heap p (.rng lo hi) from I.hok p _ hp)
 have hsz:Builtin.Range.rangeSize lo hi 1=((hi - lo).toNat:Nat):=by rw [rangeSize_one];split<;>omega
 refine Tr2.rh (k:=(hi - lo).toNat) (I.ok.hd hc) (show IsRange s.heap p lo hi 1 t u v from e) (small_one h1 h2 h3 h4) hsz hn fun h' tk acc lz kp it=> ?_
 have ge:s.heap.objs.size<=h'.objs.size:=EV lz;have hf:H h'.objs.size=none:=I.hok.fresh ge;refine ⟨.ref h'.objs.size,_,I.laid (o:= .tup ((List.range (hi - lo).toNat).map fun k=>V.int (lo+(k:Nat)))) (fun b o z=>Dk _ (kp b o z)) ge ⟨?_,acc.toList,gc ?_ ?_,⟨_,Dw _ rfl,rfl,_,rfl⟩⟩,rfl,q _ hf⟩
 ·rw [Do,ET];exact EV (cw hn)
 ·rw [Do,ET,Em,it.1]
 ·intro i x w hx hw
  rw [DM] at hx;obtain ⟨k,hk',rfl⟩:=Ee.mp hx
  have ek:i=k:=by
   rw [DA] at hk';obtain ⟨z,e⟩:=hk';simpa using e
  subst ek;obtain ⟨t',rfl⟩:=it.2 i w (by simpa using hw);refine ⟨t',?_⟩;rw [Int.mul_one]
end
section
variable{X:Cx}
end
section
variable{X:Cx}
end
theorem dj:∀ {ns:List Int} {us:List Value},aC (ns.map V.int) us->∃ ps:List (Int×Tok),us=ps.map (fun p=>Value.int p.1 p.2)/\ps.map (·.1)=ns
 | [],_,.nil=>⟨[],rfl,rfl⟩
 | n::ns,_,.cons r1 r2=>by
  obtain ⟨t,rfl⟩:=r1;obtain ⟨ps,rfl,e⟩:=dj r2;exact ⟨(n,t)::ps,rfl,by rw [DE,e]⟩
theorem cK{ps:List (Int×Tok)}{ns:List Int}(e:ps.map (·.1)=ns){i:Nat}(h:i < ns.length):numAt ps.toArray i=ns[i]:=by
 subst e;rw [Do] at h;unfold numAt;simp [h]
section
variable{X:Cx}
noncomputable def rT(K:FZ):List V->Hp->(V->Hp->Prop)->Prop:=fun xs H Q=>∃ (p:Addr) (ns:List Int),xs=[V.ref p]/\SqL K H p (ns.map V.int)/\ns≠[]/\∀ M,M∈ns->(∀ a∈ns,a<=M)->Q (.int M) H
noncomputable def rR(K:FZ):List V->Hp->(V->Hp->Prop)->Prop:=fun xs H Q=>∃ (p:Addr) (ns:List Int),xs=[V.ref p]/\SqL K H p (ns.map V.int)/\ns≠[]/\∀ M,M∈ns->(∀ a∈ns,M<=a)->Q (.int M) H
theorem xc(hc:X.calm=true):aH X (.builtin "max") (rT X.K):=by
 intro pins s σ H xs us Q I r h;obtain ⟨p,ns,rfl,hq,ne,q⟩:=h;obtain ⟨u,rfl,ru⟩:=bT r;cases ru;obtain ⟨its,rv,pl,hz⟩:=I.list hq;obtain ⟨ps,rfl,e⟩:=dj rv
 have lp:ps.length=ns.length:=by rw [<- e,Do]
 have n0:0 < ns.length:=DS.mpr ne
 have ei:intItems ps.toArray=(ps.map fun p=>Value.int p.1 p.2).toArray:=by unfold intItems;simp
 obtain ⟨b1,b2⟩:=argBest_gt (numAt ps.toArray) (ps.toArray.size - 1)
 have sz:ps.toArray.size=ns.length:=by simp [lp]
 refine max_intList (xs:=ps.toArray) (I.ok.hd hc) (by rw [ei];exact pl.isList) (by rw [sz];exact n0) fun v h' tk hv k=> ?_
 obtain ⟨t,rfl⟩:=intItems_at hv;rw [sz] at b1 b2 ⊢;refine ⟨.int _,H,I.kept k,⟨t,rfl⟩,q _ ?_ fun a ha=> ?_⟩
 ·rw [cK e (by omega)]
  exact EJ _
 ·obtain ⟨j,hj,rfl⟩:=FR ha
  have:=b2 j (by omega);rw [cK e hj] at this;exact this
theorem wY(hc:X.calm=true):aH X (.builtin "min") (rR X.K):=by
 intro pins s σ H xs us Q I r h;obtain ⟨p,ns,rfl,hq,ne,q⟩:=h;obtain ⟨u,rfl,ru⟩:=bT r;cases ru;obtain ⟨its,rv,pl,hz⟩:=I.list hq;obtain ⟨ps,rfl,e⟩:=dj rv
 have lp:ps.length=ns.length:=by rw [<- e,Do]
 have n0:0 < ns.length:=DS.mpr ne
 have ei:intItems ps.toArray=(ps.map fun p=>Value.int p.1 p.2).toArray:=by unfold intItems;simp
 obtain ⟨b1,b2⟩:=argBest_lt (numAt ps.toArray) (ps.toArray.size - 1)
 have sz:ps.toArray.size=ns.length:=by simp [lp]
 refine min_intList (xs:=ps.toArray) (I.ok.hd hc) (by rw [ei];exact pl.isList) (by rw [sz];exact n0) fun v h' tk hv k=> ?_
 obtain ⟨t,rfl⟩:=intItems_at hv;rw [sz] at b1 b2 ⊢;refine ⟨.int _,H,I.kept k,⟨t,rfl⟩,q _ ?_ fun a ha=> ?_⟩
 ·rw [cK e (by omega)]
  exact EJ _
 ·obtain ⟨j,hj,rfl⟩:=FR ha
  have:=b2 j (by omega);rw [cK e hj] at this;exact this
end
section
variable{X:Cx}
end
end L2
namespace ZpT
open PySem PySem.Spec PyProof.Rows
section
variable{prog:Program}{w:World}{A:Around}{E:Value->Shared->Prop}{s:Shared}
end
open AutoSeq1 (wpAny_loadPart')
section
variable{prog:Program}{w:World}{A:Around}{E:Value->Shared->Prop}{s:Shared}
end
end ZpT
namespace L2
open PySem PySem.Spec PyProof.Rows
section
variable{X:Cx}
end
end L2
namespace St2
open PySem PySem.Spec PyProof.Rows
section
variable{prog:Program}{w:World}{A:Around}{E:Value->Shared->Prop}{s:Shared}
theorem lW{a:Addr}{its:Array Value}{ns:List Int}{Q:Value->Shared->Prop}(calm:A.handled=none)(tu:s.heap.IsList a its)(inz:IntsAre its.toList ns)(few:its.size+1 < scanBound)
 (q:∀ (h':Heap) (tk:Nat),h'.SetOf (intKind prog w) s.heap.objs.size (fun x=>(eI ns its.size).any (·== x)) (eI ns its.size).length->(∀ b o,b < s.heap.objs.size->s.heap.get? b=some o->h'.get? b=some o)->Q (.ref s.heap.objs.size) { s with heap:=h',toks:=tk }) :
 wpAny (model prog w) A (call (.type "set") [.ref a]) Q E s:=by
 obtain ⟨c0,tl0,mro0⟩:=F.called_set.mro;have m1:=F.called_set.made;have m2:=F.called_set.sub;have m3:=F.called_set.notType;have m4:=F.called_set.canCreate;have m5:=F.typeCall_set_1 (.ref a);refine wpAny_call (codeAny_of_tree ?_)
 show wpAny _ _ (callAny (.type "set") _) _ _ _
 refine Ds ⟨Code.quiet_builtin _ (by decide +kernel),codeAny_builtin F.entry_type_call ?_⟩;rw [Around.under_plain (weight_type_call_type "set" [.ref a] []) rfl]
 repeat (any_goals (first | assumption | wp_step))
 refine codeAny_mono (code_set_new_1 (.ref a) (E:=E) (Q₁:=fun ob t1=>∃ led:Bool,ob = .ref s.heap.objs.size/\t1={ s with heap:=s.heap.push (gA led) }) fun led=>⟨led,rfl,rfl⟩) fun res t1 hres=> ?_
 cases res with
 | error x=>exact hres
 | ok fl =>
  cases fl with
  | next=>exact hres.elim
  | brk=>exact hres.elim
  | cont=>exact hres.elim
  | ret ob =>
   obtain ⟨led,rfl,rfl⟩:=hres;have atS:(s.heap.push (gA led)).get? s.heap.objs.size=some (gA led):=Dw _ rfl;have tyS:Shared.TypeIs { s with heap:=s.heap.push (gA led) } (.ref s.heap.objs.size) "set" := ⟨_,atS,rfl⟩;have i1:=F.called_set.init.lookup;have i2:=F.called_set.init.bind (.ref s.heap.objs.size)
   repeat (any_goals (first | assumption | wp_step))
   refine codeAny_mono (codeAny_call_builtin (R:=wants (fun r t2=>r = .none/\∃ h' tk,t2={ s with heap:=h',toks:=tk }/\h'.SetOf (intKind prog w) s.heap.objs.size (fun x=>(eI ns its.size).any (·== x)) (eI ns its.size).length /\
    (∀ b o,b < s.heap.objs.size->s.heap.get? b=some o->h'.get? b=some o)) E) F.called_set.init.plain F.entry_set_init (check_set_init_1 tyS ?_)) fun r2 t2 hr2=> ?_
   ·obtain ⟨⟨k1,k2,k3,k4⟩,e0,e1,n0,e2⟩:=id tu
    simp only at e1 e2;subst e1 e2;have e0':(s.heap.push (gA led)).get? a=some ⟨.type "list",k2,.seq its n0,k4⟩:=Dk _ e0;have j1:=F.sub_list_set;have j2:=F.sub_list_frozenset
    have j3:(Value.type "list" == Value.type "dict")=false:=by decide
    have tu1:(s.heap.push (gA led)).IsList a its:=⟨_,e0',rfl,n0,rfl⟩;unfold Builtin.«set.__init__» noKeywords Builtin.Frozenset.updateFrom
    generalize hPy:pyIter=PY
    wp_walk
    subst hPy;refine E3 tu1 ?_;refine Dj (FX ?_);have lt:a < s.heap.objs.size:=Dx e0
    have calm3:A.in1.in1.in1.handled=none:=by simp [calm]
    have ne1:a≠(s.heap.push (gA led)).objs.size:=by rw [DY];exact DL (EL lt)
    have out:s.heap.objs.size∉[(s.heap.push (gA led)).objs.size,a]:=by
     rw [DY];simp only [Dz,EI,or_false,not_or];exact ⟨DL (Fd _),E7 lt⟩
    refine codeAny_set_update_loopS ((Walks.list calm3 _ a ne1 its).toS) s.heap.objs.size out (fun j=>ns.getD j 0) (fun i v hv=>IntsAre.int_at inz i v (by rw [EY];exact hv)) few (its.size - 0) 0 _ (by omega) (E9 _) ⟨⟨_,Dw _ rfl,rfl,rfl⟩,?T⟩ ?S ?R
    case T=>exact ⟨_,Dk _ e0',rfl,n0,rfl⟩
    case S=>exact SetOf_congr ((setObjOf_fresh (knd:=intKind prog w) led).setOf (Dk _ atS) (by unfold scanBound;omega)) (fun _=>rfl) rfl
    case R =>
     rintro ⟨h',g',d',tk',os'⟩ mv st;have w1:g'=s.gens:=mv.gens;have w2:d'=s.drawn:=mv.drawn;have w3:os'=s.os:=mv.os;subst w1 w2 w3;refine Ds ?_
     show wpAny _ _ (ret Value.none) _ _ _
     refine Ds ⟨rfl,h',tk',rfl,st,fun b o lb e=>mv.heap b o ?_ (Dk _ (Dk _ e))⟩;rw [DY];simp only [Dz,EI,or_false,not_or];exact ⟨DL lb,DL (EL lb)⟩
   ·cases r2 with
    | error x=>exact hr2
    | ok f2 =>
     cases f2 with
     | ret r =>
      obtain ⟨rfl,h',tk,rfl,st,kp⟩:=hr2
      repeat (any_goals (first | assumption | wp_step))
      exact q _ _ st kp
     | next=>exact hr2.elim
     | brk=>exact hr2.elim
     | cont=>exact hr2.elim
theorem ou{l:Addr}{vs:List Value}{Q:List Value->Shared->Prop}(hl:s.heap.IsTuple l vs.toArray)
 (h:Q vs { s with heap:=(s.heap.push (seqObj "list" #[] 0)).update s.heap.objs.size (Obj.mapSeq (·++ vs.toArray)) }) (hz:vs.length<=sizeLine):wpAny (model prog w) A (collect (.ref l)) Q E s:=by
 unfold collect;refine Dj (FX (codeAny_builtin F.entry_proto_collect ?_));unfold Builtin.«proto.collect»
 show wpAny _ _ (newList [] >>= _) _ _ _
 refine Dj (FN ?_ (by simp));refine Ds ⟨Code.quiet_builtin _ (by decide +kernel),codeAny_builtin F.entry_list_iadd ?_⟩;obtain ⟨o,ho,hc,n,hd⟩:=id hl;have ho':(s.heap.push { cls:=Value.type "list",data:=Data.seq #[] }).get? l=some o:=Dk _ ho;have hn:(s.heap.push { cls:=Value.type "list",data:=Data.seq #[] }).get? s.heap.objs.size=some { cls:=Value.type "list",data:=Data.seq #[] }:=Dw _ rfl;have hT:Shared.TypeIs { s with heap:=s.heap.push { cls:=Value.type "list",data:=Data.seq #[] } } (.ref l) "tuple" := ⟨o,ho',hc⟩
 show wpAny _ _ (Builtin.List.listExtendWith (.ref s.heap.objs.size) (.ref l) (.ref s.heap.objs.size)) _ _ _
 unfold Builtin.List.listExtendWith;refine Dj (wpAny_typeOf hT ?_)
 have hb:(Builtin.List.listSameRef (.ref s.heap.objs.size) (.ref l)||Value.type "tuple" == Value.type "list" || Value.type "tuple" == Value.type "tuple")=true:=by
  rw [show (Value.type "tuple" == Value.type "tuple")=true by decide,Fv]
 rw [if_pos hb];refine Dj (listItems_at ho' hd (Dj (listItems_at hn rfl ?_)))
 show wpAny _ _ (Builtin.List.listUpdate (.ref s.heap.objs.size) (fun x=>x++vs.toArray) >>= _) _ _ _
 refine Dj (listUpdate_at hn rfl ?_ (by simp) (by simp;omega));refine Ds ?_;have e:=EC (Obj.mapSeq (·++ vs.toArray)) hn rfl
 show wpAny _ _ (load s.heap.objs.size >>= _) _ _ _
 refine Dj (wpAny_load e ?_)
 show wpAny _ _ (pure (#[]++vs.toArray).toList) _ _ _
 refine Ds ?_;simpa using h
end
end St2
namespace L2
open PySem PySem.Spec PyProof.Rows
section
variable{X:Cx}
noncomputable def iM(K:FZ):List V->Hp->(V->Hp->Prop)->Prop:=fun xs H Q=>∃ (p:Addr) (ns:List Int),xs=[V.ref p]/\SqT K H p (ns.map V.int)/\ns.length < 64 /\
 ∀ l (ms:List Int),H l=none->List.Perm ms ns->ms.Pairwise (·<= ·)->Q (.ref l) (upd H l (.lst (ms.map V.int)))
theorem qL:aH X (.builtin "sorted") (iM X.K):=by
 intro pins s σ H xs us Q I r h;obtain ⟨p,ns,rfl,hq,h64,q⟩:=h;obtain ⟨u,rfl,ru⟩:=bT r;cases ru;obtain ⟨its,rv,pl,hz⟩:=I.tuple hq;have hlen:=rv.length;rw [Do] at hlen;refine Calls.call_function_entry kind_sorted plain_sorted entry_sorted (args_sorted1 _) ?_;unfold Builtin.«sorted»;refine Dj (m:=checkCount "sorted" 1 1 _) (Ds ?_);have lsz:sizeLine=16777216:=sizeLine_eq;refine Dj (St2.ou (show s.heap.IsTuple p its.toArray from pl) (Dj (FN ?_ (by omega))) (by omega))
 generalize hh1:(s.heap.push (seqObj "list" #[] 0)).update s.heap.objs.size (Obj.mapSeq (·++ its.toArray))=h1
 have hsz:h1.objs.size=s.heap.objs.size+1:=by rw [<- hh1,Heap.size_update,size_push']
 have k1:∀ b o,s.heap.get? b=some o->h1.get? b=some o:=fun b o q=>by
  rw [<- hh1];exact (Ff _ _ (Ne.symm (DL (Dx q)))).trans (Dk _ q)
 show wpAny _ _ _ _ _ { s with heap:=h1.push (seqObj "list" its.toArray 0) }
 have oL:(h1.push (seqObj "list" its.toArray 0)).get? h1.objs.size=some (seqObj "list" its.toArray 0):=Dw _ rfl;refine Dj (EQ (En slot_list_sort ⟨_,oL,rfl⟩ entry_list_sort (list_sort_tree oL (dw rv) (by omega) fun out ms hi hp hs=>⟨_,rfl,?_⟩) (args_list_sort _)))
 have hle:s.heap.objs.size<=h1.objs.size:=by rw [hsz];exact Nat.le_succ _
 have hf:H h1.objs.size=none:=I.hok.fresh hle;obtain ⟨e,he⟩:=sortedHeap_at (out:=out) oL;refine Ds ⟨_,rfl,.ref h1.objs.size,upd H h1.objs.size (.lst (ms.map V.int)),I.laid (t':=s.toks) (fun b o q=> ?_) hle ⟨?_,out.toList,e,kt hi,by simpa using he⟩,rfl,q _ _ hf hp hs⟩
 ·have lb:=Dx (k1 b o q)
  rw [sortedHeap_old (DL lb) (by rw [DY];exact EL lb)];exact Dk _ (k1 b o q)
 ·rw [Do,hp.length_eq]
  rwa [Do] at hz
end
section
variable{X:Cx}
noncomputable def yl(K:FZ):List V->Hp->(V->Hp->Prop)->Prop:=fun xs H Q=>∃ (p:Addr) (ns:List Int),xs=[V.ref p]/\SqL K H p (ns.map V.int)/\Q (.int ns.sum) H
theorem wU(hc:X.calm=true):aH X (.builtin "sum") (yl X.K):=by
 intro pins s σ H xs us Q I r h;obtain ⟨p,ns,rfl,hq,q⟩:=h;obtain ⟨u,rfl,ru⟩:=bT r;cases ru;obtain ⟨its,rv,pl,hz⟩:=I.list hq;obtain ⟨ps,rfl,e⟩:=dj rv
 have ei:intItems ps.toArray=(ps.map fun p=>Value.int p.1 p.2).toArray:=by unfold intItems;simp
 refine sum_intListG (xs:=ps.toArray) (I.ok.hd hc) (by rw [ei];exact pl.isList) fun h' tk t' k=> ?_
 have es:preSum (numAt ps.toArray) ps.toArray.size=ns.sum:=by
  rw [preSum_eq,List.take_of_length_le (by simp),<- e]
 rw [es];exact ⟨.int _,H,I.kept k,⟨t',rfl⟩,q⟩
noncomputable def yk(K:FZ):List V->Hp->(V->Hp->Prop)->Prop:=fun xs H Q=>∃ (p:Addr) (ns:List Int),xs=[V.ref p]/\SqT K H p (ns.map V.int)/\Q (.int ns.sum) H
theorem wT(hc:X.calm=true):aH X (.builtin "sum") (yk X.K):=by
 intro pins s σ H xs us Q I r h;obtain ⟨p,ns,rfl,hq,q⟩:=h;obtain ⟨u,rfl,ru⟩:=bT r;cases ru;obtain ⟨its,rv,pl,hz⟩:=I.tuple hq;obtain ⟨ps,rfl,e⟩:=dj rv
 have ei:intItems ps.toArray=(ps.map fun p=>Value.int p.1 p.2).toArray:=by unfold intItems;simp
 have ht:s.heap.IsTuple p (intItems ps.toArray):=by rw [ei];exact pl
 have hlt:p < s.heap.objs.size:=by obtain ⟨_,e,_⟩:=ht;exact Dx e
 have sz:(intItems ps.toArray).size=ps.toArray.size:=by unfold intItems;simp
 have es:preSum (numAt ps.toArray) (intItems ps.toArray).size=ns.sum:=by
  rw [sz,preSum_eq,List.take_of_length_le (by simp),<- e]
 refine call_sum_walkG (DZ ht ?_);refine ⟨s.heap.objs.size,_,_,_,_,_,numAt ps.toArray,rfl,Walks.tuple (A:=X.A.in1) (I.ok.hd hc) _ p (DL hlt) (intItems ps.toArray),⟨⟨_,Dw _ rfl,rfl,rfl⟩,ht.push _⟩,fun b hb=> ?_,fun _ _=>intItems_at,fun h' tk t' hk=> ?_⟩
 ·show b < (s.heap.push _).objs.size
  rw [DY]
  have hb':b=s.heap.objs.size\/b=p:=by simpa using hb
  rcases hb' with rfl | rfl
  ·exact Fd _
  ·exact EL hlt
 ·rw [es]
  exact ⟨.int _,H,I.kept fun b o hb=>hk b o (by have:=DL (Dx hb);simpa using this) (Dk _ hb),⟨t',rfl⟩,q⟩
theorem sO(l:Addr)(items:Array Value)(n:Nat)(b:Addr)(items2:Array Value)(n2:Nat)(dd:Option Addr)(ss:Array (Option Value))(hs0:¬(!items.isEmpty&&Builtin.List.listTooLong (items.size+items2.size))=true)(hs1:items.size<=sizeLine)(hs2:items.size+items2.size<=sizeLine+1) :
 Meets (Builtin.«list.extend» ⟨[.ref l,.ref b],[]⟩) (fun _ R s=>s.heap.get? l=some { cls:= .type "list",dict:=none,data:= .seq items n,slots := #[] }/\s.heap.get? b=some { cls:= .type "tuple",dict:=dd,data:= .seq items2 n2,slots:=ss }/\R (.ok (.ret Value.none)) { s with heap:=s.heap.update l (Obj.mapSeq fun x=>x++items2),toks:=s.toks }) :=
 .of_wp fun prog w A R s h=>by
  obtain ⟨hp,g,d,tk,os⟩:=s;obtain ⟨hl,hb,h⟩:=h;have f1:=AutoSeq1.idx_int;have f2:=AutoSeq1.sub_tuple_tuple;have f3:=AutoSeq1.sub_list_list;have f4:=AutoSeq1.sub_tuple_list;have f5:=AutoSeq1.sub_list_tuple;
  have hz':(items++items2).size<=sizeLine+1:=by rw [Array.size_append];exact hs2
  wp_walk using (wpAny_updateSeq hl rfl (hz:=hs1) (_hz':=hz')),AutoSeq1.wpAny_loadPart' hl,AutoSeq1.wpAny_loadPart' hb;exact ⟨_,rfl,h⟩
noncomputable def rU:V->List V->Hp->VK->Prop:=fun x vs H Q=>∃ l b xs zs,x = .ref l/\vs=[.ref b]/\H l=some (.lst xs)/\H b=some (.tup zs)/\xs.length+zs.length<=sizeLine/\Q .non (upd H l (.lst (xs++zs)))
theorem uf:MtM X "list.extend" rU:=by
 intro pins s σ H x vs v us Q I rx rv h;obtain ⟨l,b,xs,zs,rfl,rfl,hH,hB,hz,q⟩:=h;cases rx;obtain ⟨u,rfl,ru⟩:=rv.one;cases ru;obtain ⟨z,its,n,r,hl,e⟩:=I.lstM hH;obtain ⟨z2,its2,r2,⟨cl,dd,dt,ss⟩,e2,ec,n2,ed⟩:=I.hok b _ hB;dsimp only at ec ed;subst ec ed;have hl2:=r2.length
 have hsz:its.toArray.size+its2.toArray.size<=sizeLine:=by rw [Du,Du];omega
 have hlong:¬ (!its.toArray.isEmpty&&Builtin.List.listTooLong (its.toArray.size+its2.toArray.size))=true:=by
  rw [mQ hsz,EN];exact DB
 refine call_meets F.slot_list_extend ⟨_,e,rfl⟩ F.entry_list_extend (F.args_list_extend_2 _ _)
  (sO l its.toArray n b its2.toArray n2 dd ss hlong (by rw [Du];omega) (by omega)) ⟨e,e2,?_⟩
 refine ⟨.non,_,I.lset (its':=its++its2) hH e (by simp) (r.append r2) ?_,rfl,q⟩;rw [DI];omega
end
section
variable{X:Cx}
end
section
variable{X:Cx}
end
section
variable{X:Cx}{o i:Expr}{pos:Pos}{td ty:TE}
end
section
variable{X:Cx}{Pre:St->Hp->Prop}{R:Hp->V->Prop}
end
section
variable{X:Cx}{Pre:St->Hp->Prop}{R:Hp->V->Prop}
end
section
variable{X:Cx}
end
section
variable{X:Cx}
end
end L2
namespace St2
open PySem PySem.Spec PyProof.Rows
section
variable{prog:Program}{w:World}{A:Around}{E:Value->Shared->Prop}{s:Shared}
end
end St2
namespace L2
open PySem PySem.Spec PyProof.Rows
section
variable{X:Cx}
end
end L2
namespace St3
open PySem PySem.Spec PyProof.Rows PySem.SeqAt PySem.MeetsSeq PySem.MeetsSeq2 PySem.MeetsSeq3
theorem kh(ns:List Int)(x:Int):(St2.eI ns ns.length).any (·== x)=true↔x∈ns:=by
 have e:=firstMet_any (fun j=>ns.getD j 0) ns.length x;rw [show (St2.eI ns ns.length).any (·== x)=(firstMet (fun j=>ns.getD j 0) ns.length).any (·== x) from rfl,e,St2.rl ns ns.length (Dy _),List.take_length];simp
end St3
namespace L2
open PySem PySem.Spec PyProof.Rows
section
variable{X:Cx}
noncomputable def ua(K:FZ):List V->Hp->VK->Prop:=fun xs H Q=>∃ (p:Addr) (ns:List Int),xs=[V.ref p]/\SqL K H p (ns.map V.int)/\ns.length<=1000 /\
 ∀ l S,H l=none->(∀ x,S x=true↔x∈ns)->Q (.ref l) (upd H l (.set S (St2.eI ns ns.length).length))
theorem uK(hc:X.calm=true):aH X (.type "set") (ua X.K):=by
 intro pins s σ H xs us Q I r h;obtain ⟨p,ns,rfl,hq,hn,q⟩:=h;obtain ⟨u,rfl,ru⟩:=bT r;cases ru;obtain ⟨its,rv,pt,_⟩:=I.list hq
 have ln:its.length=ns.length:=by rw [<- rv.length,Do]
 refine St2.lW (ns:=ns) (I.ok.hd hc) pt.isList (by simpa using dw rv) (by rw [Du,ln];unfold scanBound;omega) fun h' tk st kp=> ?_
 have sz:its.toArray.size=ns.length:=by rw [Du,ln]
 rw [sz] at st;have hf:H s.heap.objs.size=none:=I.hok.fresh (Dy _);exact ⟨.ref s.heap.objs.size,_,I.laid (o:= .set _ _) (fun b o e=>kp b o (Dx e) e) (Dy _) st,rfl,q _ _ hf (St3.kh ns)⟩
end
section
variable{X:Cx}
end
section
variable{X:Cx}
end
end L2
namespace St4
open PySem PySem.Spec PyProof.Rows PySem.W
section
variable{prog:Program}{w:World}{A:Around}{E:Value->Shared->Prop}{s:Shared}{T:String}{r d:Addr}{n:Nat}{P:Nat->Value->Prop}{OK:Heap->Prop}
end
end St4
namespace L2
open PySem PySem.Spec PyProof.Rows PySem.W
section
variable{X:Cx}
end
section
variable{X:Cx}
end
end L2
namespace L2
open PySem PySem.Spec PyProof.Rows
section
variable{X:Cx}
end
section
variable{X:Cx}
end
section
variable{X:Cx}
variable{o e:Expr}{es:List Expr}{to:TE}{t:TA}{name:Str}{apos cpos:Pos}{id:String}{r:V->List V->Hp->VK->Prop}
end
section
variable{X:Cx}{Pre:St->Hp->Prop}{R R':Hp->V->Prop}
end
mutual
noncomputable def uW(K:FZ)(H:Hp):PyData->V->Prop
 | .none,v=>v = .non
 | .bool b,v=>v = .bl b
 | .int i,v=>v = .int i
 | .str x,v=>v = .str x
 | .list ds,v=>∃ p xs,v = .ref p/\SqL K H p xs/\iC K H ds xs
 | .tuple ds,v=>∃ p xs,v = .ref p/\SqT K H p xs/\iC K H ds xs
 | .dict kvs,v=>kvs=[]/\∃ p,v = .ref p/\(H p=some (.dK [])\/H p=some (.dT []))
noncomputable def iC(K:FZ)(H:Hp):List PyData->List V->Prop
 | [],[]=>True
 | d::ds,x::xs=>uW K H d x/\iC K H ds xs
 | _,_=>False
end
mutual
theorem ai.repP{K:FZ}{H H':Hp}(e:ai H H'):∀ {d:PyData} {v:V},uW K H d v->uW K H' d v
 | .none,_,h=>h
 | .bool _,_,h=>h
 | .int _,_,h=>h
 | .str _,_,h=>h
 | .list _,_,⟨p,xs,h1,h2,h3⟩=>⟨p,xs,h1,e.seq h2,e.repPL h3⟩
 | .tuple _,_,⟨p,xs,h1,h2,h3⟩=>⟨p,xs,h1,e.tup h2,e.repPL h3⟩
 | .dict _,_,⟨h0,p,h1,h2⟩=>⟨h0,p,h1,h2.elim (fun z=> .inl (e _ _ z)) fun z=> .inr (e _ _ z)⟩
theorem ai.repPL{K:FZ}{H H':Hp}(e:ai H H'):∀ {ds:List PyData} {xs:List V},iC K H ds xs->iC K H' ds xs
 | [],[],_=>trivial
 | _::_,_::_,h=>⟨e.repP h.1,e.repPL h.2⟩
 | [],_::_,h=>h.elim
 | _::_,[],h=>h.elim
end
noncomputable def oB:PyData->Dt
 | .none=> .non | .bool b=> .bl b | .int i=> .int i | .str x=> .str x | .list _=> .lst | .dict _=> .dct | .tuple ds=> .tup (ds.map oB)
mutual
theorem uW.rep{K:FZ}{H:Hp}:∀ {d:PyData} {v:V},uW K H d v->Rep K H (oB d) v
 | .none,_,h=>by unfold oB;exact h
 | .bool _,_,h=>by unfold oB;exact h
 | .int _,_,h=>by unfold oB;exact h
 | .str _,_,h=>by unfold oB;exact h
 | .list _,_,⟨p,xs,h1,h2,_⟩=>by unfold oB;exact ⟨p,xs,h1,h2⟩
 | .tuple _,_,⟨p,xs,h1,h2,h3⟩=>by unfold oB;exact ⟨p,xs,h1,h2,iC.rep h3⟩
 | .dict _,_,⟨_,p,h1,h2⟩=>by unfold oB;exact ⟨p,h1,h2.elim (fun z=> .inl ⟨_,z⟩) fun z=> .inr ⟨_,z⟩⟩
theorem iC.rep{K:FZ}{H:Hp}:∀ {ds:List PyData} {xs:List V},iC K H ds xs->AB K H (ds.map oB) xs
 | [],[],_=>trivial
 | _::_,_::_,h=>⟨uW.rep h.1,iC.rep h.2⟩
 | [],_::_,h=>h.elim
 | _::_,[],h=>h.elim
end
section
variable{X:Cx}{pins:List (Addr×Obj)}{σ:St}{H:Hp}{s:Shared}
mutual
theorem yg(I:Inv X pins σ H s):∀ {d:PyData} {v:V} {u:Value},uW X.K H d v->aG v u->∃ as,Reads s.heap u d as/\((d = .dict []\/d.hasDict=false)->d.hasDict=true->sysModules∉as)
 | .none,_,_,h,r=>by cases h;cases r;exact ⟨[],.none,fun _ z=>by simp [PyData.hasDict] at z⟩
 | .bool b,_,_,h,r=>by cases h;cases r;exact ⟨[],.bool b,fun _ z=>by simp [PyData.hasDict] at z⟩
 | .int i,_,_,h,r=>by cases h;obtain ⟨t,rfl⟩:=r;exact ⟨[],.int i t,fun _ z=>by simp [PyData.hasDict] at z⟩
 | .str x,_,_,h,r=>by cases h;obtain ⟨t,rfl⟩:=r;exact ⟨[],.str x t,fun _ z=>by simp [PyData.hasDict] at z⟩
 | .list ds,_,_,⟨p,xs,h1,h2,h3⟩,r=>by
  subst h1;cases r;obtain ⟨its,rv,pl,_⟩:=I.list h2;obtain ⟨o,e1,e2,n,e3⟩:=pl.isList;obtain ⟨as,ra⟩:=gv I h3 rv;refine ⟨p::as,.list e1 e2 e3 (by simpa using ra),fun z1 z2=> ?_⟩
  rcases z1 with z1 | z1
  ·cases z1
  ·rw [z2] at z1;cases z1
 | .tuple ds,_,_,⟨p,xs,h1,h2,h3⟩,r=>by
  subst h1;cases r;obtain ⟨its,rv,pl,_⟩:=I.tuple h2;obtain ⟨o,e1,e2,n,e3⟩:=pl;obtain ⟨as,ra⟩:=gv I h3 rv;refine ⟨as,.tuple e1 e2 e3 (by simpa using ra),fun z1 z2=> ?_⟩
  rcases z1 with z1 | z1
  ·cases z1
  ·rw [z2] at z1;cases z1
 | .dict kvs,_,_,⟨h0,p,h1,h2⟩,r=>by
  subst h1 h0;cases r
  have z:∃ o es ep,s.heap.get? p=some o/\o.cls = .type "dict" /\ o.data = .dict es ep/\es.toList=[]/\(p == sysModules)=false:=by
   rcases h2 with h2 | h2
   ·obtain ⟨_,ne,vs,kv,o,es,ep,e,ex,hd,_,pr,_⟩:=I.hok p _ h2
    cases kv;refine ⟨o,es,ep,e,ex.1,hd,?_,ne⟩
    cases hes:es.toList with
    | nil=>rfl
    | cons a l=>rw [hes] at pr;cases pr
   ·obtain ⟨_,ne,xs,pr,o,es,ep,e,ex,hd,hl,_⟩:=I.hok p _ h2
    cases pr;exact ⟨o,es,ep,e,ex.1,hd,hl,ne⟩
  obtain ⟨o,es,ep,e1,e2,e3,e4,ne⟩:=z;refine ⟨_,.dict (as:=[]) (bs:=[]) e1 e2 e3 (by rw [e4];exact .nil) (by rw [e4];exact .nil),fun _ _ hm=> ?_⟩
  have:sysModules=p:=by simpa using hm
  rw [this] at ne;simp at ne
theorem gv(I:Inv X pins σ H s):∀ {ds:List PyData} {xs:List V} {us:List Value},iC X.K H ds xs->aC xs us->∃ as,ReadsAll s.heap us ds as
 | [],[],_,_,r=>by cases r;exact ⟨[],.nil⟩
 | _::_,_::_,_,h,r=>by
  cases r with
  | cons r t =>
   obtain ⟨a1,r1,_⟩:=yg I h.1 r;obtain ⟨a2,r2⟩:=gv I h.2 t;exact ⟨a1++a2,.cons r1 r2⟩
 | [],_::_,_,h,_=>h.elim
 | _::_,[],_,h,_=>h.elim
end
end
section
variable{X:Cx}
end
section
variable{X:Cx}{a b c d:Expr}{ta tb tc td:TE}{pos:Pos}
end
section
open PySem.SeqAt PySem.MeetsSeq
open AutoSeq1 (wpAny_loadPart')
variable{A:Around}{s:Shared}
end
section
variable{X:Cx}
end
section
variable{X:Cx}{tg:Expr}
end
end L2
namespace ZpA
open PySem PySem.Spec PyProof.Rows
inductive Kd where
 | L | T
noncomputable def nm:Kd->String
 | .L => "list"
 | .T => "tuple"
noncomputable def It:Kd->Heap->Addr->Addr->Nat->Prop
 | .L=>fun h it l i=>h.IsListIter it l i
 | .T=>fun h it l i=>h.IsTupleIter it l i
noncomputable def Sq:Kd->Heap->Addr->Array Value->Prop
 | .L=>fun h l xs=>h.IsList l xs
 | .T=>fun h l xs=>h.IsTuple l xs
noncomputable def zu:Kd->Addr->Obj
 | .L=>fun l=>{ cls:= .type "list_iterator",data:= .fields #[.ref l,.int 0 0] }
 | .T=>fun l=>{ cls:= .type "tuple_iterator",data:= .fields #[.ref l,.int 0 0] }
theorem It.at{c:Kd}{h h':Heap}{it l:Addr}{i:Nat}(x:It c h it l i)(k:∀ o,h.get? it=some o->h'.get? it=some o):It c h' it l i:=by
 cases c with
 | L=>exact Heap.IsListIter.at (show h.IsListIter it l i from x) k
 | T=>exact Heap.IsTupleIter.at (show h.IsTupleIter it l i from x) k
theorem It.obj{c:Kd}{h:Heap}{it l:Addr}{i:Nat}(x:It c h it l i):∃ o,h.get? it=some o/\(∃ vs,o.data = .fields vs)/\(o.cls = .type "list_iterator" \/ o.cls = .type "tuple_iterator"):=by
 cases c with
 | L=>obtain ⟨o,ho,hc,hd⟩:=(show h.IsListIter it l i from x);exact ⟨o,ho,⟨_,hd⟩,.inl hc⟩
 | T=>obtain ⟨o,ho,hc,hd⟩:=(show h.IsTupleIter it l i from x);exact ⟨o,ho,⟨_,hd⟩,.inr hc⟩
theorem Sq.at{c:Kd}{h h':Heap}{l:Addr}{xs:Array Value}(x:Sq c h l xs)(k:∀ o,h.get? l=some o->h'.get? l=some o):Sq c h' l xs:=by
 cases c with
 | L=>obtain ⟨o,ho,r⟩:=(show h.IsList l xs from x);exact ⟨o,k o ho,r⟩
 | T=>obtain ⟨o,ho,r⟩:=(show h.IsTuple l xs from x);exact ⟨o,k o ho,r⟩
theorem Sq.obj{c:Kd}{h:Heap}{l:Addr}{xs:Array Value}(x:Sq c h l xs):∃ o,h.get? l=some o/\(o.cls = .type "list" \/ o.cls = .type "tuple"):=by
 cases c with
 | L=>obtain ⟨o,ho,r,_⟩:=(show h.IsList l xs from x);exact ⟨o,ho,.inl r⟩
 | T=>obtain ⟨o,ho,r,_⟩:=(show h.IsTuple l xs from x);exact ⟨o,ho,.inr r⟩
theorem It.new{c:Kd}{h:Heap}{l:Addr}:It c (h.push (zu c l)) h.objs.size l 0:=by
 cases c with
 | L=>exact ⟨_,Dw _ rfl,rfl,rfl⟩
 | T=>exact ⟨_,Dw _ rfl,rfl,rfl⟩
section
variable{prog:Program}{w:World}{A:Around}{E:Value->Shared->Prop}{s:Shared}
theorem ft{c:Kd}{it l:Addr}{i:Nat}{items}{x:Value}{Q:Value->Shared->Prop}(hit:It c s.heap it l i)(hl:Sq c s.heap l items)(hx:items[i]?=some x)
 (hQ:∀ h',It c h' it l (i+1)->Heap.SameBut it s.heap h'->Q x { s with heap:=h' }):wpAny (model prog w) A (Builtin.SmallTypes.nextOf (.ref it)) Q E s:=by
 cases c with
 | L=>exact wpAny_nextOf_list_item (show s.heap.IsListIter it l i from hit) (show s.heap.IsList l items from hl) hx hQ
 | T=>exact EnT.ft (show s.heap.IsTupleIter it l i from hit) (show s.heap.IsTuple l items from hl) hx hQ
theorem gy{c:Kd}{it l:Addr}{i:Nat}{items}{Q:Value->Shared->Prop}(hh:A.handled=none)(hit:It c s.heap it l i)(hl:Sq c s.heap l items)(hx:items[i]?=none)
 (hE:∀ h' e,Heap.ExtBut it s.heap h'->(∃ o,h'.get? e=some o/\o.cls = .type "StopIteration")->E (.ref e) { s with heap:=h' }):wpAny (model prog w) A (Builtin.SmallTypes.nextOf (.ref it)) Q E s:=by
 cases c with
 | L=>exact wpAny_nextOf_list_end hh (show s.heap.IsListIter it l i from hit) (show s.heap.IsList l items from hl) hx hE
 | T=>exact EnT.gy hh (show s.heap.IsTupleIter it l i from hit) (show s.heap.IsTuple l items from hl) hx hE
end
theorem draws{prog:Program}{w:World}{A:Around}{c:Kd}(hh:A.handled=none)(it l:Addr)(hne:l≠it)(items:Array Value) :
 Draws prog w A it [it,l] items.size (fun i v=>items[i]?=some v) (fun i h=>It c h it l i/\Sq c h l items) where
 live:=fun _ _ st=>let ⟨o,ho,_⟩:=st.1.obj;⟨o,ho⟩
 frame:=fun _ _ _ st hk=>⟨st.1.at fun o e=>hk it (by simp) o e,st.2.at fun o e=>hk l (by simp) o e⟩
 item:=fun i s Q E hi st hQ=>by
  refine ft st.1 st.2 (x:=items[i]) (by simp [hi]) fun h' hit' hs'=> ?_
  exact hQ _ h' s.toks (by simp [hi]) ⟨hit',st.2.at fun o e=>hs'.extBut _ _ hne e⟩ hs'
 done:=fun s Q E st hE=>gy hh st.1 st.2 (by simp) hE
section
variable{prog:Program}{w:World}{A:Around}{E:Value->Shared->Prop}{s:Shared}
theorem xB{c1 c2:Kd}{z TI TO i1 i2 l1 l2:Addr}{k:Nat}{xs ys:Array Value}{x y a b:Value}{Q:Option Value->Shared->Prop}(ap:ZipApart z TI TO i1 i2 l1 l2)(hz:IsZip s.heap z TI TO .none)(hTI:IsPair s.heap TI (.ref i1) (.ref i2))(hTO:IsPair s.heap TO a b)
 (h1:It c1 s.heap i1 l1 k) (h2:It c2 s.heap i2 l2 k) (t1:Sq c1 s.heap l1 xs) (t2:Sq c2 s.heap l2 ys) (hx:xs[k]?=some x) (hy:ys[k]?=some y)
 (hQ:∀ h',IsZip h' z TI TO (rawInt s.heap.objs.size)->IsPair h' TO x y->It c1 h' i1 l1 (k+1)->It c2 h' i2 l2 (k+1)->IsPair h' s.heap.objs.size x y->(∀ c o,c≠z->c≠TO->c≠i1->c≠i2->s.heap.get? c=some o->h'.get? c=some o)->Q (some (.ref s.heap.objs.size)) { s with heap:=h' }) :
 wpAny (model prog w) A (pyNext (.ref z)) Q E s:=by
 have hT:s.TypeIs (.ref z) "zip" := ⟨_,hz,rfl⟩;unfold pyNext
 refine Dj (wpAny_attempt (Ea (name:=Str.ofString "__next__") hT F.slot_zip_next
  (En F.slot_zip_next hT F.entry_zip_next ?_ (F.args_zip_next_1 _))))
 show wpAny _ _ (field (.ref z) 2 >>= _) _ _ _
 refine Dj (EE hz rfl (x:= .bool false) rfl ?_)
 show wpAny _ _ (field (.ref z) 3 >>= _) _ _ _
 refine Dj (EE hz rfl (x:= .ref TI) rfl ?_)
 show wpAny _ _ (seqItems? (.ref TI) >>= _) _ _ _
 refine Dj (Fl hTI rfl ?_)
 show wpAny _ _ (Builtin.SmallTypes.ownedTupleIsFree (.ref z) >>= _) _ _ _
 unfold Builtin.SmallTypes.ownedTupleIsFree;refine Dj (Dj (EE hz rfl (x:= .none) rfl (Ds ?_)))
 show wpAny _ _ (rule "zip.__next__.owned-tuple-again" >>= _) _ _ _
 refine Dj (wpAny_rule ?_)
 show wpAny _ _ (field (.ref z) 4 >>= _) _ _ _
 refine Dj (EE hz rfl (x:= .ref TO) rfl ?_)
 show wpAny _ _ (setField (.ref z) 0 .ellipsis >>= _) _ _ _
 refine Dj (EZ hz rfl (show 0 < 5 by decide) ?_);have zA:IsZip (s.heap.update z (Obj.mapFields fun q=>q.setIfInBounds 0 .ellipsis)) z TI TO .ellipsis:=EC _ hz rfl;have sA:Heap.SameBut z s.heap (s.heap.update z (Obj.mapFields fun q=>q.setIfInBounds 0 .ellipsis)):=Heap.SameBut.update ..
 generalize s.heap.update z (Obj.mapFields fun q=>q.setIfInBounds 0 .ellipsis)=hA at zA sA ⊢
 have ksA:∀ c o,c≠z->s.heap.get? c=some o->hA.get? c=some o:=fun c o n q=>(sA.2 c n).trans q
 have toA:IsPair hA TO a b:=ksA _ _ ap.TOz hTO
 have i1A:It c1 hA i1 l1 k:=h1.at fun o q=>ksA i1 o ap.i1z q
 have i2A:It c2 hA i2 l2 k:=h2.at fun o q=>ksA i2 o ap.i2z q
 have t1A:Sq c1 hA l1 xs:=t1.at fun o ho=>ksA l1 o ap.l1z ho
 have t2A:Sq c2 hA l2 ys:=t2.at fun o ho=>ksA l2 o ap.l2z ho
 show wpAny _ _ (forIn [(Value.ref i1,0),(Value.ref i2,1)] ((none:Option Fin),()) _ >>= _) _ _ _
 rw [FT];refine Dj (Dj (Dj (wpAny_onRaise ?_)))
 show wpAny _ _ (Builtin.SmallTypes.nextOf (.ref i1) >>= fun v=>pure (some v)) _ _ _
 refine Dj (ft (s:={ s with heap:=hA }) i1A t1A hx fun hB i1B sB=>Ds ?_)
 have ksB:∀ c o,c≠i1->hA.get? c=some o->hB.get? c=some o:=fun c o n q=>(sB.2 c n).trans q
 have toB:IsPair hB TO a b:=ksB _ _ ap.TOi1 toA
 show wpAny _ _ (seqItems? (.ref TO) >>= _) _ _ _
 refine Dj (Fl toB rfl ?_)
 show wpAny _ _ (updateSeq TO (fun q=>q.setIfInBounds 0 x) >>= _) _ _ _
 refine Dj (wpAny_updateSeq_pair (s:={ s with heap:=hB }) toB fun hC toC sC=> ?_);refine Dj (wpAny_letGo (Ds ?_))
 have ksC:∀ c o,c≠TO->hB.get? c=some o->hC.get? c=some o:=fun c o n q=>(sC.2 c n).trans q
 have i1C:It c1 hC i1 l1 (k+1):=i1B.at fun o q=>ksC i1 o (Ne.symm ap.TOi1) q
 have i2C:It c2 hC i2 l2 k:=(i2A.at fun o q=>ksB i2 o (Ne.symm ap.i12) q).at fun o q=>ksC i2 o (Ne.symm ap.TOi2) q
 have t2C:Sq c2 hC l2 ys:=t2A.at fun o ho=>ksC l2 o ap.l2TO (ksB l2 o ap.l2i1 ho)
 have zC:IsZip hC z TI TO .ellipsis:=ksC _ _ (Ne.symm ap.TOz) (ksB _ _ (Ne.symm ap.i1z) zA);have toC:IsPair hC TO x b:=toC
 show wpAny _ _ (forIn [(Value.ref i2,1)] ((none:Option Fin),()) _) _ _ _
 rw [FT];refine Dj (Dj (wpAny_onRaise ?_))
 show wpAny _ _ (Builtin.SmallTypes.nextOf (.ref i2) >>= fun v=>pure (some v)) _ _ _
 refine Dj (ft (s:={ s with heap:=hC }) i2C t2C hy fun hD i2D sD=>Ds ?_)
 have ksD:∀ c o,c≠i2->hC.get? c=some o->hD.get? c=some o:=fun c o n q=>(sD.2 c n).trans q
 have toD:IsPair hD TO x b:=ksD _ _ ap.TOi2 toC
 show wpAny _ _ (seqItems? (.ref TO) >>= _) _ _ _
 refine Dj (Fl toD rfl ?_)
 show wpAny _ _ (updateSeq TO (fun q=>q.setIfInBounds 1 y) >>= _) _ _ _
 refine Dj (wpAny_updateSeq_pair (s:={ s with heap:=hD }) toD fun hF toF sF=> ?_);refine Dj (wpAny_letGo (Ds ?_))
 have ksF:∀ c o,c≠TO->hD.get? c=some o->hF.get? c=some o:=fun c o n q=>(sF.2 c n).trans q
 have toF:IsPair hF TO x y:=toF;have zF:IsZip hF z TI TO .ellipsis:=ksF _ _ (Ne.symm ap.TOz) (ksD _ _ (Ne.symm ap.i2z) zC)
 have i1F:It c1 hF i1 l1 (k+1):=(i1C.at fun o q=>ksD i1 o ap.i12 q).at fun o q=>ksF i1 o (Ne.symm ap.TOi1) q
 have i2F:It c2 hF i2 l2 (k+1):=i2D.at fun o q=>ksF i2 o (Ne.symm ap.TOi2) q
 show wpAny _ _ (forIn ([]:List (Value×Nat)) ((none:Option Fin),()) _) _ _ _
 rw [List.forIn_nil];refine Ds ?_
 show wpAny _ _ (seqItems? (.ref TO) >>= _) _ _ _
 refine Dj (Fl toF rfl ?_)
 show wpAny _ _ (newTuple [x,y] >>= _) _ _ _
 unfold newTuple;have sz:hF.objs.size=s.heap.objs.size:=sF.1.trans (sD.1.trans (sC.1.trans (sB.1.trans sA.1)));refine Dj (Eg ?_ (by size_fits))
 show wpAny _ _ (Builtin.SmallTypes.ownedTupleHandOut (.ref z) (.ref hF.objs.size) >>= _) _ _ { s with heap:=hF.push { cls:= .type "tuple",data:= .seq #[x,y] } }
 have zG:IsZip (hF.push { cls:= .type "tuple",data:= .seq #[x,y] }) z TI TO .ellipsis:=Dk _ zF;have pG:IsPair (hF.push { cls:= .type "tuple",data:= .seq #[x,y] }) hF.objs.size x y:=Dw _ rfl
 have ksG:∀ c o,hF.get? c=some o->(hF.push { cls:= .type "tuple",data:= .seq #[x,y] }).get? c=some o:=fun c o q=>Dk _ q
 generalize hF.push { cls:= .type "tuple",data:= .seq #[x,y] }=hG at zG pG ksG ⊢
 unfold Builtin.SmallTypes.ownedTupleHandOut
 show wpAny _ _ ((setField (.ref z) 0 (rawInt hF.objs.size) >>= fun _=>setField (.ref z) 1 (.bool false)) >>= _) _ _ _
 refine Dj (Dj (EZ zG rfl (show 0 < 5 by decide) ?_));have zH:IsZip (hG.update z (Obj.mapFields fun q=>q.setIfInBounds 0 (rawInt hF.objs.size))) z TI TO (rawInt hF.objs.size):=EC _ zG rfl;have sH:Heap.SameBut z hG (hG.update z (Obj.mapFields fun q=>q.setIfInBounds 0 (rawInt hF.objs.size))):=Heap.SameBut.update ..
 generalize hG.update z (Obj.mapFields fun q=>q.setIfInBounds 0 (rawInt hF.objs.size))=hH at zH sH ⊢
 refine EZ zH rfl (show 1 < 5 by decide) ?_;have zJ:IsZip (hH.update z (Obj.mapFields fun q=>q.setIfInBounds 1 (.bool false))) z TI TO (rawInt hF.objs.size):=EC _ zH rfl;have sJ:Heap.SameBut z hH (hH.update z (Obj.mapFields fun q=>q.setIfInBounds 1 (.bool false))):=Heap.SameBut.update ..
 generalize hH.update z (Obj.mapFields fun q=>q.setIfInBounds 1 (.bool false))=hJ at zJ sJ ⊢
 have ksJ:∀ c o,c≠z->hF.get? c=some o->hJ.get? c=some o:=fun c o n q=>(sJ.2 c n).trans ((sH.2 c n).trans (ksG c o q))
 have nz:hF.objs.size≠z:=fun e=>absurd (Dx zF) (by rw [e];exact Fz _)
 have pJ:IsPair hJ hF.objs.size x y:=(sJ.2 _ nz).trans ((sH.2 _ nz).trans pG);refine Ds ⟨_,rfl,Ds ?_⟩;rw [sz] at zJ pJ ⊢
 refine hQ hJ zJ (ksJ _ _ ap.TOz toF) (i1F.at fun o q=>ksJ i1 o ap.i1z q) (i2F.at fun o q=>ksJ i2 o ap.i2z q) pJ fun c o n1 n2 n3 n4 q=> ?_
 exact ksJ _ _ n1 (ksF _ _ n2 (ksD _ _ n4 (ksC _ _ n2 (ksB _ _ n3 (ksA _ _ n1 q)))))
theorem AE{c1:Kd}{z TI TO i1 i2 l1 l2:Addr}{k:Nat}{xs:Array Value}{a b:Value}{Q:Option Value->Shared->Prop}(hh:A.handled=none)(ap:ZipApart z TI TO i1 i2 l1 l2)(hz:IsZip s.heap z TI TO .none)(hTI:IsPair s.heap TI (.ref i1) (.ref i2))(hTO:IsPair s.heap TO a b)
 (h1:It c1 s.heap i1 l1 k) (t1:Sq c1 s.heap l1 xs) (hx:xs[k]?=none)
 (hQ:∀ h',(∀ c o,c≠z->c≠i1->s.heap.get? c=some o->h'.get? c=some o)->Q none { s with heap:=h' }) :
 wpAny (model prog w) A (pyNext (.ref z)) Q E s:=by
 have hT:s.TypeIs (.ref z) "zip" := ⟨_,hz,rfl⟩;unfold pyNext
 refine Dj (wpAny_attempt (Ea (name:=Str.ofString "__next__") hT F.slot_zip_next
  (En F.slot_zip_next hT F.entry_zip_next ?_ (F.args_zip_next_1 _))))
 show wpAny _ _ (field (.ref z) 2 >>= _) _ _ _
 refine Dj (EE hz rfl (x:= .bool false) rfl ?_)
 show wpAny _ _ (field (.ref z) 3 >>= _) _ _ _
 refine Dj (EE hz rfl (x:= .ref TI) rfl ?_)
 show wpAny _ _ (seqItems? (.ref TI) >>= _) _ _ _
 refine Dj (Fl hTI rfl ?_)
 show wpAny _ _ (Builtin.SmallTypes.ownedTupleIsFree (.ref z) >>= _) _ _ _
 unfold Builtin.SmallTypes.ownedTupleIsFree;refine Dj (Dj (EE hz rfl (x:= .none) rfl (Ds ?_)))
 show wpAny _ _ (rule "zip.__next__.owned-tuple-again" >>= _) _ _ _
 refine Dj (wpAny_rule ?_)
 show wpAny _ _ (field (.ref z) 4 >>= _) _ _ _
 refine Dj (EE hz rfl (x:= .ref TO) rfl ?_)
 show wpAny _ _ (setField (.ref z) 0 .ellipsis >>= _) _ _ _
 refine Dj (EZ hz rfl (show 0 < 5 by decide) ?_);have zA:IsZip (s.heap.update z (Obj.mapFields fun q=>q.setIfInBounds 0 .ellipsis)) z TI TO .ellipsis:=EC _ hz rfl;have sA:Heap.SameBut z s.heap (s.heap.update z (Obj.mapFields fun q=>q.setIfInBounds 0 .ellipsis)):=Heap.SameBut.update ..
 generalize s.heap.update z (Obj.mapFields fun q=>q.setIfInBounds 0 .ellipsis)=hA at zA sA ⊢
 have ksA:∀ c o,c≠z->s.heap.get? c=some o->hA.get? c=some o:=fun c o n q=>(sA.2 c n).trans q
 have i1A:It c1 hA i1 l1 k:=h1.at fun o q=>ksA i1 o ap.i1z q
 have t1A:Sq c1 hA l1 xs:=t1.at fun o ho=>ksA l1 o ap.l1z ho
 show wpAny _ _ (forIn [(Value.ref i1,0),(Value.ref i2,1)] ((none:Option Fin),()) _ >>= _) _ _ _
 rw [FT];refine Dj (Dj (Dj (wpAny_onRaise ?_)))
 show wpAny _ _ (Builtin.SmallTypes.nextOf (.ref i1) >>= fun v=>pure (some v)) _ _ _
 refine Dj (gy (s:={ s with heap:=hA }) hh i1A t1A hx fun h' e eb he=> ?_);have zB:IsZip h' z TI TO .ellipsis:=eb _ _ (Ne.symm ap.i1z) zA;refine EZ zB rfl (show 0 < 5 by decide) ?_;have sC:Heap.SameBut z h' (h'.update z (Obj.mapFields fun q=>q.setIfInBounds 0 .none)):=Heap.SameBut.update ..;obtain ⟨o,ho,hc⟩:=he
 have ez:e≠z:=fun q=>by
  rw [q,zB] at ho;cases ho;exact absurd (show Value.type "zip" = Value.type "StopIteration" from hc) (by decide)
 have ho2:(h'.update z (Obj.mapFields fun q=>q.setIfInBounds 0 .none)).get? e=some o:=(sC.2 e ez).trans ho;refine Dj (wpAny_isInstance (T := "StopIteration") (b:=true) ⟨o,ho2,hc⟩ isSubtype_stop ?_);refine Ds (hQ _ fun c o n1 n2 q=>(sC.2 c n1).trans (eb c o n2 (ksA c o n1 q)))
end
abbrev H1(c1:Kd)(h:Heap)(l1:Addr):Heap:=h.push (zu c1 l1)
abbrev H2(c1 c2:Kd)(h:Heap)(l1 l2:Addr):Heap:=(H1 c1 h l1).push (zu c2 l2)
abbrev H3(c1 c2:Kd)(h:Heap)(l1 l2:Addr):Heap:=(H2 c1 c2 h l1 l2).push { cls:= .type "tuple",data:= .seq #[.ref h.objs.size,.ref (H1 c1 h l1).objs.size] }
abbrev H4(c1 c2:Kd)(h:Heap)(l1 l2:Addr):Heap:=(H3 c1 c2 h l1 l2).push { cls:= .type "tuple",data:= .seq #[.none,.none] }
abbrev H5(c1 c2:Kd)(h:Heap)(l1 l2:Addr):Heap:=(H4 c1 c2 h l1 l2).push { cls:= .type "zip",data:= .fields #[.none,.bool false,.bool false,.ref (H2 c1 c2 h l1 l2).objs.size,.ref (H3 c1 c2 h l1 l2).objs.size] }
theorem kc(c1 c2:Kd)(l1 l2:Addr)(xs ys:Array Value) :
 Meets (Builtin.«zip.__new__» ⟨[.type "zip",.ref l1,.ref l2],[]⟩) (fun _ R s=>Sq c1 s.heap l1 xs/\Sq c2 s.heap l2 ys /\
  R (.ok (.ret (.ref (H4 c1 c2 s.heap l1 l2).objs.size))) { s with heap:=H5 c1 c2 s.heap l1 l2 }):=by
 cases c1 with
 | T =>
  cases c2 with
  | T =>
   refine .of_wp fun prog w A R s h=> ?_
   obtain ⟨hp,g,d,tk,os⟩:=s;obtain ⟨hL1,hL2,h⟩:=h;have hsub:=sub_zip;have hL1:hp.IsTuple l1 xs:=hL1;have hL2':Heap.IsTuple (H1 .T hp l1) l2 ys:=let ⟨o,ho,r⟩:=(show hp.IsTuple l2 ys from hL2);⟨o,Dk _ ho,r⟩
   wp_walk using DZ hL1,DZ hL2'
   exact ⟨_,rfl,h⟩
  | L =>
   refine .of_wp fun prog w A R s h=> ?_
   obtain ⟨hp,g,d,tk,os⟩:=s;obtain ⟨hL1,hL2,h⟩:=h;have hsub:=sub_zip;have hL1:hp.IsTuple l1 xs:=hL1;have hL2':Heap.IsList (H1 .T hp l1) l2 ys:=let ⟨o,ho,r⟩:=(show hp.IsList l2 ys from hL2);⟨o,Dk _ ho,r⟩
   wp_walk using DZ hL1,E3 hL2'
   exact ⟨_,rfl,h⟩
 | L =>
  cases c2 with
  | T =>
   refine .of_wp fun prog w A R s h=> ?_
   obtain ⟨hp,g,d,tk,os⟩:=s;obtain ⟨hL1,hL2,h⟩:=h;have hsub:=sub_zip;have hL1:hp.IsList l1 xs:=hL1;have hL2':Heap.IsTuple (H1 .L hp l1) l2 ys:=let ⟨o,ho,r⟩:=(show hp.IsTuple l2 ys from hL2);⟨o,Dk _ ho,r⟩
   wp_walk using E3 hL1,DZ hL2'
   exact ⟨_,rfl,h⟩
  | L =>
   refine .of_wp fun prog w A R s h=> ?_
   obtain ⟨hp,g,d,tk,os⟩:=s;obtain ⟨hL1,hL2,h⟩:=h;have hsub:=sub_zip;have hL1:hp.IsList l1 xs:=hL1;have hL2':Heap.IsList (H1 .L hp l1) l2 ys:=let ⟨o,ho,r⟩:=(show hp.IsList l2 ys from hL2);⟨o,Dk _ ho,r⟩
   wp_walk using E3 hL1,E3 hL2'
   exact ⟨_,rfl,h⟩
section
variable{prog:Program}{w:World}{A:Around}{E:Value->Shared->Prop}{s:Shared}
theorem nK{c1 c2:Kd}{l1 l2:Addr}{xs ys:Array Value}{Q:Value->Shared->Prop}(h1:Sq c1 s.heap l1 xs)(h2:Sq c2 s.heap l2 ys)
 (h:∀ h',IsZip h' (s.heap.objs.size+4) (s.heap.objs.size+2) (s.heap.objs.size+3) .none->IsPair h' (s.heap.objs.size+2) (.ref s.heap.objs.size) (.ref (s.heap.objs.size+1))->IsPair h' (s.heap.objs.size+3) .none .none ->
   It c1 h' s.heap.objs.size l1 0->It c2 h' (s.heap.objs.size+1) l2 0->(∀ b o,s.heap.get? b=some o->h'.get? b=some o)->Q (.ref (s.heap.objs.size+4)) { s with heap:=h' }) :
 wpAny (model prog w) A (call (.type "zip") [.ref l1,.ref l2]) Q E s:=by
 refine callType_new F.called_zip (by decide) (F.typeCall_zip_2 _ _) (F.newCall_zip_2 _ _) (fun obj=>F.args_object_init_3 obj _ _) F.entry_zip_new (kc c1 c2 l1 l2 xs ys) ⟨h1,h2,?_⟩;have z1:(H1 c1 s.heap l1).objs.size=s.heap.objs.size+1:=DY ..;have z2:(H2 c1 c2 s.heap l1 l2).objs.size=s.heap.objs.size+2:=(DY ..).trans (by rw [z1]);have z3:(H3 c1 c2 s.heap l1 l2).objs.size=s.heap.objs.size+3:=(DY ..).trans (by rw [z2]);have z4:(H4 c1 c2 s.heap l1 l2).objs.size=s.heap.objs.size+4:=(DY ..).trans (by rw [z3])
 have kz:∀ {h0:Heap} {o:Obj} (b:Addr) (u:Obj),h0.get? b=some u->(h0.push o).get? b=some u:=fun b u q=>Dk _ q
 have hz:IsZip (H5 c1 c2 s.heap l1 l2) (s.heap.objs.size+4) (s.heap.objs.size+2) (s.heap.objs.size+3) .none:=by
  have:=Dw (H4 c1 c2 s.heap l1 l2) (o:={ cls:= .type "zip",data:= .fields #[.none,.bool false,.bool false,.ref (H2 c1 c2 s.heap l1 l2).objs.size,.ref (H3 c1 c2 s.heap l1 l2).objs.size] }) rfl;rw [z4] at this
  show (H5 c1 c2 s.heap l1 l2).get? _=_
  rw [show H5 c1 c2 s.heap l1 l2=(H4 c1 c2 s.heap l1 l2).push { cls:= .type "zip",data:= .fields #[.none,.bool false,.bool false,.ref (H2 c1 c2 s.heap l1 l2).objs.size,.ref (H3 c1 c2 s.heap l1 l2).objs.size] } from rfl,this,z2,z3]
 have hTO:IsPair (H5 c1 c2 s.heap l1 l2) (s.heap.objs.size+3) .none .none:=by
  have:=Dw (H3 c1 c2 s.heap l1 l2) (o:={ cls:= .type "tuple",data:= .seq #[.none,.none] }) rfl;rw [z3] at this;exact kz _ _ this
 have hTI:IsPair (H5 c1 c2 s.heap l1 l2) (s.heap.objs.size+2) (.ref s.heap.objs.size) (.ref (s.heap.objs.size+1)):=by
  have:=Dw (H2 c1 c2 s.heap l1 l2) (o:={ cls:= .type "tuple",data:= .seq #[.ref s.heap.objs.size,.ref (H1 c1 s.heap l1).objs.size] }) rfl;rw [z2,z1] at this;have e:=kz (o:={ cls:= .type "zip",data:= .fields #[.none,.bool false,.bool false,.ref (H2 c1 c2 s.heap l1 l2).objs.size,.ref (H3 c1 c2 s.heap l1 l2).objs.size] }) _ _ (kz (o:={ cls:= .type "tuple",data:= .seq #[.none,.none] }) _ _ this);rw [<- z1] at e ⊢;exact e
 have hi2:It c2 (H5 c1 c2 s.heap l1 l2) (s.heap.objs.size+1) l2 0:=by
  have:=It.new (c:=c2) (h:=H1 c1 s.heap l1) (l:=l2);rw [z1] at this
  exact this.at fun o q=>kz _ _ (kz _ _ (kz _ _ q))
 have hi1:It c1 (H5 c1 c2 s.heap l1 l2) s.heap.objs.size l1 0:=(It.new (c:=c1) (h:=s.heap) (l:=l1)).at fun o q=>kz _ _ (kz _ _ (kz _ _ (kz _ _ q)))
 show _/\_
 rw [z4];exact ⟨⟨_,hz,rfl⟩,h _ hz hTI hTO hi1 hi2 fun b o q=>kz _ _ (kz _ _ (kz _ _ (kz _ _ (kz _ _ q))))⟩
end
end ZpA
namespace L2
open PySem PySem.Spec PyProof.Rows ZpA
noncomputable def SqA:Kd->FZ->Hp->Addr->List V->Prop
 | .L=>SqL
 | .T=>SqT
theorem Inv.seqA{X:Cx}{pins:List (Addr×Obj)}{σ:St}{H:Hp}{s:Shared}{c:Kd}{a:Addr}{xs:List V}(I:Inv X pins σ H s)(h:SqA c X.K H a xs):∃ its:List Value,aC xs its/\Sq c s.heap a its.toArray/\xs.length<=sizeLine:=by
 cases c with
 | L=>obtain ⟨its,r,p,z⟩:=I.list h;exact ⟨its,r,p.isList,z⟩
 | T=>obtain ⟨its,r,p,z⟩:=I.tuple h;exact ⟨its,r,(show s.heap.IsTuple a its.toArray from p),z⟩
theorem Inv.seqA_inj{X:Cx}{pins:List (Addr×Obj)}{σ:St}{H:Hp}{s:Shared}{c:Kd}{a:Addr}{xs ys:List V}(I:Inv X pins σ H s)(h:SqA c X.K H a xs)(h':SqA c X.K H a ys):xs=ys:=by
 cases c with
 | L=>exact I.list_inj h h'
 | T=>exact I.tuple_inj h h'
theorem wN{prog:Program}{w:World}{A:Around}{E:Value->Shared->Prop}{s:Shared}{c:Kd}{e it l:Addr}{i:Nat}{j:Int}{items:Array Value}{old:Value}{Q:Option Value->Shared->Prop}(hh:A.handled=none)
 (he:IsEnum s.heap e it j old) (hit:ZpA.It c s.heap it l i) (hl:Sq c s.heap l items) (hx:items[i]?=none)
 (hQ:∀ h',Heap.ExtBut it s.heap h'->Q none { s with heap:=h' }):wpAny (model prog w) A (pyNext (.ref e)) Q E s:=by
 have hT:s.TypeIs (.ref e) "enumerate" := ⟨_,he,rfl⟩;unfold pyNext
 refine Dj (wpAny_attempt (Ea (name:=Str.ofString "__next__") hT F.slot_enumerate_next
  (En F.slot_enumerate_next hT F.entry_enumerate_next ?_ (F.args_enumerate_next_1 _))))
 show wpAny _ _ (field (.ref e) 2 >>= _) _ _ _
 refine Dj (EE he rfl (x:= .ref it) rfl ?_);refine Dj (ZpA.gy hh hit hl hx fun h' x he' hx'=> ?_);obtain ⟨o,ho,hc⟩:=hx';refine Dj (wpAny_isInstance (T := "StopIteration") (b:=true) ⟨o,ho,hc⟩ isSubtype_stop ?_);exact Ds (hQ _ he')
theorem Ad{prog:Program}{w:World}{A:Around}{E:Value->Shared->Prop}{s:Shared}{c:Kd}{l:Addr}{items:Array Value}{Q:Value->Shared->Prop}(hL:Sq c s.heap l items)
 (h:∀ h',IsEnum h' (s.heap.objs.size+1) s.heap.objs.size 0 .none->ZpA.It c h' s.heap.objs.size l 0->h'.objs.size=s.heap.objs.size+2 ->
   (∀ b o,s.heap.get? b=some o->h'.get? b=some o)->Q (.ref (s.heap.objs.size+1)) { s with heap:=h' }) :
 wpAny (model prog w) A (call (.type "enumerate") [.ref l]) Q E s:=by
 cases c with
 | L=>exact call_enumerate_list (show s.heap.IsList l items from hL) h
 | T=>exact EnT.nK (show s.heap.IsTuple l items from hL) h
noncomputable def IteA(c:Kd)(K:FZ)(a:Addr):L2.It :=
 ⟨fun i H=>∃ xs x,SqA c K H a xs/\xs[i]?=some x,fun i H x H'=>∃ p y,x = .ref p/\H p=none/\H'=upd H p (.tup [.int (i:Nat),y])/\∀ xs,SqA c K H a xs->xs[i]?=some y,fun i H=>∃ xs,SqA c K H a xs/\xs.length<=i⟩
theorem tP{c:Kd}{P:Program}{w:World}{K:FZ}{elts:List Expr}{k}{tpos:Pos}(a e it:Addr)(hei:e≠it):xw P w K (.Tuple elts k tpos) (IteA c K a) [e,it] e (fun i h=>(∃ old,IsEnum h e it (i:Nat) old)/\ZpA.It c h it a i) where
 mem:=by simp
 obj:=fun i h st b hb=>by
  obtain ⟨⟨old,he⟩,hit⟩:=st;obtain ⟨o,ho,⟨vs,hd⟩,hc⟩:=hit.obj
  have hb':b=e\/b=it:=by simpa using hb
  rcases hb' with rfl | rfl
  ·exact ⟨_,he,fun v z=>by
    have z':Data.fields _=Data.cell v:=z
    cases z'⟩
  ·exact ⟨o,ho,fun v z=>by rw [hd] at z;cases z⟩
 keep:=fun i h h' st k=>by
  obtain ⟨⟨old,he⟩,hit⟩:=st;exact ⟨⟨old,k e (by simp) _ he⟩,hit.at fun o x=>k it (by simp) o x⟩
 item:=by
  intro X hP hw hK hc i pins s σ H E I hf st hg;subst hP hw hK;obtain ⟨xs,y,hq,hx⟩:=hg;obtain ⟨its,rv,p,hz⟩:=I.seqA hq;obtain ⟨u,hu,ru⟩:=rv.get hx;obtain ⟨⟨old,he⟩,hit⟩:=st;have pt:=p
  have hea:e≠a:=fun z=>by
   obtain ⟨o,ho,hc⟩:=p.obj;rw [<- z,he] at ho;cases ho
   rcases hc with hc | hc
   ·exact absurd (show Value.type "enumerate" = Value.type "list" from hc) (by decide)
   ·exact absurd (show Value.type "enumerate" = Value.type "tuple" from hc) (by decide)
  have hia:a≠it:=fun z=>by
   obtain ⟨o,ho,hc⟩:=p.obj;obtain ⟨o',ho',_,hc'⟩:=hit.obj;rw [z,ho'] at ho;cases ho
   rcases hc with hc | hc<;>rcases hc' with hc' | hc'<;>(rw [hc] at hc';exact absurd hc' (by decide))
  have hil:i < its.toArray.size:=by
   have:=(DA.mp hu).1;simpa using this
  refine wpAny_pyNext_enum_itemD (ZpA.draws (c:=c) (prog:=X.prog) (w:=X.w) (A:=X.A.in1) (I.ok.hd hc) it a hia its.toArray) he ⟨hit,pt⟩ hil hei (by simp [hea,hei]) fun x h' tk hPx ho st' hT hsz hk=> ?_
  have hxu:x=u:=by
   have:its.toArray[i]?=some u:=by simpa using hu
   rw [this] at hPx;exact (Option.some.inj hPx).symm
  subst hxu;refine ⟨_,rfl,wpAny_letOwnedTupleGo_enum ho fun h'' he' hs'=> ?_⟩
  replace hs':Heap.SameBut e h' h'':=hs'
  have hel:e < s.heap.objs.size:=Dx he
  have hil':it < s.heap.objs.size:=by obtain ⟨o,ho,_⟩:=hit.obj;exact Dx ho
  have kp:∀ b o,b≠e->b≠it->s.heap.get? b=some o->h''.get? b=some o:=fun b o n1 n2 q=>(hs'.2 b n1).trans (hk b o n1 n2 q)
  have hT2:h''.get? s.heap.objs.size=some { cls:= .type "tuple",data:= .seq #[.int (i:Nat) tk,x] }:=(hs'.2 _ (E7 hel)).trans hT;have hTn:H s.heap.objs.size=none:=I.hok.fresh (Dy _);have fe:=hf e (by simp);have fi:=hf it (by simp)
  have nte:∀ b u,H b=some u->b≠e:=fun b u q z=>by rw [z,fe.1] at q;cases q
  have nti:∀ b u,H b=some u->b≠it:=fun b u q z=>by rw [z,fi.1] at q;cases q
  have hok:HOk X.prog X.w (upd H s.heap.objs.size (.tup [.int (i:Nat),y])) h'':=fun b ob q=>by
   by_cases hb:b=s.heap.objs.size
   ·subst hb
    rw [ao] at q;cases q;exact ⟨by show 2<=sizeLine;decide,[.int (i:Nat) tk,x],.cons ⟨tk,rfl⟩ (.cons ru .nil),⟨_,hT2,rfl,_,rfl⟩⟩
   ·rw [am hb] at q
    refine (I.hok b ob q).stay (fun c v hc q'=> ?_) (fun c q'=>by rw [am (aq q' hTn)];exact q') fun c xs q'=>by rw [am (aq q' hTn)];exact q'
    rcases hc with rfl | hc
    ·exact kp _ _ (nte _ _ q) (nti _ _ q) q'
    ·exact kp _ _ (nte _ _ hc) (nti _ _ hc) q'
  have mem2:∀ b,b∉[e,it]->b≠e/\b≠it:=fun b hb=>by
   have:=hb;simp at this;exact this
  have I2:Inv X pins σ (upd H s.heap.objs.size (.tup [.int (i:Nat),y])) { s with heap:=h'',toks:=tk+1 } :=
   I.step (g':=s.gens) (d':=s.drawn) (ch:=[e,it]) (fun b hb=>by
    have hb':b=e\/b=it:=by simpa using hb
    rcases hb' with rfl | rfl
    ·exact ⟨fe.2.2.2.1,fe.2.1,fe.2.2.2.2.1,fe.2.2.2.2.2⟩
    ·exact ⟨fi.2.2.2.1,fi.2.1,fi.2.2.2.2.1,fi.2.2.2.2.2⟩)
    (fun b o _ _ hc q _=>kp b o (mem2 b hc).1 (mem2 b hc).2 q) (fun b o _ _ hc q _=>⟨o.slots,kp b o (mem2 b hc).1 (mem2 b hc).2 q⟩)
    (fun b o _ q n=>by rw [am (DL (Dx q))];exact n) (fun b o hc q=>⟨o,kp b o (mem2 b hc).1 (mem2 b hc).2 q⟩)
    (fun b xs q=>by rw [am (aq q hTn)];exact q) (fun b o u q=>by rw [am (aq q hTn)];exact q) (fun b ps q=>⟨#[],by rw [am (aq q hTn),q];simp⟩)
    (fun m hm=>by obtain ⟨o,es,ep,ho,r⟩:=hm;exact ⟨o,es,ep,kp _ o (Ne.symm fe.2.1) (Ne.symm fi.2.1) ho,r⟩) hok I.bare
  refine ⟨.ref s.heap.objs.size,_,I2,rfl,⟨_,y,rfl,hTn,rfl,fun ys hy=>by rw [I.seqA_inj hy hq];exact hx⟩,⟨⟨x,?_⟩,?_⟩,fun b hb=> ?_⟩
  ·have:((i+1:Nat):Int)=(i:Int)+1:=by push_cast;rfl
   rw [this];exact he'
  ·exact st'.1.at fun o q=>(hs'.2 it (Ne.symm hei)).trans q
  ·have hb':b=e\/b=it:=by simpa using hb
   rcases hb' with rfl | rfl
   ·rw [am (DL hel)];exact fe.1
   ·rw [am (DL hil')];exact fi.1
 done:=by
  intro X hP hw hK hc i pins s σ H E I hf st hg;subst hP hw hK;obtain ⟨xs,hq,hx⟩:=hg;obtain ⟨its,rv,p,hz⟩:=I.seqA hq;obtain ⟨⟨old,he⟩,hit⟩:=st;obtain ⟨f0,f1,f2,f3,f4,f5⟩:=hf it (by simp);have hl:=rv.length
  have hia:a≠it:=fun z=>by
   obtain ⟨o,ho,hc⟩:=p.obj;obtain ⟨o',ho',_,hc'⟩:=hit.obj;rw [z,ho'] at ho;cases ho
   rcases hc with hc | hc<;>rcases hc' with hc' | hc'<;>(rw [hc] at hc';exact absurd hc' (by decide))
  refine wN (I.ok.hd hc) he hit p (by simp;omega) fun h' eb=>⟨rfl,I.turned (t':=s.toks) (fun b o hb e=>eb b o hb e) f0 f1 f3 f4 f5⟩
 self:=fun _ _ _ _ _ st h=>by
  obtain ⟨⟨old,he⟩,_⟩:=st;exact wpAny_pyIter_enum he h
section
variable{X:Cx}
noncomputable def iEnumA(K:FZ)(ta:TA):TI:=fun σ H R=>ta σ H fun vs H1=>∃ a c,vs=[.ref a]/\(∃ xs,SqA c K H1 a xs/\(xs.length<=sizeLine->R (IteA c K a) H1))
theorem yC{elts:List Expr}{k}{tpos:Pos}{l:Expr}{ta:TA}{p pos:Pos}(hg:Gl X "enumerate")(hm:X.mg "enumerate" = none)(ha:PA X [l] ta)(hs:starEach [l] X.env=[(false,eval l X.env)]:=by rfl) :
 PI X (.Tuple elts k tpos) (.Call (.Name "enumerate" p) [l] [] pos) (iEnumA X.K ta):=by
 intro pins s σ H R I h;refine Call_ (iV I hg hm boot_enumerate (PyProof.Rows.callWith_type1 (thn (ha pos pins s σ H _ I h) fun us s1 ⟨vs,H1,I1,r1,q1⟩=> ?_) hs rfl));obtain ⟨a,c,e,xs,hq,q⟩:=q1;subst e
 cases r1 with
 | cons r rr =>
  cases rr;cases r;obtain ⟨its,rv,p,hz⟩:=I1.seqA hq
  refine Ad p fun h' he hit hsz hk=> ?_
  refine wpAny_pyIter_enum he ?_;refine ⟨s1.heap.objs.size+1,[s1.heap.objs.size+1,s1.heap.objs.size],_,_,H1,rfl,I1.kept (t':=s1.toks) hk,tP a _ s1.heap.objs.size (E7 (Fd _)),⟨⟨.none,he⟩,hit⟩,fun b hb=> ?_,q hz⟩
  have hb':b=s1.heap.objs.size+1\/b=s1.heap.objs.size:=by simpa using hb
  rcases hb' with rfl | rfl
  ·exact I1.fpOk (by omega) (I1.hok.fresh (by omega))
  ·exact I1.fpOk (Dy _) (I1.hok.fresh (Dy _))
end
noncomputable def ItzA(c1 c2:Kd)(K:FZ)(a b:Addr):L2.It :=
 ⟨fun i H=>∃ xs ys x y,SqA c1 K H a xs/\SqA c2 K H b ys/\xs[i]?=some x/\ys[i]?=some y,fun i H x H'=>∃ p y z,x = .ref p/\H p=none/\H'=upd H p (.tup [y,z])/\(∀ xs,SqA c1 K H a xs->xs[i]?=some y)/\∀ ys,SqA c2 K H b ys->ys[i]?=some z,fun i H=>∃ xs,SqA c1 K H a xs/\xs.length<=i⟩
noncomputable def ZipStA(c1 c2:Kd)(a b z TI TO i1 i2:Addr)(i:Nat)(h:Heap):Prop:=IsZip h z TI TO .none/\IsPair h TI (.ref i1) (.ref i2)/\(∃ x y,IsPair h TO x y)/\ZpA.It c1 h i1 a i/\ZpA.It c2 h i2 b i
theorem vX{c1 c2:Kd}{P:Program}{w:World}{K:FZ}{elts:List Expr}{k}{tpos:Pos}(a b z TI TO i1 i2:Addr)(ap:ZipApart z TI TO i1 i2 a b) :
 xw P w K (.Tuple elts k tpos) (ItzA c1 c2 K a b) [z,TI,TO,i1,i2] z (ZipStA c1 c2 a b z TI TO i1 i2) where
 mem:=by simp
 obj:=fun i h st c hc=>by
  obtain ⟨hz,hTI,⟨x,y,hTO⟩,j1,j2⟩:=st;obtain ⟨o1,ho1,⟨v1,hd1⟩,hc1⟩:=j1.obj;obtain ⟨o2,ho2,⟨v2,hd2⟩,hc2⟩:=j2.obj
  have hc':c=z\/c=TI\/c=TO\/c=i1\/c=i2:=by simpa using hc
  rcases hc' with rfl | rfl | rfl | rfl | rfl
  ·exact ⟨_,hz,fun v q=>by have q':Data.fields _=Data.cell v:=q;cases q'⟩
  ·exact ⟨_,hTI,fun v q=>by have q':Data.seq _ _=Data.cell v:=q;cases q'⟩
  ·exact ⟨_,hTO,fun v q=>by have q':Data.seq _ _=Data.cell v:=q;cases q'⟩
  ·exact ⟨o1,ho1,fun v q=>by rw [hd1] at q;cases q⟩
  ·exact ⟨o2,ho2,fun v q=>by rw [hd2] at q;cases q⟩
 keep:=fun i h h' st k=>by
  obtain ⟨hz,hTI,⟨x,y,hTO⟩,h1,h2⟩:=st;exact ⟨k z (by simp) _ hz,k TI (by simp) _ hTI,⟨x,y,k TO (by simp) _ hTO⟩,h1.at fun o q=>k i1 (by simp) o q,h2.at fun o q=>k i2 (by simp) o q⟩
 item:=by
  intro X hP hw hK hc i pins s σ H E I hf st hg;subst hP hw hK;obtain ⟨xs,ys,y,y',hq,hq',hx,hx'⟩:=hg;obtain ⟨its,rv,p,hz'⟩:=I.seqA hq;obtain ⟨its',rv',p',hz''⟩:=I.seqA hq';obtain ⟨u,hu,ru⟩:=rv.get hx;obtain ⟨u',hu',ru'⟩:=rv'.get hx';obtain ⟨hz,hTI,⟨x0,y0,hTO⟩,h1,h2⟩:=st
  have hn:∀ c,c∈[z,TI,TO,i1,i2]->H c=none:=fun c hc=>(hf c hc).1
  have hTn:H s.heap.objs.size=none:=I.hok.fresh (Dy _)
  refine ZpA.xB ap hz hTI hTO h1 h2 p p' (x:=u) (y:=u') (by simpa using hu) (by simpa using hu') fun h' z' to' i1' i2' pT ks=>⟨_,rfl,wpAny_letOwnedTupleGo_zip z' fun h'' zz hs=> ?_⟩
  replace hs:Heap.SameBut z h' h'':=hs
  have lz:z < s.heap.objs.size:=Dx hz;have lTI:TI < s.heap.objs.size:=Dx hTI;have lTO:TO < s.heap.objs.size:=Dx hTO
  have li1:i1 < s.heap.objs.size:=by obtain ⟨o,ho,_⟩:=h1.obj;exact Dx ho
  have li2:i2 < s.heap.objs.size:=by obtain ⟨o,ho,_⟩:=h2.obj;exact Dx ho
  have kp:∀ c o,c≠z->c≠TO->c≠i1->c≠i2->s.heap.get? c=some o->h''.get? c=some o:=fun c o n1 n2 n3 n4 q=>(hs.2 c n1).trans (ks c o n1 n2 n3 n4 q)
  have hT2:IsPair h'' s.heap.objs.size u u':=(hs.2 _ (E7 lz)).trans pT
  have nt:∀ c o,H c=some o->c≠z/\c≠TO/\c≠i1/\c≠i2:=fun c o q=>⟨fun e=>(by rw [e,hn z (by simp)] at q;cases q),fun e=>(by rw [e,hn TO (by simp)] at q;cases q),fun e=>(by rw [e,hn i1 (by simp)] at q;cases q),fun e=>(by rw [e,hn i2 (by simp)] at q;cases q)⟩
  have kp':∀ c o u,H c=some u->s.heap.get? c=some o->h''.get? c=some o:=fun c o u q q'=>by
   obtain ⟨n1,n2,n3,n4⟩:=nt c u q;exact kp c o n1 n2 n3 n4 q'
  have hok:HOk X.prog X.w (upd H s.heap.objs.size (.tup [y,y'])) h'':=fun c ob q=>by
   by_cases hb:c=s.heap.objs.size
   ·subst hb
    rw [ao] at q;cases q;exact ⟨by show 2<=sizeLine;decide,[u,u'],.cons ru (.cons ru' .nil),⟨_,hT2,rfl,_,rfl⟩⟩
   ·rw [am hb] at q
    refine (I.hok c ob q).stay (fun e v he q'=> ?_) (fun e q'=>by rw [am (aq q' hTn)];exact q') fun e xs q'=>by rw [am (aq q' hTn)];exact q'
    rcases he with rfl | he
    ·exact kp' _ _ _ q q'
    ·exact kp' _ _ _ he q'
  have mem4:∀ c,c∉[z,TO,i1,i2]->c≠z/\c≠TO/\c≠i1/\c≠i2:=fun c hc=>by
   have:=hc;simp at this;exact this
  have I2:Inv X pins σ (upd H s.heap.objs.size (.tup [y,y'])) { s with heap:=h'' } :=
   I.step (g':=s.gens) (d':=s.drawn) (t':=s.toks) (ch:=[z,TO,i1,i2]) (fun c hc=>by
    have hc':c∈[z,TI,TO,i1,i2]:=by simp at hc ⊢;rcases hc with e | e | e | e<;>simp [e]
    have f:=hf c hc'
    exact ⟨f.2.2.2.1,f.2.1,f.2.2.2.2.1,f.2.2.2.2.2⟩)
    (fun c o _ _ hc q _=>by obtain ⟨n1,n2,n3,n4⟩:=mem4 c hc;exact kp c o n1 n2 n3 n4 q) (fun c o _ _ hc q _=>by obtain ⟨n1,n2,n3,n4⟩:=mem4 c hc;exact ⟨o.slots,kp c o n1 n2 n3 n4 q⟩)
    (fun c o _ q n=>by rw [am (DL (Dx q))];exact n) (fun c o hc q=>by obtain ⟨n1,n2,n3,n4⟩:=mem4 c hc;exact ⟨o,kp c o n1 n2 n3 n4 q⟩)
    (fun c xs q=>by rw [am (aq q hTn)];exact q) (fun c o u q=>by rw [am (aq q hTn)];exact q) (fun c ps q=>⟨#[],by rw [am (aq q hTn),q];simp⟩)
    (fun m hm=>by obtain ⟨o,es,ep,ho,r⟩:=hm;exact ⟨o,es,ep,kp _ o (Ne.symm (hf z (by simp)).2.1) (Ne.symm (hf TO (by simp)).2.1) (Ne.symm (hf i1 (by simp)).2.1) (Ne.symm (hf i2 (by simp)).2.1) ho,r⟩) hok I.bare
  refine ⟨.ref s.heap.objs.size,_,I2,rfl,⟨_,y,y',rfl,hTn,rfl,fun zs hy=>by rw [I.seqA_inj hy hq];exact hx,fun zs hy=>by rw [I.seqA_inj hy hq'];exact hx'⟩,⟨zz,?_,⟨u,u',?_⟩,?_,?_⟩,fun c hc=> ?_⟩
  ·exact kp TI _ ap.TIz ap.TITO ap.TIi1 ap.TIi2 hTI
  ·exact (hs.2 TO ap.TOz).trans to'
  ·exact i1'.at fun o q=>(hs.2 i1 ap.i1z).trans q
  ·exact i2'.at fun o q=>(hs.2 i2 ap.i2z).trans q
  ·have hc':c=z\/c=TI\/c=TO\/c=i1\/c=i2:=by simpa using hc
   have lc:c < s.heap.objs.size:=by rcases hc' with rfl | rfl | rfl | rfl | rfl<;>assumption
   rw [am (DL lc)];exact hn c hc
 done:=by
  intro X hP hw hK hc i pins s σ H E I hf st hg;subst hP hw hK;obtain ⟨xs,hq,hx⟩:=hg;obtain ⟨its,rv,p,hz'⟩:=I.seqA hq;obtain ⟨hz,hTI,⟨x0,y0,hTO⟩,h1,h2⟩:=st;have hl:=rv.length
  have hn:∀ c,c∈[z,TI,TO,i1,i2]->H c=none:=fun c hc=>(hf c hc).1
  refine ZpA.AE (I.ok.hd hc) ap hz hTI hTO h1 p (by simp;omega) fun h' ks=>⟨rfl,?_⟩
  have nt:∀ c o,H c=some o->c≠z/\c≠i1:=fun c o q=>⟨fun e=>(by rw [e,hn z (by simp)] at q;cases q),fun e=>(by rw [e,hn i1 (by simp)] at q;cases q)⟩
  have kp':∀ c o u,H c=some u->s.heap.get? c=some o->h'.get? c=some o:=fun c o u q q'=>by
   obtain ⟨n1,n3⟩:=nt c u q;exact ks c o n1 n3 q'
  have hok:HOk X.prog X.w H h':=fun c ob q=>by
   refine (I.hok c ob q).stay (fun e v he q'=> ?_) (fun e q'=>q') fun e xs q'=>q'
   rcases he with rfl | he
   ·exact kp' _ _ _ q q'
   ·exact kp' _ _ _ he q'
  have mem2:∀ c,c∉[z,i1]->c≠z/\c≠i1:=fun c hc=>by
   have:=hc;simp at this;exact this
  exact I.step (g':=s.gens) (d':=s.drawn) (t':=s.toks) (ch:=[z,i1]) (fun c hc=>by
   have hc':c∈[z,TI,TO,i1,i2]:=by simp at hc ⊢;rcases hc with e | e<;>simp [e]
   have f:=hf c hc'
   exact ⟨f.2.2.2.1,f.2.1,f.2.2.2.2.1,f.2.2.2.2.2⟩)
   (fun c o _ _ hc q _=>by obtain ⟨n1,n3⟩:=mem2 c hc;exact ks c o n1 n3 q) (fun c o _ _ hc q _=>by obtain ⟨n1,n3⟩:=mem2 c hc;exact ⟨o.slots,ks c o n1 n3 q⟩)
   (fun c o _ q n=>n) (fun c o hc q=>by obtain ⟨n1,n3⟩:=mem2 c hc;exact ⟨o,ks c o n1 n3 q⟩)
   (fun c xs q=>q) (fun c o u q=>q) (fun c ps q=>⟨#[],by rw [q];simp⟩)
   (fun m hm=>by obtain ⟨o,es,ep,ho,r⟩:=hm;exact ⟨o,es,ep,ks _ o (Ne.symm (hf z (by simp)).2.1) (Ne.symm (hf i1 (by simp)).2.1) ho,r⟩) hok I.bare
 self:=fun _ _ _ _ _ st h=>wpAny_pyIter_zip st.1 h
section
variable{X:Cx}
noncomputable def iZipA(K:FZ)(ta:TA):TI:=fun σ H R=>ta σ H fun vs H1=>∃ a b c1 c2,vs=[.ref a,.ref b]/\(∃ xs,SqA c1 K H1 a xs/\(xs.length<=sizeLine->(∃ ys,SqA c2 K H1 b ys)/\R (ItzA c1 c2 K a b) H1))
theorem Bw{elts:List Expr}{k}{tpos:Pos}{l l':Expr}{ta:TA}{p pos:Pos}(hg:Gl X "zip")(hm:X.mg "zip" = none)(ha:PA X [l,l'] ta)(hs:starEach [l,l'] X.env=[(false,eval l X.env),(false,eval l' X.env)]:=by rfl)(hs2:starEach [l'] X.env=[(false,eval l' X.env)]:=by rfl) :
 PI X (.Tuple elts k tpos) (.Call (.Name "zip" p) [l,l'] [] pos) (iZipA X.K ta):=by
 intro pins s σ H R I h;refine Call_ (iV I hg hm boot_zip (PyProof.Rows.callWith_type1 (thn (ha pos pins s σ H _ I h) fun us s1 ⟨vs,H1,I1,r1,q1⟩=> ?_) (by rw [hs,hs2]) (by rw [hs2];rfl)));obtain ⟨a,b,c1,c2,e,xs,hq,q⟩:=q1;subst e;obtain ⟨u,u',rfl,ru,ru'⟩:=oD r1;cases ru;cases ru';obtain ⟨its,rv,p,hz⟩:=I1.seqA hq;obtain ⟨⟨ys,hq'⟩,q⟩:=q hz;obtain ⟨its',rv',p',hz'⟩:=I1.seqA hq'
 have la:a < s1.heap.objs.size:=by obtain ⟨o,ho,_⟩:=p.obj;exact Dx ho
 have lb:b < s1.heap.objs.size:=by obtain ⟨o,ho,_⟩:=p'.obj;exact Dx ho
 refine ZpA.nK p p' fun h' hz hTI hTO h1 h2 hk=> ?_
 refine wpAny_pyIter_zip hz ?_;refine ⟨s1.heap.objs.size+4,[s1.heap.objs.size+4,s1.heap.objs.size+2,s1.heap.objs.size+3,s1.heap.objs.size,s1.heap.objs.size+1],_,_,H1,rfl,I1.kept (t':=s1.toks) hk,vX a b _ _ _ _ _ (zipApart_new la lb),⟨hz,hTI,⟨_,_,hTO⟩,h1,h2⟩,fun c hc=> ?_,q⟩
 have hc':c=s1.heap.objs.size+4\/c=s1.heap.objs.size+2\/c=s1.heap.objs.size+3\/c=s1.heap.objs.size\/c=s1.heap.objs.size+1:=by simpa using hc
 have lc:s1.heap.objs.size<=c:=by
  rcases hc' with rfl | rfl | rfl | rfl | rfl
  ·exact FL _ _
  ·exact FL _ _
  ·exact FL _ _
  ·exact Dy _
  ·exact FL _ _
 exact I1.fpOk lc (I1.hok.fresh lc)
end
end L2
namespace L2
open PySem PySem.Spec PyProof.Rows
inductive D where
 | non | bl (b:Bool) | int (i:Int) | str (x:Str) | tup (l:List D) | lst (l:List D) | ktup (l:List D) | klst (l:List D)
 | dK (ks:List Key) (vs:List D) | dT (ks:List (List Key)) (vs:List D) | set (l:List Int) | rng (lo hi:Int) | exc (C:Str)
noncomputable def gK(K:FZ)(nm:Str)(C:Addr):Prop:=PySem.W.nsIn K mainGlobals nm=some (some (.ref C))
mutual
noncomputable def aF(K:FZ)(H:Hp):D->V->Prop
 | .non,v=>v = .non
 | .bl b,v=>v = .bl b
 | .int i,v=>v = .int i
 | .str x,v=>v = .str x
 | .tup ds,v=>∃ p xs,v = .ref p/\H p=some (.tup xs)/\ak K H ds xs
 | .lst ds,v=>∃ p xs,v = .ref p/\H p=some (.lst xs)/\ak K H ds xs
 | .klst ds,v=>∃ p xs,v = .ref p/\SqL K H p xs/\ak K H ds xs
 | .ktup ds,v=>∃ p xs,v = .ref p/\SqT K (fun _=>none) p xs/\ak K H ds xs
 | .dK ks ds,v=>∃ p xs,v = .ref p/\H p=some (.dK (ks.zip xs))/\ks.length=xs.length/\ak K H ds xs
 | .dT ks ds,v=>∃ p xs,v = .ref p/\H p=some (.dT (ks.zip xs))/\ks.length=xs.length/\ak K H ds xs
 | .set l,v=>∃ p S,v = .ref p/\H p=some (.set S l.length)/\∀ x,S x=true↔x∈l
 | .rng lo hi,v=>∃ p,v = .ref p/\H p=some (.rng lo hi)
 | .exc nm,v=>∃ p C,v = .ref p/\gK K nm C/\H p=some (nA p C)
noncomputable def ak(K:FZ)(H:Hp):List D->List V->Prop
 | [],[]=>True
 | d::ds,x::xs=>aF K H d x/\ak K H ds xs
 | _,_=>False
end
mutual
theorem ai.repD{K:FZ}{H H':Hp}(e:ai H H'):∀ {d:D} {v:V},aF K H d v->aF K H' d v
 | .non,_,h=>h
 | .bl _,_,h=>h
 | .int _,_,h=>h
 | .str _,_,h=>h
 | .tup _,_,⟨p,xs,h1,h2,h3⟩=>⟨p,xs,h1,e _ _ h2,e.repDs h3⟩
 | .lst _,_,⟨p,xs,h1,h2,h3⟩=>⟨p,xs,h1,e _ _ h2,e.repDs h3⟩
 | .klst _,_,⟨p,xs,h1,h2,h3⟩=>⟨p,xs,h1,e.seq h2,e.repDs h3⟩
 | .ktup _,_,⟨p,xs,h1,h2,h3⟩=>⟨p,xs,h1,h2,e.repDs h3⟩
 | .dK _ _,_,⟨p,xs,h1,h2,h3,h4⟩=>⟨p,xs,h1,e _ _ h2,h3,e.repDs h4⟩
 | .dT _ _,_,⟨p,xs,h1,h2,h3,h4⟩=>⟨p,xs,h1,e _ _ h2,h3,e.repDs h4⟩
 | .set _,_,⟨p,S,h1,h2,h3⟩=>⟨p,S,h1,e _ _ h2,h3⟩
 | .rng _ _,_,⟨p,h1,h2⟩=>⟨p,h1,e _ _ h2⟩
 | .exc _,_,⟨p,C,h1,h2,h3⟩=>⟨p,C,h1,h2,e _ _ h3⟩
theorem ai.repDs{K:FZ}{H H':Hp}(e:ai H H'):∀ {ds:List D} {xs:List V},ak K H ds xs->ak K H' ds xs
 | [],[],_=>trivial
 | _::_,_::_,h=>⟨e.repD h.1,e.repDs h.2⟩
 | [],_::_,h=>h.elim
 | _::_,[],h=>h.elim
end
theorem ak.len{K:FZ}{H:Hp}:∀ {ds:List D} {xs:List V},ak K H ds xs->ds.length=xs.length
 | [],[],_=>rfl
 | _::_,_::_,h=>by rw [Dq,Dq,ak.len h.2]
 | [],_::_,h=>h.elim
 | _::_,[],h=>h.elim
theorem ak.get{K:FZ}{H:Hp}:∀ {ds:List D} {xs:List V} {i:Nat} {d:D},ak K H ds xs->ds[i]?=some d->∃ x,xs[i]?=some x/\aF K H d x
 | _::_,x::_,0,d,h,e=>⟨x,rfl,by have:_=d:=Option.some.inj e;rw [<- this];exact h.1⟩
 | _::_,_::_,i+1,d,h,e=>ak.get (i:=i) h.2 (by simpa using e)
 | [],[],_,_,_,e=>by simp at e
 | [],_::_,_,_,h,_=>h.elim
 | _::_,[],_,_,h,_=>h.elim
theorem ak.get'{K:FZ}{H:Hp}{ds:List D}{xs:List V}{i:Nat}{x:V}(h:ak K H ds xs)(e:xs[i]?=some x):∃ d,ds[i]?=some d/\aF K H d x:=by
 have hi:i < ds.length:=by rw [h.len];exact (DA.mp e).1
 obtain ⟨y,e2,r⟩:=h.get (Dm hi);rw [e] at e2;cases e2;exact ⟨_,Dm hi,r⟩
theorem ak.app{K:FZ}{H:Hp}:∀ {ds es:List D} {xs ys:List V},ak K H ds xs->ak K H es ys->ak K H (ds++es) (xs++ys)
 | [],_,[],_,_,h=>h
 | _::_,_,_::_,_,g,h=>⟨g.1,ak.app g.2 h⟩
 | [],_,_::_,_,g,_=>g.elim
 | _::_,_,[],_,g,_=>g.elim
theorem ak.take{K:FZ}{H:Hp}:∀ {ds:List D} {xs:List V} (n:Nat),ak K H ds xs->ak K H (ds.take n) (xs.take n)
 | [],[],n,_=>by simp;exact trivial
 | _::_,_::_,0,_=>trivial
 | _::_,_::_,n+1,h=>⟨h.1,ak.take n h.2⟩
 | [],_::_,_,h=>h.elim
 | _::_,[],_,h=>h.elim
theorem ak.drop{K:FZ}{H:Hp}:∀ {ds:List D} {xs:List V} (n:Nat),ak K H ds xs->ak K H (ds.drop n) (xs.drop n)
 | [],[],n,_=>by simp;exact trivial
 | _::_,_::_,0,h=>h
 | _::_,_::_,n+1,h=>ak.drop n h.2
 | [],_::_,_,h=>h.elim
 | _::_,[],_,h=>h.elim
theorem ak.set{K:FZ}{H:Hp}{d:D}{x:V}(r:aF K H d x):∀ {ds:List D} {xs:List V} (n:Nat),ak K H ds xs->ak K H (ds.set n d) (xs.set n x)
 | [],[],n,_=>by simp;exact trivial
 | _::_,_::_,0,h=>⟨r,h.2⟩
 | _::_,_::_,n+1,h=>⟨h.1,ak.set r n h.2⟩
 | [],_::_,_,h=>h.elim
 | _::_,[],_,h=>h.elim
theorem dv{K:FZ}{H:Hp}:∀ (ns:List Int),ak K H (ns.map D.int) (ns.map V.int)
 | []=>trivial
 | _::ns=>⟨rfl,dv ns⟩
theorem bd{K:FZ}{H:Hp}:∀ {ns:List Int} {xs:List V},ak K H (ns.map D.int) xs->xs=ns.map V.int
 | [],[],_=>rfl
 | _::_,_::_,h=>by rw [h.1,bd h.2];rfl
 | [],_::_,h=>h.elim
 | _::_,[],h=>h.elim
theorem pp{K:FZ}{H:Hp}:∀ {ns:List Bool} {xs:List V},ak K H (ns.map D.bl) xs->xs=ns.map V.bl
 | [],[],_=>rfl
 | _::_,_::_,h=>by rw [h.1,pp h.2];rfl
 | [],_::_,h=>h.elim
 | _::_,[],h=>h.elim
noncomputable def hid(L:List Addr)(H:Hp):Hp:=fun a=>if a∈L then none else H a
theorem aw{L:List Addr}{H:Hp}{b:Addr}{o:HO}(h:hid L H b=some o):b∉L/\H b=some o:=by
 unfold hid at h
 split at h
 ·cases h
 ·exact ⟨‹_›,h⟩
theorem aI{L:List Addr}{H:Hp}{b:Addr}(h:b∉L):hid L H b=H b:=if_neg h
theorem aP{L L':List Addr}{H H':Hp}(hL:∀ b,b∈L'->b∈L\/H b=none)(h:∀ b o,b∉L->H b=some o->H' b=some o):ai (hid L H) (hid L' H'):=fun b o e=>by
 obtain ⟨h1,h2⟩:=aw e;rw [aI (fun z=>(hL b z).elim h1 fun n=>by rw [n] at h2;cases h2)];exact h b o h1 h2
theorem ay{L:List Addr}{H:Hp}:ai (hid L H) H:=fun b o e=>(aw e).2
theorem vG{L:List Addr}{H:Hp}{p:Addr}{o:HO}(h:p∈L):hid L (upd H p o)=hid L H:=by
 funext b
 unfold hid
 split
 ·rfl
 ·rw [am (fun z=>by subst z;exact absurd h ‹_›)]
inductive Md where
 | fz | ow | io
 deriving DecidableEq
abbrev Rho:=List (Option (D×Md))
structure Fx where
 Z:List Addr
 io:Nat->Option Addr
noncomputable def aO(K:FZ)(H Hh:Hp)(p:Addr):D->Prop
 | .lst ds=>∃ xs,H p=some (.lst xs)/\ak K Hh ds xs
 | .dK ks ds=>∃ xs,H p=some (.dK (ks.zip xs))/\ks.length=xs.length/\ak K Hh ds xs
 | .dT ks ds=>∃ xs,H p=some (.dT (ks.zip xs))/\ks.length=xs.length/\ak K Hh ds xs
 | _=>False
noncomputable def eL:Option HO->Prop
 | some (.lst _)=>True
 | some (.dK _)=>True
 | some (.dT _)=>True
 | _=>False
theorem aO.mu{K:FZ}{H Hh:Hp}{p:Addr}{d:D}(h:aO K H Hh p d):eL (H p):=by
 cases d<;>first | exact h.elim | (obtain ⟨xs,e,_⟩:=h;rw [e];trivial)
theorem aO.at{K:FZ}{H H' Hh Hh':Hp}{p:Addr}{d:D}(h:aO K H Hh p d)(e:H' p=H p)(s:ai Hh Hh'):aO K H' Hh' p d:=by
 cases d<;>first
  | exact h.elim
  | (obtain ⟨xs,h1,h2,h3⟩:=h;exact ⟨xs,e.trans h1,h2,s.repDs h3⟩)
  | (obtain ⟨xs,h1,h2⟩:=h;exact ⟨xs,e.trans h1,s.repDs h2⟩)
theorem aO.rep{K:FZ}{H Hh Hh':Hp}{p:Addr}{d:D}(h:aO K H Hh p d)(e:Hh' p=H p)(s:ai Hh Hh'):aF K Hh' d (.ref p):=by
 cases d<;>first
  | exact h.elim
  | (obtain ⟨xs,h1,h2,h3⟩:=h;exact ⟨p,xs,rfl,e.trans h1,h2,s.repDs h3⟩)
  | (obtain ⟨xs,h1,h2⟩:=h;exact ⟨p,xs,rfl,e.trans h1,s.repDs h2⟩)
noncomputable def uV(K:FZ)(F:Fx)(H:Hp)(W:List Addr)(i:Nat)(d:D)(v:V):Md->Prop
 | .fz=>aF K (hid (W++F.Z) H) d v
 | .ow=>∃ p,v = .ref p/\p∈W/\aO K H (hid (W++F.Z) H) p d
 | .io=>∃ p,v = .ref p/\p∈W/\aO K H (hid (W++F.Z) H) p d/\F.io i=some p
structure Rel(K:FZ)(F:Fx)(σ:St)(H:Hp)(ρ:Rho)(W:List Addr):Prop where
 slot:∀ (i:Nat) (d:D) (m:Md),ρ[i]?=some (some (d,m))->∃ v,σ[i]?=some (some v)/\uV K F H W i d v m
 apart:∀ (i j:Nat) (d e:D) (m n:Md) (p:Addr),ρ[i]?=some (some (d,m))->m ≠ .fz->ρ[j]?=some (some (e,n))->n ≠ .fz->σ[i]?=some (some (.ref p))->σ[j]?=some (some (.ref p))->i=j
 wz:∀ p∈W,p∉F.Z
 mt:∀ p∈W++F.Z,eL (H p)
 len:σ.length=ρ.length
structure Fr(W:List Addr)(H H':Hp):Prop where
 keep:∀ b o,b∉W->H b=some o->H' b=some o
 dom:∀ b,H' b=none->H b=none
theorem Fr.refl{W:List Addr}{H:Hp}:Fr W H H:=⟨fun _ _ _ h=>h,fun _ h=>h⟩
theorem ai.fr{W:List Addr}{H H':Hp}(e:ai H H'):Fr W H H':=⟨fun b o _ h=>e b o h,fun b h=>e.free h⟩
theorem Fr.trans{W W1:List Addr}{H H1 H2:Hp}(a:Fr W H H1)(b:Fr W1 H1 H2)(h:∀ p∈W1,p∈W\/H p=none):Fr W H H2 :=
 ⟨fun c o n e=>b.keep c o (fun z=>(h c z).elim n fun q=>by rw [q] at e;cases e) (a.keep c o n e),fun c e=>a.dom c (b.dom c e)⟩
theorem Fr.hid{W W' Z:List Addr}{H H':Hp}(f:Fr W H H')(s:∀ p∈W',p∈W\/H p=none):ai (L2.hid (W++Z) H) (L2.hid (W'++Z) H') :=
 aP (fun b hb=>by
  rcases DG.mp hb with q | q
  ·exact (s b q).imp (fun z=>Dp _ z) id
  ·exact .inl (Dl _ q)) fun b o n e=>f.keep b o (fun z=>n (Dp _ z)) e
section
variable{K:FZ}{F:Fx}{σ:St}{H H':Hp}{ρ:Rho}{W:List Addr}
theorem eL.some{o:Option HO}(h:eL o):∃ u,o=Option.some u:=by
 cases o with
 | none=>exact h.elim
 | some u=>exact ⟨u,rfl⟩
theorem Rel.same(R:Rel K F σ H ρ W)(e:ai H H'):Rel K F σ H' ρ W:=by
 have eq:∀ p,eL (H p)->H' p=H p:=fun p h=>by obtain ⟨u,q⟩:=h.some;rw [q];exact e _ _ q
 have sh:ai (hid (W++F.Z) H) (hid (W++F.Z) H'):=aP (fun b hb=> .inl hb) fun b o _ q=>e b o q
 refine ⟨fun i d m h=> ?_,R.apart,R.wz,fun p hp=>by rw [eq p (R.mt p hp)];exact R.mt p hp,R.len⟩;obtain ⟨v,h1,h2⟩:=R.slot i d m h;refine ⟨v,h1,?_⟩
 cases m with
 | fz=>exact sh.repD h2
 | ow=>obtain ⟨p,e1,e2,e3⟩:=h2;exact ⟨p,e1,e2,e3.at (eq p e3.mu) sh⟩
 | io=>obtain ⟨p,e1,e2,e3,e4⟩:=h2;exact ⟨p,e1,e2,e3.at (eq p e3.mu) sh,e4⟩
theorem Rel.fresh(R:Rel K F σ H ρ W){p:Addr}(h:H p=none):p∉W++F.Z:=fun z=>by
 have:=R.mt p z;rw [h] at this;exact this
theorem ba{α:Type}{l:List (Option α)}{i j:Nat}{o:Option α}{x:α}(h:(l.set i o)[j]?=some (some x)):(j=i/\o=some x)\/(j≠i/\l[j]?=some (some x)):=by
 by_cases e:j=i
 ·subst e
  rw [List.getElem?_set] at h
  split at h
  ·split at h
   ·exact .inl ⟨rfl,Option.some.inj h⟩
   ·cases h
  ·exact absurd rfl ‹_›
 ·rw [DV (Ne.symm e)] at h
  exact .inr ⟨e,h⟩
theorem Rel.freeze(R:Rel K F σ H ρ W){i:Nat}{d:D}{p:Addr}(h:ρ[i]?=some (some (d,.ow)))(hp:σ[i]?=some (some (.ref p))) :
 Rel K F σ H (ρ.set i (some (d,.fz))) (W.filter fun a=>decide (a≠p))/\aF K (hid ((W.filter fun a=>decide (a≠p))++F.Z) H) d (.ref p):=by
 obtain ⟨v,hv,q,rfl,hq,hO⟩:=R.slot i d .ow h;rw [hp] at hv;cases hv
 have sub:∀ b,b∈W.filter (fun a=>decide (a≠p))->b∈W/\b≠p:=fun b hb=>by
  have:=Es.mp hb;exact ⟨this.1,DH this.2⟩
 have sh:ai (hid (W++F.Z) H) (hid ((W.filter fun a=>decide (a≠p))++F.Z) H):=aP (fun b hb=>by
  rcases DG.mp hb with q | q
  ·exact .inl (Dp _ (sub b q).1)
  ·exact .inl (Dl _ q)) fun b o _ e=>e
 have pn:p∉(W.filter fun a=>decide (a≠p))++F.Z:=fun z=>by
  rcases DG.mp z with q | q
  ·exact (sub p q).2 rfl
  ·exact R.wz p hq q
 have rep:aF K (hid ((W.filter fun a=>decide (a≠p))++F.Z) H) d (.ref p):=hO.rep (aI pn) sh;refine ⟨⟨fun j e m hj=> ?_,fun j k e f m n r h1 h2 h3 h4 h5 h6=> ?_,fun r hr=>R.wz r (sub r hr).1,fun r hr=> ?_,by rw [Ex];exact R.len⟩,rep⟩
 ·rcases ba hj with ⟨rfl,e1⟩ | ⟨ne,e1⟩
  ·cases e1
   exact ⟨_,hp,rep⟩
  ·obtain ⟨v,g1,g2⟩:=R.slot j e m e1
   refine ⟨v,g1,?_⟩
   have other:∀ r,v = .ref r->m ≠ .fz->r≠p:=fun r er hm z=>by
    subst er z;exact ne (R.apart j i _ _ _ _ _ e1 hm h (by decide) g1 hp)
   cases m with
   | fz=>exact sh.repD g2
   | ow=>obtain ⟨r,e2,e3,e4⟩:=g2;exact ⟨r,e2,Es.mpr ⟨e3,DF (other r e2 (by decide))⟩,e4.at rfl sh⟩
   | io=>obtain ⟨r,e2,e3,e4,e5⟩:=g2;exact ⟨r,e2,Es.mpr ⟨e3,DF (other r e2 (by decide))⟩,e4.at rfl sh,e5⟩
 ·rcases ba h1 with ⟨rfl,z⟩ | ⟨_,z⟩
  ·cases z;exact absurd rfl h2
  ·rcases ba h3 with ⟨rfl,z'⟩ | ⟨_,z'⟩
   ·cases z';exact absurd rfl h4
   ·exact R.apart j k _ _ _ _ _ z h2 z' h4 h5 h6
 ·rcases DG.mp hr with q | q
  ·exact R.mt r (Dp _ (sub r q).1)
  ·exact R.mt r (Dl _ q)
theorem Rel.write(R:Rel K F σ H ρ W){i:Nat}{d d':D}{m:Md}{p:Addr}{o:HO}(h:ρ[i]?=some (some (d,m)))(hm:m ≠ .fz)(hp:σ[i]?=some (some (.ref p)))(new:aO K (upd H p o) (hid (W++F.Z) H) p d') :
 Rel K F σ (upd H p o) (ρ.set i (some (d',m))) W/\Fr W H (upd H p o):=by
 obtain ⟨v,hv,hS⟩:=R.slot i d m h;rw [hp] at hv;cases hv
 have hw:p∈W:=by
  cases m with
  | fz=>exact absurd rfl hm
  | ow=>obtain ⟨r,e2,e3,_⟩:=hS;cases e2;exact e3
  | io=>obtain ⟨r,e2,e3,_⟩:=hS;cases e2;exact e3
 have hh:hid (W++F.Z) (upd H p o)=hid (W++F.Z) H:=vG (Dp _ hw);refine ⟨⟨fun j e n hj=> ?_,fun j k e f n n' r h1 h2 h3 h4 h5 h6=> ?_,R.wz,fun r hr=> ?_,by rw [Ex];exact R.len⟩,fun b u nb e=> ?_,fun b e=> ?_⟩
 ·rcases ba hj with ⟨rfl,e1⟩ | ⟨ne,e1⟩
  ·cases e1
   refine ⟨_,hp,?_⟩
   cases m with
   | fz=>exact absurd rfl hm
   | ow=>exact ⟨p,rfl,hw,by rw [hh];exact new⟩
   | io=>obtain ⟨r,e2,e3,e4,e5⟩:=hS;cases e2;exact ⟨p,rfl,hw,by rw [hh];exact new,e5⟩
  ·obtain ⟨v,g1,g2⟩:=R.slot j e n e1
   refine ⟨v,g1,?_⟩
   have other:∀ r,v = .ref r->n ≠ .fz->r≠p:=fun r er hn z=>by
    subst er z;exact ne (R.apart j i _ _ _ _ _ e1 hn h hm g1 hp)
   cases n with
   | fz=>show aF K (hid (W++F.Z) (upd H p o)) e v;rw [hh];exact g2
   | ow=>obtain ⟨r,e2,e3,e4⟩:=g2;exact ⟨r,e2,e3,e4.at (am (other r e2 (by decide))) (by rw [hh];exact ai.refl _)⟩
   | io=>obtain ⟨r,e2,e3,e4,e5⟩:=g2;exact ⟨r,e2,e3,e4.at (am (other r e2 (by decide))) (by rw [hh];exact ai.refl _),e5⟩
 ·have fnd:∀ {j:Nat} {e:D} {n:Md},(ρ.set i (some (d',m)))[j]?=some (some (e,n))->n ≠ .fz->∃ e',ρ[j]?=some (some (e',n)):=fun {j e n} hj hn=>by
   rcases ba hj with ⟨rfl,e1⟩ | ⟨_,e1⟩
   ·cases e1;exact ⟨d,h⟩
   ·exact ⟨_,e1⟩
  obtain ⟨_,z1⟩:=fnd h1 h2;obtain ⟨_,z2⟩:=fnd h3 h4;exact R.apart j k _ _ _ _ _ z1 h2 z2 h4 h5 h6
 ·by_cases e:r=p
  ·subst e;exact new.mu
  ·rw [am e];exact R.mt r hr
 ·rw [am (fun z=>by subst z;exact nb hw)];exact e
 ·by_cases z:b=p
  ·subst z;rw [ao] at e;cases e
  ·rw [am z] at e;exact e
theorem Rel.put(R:Rel K F σ H ρ W){i:Nat}{d:D}{v:V}(hi:i < σ.length)(r:aF K (hid (W++F.Z) H) d v):Rel K F (σ.set i (some v)) H (ρ.set i (some (d,.fz))) W:=by
 refine ⟨fun j e m hj=> ?_,fun j k e f m n p h1 h2 h3 h4 h5 h6=> ?_,R.wz,R.mt,by rw [Ex,Ex];exact R.len⟩
 ·rcases ba hj with ⟨rfl,e1⟩ | ⟨ne,e1⟩
  ·cases e1
   exact ⟨v,Ew hi,r⟩
  ·obtain ⟨v',g1,g2⟩:=R.slot j e m e1
   exact ⟨v',by rw [DV (Ne.symm ne)];exact g1,g2⟩
 ·rcases ba h1 with ⟨rfl,z⟩ | ⟨n1,z⟩
  ·cases z;exact absurd rfl h2
  ·rcases ba h3 with ⟨rfl,z'⟩ | ⟨n2,z'⟩
   ·cases z';exact absurd rfl h4
   ·rw [DV (Ne.symm n1)] at h5
    rw [DV (Ne.symm n2)] at h6;exact R.apart j k _ _ _ _ _ z h2 z' h4 h5 h6
theorem Rel.own{p:Addr}(R:Rel K F σ (hid [p] H) ρ W){i:Nat}{d:D}(hi:i < σ.length)(hp:p∉W++F.Z)(r:aO K H (hid (p::(W++F.Z)) H) p d):Rel K F (σ.set i (some (.ref p))) H (ρ.set i (some (d,.ow))) (p::W):=by
 have hh:hid (W++F.Z) (hid [p] H)=hid ((p::W)++F.Z) H:=by
  funext b
  unfold hid
  by_cases z:b=p
  ·subst z
   rw [if_neg hp];simp
  ·by_cases z2:b∈W++F.Z
   ·rw [if_pos z2,if_pos (by rw [Ef];exact Dr _ z2)]
   ·rw [if_neg z2,if_neg (by simpa using z),if_neg (by rw [Ef];exact fun q=>(Dz.mp q).elim z z2)]
 have neq:∀ r,r∈W++F.Z->hid [p] H r=H r:=fun r hr=>aI (by
  intro z
  have z:r=p:=by simpa using z
  subst z;exact hp hr)
 refine ⟨fun j e m hj=> ?_,fun j k e f m n q h1 h2 h3 h4 h5 h6=> ?_,fun q hq=> ?_,fun q hq=> ?_,by rw [Ex,Ex];exact R.len⟩
 ·rcases ba hj with ⟨rfl,e1⟩ | ⟨ne,e1⟩
  ·cases e1
   exact ⟨_,Ew hi,p,rfl,Dv,r⟩
  ·obtain ⟨v',g1,g2⟩:=R.slot j e m e1
   refine ⟨v',by rw [DV (Ne.symm ne)];exact g1,?_⟩
   cases m with
   | fz=>show aF K (hid ((p::W)++F.Z) H) e v';rw [<- hh];exact g2
   | ow=>obtain ⟨r,e2,e3,e4⟩:=g2;exact ⟨r,e2,Dr _ e3,e4.at (neq r (Dp _ e3)).symm (by rw [hh];exact ai.refl _)⟩
   | io=>obtain ⟨r,e2,e3,e4,e5⟩:=g2;exact ⟨r,e2,Dr _ e3,e4.at (neq r (Dp _ e3)).symm (by rw [hh];exact ai.refl _),e5⟩
 ·have inW:∀ {j:Nat} {e:D} {m:Md},ρ[j]?=some (some (e,m))->m ≠ .fz->σ[j]?=some (some (.ref p))->False:=fun {j e m} h1 h2 h3=>by
   obtain ⟨v,g1,g2⟩:=R.slot j e m h1;rw [h3] at g1;cases g1
   cases m with
   | fz=>exact h2 rfl
   | ow=>obtain ⟨r,e2,e3,_⟩:=g2;cases e2;exact hp (Dp _ e3)
   | io=>obtain ⟨r,e2,e3,_⟩:=g2;cases e2;exact hp (Dp _ e3)
  rcases ba h1 with ⟨rfl,z⟩ | ⟨n1,z⟩
  ·rw [Ew hi] at h5
   cases h5
   rcases ba h3 with ⟨rfl,z'⟩ | ⟨n2,z'⟩
   ·rfl
   ·rw [DV (Ne.symm n2)] at h6
    exact (inW z' h4 h6).elim
  ·rw [DV (Ne.symm n1)] at h5
   rcases ba h3 with ⟨rfl,z'⟩ | ⟨n2,z'⟩
   ·rw [Ew hi] at h6
    cases h6;exact (inW z h2 h5).elim
   ·rw [DV (Ne.symm n2)] at h6
    exact R.apart j k _ _ _ _ _ z h2 z' h4 h5 h6
 ·rcases Dz.mp hq with rfl | hq
  ·exact fun z=>hp (Dl _ z)
  ·exact R.wz q hq
 ·rcases Dz.mp (show q∈p::(W++F.Z) from hq) with rfl | hq
  ·exact r.mu
  ·have:=R.mt q hq
   rw [neq q hq] at this;exact this
end
theorem PE.by{X:Cx}{e:Expr}{t t':TE}(h:PE X e t)(hi:∀ σ H Q,t' σ H Q->t σ H Q):PE X e t':=fun pins s σ H Q I hw=>h pins s σ H Q I (hi σ H Q hw)
theorem PT.by{X:Cx}{e:Expr}{t t':TT}(h:PT X e t)(hi:∀ σ H Q,t' σ H Q->t σ H Q):PT X e t':=fun pins s σ H Q I hw=>h pins s σ H Q I (hi σ H Q hw)
inductive Res where
 | ok (d:D) (nw:Bool) | ex (C:Str)
inductive qV where
 | ok (ds:List D) | ex (C:Str)
inductive xx where
 | ok (b:Bool) | ex (C:Str)
abbrev SE:=Rho->Option (Res×Rho)
abbrev ST:=Rho->Option (xx×Rho)
abbrev EXT:=Str->St->Hp->Prop
section
variable(K:FZ)(F:Fx)(EX:EXT)(σ:St)(H:Hp)(W:List Addr)
noncomputable def fY(H':Hp)(ρ':Rho)(W':List Addr)(d:D):Bool->V->Prop
 | false,v=>aF K (hid (W'++F.Z) H') d v/\Rel K F σ H' ρ' W'
 | true,v=>∃ p,v = .ref p/\H p=none/\p∉W'++F.Z/\aO K H' (hid (p::(W'++F.Z)) H') p d/\Rel K F σ (hid [p] H') ρ' W'
noncomputable def OkV(o:Option (Res×Rho))(Q:VK):Prop:=match o with
 | some (.ok d nw,ρ')=>∀ v H' W',Fr W H H'->(∀ p∈W',p∈W)->fY K F σ H H' ρ' W' d nw v->Q v H'
 | some (.ex C,ρ')=>∀ H' W',Fr W H H'->(∀ p∈W',p∈W)->Rel K F σ H' ρ' W'->EX C σ H'
 | none=>False
noncomputable def OkT(o:Option (xx×Rho))(Q:Bool->Hp->Prop):Prop:=match o with
 | some (.ok b,ρ')=>∀ H' W',Fr W H H'->(∀ p∈W',p∈W)->Rel K F σ H' ρ' W'->Q b H'
 | some (.ex C,ρ')=>∀ H' W',Fr W H H'->(∀ p∈W',p∈W)->Rel K F σ H' ρ' W'->EX C σ H'
 | none=>False
end
noncomputable def tV(K:FZ)(EX:EXT)(f:SE):TE:=fun σ H Q=>∃ F ρ W,Rel K F σ H ρ W/\OkV K F EX σ H W (f ρ) Q
noncomputable def tVT(K:FZ)(EX:EXT)(f:ST):TT:=fun σ H Q=>∃ F ρ W,Rel K F σ H ρ W/\OkT K F EX σ H W (f ρ) Q
structure JE(X:Cx)(EX:EXT)(e:Expr)(f:SE):Prop where
 p:PE X e (tV X.K EX f)
structure JT(X:Cx)(EX:EXT)(e:Expr)(f:ST):Prop where
 p:PT X e (tVT X.K EX f)
structure JW(X:Cx)(EX:EXT)(e:Expr)(f:ST):Prop where
 p:PW X e (tVT X.K EX f)
inductive Arg where
 | ex (f:SE) | bor (i:Nat)
noncomputable def tArg(K:FZ)(EX:EXT):Arg->TE
 | .ex f=>tV K EX f
 | .bor i=>xO i
noncomputable def tAs(K:FZ)(EX:EXT):List Arg->TA
 | []=>AQ
 | a::as=>oG (tArg K EX a) (tAs K EX as)
structure JB(X:Cx)(EX:EXT)(e:Expr)(a:Arg):Prop where
 p:PE X e (tArg X.K EX a)
structure JA(X:Cx)(EX:EXT)(es:List Expr)(as:List Arg):Prop where
 p:PA X es (tAs X.K EX as)
noncomputable def evA:List Arg->Rho->Option (qV×Rho)
 | [],ρ=>some (.ok [],ρ)
 | .ex f::as,ρ=>match f ρ with
  | some (.ok d _,ρ1)=>match evA as ρ1 with
   | some (.ok ds,ρ2)=>some (.ok (d::ds),ρ2)
   | some (.ex C,ρ2)=>some (.ex C,ρ2)
   | none=>none
  | some (.ex C,ρ1)=>some (.ex C,ρ1)
  | none=>none
 | .bor i::as,ρ=>match ρ[i]? with
  | some (some _)=>match evA as ρ with
   | some (.ok ds,ρ2)=>match ρ2[i]? with
    | some (some (d,_))=>some (.ok (d::ds),ρ2)
    | _=>none
   | some (.ex C,ρ2)=>some (.ex C,ρ2)
   | none=>none
  | _=>none
noncomputable def gb(K:FZ)(H Hh:Hp):D->V->Prop
 | .lst ds,v=>∃ p xs,v = .ref p/\H p=some (.lst xs)/\ak K Hh ds xs
 | .dK ks ds,v=>∃ p xs,v = .ref p/\H p=some (.dK (ks.zip xs))/\ks.length=xs.length/\ak K Hh ds xs
 | .dT ks ds,v=>∃ p xs,v = .ref p/\H p=some (.dT (ks.zip xs))/\ks.length=xs.length/\ak K Hh ds xs
 | d,v=>aF K Hh d v
noncomputable def kX(K:FZ)(H Hh:Hp):List D->List V->Prop
 | [],[]=>True
 | d::ds,x::xs=>gb K H Hh d x/\kX K H Hh ds xs
 | _,_=>False
section
variable{K:FZ}{F:Fx}{EX:EXT}{σ:St}{H H' Hh Hh':Hp}{ρ ρ':Rho}{W W':List Addr}
theorem aF.b{d:D}{v:V}(r:aF K Hh d v)(s:ai Hh H):gb K H Hh d v:=by
 cases d<;>first
  | exact r
  | (obtain ⟨p,xs,h1,h2,h3,h4⟩:=r;exact ⟨p,xs,h1,s _ _ h2,h3,h4⟩)
  | (obtain ⟨p,xs,h1,h2,h3⟩:=r;exact ⟨p,xs,h1,s _ _ h2,h3⟩)
theorem aO.b{p:Addr}{d:D}(h:aO K H Hh p d):gb K H Hh d (.ref p):=by
 cases d<;>first
  | exact h.elim
  | (obtain ⟨xs,h1,h2,h3⟩:=h;exact ⟨p,xs,rfl,h1,h2,h3⟩)
  | (obtain ⟨xs,h1,h2⟩:=h;exact ⟨p,xs,rfl,h1,h2⟩)
theorem gb.d{d:D}{v:V}(r:gb K H Hh d v)(s:ai Hh H):aF K H d v:=by
 cases d<;>first
  | exact s.repD r
  | (obtain ⟨p,xs,h1,h2,h3,h4⟩:=r;exact ⟨p,xs,h1,h2,h3,s.repDs h4⟩)
  | (obtain ⟨p,xs,h1,h2,h3⟩:=r;exact ⟨p,xs,h1,h2,s.repDs h3⟩)
theorem uV.b{i:Nat}{d:D}{v:V}{m:Md}(h:uV K F H W i d v m):gb K H (hid (W++F.Z) H) d v:=by
 cases m with
 | fz=>exact aF.b h ay
 | ow=>obtain ⟨p,rfl,_,h⟩:=h;exact h.b
 | io=>obtain ⟨p,rfl,_,h,_⟩:=h;exact h.b
theorem fY.plain{H0:Hp}{d:D}{nw:Bool}{v:V}(h:fY K F σ H0 H ρ W d nw v):aF K (hid (W++F.Z) H) d v/\Rel K F σ H ρ W:=by
 cases nw with
 | false=>exact h
 | true =>
  obtain ⟨p,rfl,_,hp,hO,R⟩:=h;refine ⟨hO.rep (aI hp) (aP (fun b hb=> .inl (Dr _ hb)) fun b o _ e=>e),R.same ay⟩
variable(K F EX) in
noncomputable def OkAs(σ:St)(H:Hp)(W:List Addr)(o:Option (qV×Rho))(Q:List V->Hp->Prop):Prop:=match o with
 | some (.ok ds,ρ')=>∀ vs H' W',Fr W H H'->(∀ p∈W',p∈W)->Rel K F σ H' ρ' W'->kX K H' (hid (W'++F.Z) H') ds vs->Q vs H'
 | some (.ex C,ρ')=>∀ H' W',Fr W H H'->(∀ p∈W',p∈W)->Rel K F σ H' ρ' W'->EX C σ H'
 | none=>False
theorem pC:∀ (as:List Arg) {H:Hp} {ρ:Rho} {W:List Addr} {Q:List V->Hp->Prop},Rel K F σ H ρ W->OkAs K F EX σ H W (evA as ρ) Q->tAs K EX as σ H Q
 | [],H,ρ,W,Q,R,h=>h [] H W .refl (fun _ z=>z) R trivial
 | .ex f::as,H,ρ,W,Q,R,h=>by
  refine ⟨F,ρ,W,R,?_⟩;unfold evA at h
  revert h
  cases f ρ with
  | none=>exact fun h=>h
  | some r =>
   obtain ⟨r,ρ1⟩:=r
   cases r with
   | ex C=>exact fun h=>h
   | ok d nw =>
    intro h v H1 W1 fr sub post;obtain ⟨rd,R1⟩:=post.plain;refine pC as R1 ?_
    revert h
    dsimp only
    cases evA as ρ1 with
    | none=>exact fun h=>h
    | some q =>
     obtain ⟨q,ρ2⟩:=q
     cases q with
     | ex C=>exact fun h H2 W2 fr2 sub2 R2=>h H2 W2 (fr.trans fr2 fun p hp=> .inl (sub p hp)) (fun p hp=>sub p (sub2 p hp)) R2
     | ok ds =>
      intro h vs H2 W2 fr2 sub2 R2 reps;exact h (v::vs) H2 W2 (fr.trans fr2 fun p hp=> .inl (sub p hp)) (fun p hp=>sub p (sub2 p hp)) R2 ⟨aF.b ((fr2.hid fun p hp=> .inl (sub2 p hp)).repD rd) ay,reps⟩
 | .bor i::as,H,ρ,W,Q,R,h=>by
  unfold evA at h
  revert h
  cases e:ρ[i]? with
  | none=>exact fun h=>h.elim
  | some z =>
   cases z with
   | none=>exact fun h=>h.elim
   | some dm =>
    obtain ⟨d0,m0⟩:=dm;obtain ⟨v,hv,_⟩:=R.slot i d0 m0 e;intro h;refine ⟨v,hv,pC as R ?_⟩
    revert h
    dsimp only
    cases evA as ρ with
    | none=>exact fun h=>h
    | some q =>
     obtain ⟨q,ρ2⟩:=q
     cases q with
     | ex C=>exact fun h=>h
     | ok ds =>
      dsimp only
      cases e2:ρ2[i]? with
      | none=>exact fun h=>h.elim
      | some z =>
       cases z with
       | none=>exact fun h=>h.elim
       | some dm =>
        obtain ⟨d,m⟩:=dm;intro h vs H2 W2 fr2 sub2 R2 reps;obtain ⟨v2,hv2,ok2⟩:=R2.slot i d m e2;rw [hv] at hv2;cases hv2;exact h (v::vs) H2 W2 fr2 sub2 R2 ⟨ok2.b,reps⟩
variable(K F EX) in
noncomputable def OkFs(σ:St)(H:Hp)(W:List Addr)(o:Option (qV×Rho))(Q:List V->Hp->Prop):Prop:=match o with
 | some (.ok ds,ρ')=>∀ vs H' W',Fr W H H'->(∀ p∈W',p∈W)->Rel K F σ H' ρ' W'->ak K (hid (W'++F.Z) H') ds vs->Q vs H'
 | some (.ex C,ρ')=>∀ H' W',Fr W H H'->(∀ p∈W',p∈W)->Rel K F σ H' ρ' W'->EX C σ H'
 | none=>False
theorem pf:∀ (fs:List SE) {H:Hp} {ρ:Rho} {W:List Addr} {Q:List V->Hp->Prop},Rel K F σ H ρ W->OkFs K F EX σ H W (evA (fs.map Arg.ex) ρ) Q->tAs K EX (fs.map Arg.ex) σ H Q
 | [],H,ρ,W,Q,R,h=>h [] H W .refl (fun _ z=>z) R trivial
 | f::fs,H,ρ,W,Q,R,h=>by
  refine ⟨F,ρ,W,R,?_⟩;rw [DE] at h;unfold evA at h
  revert h
  cases f ρ with
  | none=>exact fun h=>h
  | some r =>
   obtain ⟨r,ρ1⟩:=r
   cases r with
   | ex C=>exact fun h=>h
   | ok d nw =>
    intro h v H1 W1 fr sub post;obtain ⟨rd,R1⟩:=post.plain;refine pf fs R1 ?_
    revert h
    dsimp only
    cases evA (fs.map Arg.ex) ρ1 with
    | none=>exact fun h=>h
    | some q =>
     obtain ⟨q,ρ2⟩:=q
     cases q with
     | ex C=>exact fun h H2 W2 fr2 sub2 R2=>h H2 W2 (fr.trans fr2 fun p hp=> .inl (sub p hp)) (fun p hp=>sub p (sub2 p hp)) R2
     | ok ds =>
      intro h vs H2 W2 fr2 sub2 R2 reps;exact h (v::vs) H2 W2 (fr.trans fr2 fun p hp=> .inl (sub p hp)) (fun p hp=>sub p (sub2 p hp)) R2 ⟨(fr2.hid fun p hp=> .inl (sub2 p hp)).repD rd,reps⟩
end
noncomputable def gU(K:FZ)(H H':Hp)(L:List Addr)(d:D):Bool->V->Prop
 | false,v=>aF K (hid L H') d v
 | true,v=>∃ p,v = .ref p/\H p=none/\aO K H' (hid (p::L) H') p d
noncomputable def OpS(K:FZ)(r:List V->Hp->VK->Prop)(g:List D->Option (D×Bool)):Prop :=
 ∀ vs ds H L Q d nw,(∀ p∈L,eL (H p))->kX K H (hid L H) ds vs->g ds=some (d,nw)->(∀ v H',ai H H'->gU K H H' L d nw v->Q v H')->r vs H Q
noncomputable def sOp(g:List D->Option (D×Bool))(as:List Arg):SE:=fun ρ=>match evA as ρ with
 | some (.ok ds,ρ')=>match g ds with
  | some (d,nw)=>some (.ok d nw,ρ')
  | none=>none
 | some (.ex C,ρ')=>some (.ex C,ρ')
 | none=>none
section
variable{K:FZ}{F:Fx}{EX:EXT}{σ:St}{H H':Hp}{ρ ρ':Rho}{W W':List Addr}{Q:VK}
theorem gU.e{d:D}{nw:Bool}{v:V}(h:gU K H H' (W++F.Z) d nw v)(R:Rel K F σ H ρ W)(s:ai H H'):fY K F σ H H' ρ W d nw v:=by
 cases nw with
 | false=>exact ⟨h,R.same s⟩
 | true =>
  obtain ⟨p,rfl,hp,hO⟩:=h;refine ⟨p,rfl,hp,R.fresh hp,hO,R.same fun b o e=> ?_⟩
  rw [aI (by intro z;have z:b=p:=by simpa using z
             subst z;rw [hp] at e;cases e)]
  exact s b o e
theorem fY.back{H0:Hp}{d:D}{nw:Bool}{v:V}(h:fY K F σ H H' ρ W d nw v)(fr:∀ b,H b=none->H0 b=none):fY K F σ H0 H' ρ W d nw v:=by
 cases nw with
 | false=>exact h
 | true=>obtain ⟨p,h1,h2,h3⟩:=h;exact ⟨p,h1,fr p h2,h3⟩
theorem cD{r:List V->Hp->VK->Prop}{g:List D->Option (D×Bool)}{as:List Arg}(hs:OpS K r g)(R:Rel K F σ H ρ W)(h:OkV K F EX σ H W (sOp g as ρ) Q):tAs K EX as σ H (fun vs H2=>r vs H2 Q):=by
 refine pC as R ?_;unfold sOp at h
 revert h
 cases evA as ρ with
 | none=>exact fun h=>h
 | some q =>
  obtain ⟨q,ρ2⟩:=q
  cases q with
  | ex C=>exact fun h=>h
  | ok ds =>
   dsimp only
   cases e:g ds with
   | none=>exact fun h=>h.elim
   | some z =>
    obtain ⟨d,nw⟩:=z;intro h vs H2 W2 fr2 sub2 R2 reps
    exact hs vs ds H2 (W2++F.Z) Q d nw R2.mt reps e fun v H3 s3 post=>h v H3 W2 (fr2.trans (s3.fr (W:=W2)) fun p hp=> .inl (sub2 p hp)) sub2 ((post.e R2 s3).back fr2.dom)
end
noncomputable def r2(r:R2):List V->Hp->VK->Prop
 | [x,y],H,Q=>r x y H Q
 | _,_,_=>False
noncomputable def r1(r:V->Hp->VK->Prop):List V->Hp->VK->Prop
 | [x],H,Q=>r x H Q
 | _,_,_=>False
section
variable{X:Cx}{EX:EXT}{a b e:Expr}{es:List Expr}{pos:Pos}{x y:Arg}{as:List Arg}
theorem ca_nil:JA X EX [] []:=⟨ck⟩
theorem Cm(h:JB X EX e x)(t:JA X EX es as)(hs:starEach (e::es) X.env=(false,eval e X.env)::starEach es X.env:=by rfl):JA X EX (e::es) (x::as):=⟨aA h.p t.p hs⟩
theorem cb_ex{f:SE}(h:JE X EX e f):JB X EX e (.ex f):=⟨h.p⟩
theorem cb_var{i:Nat}{n:Str}(hN:X.N[i]?=some n)(hv:Vis X.env.scope n)(hd:(n == ("__debug__" : Str))=false:=by decide)(hcd:(n == ("__classdict__" : Str))=false:=by decide):JB X EX (.Name n pos) (.bor i):=⟨gw hN hv hd hcd⟩
noncomputable def sC(d:D):SE:=fun ρ=>some (.ok d false,ρ)
theorem oH{v:V}{d:D}(h:∀ H,aF X.K H d v){σ:St}{H:Hp}{Q:VK}(hw:tV X.K EX (sC d) σ H Q):tC v σ H Q:=by
 obtain ⟨F,ρ,W,R,h2⟩:=hw;exact h2 v H W .refl (fun _ z=>z) ⟨h _,R⟩
theorem c_int{i:Int}{j pos}:JE X EX (.Constant (.int i) j pos) (sC (.int i)):=⟨iO.by fun _ _ _=>oH (d:=(.int i)) (v:=(.int i)) fun _=>rfl⟩
theorem c_bl{i:Bool}{j pos}:JE X EX (.Constant (.bool i) j pos) (sC (.bl i)):=⟨yK.by fun _ _ _=>oH (d:=(.bl i)) (v:=(.bl i)) fun _=>rfl⟩
theorem c_non{j pos}:JE X EX (.Constant .none j pos) (sC .non):=⟨pe_non.by fun _ _ _=>oH (d:= .non) (v:= .non) fun _=>rfl⟩
theorem c_str{i:Str}{j pos}:JE X EX (.Constant (.str i) j pos) (sC (.str i)):=⟨dJ.by fun _ _ _=>oH (d:=(.str i)) (v:=(.str i)) fun _=>rfl⟩
theorem Ar{n:Str}{i:Int}(hg:Gl X n)(hm:∃ t,X.mg n=some (.int i t))(hd:(n == ("__debug__" : Str))=false:=by decide):JE X EX (.Name n pos) (sC (.int i)):=by
 obtain ⟨t,hm⟩:=hm;exact ⟨(js (v:= .int i) hg hm ⟨t,rfl⟩ hd).by fun _ _ _=>oH (d:= .int i) (v:= .int i) fun _=>rfl⟩
noncomputable def aY(i:Nat):SE:=fun ρ=>match ρ[i]? with
 | some (some (d,.fz))=>some (.ok d false,ρ)
 | some (some (d,.ow))=>some (.ok d false,ρ.set i (some (d,.fz)))
 | _=>none
theorem c_var{i:Nat}{n:Str}(hN:X.N[i]?=some n)(hv:Vis X.env.scope n)(hd:(n == ("__debug__" : Str))=false:=by decide)(hcd:(n == ("__classdict__" : Str))=false:=by decide):JE X EX (.Name n pos) (aY i):=by
 refine ⟨(gw hN hv hd hcd).by fun σ H Q hw=> ?_⟩;obtain ⟨F,ρ,W,R,h⟩:=hw;unfold aY at h
 revert h
 cases e:ρ[i]? with
 | none=>exact fun h=>h.elim
 | some z =>
  cases z with
  | none=>exact fun h=>h.elim
  | some z =>
   obtain ⟨d,m⟩:=z;obtain ⟨v,hv,ok⟩:=R.slot i d m e
   cases m with
   | io=>exact fun h=>h.elim
   | fz=>exact fun h=>⟨v,hv,h v H W .refl (fun _ z=>z) ⟨ok,R⟩⟩
   | ow =>
    intro h;obtain ⟨p,rfl,hp,hO⟩:=ok;obtain ⟨R',rp⟩:=R.freeze e hv;exact ⟨_,hv,h _ H _ .refl (fun q hq=>(Es.mp hq).1) ⟨rp,R'⟩⟩
theorem uO{op:Operator}{r:R2}{g:List D->Option (D×Bool)}(ho:OpR X (binaryOp op) r)(hs:OpS X.K (r2 r) g)(ha:JB X EX a x)(hb:JB X EX b y):JE X EX (.BinOp a op b pos) (sOp g [x,y]) :=
 ⟨(CW ho ha.p hb.p).by fun σ H Q ⟨F,ρ,W,R,h⟩=>cD hs R h⟩
theorem tz{op:CmpOp}{r:R2}{g:List D->Option (D×Bool)}(ho:OpR X (compareOp op) r)(hs:OpS X.K (r2 r) g)(ha:JB X EX a x)(hb:JB X EX b y)(hm:behindInMarks op b=false):JE X EX (.Compare a [op] [b] pos) (sOp g [x,y]) :=
 ⟨(BC ho ha.p hb.p hm).by fun σ H Q ⟨F,ρ,W,R,h⟩=>cD hs R h⟩
theorem c_ix{r:R2}{g:List D->Option (D×Bool)}(ho:IxR X r)(hs:OpS X.K (r2 r) g)(ha:JB X EX a x)(hb:JB X EX b y)(hp:qW b:=by exact fun _ _=>rfl):JE X EX (.Subscript a b pos) (sOp g [x,y]) :=
 ⟨(oU ho ha.p hb.p hp).by fun σ H Q ⟨F,ρ,W,R,h⟩=>cD hs R h⟩
theorem ib{id:String}{n:Str}{p:Pos}{r:List V->Hp->VK->Prop}{g:List D->Option (D×Bool)}(ho:aH X (.builtin id) r)(hs:OpS X.K r g)(hg:Gl X n)(hm:X.mg n=none)(hv:bootBuiltins n=some (.builtin id))(ha:JA X EX (e::es) as)(hn:n ≠ "__name__" := by decide)(hdb:(n == ("__debug__" : Str))=false:=by decide)
 (he:starEach (e::es) X.env=(false,eval e X.env)::starEach es X.env:=by rfl) (hpl:(backTo pos (starEach es X.env)).any (·.1)=false:=by rfl):JE X EX (.Call (.Name n p) (e::es) [] pos) (sOp g as) :=
 ⟨(jt ho hg hm hv ha.p hn hdb he hpl).by fun σ H Q ⟨F,ρ,W,R,h⟩=>cD hs R h⟩
theorem gL{T:String}{n:Str}{p:Pos}{r:List V->Hp->VK->Prop}{g:List D->Option (D×Bool)}(ho:aH X (.type T) r)(hs:OpS X.K r g)(hg:Gl X n)(hm:X.mg n=none)(hv:bootBuiltins n=some (.type T))(ha:JA X EX (e::es) as)(hn:n ≠ "__name__" := by decide)(hdb:(n == ("__debug__" : Str))=false:=by decide)
 (he:starEach (e::es) X.env=(false,eval e X.env)::starEach es X.env:=by rfl) (hpl:(backTo pos (starEach es X.env)).any (·.1)=false:=by rfl):JE X EX (.Call (.Name n p) (e::es) [] pos) (sOp g as) :=
 ⟨(wp ho hg hm hv ha.p hn hdb he hpl).by fun σ H Q ⟨F,ρ,W,R,h⟩=>cD hs R h⟩
noncomputable def aR(fs:List SE):SE:=fun ρ=>match evA (fs.map Arg.ex) ρ with
 | some (.ok ds,ρ')=>some (.ok (.tup ds) false,ρ')
 | some (.ex C,ρ')=>some (.ex C,ρ')
 | none=>none
noncomputable def bG(fs:List SE):SE:=fun ρ=>match evA (fs.map Arg.ex) ρ with
 | some (.ok ds,ρ')=>some (.ok (.lst ds) true,ρ')
 | some (.ex C,ρ')=>some (.ex C,ρ')
 | none=>none
inductive JF(X:Cx)(EX:EXT):List Expr->List SE->Prop where
 | nil:JF X EX [] []
 | cons {e:Expr} {es:List Expr} {f:SE} {fs:List SE} (h:JE X EX e f) (t:JF X EX es fs) (hs:starEach (e::es) X.env=(false,eval e X.env)::starEach es X.env:=by rfl):JF X EX (e::es) (f::fs)
theorem JF.p{fs:List SE}(h:JF X EX es fs):PA X es (tAs X.K EX (fs.map Arg.ex)):=by
 induction h with
 | nil=>exact ck
 | cons h t hs ih=>exact aA h.p ih hs
theorem lF:∀ {fs:List SE} {ρ ρ':Rho} {ds:List D},evA (fs.map Arg.ex) ρ=some (.ok ds,ρ')->ds.length=fs.length
 | [],ρ,ρ',ds,h=>by
  have h:some (qV.ok [],ρ)=some (.ok ds,ρ'):=h;cases h;rfl
 | f::fs,ρ,ρ',ds,h=>by
  rw [DE] at h;unfold evA at h
  revert h
  cases f ρ with
  | none=>intro h;cases h
  | some r =>
   obtain ⟨r,ρ1⟩:=r
   cases r with
   | ex C=>intro h;cases h
   | ok d nw =>
    dsimp only
    cases e:evA (fs.map Arg.ex) ρ1 with
    | none=>intro h;cases h
    | some q =>
     obtain ⟨q,ρ2⟩:=q
     cases q with
     | ex C=>intro h;cases h
     | ok ds2=>intro h;cases h;rw [Dq,Dq,lF e]
theorem c_tup{fs:List SE}{x1}(h:JF X EX es fs)(hl:fs.length<=1000:=by decide):JE X EX (.Tuple es x1 pos) (aR fs) :=
 ⟨(pe_tup h.p).by fun σ H Q ⟨F,ρ,W,R,h⟩=>by
   refine pf fs R ?_;unfold aR at h
   revert h
   cases e:evA (fs.map Arg.ex) ρ with
   | none=>exact fun h=>h
   | some q =>
    obtain ⟨q,ρ2⟩:=q
    cases q with
    | ex C=>exact fun h=>h
    | ok ds =>
     intro h vs H2 W2 fr2 sub2 R2 reps
     have lv:vs.length<=1000:=by rw [<- reps.len,lF e];exact hl
     refine ⟨EV (cw lv),fun p hp=>h _ _ W2 (fr2.trans ((ai.upd hp).fr (W:=W2)) fun p hp=> .inl (sub2 p hp)) sub2 ⟨⟨p,vs,rfl,?_,?_⟩,R2.same (ai.upd hp)⟩⟩
     ·rw [aI (R2.fresh hp)];exact ao
     ·exact (aP (fun b hb=> .inl hb) fun b o _ e=>ai.upd hp b o e:ai (hid (W2++F.Z) H2) _).repDs reps⟩
theorem c_lst{fs:List SE}(h:JF X EX es fs)(hl:fs.length<=1000:=by decide):JE X EX (.List es pos) (bG fs) :=
 ⟨(mF h.p).by fun σ H Q ⟨F,ρ,W,R,h⟩=>by
   refine pf fs R ?_;unfold bG at h
   revert h
   cases e:evA (fs.map Arg.ex) ρ with
   | none=>exact fun h=>h
   | some q =>
    obtain ⟨q,ρ2⟩:=q
    cases q with
    | ex C=>exact fun h=>h
    | ok ds =>
     intro h vs H2 W2 fr2 sub2 R2 reps
     have lv:vs.length<=1000:=by rw [<- reps.len,lF e];exact hl
     refine ⟨EV (cw lv),fun p hp=>h _ _ W2 (fr2.trans ((ai.upd hp).fr (W:=W2)) fun p hp=> .inl (sub2 p hp)) sub2 ?_⟩;refine fY.back (gU.e (nw:=true) ⟨p,rfl,hp,vs,ao,?_⟩ R2 (ai.upd hp)) fr2.dom
     exact (aP (fun b hb=>(Dz.mp hb).elim (fun z=> .inr (by rw [z];exact hp)) .inl) fun b o _ e=>ai.upd hp b o e:ai (hid (W2++F.Z) H2) _).repDs reps⟩
end
section
variable{K:FZ}{F:Fx}{EX:EXT}{σ:St}{H H1:Hp}{ρ ρ':Rho}{W W1:List Addr}{Q:VK}
theorem OkV.go{o:Option (Res×Rho)}(h:OkV K F EX σ H W o Q)(fr:Fr W H H1)(sub:∀ p∈W1,p∈W):OkV K F EX σ H1 W1 o Q:=by
 cases o with
 | none=>exact h
 | some r =>
  obtain ⟨r,ρ1⟩:=r
  cases r with
  | ex C=>exact fun H2 W2 f2 s2 R2=>h H2 W2 (fr.trans f2 fun p hp=> .inl (sub p hp)) (fun p hp=>sub p (s2 p hp)) R2
  | ok d nw=>exact fun v H2 W2 f2 s2 P2=>h v H2 W2 (fr.trans f2 fun p hp=> .inl (sub p hp)) (fun p hp=>sub p (s2 p hp)) (P2.back fr.dom)
theorem OkT.go{o:Option (xx×Rho)}{Q:Bool->Hp->Prop}(h:OkT K F EX σ H W o Q)(fr:Fr W H H1)(sub:∀ p∈W1,p∈W):OkT K F EX σ H1 W1 o Q:=by
 cases o with
 | none=>exact h
 | some r =>
  obtain ⟨r,ρ1⟩:=r
  cases r with
  | ex C=>exact fun H2 W2 f2 s2 R2=>h H2 W2 (fr.trans f2 fun p hp=> .inl (sub p hp)) (fun p hp=>sub p (s2 p hp)) R2
  | ok d=>exact fun H2 W2 f2 s2 P2=>h H2 W2 (fr.trans f2 fun p hp=> .inl (sub p hp)) (fun p hp=>sub p (s2 p hp)) P2
end
noncomputable def aK(g:List D->Option (D×Bool))(as:List Arg):ST:=fun ρ=>match sOp g as ρ with
 | some (.ok (.bl b) _,ρ')=>some (.ok b,ρ')
 | some (.ok _ _,_)=>none
 | some (.ex C,ρ')=>some (.ex C,ρ')
 | none=>none
theorem Df {K:FZ} {F:Fx} {EX:EXT} {σ:St} {H:Hp} {ρ:Rho} {W:List Addr} {f:SE} {Q:Bool->Hp->Prop} (h:OkT K F EX σ H W (match f ρ with
 | some (.ok (.bl b) _,ρ')=>some (.ok b,ρ')
 | some (.ok _ _,_)=>none
 | some (.ex C,ρ')=>some (.ex C,ρ')
 | none=>none) Q):OkV K F EX σ H W (f ρ) fun x H'=>∃ k,x = .bl k/\Q k H':=by
 revert h
 cases f ρ with
 | none=>exact fun h=>h
 | some r =>
  obtain ⟨r,ρ1⟩:=r
  cases r with
  | ex C=>exact fun h=>h
  | ok d nw =>
   cases d<;>first
    | exact fun h=>h.elim
    | exact fun h v H' W' fr sub post=>⟨_,post.plain.1,h H' W' fr sub post.plain.2⟩
noncomputable def sBl(f:SE):ST:=fun ρ=>match f ρ with
 | some (.ok (.bl b) _,ρ')=>some (.ok b,ρ')
 | some (.ok _ _,_)=>none
 | some (.ex C,ρ')=>some (.ex C,ρ')
 | none=>none
noncomputable def lO:D->Option Bool
 | .non=>some false
 | .bl b=>some b
 | .int i=>some (i != 0)
 | .lst ds=>some (!ds.isEmpty)
 | .tup ds=>some (!ds.isEmpty)
 | .dK ks _=>some (!ks.isEmpty)
 | _=>none
noncomputable def dC(a:Arg):ST:=fun ρ=>match evA [a] ρ with
 | some (.ok [d],ρ')=>match lO d with
  | some b=>some (.ok b,ρ')
  | none=>none
 | some (.ok _,_)=>none
 | some (.ex C,ρ')=>some (.ex C,ρ')
 | none=>none
noncomputable def jo(f g:ST):ST:=fun ρ=>match f ρ with
 | some (.ok true,ρ1)=>g ρ1
 | some (.ok false,ρ1)=>some (.ok false,ρ1)
 | some (.ex C,ρ')=>some (.ex C,ρ')
 | none=>none
noncomputable def sOr(f g:ST):ST:=fun ρ=>match f ρ with
 | some (.ok false,ρ1)=>g ρ1
 | some (.ok true,ρ1)=>some (.ok true,ρ1)
 | some (.ex C,ρ')=>some (.ex C,ρ')
 | none=>none
noncomputable def eB(f:ST):ST:=fun ρ=>match f ρ with
 | some (.ok b,ρ1)=>some (.ok (!b),ρ1)
 | some (.ex C,ρ')=>some (.ex C,ρ')
 | none=>none
noncomputable def sIf(c:ST)(f g:SE):SE:=fun ρ=>match c ρ with
 | some (.ok true,ρ1)=>f ρ1
 | some (.ok false,ρ1)=>g ρ1
 | some (.ex C,ρ')=>some (.ex C,ρ')
 | none=>none
noncomputable def bV(f g:SE):SE:=fun ρ=>match f ρ with
 | some (.ok (.bl true) _,ρ1)=>g ρ1
 | some (.ok (.bl false) _,ρ1)=>some (.ok (.bl false) false,ρ1)
 | some (.ok _ _,_)=>none
 | some (.ex C,ρ')=>some (.ex C,ρ')
 | none=>none
noncomputable def jn(f g:SE):SE:=fun ρ=>match f ρ with
 | some (.ok (.bl false) _,ρ1)=>g ρ1
 | some (.ok (.bl true) _,ρ1)=>some (.ok (.bl true) false,ρ1)
 | some (.ok _ _,_)=>none
 | some (.ex C,ρ')=>some (.ex C,ρ')
 | none=>none
noncomputable def fT(f:SE):SE:=fun ρ=>match f ρ with
 | some (.ok (.bl b) _,ρ1)=>some (.ok (.bl (!b)) false,ρ1)
 | some (.ok _ _,_)=>none
 | some (.ex C,ρ')=>some (.ex C,ρ')
 | none=>none
section
variable{X:Cx}{EX:EXT}{a b c e:Expr}{rest es:List Expr}{pos:Pos}{x y z:Arg}{as:List Arg}
theorem mY{op:CmpOp}{r:R2}{g:List D->Option (D×Bool)}(ho:OpR X (compareOp op) r)(hs:OpS X.K (r2 r) g)(ha:JB X EX a x)(hb:JB X EX b y)(hm:behindInMarks op b=false):JT X EX (.Compare a [op] [b] pos) (aK g [x,y]) :=
 ⟨(vt ho ha.p hb.p hm).by fun σ H Q ⟨F,ρ,W,R,h⟩=>cD hs R (Df h)⟩
theorem tru_of{K:FZ}{H Hh:Hp}{d:D}{v:V}{k:Bool}(r:gb K H Hh d v)(s:ai Hh H)(e:lO d=some k):Cu K v H k:=by
 cases d<;>simp only [lO] at e<;>first
  | cases e;done
  | (cases e;cases r;first | rfl | trivial)
  | skip
 ·obtain ⟨p,xs,rfl,h1,h2⟩:=r
  cases e;exact .inr (.inl ⟨xs,.inl (.inl (s _ _ h1)),by have:=h2.len;cases xs<;>cases ‹List D› <;> simp_all⟩)
 ·obtain ⟨p,xs,rfl,h1,h2⟩:=r
  cases e;exact .inl ⟨xs,.inl (.inl h1),by have:=h2.len;cases xs<;>cases ‹List D› <;> simp_all⟩
 ·obtain ⟨p,xs,rfl,h1,h2,h3⟩:=r
  cases e;refine .inr (.inr ⟨_,h1,?_⟩);rename_i ks vs;cases ks<;>cases xs<;>simp_all
theorem k_tru(ha:JB X EX e x)(he:∀ whole,isTrue e X.env whole=(do let v <- whole;standAt e.pos;holding [v] (truthy v)):=by intro _;rfl):JT X EX e (dC x) :=
 ⟨(yr ha.p he).by fun σ H Q ⟨F,ρ,W,R,h⟩=>by
   have z:tAs X.K EX [x] σ H (fun vs H2=>match vs with | [v]=>∃ k,Cu X.K v H2 k/\Q k H2 | _=>False):=by
    refine pC [x] R ?_;unfold dC at h
    revert h
    cases evA [x] ρ with
    | none=>exact fun h=>h
    | some q =>
     obtain ⟨q,ρ2⟩:=q
     cases q with
     | ex C=>exact fun h=>h
     | ok ds =>
      match ds with
      | []=>exact fun h=>h.elim
      | _::_::_=>exact fun h=>h.elim
      | [d] =>
       dsimp only
       cases e:lO d with
       | none=>exact fun h=>h.elim
       | some k =>
        intro h vs H2 W2 fr2 sub2 R2 reps
        match vs,reps with
        | [v],reps=>exact ⟨k,tru_of reps.1 ay e,h H2 W2 fr2 sub2 R2⟩
   exact z⟩
theorem JW.t{f:ST}(h:JW X EX e f):JT X EX e f:=⟨h.p.pt⟩
theorem w_and1{f:ST}(h:JT X EX a f):JW X EX (.BoolOp .And [a] pos) f:=⟨Bp h.p⟩
theorem w_or1{f:ST}(h:JT X EX a f):JW X EX (.BoolOp .Or [a] pos) f:=⟨yq h.p⟩
theorem w_and{f g:ST}(ha:JT X EX a f)(hb:JW X EX (.BoolOp .And (b::rest) pos) g):JW X EX (.BoolOp .And (a::b::rest) pos) (jo f g) :=
 ⟨fun wh pins s σ H Q I ⟨F,ρ,W,R,h⟩=>pw_and ha.p hb.p wh pins s σ H Q I ⟨F,ρ,W,R,by
  unfold jo at h
  revert h
  cases f ρ with
  | none=>exact fun h=>h
  | some q =>
   obtain ⟨q,ρ2⟩:=q
   cases q with
   | ex C=>exact fun h=>h
   | ok k =>
    cases k with
    | true=>exact fun h H2 W2 fr2 sub2 R2=>⟨F,ρ2,W2,R2,OkT.go h fr2 sub2⟩
    | false=>exact fun h=>h⟩⟩
theorem w_or{f g:ST}(ha:JT X EX a f)(hb:JW X EX (.BoolOp .Or (b::rest) pos) g):JW X EX (.BoolOp .Or (a::b::rest) pos) (sOr f g) :=
 ⟨fun wh pins s σ H Q I ⟨F,ρ,W,R,h⟩=>CT ha.p hb.p wh pins s σ H Q I ⟨F,ρ,W,R,by
  unfold sOr at h
  revert h
  cases f ρ with
  | none=>exact fun h=>h
  | some q =>
   obtain ⟨q,ρ2⟩:=q
   cases q with
   | ex C=>exact fun h=>h
   | ok k =>
    cases k with
    | false=>exact fun h H2 W2 fr2 sub2 R2=>⟨F,ρ2,W2,R2,OkT.go h fr2 sub2⟩
    | true=>exact fun h=>h⟩⟩
theorem k_not{f:ST}(h:JT X EX a f):JT X EX (.UnaryOp .Not a pos) (eB f) :=
 ⟨(yt h.p).by fun σ H Q ⟨F,ρ,W,R,h⟩=>⟨F,ρ,W,R,by
   unfold eB at h
   revert h
   cases f ρ with
   | none=>exact fun h=>h
   | some q =>
    obtain ⟨q,ρ2⟩:=q
    cases q with
    | ex C=>exact fun h=>h
    | ok k=>exact fun h=>h⟩⟩
theorem c_if{t:ST}{f g:SE}(hc:JT X EX c t)(ha:JE X EX a f)(hb:JE X EX b g):JE X EX (.IfExp c a b pos) (sIf t f g) :=
 ⟨(yF hc.p ha.p hb.p).by fun σ H Q ⟨F,ρ,W,R,h⟩=>⟨F,ρ,W,R,by
   unfold sIf at h
   revert h
   cases t ρ with
   | none=>exact fun h=>h
   | some q =>
    obtain ⟨q,ρ2⟩:=q
    cases q with
    | ex C=>exact fun h=>h
    | ok k =>
     cases k with
     | true=>exact fun h H2 W2 fr2 sub2 R2=>⟨F,ρ2,W2,R2,OkV.go h fr2 sub2⟩
     | false=>exact fun h H2 W2 fr2 sub2 R2=>⟨F,ρ2,W2,R2,OkV.go h fr2 sub2⟩⟩⟩
theorem c_one{op}{f:SE}(h:JE X EX a f):JE X EX (.BoolOp op [a] pos) f:=⟨pe_one h.p⟩
theorem c_and{f g:SE}(ha:JE X EX a f)(hb:JE X EX (.BoolOp .And (b::rest) pos) g):JE X EX (.BoolOp .And (a::b::rest) pos) (bV f g) :=
 ⟨(pe_and ha.p hb.p).by fun σ H Q ⟨F,ρ,W,R,h⟩=>⟨F,ρ,W,R,by
   unfold bV at h
   revert h
   cases f ρ with
   | none=>exact fun h=>h
   | some q =>
    obtain ⟨q,ρ2⟩:=q
    cases q with
    | ex C=>exact fun h=>h
    | ok d nw =>
     cases d<;>first | exact fun h=>h.elim | skip
     rename_i k
     cases k with
     | true=>exact fun h v H2 W2 fr2 sub2 P2=>⟨true,P2.plain.1,F,ρ2,W2,P2.plain.2,OkV.go h fr2 sub2⟩
     | false=>exact fun h v H2 W2 fr2 sub2 P2=>⟨false,P2.plain.1,h (.bl false) H2 W2 fr2 sub2 ⟨rfl,P2.plain.2⟩⟩⟩⟩
theorem c_or{f g:SE}(ha:JE X EX a f)(hb:JE X EX (.BoolOp .Or (b::rest) pos) g):JE X EX (.BoolOp .Or (a::b::rest) pos) (jn f g) :=
 ⟨(pe_or ha.p hb.p).by fun σ H Q ⟨F,ρ,W,R,h⟩=>⟨F,ρ,W,R,by
   unfold jn at h
   revert h
   cases f ρ with
   | none=>exact fun h=>h
   | some q =>
    obtain ⟨q,ρ2⟩:=q
    cases q with
    | ex C=>exact fun h=>h
    | ok d nw =>
     cases d<;>first | exact fun h=>h.elim | skip
     rename_i k
     cases k with
     | false=>exact fun h v H2 W2 fr2 sub2 P2=>⟨false,P2.plain.1,F,ρ2,W2,P2.plain.2,OkV.go h fr2 sub2⟩
     | true=>exact fun h v H2 W2 fr2 sub2 P2=>⟨true,P2.plain.1,h (.bl true) H2 W2 fr2 sub2 ⟨rfl,P2.plain.2⟩⟩⟩⟩
theorem c_not{f:SE}(ha:JE X EX a f):JE X EX (.UnaryOp .Not a pos) (fT f) :=
 ⟨(pe_not ha.p).by fun σ H Q ⟨F,ρ,W,R,h⟩=>⟨F,ρ,W,R,by
   unfold fT at h
   revert h
   cases f ρ with
   | none=>exact fun h=>h
   | some q =>
    obtain ⟨q,ρ2⟩:=q
    cases q with
    | ex C=>exact fun h=>h
    | ok d nw =>
     cases d<;>first | exact fun h=>h.elim | skip
     exact fun h v H2 W2 fr2 sub2 P2=>⟨_,P2.plain.1,h _ H2 W2 fr2 sub2 ⟨rfl,P2.plain.2⟩⟩⟩⟩
abbrev RSl:=V->Option Int->Option Int->Hp->VK->Prop
noncomputable def rS00(r:RSl):List V->Hp->VK->Prop
 | [x],H,Q=>r x none none H Q
 | _,_,_=>False
noncomputable def rS10(r:RSl):List V->Hp->VK->Prop
 | [x,y],H,Q=>∃ i,y = .int i/\r x (some i) none H Q
 | _,_,_=>False
noncomputable def rS11(r:RSl)(i j:Int):List V->Hp->VK->Prop
 | [x],H,Q=>∃ i',V.int i = .int i'/\∃ j',V.int j = .int j'/\r x (some i') (some j') H Q
 | _,_,_=>False
theorem c_sl10{p2:Pos}{r:RSl}{g:List D->Option (D×Bool)}(ho:SlR X r)(hs:OpS X.K (rS10 r) g)(ha:JB X EX a x)(hb:JB X EX b y):JE X EX (.Subscript a (.Slice (some b) none none p2) pos) (sOp g [x,y]) :=
 ⟨(rX ho ha.p (ql hb.p) Bv).by fun σ H Q ⟨F,ρ,W,R,h⟩=>cD hs R h⟩
theorem c_sl11{p2 p3 p4:Pos}{r:RSl}{g:List D->Option (D×Bool)}{i j:Int}{k1 k2}(ho:SlR X r)(hs:OpS X.K (rS11 r i j) g)(ha:JB X EX a x):JE X EX (.Subscript a (.Slice (some (.Constant (.int i) k1 p3)) (some (.Constant (.int j) k2 p4)) none p2) pos) (sOp g [x]) :=
 ⟨(rX ho ha.p (ql iO) (ql iO)).by fun σ H Q ⟨F,ρ,W,R,h⟩=>cD hs R h⟩
end
theorem PS.by{X:Cx}{e:Stmt}{t t':TS}(h:PS X e t)(hi:∀ D σ H,t' D σ H->t D σ H):PS X e t':=fun pins s σ H D I hw=>h pins s σ H D I (hi D σ H hw)
theorem PSs.by{X:Cx}{e:List Stmt}{t t':TS}(h:PSs X e t)(hi:∀ D σ H,t' D σ H->t D σ H):PSs X e t':=fun pins s σ H D I hw=>h pins s σ H D I (hi D σ H hw)
inductive Out where
 | nx | rt (d:D) (nw:Bool) | ex (C:Str) | bk | ct
abbrev SS:=Rho->Option (Out×Rho)
section
variable(K:FZ)(F:Fx)(EX:EXT)(σ:St)(H:Hp)(W:List Addr)
noncomputable def tK(σ':St)(H':Hp)(ρ':Rho)(W':List Addr)(d:D):Bool->V->Prop
 | false,v=>aF K (hid (W'++F.Z) H') d v/\Rel K F σ' H' ρ' W'
 | true,v=>∃ p,v = .ref p/\(p∈W\/H p=none)/\p∉W'++F.Z/\aO K H' (hid (p::(W'++F.Z)) H') p d/\Rel K F σ' (hid [p] H') ρ' W'
noncomputable def OkS(o:Option (Out×Rho))(D:lq):Prop:=match o with
 | some (.nx,ρ')=>∀ σ' H' W',Fr W H H'->(∀ p∈W',p∈W\/H p=none)->Rel K F σ' H' ρ' W'->D.nx σ' H'
 | some (.bk,ρ')=>∀ σ' H' W',Fr W H H'->(∀ p∈W',p∈W\/H p=none)->Rel K F σ' H' ρ' W'->D.bk σ' H'
 | some (.ct,ρ')=>∀ σ' H' W',Fr W H H'->(∀ p∈W',p∈W\/H p=none)->Rel K F σ' H' ρ' W'->D.ct σ' H'
 | some (.ex C,ρ')=>∀ σ' H' W',Fr W H H'->(∀ p∈W',p∈W\/H p=none)->Rel K F σ' H' ρ' W'->EX C σ' H'
 | some (.rt d nw,ρ')=>∀ σ' v H' W',Fr W H H'->(∀ p∈W',p∈W\/H p=none)->tK K F H W σ' H' ρ' W' d nw v->D.rt v H'
 | none=>False
end
noncomputable def tVS(K:FZ)(EX:EXT)(f:SS):TS:=fun D σ H=>∃ F ρ W,Rel K F σ H ρ W/\OkS K F EX H W (f ρ) D
structure JS(X:Cx)(EX:EXT)(e:Stmt)(f:SS):Prop where
 p:PS X e (tVS X.K EX f)
structure JSs(X:Cx)(EX:EXT)(e:List Stmt)(f:SS):Prop where
 p:PSs X e (tVS X.K EX f)
section
variable{K:FZ}{F:Fx}{EX:EXT}{σ σ1:St}{H H1:Hp}{ρ ρ':Rho}{W W1:List Addr}{D:lq}
theorem tK.back{σ':St}{H':Hp}{ρ':Rho}{W':List Addr}{d:L2.D}{nw:Bool}{v:V}(h:tK K F H1 W1 σ' H' ρ' W' d nw v)(fr:∀ b,H1 b=none->H b=none)(sub:∀ p∈W1,p∈W\/H p=none):tK K F H W σ' H' ρ' W' d nw v:=by
 cases nw with
 | false=>exact h
 | true=>obtain ⟨p,h1,h2,h3⟩:=h;exact ⟨p,h1,h2.elim (sub p) fun z=> .inr (fr p z),h3⟩
theorem OkS.go{o:Option (Out×Rho)}(h:OkS K F EX H W o D)(fr:Fr W H H1)(sub:∀ p∈W1,p∈W\/H p=none):OkS K F EX H1 W1 o D:=by
 have sub2:∀ {W2:List Addr},(∀ p∈W2,p∈W1\/H1 p=none)->∀ p∈W2,p∈W\/H p=none:=fun {W2} s2 p hp=>(s2 p hp).elim (sub p) fun z=> .inr (fr.dom p z)
 cases o with
 | none=>exact h
 | some r =>
  obtain ⟨r,ρ1⟩:=r
  cases r with
  | ex C=>exact fun σ2 H2 W2 f2 s2 R2=>h σ2 H2 W2 (fr.trans f2 sub) (sub2 s2) R2
  | nx=>exact fun σ2 H2 W2 f2 s2 R2=>h σ2 H2 W2 (fr.trans f2 sub) (sub2 s2) R2
  | bk=>exact fun σ2 H2 W2 f2 s2 R2=>h σ2 H2 W2 (fr.trans f2 sub) (sub2 s2) R2
  | ct=>exact fun σ2 H2 W2 f2 s2 R2=>h σ2 H2 W2 (fr.trans f2 sub) (sub2 s2) R2
  | rt d nw=>exact fun σ2 v H2 W2 f2 s2 P2=>h σ2 v H2 W2 (fr.trans f2 sub) (sub2 s2) (P2.back fr.dom sub)
theorem fY.r{H':Hp}{ρ':Rho}{W':List Addr}{d:L2.D}{nw:Bool}{v:V}(h:fY K F σ H H' ρ' W' d nw v):tK K F H W σ H' ρ' W' d nw v:=by
 cases nw with
 | false=>exact h
 | true=>obtain ⟨p,h1,h2,h3⟩:=h;exact ⟨p,h1,.inr h2,h3⟩
end
noncomputable def bf:SS:=fun ρ=>some (.nx,ρ)
noncomputable def au(f g:SS):SS:=fun ρ=>match f ρ with
 | some (.nx,ρ1)=>g ρ1
 | r=>r
noncomputable def aW(i:Nat)(f:SE):SS:=fun ρ=>match f ρ with
 | some (.ok d nw,ρ')=>match ρ'[i]? with
  | some _=>some (.nx,ρ'.set i (some (d,if nw then .ow else .fz)))
  | none=>none
 | some (.ex C,ρ')=>some (.ex C,ρ')
 | none=>none
noncomputable def aB(f:SE):SS:=fun ρ=>match f ρ with
 | some (.ok d nw,ρ')=>some (.rt d nw,ρ')
 | some (.ex C,ρ')=>some (.ex C,ρ')
 | none=>none
noncomputable def oM:SS:=fun ρ=>some (.rt .non false,ρ)
noncomputable def ci(f:SE):SS:=fun ρ=>match f ρ with
 | some (.ok _ _,ρ')=>some (.nx,ρ')
 | some (.ex C,ρ')=>some (.ex C,ρ')
 | none=>none
noncomputable def aX(c:ST)(f g:SS):SS:=fun ρ=>match c ρ with
 | some (.ok true,ρ1)=>f ρ1
 | some (.ok false,ρ1)=>g ρ1
 | some (.ex C,ρ')=>some (.ex C,ρ')
 | none=>none
noncomputable def dD(i:Nat):SS:=fun ρ=>match ρ[i]? with
 | some (some (d,.fz))=>some (.rt d false,ρ)
 | some (some (d,.ow))=>some (.rt d true,ρ.set i none)
 | _=>none
theorem Rel.move{K:FZ}{F:Fx}{σ:St}{H:Hp}{ρ:Rho}{W:List Addr}(R:Rel K F σ H ρ W){i:Nat}{d:D}{p:Addr}(h:ρ[i]?=some (some (d,.ow)))(hp:σ[i]?=some (some (.ref p))) :
 Rel K F σ (hid [p] H) (ρ.set i none) (W.filter fun a=>decide (a≠p))/\p∈W/\p∉(W.filter fun a=>decide (a≠p))++F.Z/\aO K H (hid (p::((W.filter fun a=>decide (a≠p))++F.Z)) H) p d:=by
 obtain ⟨v,hv,q,rfl,hq,hO⟩:=R.slot i d .ow h;rw [hp] at hv;cases hv
 have sub:∀ b,b∈W.filter (fun a=>decide (a≠p))->b∈W/\b≠p:=fun b hb=>by
  have:=Es.mp hb;exact ⟨this.1,DH this.2⟩
 have pn:p∉(W.filter fun a=>decide (a≠p))++F.Z:=fun z=>by
  rcases DG.mp z with q | q
  ·exact (sub p q).2 rfl
  ·exact R.wz p hq q
 have sh:ai (hid (W++F.Z) H) (hid ((W.filter fun a=>decide (a≠p))++F.Z) (hid [p] H)):=fun b o e=>by
  obtain ⟨h1,h2⟩:=aw e
  have bp:b≠p:=fun z=>h1 (Dp _ (z ▸ hq))
  rw [aI (fun z=>h1 (by
   rcases DG.mp z with q | q
   ·exact Dp _ (sub b q).1
   ·exact Dl _ q)),aI (by simpa using bp)]
  exact h2
 have sh2:ai (hid (W++F.Z) H) (hid (p::((W.filter fun a=>decide (a≠p))++F.Z)) H):=fun b o e=>by
  obtain ⟨h1,h2⟩:=aw e
  have bp:b≠p:=fun z=>h1 (Dp _ (z ▸ hq))
  rw [aI (fun z=>by
   rcases Dz.mp z with q | q
   ·exact bp q
   ·rcases DG.mp q with q | q
    ·exact h1 (Dp _ (sub b q).1)
    ·exact h1 (Dl _ q))]
  exact h2
 have neq:∀ r,r≠p->hid [p] H r=H r:=fun r hr=>aI (by simpa using hr)
 refine ⟨⟨fun j e m hj=> ?_,fun j k e f m n r h1 h2 h3 h4 h5 h6=> ?_,fun r hr=>R.wz r (sub r hr).1,fun r hr=> ?_,by rw [Ex];exact R.len⟩,hq,pn,hO.at rfl sh2⟩
 ·rcases ba hj with ⟨rfl,e1⟩ | ⟨ne,e1⟩
  ·cases e1
  ·obtain ⟨v,g1,g2⟩:=R.slot j e m e1
   refine ⟨v,g1,?_⟩
   have other:∀ r,v = .ref r->m ≠ .fz->r≠p:=fun r er hm z=>by
    subst er z;exact ne (R.apart j i _ _ _ _ _ e1 hm h (by decide) g1 hp)
   cases m with
   | fz=>exact sh.repD g2
   | ow=>obtain ⟨r,e2,e3,e4⟩:=g2;exact ⟨r,e2,Es.mpr ⟨e3,DF (other r e2 (by decide))⟩,e4.at (neq r (other r e2 (by decide))) sh⟩
   | io=>obtain ⟨r,e2,e3,e4,e5⟩:=g2;exact ⟨r,e2,Es.mpr ⟨e3,DF (other r e2 (by decide))⟩,e4.at (neq r (other r e2 (by decide))) sh,e5⟩
 ·rcases ba h1 with ⟨rfl,z⟩ | ⟨_,z⟩
  ·cases z
  ·rcases ba h3 with ⟨rfl,z'⟩ | ⟨_,z'⟩
   ·cases z'
   ·exact R.apart j k _ _ _ _ _ z h2 z' h4 h5 h6
 ·have rp:r≠p:=fun z=>by subst z;exact pn hr
  rw [neq r rp]
  rcases DG.mp hr with q | q
  ·exact R.mt r (Dp _ (sub r q).1)
  ·exact R.mt r (Dl _ q)
inductive Tg where
 | nm (i:Nat) | tp (ts:List Tg)
mutual
noncomputable def bE:Tg->D->Rho->Option Rho
 | .nm i,d,ρ=>match ρ[i]? with
  | some _=>some (ρ.set i (some (d,.fz)))
  | none=>none
 | .tp ts,.tup ds,ρ=>cO ts ds ρ
 | .tp ts,.ktup ds,ρ=>cO ts ds ρ
 | .tp _,_,_=>none
noncomputable def cO:List Tg->List D->Rho->Option Rho
 | [],[],ρ=>some ρ
 | t::ts,d::ds,ρ=>match bE t d ρ with
  | some ρ1=>cO ts ds ρ1
  | none=>none
 | _,_,_=>none
end
mutual
noncomputable def gT(K:FZ):Tg->TG
 | .nm i=>vJ i
 | .tp ts=>gTup K ts.length (gTs K ts)
noncomputable def gTs(K:FZ):List Tg->TGs
 | []=>gNil
 | t::ts=>C9 (gT K t) (gTs K ts)
end
mutual
noncomputable def Tg.ge(n:Nat):Tg->Bool
 | .nm i=>decide (n<=i)
 | .tp ts=>Tg.geL n ts
noncomputable def Tg.geL(n:Nat):List Tg->Bool
 | []=>true
 | t::ts=>Tg.ge n t&&Tg.geL n ts
end
section
variable{K:FZ}{F:Fx}{EX:EXT}{H:Hp}{W:List Addr}{Q:St->Hp->Prop}{n:Nat}
theorem eX{H:Hp}{p:Addr}{xs:List V}(h:SqT K (fun _=>none) p xs):SqT K H p xs:=by
 rcases h with (h | ⟨o,h⟩) | h
 ·cases h
 ·cases h
 ·exact .inr h
theorem pB:∀ {ts:List Tg} {ds:List D} {ρ ρ':Rho},cO ts ds ρ=some ρ'->ds.length=ts.length
 | [],[],_,_,_=>rfl
 | [],_::_,_,_,h=>by unfold cO at h;cases h
 | _::_,[],_,_,h=>by unfold cO at h;cases h
 | t::ts,d::ds,ρ,ρ',h=>by
  unfold cO at h
  cases e:bE t d ρ with
  | none=>rw [e] at h;cases h
  | some ρ1=>rw [e] at h;rw [Dq,Dq,pB h]
mutual
theorem vI:∀ (T:Tg) {d:D} {v:V} {σ:St} {ρ ρ':Rho} {Q:St->Hp->Prop},Rel K F σ H ρ W->aF K (hid (W++F.Z) H) d v->bE T d ρ=some ρ'->(∀ σ',(Tg.ge n T=true->σ'.take n=σ.take n)->Rel K F σ' H ρ' W->Q σ' H)->gT K T v σ H Q
 | .nm i,d,v,σ,ρ,ρ',Q,R,r,e,q=>by
  unfold bE at e;unfold gT
  cases h:ρ[i]? with
  | none=>rw [h] at e;cases e
  | some z =>
   rw [h] at e;cases e
   have hi:i < σ.length:=by rw [R.len];exact (DA.mp h).1
   refine q _ (fun hg=> ?_) (R.put hi r);unfold Tg.ge at hg;exact List.take_set_of_le (DH hg)
 | .tp ts,d,v,σ,ρ,ρ',Q,R,r,e,q=>by
  unfold gT
  have two:∀ ds p xs,v = .ref p->SqT K H p xs->ak K (hid (W++F.Z) H) ds xs->cO ts ds ρ=some ρ'->gTup K ts.length (gTs K ts) v σ H Q:=fun ds p xs e1 e2 e3 e4 =>
   ⟨p,xs,e1,e2,by rw [<- e3.len];exact pB e4,zM ts R e3 e4 fun σ' h1 h2=>q σ' (fun hg=>h1 (by unfold Tg.ge at hg;exact hg)) h2⟩
  cases d<;>first
   | (unfold bE at e;cases e;done)
   | (obtain ⟨p,xs,e1,e2,e3⟩:=r;unfold bE at e;exact two _ p xs e1 (.inl (.inl (aw e2).2)) e3 e)
   | (obtain ⟨p,xs,e1,e2,e3⟩:=r;unfold bE at e;exact two _ p xs e1 (eX e2) e3 e)
theorem zM:∀ (ts:List Tg) {ds:List D} {vs:List V} {σ:St} {ρ ρ':Rho} {Q:St->Hp->Prop},Rel K F σ H ρ W->ak K (hid (W++F.Z) H) ds vs->cO ts ds ρ=some ρ'->(∀ σ',(Tg.geL n ts=true->σ'.take n=σ.take n)->Rel K F σ' H ρ' W->Q σ' H)->gTs K ts vs σ H Q
 | [],ds,vs,σ,ρ,ρ',Q,R,r,e,q=>by
  unfold gTs
  cases ds with
  | cons _ _=>unfold cO at e;cases e
  | nil =>
   unfold cO at e;cases e
   cases vs with
   | cons _ _=>exact r.elim
   | nil=>exact ⟨rfl,q σ (fun _=>rfl) R⟩
 | t::ts,ds,vs,σ,ρ,ρ',Q,R,r,e,q=>by
  unfold gTs
  cases ds with
  | nil=>unfold cO at e;cases e
  | cons d ds =>
   cases vs with
   | nil=>exact r.elim
   | cons v vs =>
    unfold cO at e
    cases h:bE t d ρ with
    | none=>rw [h] at e;cases e
    | some ρ1 =>
     rw [h] at e;refine ⟨v,vs,rfl,vI t R r.1 h fun σ1 h1 R1=>zM ts R1 r.2 e fun σ2 h2 R2=>q σ2 (fun hg=> ?_) R2⟩;unfold Tg.geL at hg;have:=(DK _ _).mp hg;exact (h2 this.2).trans (h1 this.1)
end
end
structure JG(X:Cx)(e:Expr)(T:Tg):Prop where
 p:PG X e (gT X.K T)
structure JGs(X:Cx)(es:List Expr)(ts:List Tg):Prop where
 p:PGs X es (gTs X.K ts)
noncomputable def mh(T:Tg)(f:SE):SS:=fun ρ=>match f ρ with
 | some (.ok d _,ρ')=>match bE T d ρ' with
  | some ρ2=>some (.nx,ρ2)
  | none=>none
 | some (.ex C,ρ')=>some (.ex C,ρ')
 | none=>none
noncomputable def iH(i:Nat)(op:Int->Int->Int)(f:SE):SS:=fun ρ=>match ρ[i]? with
 | some (some (.int a,.fz))=>match f ρ with
  | some (.ok (.int b) _,ρ')=>match ρ'[i]? with
   | some _=>some (.nx,ρ'.set i (some (.int (op a b),.fz)))
   | none=>none
  | some (.ok _ _,_)=>none
  | some (.ex C,ρ')=>some (.ex C,ρ')
  | none=>none
 | _=>none
section
variable{X:Cx}{EX:EXT}{a b c e:Expr}{es:List Expr}{st:Stmt}{rest:List Stmt}{pos:Pos}
theorem s_nil:JSs X EX [] bf:=⟨vv.by fun D σ H ⟨F,ρ,W,R,h⟩=>h σ H W .refl (fun _ z=> .inl z) R⟩
theorem s_cons{f g:SS}(h1:JS X EX st f)(h2:JSs X EX rest g):JSs X EX (st::rest) (au f g) :=
 ⟨(df h1.p h2.p).by fun D σ H ⟨F,ρ,W,R,h⟩=>⟨F,ρ,W,R,by
   unfold au at h
   revert h
   cases f ρ with
   | none=>exact fun h=>h
   | some q =>
    obtain ⟨q,ρ2⟩:=q
    cases q with
    | nx=>exact fun h σ2 H2 W2 fr2 sub2 R2=>⟨F,ρ2,W2,R2,OkS.go h fr2 sub2⟩
    | _=>exact fun h=>h⟩⟩
theorem s_one{f:SS}(h:JS X EX st f):JSs X EX [st] f:=⟨jr h.p⟩
theorem set_ok{K:FZ}{F:Fx}{σ:St}{H H':Hp}{ρ':Rho}{W':List Addr}{d:D}{nw:Bool}{v:V}{i:Nat}(P:fY K F σ H H' ρ' W' d nw v)(hi:i < ρ'.length) :
 ∃ W2,(∀ p∈W2,p∈W'\/H p=none)/\Rel K F (σ.set i (some v)) H' (ρ'.set i (some (d,if nw then .ow else .fz))) W2:=by
 cases nw with
 | false=>exact ⟨W',fun p hp=> .inl hp,P.2.put (by rw [P.2.len];exact hi) P.1⟩
 | true =>
  obtain ⟨p,rfl,hp,hn,hO,R⟩:=P;exact ⟨p::W',fun q hq=>(Dz.mp hq).elim (fun z=> .inr (by rw [z];exact hp)) .inl,R.own (by rw [R.len];exact hi) hn hO⟩
theorem Ay{i:Nat}{f:SE}{D:lq}{σ:St}{H:Hp}(h:tVS X.K EX (aW i f) D σ H):tV X.K EX f σ H fun x H1=>D.nx (σ.set i (some x)) H1:=by
 obtain ⟨F,ρ,W,R,h⟩:=h;refine ⟨F,ρ,W,R,?_⟩;unfold aW at h
 revert h
 cases f ρ with
 | none=>exact fun h=>h
 | some q =>
  obtain ⟨q,ρ2⟩:=q
  cases q with
  | ex C=>exact fun h H2 W2 fr2 sub2 R2=>h σ H2 W2 fr2 (fun p hp=> .inl (sub2 p hp)) R2
  | ok d nw =>
   dsimp only
   cases e:ρ2[i]? with
   | none=>exact fun h=>h.elim
   | some z =>
    intro h v H2 W2 fr2 sub2 P2;obtain ⟨W3,s3,R3⟩:=set_ok P2 (DA.mp e).1;exact h _ H2 W3 fr2 (fun p hp=>(s3 p hp).imp (sub2 p) id) R3
theorem CF{i:Nat}{x:Str}{f:SE}{pos':Pos}(hN:X.N.Nodup)(hi:X.N[i]?=some x)(hx:Loc X.env.scope x)(he:JE X EX e f)(hs:swapsWith e (some (.Name x pos')) pos.line X.env=pure false:=by rfl)(hf:X.fn x=true\/X.env.scope.names.lookup x=some .local:=by first | exact .inl rfl | exact .inr rfl | assumption) :
 JS X EX (.Assign [.Name x pos'] e pos) (aW i f):=⟨(qk hN hi hx he.p hs hf).by fun D σ H h=>Ay h⟩
theorem zL{i:Nat}{x:Str}(hN:X.N.Nodup)(hi:X.N[i]?=some x)(hx:Loc X.env.scope x)(hf:X.fn x=true\/X.env.scope.names.lookup x=some .local:=by first | exact .inl rfl | exact .inr rfl | assumption):JG X (.Name x pos) (.nm i):=⟨by unfold gT;exact lD hN hi hx hf⟩
theorem g_nil:JGs X [] []:=⟨by unfold gTs;exact vw⟩
theorem g_cons{T:Tg}{ts:List Tg}(h1:JG X e T)(h2:JGs X es ts)(hs:(assignEach (e::es) X.env).map (·.2)=assign e X.env::(assignEach es X.env).map (·.2):=by rfl):JGs X (e::es) (T::ts):=⟨by unfold gTs;exact mE h1.p h2.p hs⟩
theorem g_tup{k:Nat}{ts:List Tg}(hc:X.calm=true)(h:JGs X es ts)(hn:(assignEach es X.env).length=ts.length:=by rfl)(hst:(assignEach es X.env).findIdx? (·.1)=none:=by rfl):JG X (.Tuple es k pos) (.tp ts):=⟨by unfold gT;exact yD hc h.p hn hst⟩
theorem s_asg{f:SE}{T:Tg}(he:JE X EX e f)(hg:JG X a T)(hs:swapsWithSole [a] e pos.line X.env=pure false:=by rfl)(hw:swappedStores [a] e X.env=pure none:=by rfl)
 (h1:(assignEach [a] X.env).map (·.2)=[assign a X.env]:=by rfl):JS X EX (.Assign [a] e pos) (mh T f) :=
 ⟨(yx he.p hg.p hs hw h1).by fun D σ H ⟨F,ρ,W,R,h⟩=>⟨F,ρ,W,R,by
   unfold mh at h
   revert h
   cases f ρ with
   | none=>exact fun h=>h
   | some q =>
    obtain ⟨q,ρ2⟩:=q
    cases q with
    | ex C=>exact fun h H2 W2 fr2 sub2 R2=>h σ H2 W2 fr2 (fun p hp=> .inl (sub2 p hp)) R2
    | ok d nw =>
     dsimp only
     cases e:bE T d ρ2 with
     | none=>exact fun h=>h.elim
     | some ρ3 =>
      intro h v H2 W2 fr2 sub2 P2
      exact vI (n:=0) T P2.plain.2 P2.plain.1 e fun σ' _ R'=>h σ' H2 W2 fr2 (fun p hp=> .inl (sub2 p hp)) R'⟩⟩
theorem xY{i:Nat}{x:Str}{f:SE}{op:Operator}{fn:Int->Int->Int}{pos':Pos}(ho:PIp X op (ipI fn))(hN:X.N.Nodup)(hi:X.N[i]?=some x)(hx:Loc X.env.scope x)(he:JE X EX e f)(hf:X.fn x=true\/X.env.scope.names.lookup x=some .local:=by first | exact .inl rfl | exact .inr rfl | assumption) :
 JS X EX (.AugAssign (.Name x pos') op e pos) (iH i fn f) :=
 ⟨(ps_aug hN hi hx he.p ho hf).by fun D σ H ⟨F,ρ,W,R,h⟩=>by
   unfold iH at h
   revert h
   split
   ·rename_i a0 e0
    obtain ⟨v0,hv0,hr0⟩:=R.slot i _ _ e0;have hr0:v0 = .int a0:=hr0;subst hr0;intro h;refine ⟨_,hv0,F,ρ,W,R,?_⟩
    revert h
    cases f ρ with
    | none=>exact fun h=>h
    | some q =>
     obtain ⟨q,ρ2⟩:=q
     cases q with
     | ex C=>exact fun h H2 W2 fr2 sub2 R2=>h σ H2 W2 fr2 (fun p hp=> .inl (sub2 p hp)) R2
     | ok d nw =>
      cases d<;>first | exact fun h=>h.elim | skip
      rename_i b0;dsimp only
      cases e:ρ2[i]? with
      | none=>exact fun h=>h.elim
      | some z =>
       intro h v H2 W2 fr2 sub2 P2;have hv:v = .int b0:=P2.plain.1;exact ⟨a0,b0,rfl,hv,h _ H2 W2 fr2 (fun p hp=> .inl (sub2 p hp)) (P2.plain.2.put (by rw [P2.plain.2.len];exact (DA.mp e).1) rfl)⟩
   ·exact fun h=>h.elim⟩
theorem s_ret{f:SE}(he:JE X EX e f):JS X EX (.Return (some e) pos) (aB f) :=
 ⟨(mz he.p).by fun D σ H ⟨F,ρ,W,R,h⟩=>⟨F,ρ,W,R,by
   unfold aB at h
   revert h
   cases f ρ with
   | none=>exact fun h=>h
   | some q =>
    obtain ⟨q,ρ2⟩:=q
    cases q with
    | ex C=>exact fun h H2 W2 fr2 sub2 R2=>h σ H2 W2 fr2 (fun p hp=> .inl (sub2 p hp)) R2
    | ok d nw=>exact fun h v H2 W2 fr2 sub2 P2=>h σ v H2 W2 fr2 (fun p hp=> .inl (sub2 p hp)) P2.r⟩⟩
theorem s_retV{i:Nat}{n:Str}{p2:Pos}(hN:X.N[i]?=some n)(hv:Vis X.env.scope n)(hd:(n == ("__debug__" : Str))=false:=by decide)(hcd:(n == ("__classdict__" : Str))=false:=by decide):JS X EX (.Return (some (.Name n p2)) pos) (dD i) :=
 ⟨(mz (gw hN hv hd hcd)).by fun D σ H ⟨F,ρ,W,R,h⟩=>by
   unfold dD at h
   revert h
   cases e:ρ[i]? with
   | none=>exact fun h=>h.elim
   | some z =>
    cases z with
    | none=>exact fun h=>h.elim
    | some z =>
     obtain ⟨d,m⟩:=z;obtain ⟨v,hv,ok⟩:=R.slot i d m e
     cases m with
     | io=>exact fun h=>h.elim
     | fz=>exact fun h=>⟨v,hv,h σ v H W .refl (fun _ z=> .inl z) ⟨ok,R⟩⟩
     | ow =>
      intro h;obtain ⟨p,rfl,hp,hO⟩:=ok;obtain ⟨R',m1,m2,m3⟩:=R.move e hv
      exact ⟨_,hv,h σ _ H _ .refl (fun q hq=> .inl (Es.mp hq).1) ⟨p,rfl,.inl m1,m2,m3,R'⟩⟩⟩
theorem s_expr{f:SE}(he:JE X EX e f)(hs:swapsWith e none pos.line X.env=pure false:=by rfl):JS X EX (.Expr e pos) (ci f) :=
 ⟨(lC he.p hs).by fun D σ H ⟨F,ρ,W,R,h⟩=>⟨F,ρ,W,R,by
   unfold ci at h
   revert h
   cases f ρ with
   | none=>exact fun h=>h
   | some q =>
    obtain ⟨q,ρ2⟩:=q
    cases q with
    | ex C=>exact fun h H2 W2 fr2 sub2 R2=>h σ H2 W2 fr2 (fun p hp=> .inl (sub2 p hp)) R2
    | ok d nw=>exact fun h v H2 W2 fr2 sub2 P2=>h σ H2 W2 fr2 (fun p hp=> .inl (sub2 p hp)) P2.plain.2⟩⟩
theorem s_if{t:ST}{f g:SS}{as bs:List Stmt}(hc:JT X EX c t)(ha:JSs X EX as f)(hb:JSs X EX bs g):JS X EX (.If c as bs pos) (aX t f g) :=
 ⟨(CU hc.p ha.p hb.p).by fun D σ H ⟨F,ρ,W,R,h⟩=>⟨F,ρ,W,R,by
   unfold aX at h
   revert h
   cases t ρ with
   | none=>exact fun h=>h
   | some q =>
    obtain ⟨q,ρ2⟩:=q
    cases q with
    | ex C=>exact fun h H2 W2 fr2 sub2 R2=>h σ H2 W2 fr2 (fun p hp=> .inl (sub2 p hp)) R2
    | ok k =>
     cases k with
     | true=>exact fun h H2 W2 fr2 sub2 R2=>⟨F,ρ2,W2,R2,OkS.go h fr2 fun p hp=> .inl (sub2 p hp)⟩
     | false=>exact fun h H2 W2 fr2 sub2 R2=>⟨F,ρ2,W2,R2,OkS.go h fr2 fun p hp=> .inl (sub2 p hp)⟩⟩⟩
end
mutual
noncomputable def eJ:D->Bool
 | .lst _=>false
 | .klst _=>false
 | .dK _ _=>false
 | .dT _ _=>false
 | .tup ds=>dh ds
 | .ktup ds=>dh ds
 | _=>true
noncomputable def dh:List D->Bool
 | []=>true
 | d::ds=>eJ d&&dh ds
end
noncomputable def cG:D->Bool
 | .lst ds=>dh ds
 | .dK _ ds=>dh ds
 | .dT _ ds=>dh ds
 | _=>false
section
variable{K:FZ}{H:Hp}{L1 L2:List Addr}
theorem jB{p:Addr}{o:HO}(h:hid L1 H p=some o)(hm:∀ p∈L2,eL (H p))(no:¬ eL (some o)):hid L2 H p=some o:=by
 have e:=(aw h).2;rw [aI fun z=>no (by have:=hm p z;rw [e] at this;exact this)];exact e
mutual
theorem aF.flat(hm:∀ p∈L2,eL (H p)):∀ {d:D} {v:V},eJ d=true->aF K (hid L1 H) d v->aF K (hid L2 H) d v
 | .non,_,_,h=>h
 | .bl _,_,_,h=>h
 | .int _,_,_,h=>h
 | .str _,_,_,h=>h
 | .tup _,_,f,⟨p,xs,h1,h2,h3⟩=>⟨p,xs,h1,jB h2 hm (fun z=>z),ak.flat hm (by unfold eJ at f;exact f) h3⟩
 | .ktup _,_,f,⟨p,xs,h1,h2,h3⟩=>⟨p,xs,h1,h2,ak.flat hm (by unfold eJ at f;exact f) h3⟩
 | .lst _,_,f,_=>by unfold eJ at f;cases f
 | .klst _,_,f,_=>by unfold eJ at f;cases f
 | .dK _ _,_,f,_=>by unfold eJ at f;cases f
 | .dT _ _,_,f,_=>by unfold eJ at f;cases f
 | .set _,_,_,⟨p,S,h1,h2,h3⟩=>⟨p,S,h1,jB h2 hm (fun z=>z),h3⟩
 | .rng _ _,_,_,⟨p,h1,h2⟩=>⟨p,h1,jB h2 hm (fun z=>z)⟩
 | .exc _,_,_,⟨p,C,h1,h2,h3⟩=>⟨p,C,h1,h2,jB h3 hm (fun z=>z)⟩
theorem ak.flat(hm:∀ p∈L2,eL (H p)):∀ {ds:List D} {xs:List V},dh ds=true->ak K (hid L1 H) ds xs->ak K (hid L2 H) ds xs
 | [],[],_,_=>trivial
 | _::_,_::_,f,h=>by
  unfold dh at f;have f:=(DK _ _).mp f;exact ⟨aF.flat hm f.1 h.1,ak.flat hm f.2 h.2⟩
 | [],_::_,_,h=>h.elim
 | _::_,[],_,h=>h.elim
end
theorem aO.flat{H':Hp}{p:Addr}{d:D}(hm:∀ p∈L2,eL (H p))(f:cG d=true)(h:aO K H' (hid L1 H) p d):aO K H' (hid L2 H) p d:=by
 cases d<;>first
  | exact h.elim
  | (obtain ⟨xs,h1,h2,h3⟩:=h;exact ⟨xs,h1,h2,ak.flat hm f h3⟩)
  | (obtain ⟨xs,h1,h2⟩:=h;exact ⟨xs,h1,ak.flat hm f h2⟩)
end
abbrev FS:=List D->Option (Res×D)
noncomputable def spF(K:FZ)(io:Option Nat)(run:FS):Sp:=fun vs H Q E=>∃ (Z W:List Addr) (ds:List D),
 vs.length=ds.length/\(∀ p∈W,p∉Z)/\(∀ p∈W++Z,eL (H p)) /\
 (∀ (j:Nat) (d:D) (v:V),io≠some j->ds[j]?=some d->vs[j]?=some v->aF K (hid (W++Z) H) d v) /\
 (∀ k,io=some k->∃ p d,vs[k]?=some (V.ref p)/\ds[k]?=some d/\W=[p]/\aO K H (hid (W++Z) H) p d) /\
 (io=none->W=[]) /\
 match run ds with
 | some (.ok d false,dio)=>∀ v H',Fr W H H'->aF K (hid (W++Z) H') d v->(∀ p,W=[p]->aO K H' (hid (W++Z) H') p dio)->Q v H'
 | some (.ok d true,dio)=>∀ q H',Fr W H H'->H q=none->aO K H' (hid (q::(W++Z)) H') q d->(∀ p,W=[p]->aO K H' (hid (q::(W++Z)) H') p dio)->Q (.ref q) H'
 | some (.ex C,dio)=>∀ H',Fr W H H'->(∀ p,W=[p]->aO K H' (hid (W++Z) H') p dio)->∀ a,gK K C a->∀ x,E (.ref a) x H'
 | none=>False
noncomputable def iX(io:Option Nat):Nat->List D->Rho
 | _,[]=>[]
 | j,d::ds=>some (d,if io=some j then .io else .fz)::iX io (j+1) ds
noncomputable def ini(n:Nat)(io:Option Nat)(ds:List D):Rho:=iX io 0 ds++List.replicate (n - ds.length) none
noncomputable def ioD(io:Option Nat)(ρ:Rho):Option D:=match io with
 | none=>some .non
 | some k=>match ρ[k]? with
  | some (some (d,.io))=>some d
  | _=>none
noncomputable def az(np n:Nat)(io:Option Nat)(body:SS):FS:=fun ds=>if ds.length=np then
 match body (ini n io ds) with
 | some (.rt d nw,ρ')=>match ioD io ρ' with
  | some x=>some (.ok d nw,x)
  | none=>none
 | some (.nx,ρ')=>match ioD io ρ' with
  | some x=>some (.ok .non false,x)
  | none=>none
 | some (.ex C,ρ')=>match ioD io ρ' with
  | some x=>some (.ex C,x)
  | none=>none
 | _=>none else none
theorem jA{io:Option Nat}:∀ {j:Nat} {ds:List D},(iX io j ds).length=ds.length
 | _,[]=>rfl
 | j,_::ds=>by unfold iX;rw [Dq,Dq,jA]
theorem sw{io:Option Nat}:∀ {j i:Nat} {ds:List D} {d:D} {m:Md},(iX io j ds)[i]?=some (some (d,m))->ds[i]?=some d/\m=if io=some (j+i) then .io else .fz
 | j,i,[],d,m,h=>by unfold iX at h;simp at h
 | j,0,x::ds,d,m,h=>by
  unfold iX at h;simp only [DN,Option.some.injEq,Prod.mk.injEq] at h;exact ⟨by rw [<- h.1];rfl,by rw [<- h.2];rfl⟩
 | j,i+1,x::ds,d,m,h=>by
  unfold iX at h;simp only [DR] at h;obtain ⟨h1,h2⟩:=sw h;exact ⟨by simpa using h1,by rw [h2,show j+1+i=j+(i+1) by omega]⟩
theorem qC{n:Nat}{io:Option Nat}{i:Nat}{ds:List D}{d:D}{m:Md}(h:(ini n io ds)[i]?=some (some (d,m))):ds[i]?=some d/\m=if io=some i then .io else .fz:=by
 unfold ini at h
 by_cases hi:i < ds.length
 ·rw [DQ (by rw [jA];exact hi)] at h
  have:=sw h;rw [Ep] at this;exact this
 ·rw [Ek (by rw [jA];omega),Fb] at h
  split at h<;>cases h
noncomputable def EXf(K:FZ)(E:XK):EXT:=fun nm _ H=>∀ C,gK K nm C->∀ x,E (.ref C) x H
theorem Fun.okX{P:Program}{w:World}{K:FZ}{mg:Str->Option Value}{base:Heap}{x:Str}{st:Stmt}{N ps:List Str}{k:Nat}{sp:Sp}{f:Addr}{fd:FuncData}(F:Fun K x x st f fd)(S:cy N ps (ah st))(len:∀ vs H Q E,sp vs H Q E->vs.length=ps.length)
 (hbody:∀ (f:Addr) (cdv:Value) (A:Around) (outer:List Env) (s:Shared) (H:Hp) (vs:List V) (Q:VK) (E:XK),cx k (A.deeper (envOfC x (ah st) s.heap.objs.size f cdv))->sp vs H Q E ->
   ∃ t,PSs (bZ (CXr P w) P w K mg base N x (ah st) f cdv A outer s H E) (bb st) t/\t { nx:=fun _ H'=>Q .non H',rt:=Q } (cQ N vs) H):kq P w K mg base (CXr P w) (k+1) f fd ps sp:=by
 obtain ⟨oc,od,kV,doc,pm,an,cdv,ct,osl,rfl,lk,hcd⟩:=F.ex
 exact zX lk hcd S len fun A outer s H vs Q E hr hsp=>hbody f cdv A outer s H vs Q E hr hsp
theorem zW{f0:Addr}{fd0:FuncData}{P:Program}{w:World}{K:FZ}{mg:Str->Option Value}{base:Heap}{x:Str}{st:Stmt}{N ps:List Str}{k:Nat}{io:Option Nat}{body:SS}(h:Fun K x x st f0 fd0)(S:cy N ps (ah st))
 (hb:∀ (f:Addr) (cdv:Value) (A:Around) (outer:List Env) (s:Shared) (H:Hp) (E:XK),cx k (A.deeper (envOfC x (ah st) s.heap.objs.size f cdv)) ->
   JSs (bZ (CXr P w) P w K mg base N x (ah st) f cdv A outer s H E) (EXf K E) (bb st) body) (hps:ps.length<=N.length:=by decide):kq P w K mg base (CXr P w) (k+1) f0 fd0 ps (spF K io (az ps.length N.length io body)):=by
 have run_len:∀ {ds:List D} {r:Res×D},az ps.length N.length io body ds=some r->ds.length=ps.length:=fun {ds r} e=>by
  unfold az at e
  split at e
  ·assumption
  ·cases e
 refine Fun.okX h S (fun vs H Q E hs=> ?_) (fun f cdv A outer s H vs Q E hr hs=> ?_)
 ·obtain ⟨Z,W,ds,h1,_,_,_,_,_,hm⟩:=hs
  cases e:az ps.length N.length io body ds with
  | none=>rw [e] at hm;exact hm.elim
  | some r=>rw [h1];exact run_len e
 ·obtain ⟨Z,W,ds,h1,hwz,hmt,hfz,hio,hno,hm⟩:=hs
  refine ⟨_,(hb f cdv A outer s H E hr).p,?_⟩
  have hlen:ds.length=ps.length:=by
   cases e:az ps.length N.length io body ds with
   | none=>rw [e] at hm;exact hm.elim
   | some r=>exact run_len e
  let F:Fx:=⟨Z,fun j=>if io=some j then W.head? else none⟩
  have st_get:∀ {j:Nat} {v:V},vs[j]?=some v->(cQ N vs)[j]?=some (some v):=fun {j v} e=>by
   unfold cQ;rw [DQ (by rw [Do];exact (DA.mp e).1),DM,e];rfl
  have R0:Rel K F (cQ N vs) H (ini N.length io ds) W:=by
   refine ⟨fun i d m hi=> ?_,fun i j d e m n p g1 g2 g3 g4 _ _=> ?_,hwz,hmt,?_⟩
   ·obtain ⟨hd,rfl⟩:=qC hi
    have hv:i < vs.length:=by rw [h1];exact (DA.mp hd).1
    refine ⟨vs[i],st_get (Dm hv),?_⟩
    by_cases e:io=some i
    ·rw [if_pos e]
     obtain ⟨p,d',q1,q2,q3,q4⟩:=hio i e;rw [Dm hv] at q1;rw [hd] at q2;cases q2;refine ⟨p,Option.some.inj q1,by rw [q3];exact Dv,q4,?_⟩
     show (if io=some i then W.head? else none)=some p
     rw [if_pos e,q3];rfl
    ·rw [if_neg e]
     exact hfz i d _ e hd (Dm hv)
   ·obtain ⟨_,e1⟩:=qC g1
    obtain ⟨_,e2⟩:=qC g3
    by_cases z1:io=some i
    ·by_cases z2:io=some j
     ·rw [z1] at z2;exact Option.some.inj z2
     ·rw [if_neg z2] at e2;exact absurd e2 g4
    ·rw [if_neg z1] at e1;exact absurd e1 g2
   ·unfold cQ ini
    rw [DI,DI,Do,EB,EB,jA,h1]
  refine ⟨F,_,W,R0,?_⟩
  have ioR:∀ {σ':St} {H':Hp} {ρ':Rho} {W':List Addr} {x:D} {p:Addr},Rel K F σ' H' ρ' W'->ioD io ρ'=some x->W=[p]->p∈W'/\aO K H' (hid (W'++Z) H') p x:=fun {σ' H' ρ' W' x p} R e hW=>by
   cases hk:io with
   | none=>rw [hno hk] at hW;cases hW
   | some k =>
    unfold ioD at e;rw [hk] at e;dsimp only at e
    split at e
    ·rename_i d0 e0
     cases e;obtain ⟨v,g1,q,g2,g3,g4,g5⟩:=R.slot k _ _ e0;have g5:(if io=some k then W.head? else none)=some q:=g5;rw [if_pos hk,hW] at g5;have:p=q:=Option.some.inj g5;subst this;exact ⟨g3,g4⟩
    ·cases e
  have wsub:∀ {σ':St} {H':Hp} {ρ':Rho} {W':List Addr} {x:D},Rel K F σ' H' ρ' W'->ioD io ρ'=some x->∀ b,b∈W++Z->b∈W'++Z:=fun {σ' H' ρ' W' x} R e b hb=>by
   rcases DG.mp hb with z | z
   ·cases hk:io with
    | none=>rw [hno hk] at z;cases z
    | some k =>
     obtain ⟨p,d,_,_,q3,_⟩:=hio k hk;rw [q3] at z;rw [DC.mp z];exact Dp _ (ioR R e q3).1
   ·exact Dl _ z
  have toW:∀ {σ':St} {H' H2:Hp} {ρ':Rho} {W':List Addr} {x:D},Rel K F σ' H2 ρ' W'->ioD io ρ'=some x->ai (hid (W'++Z) H') (hid (W++Z) H'):=fun R e=>aP (fun b hb=> .inl (wsub R e b hb)) fun b o _ z=>z
  revert hm
  unfold az;rw [if_pos hlen]
  cases body (ini N.length io ds) with
  | none=>exact fun h=>h.elim
  | some r =>
   obtain ⟨r,ρ'⟩:=r
   cases r with
   | bk=>exact fun h=>h.elim
   | ct=>exact fun h=>h.elim
   | nx =>
    dsimp only
    cases e:ioD io ρ' with
    | none=>exact fun h=>h.elim
    | some x =>
     intro hm σ' H' W' fr sub R
     exact hm .non H' fr rfl fun p hp=>(ioR R e hp).2.at rfl (toW R e)
   | ex C =>
    dsimp only
    cases e:ioD io ρ' with
    | none=>exact fun h=>h.elim
    | some x =>
     intro hm σ' H' W' fr sub R
     exact hm H' fr fun p hp=>(ioR R e hp).2.at rfl (toW R e)
   | rt d nw =>
    dsimp only
    cases e:ioD io ρ' with
    | none=>exact fun h=>h.elim
    | some x =>
     cases nw with
     | false =>
      intro hm σ' v H' W' fr sub P
      exact hm v H' fr ((toW P.2 e).repD P.1) fun p hp=>(ioR P.2 e hp).2.at rfl (toW P.2 e)
     | true =>
      intro hm σ' v H' W' fr sub P;obtain ⟨q,rfl,hq,hn,hO,R⟩:=P
      have hq0:H q=none:=by
       rcases hq with z | z
       ·cases hk:io with
        | none=>rw [hno hk] at z;cases z
        | some k =>
         obtain ⟨p,d',_,_,q3,_⟩:=hio k hk;rw [q3] at z;have:q=p:=DC.mp z;subst this;exact absurd (Dp _ (ioR R e q3).1) hn
       ·exact z
      have cs:ai (hid (q::(W'++Z)) H') (hid (q::(W++Z)) H'):=aP (fun b hb=> .inl (by
       rcases Dz.mp hb with z | z
       ·rw [z];exact Dv
       ·exact Dr _ (wsub R e b z))) fun b o _ z=>z
      refine hm q H' fr hq0 (hO.at rfl cs) fun p hp=> ?_
      obtain ⟨m1,m2⟩:=ioR R e hp
      have pq:p≠q:=fun z=>by subst z;exact hn (Dp _ m1)
      refine m2.at (aI (by simpa using pq)).symm fun b o z=> ?_
      obtain ⟨z1,z2⟩:=aw z;obtain ⟨z3,z4⟩:=aw z2
      rw [aI (fun y=>by
       rcases Dz.mp y with y | y
       ·exact z3 (by simpa using y)
       ·exact z1 (wsub R e b y))]
      exact z4
theorem fn_ok{P:Program}{w:World}{K:FZ}{mg:Str->Option Value}{base:Heap}{x:Str}{st:Stmt}{N ps:List Str}{k:Nat}{io:Option Nat}{body:SS}(h:Has K mg x st ps)(S:cy N ps (ah st))
 (hb:∀ (f:Addr) (cdv:Value) (A:Around) (outer:List Env) (s:Shared) (H:Hp) (E:XK),cx k (A.deeper (envOfC x (ah st) s.heap.objs.size f cdv)) ->
   JSs (bZ (CXr P w) P w K mg base N x (ah st) f cdv A outer s H E) (EXf K E) (bb st) body) (hps:ps.length<=N.length:=by decide):OkX P w K mg base x ps (k+1) (spF K io (az ps.length N.length io body)):=by
 obtain ⟨f,fd,F,hm,hb'⟩:=h.ex;exact ⟨f,fd,hm,F.kp,hb',zW F S hb hps⟩
section
variable{K:FZ}{F:Fx}{EX:EXT}{σ:St}{H H2:Hp}{ρ:Rho}{W:List Addr}
theorem Rel.wrote(R:Rel K F σ H ρ W){i:Nat}{d d':D}{m:Md}{p:Addr}(h:ρ[i]?=some (some (d,m)))(hm:m ≠ .fz)(hp:σ[i]?=some (some (.ref p)))(fr:Fr [p] H H2)(new:aO K H2 (hid (W++F.Z) H2) p d') :
 Rel K F σ H2 (ρ.set i (some (d',m))) W:=by
 obtain ⟨v,hv,hS⟩:=R.slot i d m h;rw [hp] at hv;cases hv
 have hw:p∈W:=by
  cases m with
  | fz=>exact absurd rfl hm
  | ow=>obtain ⟨r,e2,e3,_⟩:=hS;cases e2;exact e3
  | io=>obtain ⟨r,e2,e3,_⟩:=hS;cases e2;exact e3
 have sh:ai (hid (W++F.Z) H) (hid (W++F.Z) H2):=aP (fun b hb=> .inl hb) fun b o n e=>fr.keep b o (fun z=>n (by rw [DC.mp z];exact Dp _ hw)) e
 have eq:∀ r,r≠p->eL (H r)->H2 r=H r:=fun r hr hM=>by
  obtain ⟨u,q⟩:=hM.some;rw [q];exact fr.keep r u (by simpa using hr) q
 refine ⟨fun j e n hj=> ?_,fun j k e f n n' r h1 h2 h3 h4 h5 h6=> ?_,R.wz,fun r hr=> ?_,by rw [Ex];exact R.len⟩
 ·rcases ba hj with ⟨rfl,e1⟩ | ⟨ne,e1⟩
  ·cases e1
   refine ⟨_,hp,?_⟩
   cases m with
   | fz=>exact absurd rfl hm
   | ow=>exact ⟨p,rfl,hw,new⟩
   | io=>obtain ⟨r,e2,e3,e4,e5⟩:=hS;cases e2;exact ⟨p,rfl,hw,new,e5⟩
  ·obtain ⟨v,g1,g2⟩:=R.slot j e n e1
   refine ⟨v,g1,?_⟩
   have other:∀ r,v = .ref r->n ≠ .fz->r≠p:=fun r er hn z=>by
    subst er z;exact ne (R.apart j i _ _ _ _ _ e1 hn h hm g1 hp)
   cases n with
   | fz=>exact sh.repD g2
   | ow=>obtain ⟨r,e2,e3,e4⟩:=g2;exact ⟨r,e2,e3,e4.at (eq r (other r e2 (by decide)) e4.mu) sh⟩
   | io=>obtain ⟨r,e2,e3,e4,e5⟩:=g2;exact ⟨r,e2,e3,e4.at (eq r (other r e2 (by decide)) e4.mu) sh,e5⟩
 ·have fnd:∀ {j:Nat} {e:D} {n:Md},(ρ.set i (some (d',m)))[j]?=some (some (e,n))->n ≠ .fz->∃ e',ρ[j]?=some (some (e',n)):=fun {j e n} hj hn=>by
   rcases ba hj with ⟨rfl,e1⟩ | ⟨_,e1⟩
   ·cases e1;exact ⟨d,h⟩
   ·exact ⟨_,e1⟩
  obtain ⟨_,z1⟩:=fnd h1 h2;obtain ⟨_,z2⟩:=fnd h3 h4;exact R.apart j k _ _ _ _ _ z1 h2 z2 h4 h5 h6
 ·by_cases e:r=p
  ·subst e;exact new.mu
  ·rw [eq r e (R.mt r hr)];exact R.mt r hr
variable(K F σ H ρ W) in
noncomputable def ArgR:Arg->D->V->Prop
 | .ex _,d,v=>aF K (hid (W++F.Z) H) d v
 | .bor i,d,v=>σ[i]?=some (some v)/\∃ m,ρ[i]?=some (some (d,m))
variable(K F σ H ρ W) in
noncomputable def eM:List Arg->List D->List V->Prop
 | [],[],[]=>True
 | a::as,d::ds,v::vs=>ArgR K F σ H ρ W a d v/\eM as ds vs
 | _,_,_=>False
theorem eM.len:∀ {as:List Arg} {ds:List D} {vs:List V},eM K F σ H ρ W as ds vs->vs.length=ds.length
 | [],[],[],_=>rfl
 | _::_,_::_,_::_,h=>by rw [Dq,Dq,eM.len h.2]
 | [],_::_,_,h=>h.elim
 | [],[],_::_,h=>h.elim
 | _::_,[],_,h=>h.elim
 | _::_,_::_,[],h=>h.elim
theorem eM.get:∀ {as:List Arg} {ds:List D} {vs:List V} {j:Nat} {d:D} {v:V},eM K F σ H ρ W as ds vs->ds[j]?=some d->vs[j]?=some v->∃ a,as[j]?=some a/\ArgR K F σ H ρ W a d v
 | a::_,_::_,_::_,0,d,v,h,e1,e2=>by
  simp only [DN,Option.some.injEq] at e1 e2;subst e1 e2;exact ⟨a,rfl,h.1⟩
 | _::_,_::_,_::_,j+1,d,v,h,e1,e2=>by
  simp only [DR] at e1 e2 ⊢;exact eM.get h.2 e1 e2
 | [],[],[],_,_,_,_,e,_=>by simp at e
 | [],_::_,_,_,_,_,h,_,_=>h.elim
 | [],[],_::_,_,_,_,h,_,_=>h.elim
 | _::_,[],_,_,_,_,h,_,_=>h.elim
 | _::_,_::_,[],_,_,_,h,_,_=>h.elim
theorem eM.at:∀ {as:List Arg} {ds:List D} {vs:List V} {j:Nat} {a:Arg},eM K F σ H ρ W as ds vs->as[j]?=some a->∃ d v,ds[j]?=some d/\vs[j]?=some v/\ArgR K F σ H ρ W a d v
 | a::_,d::_,v::_,0,b,h,e1=>by
  simp only [DN,Option.some.injEq] at e1;subst e1;exact ⟨d,v,rfl,rfl,h.1⟩
 | _::_,_::_,_::_,j+1,a,h,e1=>by
  simp only [DR] at e1 ⊢;exact eM.at h.2 e1
 | [],[],[],_,_,_,e=>by simp at e
 | [],_::_,_,_,_,h,_=>h.elim
 | [],[],_::_,_,_,h,_=>h.elim
 | _::_,[],_,_,_,h,_=>h.elim
 | _::_,_::_,[],_,_,h,_=>h.elim
variable(K F EX) in
noncomputable def OkA2(σ:St)(H:Hp)(W:List Addr)(as:List Arg)(o:Option (qV×Rho))(Q:List V->Hp->Prop):Prop:=match o with
 | some (.ok ds,ρ')=>∀ vs H' W',Fr W H H'->(∀ p∈W',p∈W)->Rel K F σ H' ρ' W'->eM K F σ H' ρ' W' as ds vs->Q vs H'
 | some (.ex C,ρ')=>∀ H' W',Fr W H H'->(∀ p∈W',p∈W)->Rel K F σ H' ρ' W'->EX C σ H'
 | none=>False
theorem qU:∀ (as:List Arg) {H:Hp} {ρ:Rho} {W:List Addr} {Q:List V->Hp->Prop},Rel K F σ H ρ W->OkA2 K F EX σ H W as (evA as ρ) Q->tAs K EX as σ H Q
 | [],H,ρ,W,Q,R,h=>h [] H W .refl (fun _ z=>z) R trivial
 | .ex f::as,H,ρ,W,Q,R,h=>by
  refine ⟨F,ρ,W,R,?_⟩;unfold evA at h
  revert h
  cases f ρ with
  | none=>exact fun h=>h
  | some r =>
   obtain ⟨r,ρ1⟩:=r
   cases r with
   | ex C=>exact fun h=>h
   | ok d nw =>
    intro h v H1 W1 fr sub post;obtain ⟨rd,R1⟩:=post.plain;refine qU as R1 ?_
    revert h
    dsimp only
    cases evA as ρ1 with
    | none=>exact fun h=>h
    | some q =>
     obtain ⟨q,ρ2⟩:=q
     cases q with
     | ex C=>exact fun h H2 W2 fr2 sub2 R2=>h H2 W2 (fr.trans fr2 fun p hp=> .inl (sub p hp)) (fun p hp=>sub p (sub2 p hp)) R2
     | ok ds =>
      intro h vs H2 W2 fr2 sub2 R2 reps;exact h (v::vs) H2 W2 (fr.trans fr2 fun p hp=> .inl (sub p hp)) (fun p hp=>sub p (sub2 p hp)) R2 ⟨(fr2.hid fun p hp=> .inl (sub2 p hp)).repD rd,reps⟩
 | .bor i::as,H,ρ,W,Q,R,h=>by
  unfold evA at h
  revert h
  cases e:ρ[i]? with
  | none=>exact fun h=>h.elim
  | some z =>
   cases z with
   | none=>exact fun h=>h.elim
   | some dm =>
    obtain ⟨d0,m0⟩:=dm;obtain ⟨v,hv,_⟩:=R.slot i d0 m0 e;intro h;refine ⟨v,hv,qU as R ?_⟩
    revert h
    dsimp only
    cases evA as ρ with
    | none=>exact fun h=>h
    | some q =>
     obtain ⟨q,ρ2⟩:=q
     cases q with
     | ex C=>exact fun h=>h
     | ok ds =>
      dsimp only
      cases e2:ρ2[i]? with
      | none=>exact fun h=>h.elim
      | some z =>
       cases z with
       | none=>exact fun h=>h.elim
       | some dm =>
        obtain ⟨d,m⟩:=dm;intro h vs H2 W2 fr2 sub2 R2 reps;exact h (v::vs) H2 W2 fr2 sub2 R2 ⟨⟨hv,m,e2⟩,reps⟩
end
structure gW(X:Cx)(EX:EXT):Prop where
 call:∀ {x:Str} {ps:List Str} {k:Nat} {sp:Sp} {e:Expr} {es:List Expr} {t:TA} {p pos:Pos} (h:OkX X.prog X.w X.K X.mg X.base x ps k sp) (hr:cx k X.A) (hg:Gl X x) (ha:PA X (e::es) t) (hdb:(x == ("__debug__" : Str))=false)
  (he:starEach (e::es) X.env=(false,eval e X.env)::starEach es X.env) (hpl:(backTo pos (starEach es X.env)).any (·.1)=false),PE X (.Call (.Name x p) (e::es) [] pos) (fun σ H Q=>t σ H fun vs H1=>sp vs H1 Q fun c _ H'=>∃ nm C,c = .ref C/\gK X.K nm C/\EX nm σ H')
noncomputable def EXn:EXT:=fun _ _ _=>False
theorem nN{sp:Sp}{Q:VK}{E:XK}:(fun (vs:List V) H1=>sp (vs++[]) H1 Q E)=fun vs H1=>sp vs H1 Q E:=by
 funext vs H1
 rw [DW]
theorem nJ{X:Cx}:gW X EXn:=⟨fun {x ps k sp e es t p pos} h hr hg ha hdb he hpl=>by
 obtain ⟨f,fd,hm,hk,hb,F⟩:=h.ex
 refine (vx F hr hg hm hk hb .nil (E:=fun c _ H'=>∃ nm C,c=Value.ref C/\gK X.K nm C/\False) (fun _ _ _ _ _ _ _ hZ=>(by obtain ⟨_,_,_,_,_,_,_,_,_,_,_,_,_,_,z⟩:=hZ;exact z.elim)) ha hdb he hpl).by fun σ H Q h=> ?_
 unfold u5;rw [nN]
 exact h⟩
theorem uG{P:Program}{w:World}{K:FZ}{mg:Str->Option Value}{base:Heap}{N:List Str}{qual:Str}{scope:Scope}{f:Addr}{cd:Value}{A:Around}{outer:List Env}{s:Shared}{H:Hp}{E:XK} :
 gW (bZ (CXr P w) P w K mg base N qual scope f cd A outer s H E) (EXf K E):=⟨fun {x ps k sp e es t p pos} h hr hg ha hdb he hpl=>by
 obtain ⟨f',fd,hm,hk,hb,F⟩:=h.ex
 refine (vx (X:=bZ (CXr P w) P w K mg base N qual scope f cd A outer s H E) F hr hg hm hk hb .nil (E:=fun c _ H'=>∃ nm C,c=Value.ref C/\gK K nm C/\∀ C',gK K nm C'->∀ x,E (.ref C') x H') (yL fun c d H' z=>by obtain ⟨nm,C,rfl,hc,z⟩:=z;exact z C hc d) ha hdb he hpl).by fun σ H Q h=> ?_
 unfold u5;rw [nN]
 exact h⟩
theorem uF{X:Cx}{pn:List (Addr×Obj)}{EX:EXT}:gW (rj X pn fun c σ H=>∃ nm C,c = .ref C/\gK X.K nm C/\EX nm σ H) EX:=⟨fun {x ps k sp e es t p pos} h hr hg ha hdb he hpl=>yI h hr hg ha hdb he hpl⟩
noncomputable def cm(io:Option Nat):Nat->List Arg->Rho->Bool
 | _,[],_=>true
 | j,.ex _::as,ρ=>cm io (j+1) as ρ
 | j,.bor i::as,ρ=>(if io=some j then true else match ρ[i]? with
  | some (some (_,.fz))=>true
  | _=>false)&&cm io (j+1) as ρ
noncomputable def gM(i k:Nat):Nat->List Arg->Bool
 | _,[]=>true
 | j,.ex _::as=>gM i k (j+1) as
 | j,.bor i'::as=>(decide (j=k)||decide (i'≠i))&&gM i k (j+1) as
noncomputable def ioOk(io:Option Nat)(as:List Arg)(slot:Option Nat):Bool:=match io,slot with
 | none,none=>true
 | some k,some i=>(match as[k]? with
  | some (.bor i')=>decide (i'=i)
  | _=>false)&&gM i k 0 as
 | _,_=>false
noncomputable def eE(slot:Option Nat)(dio:D)(ρ:Rho):Option Rho:=match slot with
 | none=>some ρ
 | some i=>match ρ[i]? with
  | some (some (_,.ow))=>some (ρ.set i (some (dio,.ow)))
  | some (some (_,.io))=>some (ρ.set i (some (dio,.io)))
  | _=>none
noncomputable def im(d:D)(nw:Bool):Bool:=if nw then cG d else eJ d
noncomputable def ar(io slot:Option Nat)(run:FS)(as:List Arg):SE:=fun ρ=>match evA as ρ with
 | some (.ok ds,ρ1)=>match run ds with
  | some (.ok d nw,dio)=>if (cm io 0 as ρ1||(im d nw&&(io.isNone||cG dio)))=true then
   match eE slot dio ρ1 with
   | some ρ2=>some (.ok d nw,ρ2)
   | none=>none
   else none
  | some (.ex C,dio)=>if (cm io 0 as ρ1||(io.isNone||cG dio))=true then
   match eE slot dio ρ1 with
   | some ρ2=>some (.ex C,ρ2)
   | none=>none
   else none
  | none=>none
 | some (.ex C,ρ')=>some (.ex C,ρ')
 | none=>none
theorem fq{io:Option Nat}{ρ:Rho}:∀ {as:List Arg} {j n:Nat} {i:Nat},cm io n as ρ=true->as[j]?=some (.bor i)->io≠some (n+j)->∃ d,ρ[i]?=some (some (d,.fz))
 | [],j,n,i,h,e,_=>by simp at e
 | .ex _::as,0,n,i,h,e,_=>by simp at e
 | .bor i'::as,0,n,i,h,e,ne=>by
  simp only [DN,Option.some.injEq,Arg.bor.injEq] at e;subst e;unfold cm at h;have h:=((DK _ _).mp h).1;rw [if_neg (by simpa using ne)] at h
  split at h
  ·exact ⟨_,by assumption⟩
  ·cases h
 | .ex _::as,j+1,n,i,h,e,ne=>by
  unfold cm at h;exact fq (j:=j) (n:=n+1) h (by simpa using e) (by rw [show n+1+j=n+(j+1) by omega];exact ne)
 | .bor _::as,j+1,n,i,h,e,ne=>by
  unfold cm at h;exact fq (j:=j) (n:=n+1) ((DK _ _).mp h).2 (by simpa using e) (by rw [show n+1+j=n+(j+1) by omega];exact ne)
theorem jb{i k:Nat}:∀ {as:List Arg} {j n:Nat} {i':Nat},gM i k n as=true->as[j]?=some (.bor i')->n+j≠k->i'≠i
 | [],j,n,i',h,e,_=>by simp at e
 | .ex _::as,0,n,i',h,e,_=>by simp at e
 | .bor i2::as,0,n,i',h,e,ne=>by
  simp only [DN,Option.some.injEq,Arg.bor.injEq] at e;subst e;unfold gM at h;have h:=((DK _ _).mp h).1
  rcases (FE _ _).mp h with z | z
  ·exact absurd (by simpa using DH z) ne
  ·exact DH z
 | .ex _::as,j+1,n,i',h,e,ne=>by
  unfold gM at h;exact jb (j:=j) (n:=n+1) h (by simpa using e) (by omega)
 | .bor _::as,j+1,n,i',h,e,ne=>by
  unfold gM at h;exact jb (j:=j) (n:=n+1) ((DK _ _).mp h).2 (by simpa using e) (by omega)
section
variable{K:FZ}{F:Fx}{σ:St}{H:Hp}{ρ:Rho}{W:List Addr}
theorem Cl{io slot:Option Nat}{as:List Arg}{ds:List D}{vs:List V}{dio:D}{ρ2:Rho}(R:Rel K F σ H ρ W)(A:eM K F σ H ρ W as ds vs)(hio:ioOk io as slot=true)(hput:eE slot dio ρ=some ρ2) :
 ∃ Wc Zc,(∀ p∈Wc,p∉Zc)/\(∀ b,b∈Wc++Zc->b∈W++F.Z)/\(∀ p∈Wc,p∈W)/\(cm io 0 as ρ=true->∀ b,b∈W++F.Z->b∈Wc++Zc) /\
  (∀ (j:Nat) (d:D) (v:V),io≠some j->ds[j]?=some d->vs[j]?=some v->aF K (hid (Wc++Zc) H) d v) /\
  (∀ k,io=some k->∃ p d,vs[k]?=some (V.ref p)/\ds[k]?=some d/\Wc=[p]/\aO K H (hid (Wc++Zc) H) p d)/\(io=none->Wc=[]) /\
  ∀ H2,Fr Wc H H2->(∀ p,Wc=[p]->aO K H2 (hid (W++F.Z) H2) p dio)->Rel K F σ H2 ρ2 W:=by
 cases io with
 | none =>
  cases slot with
  | some i=>cases hio
  | none =>
   cases hput
   have fin:∀ H2,Fr [] H H2->Rel K F σ H2 ρ W:=fun H2 fr=>R.same fun b o e=>fr.keep b o (by simp) e
   by_cases hn:cm none 0 as ρ=true
   ·refine ⟨[],W++F.Z,fun p hp=>by simp at hp,fun b hb=>by simpa using hb,fun p hp=>by simp at hp,fun _ b hb=>by simpa using hb,fun j d v _ e1 e2=> ?_,fun k z=>(by cases z),fun _=>rfl,fun H2 fr _=>fin H2 fr⟩
    obtain ⟨a,ea,ra⟩:=A.get e1 e2
    cases a with
    | ex f=>exact ra
    | bor i =>
     obtain ⟨d',hd'⟩:=fq hn ea (by simp);obtain ⟨q1,m,q2⟩:=ra;rw [hd'] at q2;cases q2;obtain ⟨v',q3,q4⟩:=R.slot i _ _ hd';rw [q1] at q3;cases q3;exact q4
   ·refine ⟨[],F.Z,fun p hp=>by simp at hp,fun b hb=>Dl _ (by simpa using hb),fun p hp=>by simp at hp,fun z=>absurd z hn,fun j d v _ e1 e2=> ?_,fun k z=>(by cases z),fun _=>rfl,fun H2 fr _=>fin H2 fr⟩
    have sh:ai (hid (W++F.Z) H) (hid ([]++F.Z) H):=aP (fun b hb=> .inl (Dl _ (by simpa using hb))) fun b o _ e=>e
    obtain ⟨a,ea,ra⟩:=A.get e1 e2
    cases a with
    | ex f=>exact sh.repD ra
    | bor i =>
     obtain ⟨q1,m,q2⟩:=ra;obtain ⟨v',q3,q4⟩:=R.slot i _ _ q2;rw [q1] at q3;cases q3
     cases m with
     | fz=>exact sh.repD q4
     | ow=>obtain ⟨p,rfl,hp,hO⟩:=q4;exact hO.rep (aI (by simpa using R.wz p hp)) sh
     | io=>obtain ⟨p,rfl,hp,hO,_⟩:=q4;exact hO.rep (aI (by simpa using R.wz p hp)) sh
 | some k =>
  cases slot with
  | none=>cases hio
  | some i =>
   have hio:((match as[k]? with
    | some (.bor i')=>decide (i'=i)
    | _=>false)&&gM i k 0 as)=true:=hio
   obtain ⟨h1,hap⟩:=(DK _ _).mp hio
   have hk:as[k]?=some (.bor i):=by
    split at h1
    ·rename_i i' e
     rw [e,DH h1]
    ·cases h1
   have hm:∃ d0 m,ρ[i]?=some (some (d0,m))/\m ≠ .fz/\ρ2=ρ.set i (some (dio,m)):=by
    unfold eE at hput;dsimp only at hput
    split at hput
    ·rename_i d0 e;cases hput;exact ⟨d0,_,e,by decide,rfl⟩
    ·rename_i d0 e;cases hput;exact ⟨d0,_,e,by decide,rfl⟩
    ·cases hput
   obtain ⟨d0,m,e0,hmf,rfl⟩:=hm;obtain ⟨v0,g1,g2⟩:=R.slot i d0 m e0
   have own:∃ p,v0 = .ref p/\p∈W/\aO K H (hid (W++F.Z) H) p d0:=by
    cases m with
    | fz=>exact absurd rfl hmf
    | ow=>exact g2
    | io=>obtain ⟨p,z1,z2,z3,_⟩:=g2;exact ⟨p,z1,z2,z3⟩
   obtain ⟨p,rfl,hpW,hO⟩:=own;obtain ⟨dk,vk,f1,f2,f3,mk,f4⟩:=A.at hk;rw [g1] at f3;cases f3;rw [e0] at f4;cases f4
   have fin:∀ H2,Fr [p] H H2->(∀ q,[p]=[q]->aO K H2 (hid (W++F.Z) H2) q dio)->Rel K F σ H2 (ρ.set i (some (dio,m))) W:=fun H2 fr new=>R.wrote e0 hmf g1 fr (new p rfl)
   have oth:∀ (j:Nat) (i':Nat) (d:D) (v:V) (m':Md),some k≠some j->as[j]?=some (.bor i')->σ[i']?=some (some v)->ρ[i']?=some (some (d,m'))->m' ≠ .fz->v ≠ .ref p:=fun j i' d v m' ne ea q1 q2 hm' z=>by
    have ni:i'≠i:=jb hap ea (fun z=>ne (by rw [<- z,Ep]));subst z;exact ni (R.apart i' i _ _ _ _ _ q2 hm' e0 hmf q1 g1)
   by_cases hn:cm (some k) 0 as ρ=true
   ·have m1:∀ b,b∈[p]++(W.filter (fun a=>decide (a≠p))++F.Z)->b∈W++F.Z:=fun b hb=>by
     rcases DG.mp hb with z | z
     ·rw [DC.mp z];exact Dp _ hpW
     ·rcases DG.mp z with z | z
      ·exact Dp _ (Es.mp z).1
      ·exact Dl _ z
    have m2:∀ b,b∈W++F.Z->b∈[p]++(W.filter (fun a=>decide (a≠p))++F.Z):=fun b hb=>by
     by_cases z:b=p
     ·rw [z];exact Dp _ (DC.mpr rfl)
     ·refine Dl _ ?_
      rcases DG.mp hb with y | y
      ·exact Dp _ (Es.mpr ⟨y,DF z⟩)
      ·exact Dl _ y
    have sh:ai (hid (W++F.Z) H) (hid ([p]++(W.filter (fun a=>decide (a≠p))++F.Z)) H):=aP (fun b hb=> .inl (m1 b hb)) fun b o _ e=>e
    refine ⟨[p],W.filter (fun a=>decide (a≠p))++F.Z,fun q hq z=> ?_,m1,fun q hq=>by rw [DC.mp hq];exact hpW,fun _=>m2,fun j d v ne e1 e2=> ?_,fun k' z=> ?_,fun z=>(by cases z),fin⟩
    ·rw [DC.mp hq] at z
     rcases DG.mp z with y | y
     ·exact absurd rfl (DH (Es.mp y).2)
     ·exact R.wz p hpW y
    ·obtain ⟨a,ea,ra⟩:=A.get e1 e2
     cases a with
     | ex f=>exact sh.repD ra
     | bor i' =>
      obtain ⟨d',hd'⟩:=fq hn ea (by rw [Ep];exact ne);obtain ⟨q1,m',q2⟩:=ra;rw [hd'] at q2;cases q2;obtain ⟨v',q3,q4⟩:=R.slot i' _ _ hd';rw [q1] at q3;cases q3;exact sh.repD q4
    ·cases z
     exact ⟨p,_,f2,f1,rfl,hO.at rfl sh⟩
   ·have m1:∀ b,b∈[p]++F.Z->b∈W++F.Z:=fun b hb=>by
     rcases DG.mp hb with z | z
     ·rw [DC.mp z];exact Dp _ hpW
     ·exact Dl _ z
    have sh:ai (hid (W++F.Z) H) (hid ([p]++F.Z) H):=aP (fun b hb=> .inl (m1 b hb)) fun b o _ e=>e
    refine ⟨[p],F.Z,fun q hq z=>by rw [DC.mp hq] at z;exact R.wz p hpW z,m1,fun q hq=>by rw [DC.mp hq];exact hpW,fun z=>absurd z hn,fun j d v ne e1 e2=> ?_,fun k' z=> ?_,fun z=>(by cases z),fin⟩
    ·obtain ⟨a,ea,ra⟩:=A.get e1 e2
     cases a with
     | ex f=>exact sh.repD ra
     | bor i' =>
      obtain ⟨q1,m',q2⟩:=ra;obtain ⟨v',q3,q4⟩:=R.slot i' _ _ q2;rw [q1] at q3;cases q3
      have out:∀ r,v = .ref r->m' ≠ .fz->r∈W->r∉[p]++F.Z:=fun r er hm' hr z=>by
       rcases DG.mp z with y | y
       ·rw [DC.mp y] at er
        exact oth j i' _ _ _ ne ea q1 q2 hm' er
       ·exact R.wz r hr y
      cases m' with
      | fz=>exact sh.repD q4
      | ow=>obtain ⟨r,rfl,hr,hO'⟩:=q4;exact hO'.rep (aI (out r rfl (by decide) hr)) sh
      | io=>obtain ⟨r,rfl,hr,hO',_⟩:=q4;exact hO'.rep (aI (out r rfl (by decide) hr)) sh
    ·cases z
     exact ⟨p,_,f2,f1,rfl,hO.at rfl sh⟩
end
section
variable{X:Cx}{EX:EXT}{e:Expr}{es:List Expr}{as:List Arg}
theorem dB{L L':List Addr}{H:Hp}(h:∀ b,b∈L'->b∈L):ai (hid L H) (hid L' H):=aP (fun b hb=> .inl (h b hb)) fun b o _ e=>e
theorem uP{x:Str}{ps:List Str}{k k':Nat}{io slot:Option Nat}{run:FS}{p pos:Pos}(C:gW X EX)(h:OkX X.prog X.w X.K X.mg X.base x ps k (spF X.K io run))(hr:cx k' X.A)(hk:k<=k')(hg:Gl X x)(ha:JA X EX (e::es) as)
 (hio:ioOk io as slot=true:=by rfl) (hdb:(x == ("__debug__" : Str))=false:=by decide) (he:starEach (e::es) X.env=(false,eval e X.env)::starEach es X.env:=by rfl) (hpl:(backTo pos (starEach es X.env)).any (·.1)=false:=by rfl) :
 JE X EX (.Call (.Name x p) (e::es) [] pos) (ar io slot run as) :=
 ⟨(C.call h (hr.mono hk) hg ha.p hdb he hpl).by fun σ H Q ⟨F,ρ,W,R,h⟩=>by
   refine qU as R ?_;unfold ar at h
   revert h
   cases evA as ρ with
   | none=>exact fun h=>h
   | some q =>
    obtain ⟨q,ρ1⟩:=q
    cases q with
    | ex C=>exact fun h=>h
    | ok ds =>
     dsimp only
     cases er:run ds with
     | none=>exact fun h=>h.elim
     | some r =>
      obtain ⟨r,dio⟩:=r
      have key:∀ {ρ2:Rho} {vs:List V} {H1:Hp} {W1:List Addr} (b:Bool),Rel X.K F σ H1 ρ1 W1->eM X.K F σ H1 ρ1 W1 as ds vs->eE slot dio ρ1=some ρ2->(cm io 0 as ρ1||(b&&(io.isNone||cG dio)))=true ->
       ∃ Wc Zc,(∀ p∈Wc,p∉Zc)/\(∀ p∈Wc++Zc,eL (H1 p))/\(∀ p∈Wc,p∈W1) /\
        (∀ (j:Nat) (d:D) (v:V),io≠some j->ds[j]?=some d->vs[j]?=some v->aF X.K (hid (Wc++Zc) H1) d v) /\
        (∀ k,io=some k->∃ p d,vs[k]?=some (V.ref p)/\ds[k]?=some d/\Wc=[p]/\aO X.K H1 (hid (Wc++Zc) H1) p d)/\(io=none->Wc=[]) /\
        ∀ H2 Q',Fr Wc H1 H2->(∀ b,b∈Q'->H1 b=none)->(∀ p,Wc=[p]->aO X.K H2 (hid (Q'++(Wc++Zc)) H2) p dio) ->
         Rel X.K F σ (hid Q' H2) ρ2 W1/\(∀ p∈W1++F.Z,eL (H2 p))/\((∀ b,b∈W1++F.Z->b∈Wc++Zc)\/b=true):=fun {ρ2 vs H1 W1} b R1 A1 hput hc=>by
       obtain ⟨Wc,Zc,c1,c2,c3,c4,c5,c6,c7,c8⟩:=Cl R1 A1 hio hput;refine ⟨Wc,Zc,c1,fun p hp=>R1.mt p (c2 p hp),c3,c5,c6,c7,fun H2 Q' fr hQ own=> ?_⟩
       have wc1:∀ p∈Wc,Wc=[p]:=fun p hp=>by
        cases hz:io with
        | none=>rw [c7 hz] at hp;cases hp
        | some k =>
         obtain ⟨p',_,_,_,e,_⟩:=c6 k hz;rw [e] at hp ⊢;rw [DC.mp hp]
       have mt2:∀ p∈W1++F.Z,eL (H2 p):=fun p hp=>by
        by_cases z:p∈Wc
        ·exact (own p (wc1 p z)).mu
        ·obtain ⟨u,q⟩:=(R1.mt p hp).some
         rw [fr.keep p u z q,<- q];exact R1.mt p hp
       have qn:∀ p∈W1++F.Z,p∉Q':=fun p hp z=>by
        have:=R1.mt p hp;rw [hQ p z] at this;exact this
       have fr2:Fr Wc H1 (hid Q' H2):=⟨fun b o n e=>by
        rw [aI (fun z=>by rw [hQ b z] at e;cases e)]
        exact fr.keep b o n e,fun b e=>by
        by_cases z:b∈Q'
        ·exact hQ b z
        ·rw [aI z] at e;exact fr.dom b e⟩
       have or1:(∀ b,b∈W1++F.Z->b∈Wc++Zc)\/(b=true/\(io.isNone||cG dio)=true):=by
        rcases (FE _ _).mp hc with z | z
        ·exact .inl (c4 z)
        ·exact .inr ((DK _ _).mp z)
       refine ⟨c8 _ fr2 fun p hp=> ?_,mt2,or1.imp id (·.1)⟩;have hpW:p∈W1++F.Z:=Dp _ (c3 p (by rw [hp];exact DC.mpr rfl));have o1:=own p hp
       have sg:ai (hid (Q'++(W1++F.Z)) H2) (hid (W1++F.Z) (hid Q' H2)):=fun b o e=>by
        obtain ⟨z1,z2⟩:=aw e;rw [aI (fun z=>z1 (Dl _ z)),aI (fun z=>z1 (Dp _ z))];exact z2
       rcases or1 with z | ⟨_,z⟩
       ·refine o1.at (aI (qn p hpW)) (ai.trans (dB fun b hb=> ?_) sg)
        rcases DG.mp hb with y | y
        ·exact Dp _ y
        ·exact Dl _ (z b y)
       ·have hf:cG dio=true:=by
         cases hz:io with
         | none=>rw [c7 hz] at hp;cases hp
         | some k=>rw [hz] at z;exact z
        have hnf:aO X.K H2 (hid (W1++F.Z) H2) p dio:=o1.flat mt2 hf
        have o2:aO X.K (hid Q' H2) (hid (Wc++Zc) (hid Q' H2)) p dio:=o1.at (aI (qn p hpW)) fun b o e=>by
         obtain ⟨z1,z2⟩:=aw e;rw [aI (fun z=>z1 (Dl _ z)),aI (fun z=>z1 (Dp _ z))];exact z2
        exact o2.flat (fun p hp=>by rw [aI (qn p hp)];exact mt2 p hp) hf
      cases r with
      | ex C =>
       dsimp only
       split
       ·rename_i hc
        cases ep:eE slot dio ρ1 with
        | none=>exact fun h=>h.elim
        | some ρ2 =>
         intro h vs H1 W1 fr1 sub1 R1 A1;obtain ⟨Wc,Zc,c1,c2,c3,c5,c6,c7,c8⟩:=key true R1 A1 ep (by simpa using hc);refine ⟨Zc,Wc,ds,A1.len,c1,c2,c5,c6,c7,?_⟩;rw [er];intro H2 fr2 own ca hca x;obtain ⟨R2,_,_⟩:=c8 H2 [] fr2 (fun b hb=>by simp at hb) own;exact ⟨C,ca,rfl,hca,h H2 W1 (fr1.trans fr2 fun p hp=> .inl (sub1 p (c3 p hp))) sub1 (R2.same ay)⟩
       ·exact fun h=>h.elim
      | ok d nw =>
       dsimp only
       split
       ·rename_i hc
        cases ep:eE slot dio ρ1 with
        | none=>exact fun h=>h.elim
        | some ρ2 =>
         intro h vs H1 W1 fr1 sub1 R1 A1;obtain ⟨Wc,Zc,c1,c2,c3,c5,c6,c7,c8⟩:=key (im d nw) R1 A1 ep hc;refine ⟨Zc,Wc,ds,A1.len,c1,c2,c5,c6,c7,?_⟩;rw [er]
         cases nw with
         | false =>
          intro v H2 fr2 rep own;obtain ⟨R2,mt2,z⟩:=c8 H2 [] fr2 (fun b hb=>by simp at hb) own;refine h v H2 W1 (fr1.trans fr2 fun p hp=> .inl (sub1 p (c3 p hp))) sub1 ⟨?_,R2.same ay⟩
          rcases z with z | z
          ·exact (dB z).repD rep
          ·exact aF.flat mt2 z rep
         | true =>
          intro q H2 fr2 hq hO own;obtain ⟨R2,mt2,z⟩:=c8 H2 [q] fr2 (fun b hb=>by rw [DC.mp hb];exact hq) own;refine h (.ref q) H2 W1 (fr1.trans fr2 fun p hp=> .inl (sub1 p (c3 p hp))) sub1 ⟨q,rfl,fr1.dom q hq,R1.fresh hq,?_,R2⟩
          rcases z with z | z
          ·refine hO.at rfl (dB fun b hb=> ?_)
           rcases Dz.mp hb with y | y
           ·rw [y];exact Dv
           ·exact Dr _ (z b y)
          ·refine hO.flat (fun p hp=> ?_) z
           rcases Dz.mp hp with y | y
           ·rw [y];exact hO.mu
           ·exact mt2 p y
       ·exact fun h=>h.elim⟩
end
theorem PS.nox{X:Cx}{st:Stmt}{t:TS}(h:PS X.nox st t):PS X st t:=fun pins s σ H D I hw =>
 EA (h pins s σ H D (I.wish _) hw) (fun _ _ q=>q.unwish) fun _ _ z=>False.elim z
abbrev SI:=Rho->Option (qV×Rho)
structure ItOk(K:FZ)(L0:List Addr)(ds:List D)(J:It)(H0:Hp):Prop where
 go:∀ (H:Hp) (L:List Addr) (i:Nat) (d:D),ai (hid L0 H0) (hid L H)->(∀ p∈L,eL (H p))->ds[i]?=some d->J.go i H/\∀ x H',J.yld i H x H'->ai H H'/\aF K (hid L H') d x
 stop:∀ H,ai (hid L0 H0) H->J.stop ds.length H
 few:ds.length<=sizeLine
section
variable(K:FZ)(F:Fx)(EX:EXT)(σ:St)(H:Hp)(W:List Addr)
noncomputable def OkI(o:Option (qV×Rho))(R:It->Hp->Prop):Prop:=match o with
 | some (.ok ds,ρ')=>∀ J H' W',Fr W H H'->(∀ p∈W',p∈W)->Rel K F σ H' ρ' W'->ItOk K (W'++F.Z) ds J H'->R J H'
 | some (.ex C,ρ')=>∀ H' W',Fr W H H'->(∀ p∈W',p∈W)->Rel K F σ H' ρ' W'->EX C σ H'
 | none=>False
end
noncomputable def tI(K:FZ)(EX:EXT)(f:SI):TI:=fun σ H R=>∃ F ρ W,Rel K F σ H ρ W/\OkI K F EX σ H W (f ρ) R
structure JI(X:Cx)(EX:EXT)(tg iter:Expr)(f:SI):Prop where
 p:PI X tg iter (tI X.K EX f)
noncomputable def bF(T:Tg)(f:SS):List D->Rho->Option (Out×Rho)
 | [],ρ=>some (.nx,ρ)
 | d::ds,ρ=>match bE T d ρ with
  | none=>none
  | some ρ1=>match f ρ1 with
   | some (.nx,ρ2)=>bF T f ds ρ2
   | some (.ct,ρ2)=>bF T f ds ρ2
   | some (.bk,ρ2)=>some (.nx,ρ2)
   | some (.rt d nw,ρ2)=>some (.rt d nw,ρ2)
   | some (.ex _,_)=>none
   | none=>none
noncomputable def dP(it:SI)(T:Tg)(f:SS):SS:=fun ρ=>match it ρ with
 | some (.ok ds,ρ1)=>bF T f ds ρ1
 | some (.ex _,_)=>none
 | none=>none
noncomputable def de:Nat->ST->SS->SS
 | 0,_,_=>fun _=>none
 | n+1,c,f=>fun ρ=>match c ρ with
  | some (.ok false,ρ1)=>some (.nx,ρ1)
  | some (.ok true,ρ1)=>match f ρ1 with
   | some (.nx,ρ2)=>de n c f ρ2
   | some (.ct,ρ2)=>de n c f ρ2
   | some (.bk,ρ2)=>some (.nx,ρ2)
   | some (.rt d nw,ρ2)=>some (.rt d nw,ρ2)
   | some (.ex _,_)=>none
   | none=>none
  | some (.ex _,_)=>none
  | none=>none
section
variable{X:Cx}{EX:EXT}{tg iter c:Expr}{body:List Stmt}{pos:Pos}
theorem s_for{it:SI}{T:Tg}{f:SS}(hc:X.calm=true)(hi:JI X.nox EXn tg iter it)(hg:JG X.nox tg T)(hb:JSs X.nox EXn body f)(hs:∀ x,foldedSetIterable iter X.env x=pure x:=by intro _;rfl):JS X EX (.For tg iter body [] pos) (dP it T f) :=
 ⟨(PS.nox (yw (X:=X.nox) PassesOwn.never hc hi.p hg.p hb.p hs)).by fun D σ H ⟨F,ρ,W,R,h⟩=>⟨F,ρ,W,R,by
   unfold dP at h
   revert h
   cases it ρ with
   | none=>exact fun h=>h
   | some q =>
    obtain ⟨q,ρ1⟩:=q
    cases q with
    | ex C=>exact fun h=>h.elim
    | ok ds =>
     intro h J H1 W1 fr1 sub1 R1 ok;have h:OkS X.K F EX H W (bF T f ds ρ1) D:=h
     refine ⟨fun i m σ H2=>m=ds.length - i/\i<=ds.length/\∃ ρ2 W2,Rel X.K F σ H2 ρ2 W2/\Fr W1 H1 H2/\(∀ p∈W2,p∈W1\/H1 p=none)/\OkS X.K F EX H2 W2 (bF T f (ds.drop i) ρ2) D,
      ⟨ds.length,by simp,E9 _,ρ1,W1,R1,.refl,fun _ z=> .inl z,OkS.go h fr1 fun p hp=> .inl (sub1 p hp)⟩,?_⟩
     rintro i m σ2 H2 ⟨rfl,hi,ρ2,W2,R2,fr2,sub2,h2⟩
     by_cases hlt:i < ds.length
     ·have hd:ds.drop i=ds[i]::ds.drop (i+1):=List.drop_eq_getElem_cons hlt
      rw [hd] at h2;unfold bF at h2;obtain ⟨g1,g2⟩:=ok.go H2 (W2++F.Z) i ds[i] (fr2.hid sub2) R2.mt (Dm hlt);refine .inr ⟨g1,fun σ3 H3=>ds.length - (i+1)=ds.length - (i+1)/\i+1<=ds.length/\∃ ρ3 W3,Rel X.K F σ3 H3 ρ3 W3/\Fr W1 H1 H3/\(∀ p∈W3,p∈W1\/H1 p=none)/\OkS X.K F EX H3 W3 (bF T f (ds.drop (i+1)) ρ3) D,fun σ3 H3 z=>⟨_,by omega,z⟩,fun x H3 y=> ?_⟩;obtain ⟨s3,rx⟩:=g2 x H3 y
      revert h2
      cases ea:bE T ds[i] ρ2 with
      | none=>exact fun h=>h.elim
      | some ρ3 =>
       intro h2
       refine vI (n:=0) T (R2.same s3) rx ea fun σ4 _ R4=>⟨F,ρ3,W2,R4,?_⟩
       have fr3:Fr W1 H1 H3:=fr2.trans (s3.fr (W:=W2)) sub2
       have h3:OkS X.K F EX H3 W2 _ D:=OkS.go h2 (s3.fr (W:=W2)) fun p hp=> .inl hp
       have sub3:∀ {W4:List Addr},(∀ p∈W4,p∈W2\/H3 p=none)->∀ p∈W4,p∈W1\/H1 p=none:=fun {W4} s p hp=>(s p hp).elim (sub2 p) fun z=> .inr (fr3.dom p z)
       revert h3
       dsimp only
       cases f ρ3 with
       | none=>exact fun h=>h
       | some q =>
        obtain ⟨q,ρ4⟩:=q
        cases q with
        | nx=>exact fun h3 σ5 H5 W5 fr5 sub5 R5=>⟨rfl,hlt,ρ4,W5,R5,fr3.trans fr5 sub2,sub3 sub5,OkS.go h3 fr5 sub5⟩
        | ct=>exact fun h3 σ5 H5 W5 fr5 sub5 R5=>⟨rfl,hlt,ρ4,W5,R5,fr3.trans fr5 sub2,sub3 sub5,OkS.go h3 fr5 sub5⟩
        | bk=>exact fun h3=>h3
        | ex C=>exact fun h3=>h3.elim
        | rt d nw=>exact fun h3=>h3
     ·have e:i=ds.length:=by omega
      subst e;rw [List.drop_length] at h2
      exact .inl ⟨ok.stop H2 ((fr2.hid sub2).trans ay),h2 σ2 H2 W2 .refl (fun _ z=> .inl z) R2⟩⟩⟩
theorem AZ{n:Nat}{t:ST}{f:SS}(hc:JT X.nox EXn c t)(hb:JSs X.nox EXn body f):JS X EX (.While c body [] pos) (de n t f) :=
 ⟨(PS.nox (yu (X:=X.nox) PassesOwn.never hc.p hb.p)).by fun D σ H ⟨F,ρ,W,R,h⟩=>by
   refine ⟨fun m σ H2=>∃ ρ2 W2,Rel X.K F σ H2 ρ2 W2/\OkS X.K F EX H2 W2 (de m t f ρ2) D,⟨n,ρ,W,R,h⟩,?_⟩;rintro m σ2 H2 ⟨ρ2,W2,R2,h2⟩
   cases m with
   | zero=>exact h2.elim
   | succ m =>
    refine ⟨F,ρ2,W2,R2,?_⟩;unfold de at h2
    revert h2
    cases t ρ2 with
    | none=>exact fun h=>h
    | some q =>
     obtain ⟨q,ρ3⟩:=q
     cases q with
     | ex C=>exact fun h=>h.elim
     | ok k =>
      cases k with
      | false=>exact fun h H3 W3 fr3 sub3 R3=>h σ2 H3 W3 fr3 (fun p hp=> .inl (sub3 p hp)) R3
      | true =>
       intro h H3 W3 fr3 sub3 R3;refine ⟨fun σ' H'=>∃ ρ4 W4,Rel X.K F σ' H' ρ4 W4/\OkS X.K F EX H' W4 (de m t f ρ4) D,fun σ' H' z=>⟨m,Fd m,z⟩,F,ρ3,W3,R3,?_⟩
       have h3:OkS X.K F EX H3 W3 _ D:=OkS.go h fr3 fun p hp=> .inl (sub3 p hp)
       revert h3
       dsimp only
       cases f ρ3 with
       | none=>exact fun h=>h
       | some q =>
        obtain ⟨q,ρ4⟩:=q
        cases q with
        | nx=>exact fun h3 σ5 H5 W5 fr5 sub5 R5=>⟨ρ4,W5,R5,OkS.go h3 fr5 sub5⟩
        | ct=>exact fun h3 σ5 H5 W5 fr5 sub5 R5=>⟨ρ4,W5,R5,OkS.go h3 fr5 sub5⟩
        | bk=>exact fun h3=>h3
        | ex C=>exact fun h3=>h3.elim
        | rt d nw=>exact fun h3=>h3⟩
end
noncomputable def evC(c:Option ST)(ρ:Rho):Option (xx×Rho):=match c with
 | none=>some (.ok true,ρ)
 | some c=>c ρ
noncomputable def bL(k:Nat)(T:Tg)(c:Option ST)(f:SE):List D->Rho->Option (List D×Rho)
 | [],ρ=>some ([],ρ)
 | d::ds,ρ=>match bE T d (ρ++List.replicate k none) with
  | none=>none
  | some ρ1=>match evC c ρ1 with
   | some (.ok true,ρ2)=>match f ρ2 with
    | some (.ok y _,ρ3)=>match bL k T c f ds (ρ3.take ρ.length) with
     | some (ys,ρ4)=>some (y::ys,ρ4)
     | none=>none
    | some (.ex _,_)=>none
    | none=>none
   | some (.ok false,ρ2)=>bL k T c f ds (ρ2.take ρ.length)
   | some (.ex _,_)=>none
   | none=>none
noncomputable def bM(k:Nat)(it:SI)(T:Tg)(c:Option ST)(f:SE):SE:=fun ρ=>match it ρ with
 | some (.ok ds,ρ1)=>if Tg.ge ρ1.length T=true then
  match bL k T c f ds ρ1 with
  | some (ys,ρ2)=>some (.ok (.lst ys) true,ρ2)
  | none=>none
  else none
 | some (.ex C,ρ1)=>some (.ex C,ρ1)
 | none=>none
noncomputable def tIfC(K:FZ)(c:Option ST):TT:=match c with
 | none=>CA
 | some c=>tVT K EXn c
section
variable{K:FZ}{F:Fx}{EX:EXT}{σ:St}{H:Hp}{ρ:Rho}{W:List Addr}
theorem Rel.ext(R:Rel K F σ H ρ W)(k:Nat):Rel K F (σ++List.replicate k none) H (ρ++List.replicate k none) W:=by
 have old:∀ {i:Nat} {d:D} {m:Md},(ρ++List.replicate k none)[i]?=some (some (d,m))->ρ[i]?=some (some (d,m))/\i < ρ.length:=fun {i d m} h=>by
  by_cases hi:i < ρ.length
  ·rw [DQ hi] at h
   exact ⟨h,hi⟩
  ·rw [Ek (by omega),Fb] at h
   split at h<;>cases h
 refine ⟨fun i d m h=> ?_,fun i j d e m n p h1 h2 h3 h4 h5 h6=> ?_,R.wz,R.mt,by rw [DI,DI,EB,EB,R.len]⟩
 ·obtain ⟨h,hi⟩:=old h
  obtain ⟨v,g1,g2⟩:=R.slot i d m h;exact ⟨v,by rw [DQ (by rw [R.len];exact hi)];exact g1,g2⟩
 ·obtain ⟨h1,i1⟩:=old h1
  obtain ⟨h3,i3⟩:=old h3;rw [DQ (by rw [R.len];exact i1)] at h5;rw [DQ (by rw [R.len];exact i3)] at h6;exact R.apart i j _ _ _ _ _ h1 h2 h3 h4 h5 h6
theorem Rel.cut{σ2:St}(R:Rel K F σ2 H ρ W)(h:σ2.take σ.length=σ)(hl:σ.length<=σ2.length):Rel K F σ H (ρ.take σ.length) W:=by
 have old:∀ {i:Nat} {d:D} {m:Md},(ρ.take σ.length)[i]?=some (some (d,m))->ρ[i]?=some (some (d,m))/\i < σ.length:=fun {i d m} h=>by
  rw [List.getElem?_take] at h
  split at h
  ·exact ⟨h,by assumption⟩
  ·cases h
 have eq:∀ {i:Nat},i < σ.length->σ2[i]?=σ[i]?:=fun {i} hi=>by
  have e:=List.getElem?_take_of_lt (l:=σ2) hi;rw [h] at e;exact e.symm
 refine ⟨fun i d m h=> ?_,fun i j d e m n p h1 h2 h3 h4 h5 h6=> ?_,R.wz,R.mt,by rw [EU,<- R.len];omega⟩
 ·obtain ⟨h,hi⟩:=old h
  obtain ⟨v,g1,g2⟩:=R.slot i d m h;exact ⟨v,by rw [<- eq hi];exact g1,g2⟩
 ·obtain ⟨h1,i1⟩:=old h1
  obtain ⟨h3,i3⟩:=old h3;rw [<- eq i1] at h5;rw [<- eq i3] at h6;exact R.apart i j _ _ _ _ _ h1 h2 h3 h4 h5 h6
theorem vO{k:Nat}{it:SI}{T:Tg}{c:Option ST}{f:SE}{Q:VK}(hw:tV K EX (bM k it T c f) σ H Q):rE (tI K EX it) k (gT K T) (tIfC K c) (tV K EXn f) σ H Q:=by
 obtain ⟨F,ρ,W,R,h⟩:=hw;refine ⟨F,ρ,W,R,?_⟩;unfold bM at h
 revert h
 cases it ρ with
 | none=>exact fun h=>h
 | some q =>
  obtain ⟨q,ρ1⟩:=q
  cases q with
  | ex C=>exact fun h=>h
  | ok ds =>
   dsimp only
   split
   ·rename_i hge
    cases es:bL k T c f ds ρ1 with
    | none=>exact fun h=>h.elim
    | some z =>
     obtain ⟨tot,ρe⟩:=z;intro h J H1 W1 fr1 sub1 R1 ok
     refine ⟨fun i m ys H2=>m=ds.length - i/\i<=ds.length/\∃ ρ2 W2 acc rest,Rel K F σ H2 ρ2 W2/\Fr W1 H1 H2/\(∀ p∈W2,p∈W1)/\ak K (hid (W2++F.Z) H2) acc ys/\acc.length<=i/\bL k T c f (ds.drop i) ρ2=some (rest,ρe)/\acc++rest=tot,
      ⟨ds.length,by simp,E9 _,ρ1,W1,[],tot,R1,.refl,fun _ z=>z,trivial,E9 _,es,rfl⟩,?_⟩
     rintro i m ys H2 ⟨rfl,hi,ρ2,W2,acc,rest,R2,fr2,sub2,rp,la,e2,et⟩
     have sub2':∀ p∈W2,p∈W1\/H1 p=none:=fun p hp=> .inl (sub2 p hp)
     have few:=ok.few;have ly:=rp.len;refine ⟨by omega,?_⟩
     by_cases hlt:i < ds.length
     ·have hd:ds.drop i=ds[i]::ds.drop (i+1):=List.drop_eq_getElem_cons hlt
      rw [hd] at e2;unfold bL at e2;obtain ⟨g1,g2⟩:=ok.go H2 (W2++F.Z) i ds[i] (fr2.hid sub2') R2.mt (Dm hlt);refine .inr ⟨g1,fun x H3 y=> ?_⟩;obtain ⟨s3,rx⟩:=g2 x H3 y
      cases ea:bE T ds[i] (ρ2++List.replicate k none) with
      | none=>rw [ea] at e2;cases e2
      | some ρ3 =>
       rw [ea] at e2;dsimp only at e2;have lenσ:σ.length=ρ1.length:=R1.len;have lenσ2:σ.length=ρ2.length:=R2.len
       refine vI (n:=σ.length) T ((R2.same s3).ext k) rx ea fun σ4 tk R4=> ?_
       have tk:=tk (by rw [lenσ];exact hge);rw [List.take_left] at tk
       have l4:σ.length<=σ4.length:=by
        have:=congrArg List.length tk;rw [EU] at this;omega
       refine ⟨tk,?_⟩;have fr3:Fr W1 H1 H3:=fr2.trans (s3.fr (W:=W2)) sub2'
       have rest:∀ b ρ4,evC c ρ3=some (.ok b,ρ4)->∀ H4 W4,Fr W2 H3 H4->(∀ p∈W4,p∈W2)->Rel K F σ4 H4 ρ4 W4 ->
        (if b=true then tV K EXn f σ4 H4 fun y H5=>∃ m',m' < ds.length - i/\(m'=ds.length - (i+1)/\i+1<=ds.length/\∃ ρ2 W2 acc rest,Rel K F σ H5 ρ2 W2/\Fr W1 H1 H5/\(∀ p∈W2,p∈W1)/\ak K (hid (W2++F.Z) H5) acc (ys++[y])/\acc.length<=i+1/\bL k T c f (ds.drop (i+1)) ρ2=some (rest,ρe)/\acc++rest=tot)
        else ∃ m',m' < ds.length - i/\(m'=ds.length - (i+1)/\i+1<=ds.length/\∃ ρ2 W2 acc rest,Rel K F σ H4 ρ2 W2/\Fr W1 H1 H4/\(∀ p∈W2,p∈W1)/\ak K (hid (W2++F.Z) H4) acc ys/\acc.length<=i+1/\bL k T c f (ds.drop (i+1)) ρ2=some (rest,ρe)/\acc++rest=tot)):=fun b ρ4 ec H4 W4 fr4 sub4 R4=>by
        rw [ec] at e2;have frA:Fr W1 H1 H4:=fr3.trans fr4 sub2';have sA:ai (hid (W2++F.Z) H2) (hid (W4++F.Z) H4):=ai.trans (aP (fun b hb=> .inl hb) fun b o _ e=>s3 b o e:ai (hid (W2++F.Z) H2) (hid (W2++F.Z) H3)) (fr4.hid fun p hp=> .inl (sub4 p hp))
        cases b with
        | false =>
         dsimp only at e2;rw [if_neg DB];exact ⟨_,by omega,rfl,hlt,ρ4.take σ.length,W4,acc,_,R4.cut tk l4,frA,fun p hp=>sub2 p (sub4 p hp),sA.repDs rp,by omega,by rw [lenσ2];exact e2,et⟩
        | true =>
         dsimp only at e2;rw [if_pos rfl];refine ⟨F,ρ4,W4,R4,?_⟩
         cases ef:f ρ4 with
         | none=>rw [ef] at e2;cases e2
         | some q =>
          obtain ⟨q,ρ5⟩:=q;rw [ef] at e2
          cases q with
          | ex C=>cases e2
          | ok y nw =>
           dsimp only at e2
           cases e3:bL k T c f (ds.drop (i+1)) (ρ5.take ρ2.length) with
           | none=>rw [e3] at e2;cases e2
           | some z =>
            obtain ⟨rest',ρe'⟩:=z;rw [e3] at e2;cases e2;intro v H5 W5 fr5 sub5 P5;obtain ⟨rv,R5⟩:=P5.plain;refine ⟨_,by omega,rfl,hlt,ρ5.take σ.length,W5,acc++[y],rest',R5.cut tk l4,frA.trans fr5 fun p hp=> .inl (sub2 p (sub4 p hp)),fun p hp=>sub2 p (sub4 p (sub5 p hp)),ak.app ((fr5.hid fun p hp=> .inl (sub5 p hp)).repDs (sA.repDs rp)) ⟨rv,trivial⟩,?_,by rw [lenσ2];exact e3,?_⟩
            ·rw [DI];simp;omega
            ·rw [<- et,Eh];rfl
       cases c with
       | none=>exact rest true ρ3 rfl H3 W2 .refl (fun _ z=>z) R4
       | some c =>
        refine ⟨F,ρ3,W2,R4,?_⟩;have e2':=e2;unfold evC at e2';dsimp only at e2'
        cases ec:c ρ3 with
        | none=>rw [ec] at e2';cases e2'
        | some q =>
         obtain ⟨q,ρ4⟩:=q
         cases q with
         | ex C=>rw [ec] at e2';cases e2'
         | ok b=>exact fun H4 W4 fr4 sub4 R4=>rest b ρ4 ec H4 W4 fr4 sub4 R4
     ·have e:i=ds.length:=by omega
      subst e;rw [List.drop_length] at e2;have e2:some (([]:List D),ρ2)=some (rest,ρe):=e2;cases e2;rw [DW] at et;subst et;refine .inl ⟨ok.stop H2 ((fr2.hid sub2').trans ay),fun l hl=> ?_⟩;refine h (.ref l) _ W2 ((fr1.trans fr2 fun p hp=> .inl (sub1 p hp)).trans ((ai.upd hl).fr (W:=W2)) fun p hp=> .inl (sub1 p (sub2 p hp))) (fun p hp=>sub1 p (sub2 p hp)) ?_
      refine fY.back (gU.e (nw:=true) ⟨l,rfl,hl,ys,ao,?_⟩ R2 (ai.upd hl)) fun b hb=>fr1.dom b (fr2.dom b hb)
      exact (aP (fun b hb=>(Dz.mp hb).elim (fun z=> .inr (by rw [z];exact hl)) .inl) fun b o _ e=>ai.upd hl b o e:ai (hid (W2++F.Z) H2) _).repDs rp
   ·exact fun h=>h.elim
end
inductive JC(X:Cx):List Expr->Option ST->Prop where
 | no:JC X [] none
 | one {c:Expr} {t:ST} (h:JT X EXn c t):JC X [c] (some t)
theorem JC.p{X:Cx}{ifs:List Expr}{c:Option ST}(h:JC X ifs c):xy X ifs (tIfC X.K c):=by
 cases h with
 | no=>exact pif0
 | one h=>exact pif1 h.p
section
variable{X:Cx}{EX:EXT}{elt tg iter:Expr}{ifs:List Expr}{sc:Scope}{M tgs:List Str}{pos:Pos}{it:SI}{T:Tg}{c:Option ST}{f:SE}
theorem dN(hc:X.calm=true)(B:nW X sc M tgs)(hi:JI X EX tg iter it)(hg:∀ cl C fp s H,JG (blk X sc cl C fp s H (M++tgs)) tg T)(ht:∀ cl C fp s H,JC (blk X sc cl C fp s H (M++tgs)) ifs c)(he:∀ cl C fp s H,JE (blk X sc cl C fp s H (M++tgs)) EXn elt f)
 (hs:∀ x,foldedSetIterable iter X.env x=pure x:=by intro _;rfl):JE X EX (.ListComp elt [⟨tg,iter,ifs,0⟩] sc pos) (bM tgs.length it T c f) :=
 ⟨(BB hc B hi.p (fun cl C fp s H=>(hg cl C fp s H).p) (fun cl C fp s H=>(ht cl C fp s H).p) (fun cl C fp s H=>(he cl C fp s H).p) hs).by fun σ H Q h=>vO h⟩
theorem we{j:Nat}{y:Str}{py spos:Pos}(hc:X.calm=true)(B:nW X sc M tgs)(hi:JI X EX tg iter it)(hg:∀ cl C fp s H,JG (blk X sc cl C fp s H (M++tgs)) tg T)(ht:∀ cl C fp s H,JC (blk X sc cl C fp s H (M++tgs)) ifs c)(he:∀ cl C fp s H,JE (blk X sc cl C fp s H (M++tgs)) EXn elt f)
 (hN:X.N.Nodup) (hjy:X.N[j]?=some y) (hy:X.env.scope.names.lookup y=some .local) (hsw:swapsWith (.ListComp elt [⟨tg,iter,ifs,0⟩] sc pos) (some (.Name y py)) spos.line X.env=pure true:=by rfl)
 (hs:∀ x,foldedSetIterable iter X.env x=pure x:=by intro _;rfl):JS X EX (.Assign [.Name y py] (.ListComp elt [⟨tg,iter,ifs,0⟩] sc pos) spos) (aW j (bM tgs.length it T c f)) :=
 ⟨(mB hc B hi.p (fun cl C fp s H=>(hg cl C fp s H).p) (fun cl C fp s H=>(ht cl C fp s H).p) (fun cl C fp s H=>(he cl C fp s H).p) hN hjy hy hsw hs).by fun D σ H h=>vO (Ay h)⟩
end
mutual
noncomputable def nrm:D->D
 | .ktup ds=> .tup (cB ds)
 | .tup ds=> .tup (cB ds)
 | .klst ds=> .lst (cB ds)
 | .lst ds=> .lst (cB ds)
 | d=>d
noncomputable def cB:List D->List D
 | []=>[]
 | d::ds=>nrm d::cB ds
end
mutual
noncomputable def eqN:D->D->Bool
 | .non,.non=>true
 | .bl a,.bl b=>a == b
 | .bl a,.int b=>(if a then 1 else 0) == b
 | .int a,.bl b=>a == (if b then 1 else 0)
 | .int a,.int b=>a == b
 | .str a,.str b=>a == b
 | .tup a,.tup b=>fR a b
 | .lst a,.lst b=>fR a b
 | _,_=>false
noncomputable def fR:List D->List D->Bool
 | [],[]=>true
 | a::as,b::bs=>eqN a b&&fR as bs
 | _,_=>false
end
noncomputable def eqD(d e:D):Bool:=eqN (nrm d) (nrm e)
noncomputable def aj:Nat->D->Bool
 | _,.non=>true
 | _,.bl _=>true
 | _,.int _=>true
 | _,.str _=>true
 | n+1,.tup ds=>ds.all (aj n)
 | n+1,.ktup ds=>ds.all (aj n)
 | n+1,.lst ds=>ds.all (aj n)
 | n+1,.klst ds=>ds.all (aj n)
 | _,_=>false
theorem mO:∀ {ds:List D},(cB ds).length=ds.length
 | []=>rfl
 | _::ds=>by unfold cB;rw [Dq,Dq,mO]
theorem eF:∀ {ds:List D} {j:Nat},(cB ds)[j]?=ds[j]?.map nrm
 | [],j=>by unfold cB;simp
 | d::ds,0=>by unfold cB;simp
 | d::ds,j+1=>by unfold cB;simp;exact eF
theorem nB:∀ {as bs:List D},fR as bs=((List.range (min as.length bs.length)).all (fun j=>match as[j]?,bs[j]? with | some a,some b=>eqN a b | _,_=>true)&&as.length == bs.length)
 | [],[]=>rfl
 | [],b::bs=>by unfold fR;simp
 | a::as,[]=>by unfold fR;simp
 | a::as,b::bs=>by
  unfold fR;rw [nB (as:=as) (bs:=bs)]
  have e1:min (a::as).length (b::bs).length=min as.length bs.length+1:=by simp only [Dq];omega
  have e2:((a::as).length == (b::bs).length)=(as.length == bs.length):=by simp
  rw [e1,e2,List.range_succ_eq_map,FO,List.all_map,Bool.and_assoc]
  congr 1
mutual
theorem jH:∀ (n:Nat) {d:D},aj n d=true->eqN (nrm d) (nrm d)=true
 | n,.non,_=>rfl
 | n,.bl _,_=>by unfold nrm eqN;simp
 | n,.int _,_=>by unfold nrm eqN;simp
 | n,.str _,_=>by unfold nrm eqN;simp
 | n+1,.tup ds,h=>by unfold nrm eqN;exact fD n (by unfold aj at h;exact h)
 | n+1,.ktup ds,h=>by unfold nrm eqN;exact fD n (by unfold aj at h;exact h)
 | n+1,.lst ds,h=>by unfold nrm eqN;exact fD n (by unfold aj at h;exact h)
 | n+1,.klst ds,h=>by unfold nrm eqN;exact fD n (by unfold aj at h;exact h)
 | 0,.tup _,h=>by unfold aj at h;cases h
 | 0,.ktup _,h=>by unfold aj at h;cases h
 | 0,.lst _,h=>by unfold aj at h;cases h
 | 0,.klst _,h=>by unfold aj at h;cases h
 | _,.dK _ _,h=>by unfold aj at h;cases h
 | _,.dT _ _,h=>by unfold aj at h;cases h
 | _,.set _,h=>by unfold aj at h;cases h
 | _,.rng _ _,h=>by unfold aj at h;cases h
 | _,.exc _,h=>by unfold aj at h;cases h
theorem fD:∀ (n:Nat) {ds:List D},ds.all (aj n)=true->fR (cB ds) (cB ds)=true
 | n,[],_=>rfl
 | n,d::ds,h=>by
  rw [FO] at h;have h:=(DK _ _).mp h;unfold cB fR;rw [jH n h.1,fD n h.2];rfl
end
section
variable{X:Cx}{pins:List (Addr×Obj)}{σ:St}{H:Hp}{s:Shared}
inductive Vw(K:FZ)(H:Hp)(s:Shared):Nat->D->V->Value->Prop where
 | non {n}:Vw K H s n .non .non .none
 | bl {n} (b:Bool):Vw K H s n (.bl b) (.bl b) (.bool b)
 | int {n} (i:Int) (t:Tok):Vw K H s n (.int i) (.int i) (.int i t)
 | str {n} (x:Str) (t:Tok):Vw K H s n (.str x) (.str x) (.str x t)
 | tu {n} {d:D} {ds:List D} {p:Addr} {xs:List V} {its:List Value} (hd:nrm d = .tup (cB ds)) (ht:s.heap.IsTuple p its.toArray) (hv:aC xs its) (hr:ak K H ds xs) (he:ds.all (aj n)=true):Vw K H s (n+1) d (.ref p) (.ref p)
 | li {n} {d:D} {ds:List D} {p:Addr} {xs:List V} {its:List Value} (hd:nrm d = .lst (cB ds)) (ht:s.heap.IsList p its.toArray) (hv:aC xs its) (hr:ak K H ds xs) (he:ds.all (aj n)=true):Vw K H s (n+1) d (.ref p) (.ref p)
theorem kr(I:Inv X pins σ H s){n:Nat}{d:D}{v:V}{u:Value}(he:aj n d=true)(r:aF X.K H d v)(ru:aG v u):Vw X.K H s n d v u:=by
 have z0:n=0\/∃ m,n=m+1:=by cases n with | zero=>exact .inl rfl | succ m=>exact .inr ⟨m,rfl⟩
 cases d with
 | non=>cases r;cases ru;exact .non
 | bl b=>cases r;cases ru;exact .bl b
 | int i=>cases r;obtain ⟨t,rfl⟩:=ru;exact .int i t
 | str x=>cases r;obtain ⟨t,rfl⟩:=ru;exact .str x t
 | tup ds =>
  obtain ⟨p,xs,rfl,h1,h2⟩:=r;cases ru
  rcases z0 with rfl | ⟨m,rfl⟩
  ·unfold aj at he;cases he
  ·obtain ⟨its,rv,pl,_⟩:=I.tuple (X:=X) (.inl (.inl h1))
   exact .tu (by unfold nrm;rfl) pl rv h2 (by unfold aj at he;exact he)
 | ktup ds =>
  obtain ⟨p,xs,rfl,h1,h2⟩:=r;cases ru
  rcases z0 with rfl | ⟨m,rfl⟩
  ·unfold aj at he;cases he
  ·obtain ⟨its,rv,pl,_⟩:=I.tuple (X:=X) (eX h1)
   exact .tu (by unfold nrm;rfl) pl rv h2 (by unfold aj at he;exact he)
 | lst ds =>
  obtain ⟨p,xs,rfl,h1,h2⟩:=r;cases ru
  rcases z0 with rfl | ⟨m,rfl⟩
  ·unfold aj at he;cases he
  ·obtain ⟨its,rv,pl,_⟩:=I.list (X:=X) (.inl (.inl h1))
   exact .li (by unfold nrm;rfl) pl.isList rv h2 (by unfold aj at he;exact he)
 | klst ds =>
  obtain ⟨p,xs,rfl,h1,h2⟩:=r;cases ru
  rcases z0 with rfl | ⟨m,rfl⟩
  ·unfold aj at he;cases he
  ·obtain ⟨its,rv,pl,_⟩:=I.list h1
   exact .li (by unfold nrm;rfl) pl.isList rv h2 (by unfold aj at he;exact he)
 | dK _ _=>unfold aj at he;cases he
 | dT _ _=>unfold aj at he;cases he
 | set _=>unfold aj at he;cases he
 | rng _ _=>unfold aj at he;cases he
 | exc _=>unfold aj at he;cases he
theorem sv{p:Addr}{a b:List Value}(h1:s.heap.IsTuple p a.toArray)(h2:s.heap.IsTuple p b.toArray):a=b:=by
 obtain ⟨o,e1,_,n,d1⟩:=h1;obtain ⟨o2,e2,_,n2,d2⟩:=h2;rw [e1] at e2;cases e2;rw [d1] at d2;have:=(Data.seq.inj d2).1;simpa using congrArg Array.toList this
theorem ul{p:Addr}{a b:List Value}(h1:s.heap.IsList p a.toArray)(h2:s.heap.IsList p b.toArray):a=b:=by
 obtain ⟨o,e1,_,n,d1⟩:=h1;obtain ⟨o2,e2,_,n2,d2⟩:=h2;rw [e1] at e2;cases e2;rw [d1] at d2;have:=(Data.seq.inj d2).1;simpa using congrArg Array.toList this
theorem be{xs:List V}{its:List Value}(r:aC xs its){j:Nat}(h:j < its.length):∃ x,xs[j]?=some x/\aG x its[j]:=by
 have hx:j < xs.length:=by rw [r.length];exact h
 obtain ⟨u,e,ru⟩:=r.get (Dm hx);rw [Dm h] at e;cases e;exact ⟨_,Dm hx,ru⟩
theorem gt(I:Inv X pins σ H s):∀ (n m:Nat) {d e:D} {v:V} {u:Value},aj n d=true->aj m e=true->aF X.K H d v->aF X.K H e v->aG v u->nrm d=nrm e
 | n,m,d,e,v,u,h1,h2,r1,r2,ru=>by
  have v1:=kr I h1 r1 ru;have v2:=kr I h2 r2 ru
  cases v1 with
  | non=>cases v2;rfl
  | bl b=>cases v2;rfl
  | int i t=>cases v2;rfl
  | str x t=>cases v2;rfl
  | @tu n _ ds p xs its hd ht hv hr he =>
   cases v2 with
   | @tu m _ es _ ys jts hd2 ht2 hv2 hr2 he2 =>
    have:=sv ht ht2;subst this;have exy:xs=ys:=hv.inj hv2;subst exy;rw [hd,hd2]
    congr 1
    apply List.ext_getElem?;intro j;rw [eF,eF];have l1:=hr.len;have l2:=hr2.len
    by_cases hj:j < xs.length
    ·obtain ⟨d',e1,q1⟩:=hr.get' (Dm hj)
     obtain ⟨e',e2,q2⟩:=hr2.get' (Dm hj);rw [e1,e2]
     have hji:j < its.length:=by rw [<- hv.length];exact hj
     obtain ⟨x,ex,rx⟩:=be hv hji;rw [Dm hj] at ex;cases ex;exact congrArg some (gt I n m (DJ.mp he _ (DD e1)) (DJ.mp he2 _ (DD e2)) q1 q2 rx)
    ·rw [FJ (by omega),FJ (by omega)]
   | li hd2 ht2 hv2 hr2 he2=>exact absurd rfl (SeqAt.ne_of_list_tuple ht2 ht)
  | @li n _ ds p xs its hd ht hv hr he =>
   cases v2 with
   | tu hd2 ht2 hv2 hr2 he2=>exact absurd rfl (SeqAt.ne_of_list_tuple ht ht2)
   | @li m _ es _ ys jts hd2 ht2 hv2 hr2 he2 =>
    have:=ul ht ht2;subst this;have exy:xs=ys:=hv.inj hv2;subst exy;rw [hd,hd2]
    congr 1
    apply List.ext_getElem?;intro j;rw [eF,eF];have l1:=hr.len;have l2:=hr2.len
    by_cases hj:j < xs.length
    ·obtain ⟨d',e1,q1⟩:=hr.get' (Dm hj)
     obtain ⟨e',e2,q2⟩:=hr2.get' (Dm hj);rw [e1,e2]
     have hji:j < its.length:=by rw [<- hv.length];exact hj
     obtain ⟨x,ex,rx⟩:=be hv hji;rw [Dm hj] at ex;cases ex;exact congrArg some (gt I n m (DJ.mp he _ (DD e1)) (DJ.mp he2 _ (DD e2)) q1 q2 rx)
    ·rw [FJ (by omega),FJ (by omega)]
 termination_by n=>n
theorem kZ{n:Nat}{f g:Nat->Bool}(h:∀ j,j < n->f j=g j):(List.range n).all f=(List.range n).all g:=by
 rw [E6,DJ,DJ]
 constructor
 ·intro z x hx;rw [<- h x (Et.mp hx)];exact z x hx
 ·intro z x hx;rw [h x (Et.mp hx)];exact z x hx
noncomputable def bO(ds es:List D)(j:Nat):Bool:=match ds[j]?,es[j]? with
 | some a,some b=>eqD a b
 | _,_=>true
theorem dO{ds es:List D}:fR (cB ds) (cB es)=((List.range (min ds.length es.length)).all (bO ds es)&&ds.length == es.length):=by
 rw [nB,mO,mO]
 congr 1
 refine kZ fun j hj=> ?_
 have h1:j < ds.length:=by omega
 have h2:j < es.length:=by omega
 rw [eF,eF];unfold bO eqD;rw [Dm h1,Dm h2];rfl
theorem uC(I:Inv X pins σ H s):∀ (n:Nat) {A:Around} {d e:D} {v v':V} {u w:Value},A.units+n < cLine->aj n d=true->aj n e=true->aF X.K H d v->aF X.K H e v'->aG v u->aG v' w->SeqAt.EqAt A s u w (eqD d e)
 | n,A,d,e,v,v',u,w,hu0,h1,h2,r1,r2,ru,rw'=>by
  have hu:A.units < cLine:=by omega
  have v1:=kr I h1 r1 ru;have v2:=kr I h2 r2 rw';unfold eqD
  cases v1 with
  | non =>
   cases v2 with
   | non=>exact SeqAt.EqAt.same _
   | bl b2=>exact SeqAt.EqAt.none_bool b2
   | int i2 t2=>exact SeqAt.EqAt.none_int i2 t2
   | str x2 t2=>exact SeqAt.EqAt.none_str x2 t2
   | tu hd2 ht2 hv2 hr2 he2=>rw [hd2];exact SeqAt.EqAt.none_tuple ht2 hu
   | li hd2 ht2 hv2 hr2 he2=>rw [hd2];exact SeqAt.EqAt.none_list ht2 hu
  | bl b1 =>
   cases v2 with
   | non=>exact SeqAt.EqAt.bool_none b1
   | bl b2=>exact SeqAt.EqAt.bool_bool b1 b2
   | int i2 t2=>exact SeqAt.EqAt.bool_int b1 i2 t2
   | str x2 t2=>exact SeqAt.EqAt.bool_str b1 x2 t2
   | tu hd2 ht2 hv2 hr2 he2=>rw [hd2];exact SeqAt.EqAt.bool_tuple b1 ht2 hu
   | li hd2 ht2 hv2 hr2 he2=>rw [hd2];exact SeqAt.EqAt.bool_list b1 ht2 hu
  | int i1 t1 =>
   cases v2 with
   | non=>exact SeqAt.EqAt.int_none i1 t1
   | bl b2=>exact SeqAt.EqAt.int_bool i1 t1 b2
   | int i2 t2=>exact SeqAt.EqAt.int_int i1 t1 i2 t2
   | str x2 t2=>exact SeqAt.EqAt.int_str i1 t1 x2 t2
   | tu hd2 ht2 hv2 hr2 he2=>rw [hd2];exact SeqAt.EqAt.int_tuple i1 t1 ht2 hu
   | li hd2 ht2 hv2 hr2 he2=>rw [hd2];exact SeqAt.EqAt.int_list i1 t1 ht2 hu
  | str x1 t1 =>
   cases v2 with
   | non=>exact SeqAt.EqAt.str_none x1 t1
   | bl b2=>exact SeqAt.EqAt.str_bool x1 t1 b2
   | int i2 t2=>exact SeqAt.EqAt.str_int x1 t1 i2 t2
   | str x2 t2=>exact SeqAt.EqAt.str_str x1 t1 x2 t2
   | tu hd2 ht2 hv2 hr2 he2=>rw [hd2];exact SeqAt.EqAt.str_tuple x1 t1 ht2 hu
   | li hd2 ht2 hv2 hr2 he2=>rw [hd2];exact SeqAt.EqAt.str_list x1 t1 ht2 hu
  | @tu n _ ds p xs its hd ht hv hr he =>
   cases v2 with
   | non=>rw [hd];exact SeqAt.EqAt.tuple_none ht hu
   | bl b2=>rw [hd];exact SeqAt.EqAt.tuple_bool b2 ht hu
   | int i2 t2=>rw [hd];exact SeqAt.EqAt.tuple_int i2 t2 ht hu
   | str x2 t2=>rw [hd];exact SeqAt.EqAt.tuple_str x2 t2 ht hu
   | @tu _ _ es q ys jts hd2 ht2 hv2 hr2 he2 =>
    by_cases epq:p=q
    ·subst epq
     have z:nrm d=nrm e:=gt I (n+1) (n+1) h1 h2 r1 r2 rfl;rw [<- z,jH (n+1) h1];exact SeqAt.EqAt.same _
    ·refine SeqAt.EqAt.of_refs epq ?_
     have hhe:∀ j (h1:j < its.toArray.size) (h2:j < jts.toArray.size),SeqAt.EqAt A.in1 s its.toArray[j] jts.toArray[j] (bO ds es j):=fun j h1 h2=>by
      have h1':j < its.length:=by simpa using h1
      have h2':j < jts.length:=by simpa using h2
      obtain ⟨x,ex,rx⟩:=be hv h1';obtain ⟨y,ey,ry⟩:=be hv2 h2';obtain ⟨d',e1,q1⟩:=hr.get' ex;obtain ⟨e',e2,q2⟩:=hr2.get' ey;have z:=uC I n (A:=A.in1) (by show A.units+1+n < cLine;omega) (DJ.mp he _ (DD e1)) (DJ.mp he2 _ (DD e2)) q1 q2 rx ry
      have e3:bO ds es j=eqD d' e':=by unfold bO;rw [e1,e2]
      rw [e3];simpa using z
     have l1:its.toArray.size=ds.length:=by rw [Du,<- hv.length,<- hr.len]
     have l2:jts.toArray.size=es.length:=by rw [Du,<- hv2.length,<- hr2.len]
     have z:=SeqAt.RcAt.tuples ht ht2 hu hhe;rw [l1,l2] at z;rw [hd,hd2]
     show SeqAt.RcAt A s (.ref p) (.ref q) ((fR (cB ds) (cB es)))
     rw [dO];exact z
   | li hd2 ht2 hv2 hr2 he2=>rw [hd,hd2];exact SeqAt.EqAt.tuple_list ht ht2 hu
  | @li n _ ds p xs its hd ht hv hr he =>
   cases v2 with
   | non=>rw [hd];exact SeqAt.EqAt.list_none ht hu
   | bl b2=>rw [hd];exact SeqAt.EqAt.list_bool b2 ht hu
   | int i2 t2=>rw [hd];exact SeqAt.EqAt.list_int i2 t2 ht hu
   | str x2 t2=>rw [hd];exact SeqAt.EqAt.list_str x2 t2 ht hu
   | tu hd2 ht2 hv2 hr2 he2=>rw [hd,hd2];exact SeqAt.EqAt.list_tuple ht ht2 hu
   | @li _ _ es q ys jts hd2 ht2 hv2 hr2 he2 =>
    by_cases epq:p=q
    ·subst epq
     have z:nrm d=nrm e:=gt I (n+1) (n+1) h1 h2 r1 r2 rfl;rw [<- z,jH (n+1) h1];exact SeqAt.EqAt.same _
    ·refine SeqAt.EqAt.of_refs epq ?_
     have hhe:∀ j (h1:j < its.toArray.size) (h2:j < jts.toArray.size),SeqAt.EqAt A.in1 s its.toArray[j] jts.toArray[j] (bO ds es j):=fun j h1 h2=>by
      have h1':j < its.length:=by simpa using h1
      have h2':j < jts.length:=by simpa using h2
      obtain ⟨x,ex,rx⟩:=be hv h1';obtain ⟨y,ey,ry⟩:=be hv2 h2';obtain ⟨d',e1,q1⟩:=hr.get' ex;obtain ⟨e',e2,q2⟩:=hr2.get' ey;have z:=uC I n (A:=A.in1) (by show A.units+1+n < cLine;omega) (DJ.mp he _ (DD e1)) (DJ.mp he2 _ (DD e2)) q1 q2 rx ry
      have e3:bO ds es j=eqD d' e':=by unfold bO;rw [e1,e2]
      rw [e3];simpa using z
     have l1:its.toArray.size=ds.length:=by rw [Du,<- hv.length,<- hr.len]
     have l2:jts.toArray.size=es.length:=by rw [Du,<- hv2.length,<- hr2.len]
     rw [hd,hd2]
     show SeqAt.RcAt A s (.ref p) (.ref q) ((fR (cB ds) (cB es)))
     by_cases hl:ds.length=es.length
     ·have z:=SeqAt.RcAt.lists ht ht2 (by rw [l1,l2];exact hl) hu hhe
      rw [l1] at z;rw [dO,<- hl,Fh,beq_self_eq_true,EW];exact z
     ·have z:=SeqAt.RcAt.lists_lengths ht ht2 (by rw [l1,l2];simpa using hl) hu
      rw [dO,E8.mpr hl,EN];exact z
 termination_by n=>n
theorem rcAt(I:Inv X pins σ H s)(n:Nat){A:Around}{d e:D}{v v':V}{u w:Value}(hu0:A.units+n < cLine)(h1:aj n d=true)(h2:aj n e=true)(r1:aF X.K H d v)(r2:aF X.K H e v')(ru:aG v u)(rw':aG v' w):SeqAt.RcAt A s u w (eqD d e):=by
 have hu:A.units < cLine:=by omega
 have v1:=kr I h1 r1 ru;have v2:=kr I h2 r2 rw';unfold eqD
 cases v1 with
 | non =>
  cases v2 with
  | non=>exact SeqAt.RcAt.none_none
  | bl b2=>exact SeqAt.RcAt.none_bool b2
  | int i2 t2=>exact SeqAt.RcAt.none_int i2 t2
  | str x2 t2=>exact SeqAt.RcAt.none_str x2 t2
  | tu hd2 ht2 hv2 hr2 he2=>rw [hd2];exact SeqAt.RcAt.none_tuple ht2 hu
  | li hd2 ht2 hv2 hr2 he2=>rw [hd2];exact SeqAt.RcAt.none_list ht2 hu
 | bl b1 =>
  cases v2 with
  | non=>exact SeqAt.RcAt.bool_none b1
  | bl b2=>exact SeqAt.RcAt.bool_bool b1 b2
  | int i2 t2=>exact SeqAt.RcAt.bool_int b1 i2 t2
  | str x2 t2=>exact SeqAt.RcAt.bool_str b1 x2 t2
  | tu hd2 ht2 hv2 hr2 he2=>rw [hd2];exact SeqAt.RcAt.bool_tuple b1 ht2 hu
  | li hd2 ht2 hv2 hr2 he2=>rw [hd2];exact SeqAt.RcAt.bool_list b1 ht2 hu
 | int i1 t1 =>
  cases v2 with
  | non=>exact SeqAt.RcAt.int_none i1 t1
  | bl b2=>exact SeqAt.RcAt.int_bool i1 t1 b2
  | int i2 t2=>exact SeqAt.RcAt.int_int i1 t1 i2 t2
  | str x2 t2=>exact SeqAt.RcAt.int_str i1 t1 x2 t2
  | tu hd2 ht2 hv2 hr2 he2=>rw [hd2];exact SeqAt.RcAt.int_tuple i1 t1 ht2 hu
  | li hd2 ht2 hv2 hr2 he2=>rw [hd2];exact SeqAt.RcAt.int_list i1 t1 ht2 hu
 | str x1 t1 =>
  cases v2 with
  | non=>exact SeqAt.RcAt.str_none x1 t1
  | bl b2=>exact SeqAt.RcAt.str_bool x1 t1 b2
  | int i2 t2=>exact SeqAt.RcAt.str_int x1 t1 i2 t2
  | str x2 t2=>exact SeqAt.RcAt.str_str x1 t1 x2 t2
  | tu hd2 ht2 hv2 hr2 he2=>rw [hd2];exact SeqAt.RcAt.str_tuple x1 t1 ht2 hu
  | li hd2 ht2 hv2 hr2 he2=>rw [hd2];exact SeqAt.RcAt.str_list x1 t1 ht2 hu
 | @tu n _ ds p xs its hd ht hv hr he =>
  cases v2 with
  | non=>rw [hd];exact SeqAt.RcAt.tuple_none ht hu
  | bl b2=>rw [hd];exact SeqAt.RcAt.tuple_bool b2 ht hu
  | int i2 t2=>rw [hd];exact SeqAt.RcAt.tuple_int i2 t2 ht hu
  | str x2 t2=>rw [hd];exact SeqAt.RcAt.tuple_str x2 t2 ht hu
  | @tu _ _ es q ys jts hd2 ht2 hv2 hr2 he2 =>
   have hhe:∀ j (h1:j < its.toArray.size) (h2:j < jts.toArray.size),SeqAt.EqAt A.in1 s its.toArray[j] jts.toArray[j] (bO ds es j):=fun j h1 h2=>by
    have h1':j < its.length:=by simpa using h1
    have h2':j < jts.length:=by simpa using h2
    obtain ⟨x,ex,rx⟩:=be hv h1';obtain ⟨y,ey,ry⟩:=be hv2 h2';obtain ⟨d',e1,q1⟩:=hr.get' ex;obtain ⟨e',e2,q2⟩:=hr2.get' ey;have z:=uC I n (A:=A.in1) (by show A.units+1+n < cLine;omega) (DJ.mp he _ (DD e1)) (DJ.mp he2 _ (DD e2)) q1 q2 rx ry
    have e3:bO ds es j=eqD d' e':=by unfold bO;rw [e1,e2]
    rw [e3];simpa using z
   have l1:its.toArray.size=ds.length:=by rw [Du,<- hv.length,<- hr.len]
   have l2:jts.toArray.size=es.length:=by rw [Du,<- hv2.length,<- hr2.len]
   have z:=SeqAt.RcAt.tuples ht ht2 hu hhe;rw [l1,l2] at z;rw [hd,hd2]
   show SeqAt.RcAt A s (.ref p) (.ref q) ((fR (cB ds) (cB es)))
   rw [dO];exact z
  | li hd2 ht2 hv2 hr2 he2=>rw [hd,hd2];exact SeqAt.RcAt.tuple_list ht ht2 hu
 | @li n _ ds p xs its hd ht hv hr he =>
  cases v2 with
  | non=>rw [hd];exact SeqAt.RcAt.list_none ht hu
  | bl b2=>rw [hd];exact SeqAt.RcAt.list_bool b2 ht hu
  | int i2 t2=>rw [hd];exact SeqAt.RcAt.list_int i2 t2 ht hu
  | str x2 t2=>rw [hd];exact SeqAt.RcAt.list_str x2 t2 ht hu
  | tu hd2 ht2 hv2 hr2 he2=>rw [hd,hd2];exact SeqAt.RcAt.list_tuple ht ht2 hu
  | @li _ _ es q ys jts hd2 ht2 hv2 hr2 he2 =>
   have hhe:∀ j (h1:j < its.toArray.size) (h2:j < jts.toArray.size),SeqAt.EqAt A.in1 s its.toArray[j] jts.toArray[j] (bO ds es j):=fun j h1 h2=>by
    have h1':j < its.length:=by simpa using h1
    have h2':j < jts.length:=by simpa using h2
    obtain ⟨x,ex,rx⟩:=be hv h1';obtain ⟨y,ey,ry⟩:=be hv2 h2';obtain ⟨d',e1,q1⟩:=hr.get' ex;obtain ⟨e',e2,q2⟩:=hr2.get' ey;have z:=uC I n (A:=A.in1) (by show A.units+1+n < cLine;omega) (DJ.mp he _ (DD e1)) (DJ.mp he2 _ (DD e2)) q1 q2 rx ry
    have e3:bO ds es j=eqD d' e':=by unfold bO;rw [e1,e2]
    rw [e3];simpa using z
   have l1:its.toArray.size=ds.length:=by rw [Du,<- hv.length,<- hr.len]
   have l2:jts.toArray.size=es.length:=by rw [Du,<- hv2.length,<- hr2.len]
   rw [hd,hd2]
   show SeqAt.RcAt A s (.ref p) (.ref q) ((fR (cB ds) (cB es)))
   by_cases hl:ds.length=es.length
   ·have z:=SeqAt.RcAt.lists ht ht2 (by rw [l1,l2];exact hl) hu hhe
    rw [l1] at z;rw [dO,<- hl,Fh,beq_self_eq_true,EW];exact z
   ·have z:=SeqAt.RcAt.lists_lengths ht ht2 (by rw [l1,l2];simpa using hl) hu
    rw [dO,E8.mpr hl,EN];exact z
theorem neAt(I:Inv X pins σ H s)(n:Nat){A:Around}{d e:D}{v v':V}{u w:Value}(hu0:A.units+n < cLine)(h1:aj n d=true)(h2:aj n e=true)(r1:aF X.K H d v)(r2:aF X.K H e v')(ru:aG v u)(rw':aG v' w):SeqAt.RcNeAt A s u w (!(eqD d e)):=by
 have hu:A.units < cLine:=by omega
 have v1:=kr I h1 r1 ru;have v2:=kr I h2 r2 rw';unfold eqD
 cases v1 with
 | non =>
  cases v2 with
  | non=>exact SeqAt.RcNeAt.none_none
  | bl b2=>exact SeqAt.RcNeAt.none_bool b2
  | int i2 t2=>exact SeqAt.RcNeAt.none_int i2 t2
  | str x2 t2=>exact SeqAt.RcNeAt.none_str x2 t2
  | tu hd2 ht2 hv2 hr2 he2=>rw [hd2];exact SeqAt.RcNeAt.none_tuple ht2 hu
  | li hd2 ht2 hv2 hr2 he2=>rw [hd2];exact SeqAt.RcNeAt.none_list ht2 hu
 | bl b1 =>
  cases v2 with
  | non=>exact SeqAt.RcNeAt.bool_none b1
  | bl b2=>exact SeqAt.RcNeAt.bool_bool b1 b2
  | int i2 t2=>exact SeqAt.RcNeAt.bool_int b1 i2 t2
  | str x2 t2=>exact SeqAt.RcNeAt.bool_str b1 x2 t2
  | tu hd2 ht2 hv2 hr2 he2=>rw [hd2];exact SeqAt.RcNeAt.bool_tuple b1 ht2 hu
  | li hd2 ht2 hv2 hr2 he2=>rw [hd2];exact SeqAt.RcNeAt.bool_list b1 ht2 hu
 | int i1 t1 =>
  cases v2 with
  | non=>exact SeqAt.RcNeAt.int_none i1 t1
  | bl b2=>exact SeqAt.RcNeAt.int_bool i1 t1 b2
  | int i2 t2=>exact SeqAt.RcNeAt.int_int i1 t1 i2 t2
  | str x2 t2=>exact SeqAt.RcNeAt.int_str i1 t1 x2 t2
  | tu hd2 ht2 hv2 hr2 he2=>rw [hd2];exact SeqAt.RcNeAt.int_tuple i1 t1 ht2 hu
  | li hd2 ht2 hv2 hr2 he2=>rw [hd2];exact SeqAt.RcNeAt.int_list i1 t1 ht2 hu
 | str x1 t1 =>
  cases v2 with
  | non=>exact SeqAt.RcNeAt.str_none x1 t1
  | bl b2=>exact SeqAt.RcNeAt.str_bool x1 t1 b2
  | int i2 t2=>exact SeqAt.RcNeAt.str_int x1 t1 i2 t2
  | str x2 t2=>exact SeqAt.RcNeAt.str_str x1 t1 x2 t2
  | tu hd2 ht2 hv2 hr2 he2=>rw [hd2];exact SeqAt.RcNeAt.str_tuple x1 t1 ht2 hu
  | li hd2 ht2 hv2 hr2 he2=>rw [hd2];exact SeqAt.RcNeAt.str_list x1 t1 ht2 hu
 | @tu n _ ds p xs its hd ht hv hr he =>
  cases v2 with
  | non=>rw [hd];exact SeqAt.RcNeAt.tuple_none ht hu
  | bl b2=>rw [hd];exact SeqAt.RcNeAt.tuple_bool b2 ht hu
  | int i2 t2=>rw [hd];exact SeqAt.RcNeAt.tuple_int i2 t2 ht hu
  | str x2 t2=>rw [hd];exact SeqAt.RcNeAt.tuple_str x2 t2 ht hu
  | @tu _ _ es q ys jts hd2 ht2 hv2 hr2 he2 =>
   have hhe:∀ j (h1:j < its.toArray.size) (h2:j < jts.toArray.size),SeqAt.EqAt A.in1 s its.toArray[j] jts.toArray[j] (bO ds es j):=fun j h1 h2=>by
    have h1':j < its.length:=by simpa using h1
    have h2':j < jts.length:=by simpa using h2
    obtain ⟨x,ex,rx⟩:=be hv h1';obtain ⟨y,ey,ry⟩:=be hv2 h2';obtain ⟨d',e1,q1⟩:=hr.get' ex;obtain ⟨e',e2,q2⟩:=hr2.get' ey;have z:=uC I n (A:=A.in1) (by show A.units+1+n < cLine;omega) (DJ.mp he _ (DD e1)) (DJ.mp he2 _ (DD e2)) q1 q2 rx ry
    have e3:bO ds es j=eqD d' e':=by unfold bO;rw [e1,e2]
    rw [e3];simpa using z
   have l1:its.toArray.size=ds.length:=by rw [Du,<- hv.length,<- hr.len]
   have l2:jts.toArray.size=es.length:=by rw [Du,<- hv2.length,<- hr2.len]
   have z:=SeqAt.RcNeAt.tuples ht ht2 hu hhe;rw [l1,l2] at z;rw [hd,hd2]
   show SeqAt.RcNeAt A s (.ref p) (.ref q) (!(fR (cB ds) (cB es)))
   rw [dO];exact z
  | li hd2 ht2 hv2 hr2 he2=>rw [hd,hd2];exact SeqAt.RcNeAt.tuple_list ht ht2 hu
 | @li n _ ds p xs its hd ht hv hr he =>
  cases v2 with
  | non=>rw [hd];exact SeqAt.RcNeAt.list_none ht hu
  | bl b2=>rw [hd];exact SeqAt.RcNeAt.list_bool b2 ht hu
  | int i2 t2=>rw [hd];exact SeqAt.RcNeAt.list_int i2 t2 ht hu
  | str x2 t2=>rw [hd];exact SeqAt.RcNeAt.list_str x2 t2 ht hu
  | tu hd2 ht2 hv2 hr2 he2=>rw [hd,hd2];exact SeqAt.RcNeAt.list_tuple ht ht2 hu
  | @li _ _ es q ys jts hd2 ht2 hv2 hr2 he2 =>
   have hhe:∀ j (h1:j < its.toArray.size) (h2:j < jts.toArray.size),SeqAt.EqAt A.in1 s its.toArray[j] jts.toArray[j] (bO ds es j):=fun j h1 h2=>by
    have h1':j < its.length:=by simpa using h1
    have h2':j < jts.length:=by simpa using h2
    obtain ⟨x,ex,rx⟩:=be hv h1';obtain ⟨y,ey,ry⟩:=be hv2 h2';obtain ⟨d',e1,q1⟩:=hr.get' ex;obtain ⟨e',e2,q2⟩:=hr2.get' ey;have z:=uC I n (A:=A.in1) (by show A.units+1+n < cLine;omega) (DJ.mp he _ (DD e1)) (DJ.mp he2 _ (DD e2)) q1 q2 rx ry
    have e3:bO ds es j=eqD d' e':=by unfold bO;rw [e1,e2]
    rw [e3];simpa using z
   have l1:its.toArray.size=ds.length:=by rw [Du,<- hv.length,<- hr.len]
   have l2:jts.toArray.size=es.length:=by rw [Du,<- hv2.length,<- hr2.len]
   rw [hd,hd2]
   show SeqAt.RcNeAt A s (.ref p) (.ref q) (!(fR (cB ds) (cB es)))
   by_cases hl:ds.length=es.length
   ·have z:=SeqAt.RcNeAt.lists ht ht2 (by rw [l1,l2];exact hl) hu hhe
    rw [l1] at z;rw [dO,<- hl,Fh,beq_self_eq_true,EW];exact z
   ·have z:=SeqAt.RcNeAt.lists_lengths ht ht2 (by rw [l1,l2];simpa using hl) hu
    rw [dO,E8.mpr hl,EN];exact z
end
noncomputable def gEq:List D->Option (D×Bool)
 | [d,e]=>if (aj 9 d&&aj 9 e)=true then some (.bl (eqD d e),false) else none
 | _=>none
noncomputable def gNe:List D->Option (D×Bool)
 | [d,e]=>if (aj 9 d&&aj 9 e)=true then some (.bl (!(eqD d e)),false) else none
 | _=>none
noncomputable def rEqD(K:FZ):R2:=fun x y H Q=>∃ d e,aj 9 d=true/\aj 9 e=true/\aF K H d x/\aF K H e y/\Q (.bl (eqD d e)) H
noncomputable def rNeD(K:FZ):R2:=fun x y H Q=>∃ d e,aj 9 d=true/\aj 9 e=true/\aF K H d x/\aF K H e y/\Q (.bl (!(eqD d e))) H
section
variable{X:Cx}
theorem yX(hu:X.A.units+9 < cLine):OpR X (compareOp .Eq) (rEqD X.K):=by
 intro pins s σ H x y v u Q I rx ry h;obtain ⟨d,e,h1,h2,r1,r2,q⟩:=h;exact rcAt I 9 hu h1 h2 r1 r2 rx ry _ _ _ _ ⟨.bl _,H,I,rfl,q⟩
theorem op_neD(hu:X.A.units+9 < cLine):OpR X (compareOp .NotEq) (rNeD X.K):=by
 intro pins s σ H x y v u Q I rx ry h;obtain ⟨d,e,h1,h2,r1,r2,q⟩:=h;exact neAt I 9 hu h1 h2 r1 r2 rx ry _ _ _ _ ⟨.bl _,H,I,rfl,q⟩
end
theorem aQ{K:FZ}{H Hh:Hp}{a b:D}{vs:List V}(h:kX K H Hh [a,b] vs):∃ x y,vs=[x,y]/\gb K H Hh a x/\gb K H Hh b y:=by
 match vs,h with
 | [x,y],h=>exact ⟨x,y,rfl,h.1,h.2.1⟩
theorem aJ{K:FZ}{H Hh:Hp}{a:D}{vs:List V}(h:kX K H Hh [a] vs):∃ x,vs=[x]/\gb K H Hh a x:=by
 match vs,h with
 | [x],h=>exact ⟨x,rfl,h.1⟩
theorem C1{K:FZ}:OpS K (r2 (rEqD K)) gEq:=by
 intro vs ds H L Q d nw hm r e q
 match ds,e with
 | [a,b],e =>
  obtain ⟨x,y,rfl,ra,rb⟩:=aQ r;have e:(if (aj 9 a&&aj 9 b)=true then some (D.bl (eqD a b),false) else none)=some (d,nw):=e
  split at e
  ·rename_i hc
   have hc:=(DK _ _).mp hc;cases e;exact ⟨a,b,hc.1,hc.2,ra.d ay,rb.d ay,q _ H (ai.refl _) rfl⟩
  ·cases e
theorem os_ne{K:FZ}:OpS K (r2 (rNeD K)) gNe:=by
 intro vs ds H L Q d nw hm r e q
 match ds,e with
 | [a,b],e =>
  obtain ⟨x,y,rfl,ra,rb⟩:=aQ r;have e:(if (aj 9 a&&aj 9 b)=true then some (D.bl (!(eqD a b)),false) else none)=some (d,nw):=e
  split at e
  ·rename_i hc
   have hc:=(DK _ _).mp hc;cases e;exact ⟨a,b,hc.1,hc.2,ra.d ay,rb.d ay,q _ H (ai.refl _) rfl⟩
  ·cases e
section
variable{X:Cx}
noncomputable def yp:R2:=fun x y H Q=>∃ a b xs ys,x = .ref a/\y = .ref b/\H a=some (.tup xs)/\H b=some (.tup ys)/\xs.length+ys.length<=sizeLine /\
 ∀ p H',H' p=some (.tup (xs++ys))->ai H H'->Q (.ref p) H'
theorem BM:OpR X (binaryOp .Add) yp:=by
 intro pins s σ H x y v u Q I rx ry h;obtain ⟨a,b,xs,ys,rfl,rfl,ha,hb,hz,q⟩:=h
 by_cases hx:xs=[]
 ·subst hx
  cases rx;cases ry;obtain ⟨its,r1,p1,_⟩:=I.tuple (X:=X) (.inl (.inl ha));obtain ⟨its2,r2,p2,_⟩:=I.tuple (X:=X) (.inl (.inl hb));cases r1;exact Ck p1 p2 ⟨.ref b,H,I,rfl,q b H hb (ai.refl H)⟩
 ·refine BL pins s σ H _ _ v u Q I rx ry ⟨a,b,xs,ys,rfl,rfl,.inl (.inl ha),.inl (.inl hb),hx,hz,fun e=> ?_,fun e p hp=> ?_⟩
  ·subst e
   exact q a H (by rw [DW];exact ha) (ai.refl H)
  ·exact q p _ ao fun c o e'=>by rw [am (aq e' hp)];exact e'
noncomputable def rSlD:RSl:=fun x lo hi H Q=>∃ a xs,x = .ref a/\H a=some (.tup xs)/\∀ p H',H' p=some (.tup (nE xs lo hi))->ai H H'->Q (.ref p) H'
theorem AV:SlR X rSlD:=by
 intro pins s σ H x v vl vu lo hi sl Q I rx hs pl pu h;obtain ⟨a,xs,rfl,hx,q⟩:=h
 by_cases hw:HT.sIx xs.length 0 lo=0/\HT.sIx xs.length xs.length hi=xs.length
 ·cases rx
  obtain ⟨its,r,ht,hz⟩:=I.tuple (X:=X) (.inl (.inl hx))
  have hlen:its.toArray.size=xs.length:=by rw [Du];exact r.length.symm
  refine ⟨"tuple",_,PyProof.Rows.slot_tuple_getitem.lookup,ht.typeIs,?_⟩;refine HT.ic ht hs pl pu (by rw [hlen];exact hw) ⟨.ref a,H,I,rfl,q a H ?_ (ai.refl H)⟩
  have:nE xs lo hi=xs:=by
   unfold nE;rw [hw.1,hw.2,List.drop_zero,Nat.sub_zero,List.take_length]
  rw [this];exact hx
 ·exact sl_tup pins s σ H _ v vl vu lo hi sl Q I rx hs pl pu ⟨a,xs,rfl,.inl (.inl hx),hw,fun p hp=>q p _ ao (ai.upd hp)⟩
end
noncomputable def small(n:Nat):Bool:=decide (n<=1000000)
theorem fk{n:Nat}(h:small n=true):n<=sizeLine:=Eu (DH h) (by decide)
theorem lU{n:Nat}(h:small n=true):n < sizeLine:=Nat.lt_of_le_of_lt (DH h) (by decide)
noncomputable def kl(xs:List D)(lo hi:Option Int):List D:=(xs.drop (HT.sIx xs.length 0 lo)).take (HT.sIx xs.length xs.length hi - HT.sIx xs.length 0 lo)
theorem ak.cut{K:FZ}{H:Hp}{ds:List D}{xs:List V}(h:ak K H ds xs)(lo hi:Option Int):ak K H (kl ds lo hi) (nE xs lo hi):=by
 unfold kl nE;rw [h.len];exact (h.drop _).take _
noncomputable def oX(a b:Int):Bool:=decide (-(2 ^ 64) < a/\a < 2 ^ 64)||decide (-(2 ^ 64) < b/\b < 2 ^ 64)
noncomputable def aU:List D->Option (D×Bool)
 | [.int a,.int b]=>some (.int (a+b),false)
 | [.lst a,.lst b]=>if small (a.length+b.length)=true then some (.lst (a++b),true) else none
 | [.tup a,.tup b]=>if small (a.length+b.length)=true then some (.tup (a++b),false) else none
 | _=>none
noncomputable def cq:List D->Option (D×Bool)
 | [.int a,.int b]=>some (.int (a - b),false)
 | _=>none
noncomputable def repL(n:Nat)(l:List D):List D:=(List.replicate n l).flatten
noncomputable def ie:List D->Option (D×Bool)
 | [.int a,.int b]=>if oX a b=true then some (.int (a * b),false) else none
 | [.lst a,.int k]=>if (decide (-1000000<=k/\k<=1000000)&&small (a.length * k.toNat))=true then some (.lst (repL k.toNat a),true) else none
 | _=>none
noncomputable def fB:List D->Option (D×Bool)
 | [.int a,.int b]=>if decide (0 < b/\b < 1073741824)=true then some (.int (a / b),false) else none
 | _=>none
noncomputable def eO:List D->Option (D×Bool)
 | [.int a,.int b]=>if decide (0 < b)=true then some (.int (a % b),false) else none
 | _=>none
noncomputable def zN:List D->Option (D×Bool)
 | [.int a,.int b]=>if decide (0<=b/\b<=1000000/\a.natAbs < 2 ^ 64)=true then some (.int (a ^ b.toNat),false) else none
 | _=>none
noncomputable def aT:List D->Option (List Int)
 | []=>some []
 | .int i::ds=>match aT ds with
  | some l=>some (i::l)
  | none=>none
 | _=>none
noncomputable def ip:List D->Option (List Bool)
 | []=>some []
 | .bl i::ds=>match ip ds with
  | some l=>some (i::l)
  | none=>none
 | _=>none
theorem bt:∀ {ds:List D} {l:List Int},aT ds=some l->ds=l.map D.int
 | [],l,h=>by unfold aT at h;cases h;rfl
 | d::ds,l,h=>by
  cases d<;>first | (unfold aT at h;cases h;done) | skip
  unfold aT at h
  cases e:aT ds with
  | none=>rw [e] at h;cases h
  | some l'=>rw [e] at h;cases h;rw [bt e];rfl
theorem cF(l:List Int):aT (l.map D.int)=some l:=by
 induction l with
 | nil=>rfl
 | cons i l ih=>rw [DE];unfold aT;rw [ih]
theorem tE:∀ {ds:List D} {l:List Bool},ip ds=some l->ds=l.map D.bl
 | [],l,h=>by unfold ip at h;cases h;rfl
 | d::ds,l,h=>by
  cases d<;>first | (unfold ip at h;cases h;done) | skip
  unfold ip at h
  cases e:ip ds with
  | none=>rw [e] at h;cases h
  | some l'=>rw [e] at h;cases h;rw [tE e];rfl
theorem xq(l:List Bool):ip (l.map D.bl)=some l:=by
 induction l with
 | nil=>rfl
 | cons i l ih=>rw [DE];unfold ip;rw [ih]
noncomputable def gLt:List D->Option (D×Bool)
 | [.int a,.int b]=>some (.bl (decide (a < b)),false)
 | _=>none
noncomputable def gLe:List D->Option (D×Bool)
 | [.int a,.int b]=>some (.bl (decide (a<=b)),false)
 | _=>none
noncomputable def gGt:List D->Option (D×Bool)
 | [.int a,.int b]=>some (.bl (decide (b < a)),false)
 | _=>none
noncomputable def gGe:List D->Option (D×Bool)
 | [.int a,.int b]=>some (.bl (decide (b<=a)),false)
 | _=>none
noncomputable def C7:D->Bool
 | .non=>true
 | _=>false
noncomputable def gIs:List D->Option (D×Bool)
 | [d,.non]=>some (.bl (C7 d),false)
 | [.bl a,.bl b]=>some (.bl (a == b),false)
 | _=>none
noncomputable def rIsD:R2:=fun x y H Q=>(y = .non/\Q (.bl (decide (x = .non))) H)\/∃ a b,x = .bl a/\y = .bl b/\Q (.bl (a == b)) H
section
variable{K:FZ}
theorem zw{H Hh:Hp}{d:D}{v:V}(r:gb K H Hh d v):decide (v = .non)=C7 d:=by
 cases d<;>first
  | (have r:v=_:=r;subst r;rfl)
  | (obtain ⟨p,xs,rfl,_⟩:=r;rfl)
  | (obtain ⟨p,rfl,_⟩:=r;rfl)
theorem cj{H Hh:Hp}{i:Int}{v:V}(r:gb K H Hh (.int i) v):v = .int i:=r
theorem A9{H Hh:Hp}{i:Bool}{v:V}(r:gb K H Hh (.bl i) v):v = .bl i:=r
theorem cE{H:Hp}{L:List Addr}{ds:List D}{xs:List V}(r:ak K (hid L H) ds xs){p:Addr}(hp:H p=none):gU K H (upd H p (.lst xs)) L (.lst ds) true (.ref p) :=
 ⟨p,rfl,hp,xs,ao,(aP (fun b hb=>(Dz.mp hb).elim (fun z=> .inr (by rw [z];exact hp)) .inl) fun b o _ e=>ai.upd hp b o e:ai (hid L H) _).repDs r⟩
theorem gZ{H H':Hp}{L:List Addr}{ds:List D}{xs:List V}(hm:∀ p∈L,eL (H p))(r:ak K (hid L H) ds xs){p:Addr}(s:ai H H')(hp:H' p=some (.tup xs)):gU K H H' L (.tup ds) false (.ref p):=by
 refine ⟨p,xs,rfl,?_,(aP (fun b hb=> .inl hb) fun b o _ e=>s b o e:ai (hid L H) _).repDs r⟩;rw [aI (fun z=> ?_)]
 ·exact hp
 ·obtain ⟨u,q⟩:=(hm p z).some
  have e:=s p u q;rw [hp] at e;cases e;have:=hm p z;rw [q] at this;exact this
theorem os_add:OpS K (r2 fun x y H Q=>rI0 (fun i j=> .int (i+j)) x y H Q\/rCat x y H Q\/yp x y H Q) aU:=by
 intro vs ds H L Q d nw hm r e q;unfold aU at e
 split at e
 ·obtain ⟨x,y,rfl,ra,rb⟩:=aQ r
  cases e;exact .inl ⟨_,_,ra,rb,q _ H (ai.refl _) rfl⟩
 ·obtain ⟨x,y,rfl,⟨p,xs,rfl,h1,h2⟩,⟨p',ys,rfl,h3,h4⟩⟩:=aQ r
  split at e
  ·rename_i hs
   cases e;refine .inr (.inl ⟨p,p',xs,ys,rfl,rfl,h1,h3,fk (by rw [<- h2.len,<- h4.len];exact hs),fun l hl=>q _ _ (ai.upd hl) (cE (h2.app h4) hl)⟩)
  ·cases e
 ·obtain ⟨x,y,rfl,⟨p,xs,rfl,h1,h2⟩,⟨p',ys,rfl,h3,h4⟩⟩:=aQ r
  split at e
  ·rename_i hs
   cases e;exact .inr (.inr ⟨p,p',xs,ys,rfl,rfl,(aw h1).2,(aw h3).2,fk (by rw [<- h2.len,<- h4.len];exact hs),fun l H' hl s=>q _ _ s (gZ hm (h2.app h4) s hl)⟩)
  ·cases e
 ·cases e
theorem os_sub:OpS K (r2 (rI0 fun i j=> .int (i - j))) cq:=by
 intro vs ds H L Q d nw hm r e q;unfold cq at e
 split at e
 ·obtain ⟨x,y,rfl,ra,rb⟩:=aQ r
  cases e;exact ⟨_,_,ra,rb,q _ H (ai.refl _) rfl⟩
 ·cases e
theorem mm:∀ {H:Hp} {ds:List D} {xs:List V} (n:Nat),ak K H ds xs->ak K H (repL n ds) (List.replicate n xs).flatten
 | _,_,_,0,_=>trivial
 | _,_,_,n+1,h=>by
  unfold repL;rw [Ez,Ez,E5,E5];exact h.app (mm n h)
theorem yR:OpS K (r2 fun x y H Q=>rI xA (fun i j=> .int (i * j)) x y H Q\/Bn x y H Q) ie:=by
 intro vs ds H L Q d nw hm r e q;unfold ie at e
 split at e
 ·obtain ⟨x,y,rfl,ra,rb⟩:=aQ r
  split at e
  ·rename_i hs
   cases e;refine .inl ⟨_,_,ra,rb,?_,q _ H (ai.refl _) rfl⟩
   rcases (FE _ _).mp hs with z | z
   ·exact .inl (DH z)
   ·exact .inr (DH z)
  ·cases e
 ·rename_i a k
  obtain ⟨x,y,rfl,⟨p,xs,rfl,h1,h2⟩,rb⟩:=aQ r
  split at e
  ·rename_i hs
   cases e;have hs:=(DK _ _).mp hs;have hb:=DH hs.1;refine .inr ⟨p,k,xs,rfl,rb,h1,by omega,by omega,?_,fun l hl=>q _ _ (ai.upd hl) (cE (mm k.toNat h2) hl)⟩;rw [<- h2.len];exact fk hs.2
  ·cases e
 ·cases e
theorem BH:OpS K (r2 (rI CDiv fun i j=> .int (i / j))) fB:=by
 intro vs ds H L Q d nw hm r e q;unfold fB at e
 split at e
 ·obtain ⟨x,y,rfl,ra,rb⟩:=aQ r
  split at e
  ·rename_i hs
   cases e;exact ⟨_,_,ra,rb,(by have z:=DH hs;exact z),q _ H (ai.refl _) rfl⟩
  ·cases e
 ·cases e
theorem os_mod:OpS K (r2 (rI (fun _ j=>0 < j) fun i j=> .int (i % j))) eO:=by
 intro vs ds H L Q d nw hm r e q;unfold eO at e
 split at e
 ·obtain ⟨x,y,rfl,ra,rb⟩:=aQ r
  split at e
  ·rename_i hs
   cases e;exact ⟨_,_,ra,rb,DH hs,q _ H (ai.refl _) rfl⟩
  ·cases e
 ·cases e
theorem os_pow:OpS K (r2 (rI CPow fun i j=> .int (i ^ j.toNat))) zN:=by
 intro vs ds H L Q d nw hm r e q;unfold zN at e
 split at e
 ·obtain ⟨x,y,rfl,ra,rb⟩:=aQ r
  split at e
  ·rename_i hs
   cases e;exact ⟨_,_,ra,rb,(by have z:=DH hs;exact z),q _ H (ai.refl _) rfl⟩
  ·cases e
 ·cases e
theorem os_lt:OpS K (r2 (rI0 fun i j=> .bl (decide (i < j)))) gLt:=by
 intro vs ds H L Q d nw hm r e q;unfold gLt at e
 split at e
 ·obtain ⟨x,y,rfl,ra,rb⟩:=aQ r
  cases e;exact ⟨_,_,ra,rb,q _ H (ai.refl _) rfl⟩
 ·cases e
theorem yU:OpS K (r2 (rI0 fun i j=> .bl (decide (i<=j)))) gLe:=by
 intro vs ds H L Q d nw hm r e q;unfold gLe at e
 split at e
 ·obtain ⟨x,y,rfl,ra,rb⟩:=aQ r
  cases e;exact ⟨_,_,ra,rb,q _ H (ai.refl _) rfl⟩
 ·cases e
theorem CZ:OpS K (r2 (rI0 fun i j=> .bl (decide (j < i)))) gGt:=by
 intro vs ds H L Q d nw hm r e q;unfold gGt at e
 split at e
 ·obtain ⟨x,y,rfl,ra,rb⟩:=aQ r
  cases e;exact ⟨_,_,ra,rb,q _ H (ai.refl _) rfl⟩
 ·cases e
theorem C0:OpS K (r2 (rI0 fun i j=> .bl (decide (j<=i)))) gGe:=by
 intro vs ds H L Q d nw hm r e q;unfold gGe at e
 split at e
 ·obtain ⟨x,y,rfl,ra,rb⟩:=aQ r
  cases e;exact ⟨_,_,ra,rb,q _ H (ai.refl _) rfl⟩
 ·cases e
theorem os_is:OpS K (r2 rIsD) gIs:=by
 intro vs ds H L Q d nw hm r e q;unfold gIs at e
 split at e
 ·obtain ⟨x,y,rfl,ra,rb⟩:=aQ r
  cases e;refine .inl ⟨rb,?_⟩;rw [zw ra];exact q _ H (ai.refl _) rfl
 ·obtain ⟨x,y,rfl,ra,rb⟩:=aQ r
  cases e;exact .inr ⟨_,_,ra,rb,q _ H (ai.refl _) rfl⟩
 ·cases e
end
noncomputable def gIx:List D->Option (D×Bool)
 | [.lst ds,.int i]=>match atI ds i with
  | some d=>some (d,false)
  | none=>none
 | [.klst ds,.int i]=>match atI ds i with
  | some d=>some (d,false)
  | none=>none
 | [.tup ds,.int i]=>match atI ds i with
  | some d=>some (d,false)
  | none=>none
 | [.ktup ds,.int i]=>match atI ds i with
  | some d=>some (d,false)
  | none=>none
 | _=>none
noncomputable def gSl(lo hi:Option Int):D->Option (D×Bool)
 | .lst ds=>some (.lst (kl ds lo hi),true)
 | .klst ds=>some (.lst (kl ds lo hi),true)
 | .tup ds=>some (.tup (kl ds lo hi),false)
 | _=>none
noncomputable def uq:List D->Option (D×Bool)
 | [d,.int i]=>gSl (some i) none d
 | _=>none
noncomputable def B3(i j:Int):List D->Option (D×Bool)
 | [d]=>gSl (some i) (some j) d
 | _=>none
noncomputable def Bm(K:FZ):RSl:=fun x lo hi H Q=>rSlL K x lo hi H Q\/rSlD x lo hi H Q
section
variable{K:FZ}
theorem qS{H:Hp}{ds:List D}{xs:List V}{i:Int}{d:D}(r:ak K H ds xs)(e:atI ds i=some d):∃ v,atI xs i=some v/\aF K H d v:=by
 unfold atI at e ⊢;rw [<- r.len]
 cases h:ixN ds.length i with
 | none=>rw [h] at e;cases e
 | some j =>
  rw [h] at e;obtain ⟨x,e1,e2⟩:=r.get (show ds[j]?=some d from e);exact ⟨x,e1,e2⟩
theorem os_ix:OpS K (r2 (rIx K)) gIx:=by
 intro vs ds H L Q d nw hm r e q;unfold gIx at e
 split at e
 ·rename_i es i
  obtain ⟨x,y,rfl,⟨p,xs,rfl,h1,h2⟩,rb⟩:=aQ r
  cases ea:atI es i with
  | none=>rw [ea] at e;cases e
  | some d' =>
   rw [ea] at e;cases e;obtain ⟨v,e1,e2⟩:=qS h2 ea;exact .inl ⟨p,xs,i,v,rfl,rb,.inl (.inl h1),e1,q v H (ai.refl _) e2⟩
 ·rename_i es i
  obtain ⟨x,y,rfl,⟨p,xs,rfl,h1,h2⟩,rb⟩:=aQ r
  cases ea:atI es i with
  | none=>rw [ea] at e;cases e
  | some d' =>
   rw [ea] at e;cases e;obtain ⟨v,e1,e2⟩:=qS h2 ea;exact .inl ⟨p,xs,i,v,rfl,rb,ay.seq h1,e1,q v H (ai.refl _) e2⟩
 ·rename_i es i
  obtain ⟨x,y,rfl,⟨p,xs,rfl,h1,h2⟩,rb⟩:=aQ r
  cases ea:atI es i with
  | none=>rw [ea] at e;cases e
  | some d' =>
   rw [ea] at e;cases e;obtain ⟨v,e1,e2⟩:=qS h2 ea;exact .inr (.inl ⟨p,xs,i,v,rfl,rb,.inl (.inl (aw h1).2),e1,q v H (ai.refl _) e2⟩)
 ·rename_i es i
  obtain ⟨x,y,rfl,⟨p,xs,rfl,h1,h2⟩,rb⟩:=aQ r
  cases ea:atI es i with
  | none=>rw [ea] at e;cases e
  | some d' =>
   rw [ea] at e;cases e;obtain ⟨v,e1,e2⟩:=qS h2 ea;exact .inr (.inl ⟨p,xs,i,v,rfl,rb,eX h1,e1,q v H (ai.refl _) e2⟩)
 ·cases e
theorem CB{H:Hp}{L:List Addr}{lo hi:Option Int}{x:V}{c d:D}{nw:Bool}{Q:VK}(hm:∀ p∈L,eL (H p))(r:gb K H (hid L H) c x)(e:gSl lo hi c=some (d,nw))(q:∀ v H',ai H H'->gU K H H' L d nw v->Q v H'):Bm K x lo hi H Q:=by
 unfold gSl at e
 split at e
 ·obtain ⟨p,xs,rfl,h1,h2⟩:=r
  cases e;exact .inl ⟨p,xs,rfl,.inl (.inl h1),fun l hl=>q _ _ (ai.upd hl) (cE (h2.cut lo hi) hl)⟩
 ·obtain ⟨p,xs,rfl,h1,h2⟩:=r
  cases e;exact .inl ⟨p,xs,rfl,ay.seq h1,fun l hl=>q _ _ (ai.upd hl) (cE (h2.cut lo hi) hl)⟩
 ·obtain ⟨p,xs,rfl,h1,h2⟩:=r
  cases e;exact .inr ⟨p,xs,rfl,(aw h1).2,fun l H' hl s=>q _ _ s (gZ hm (h2.cut lo hi) s hl)⟩
 ·cases e
theorem os_s10:OpS K (rS10 (Bm K)) uq:=by
 intro vs ds H L Q d nw hm r e q;unfold uq at e
 split at e
 ·obtain ⟨x,y,rfl,ra,rb⟩:=aQ r
  exact ⟨_,rb,CB hm ra e q⟩
 ·cases e
theorem os_s11{i j:Int}:OpS K (rS11 (Bm K) i j) (B3 i j):=by
 intro vs ds H L Q d nw hm r e q;unfold B3 at e
 split at e
 ·obtain ⟨x,rfl,ra⟩:=aJ r
  exact ⟨i,rfl,j,rfl,CB hm ra e q⟩
 ·cases e
end
section
variable{X:Cx}
theorem BN:OpR X (binaryOp .Add) (fun x y H Q=>rI0 (fun i j=> .int (i+j)) x y H Q\/rCat x y H Q\/yp x y H Q):=op_add.or (yY.or BM)
theorem vA:OpR X (binaryOp .Mult) (fun x y H Q=>rI xA (fun i j=> .int (i * j)) x y H Q\/Bn x y H Q):=op_mul.or op_rep
theorem xT:SlR X (Bm X.K):=AW.or AV
theorem op_isD:OpR X (compareOp .Is) rIsD:=op_isN.or op_isB
end
noncomputable def ins(x:Int):List Int->List Int
 | []=>[x]
 | y::l=>if x<=y then x::y::l else y::ins x l
noncomputable def eY:List Int->List Int
 | []=>[]
 | x::l=>ins x (eY l)
theorem ng(x:Int):∀ l:List Int,(ins x l).Perm (x::l)
 | []=> .refl _
 | y::l=>by
  unfold ins
  split
  ·exact .refl _
  ·exact ((ng x l).cons y).trans (.swap x y l)
theorem iW:∀ l:List Int,(eY l).Perm l
 | []=> .refl _
 | x::l=>(ng x _).trans ((iW l).cons x)
theorem nc(x:Int):∀ {l:List Int},l.Pairwise (·<= ·)->(ins x l).Pairwise (·<= ·)
 | [],_=>by unfold ins;simp
 | y::l,h=>by
  unfold ins;have hy:=Ej.mp h
  split
  ·rename_i hxy
   exact Ej.mpr ⟨fun z hz=>(Dz.mp hz).elim (fun e=>e ▸ hxy) fun hz=>Int.le_trans hxy (hy.1 z hz),h⟩
  ·rename_i hxy
   refine Ej.mpr ⟨fun z hz=> ?_,nc x hy.2⟩
   rcases Dz.mp ((ng x l).mem_iff.mp hz) with e | hz
   ·rw [e];omega
   ·exact hy.1 z hz
theorem fK:∀ l:List Int,(eY l).Pairwise (·<= ·)
 | []=> .nil
 | x::l=>nc x (fK l)
theorem bB:∀ {a b:List Int},a.Pairwise (·<= ·)->b.Pairwise (·<= ·)->a.Perm b->a=b
 | [],b,_,_,h=>(h.symm.eq_nil).symm ▸ rfl
 | x::a,[],_,_,h=>absurd h.eq_nil (by simp)
 | x::a,y::b,h1,h2,h=>by
  have g1:=Ej.mp h1;have g2:=Ej.mp h2
  have e:x=y:=by
   have m1:x∈y::b:=h.mem_iff.mp Dv;have m2:y∈x::a:=h.mem_iff.mpr Dv;have l1:y<=x:=(Dz.mp m1).elim (fun e=>e ▸ Int.le_refl _) (g2.1 x);have l2:x<=y:=(Dz.mp m2).elim (fun e=>e ▸ Int.le_refl _) (g1.1 y);omega
  subst e;rw [bB g1.2 g2.2 h.cons_inv]
noncomputable def jy:List Int->Int
 | []=>0
 | [x]=>x
 | x::y::l=>if jy (y::l)<=x then x else jy (y::l)
noncomputable def kb:List Int->Int
 | []=>0
 | [x]=>x
 | x::y::l=>if x<=kb (y::l) then x else kb (y::l)
theorem jx:∀ {l:List Int},l≠[]->jy l∈l/\∀ a∈l,a<=jy l
 | [],h=>absurd rfl h
 | [x],_=>by unfold jy;simp
 | x::y::l,_=>by
  obtain ⟨h1,h2⟩:=jx (l:=y::l) (by simp);unfold jy
  split
  ·rename_i hx
   exact ⟨Dv,fun a ha=>(Dz.mp ha).elim (fun e=>e ▸ Int.le_refl _) fun ha=>Int.le_trans (h2 a ha) hx⟩
  ·rename_i hx
   exact ⟨Dr _ h1,fun a ha=>(Dz.mp ha).elim (fun e=>by rw [e];omega) (h2 a)⟩
theorem jw:∀ {l:List Int},l≠[]->kb l∈l/\∀ a∈l,kb l<=a
 | [],h=>absurd rfl h
 | [x],_=>by unfold kb;simp
 | x::y::l,_=>by
  obtain ⟨h1,h2⟩:=jw (l:=y::l) (by simp);unfold kb
  split
  ·rename_i hx
   exact ⟨Dv,fun a ha=>(Dz.mp ha).elim (fun e=>e ▸ Int.le_refl _) fun ha=>Int.le_trans hx (h2 a ha)⟩
  ·rename_i hx
   exact ⟨Dr _ h1,fun a ha=>(Dz.mp ha).elim (fun e=>by rw [e];omega) (h2 a)⟩
noncomputable def dd(ns:List Int):List Int:=ns.foldl step_dedup []
theorem sk(ns:List Int):St2.eI ns ns.length=dd ns:=by
 unfold St2.eI firstMet dd
 congr 1
 apply Fo
 ·simp
 ·intro i h1 h2
  simp [h2]
theorem dd_any(ns:List Int)(x:Int):(dd ns).any (·== x)=true↔x∈ns:=by rw [<- sk];exact St3.kh ns x
theorem dd_mem(ns:List Int)(x:Int):x∈dd ns↔x∈ns:=by
 rw [<- dd_any ns x];simp
section
variable{X:Cx}
noncomputable def t9(K:FZ):List V->Hp->VK->Prop:=fun xs H Q=>∃ (p:Addr) (ns:List Int),xs=[V.ref p]/\SqT K H p (ns.map V.int)/\ns.length<=1000 /\
 ∀ l S,H l=none->(∀ x,S x=true↔x∈ns)->Q (.ref l) (upd H l (.set S (St2.eI ns ns.length).length))
theorem uJ(hc:X.calm=true):aH X (.type "set") (t9 X.K):=by
 intro pins s σ H xs us Q I r h;obtain ⟨p,ns,rfl,hq,hn,q⟩:=h;obtain ⟨u,rfl,ru⟩:=bT r;cases ru;obtain ⟨its,rv,pt,_⟩:=I.tuple hq
 have ln:its.length=ns.length:=by rw [<- rv.length,Do]
 refine St2.wa (ns:=ns) (I.ok.hd hc) pt (by simpa using dw rv) (by rw [Du,ln];unfold scanBound;omega) fun h' tk st kp=> ?_
 have sz:its.toArray.size=ns.length:=by rw [Du,ln]
 rw [sz] at st;have hf:H s.heap.objs.size=none:=I.hok.fresh (Dy _);exact ⟨.ref s.heap.objs.size,_,I.laid (o:= .set _ _) (fun b o e=>kp b o (Dx e) e) (Dy _) st,rfl,q _ _ hf (St3.kh ns)⟩
end
noncomputable def bS:List D->Option (D×Bool)
 | [.lst ds]=>some (.int ds.length,false)
 | [.klst ds]=>some (.int ds.length,false)
 | [.tup ds]=>some (.int ds.length,false)
 | [.ktup ds]=>some (.int ds.length,false)
 | [.dK ks _]=>some (.int ks.length,false)
 | [.dT ks _]=>some (.int ks.length,false)
 | [.set l]=>if decide (l.length<=1000)=true then some (.int l.length,false) else none
 | _=>none
noncomputable def CO(X:Cx):List V->Hp->VK->Prop:=fun xs H Q=>(∃ p ys,xs=[V.ref p]/\(SqL X.K H p ys\/SqT X.K H p ys)/\Q (.int ys.length) H)\/(∃ a kvs,xs=[V.ref a]/\H a=some (.dK kvs)/\Q (.int kvs.length) H)\/(∃ a kvs,xs=[V.ref a]/\H a=some (.dT kvs)/\Q (.int kvs.length) H)\/vo xs H Q
theorem xl{X:Cx}:aH X (.builtin "len") (CO X):=qQ.or (xk.or (xj.or tq))
theorem os_len{X:Cx}:OpS X.K (CO X) bS:=by
 intro vs ds H L Q d nw hm r e q;unfold bS at e
 split at e
 ·obtain ⟨x,rfl,⟨p,xs,rfl,h1,h2⟩⟩:=aJ r
  cases e;exact .inl ⟨p,xs,rfl,.inl (.inl (.inl h1)),by rw [<- h2.len];exact q _ H (ai.refl _) rfl⟩
 ·obtain ⟨x,rfl,⟨p,xs,rfl,h1,h2⟩⟩:=aJ r
  cases e;exact .inl ⟨p,xs,rfl,.inl (ay.seq h1),by rw [<- h2.len];exact q _ H (ai.refl _) rfl⟩
 ·obtain ⟨x,rfl,⟨p,xs,rfl,h1,h2⟩⟩:=aJ r
  cases e;exact .inl ⟨p,xs,rfl,.inr (.inl (.inl (aw h1).2)),by rw [<- h2.len];exact q _ H (ai.refl _) rfl⟩
 ·obtain ⟨x,rfl,⟨p,xs,rfl,h1,h2⟩⟩:=aJ r
  cases e;exact .inl ⟨p,xs,rfl,.inr (eX h1),by rw [<- h2.len];exact q _ H (ai.refl _) rfl⟩
 ·rename_i ks vs'
  obtain ⟨x,rfl,⟨p,xs,rfl,h1,h2,h3⟩⟩:=aJ r;cases e;exact .inr (.inl ⟨p,_,rfl,h1,by rw [E4,<- h2,Fh];exact q _ H (ai.refl _) rfl⟩)
 ·rename_i ks vs'
  obtain ⟨x,rfl,⟨p,xs,rfl,h1,h2,h3⟩⟩:=aJ r;cases e;exact .inr (.inr (.inl ⟨p,_,rfl,h1,by rw [E4,<- h2,Fh];exact q _ H (ai.refl _) rfl⟩))
 ·obtain ⟨x,rfl,⟨p,S,rfl,h1,h2⟩⟩:=aJ r
  split at e
  ·rename_i hl
   cases e;exact .inr (.inr (.inr ⟨p,S,_,rfl,(aw h1).2,DH hl,q _ H (ai.refl _) rfl⟩))
  ·cases e
 ·cases e
noncomputable def iY:List D->Option (D×Bool)
 | [.lst ds]=>match aT ds with
  | some ns=>some (.int ns.sum,false)
  | none=>none
 | [.tup ds]=>match aT ds with
  | some ns=>some (.int ns.sum,false)
  | none=>none
 | _=>none
theorem wV{X:Cx}(hc:X.calm=true):aH X (.builtin "sum") (fun xs H Q=>yl X.K xs H Q\/yk X.K xs H Q):=(wU hc).or (wT hc)
theorem os_sum{K:FZ}:OpS K (fun xs H Q=>yl K xs H Q\/yk K xs H Q) iY:=by
 intro vs ds H L Q d nw hm r e q;unfold iY at e
 split at e
 ·rename_i es
  obtain ⟨x,rfl,⟨p,xs,rfl,h1,h2⟩⟩:=aJ r
  cases en:aT es with
  | none=>rw [en] at e;cases e
  | some ns =>
   rw [en] at e;cases e;rw [bt en] at h2;rw [bd h2] at h1;exact .inl ⟨p,ns,rfl,.inl (.inl h1),q _ H (ai.refl _) rfl⟩
 ·rename_i es
  obtain ⟨x,rfl,⟨p,xs,rfl,h1,h2⟩⟩:=aJ r
  cases en:aT es with
  | none=>rw [en] at e;cases e
  | some ns =>
   rw [en] at e;cases e;rw [bt en] at h2;rw [bd h2] at h1;exact .inr ⟨p,ns,rfl,.inl (.inl (aw h1).2),q _ H (ai.refl _) rfl⟩
 ·cases e
noncomputable def ki:List D->Option (D×Bool)
 | [.lst ds]=>match ip ds with
  | some bs=>some (.bl (bs.all id),false)
  | none=>none
 | _=>none
noncomputable def CS(K:FZ):List V->Hp->VK->Prop:=fun xs H Q=>∃ (p:Addr) (bs:List Bool),xs=[V.ref p]/\SqL K H p (bs.map V.bl)/\Q (.bl (bs.all id)) H
theorem xo{X:Cx}(hc:X.calm=true):aH X (.builtin "all") (CS X.K):=Ap hc
theorem os_all{K:FZ}:OpS K (CS K) ki:=by
 intro vs ds H L Q d nw hm r e q;unfold ki at e
 split at e
 ·rename_i es
  obtain ⟨x,rfl,⟨p,xs,rfl,h1,h2⟩⟩:=aJ r
  cases en:ip es with
  | none=>rw [en] at e;cases e
  | some ns =>
   rw [en] at e;cases e;rw [tE en] at h2;rw [pp h2] at h1;exact ⟨p,ns,rfl,.inl (.inl h1),q _ H (ai.refl _) rfl⟩
 ·cases e
noncomputable def tyD:D->Option String
 | .non=>some "NoneType"
 | .bl _=>some "bool"
 | .int _=>some "int"
 | .str _=>some "str"
 | .lst _=>some "list"
 | .klst _=>some "list"
 | .tup _=>some "tuple"
 | .ktup _=>some "tuple"
 | .dK _ _=>some "dict"
 | .dT _ _=>some "dict"
 | _=>none
noncomputable def fZ(C:String):List D->Option (D×Bool)
 | [d]=>match tyD d with
  | some T=>some (.bl (BZ T C),false)
  | none=>none
 | _=>none
theorem xG{K:FZ}{H Hh:Hp}{d:D}{v:V}{T:String}(r:gb K H Hh d v)(s:ai Hh H)(e:tyD d=some T):C6 K H T v:=by
 cases d<;>first
  | (unfold tyD at e;cases e;done)
  | (unfold tyD at e;cases e;have r:v=_:=r;subst r;rfl)
  | (unfold tyD at e;cases e;obtain ⟨p,xs,rfl,h1,h2,h3⟩:=r;exact .inr (.inr ⟨rfl,.inl ⟨_,h1⟩⟩))
  | (unfold tyD at e;cases e;obtain ⟨p,xs,rfl,h1,h2,h3⟩:=r;exact .inr (.inr ⟨rfl,.inr ⟨_,h1⟩⟩))
  | (unfold tyD at e;cases e;obtain ⟨p,xs,rfl,h1,h2⟩:=r;exact .inr (.inl ⟨rfl,xs,.inl (.inl (s _ _ h1))⟩))
  | (unfold tyD at e;cases e;obtain ⟨p,xs,rfl,h1,h2⟩:=r;exact .inr (.inl ⟨rfl,xs,eX h1⟩))
  | (unfold tyD at e;cases e;obtain ⟨p,xs,rfl,h1,h2⟩:=r;exact .inl ⟨rfl,xs,.inl (.inl h1)⟩)
  | (unfold tyD at e;cases e;obtain ⟨p,xs,rfl,h1,h2⟩:=r;exact .inl ⟨rfl,xs,s.seq h1⟩)
noncomputable def rIsiC(K:FZ)(C:String):List V->Hp->VK->Prop
 | [x],H,Q=>rIsi K [x,.ty C] H Q
 | _,_,_=>False
theorem os_isi{K:FZ}{C:String}(hC:isiC C):OpS K (rIsiC K C) (fZ C):=by
 intro vs ds H L Q d nw hm r e q;unfold fZ at e
 split at e
 ·rename_i c
  obtain ⟨x,rfl,ra⟩:=aJ r
  cases et:tyD c with
  | none=>rw [et] at e;cases e
  | some T =>
   rw [et] at e;cases e;exact ⟨x,T,C,rfl,hC,xG ra ay et,q _ H (ai.refl _) rfl⟩
 ·cases e
theorem vR{X:Cx}{EX:EXT}{e:Expr}{a:Arg}{C:String}{nC:Str}{p1 p2 pos:Pos}(hC:isiC C)(he:JB X EX e a)(g1:Gl X "isinstance")(m1:X.mg "isinstance" = none)(g2:Gl X nC)(m2:X.mg nC=none)(b2:bootBuiltins nC=some (.type C))
 (hn:nC ≠ "__name__" := by decide) (hdb:(nC == ("__debug__" : Str))=false:=by decide)
 (hs:starEach [e,.Name nC p1] X.env=(false,eval e X.env)::starEach [.Name nC p1] X.env:=by rfl):JE X EX (.Call (.Name "isinstance" p2) [e,.Name nC p1] [] pos) (sOp (fZ C) [a]) :=
 ⟨(jt Ao g1 m1 boot_isinstance (aA he.p (aA (vy (v:= .ty C) g2 m2 b2 rfl hn hdb) ck) hs) (he:=hs)).by fun σ H Q ⟨F,ρ,W,R,h⟩=>cD (os_isi hC) R h⟩
noncomputable def B8:List D->Option (D×Bool)
 | [.int a,.int b]=>some (.int (if b > a then b else a),false)
 | [.lst ds]=>match aT ds with
  | some (n::ns)=>some (.int (jy (n::ns)),false)
  | _=>none
 | _=>none
noncomputable def gMin:List D->Option (D×Bool)
 | [.int a,.int b]=>some (.int (if b < a then b else a),false)
 | [.lst ds]=>match aT ds with
  | some (n::ns)=>some (.int (kb (n::ns)),false)
  | _=>none
 | _=>none
noncomputable def vn:List V->Hp->VK->Prop:=fun xs H Q=>∃ i j,xs=[.int i,.int j]/\Q (.int (if j > i then j else i)) H
noncomputable def vm:List V->Hp->VK->Prop:=fun xs H Q=>∃ i j,xs=[.int i,.int j]/\Q (.int (if j < i then j else i)) H
theorem xh{X:Cx}(hc:X.calm=true):aH X (.builtin "max") (fun xs H Q=>vn xs H Q\/rT X.K xs H Q):=(xi hc).or (xc hc)
theorem w8{X:Cx}(hc:X.calm=true):aH X (.builtin "min") (fun xs H Q=>vm xs H Q\/rR X.K xs H Q):=(xa hc).or (wY hc)
theorem nM{M N:Int}{l:List Int}(h1:M∈l)(h2:∀ a∈l,a<=M)(h3:N∈l)(h4:∀ a∈l,a<=N):M=N:=by have:=h2 N h3;have:=h4 M h1;omega
theorem mW{M N:Int}{l:List Int}(h1:M∈l)(h2:∀ a∈l,M<=a)(h3:N∈l)(h4:∀ a∈l,N<=a):M=N:=by have:=h2 N h3;have:=h4 M h1;omega
theorem os_max{K:FZ}:OpS K (fun xs H Q=>vn xs H Q\/rT K xs H Q) B8:=by
 intro vs ds H L Q d nw hm r e q;unfold B8 at e
 split at e
 ·obtain ⟨x,y,rfl,ra,rb⟩:=aQ r
  cases e;exact .inl ⟨_,_,by rw [cj ra,cj rb],q _ H (ai.refl _) rfl⟩
 ·rename_i es
  obtain ⟨x,rfl,⟨p,xs,rfl,h1,h2⟩⟩:=aJ r
  split at e
  ·rename_i n ns en
   cases e;rw [bt en] at h2;rw [bd h2] at h1;refine .inr ⟨p,n::ns,rfl,.inl (.inl h1),by simp,fun M m1 m2=> ?_⟩;obtain ⟨z1,z2⟩:=jx (l:=n::ns) (by simp);rw [nM m1 m2 z1 z2];exact q _ H (ai.refl _) rfl
  ·cases e
 ·cases e
theorem os_min{K:FZ}:OpS K (fun xs H Q=>vm xs H Q\/rR K xs H Q) gMin:=by
 intro vs ds H L Q d nw hm r e q;unfold gMin at e
 split at e
 ·obtain ⟨x,y,rfl,ra,rb⟩:=aQ r
  cases e;exact .inl ⟨_,_,by rw [cj ra,cj rb],q _ H (ai.refl _) rfl⟩
 ·rename_i es
  obtain ⟨x,rfl,⟨p,xs,rfl,h1,h2⟩⟩:=aJ r
  split at e
  ·rename_i n ns en
   cases e;rw [bt en] at h2;rw [bd h2] at h1;refine .inr ⟨p,n::ns,rfl,.inl (.inl h1),by simp,fun M m1 m2=> ?_⟩;obtain ⟨z1,z2⟩:=jw (l:=n::ns) (by simp);rw [mW m1 m2 z1 z2];exact q _ H (ai.refl _) rfl
  ·cases e
 ·cases e
noncomputable def fM:List D->Option (D×Bool)
 | [.lst ds]=>match aT ds with
  | some ns=>if decide (ns.length < 64)=true then some (.lst ((eY ns).map D.int),true) else none
  | none=>none
 | [.tup ds]=>match aT ds with
  | some ns=>if decide (ns.length < 64)=true then some (.lst ((eY ns).map D.int),true) else none
  | none=>none
 | _=>none
theorem qO{X:Cx}:aH X (.builtin "sorted") (fun xs H Q=>iN X.K xs H Q\/iM X.K xs H Q):=qM.or qL
theorem wr{K:FZ}:OpS K (fun xs H Q=>iN K xs H Q\/iM K xs H Q) fM:=by
 intro vs ds H L Q d nw hm r e q;unfold fM at e
 have fin:∀ (ns:List Int) l (ms:List Int),H l=none->List.Perm ms ns->ms.Pairwise (·<= ·)->(∀ v H',ai H H'->gU K H H' L (.lst ((eY ns).map D.int)) true v->Q v H')->Q (.ref l) (upd H l (.lst (ms.map V.int))):=fun ns l ms hl hp hs q=>by
  have:ms=eY ns:=bB hs (fK ns) (hp.trans (iW ns).symm);subst this;exact q _ _ (ai.upd hl) (cE (dv _) hl)
 split at e
 ·rename_i es
  obtain ⟨x,rfl,⟨p,xs,rfl,h1,h2⟩⟩:=aJ r
  cases en:aT es with
  | none=>rw [en] at e;cases e
  | some ns =>
   rw [en] at e;dsimp only at e
   split at e
   ·rename_i hl
    cases e;rw [bt en] at h2;rw [bd h2] at h1;exact .inl ⟨p,ns,rfl,.inl (.inl h1),DH hl,fun l ms a b c=>fin ns l ms a b c q⟩
   ·cases e
 ·rename_i es
  obtain ⟨x,rfl,⟨p,xs,rfl,h1,h2⟩⟩:=aJ r
  cases en:aT es with
  | none=>rw [en] at e;cases e
  | some ns =>
   rw [en] at e;dsimp only at e
   split at e
   ·rename_i hl
    cases e;rw [bt en] at h2;rw [bd h2] at h1;exact .inr ⟨p,ns,rfl,.inl (.inl (aw h1).2),DH hl,fun l ms a b c=>fin ns l ms a b c q⟩
   ·cases e
 ·cases e
noncomputable def gq(lo:Int)(n:Nat):List D:=(List.range n).map fun k=> .int (lo+(k:Nat))
noncomputable def rngV(lo:Int)(n:Nat):List V:=(List.range n).map fun k=> .int (lo+(k:Nat))
theorem rJ{K:FZ}{H:Hp}(lo:Int)(n:Nat):ak K H (gq lo n) (rngV lo n):=by
 have:=dv (K:=K) (H:=H) ((List.range n).map fun k=>lo+((k:Nat):Int));rw [Eb,Eb] at this;exact this
noncomputable def rH(lo hi:Int):Bool:=decide (-1000000000<=lo/\lo<=1000000000 /\ -1000000000<=hi/\hi<=1000000000/\(hi - lo).toNat<=1000)
noncomputable def zQ:List D->Option (D×Bool)
 | [.lst ds]=>some (.lst ds,true)
 | [.tup ds]=>some (.lst ds,true)
 | [.ktup ds]=>some (.lst ds,true)
 | [.rng lo hi]=>if rH lo hi=true then some (.lst (gq lo (hi - lo).toNat),true) else none
 | _=>none
noncomputable def dL:List D->Option (D×Bool)
 | [.lst ds]=>some (.tup ds,false)
 | [.tup ds]=>some (.tup ds,false)
 | [.rng lo hi]=>if rH lo hi=true then some (.tup (gq lo (hi - lo).toNat),false) else none
 | _=>none
noncomputable def lB(K:FZ):List V->Hp->VK->Prop:=fun xs H Q=>∃ p ys,xs=[.ref p]/\(SqL K H p ys\/SqT K H p ys)/\∀ l,H l=none->Q (.ref l) (upd H l (.lst ys))
noncomputable def rQ(K:FZ):List V->Hp->VK->Prop:=fun xs H Q=>∃ p ys,xs=[.ref p]/\((SqL K H p ys/\∀ l,H l=none->Q (.ref l) (upd H l (.tup ys)))\/(SqT K H p ys/\Q (.ref p) H))
theorem uN{X:Cx}(hc:X.calm=true):aH X (.type "list") (fun xs H Q=>lB X.K xs H Q\/mq xs H Q):=qP.or (uM hc)
theorem sZ{X:Cx}(hc:X.calm=true):aH X (.type "tuple") (fun xs H Q=>rQ X.K xs H Q\/yj xs H Q):=oz.or (wS hc)
theorem BG{K:FZ}:OpS K (fun xs H Q=>lB K xs H Q\/mq xs H Q) zQ:=by
 intro vs ds H L Q d nw hm r e q;unfold zQ at e
 split at e
 ·obtain ⟨x,rfl,⟨p,xs,rfl,h1,h2⟩⟩:=aJ r
  cases e;exact .inl ⟨p,xs,rfl,.inl (.inl (.inl h1)),fun l hl=>q _ _ (ai.upd hl) (cE h2 hl)⟩
 ·obtain ⟨x,rfl,⟨p,xs,rfl,h1,h2⟩⟩:=aJ r
  cases e;exact .inl ⟨p,xs,rfl,.inr (.inl (.inl (aw h1).2)),fun l hl=>q _ _ (ai.upd hl) (cE h2 hl)⟩
 ·obtain ⟨x,rfl,⟨p,xs,rfl,h1,h2⟩⟩:=aJ r
  cases e;exact .inl ⟨p,xs,rfl,.inr (eX h1),fun l hl=>q _ _ (ai.upd hl) (cE h2 hl)⟩
 ·rename_i lo hi
  obtain ⟨x,rfl,⟨p,rfl,h1⟩⟩:=aJ r
  split at e
  ·rename_i hk
   cases e;have hk:=DH hk;exact .inr ⟨p,lo,hi,rfl,(aw h1).2,by omega,by omega,by omega,by omega,hk.2.2.2.2,fun l hl=>q _ _ (ai.upd hl) (cE (rJ _ _) hl)⟩
  ·cases e
 ·cases e
theorem yM{K:FZ}:OpS K (fun xs H Q=>rQ K xs H Q\/yj xs H Q) dL:=by
 intro vs ds H L Q d nw hm r e q;unfold dL at e
 split at e
 ·obtain ⟨x,rfl,⟨p,xs,rfl,h1,h2⟩⟩:=aJ r
  cases e;exact .inl ⟨p,xs,rfl,.inl ⟨.inl (.inl h1),fun l hl=>q _ _ (ai.upd hl) (gZ hm h2 (ai.upd hl) ao)⟩⟩
 ·obtain ⟨x,rfl,⟨p,xs,rfl,h1,h2⟩⟩:=aJ r
  cases e;exact .inl ⟨p,xs,rfl,.inr ⟨.inl (.inl (aw h1).2),q _ _ (ai.refl _) ⟨p,xs,rfl,h1,h2⟩⟩⟩
 ·rename_i lo hi
  obtain ⟨x,rfl,⟨p,rfl,h1⟩⟩:=aJ r
  split at e
  ·rename_i hk
   cases e;have hk:=DH hk;exact .inr ⟨p,lo,hi,rfl,(aw h1).2,by omega,by omega,by omega,by omega,hk.2.2.2.2,fun l hl=>q _ _ (ai.upd hl) (gZ hm (rJ _ _) (ai.upd hl) ao)⟩
  ·cases e
 ·cases e
noncomputable def wJ:List D->Option (D×Bool)
 | [.lst ds]=>match aT ds with
  | some ns=>if decide (ns.length<=1000)=true then some (.set (dd ns),false) else none
  | none=>none
 | [.tup ds]=>match aT ds with
  | some ns=>if decide (ns.length<=1000)=true then some (.set (dd ns),false) else none
  | none=>none
 | _=>none
theorem wW{X:Cx}(hc:X.calm=true):aH X (.type "set") (fun xs H Q=>ua X.K xs H Q\/t9 X.K xs H Q):=(uK hc).or (uJ hc)
theorem iS{K:FZ}{H:Hp}{L:List Addr}{p:Addr}{o:HO}(hm:∀ p∈L,eL (H p))(hp:H p=none):hid L (upd H p o) p=some o:=by
 rw [aI (fun z=>by have:=hm p z;rw [hp] at this;exact this)];exact ao
theorem os_set{K:FZ}:OpS K (fun xs H Q=>ua K xs H Q\/t9 K xs H Q) wJ:=by
 intro vs ds H L Q d nw hm r e q;unfold wJ at e
 have fin:∀ (ns:List Int) l (S:Int->Bool),H l=none->(∀ x,S x=true↔x∈ns)->(∀ v H',ai H H'->gU K H H' L (.set (dd ns)) false v->Q v H')->Q (.ref l) (upd H l (.set S (St2.eI ns ns.length).length)):=fun ns l S hl hS q=>by
  rw [sk];exact q _ _ (ai.upd hl) ⟨l,S,rfl,iS (K:=K) hm hl,fun x=>(hS x).trans (dd_mem ns x).symm⟩
 split at e
 ·rename_i es
  obtain ⟨x,rfl,⟨p,xs,rfl,h1,h2⟩⟩:=aJ r
  cases en:aT es with
  | none=>rw [en] at e;cases e
  | some ns =>
   rw [en] at e;dsimp only at e
   split at e
   ·rename_i hl
    cases e;rw [bt en] at h2;rw [bd h2] at h1;exact .inl ⟨p,ns,rfl,.inl (.inl h1),DH hl,fun l S a b=>fin ns l S a b q⟩
   ·cases e
 ·rename_i es
  obtain ⟨x,rfl,⟨p,xs,rfl,h1,h2⟩⟩:=aJ r
  cases en:aT es with
  | none=>rw [en] at e;cases e
  | some ns =>
   rw [en] at e;dsimp only at e
   split at e
   ·rename_i hl
    cases e;rw [bt en] at h2;rw [bd h2] at h1;exact .inr ⟨p,ns,rfl,.inl (.inl (aw h1).2),DH hl,fun l S a b=>fin ns l S a b q⟩
   ·cases e
 ·cases e
noncomputable def uw:List D->Option (D×Bool)
 | [.int i]=>some (.int i,false)
 | [.bl b]=>some (.int (if b then 1 else 0),false)
 | _=>none
noncomputable def CP:List V->Hp->VK->Prop:=fun xs H Q=>(∃ i,xs=[.int i]/\Q (.int i) H)\/∃ k,xs=[.bl k]/\Q (.int (if k then 1 else 0)) H
theorem xm{X:Cx}:aH X (.type "int") CP:=xn
theorem os_int{K:FZ}:OpS K CP uw:=by
 intro vs ds H L Q d nw hm r e q;unfold uw at e
 split at e
 ·obtain ⟨x,rfl,ra⟩:=aJ r
  cases e;exact .inl ⟨_,by rw [cj ra],q _ H (ai.refl _) rfl⟩
 ·obtain ⟨x,rfl,ra⟩:=aJ r
  cases e;exact .inr ⟨_,by rw [A9 ra],q _ H (ai.refl _) rfl⟩
 ·cases e
noncomputable def nk:List D->Option (D×Bool)
 | [.int j]=>some (.rng 0 j,false)
 | [.int i,.int j]=>some (.rng i j,false)
 | _=>none
noncomputable def CM:List V->Hp->VK->Prop:=fun xs H Q=>(∃ j:Int,xs=[V.int j]/\∀ l,H l=none->Q (.ref l) (upd H l (.rng 0 j)))\/(∃ i j:Int,xs=[V.int i,V.int j]/\∀ l,H l=none->Q (.ref l) (upd H l (.rng i j)))
theorem tf{X:Cx}:aH X (.type "range") CM:=An
theorem yQ{K:FZ}:OpS K CM nk:=by
 intro vs ds H L Q d nw hm r e q;unfold nk at e
 split at e
 ·obtain ⟨x,rfl,ra⟩:=aJ r
  cases e;exact .inl ⟨_,by rw [cj ra],fun l hl=>q _ _ (ai.upd hl) ⟨l,rfl,iS (K:=K) hm hl⟩⟩
 ·obtain ⟨x,y,rfl,ra,rb⟩:=aQ r
  cases e;exact .inr ⟨_,_,by rw [cj ra,cj rb],fun l hl=>q _ _ (ai.upd hl) ⟨l,rfl,iS (K:=K) hm hl⟩⟩
 ·cases e
noncomputable def fv:D->Option Key
 | .int i=>some (.inl i)
 | .str x=>some (.inr x)
 | _=>none
noncomputable def gF:List D->Option (List Key)
 | []=>some []
 | d::ds=>match fv d,gF ds with
  | some k,some l=>some (k::l)
  | _,_=>none
theorem hX{K:FZ}{H:Hp}{d:D}{v:V}{k:Key}(e:fv d=some k)(r:aF K H d v):v=kV k:=by
 cases d<;>first | (unfold fv at e;cases e;done) | (unfold fv at e;cases e;exact r)
theorem fJ{K:FZ}{H:Hp}:∀ {ds:List D} {xs:List V} {k:List Key},gF ds=some k->ak K H ds xs->xs=k.map kV
 | [],[],k,e,_=>by unfold gF at e;cases e;rfl
 | d::ds,x::xs,k,e,h=>by
  unfold gF at e
  cases e1:fv d with
  | none=>rw [e1] at e;cases e
  | some k1 =>
   cases e2:gF ds with
   | none=>rw [e1,e2] at e;cases e
   | some l =>
    rw [e1,e2] at e;cases e;rw [hX e1 h.1,fJ e2 h.2];rfl
 | [],_::_,_,_,h=>h.elim
 | _::_,[],_,_,h=>h.elim
section
variable{κ:Type}[DecidableEq κ]
noncomputable def bQ:List κ->List D->κ->Option D
 | k::ks,d::ds,x=>if k=x then some d else bQ ks ds x
 | _,_,_=>none
noncomputable def j0:List κ->List D->κ->D->List κ×List D
 | k::ks,d::ds,x,y=>if k=x then (k::ks,y::ds) else ((k::(j0 ks ds x y).1),d::(j0 ks ds x y).2)
 | _,_,x,y=>([x],[y])
theorem fu{K:FZ}{H:Hp}:∀ {ks:List κ} {ds:List D} {xs:List V} {x:κ},ks.length=xs.length->ak K H ds xs ->
 (∀ d,bQ ks ds x=some d->∃ v,dY (ks.zip xs) x=some v/\aF K H d v)/\(bQ ks ds x=none->dY (ks.zip xs) x=none)
 | [],[],[],_,_,_=>⟨fun d h=>(by unfold bQ at h;cases h),fun _=>rfl⟩
 | k::ks,d::ds,y::xs,x,hl,h=>by
  obtain ⟨i1,i2⟩:=fu (x:=x) (Nat.succ.inj hl) h.2;have hl:ks.length=xs.length:=Nat.succ.inj hl;rw [FA]
  by_cases e:k=x
  ·rw [je (p:=(k,y)) e]
   refine ⟨fun d' hd=> ?_,fun hd=> ?_⟩
   ·unfold bQ at hd;rw [if_pos e] at hd;cases hd;exact ⟨y,rfl,h.1⟩
   ·unfold bQ at hd;rw [if_pos e] at hd;cases hd
  ·rw [jf (p:=(k,y)) e]
   refine ⟨fun d' hd=> ?_,fun hd=> ?_⟩
   ·unfold bQ at hd;rw [if_neg e] at hd;exact i1 d' hd
   ·unfold bQ at hd;rw [if_neg e] at hd;exact i2 hd
 | [],_::_,[],_,_,h=>h.elim
 | [],[],_::_,_,_,h=>h.elim
 | [],_::_,_::_,_,hl,_=>by simp at hl
 | _::_,[],[],_,hl,_=>by simp at hl
 | _::_,[],_::_,_,_,h=>h.elim
 | _::_,_::_,[],_,_,h=>h.elim
noncomputable def jq:List κ->List V->κ->V->List κ×List V
 | k::ks,d::ds,x,y=>if k=x then (k::ks,y::ds) else ((k::(jq ks ds x y).1),d::(jq ks ds x y).2)
 | _,_,x,y=>([x],[y])
theorem mw{K:FZ}{H:Hp}{d:D}{v:V}(r:aF K H d v):∀ {ks:List κ} {ds:List D} {xs:List V} {x:κ},ks.length=xs.length->ak K H ds xs ->
 (jq ks xs x v).1=(j0 ks ds x d).1/\ak K H (j0 ks ds x d).2 (jq ks xs x v).2/\(jq ks xs x v).1.length=(jq ks xs x v).2.length
 | [],[],[],_,_,_=>⟨rfl,⟨r,trivial⟩,rfl⟩
 | k::ks,e::ds,y::xs,x,hl,h=>by
  obtain ⟨i1,i2,i3⟩:=mw (x:=x) r (Nat.succ.inj hl) h.2;unfold jq j0;have hl:ks.length=xs.length:=Nat.succ.inj hl
  by_cases z:k=x
  ·rw [if_pos z,if_pos z]
   exact ⟨rfl,⟨r,h.2⟩,by simp [hl]⟩
  ·rw [if_neg z,if_neg z]
   exact ⟨by show k::_=k::_;rw [i1],⟨h.1,i2⟩,by show (k::_).length=(y::_).length;rw [Dq,Dq,i3]⟩
 | [],_::_,[],_,_,h=>h.elim
 | [],[],_::_,_,_,h=>h.elim
 | [],_::_,_::_,_,hl,_=>by simp at hl
 | _::_,[],[],_,hl,_=>by simp at hl
 | _::_,[],_::_,_,_,h=>h.elim
 | _::_,_::_,[],_,_,h=>h.elim
theorem mr{v:V}:∀ {ks:List κ} {xs:List V} {x:κ},ks.length=xs.length->ks.Nodup->(jq ks xs x v).1.zip (jq ks xs x v).2=eN (ks.zip xs) x v
 | [],[],x,_,_=>rfl
 | k::ks,y::xs,x,hl,nd=>by
  have hl:ks.length=xs.length:=Nat.succ.inj hl;have nd:=Er.mp nd;have ih:=mr (v:=v) (x:=x) hl nd.2;unfold jq;rw [FA]
  by_cases z:k=x
  ·rw [if_pos z,FA]
   unfold eN;rw [if_pos (by simp [z]),DE,if_pos z]
   congr 1
   symm
   have:∀ p∈ks.zip xs,(if p.1=x then (p.1,v) else p)=p:=fun p hp=>by
    rw [if_neg (fun e=>nd.1 (by rw [z,<- e];exact (FQ (show (p.1,p.2)∈_ from hp)).1))]
   exact (Ed this).trans (List.map_id' _)
  ·rw [if_neg z]
   show ((k,y)::(jq ks xs x v).1.zip (jq ks xs x v).2)=_
   rw [ih];unfold eN
   have:(((k,y)::ks.zip xs).any fun kv=>decide (kv.1=x))=(ks.zip xs).any fun kv=>decide (kv.1=x):=by rw [List.any_cons];simp [z]
   rw [this]
   split
   ·rw [DE,if_neg z]
   ·rfl
 | [],_::_,_,hl,_=>by simp at hl
 | _::_,[],_,hl,_=>by simp at hl
end
noncomputable def kM(ds:List D)(d:D):Bool:=ds.any fun e=>eqD e d
noncomputable def gInD:D->D->Option Bool
 | d,.lst ds=>if (aj 9 d&&ds.all (aj 9))=true then some (kM ds d) else none
 | d,.tup ds=>if (aj 9 d&&ds.all (aj 9))=true then some (kM ds d) else none
 | d,.ktup ds=>if (aj 9 d&&ds.all (aj 9))=true then some (kM ds d) else none
 | .int i,.rng lo hi=>some (decide (lo<=i/\i < hi))
 | d,.dK ks vs=>match fv d with
  | some k=>some (bQ ks vs k).isSome
  | none=>none
 | .tup ds,.dT ks vs=>match gF ds with
  | some k=>some (bQ ks vs k).isSome
  | none=>none
 | _,_=>none
noncomputable def gIn:List D->Option (D×Bool)
 | [d,c]=>match gInD d c with
  | some b=>some (.bl b,false)
  | none=>none
 | _=>none
noncomputable def rInS(K:FZ)(neg:Bool):R2:=fun x y H Q=>∃ (d:D) (p:Addr) (xs:List V) (ds:List D),y = .ref p/\(SqL K H p xs\/SqT K H p xs)/\ak K H ds xs/\ds.all (aj 9)=true/\aF K H d x/\aj 9 d=true/\Q (.bl (if neg then !kM ds d else kM ds d)) H
noncomputable def CQ(neg:Bool):R2:=fun y x H Q=>∃ a o,x = .ref a/\jU H a y o/\Q (.bl (if neg then !o.isSome else o.isSome)) H
noncomputable def Bo(K:FZ)(neg:Bool):R2:=fun x y H Q=>rInS K neg x y H Q\/rInR neg x y H Q\/CQ neg x y H Q
section
variable{X:Cx}
open Classical in
theorem sx{pins:List (Addr×Obj)}{σ:St}{H:Hp}{s:Shared}(I:Inv X pins σ H s)(hu:X.A.units+10 < cLine){d:D}{ds:List D}{x:V}{u:Value}{xs:List V}{its:List Value}(rd:ak X.K H ds xs)(rv:aC xs its)(hds:ds.all (aj 9)=true)(r:aF X.K H d x)(hd:aj 9 d=true)(ru:aG x u) :
 ∃ e:Value->Bool,(∀ y,y∈its.toArray->SeqAt.EqAt X.A.in1 s y u (e y))/\its.toArray.any e=kM ds d:=by
 refine ⟨fun y=>decide (∃ (j:Nat) (d':D),ds[j]?=some d'/\its[j]?=some y/\eqD d' d=true),fun y hy=> ?_,?_⟩
 ·have hy:y∈its:=by simpa using hy
  obtain ⟨j,hj,rfl⟩:=E2.mp hy;obtain ⟨v,ev,rv1⟩:=be rv hj;obtain ⟨d',e1,q1⟩:=rd.get' ev;have hd':=DJ.mp hds _ (DD e1);have z:=uC I 9 (A:=X.A.in1) (by show X.A.units+1+9 < cLine;omega) hd' hd q1 r rv1 ru
  have e:decide (∃ (j':Nat) (d':D),ds[j']?=some d'/\its[j']?=some its[j]/\eqD d' d=true)=eqD d' d:=by
   cases hq:eqD d' d with
   | true=>exact DF ⟨j,d',e1,Dm hj,hq⟩
   | false =>
    refine DO fun hZ=> ?_
    obtain ⟨j2,d2,g1,g2,g3⟩:=hZ;obtain ⟨hj2,g2'⟩:=DA.mp g2;obtain ⟨v2,ev2,rv2⟩:=be rv hj2;rw [g2'] at rv2;have:v2=v:=rv2.inj rv1;subst this;obtain ⟨d3,e3,q3⟩:=rd.get' ev2;rw [g1] at e3;cases e3;have hn:=gt I 9 9 (DJ.mp hds _ (DD g1)) hd' q3 q1 rv1;unfold eqD at g3 hq;rw [hn,hq] at g3;cases g3
  dsimp only;rw [e];exact z
 ·rw [E6]
  unfold kM;simp only [List.any_toArray,List.any_eq_true]
  constructor
  ·rintro ⟨y,hy,hq⟩
   obtain ⟨j,d',g1,g2,g3⟩:=DH hq;exact ⟨d',DD g1,g3⟩
  ·rintro ⟨d',hd',hq⟩
   obtain ⟨j,hj,rfl⟩:=E2.mp hd'
   have hji:j < its.length:=by rw [<- rv.length,<- rd.len];exact hj
   exact ⟨its[j],EJ hji,DF ⟨j,_,Dm hj,Dm hji,hq⟩⟩
theorem op_inS(hu:X.A.units+10 < cLine):OpR X (compareOp .In) (rInS X.K false):=by
 intro pins s σ H x y v u Q I rx ry h;obtain ⟨d,p,xs,ds,rfl,hq,rd,hds,r,hd,q⟩:=h;cases ry
 rcases hq with hq | hq
 ·obtain ⟨its,rv,pl,_⟩:=I.list hq
  obtain ⟨e,he,ee⟩:=sx I hu rd rv hds r hd rx;refine SeqAt.in_listAt e pl.isList he ⟨.bl _,H,I,rfl,?_⟩;rw [ee];exact q
 ·obtain ⟨its,rv,pl,_⟩:=I.tuple hq
  obtain ⟨e,he,ee⟩:=sx I hu rd rv hds r hd rx;refine SeqAt.in_tupleAt e (show s.heap.IsTuple p its.toArray from pl) he ⟨.bl _,H,I,rfl,?_⟩;rw [ee];exact q
theorem BJ(hu:X.A.units+1 < cLine):OpR X (compareOp .In) (CQ false):=by
 intro pins s σ H y x u v Q I ry rx h;obtain ⟨a,o,rfl,g,q⟩:=h;cases rx
 exact d_in hu I g ry fun s3 I3=>⟨.bl o.isSome,H,I3,rfl,q⟩
theorem yW(hu:X.A.units+10 < cLine):OpR X (compareOp .In) (Bo X.K false):=(op_inS hu).or (op_inR.or (BJ (by omega)))
end
section
variable{K:FZ}
theorem Aj{H Hh:Hp}{p:Addr}{ks:List Key}{ds:List D}{xs:List V}{k:Key}{y:V}(h1:H p=some (.dK (ks.zip xs)))(hl:ks.length=xs.length)(h2:ak K Hh ds xs)(hy:y=kV k) :
 ∃ o,jU H p y o/\o.isSome=(bQ ks ds k).isSome/\∀ d,bQ ks ds k=some d->∃ v,o=some v/\aF K Hh d v:=by
 subst hy;obtain ⟨i1,i2⟩:=fu (x:=k) hl h2;refine ⟨_,jU.k (k:=k) h1,?_,fun d hd=>i1 d hd⟩
 cases e:bQ ks ds k with
 | none=>rw [i2 e];rfl
 | some d=>obtain ⟨v,e1,_⟩:=i1 d e;rw [e1];rfl
theorem Ai{H Hh:Hp}{p b:Addr}{ks:List (List Key)}{ds:List D}{xs:List V}{k:List Key}(h1:H p=some (.dT (ks.zip xs)))(hl:ks.length=xs.length)(h2:ak K Hh ds xs)(hb:H b=some (.tup (k.map kV))) :
 ∃ o,jU H p (.ref b) o/\o.isSome=(bQ ks ds k).isSome/\∀ d,bQ ks ds k=some d->∃ v,o=some v/\aF K Hh d v:=by
 obtain ⟨i1,i2⟩:=fu (x:=k) hl h2;refine ⟨_,jU.t (k:=k) h1 hb,?_,fun d hd=>i1 d hd⟩
 cases e:bQ ks ds k with
 | none=>rw [i2 e];rfl
 | some d=>obtain ⟨v,e1,_⟩:=i1 d e;rw [e1];rfl
theorem in_of{H:Hp}{L:List Addr}{d c:D}{x y:V}{b neg:Bool}{Q:VK}(ra:gb K H (hid L H) d x)(rb:gb K H (hid L H) c y)(e:gInD d c=some b)(q:Q (.bl (if neg then !b else b)) H):Bo K neg x y H Q:=by
 have seq:∀ (p:Addr) (xs:List V) (ds:List D),y = .ref p->(SqL K H p xs\/SqT K H p xs)->ak K (hid L H) ds xs->(if (aj 9 d&&ds.all (aj 9))=true then some (kM ds d) else none)=some b->Bo K neg x y H Q:=fun p xs ds hy hs hr e=>by
  split at e
  ·rename_i hc
   have hc:=(DK _ _).mp hc;cases e;exact .inl ⟨d,p,xs,ds,hy,hs,ay.repDs hr,hc.2,ra.d ay,hc.1,q⟩
  ·cases e
 unfold gInD at e
 split at e
 ·obtain ⟨p,xs,rfl,h1,h2⟩:=rb
  exact seq p xs _ rfl (.inl (.inl (.inl h1))) h2 e
 ·obtain ⟨p,xs,rfl,h1,h2⟩:=rb
  exact seq p xs _ rfl (.inr (.inl (.inl (aw h1).2))) h2 e
 ·obtain ⟨p,xs,rfl,h1,h2⟩:=rb
  exact seq p xs _ rfl (.inr (eX h1)) h2 e
 ·obtain ⟨p,rfl,h1⟩:=rb
  cases e;exact .inr (.inl ⟨p,_,_,_,ra,rfl,(aw h1).2,q⟩)
 ·obtain ⟨p,xs,rfl,h1,h2,h3⟩:=rb
  split at e
  ·rename_i k ek
   cases e;obtain ⟨o,g1,g2,_⟩:=Aj (k:=k) h1 h2 h3 (hX ek (ra.d ay));exact .inr (.inr ⟨p,o,rfl,g1,by rw [g2];exact q⟩)
  ·cases e
 ·obtain ⟨p,xs,rfl,h1,h2,h3⟩:=rb
  obtain ⟨b',ys,rfl,h4,h5⟩:=ra
  split at e
  ·rename_i k ek
   cases e;have h4:=(aw h4).2;rw [fJ ek h5] at h4;obtain ⟨o,g1,g2,_⟩:=Ai (k:=k) h1 h2 h3 h4;exact .inr (.inr ⟨p,o,rfl,g1,by rw [g2];exact q⟩)
  ·cases e
 ·cases e
theorem CY:OpS K (r2 (Bo K false)) gIn:=by
 intro vs ds H L Q d nw hm r e q;unfold gIn at e
 split at e
 ·obtain ⟨x,y,rfl,ra,rb⟩:=aQ r
  split at e
  ·rename_i b eb
   cases e;exact in_of ra rb eb (q _ H (ai.refl _) rfl)
  ·cases e
 ·cases e
end
noncomputable def sK:List D->Option (D×Bool)
 | [.dK ks vs,k]=>match fv k with
  | some k=>match bQ ks vs k with
   | some d=>some (d,false)
   | none=>none
  | none=>none
 | [.dT ks vs,.tup l]=>match gF l with
  | some k=>match bQ ks vs k with
   | some d=>some (d,false)
   | none=>none
  | none=>none
 | _=>none
noncomputable def rDGet:R2:=fun x y H Q=>∃ a v,x = .ref a/\jU H a y (some v)/\Q v H
theorem c_dget{X:Cx}{EX:EXT}{o i:Expr}{a b:Arg}{pos:Pos}(hu:X.A.units+1 < cLine)(ho:JB X EX o a)(hi:JB X EX i b)(hs:AC i:=by exact fun _ _=>rfl):JE X EX (.Subscript o i pos) (sOp sK [a,b]) :=
 ⟨(BA hu ho.p hi.p hs).by fun σ H Q ⟨F,ρ,W,R,h⟩=>by
   have os:OpS X.K (r2 rDGet) sK:=by
    intro vs ds H L Q d nw hm r e q;unfold sK at e
    split at e
    ·obtain ⟨x,y,rfl,⟨p,xs,rfl,h1,h2,h3⟩,rb⟩:=aQ r
     split at e
     ·rename_i k ek
      split at e
      ·rename_i d' ed
       cases e;obtain ⟨o,g1,_,g3⟩:=Aj (k:=k) h1 h2 h3 (hX ek (rb.d ay));obtain ⟨v,rfl,rv⟩:=g3 _ ed;exact ⟨p,v,rfl,g1,q v H (ai.refl _) rv⟩
      ·cases e
     ·cases e
    ·obtain ⟨x,y,rfl,⟨p,xs,rfl,h1,h2,h3⟩,⟨b',ys,rfl,h4,h5⟩⟩:=aQ r
     split at e
     ·rename_i k ek
      split at e
      ·rename_i d' ed
       cases e;have h4:=(aw h4).2;rw [fJ ek h5] at h4;obtain ⟨o,g1,_,g3⟩:=Ai (k:=k) h1 h2 h3 h4;obtain ⟨v,rfl,rv⟩:=g3 _ ed;exact ⟨p,v,rfl,g1,q v H (ai.refl _) rv⟩
      ·cases e
     ·cases e
    ·cases e
   exact cD os R h⟩
noncomputable def bU(j:Nat)(u:D->List D->Option (D×D))(fs:List SE):SE:=fun ρ=>match ρ[j]? with
 | some (some (_,.fz))=>none
 | some (some (.lst _,_))=>match evA (fs.map Arg.ex) ρ with
  | some (.ok ds,ρ1)=>match ρ1[j]? with
   | some (some (c,.ow))=>match u c ds with
    | some (c',d)=>some (.ok d false,ρ1.set j (some (c',.ow)))
    | none=>none
   | some (some (c,.io))=>match u c ds with
    | some (c',d)=>some (.ok d false,ρ1.set j (some (c',.io)))
    | none=>none
   | _=>none
  | some (.ex C,ρ1)=>some (.ex C,ρ1)
  | none=>none
 | _=>none
noncomputable def MeS(K:FZ)(r:V->List V->Hp->VK->Prop)(u:D->List D->Option (D×D)):Prop :=
 ∀ (H:Hp) (L:List Addr) (p:Addr) (c:D) (ds:List D) (vs:List V) (c' d:D) (Q:VK),aO K H (hid L H) p c->p∈L->ak K (hid L H) ds vs->u c ds=some (c',d) ->
  (∀ v o,aO K (upd H p o) (hid L H) p c'->aF K (hid L H) d v->Q v (upd H p o))->r (.ref p) vs H Q
section
variable{K:FZ}{EX:EXT}{σ:St}{H:Hp}{Q:VK}
theorem BT{j:Nat}{u:D->List D->Option (D×D)}{fs:List SE}{r:V->List V->Hp->VK->Prop}(hs:MeS K r u)(hw:tV K EX (bU j u fs) σ H Q):tBM K "list" r (xO j) (tAs K EX (fs.map Arg.ex)) σ H Q:=by
 obtain ⟨F,ρ,W,R,h⟩:=hw;unfold bU at h
 revert h
 cases e0:ρ[j]? with
 | none=>exact fun h=>h.elim
 | some z =>
  cases z with
  | none=>exact fun h=>h.elim
  | some z =>
   obtain ⟨c0,m0⟩:=z
   have go:m0 ≠ .fz->∀ es,c0 = .lst es->OkV K F EX σ H W (match evA (fs.map Arg.ex) ρ with
    | some (.ok ds,ρ1)=>match ρ1[j]? with
     | some (some (c,.ow))=>match u c ds with
      | some (c',d)=>some (.ok d false,ρ1.set j (some (c',.ow)))
      | none=>none
     | some (some (c,.io))=>match u c ds with
      | some (c',d)=>some (.ok d false,ρ1.set j (some (c',.io)))
      | none=>none
     | _=>none
    | some (.ex C,ρ1)=>some (.ex C,ρ1)
    | none=>none) Q->tBM K "list" r (xO j) (tAs K EX (fs.map Arg.ex)) σ H Q:=fun hm0 es hc0 h=>by
    subst hc0;obtain ⟨v,hv,ok0⟩:=R.slot j _ _ e0
    have own0:∃ p,v = .ref p/\p∈W/\aO K H (hid (W++F.Z) H) p (.lst es):=by
     cases m0 with
     | fz=>exact absurd rfl hm0
     | ow=>exact ok0
     | io=>obtain ⟨p,a,b,c,_⟩:=ok0;exact ⟨p,a,b,c⟩
    obtain ⟨p,rfl,hp,xs,hx,_⟩:=own0;refine ⟨_,hv,.inl ⟨rfl,xs,.inl (.inl hx)⟩,pf fs R ?_⟩
    revert h
    cases evA (fs.map Arg.ex) ρ with
    | none=>exact fun h=>h
    | some q =>
     obtain ⟨q,ρ1⟩:=q
     cases q with
     | ex C=>exact fun h=>h
     | ok ds =>
      dsimp only;intro h vs H1 W1 fr1 sub1 R1 reps
      have step:∀ (c:D) (m:Md),m ≠ .fz->ρ1[j]?=some (some (c,m))->∀ c' d,u c ds=some (c',d)->OkV K F EX σ H W (some (.ok d false,ρ1.set j (some (c',m)))) Q->r (.ref p) vs H1 Q:=fun c m hm e1 c' d eu h=>by
       obtain ⟨v1,hv1,ok1⟩:=R1.slot j c m e1;rw [hv] at hv1;cases hv1
       have own1:p∈W1/\aO K H1 (hid (W1++F.Z) H1) p c:=by
        cases m with
        | fz=>exact absurd rfl hm
        | ow=>obtain ⟨p',a,b,c⟩:=ok1;cases a;exact ⟨b,c⟩
        | io=>obtain ⟨p',a,b,c,_⟩:=ok1;cases a;exact ⟨b,c⟩
       refine hs H1 (W1++F.Z) p c ds vs c' d Q own1.2 (Dp _ own1.1) reps eu fun v2 o new rd=> ?_
       obtain ⟨R2,fr2⟩:=R1.write e1 hm hv new;refine h v2 _ W1 (fr1.trans fr2 fun q hq=> .inl (sub1 q hq)) sub1 ⟨?_,R2⟩;rw [vG (Dp _ own1.1)];exact rd
      revert h
      split
      ·rename_i c e1
       split
       ·rename_i c' d eu
        exact fun h=>step c .ow (by decide) e1 c' d eu h
       ·exact fun h=>h.elim
      ·rename_i c e1
       split
       ·rename_i c' d eu
        exact fun h=>step c .io (by decide) e1 c' d eu h
       ·exact fun h=>h.elim
      ·exact fun h=>h.elim
   cases m0 with
   | fz=>exact fun h=>h.elim
   | ow=>cases c0<;>first | exact fun h=>h.elim | exact fun h=>go (by decide) _ rfl h
   | io=>cases c0<;>first | exact fun h=>h.elim | exact fun h=>go (by decide) _ rfl h
end
noncomputable def cv:D->List D->Option (D×D)
 | .lst ds,[d]=>if small ds.length=true then some (.lst (ds++[d]),.non) else none
 | _,_=>none
noncomputable def cu:D->List D->Option (D×D)
 | .lst ds,[.lst es]=>if small (ds.length+es.length)=true then some (.lst (ds++es),.non) else none
 | .lst ds,[.tup es]=>if small (ds.length+es.length)=true then some (.lst (ds++es),.non) else none
 | _,_=>none
noncomputable def uPop:D->List D->Option (D×D)
 | .lst ds,[]=>match ds[ds.length - 1]? with
  | some d=>some (.lst ds.dropLast,d)
  | none=>none
 | _,_=>none
noncomputable def uPopAt:D->List D->Option (D×D)
 | .lst ds,[.int i]=>if (decide (-1000000000<=i/\i<=1000000000))=true then match seqIndex? i ds.length with
  | some k=>match ds[k]? with
   | some d=>some (.lst (ds.eraseIdx k),d)
   | none=>none
  | none=>none
  else none
 | _,_=>none
section
variable{K:FZ}
theorem wy:MeS K vq cv:=by
 intro H L p c ds vs c' d Q hO hp hr e q;unfold cv at e
 split at e
 ·obtain ⟨xs,h1,h2⟩:=hO
  split at e
  ·rename_i hs
   cases e
   match vs,hr with
   | [v],hr =>
    refine ⟨p,xs,v,rfl,rfl,h1,lU (by rw [<- h2.len];exact hs),q _ _ ⟨_,ao,h2.app ⟨hr.1,trivial⟩⟩ rfl⟩
  ·cases e
 ·cases e
noncomputable def rV(K:FZ):V->List V->Hp->VK->Prop:=fun x vs H Q=>vp x vs H Q\/rU x vs H Q
theorem ug{X:Cx}:MtM X "list.extend" (rV X.K):=by
 intro pins s σ H x xs v us Q I rx r h
 rcases h with h | h
 ·exact wv pins s σ H x xs v us Q I rx r h
 ·exact uf pins s σ H x xs v us Q I rx r h
theorem wx:MeS K (rV K) cu:=by
 intro H L p c ds vs c' d Q hO hp hr e q;unfold cu at e
 split at e
 ·obtain ⟨xs,h1,h2⟩:=hO
  split at e
  ·rename_i hs
   cases e
   match vs,hr with
   | [v],hr =>
    obtain ⟨b,ys,rfl,h3,h4⟩:=hr.1;exact .inl ⟨p,b,xs,ys,rfl,rfl,h1,(aw h3).2,fk (by rw [<- h2.len,<- h4.len];exact hs),q _ _ ⟨_,ao,h2.app h4⟩ rfl⟩
  ·cases e
 ·obtain ⟨xs,h1,h2⟩:=hO
  split at e
  ·rename_i hs
   cases e
   match vs,hr with
   | [v],hr =>
    obtain ⟨b,ys,rfl,h3,h4⟩:=hr.1;exact .inr ⟨p,b,xs,ys,rfl,rfl,h1,(aw h3).2,fk (by rw [<- h2.len,<- h4.len];exact hs),q _ _ ⟨_,ao,h2.app h4⟩ rfl⟩
  ·cases e
 ·cases e
end
section
variable{X:Cx}{EX:EXT}{e:Expr}{es:List Expr}{pos p1 apos cpos:Pos}{n:Str}{j:Nat}
theorem Aq{name:Str}{id:String}{u:D->List D->Option (D×D)}{fs:List SE}{r:V->List V->Hp->VK->Prop}(hs:MeS X.K r u)(hm:MtM X id r)(slot:Slot "list" name id)(hty:typeOf (.builtin id)=pure (.type "method_descriptor"))(hN:X.N[j]?=some n)(hv:Vis X.env.scope n)(ha:JF X EX (e::es) fs)
 (hbase:attributeBase (.Name n p1) name X.env (eval (.Name n p1) X.env)=eval (.Name n p1) X.env:=by rfl)
 (hfew:((backTo cpos (starEach (e::es) X.env)).all (fun x => !x.1)&&(backToKw cpos (keywordEach [] X.env)).all (fun x=>x.1.isSome)
   && decide ((e::es).length+([]:List Keyword).length+(if ([]:List Keyword).isEmpty then 0 else 1) < 30))=true:=by rfl)
 (hline:(apos.endLine == cpos.line)=true:=by rfl) (hst:starEach (e::es) X.env=(false,eval e X.env)::starEach es X.env:=by rfl) (hplain:(backTo cpos (starEach es X.env)).any (·.1)=false:=by rfl)
 (hd:(n == ("__debug__" : Str))=false:=by decide) (hcd:(n == ("__classdict__" : Str))=false:=by decide):JE X EX (.Call (.Attribute (.Name n p1) name apos) (e::es) [] cpos) (bU j u fs) :=
 ⟨(oV ER slot hty hm (gw hN hv hd hcd) ha.p hbase hfew hline hst hplain).by fun σ H Q h=>BT hs h⟩
end
noncomputable def eD(u:D->D->D->Option D)(j:Nat)(f fi:SE):SS:=fun ρ=>match f ρ with
 | some (.ok d _,ρ1)=>match ρ1[j]? with
  | some (some _)=>match fi ρ1 with
   | some (.ok i _,ρ2)=>match ρ2[j]? with
    | some (some (c,.ow))=>match u c i d with
     | some c'=>some (.nx,ρ2.set j (some (c',.ow)))
     | none=>none
    | some (some (c,.io))=>match u c i d with
     | some c'=>some (.nx,ρ2.set j (some (c',.io)))
     | none=>none
    | _=>none
   | some (.ex C,ρ2)=>some (.ex C,ρ2)
   | none=>none
  | _=>none
 | some (.ex C,ρ1)=>some (.ex C,ρ1)
 | none=>none
noncomputable def PuS(K:FZ)(r:V->V->V->Hp->(Hp->Prop)->Prop)(u:D->D->D->Option D):Prop :=
 ∀ (H:Hp) (L:List Addr) (p:Addr) (c i d c':D) (vi vd:V) (Q:Hp->Prop),aO K H (hid L H) p c->p∈L->aF K (hid L H) i vi->aF K (hid L H) d vd->u c i d=some c' ->
  (∀ o,aO K (upd H p o) (hid L H) p c'->Q (upd H p o))->r (.ref p) vi vd H Q
theorem vF{K:FZ}{EX:EXT}{u:D->D->D->Option D}{r:V->V->V->Hp->(Hp->Prop)->Prop}{j:Nat}{f fi:SE}{E:lq}{σ:St}{H:Hp}(hs:PuS K r u)(h:tVS K EX (eD u j f fi) E σ H) :
 tV K EX f σ H fun v H1=>∃ o,σ[j]?=some (some o)/\tV K EX fi σ H1 fun i H2=>r o i v H2 fun H3=>E.nx σ H3:=by
 obtain ⟨F,ρ,W,R,h⟩:=h;refine ⟨F,ρ,W,R,?_⟩;unfold eD at h
 revert h
 cases f ρ with
 | none=>exact fun h=>h
 | some q =>
  obtain ⟨q,ρ1⟩:=q
  cases q with
  | ex C=>exact fun h H2 W2 fr2 sub2 R2=>h σ H2 W2 fr2 (fun p hp=> .inl (sub2 p hp)) R2
  | ok d nw =>
   dsimp only
   cases e1:ρ1[j]? with
   | none=>exact fun h=>h.elim
   | some z =>
    cases z with
    | none=>exact fun h=>h.elim
    | some z =>
     obtain ⟨c1,m1⟩:=z;intro h v H1 W1 fr1 sub1 P1;obtain ⟨rd,R1⟩:=P1.plain;obtain ⟨o,ho,_⟩:=R1.slot j _ _ e1;refine ⟨o,ho,F,ρ1,W1,R1,?_⟩
     revert h
     dsimp only
     cases fi ρ1 with
     | none=>exact fun h=>h
     | some q =>
      obtain ⟨q,ρ2⟩:=q
      cases q with
      | ex C=>exact fun h H2 W2 fr2 sub2 R2=>h σ H2 W2 (fr1.trans fr2 fun p hp=> .inl (sub1 p hp)) (fun p hp=> .inl (sub1 p (sub2 p hp))) R2
      | ok i nw2 =>
       dsimp only;intro h vi H2 W2 fr2 sub2 P2;obtain ⟨ri,R2⟩:=P2.plain
       have step:∀ (c:D) (m:Md),m ≠ .fz->ρ2[j]?=some (some (c,m))->∀ c',u c i d=some c'->OkS K F EX H W (some (.nx,ρ2.set j (some (c',m)))) E->r o vi v H2 fun H3=>E.nx σ H3:=fun c m hm e2 c' eu h=>by
        obtain ⟨v1,hv1,ok1⟩:=R2.slot j c m e2;rw [ho] at hv1;cases hv1
        have own1:∃ p,o = .ref p/\p∈W2/\aO K H2 (hid (W2++F.Z) H2) p c:=by
         cases m with
         | fz=>exact absurd rfl hm
         | ow=>exact ok1
         | io=>obtain ⟨p',a,b,c,_⟩:=ok1;exact ⟨p',a,b,c⟩
        obtain ⟨p,rfl,hp,hO⟩:=own1
        refine hs H2 (W2++F.Z) p c i d c' vi v _ hO (Dp _ hp) ri ((fr2.hid fun p hp=> .inl (sub2 p hp)).repD rd) eu fun o' new=> ?_
        obtain ⟨R3,fr3⟩:=R2.write e2 hm ho new;exact h σ _ W2 ((fr1.trans fr2 fun p hp=> .inl (sub1 p hp)).trans fr3 fun p hp=> .inl (sub1 p (sub2 p hp))) (fun p hp=> .inl (sub1 p (sub2 p hp))) R3
       revert h
       split
       ·rename_i c e2
        split
        ·rename_i c' eu
         exact fun h=>step c .ow (by decide) e2 c' eu h
        ·exact fun h=>h.elim
       ·rename_i c e2
        split
        ·rename_i c' eu
         exact fun h=>step c .io (by decide) e2 c' eu h
        ·exact fun h=>h.elim
       ·exact fun h=>h.elim
noncomputable def lM:D->D->D->Option D
 | .lst ds,.int k,d=>match ixN ds.length k with
  | some n=>some (.lst (ds.set n d))
  | none=>none
 | _,_,_=>none
theorem Br{K:FZ}:PuS K CL lM:=by
 intro H L p c i d c' vi vd Q hO hp ri rd e q;unfold lM at e
 split at e
 ·rename_i ds k
  obtain ⟨xs,h1,h2⟩:=hO
  split at e
  ·rename_i n en
   cases e;exact ⟨p,xs,k,n,rfl,ri,h1,by rw [<- h2.len];exact en,q _ ⟨_,ao,h2.set rd n⟩⟩
  ·cases e
 ·cases e
section
variable{X:Cx}{EX:EXT}{e i:Expr}{pos pos' p1:Pos}{n:Str}{j:Nat}{f fi:SE}
theorem s_item(he:JE X EX e f)(hi:JE X EX i fi)(hN:X.N[j]?=some n)(hv:Vis X.env.scope n)(hs:swapsWithSole [.Subscript (.Name n p1) i pos'] e pos.line X.env=pure false:=by rfl)(hw:swappedStores [.Subscript (.Name n p1) i pos'] e X.env=pure none:=by rfl)
 (h1:(assignEach [.Subscript (.Name n p1) i pos'] X.env).map (·.2)=[assign (.Subscript (.Name n p1) i pos') X.env]:=by rfl)
 (ha:∀ v,assign (.Subscript (.Name n p1) i pos') X.env v=(do
   let ov <- holding [v] (eval (.Name n p1) X.env)
   let iv <- holding [v,ov] (eval i X.env)
   standAt pos'
   holding [v,ov,iv] (setItem ov iv v)
   release [v,ov,iv] []):=by intro _;rfl)
 (hd:(n == ("__debug__" : Str))=false:=by decide) (hcd:(n == ("__classdict__" : Str))=false:=by decide):JS X EX (.Assign [.Subscript (.Name n p1) i pos'] e pos) (eD lM j f fi) :=
 ⟨(yx he.p (pg_sub (gw hN hv hd hcd) hi.p lW ha) hs hw h1).by fun D σ H h=>vF Br h⟩
end
noncomputable def re:D->D->D->Option D
 | .dK ks vs,k,d=>match fv k with
  | some k=>if (small ks.length&&decide ks.Nodup)=true then some (.dK (j0 ks vs k d).1 (j0 ks vs k d).2) else none
  | none=>none
 | .dT ks vs,.tup l,d=>match gF l with
  | some k=>if (small ks.length&&decide ks.Nodup)=true then some (.dT (j0 ks vs k d).1 (j0 ks vs k d).2) else none
  | none=>none
 | _,_,_=>none
noncomputable def rPutD:V->V->V->Hp->(Hp->Prop)->Prop:=fun x y v H Q=>∃ a H',x = .ref a/\qX H a y v H'/\Q H'
theorem Bs{K:FZ}:PuS K rPutD re:=by
 intro H L p c i d c' vi vd Q hO hp ri rd e q;unfold re at e
 split at e
 ·rename_i ks vs
  obtain ⟨xs,h1,h2,h3⟩:=hO
  split at e
  ·rename_i k ek
   split at e
   ·rename_i hsn
    have hsn:=(DK _ _).mp hsn;cases e;obtain ⟨i1,i2,i3⟩:=mw (x:=k) rd h2 h3;refine ⟨p,_,rfl,by rw [hX ek ri];exact qX.k (k:=k) h1 (by rw [E4,<- h2,Fh];exact lU hsn.1),q _ ⟨(jq ks xs k vd).2,?_,?_,i2⟩⟩
    ·rw [<- i1,mr h2 (DH hsn.2)]
     exact ao
    ·rw [<- i1];exact i3
   ·cases e
  ·cases e
 ·rename_i ks vs l
  obtain ⟨xs,h1,h2,h3⟩:=hO;obtain ⟨b,ys,rfl,h4,h5⟩:=ri
  split at e
  ·rename_i k ek
   split at e
   ·rename_i hsn
    have hsn:=(DK _ _).mp hsn;cases e;obtain ⟨i1,i2,i3⟩:=mw (x:=k) rd h2 h3;have h4:=(aw h4).2;rw [fJ ek h5] at h4;refine ⟨p,_,rfl,qX.t (k:=k) h1 h4 (by rw [E4,<- h2,Fh];exact lU hsn.1),q _ ⟨(jq ks xs k vd).2,?_,?_,i2⟩⟩
    ·rw [<- i1,mr h2 (DH hsn.2)]
     exact ao
    ·rw [<- i1];exact i3
   ·cases e
  ·cases e
 ·cases e
section
variable{X:Cx}{EX:EXT}{e i:Expr}{pos pos' p1:Pos}{n:Str}{j:Nat}{f fi:SE}
theorem s_dput(hu:X.A.units+1 < cLine)(he:JE X EX e f)(hi:JE X EX i fi)(hN:X.N[j]?=some n)(hv:Vis X.env.scope n)(hs:swapsWith e (some (.Subscript (.Name n p1) i pos')) pos.line X.env=pure false:=by rfl)
 (hd:(n == ("__debug__" : Str))=false:=by decide) (hcd:(n == ("__classdict__" : Str))=false:=by decide):JS X EX (.Assign [.Subscript (.Name n p1) i pos'] e pos) (eD re j f fi) :=
 ⟨(Bt hu (gw hN hv hd hcd) hi.p he.p hs).by fun D σ H h=>vF Bs h⟩
noncomputable def x9(d:D):SE:=fun ρ=>some (.ok d true,ρ)
theorem Cn:JE X EX (.Dict [] [] pos) (x9 (.dT [] [])):=⟨yG.by fun σ H Q ⟨F,ρ,W,R,h⟩ p hp=>h _ _ W ((ai.upd hp).fr) (fun _ z=>z) (gU.e (nw:=true) ⟨p,rfl,hp,[],ao,rfl,trivial⟩ R (ai.upd hp))⟩
end
end L2
namespace L2
open PySem PySem.Spec PyProof.Rows ZpA
noncomputable def cz:D->Option (List D)
 | .lst ds=>some ds
 | .klst ds=>some ds
 | .tup ds=>some ds
 | .ktup ds=>some ds
 | _=>none
noncomputable def ItsA:Kd->FZ->Addr->L2.It
 | .L=>Itl
 | .T=>Itt
theorem SqA.same{c:Kd}{K:FZ}{H H':Hp}{a:Addr}{xs:List V}(e:ai H H')(h:SqA c K H a xs):SqA c K H' a xs:=by
 cases c with
 | L=>exact e.seq h
 | T=>exact e.tup h
theorem lu{K:FZ}{H:Hp}{d:D}{v:V}{ds:List D}(e:cz d=some ds)(r:aF K H d v):∃ a c xs,v = .ref a/\SqA c K H a xs/\ak K H ds xs:=by
 cases d<;>first
  | (unfold cz at e;cases e;done)
  | (unfold cz at e;cases e;obtain ⟨p,xs,h1,h2,h3⟩:=r;exact ⟨p,.L,xs,h1,.inl (.inl h2),h3⟩)
  | (unfold cz at e;cases e;obtain ⟨p,xs,h1,h2,h3⟩:=r;exact ⟨p,.T,xs,h1,.inl (.inl h2),h3⟩)
  | (unfold cz at e;cases e;obtain ⟨p,xs,h1,h2,h3⟩:=r;exact ⟨p,.L,xs,h1,h2,h3⟩)
  | (unfold cz at e;cases e;obtain ⟨p,xs,h1,h2,h3⟩:=r;exact ⟨p,.T,xs,h1,eX h2,h3⟩)
noncomputable def iSeqA(K:FZ)(tl:TE):TI:=fun σ H R=>tl σ H fun x H1=>∃ a c,x = .ref a/\∃ xs,SqA c K H1 a xs/\(xs.length<=sizeLine->R (ItsA c K a) H1)
section
variable{X:Cx}{EX:EXT}{tg l:Expr}
theorem Bx{tl:TE}(hl:PE X l tl):PI X tg l (iSeqA X.K tl):=by
 intro pins s σ H R I h
 refine thn (hl pins s σ H _ I h) fun v s1 ⟨x,H1,I1,r1,q1⟩=> ?_
 obtain ⟨a,c,e,xs,hq,q⟩:=q1;subst e;cases r1
 cases c with
 | L =>
  obtain ⟨its,rv,p,hz⟩:=I1.list hq;refine E3 p.isList ?_;refine ⟨s1.heap.objs.size,[s1.heap.objs.size],_,_,H1,rfl,I1.kept (t':=s1.toks) fun b o e=>Dk _ e,vY a _,⟨_,Dw _ rfl,rfl,rfl⟩,fun b hb=> ?_,q hz⟩
  have e:b=s1.heap.objs.size:=by simpa using hb
  subst e;exact I1.fpOk (Dy _) (I1.hok.fresh (Dy _))
 | T =>
  obtain ⟨its,rv,p,hz⟩:=I1.tuple hq;refine DZ (show s1.heap.IsTuple a its.toArray from p) ?_;refine ⟨s1.heap.objs.size,[s1.heap.objs.size],_,_,H1,rfl,I1.kept (t':=s1.toks) fun b o e=>Dk _ e,lN a _,⟨_,Dw _ rfl,rfl,rfl⟩,fun b hb=> ?_,q hz⟩
  have e:b=s1.heap.objs.size:=by simpa using hb
  subst e;exact I1.fpOk (Dy _) (I1.hok.fresh (Dy _))
theorem zt{K:FZ}{L0:List Addr}{H0:Hp}{ds:List D}{xs:List V}{a:Addr}{c:Kd}(hs:SqA c K (hid L0 H0) a xs)(hr:ak K (hid L0 H0) ds xs)(hf:xs.length<=sizeLine):ItOk K L0 ds (ItsA c K a) H0 where
 go:=fun H L i d sm hm hd=>by
  obtain ⟨x0,e0,r0⟩:=hr.get hd;have sq:SqA c K H a xs:=hs.same (sm.trans ay)
  cases c with
  | L=>exact ⟨⟨xs,x0,sq,e0⟩,fun x H' y=>by obtain ⟨rfl,y⟩:=y;have e:=y xs sq;rw [e0] at e;cases e;exact ⟨ai.refl _,sm.repD r0⟩⟩
  | T=>exact ⟨⟨xs,x0,sq,e0⟩,fun x H' y=>by obtain ⟨rfl,y⟩:=y;have e:=y xs sq;rw [e0] at e;cases e;exact ⟨ai.refl _,sm.repD r0⟩⟩
 stop:=fun H sm=>by
  have sq:SqA c K H a xs:=hs.same sm
  cases c with
  | L=>exact ⟨xs,sq,by rw [hr.len];exact Dy _⟩
  | T=>exact ⟨xs,sq,by rw [hr.len];exact Dy _⟩
 few:=by rw [hr.len];exact hf
noncomputable def cH(f:SE):SI:=fun ρ=>match f ρ with
 | some (.ok d _,ρ')=>match cz d with
  | some ds=>some (.ok ds,ρ')
  | none=>none
 | some (.ex C,ρ')=>some (.ex C,ρ')
 | none=>none
theorem i_seq{f:SE}(h:JE X EX l f):JI X EX tg l (cH f) :=
 ⟨fun pins s σ H R I hw=>Bx h.p pins s σ H R I (by
  obtain ⟨F,ρ,W,R0,h⟩:=hw;refine ⟨F,ρ,W,R0,?_⟩;unfold cH at h
  revert h
  cases f ρ with
  | none=>exact fun h=>h
  | some q =>
   obtain ⟨q,ρ1⟩:=q
   cases q with
   | ex C=>exact fun h=>h
   | ok d nw =>
    dsimp only
    cases e:cz d with
    | none=>exact fun h=>h.elim
    | some ds =>
     intro h v H1 W1 fr1 sub1 P1;obtain ⟨rd,R1⟩:=P1.plain;obtain ⟨a,c,xs,rfl,hs,hr⟩:=lu e rd
     exact ⟨a,c,rfl,xs,hs.same ay,fun hf=>h _ H1 W1 fr1 sub1 R1 (zt hs hr hf)⟩)⟩
noncomputable def okR(lo hi:Int):Bool:=decide (-1000000000<=lo/\lo<=1000000000 /\ -1000000000<=hi/\hi<=1000000000/\(hi - lo).toNat<=1000000)
noncomputable def ot:List D->Option Int
 | [.int j]=>some j
 | _=>none
noncomputable def oq:List D->Option (Int×Int)
 | [.int i,.int j]=>some (i,j)
 | _=>none
theorem zD{K:FZ}{H Hh:Hp}{ds:List D}{vs:List V}{j:Int}(e:ot ds=some j)(r:kX K H Hh ds vs):vs=[.int j]:=by
 unfold ot at e
 split at e
 ·cases e
  obtain ⟨y,rfl,ry⟩:=aJ r;rw [cj ry]
 ·cases e
theorem zy{K:FZ}{H Hh:Hp}{ds:List D}{vs:List V}{i j:Int}(e:oq ds=some (i,j))(r:kX K H Hh ds vs):vs=[.int i,.int j]:=by
 unfold oq at e
 split at e
 ·cases e
  obtain ⟨y,z,rfl,ry,rz⟩:=aQ r;rw [cj ry,cj rz]
 ·cases e
noncomputable def ce(x:Arg):SI:=fun ρ=>match evA [x] ρ with
 | some (.ok ds,ρ')=>match ot ds with
  | some j=>if okR 0 j=true then some (.ok (gq 0 j.toNat),ρ') else none
  | none=>none
 | some (.ex C,ρ')=>some (.ex C,ρ')
 | none=>none
noncomputable def fo(x y:Arg):SI:=fun ρ=>match evA [x,y] ρ with
 | some (.ok ds,ρ')=>match oq ds with
  | some (i,j)=>if okR i j=true then some (.ok (gq i (j - i).toNat),ρ') else none
  | none=>none
 | some (.ex C,ρ')=>some (.ex C,ρ')
 | none=>none
theorem rK{lo:Int}{n:Nat}:(gq lo n).length=n:=by unfold gq;simp
theorem yc{lo:Int}{n i:Nat}{d:D}(h:(gq lo n)[i]?=some d):i < n/\d = .int (lo+(i:Nat)):=by
 unfold gq at h;rw [DM] at h;obtain ⟨k,hk,rfl⟩:=Ee.mp h;obtain ⟨h1,h2⟩:=DA.mp hk;simp at h1 h2;subst h2;exact ⟨h1,rfl⟩
theorem su{K:FZ}{L0:List Addr}{H0:Hp}{lo:Int}{n:Nat}(hf:n<=1000000):ItOk K L0 (gq lo n) (Itr lo n) H0 where
 go:=fun H L i d sm hm hd=>by
  obtain ⟨h1,rfl⟩:=yc hd;exact ⟨h1,fun x H' y=>by obtain ⟨rfl,rfl⟩:=y;exact ⟨ai.refl _,rfl⟩⟩
 stop:=fun H sm=>by rw [rK];exact Dy n
 few:=by rw [rK];exact Eu hf (by decide)
theorem i_rng1{a:Expr}{x:Arg}{p pos:Pos}(hg:Gl X "range")(hm:X.mg "range" = none)(ha:JA X EX [a] [x])(hs:starEach [a] X.env=[(false,eval a X.env)]:=by rfl):JI X EX tg (.Call (.Name "range" p) [a] [] pos) (ce x) :=
 ⟨fun pins s σ H R I hw=>oS hg hm ha.p hs pins s σ H R I (by
  obtain ⟨F,ρ,W,R0,h⟩:=hw;refine pC [x] R0 ?_;unfold ce at h
  revert h
  cases evA [x] ρ with
  | none=>exact fun h=>h
  | some q =>
   obtain ⟨q,ρ1⟩:=q
   cases q with
   | ex C=>exact fun h=>h
   | ok ds =>
    dsimp only
    cases e:ot ds with
    | none=>exact fun h=>h.elim
    | some j =>
     dsimp only
     split
     ·rename_i hj
      have hj:=DH hj;intro h vs H1 W1 fr1 sub1 R1 reps;exact ⟨j,zD e reps,by omega,by omega,h _ H1 W1 fr1 sub1 R1 (su (by have:=hj.2.2.2.2;omega))⟩
     ·exact fun h=>h.elim)⟩
theorem i_rng2{a b:Expr}{x y:Arg}{p pos:Pos}(hg:Gl X "range")(hm:X.mg "range" = none)(ha:JA X EX [a,b] [x,y])(hs:starEach [a,b] X.env=[(false,eval a X.env),(false,eval b X.env)]:=by rfl)(hs2:starEach [b] X.env=[(false,eval b X.env)]:=by rfl):JI X EX tg (.Call (.Name "range" p) [a,b] [] pos) (fo x y) :=
 ⟨fun pins s σ H R I hw=>wn hg hm ha.p hs hs2 pins s σ H R I (by
  obtain ⟨F,ρ,W,R0,h⟩:=hw;refine pC [x,y] R0 ?_;unfold fo at h
  revert h
  cases evA [x,y] ρ with
  | none=>exact fun h=>h
  | some q =>
   obtain ⟨q,ρ1⟩:=q
   cases q with
   | ex C=>exact fun h=>h
   | ok ds =>
    dsimp only
    cases e:oq ds with
    | none=>exact fun h=>h.elim
    | some ij =>
     obtain ⟨i,j⟩:=ij;dsimp only
     split
     ·rename_i hj
      have hj:=DH hj;intro h vs H1 W1 fr1 sub1 R1 reps;exact ⟨i,j,zy e reps,⟨by omega,by omega,by omega,by omega⟩,h _ H1 W1 fr1 sub1 R1 (su hj.2.2.2.2)⟩
     ·exact fun h=>h.elim)⟩
noncomputable def gJ:Nat->List D->List D
 | _,[]=>[]
 | i,d::ds=> .tup [.int (i:Nat),d]::gJ (i+1) ds
theorem kj:∀ {i:Nat} {ds:List D},(gJ i ds).length=ds.length
 | _,[]=>rfl
 | i,d::ds=>by unfold gJ;rw [Dq,Dq,kj]
theorem pi:∀ {i j:Nat} {ds:List D} {e:D},(gJ i ds)[j]?=some e->∃ d,ds[j]?=some d/\e = .tup [.int ((i+j:Nat)),d]
 | i,j,[],e,h=>by unfold gJ at h;simp at h
 | i,0,d::ds,e,h=>by
  unfold gJ at h;simp only [DN,Option.some.injEq] at h;exact ⟨d,rfl,h.symm⟩
 | i,j+1,d::ds,e,h=>by
  unfold gJ at h;simp only [DR] at h ⊢;obtain ⟨d',h1,h2⟩:=pi h;exact ⟨d',h1,by rw [h2,show i+1+j=i+(j+1) by omega]⟩
noncomputable def jW:List D->List D->List D
 | a::as,b::bs=> .tup [a,b]::jW as bs
 | _,_=>[]
theorem lK:∀ {as bs:List D},as.length<=bs.length->(jW as bs).length=as.length
 | [],_,_=>by unfold jW;rfl
 | a::as,b::bs,h=>by unfold jW;rw [Dq,Dq,lK (by simpa using h)]
 | _::_,[],h=>by simp at h
theorem qY:∀ {as bs:List D} {j:Nat} {e:D},(jW as bs)[j]?=some e->∃ a b,as[j]?=some a/\bs[j]?=some b/\e = .tup [a,b]
 | [],_,j,e,h=>by unfold jW at h;simp at h
 | _::_,[],j,e,h=>by unfold jW at h;simp at h
 | a::as,b::bs,0,e,h=>by
  unfold jW at h;simp only [DN,Option.some.injEq] at h;exact ⟨a,b,rfl,rfl,h.symm⟩
 | a::as,b::bs,j+1,e,h=>by
  unfold jW at h;simp only [DR] at h ⊢;exact qY h
noncomputable def eV(f:SE):SI:=fun ρ=>match f ρ with
 | some (.ok d _,ρ')=>match cz d with
  | some ds=>some (.ok (gJ 0 ds),ρ')
  | none=>none
 | some (.ex C,ρ')=>some (.ex C,ρ')
 | none=>none
theorem rY{K:FZ}{H:Hp}{L:List Addr}{p:Addr}{a b:D}{x y:V}(hm:∀ p∈L,eL (H p))(hp:H p=none)(ra:aF K (hid L H) a x)(rb:aF K (hid L H) b y):aF K (hid L (upd H p (.tup [x,y]))) (.tup [a,b]) (.ref p) :=
 gZ hm (show ak K (hid L H) [a,b] [x,y] from ⟨ra,rb,trivial⟩) (ai.upd hp) ao
theorem i_enum{elts:List Expr}{k}{tpos:Pos}{f:SE}{p pos:Pos}(hg:Gl X "enumerate")(hm:X.mg "enumerate" = none)(h:JE X EX l f)(hs:starEach [l] X.env=[(false,eval l X.env)]:=by rfl):JI X EX (.Tuple elts k tpos) (.Call (.Name "enumerate" p) [l] [] pos) (eV f) :=
 ⟨fun pins s σ H R I hw=>yC hg hm (aA h.p ck hs) hs pins s σ H R I (by
  obtain ⟨F,ρ,W,R0,h⟩:=hw;refine ⟨F,ρ,W,R0,?_⟩;unfold eV at h
  revert h
  cases f ρ with
  | none=>exact fun h=>h
  | some q =>
   obtain ⟨q,ρ1⟩:=q
   cases q with
   | ex C=>exact fun h=>h
   | ok d nw =>
    dsimp only
    cases e:cz d with
    | none=>exact fun h=>h.elim
    | some ds =>
     intro h v H1 W1 fr1 sub1 P1;obtain ⟨rd,R1⟩:=P1.plain;obtain ⟨a,c,xs,rfl,hq,hr⟩:=lu e rd;refine ⟨a,c,rfl,xs,hq.same ay,fun hf=>h _ H1 W1 fr1 sub1 R1 ⟨fun H L i d sm hm hd=> ?_,fun H sm=> ?_,?_⟩⟩
     ·obtain ⟨d0,e0,rfl⟩:=pi hd
      obtain ⟨x0,ex,r0⟩:=hr.get e0;have sq:SqA c X.K H a xs:=hq.same (sm.trans ay);refine ⟨⟨xs,x0,sq,ex⟩,fun x H' y=> ?_⟩;obtain ⟨p,y,rfl,hp,rfl,hy⟩:=y;have e1:=hy xs sq;rw [ex] at e1;cases e1;refine ⟨ai.upd hp,?_⟩;have:=rY (K:=X.K) (a:= .int ((i:Nat):Int)) (x:= .int (i:Nat)) hm hp rfl (sm.repD r0);rw [Ep];exact this
     ·rw [kj,hr.len]
      exact ⟨xs,hq.same sm,Dy _⟩
     ·rw [kj,hr.len];exact hf)⟩
noncomputable def xV:List D->Option (List D×List D)
 | [a,b]=>match cz a,cz b with
  | some x,some y=>some (x,y)
  | _,_=>none
 | _=>none
noncomputable def kY(fs:List SE):SI:=fun ρ=>match evA (fs.map Arg.ex) ρ with
 | some (.ok ds,ρ')=>match xV ds with
  | some (a,b)=>if decide (a.length<=b.length)=true then some (.ok (jW a b),ρ') else none
  | none=>none
 | some (.ex C,ρ')=>some (.ex C,ρ')
 | none=>none
theorem i_zip{elts:List Expr}{k}{tpos:Pos}{l l':Expr}{fs:List SE}{p pos:Pos}(hg:Gl X "zip")(hm:X.mg "zip" = none)(h:JF X EX [l,l'] fs)(hs:starEach [l,l'] X.env=[(false,eval l X.env),(false,eval l' X.env)]:=by rfl)(hs2:starEach [l'] X.env=[(false,eval l' X.env)]:=by rfl) :
 JI X EX (.Tuple elts k tpos) (.Call (.Name "zip" p) [l,l'] [] pos) (kY fs) :=
 ⟨fun pins s σ H R I hw=>Bw hg hm h.p hs hs2 pins s σ H R I (by
  obtain ⟨F,ρ,W,R0,h⟩:=hw;refine pf fs R0 ?_;unfold kY at h
  revert h
  cases evA (fs.map Arg.ex) ρ with
  | none=>exact fun h=>h
  | some q =>
   obtain ⟨q,ρ1⟩:=q
   cases q with
   | ex C=>exact fun h=>h
   | ok ds =>
    dsimp only
    cases e:xV ds with
    | none=>exact fun h=>h.elim
    | some ab =>
     obtain ⟨as,bs⟩:=ab;dsimp only
     split
     ·rename_i hl
      have hl:=DH hl;intro h vs H1 W1 fr1 sub1 R1 reps;unfold xV at e
      split at e
      ·rename_i da db
       split at e
       ·rename_i x y ea eb
        cases e
        match vs,reps with
        | [va,vb],reps =>
         obtain ⟨a,c1,xs,rfl,hq,hr⟩:=lu ea reps.1;obtain ⟨b,c2,ys,rfl,hq2,hr2⟩:=lu eb reps.2.1;refine ⟨a,b,c1,c2,rfl,xs,hq.same ay,fun hf=>⟨⟨ys,hq2.same ay⟩,h _ H1 W1 fr1 sub1 R1 ⟨fun H L i d sm hm hd=> ?_,fun H sm=> ?_,?_⟩⟩⟩
         ·obtain ⟨d1,d2,e1,e2,rfl⟩:=qY hd
          obtain ⟨x0,ex,r0⟩:=hr.get e1;obtain ⟨y0,ey,r1⟩:=hr2.get e2;have sq:SqA c1 X.K H a xs:=hq.same (sm.trans ay);have sq2:SqA c2 X.K H b ys:=hq2.same (sm.trans ay);refine ⟨⟨xs,ys,x0,y0,sq,sq2,ex,ey⟩,fun x H' y=> ?_⟩;obtain ⟨p,y,z,rfl,hp,rfl,hy,hz⟩:=y;have e3:=hy xs sq;have e4:=hz ys sq2;rw [ex] at e3;rw [ey] at e4;cases e3;cases e4;exact ⟨ai.upd hp,rY hm hp (sm.repD r0) (sm.repD r1)⟩
         ·rw [lK hl,hr.len]
          exact ⟨xs,hq.same sm,Dy _⟩
         ·rw [lK hl,hr.len];exact hf
       ·cases e
      ·cases e
     ·exact fun h=>h.elim)⟩
end
noncomputable def dI(g g':List D->Option (D×Bool))(f1 f2 f3:SE):SE:=fun ρ=>match evA [.ex f1,.ex f2] ρ with
 | some (.ok [a,b],ρ1)=>match g [a,b] with
  | some (.bl true,false)=>match f3 ρ1 with
   | some (.ok c _,ρ2)=>match g' [b,c] with
    | some (d,false)=>some (.ok d false,ρ2)
    | _=>none
   | some (.ex C,ρ2)=>some (.ex C,ρ2)
   | none=>none
  | some (.bl false,false)=>some (.ok (.bl false) false,ρ1)
  | _=>none
 | some (.ok _,_)=>none
 | some (.ex C,ρ')=>some (.ex C,ρ')
 | none=>none
theorem Am{K:FZ}{EX:EXT}{σ:St}{H:Hp}{Q:VK}{r r':R2}{g g':List D->Option (D×Bool)}{f1 f2 f3:SE}(hs:OpS K (r2 r) g)(hs':OpS K (r2 r') g')(hw:tV K EX (dI g g' f1 f2 f3) σ H Q):xP r r' (tV K EX f1) (tV K EX f2) (tV K EX f3) σ H Q:=by
 obtain ⟨F,ρ,W,R,h⟩:=hw
 have z:tAs K EX (([f1,f2]:List SE).map Arg.ex) σ H (fun vs H2=>match vs with
  | [x,y]=>r x y H2 fun z H3=>∃ k,z = .bl k/\(if k=true then tV K EX f3 σ H3 fun w' H4=>r' y w' H4 Q else Q (.bl false) H3)
  | _=>False):=by
  refine pf [f1,f2] R ?_;unfold dI at h
  revert h
  show OkV K F EX σ H W (match evA (([f1,f2]:List SE).map Arg.ex) ρ with
   | some (.ok [a,b],ρ1)=>match g [a,b] with
    | some (.bl true,false)=>match f3 ρ1 with
     | some (.ok c _,ρ2)=>match g' [b,c] with
      | some (d,false)=>some (.ok d false,ρ2)
      | _=>none
     | some (.ex C,ρ2)=>some (.ex C,ρ2)
     | none=>none
    | some (.bl false,false)=>some (.ok (.bl false) false,ρ1)
    | _=>none
   | some (.ok _,_)=>none
   | some (.ex C,ρ')=>some (.ex C,ρ')
   | none=>none) Q->_
  cases evA (([f1,f2]:List SE).map Arg.ex) ρ with
  | none=>exact fun h=>h
  | some q =>
   obtain ⟨q,ρ1⟩:=q
   cases q with
   | ex C=>exact fun h=>h
   | ok ds =>
    match ds with
    | []=>exact fun h=>h.elim
    | [_]=>exact fun h=>h.elim
    | _::_::_::_=>exact fun h=>h.elim
    | [a,b] =>
     dsimp only;intro h vs H1 W1 fr1 sub1 R1 reps
     match vs,reps with
     | [x,y],reps =>
      have rb:kX K H1 (hid (W1++F.Z) H1) [a,b] [x,y]:=⟨aF.b reps.1 ay,aF.b reps.2.1 ay,trivial⟩
      cases eg:g [a,b] with
      | none=>rw [eg] at h;exact h.elim
      | some dn =>
       obtain ⟨d,nw⟩:=dn;rw [eg] at h
       refine hs [x,y] [a,b] H1 (W1++F.Z) _ d nw R1.mt rb eg fun z H2 s2 p2=> ?_
       have fr2:Fr W H H2:=fr1.trans (s2.fr (W:=W1)) fun p hp=> .inl (sub1 p hp)
       cases d<;>first | (exact h.elim) | skip
       rename_i k
       cases nw with
       | true=>cases k<;>exact h.elim
       | false =>
        have hz:z = .bl k:=p2;refine ⟨k,hz,?_⟩;have R2:=R1.same s2
        cases k with
        | false =>
         rw [if_neg DB];exact h _ H2 W1 fr2 sub1 ⟨rfl,R2⟩
        | true =>
         rw [if_pos rfl];refine ⟨F,ρ1,W1,R2,?_⟩
         revert h
         dsimp only
         cases f3 ρ1 with
         | none=>exact fun h=>h
         | some q =>
          obtain ⟨q,ρ2⟩:=q
          cases q with
          | ex C=>exact fun h H3 W3 fr3 sub3 R3=>h H3 W3 (fr2.trans fr3 fun p hp=> .inl (sub1 p hp)) (fun p hp=>sub1 p (sub3 p hp)) R3
          | ok c nw2 =>
           dsimp only;intro h w' H3 W3 fr3 sub3 P3;obtain ⟨rc,R3⟩:=P3.plain;have ry:aF K (hid (W3++F.Z) H3) b y:=(fr3.hid fun p hp=> .inl (sub3 p hp)).repD ((aP (fun b hb=> .inl hb) fun b o _ e=>s2 b o e:ai (hid (W1++F.Z) H1) (hid (W1++F.Z) H2)).repD reps.2.1)
           cases eg2:g' [b,c] with
           | none=>rw [eg2] at h;exact h.elim
           | some dn =>
            obtain ⟨d2,nw3⟩:=dn;rw [eg2] at h
            cases nw3 with
            | true=>exact h.elim
            | false =>
             refine hs' [y,w'] [b,c] H3 (W3++F.Z) _ d2 false R3.mt ⟨aF.b ry ay,aF.b rc ay,trivial⟩ eg2 fun v H4 s4 p4=> ?_
             exact h v H4 W3 ((fr2.trans fr3 fun p hp=> .inl (sub1 p hp)).trans (s4.fr (W:=W3)) fun p hp=> .inl (sub1 p (sub3 p hp))) (fun p hp=>sub1 p (sub3 p hp)) ⟨p4,R3.same s4⟩
 exact z
section
variable{X:Cx}{EX:EXT}{a b c:Expr}{pos:Pos}
theorem Co{op op':CmpOp}{r r':R2}{g g':List D->Option (D×Bool)}{f1 f2 f3:SE}(ho:OpR X (compareOp op) r)(ho':OpR X (compareOp op') r')(hs:OpS X.K (r2 r) g)(hs':OpS X.K (r2 r') g')(ha:JE X EX a f1)(hb:JE X EX b f2)(hc:JE X EX c f3)
 (hm:lastMarks [op,op'] [b,c]=false:=by with_unfolding_all rfl):JE X EX (.Compare a [op,op'] [b,c] pos) (dI g g' f1 f2 f3) :=
 ⟨(yH ho ho' ha.p hb.p hc.p hm).by fun σ H Q h=>Am hs hs' h⟩
end
end L2
namespace L2
open PySem PySem.Spec PyProof.Rows
section
variable{X:Cx}
noncomputable def yn(K:FZ):List V->Hp->(V->Hp->Prop)->Prop:=fun xs H Q=>∃ (p:Addr) (ns:List Int),xs=[V.ref p]/\SqT K H p (ns.map V.int)/\ns≠[]/\∀ M,M∈ns->(∀ a∈ns,a<=M)->Q (.int M) H
noncomputable def ym(K:FZ):List V->Hp->(V->Hp->Prop)->Prop:=fun xs H Q=>∃ (p:Addr) (ns:List Int),xs=[V.ref p]/\SqT K H p (ns.map V.int)/\ns≠[]/\∀ M,M∈ns->(∀ a∈ns,M<=a)->Q (.int M) H
theorem xb(hc:X.calm=true):aH X (.builtin "max") (yn X.K):=by
 intro pins s σ H xs us Q I r h;obtain ⟨p,ns,rfl,hq,ne,q⟩:=h;obtain ⟨u,rfl,ru⟩:=bT r;cases ru;obtain ⟨its,rv,pl,hz⟩:=I.tuple hq;obtain ⟨ps,rfl,e⟩:=dj rv
 have lp:ps.length=ns.length:=by rw [<- e,Do]
 have n0:0 < ns.length:=DS.mpr ne
 have ei:intItems ps.toArray=(ps.map fun p=>Value.int p.1 p.2).toArray:=by unfold intItems;simp
 have ht:s.heap.IsTuple p (intItems ps.toArray):=by rw [ei];exact pl
 have hlt:p < s.heap.objs.size:=by obtain ⟨_,e,_⟩:=ht;exact Dx e
 have sz:ps.toArray.size=ns.length:=by simp [lp]
 obtain ⟨b1,b2⟩:=argBest_gt (numAt ps.toArray) (ps.toArray.size - 1);refine call_max_walk (DZ ht ⟨s.heap.objs.size,_,_,_,_,_,_,rfl,Walks.tuple (A:=X.A.in1) (I.ok.hd hc) _ p (DL hlt) (intItems ps.toArray),⟨⟨_,Dw _ rfl,rfl,rfl⟩,ht.push _⟩,fun c hcm=> ?_,by simpa [intItems,lp] using n0,CmpOf.ints_gt (numAt ps.toArray) (fun _ _=>intItems_at),fun v h' tk hP hk=> ?_⟩)
 ·have e1:c=s.heap.objs.size\/c=p:=by simpa using hcm
  show c < (s.heap.push _).objs.size
  rw [DY]
  rcases e1 with e1 | e1
  ·rw [e1];exact Fd _
  ·rw [e1];exact EL hlt
 ·have hv:(intItems ps.toArray)[argBest (fun i j=>decide (numAt ps.toArray i > numAt ps.toArray j)) (ps.toArray.size - 1)]?=some v:=by simpa [intItems] using hP
  obtain ⟨t,rfl⟩:=intItems_at hv;rw [sz] at b1 b2 ⊢;refine ⟨.int _,H,I.kept (h':=h') (t':=tk) fun b' o e=>hk b' o (by have:=Dx e;simp;exact DL this) (Dk _ e),⟨t,rfl⟩,q _ ?_ fun a ha=> ?_⟩
  ·rw [cK e (by omega)]
   exact EJ _
  ·obtain ⟨j,hj,rfl⟩:=FR ha
   have:=b2 j (by omega);rw [cK e hj] at this;exact this
theorem wX(hc:X.calm=true):aH X (.builtin "min") (ym X.K):=by
 intro pins s σ H xs us Q I r h;obtain ⟨p,ns,rfl,hq,ne,q⟩:=h;obtain ⟨u,rfl,ru⟩:=bT r;cases ru;obtain ⟨its,rv,pl,hz⟩:=I.tuple hq;obtain ⟨ps,rfl,e⟩:=dj rv
 have lp:ps.length=ns.length:=by rw [<- e,Do]
 have n0:0 < ns.length:=DS.mpr ne
 have ei:intItems ps.toArray=(ps.map fun p=>Value.int p.1 p.2).toArray:=by unfold intItems;simp
 have ht:s.heap.IsTuple p (intItems ps.toArray):=by rw [ei];exact pl
 have hlt:p < s.heap.objs.size:=by obtain ⟨_,e,_⟩:=ht;exact Dx e
 have sz:ps.toArray.size=ns.length:=by simp [lp]
 obtain ⟨b1,b2⟩:=argBest_lt (numAt ps.toArray) (ps.toArray.size - 1);refine call_min_walk (DZ ht ⟨s.heap.objs.size,_,_,_,_,_,_,rfl,Walks.tuple (A:=X.A.in1) (I.ok.hd hc) _ p (DL hlt) (intItems ps.toArray),⟨⟨_,Dw _ rfl,rfl,rfl⟩,ht.push _⟩,fun c hcm=> ?_,by simpa [intItems,lp] using n0,CmpOf.ints_lt (numAt ps.toArray) (fun _ _=>intItems_at),fun v h' tk hP hk=> ?_⟩)
 ·have e1:c=s.heap.objs.size\/c=p:=by simpa using hcm
  show c < (s.heap.push _).objs.size
  rw [DY]
  rcases e1 with e1 | e1
  ·rw [e1];exact Fd _
  ·rw [e1];exact EL hlt
 ·have hv:(intItems ps.toArray)[argBest (fun i j=>decide (numAt ps.toArray i < numAt ps.toArray j)) (ps.toArray.size - 1)]?=some v:=by simpa [intItems] using hP
  obtain ⟨t,rfl⟩:=intItems_at hv;rw [sz] at b1 b2 ⊢;refine ⟨.int _,H,I.kept (h':=h') (t':=tk) fun b' o e=>hk b' o (by have:=Dx e;simp;exact DL this) (Dk _ e),⟨t,rfl⟩,q _ ?_ fun a ha=> ?_⟩
  ·rw [cK e (by omega)]
   exact EJ _
  ·obtain ⟨j,hj,rfl⟩:=FR ha
   have:=b2 j (by omega);rw [cK e hj] at this;exact this
end
noncomputable def fA:List D->Option (D×Bool)
 | [.tup ds]=>match aT ds with
  | some (n::ns)=>some (.int (jy (n::ns)),false)
  | _=>none
 | ds=>B8 ds
noncomputable def gH:List D->Option (D×Bool)
 | [.tup ds]=>match aT ds with
  | some (n::ns)=>some (.int (kb (n::ns)),false)
  | _=>none
 | ds=>gMin ds
theorem xf{X:Cx}(hc:X.calm=true):aH X (.builtin "max") (fun xs H Q=>(vn xs H Q\/rT X.K xs H Q)\/yn X.K xs H Q):=(xh hc).or (xb hc)
theorem wZ{X:Cx}(hc:X.calm=true):aH X (.builtin "min") (fun xs H Q=>(vm xs H Q\/rR X.K xs H Q)\/ym X.K xs H Q):=(w8 hc).or (wX hc)
theorem BF{K:FZ}:OpS K (fun xs H Q=>(vn xs H Q\/rT K xs H Q)\/yn K xs H Q) fA:=by
 intro vs ds H L Q d nw hm r e q;unfold fA at e
 split at e
 ·rename_i es
  obtain ⟨x,rfl,⟨p,xs,rfl,h1,h2⟩⟩:=aJ r
  split at e
  ·rename_i n ns en
   cases e;rw [bt en] at h2;rw [bd h2] at h1;refine .inr ⟨p,n::ns,rfl,.inl (.inl (aw h1).2),by simp,fun M m1 m2=> ?_⟩;obtain ⟨z1,z2⟩:=jx (l:=n::ns) (by simp);rw [nM m1 m2 z1 z2];exact q _ H (ai.refl _) rfl
  ·cases e
 ·exact .inl (os_max vs _ H L Q d nw hm r e q)
theorem BE{K:FZ}:OpS K (fun xs H Q=>(vm xs H Q\/rR K xs H Q)\/ym K xs H Q) gH:=by
 intro vs ds H L Q d nw hm r e q;unfold gH at e
 split at e
 ·rename_i es
  obtain ⟨x,rfl,⟨p,xs,rfl,h1,h2⟩⟩:=aJ r
  split at e
  ·rename_i n ns en
   cases e;rw [bt en] at h2;rw [bd h2] at h1;refine .inr ⟨p,n::ns,rfl,.inl (.inl (aw h1).2),by simp,fun M m1 m2=> ?_⟩;obtain ⟨z1,z2⟩:=jw (l:=n::ns) (by simp);rw [mW m1 m2 z1 z2];exact q _ H (ai.refl _) rfl
  ·cases e
 ·exact .inl (os_min vs _ H L Q d nw hm r e q)
noncomputable def p7(nm:Str):SS:=fun ρ=>some (.ex nm,ρ)
theorem A3{P:Program}{w:World}{K:FZ}{mg:Str->Option Value}{base:Heap}{N:List Str}{qual:Str}{scope:Scope}{f:Addr}{cd:Value}{A:Around}{outer:List Env}{s:Shared}{H:Hp}{E:XK}{x:Str}{C:Addr}{bm:List Value}{B newId initId:String}{np cpos pos:Pos}{k:Nat}
 (O:OwnCls x C bm newId mg base) (FB:ExcBaseFacts B newId initId bm) (hc:gK K x C) (hr:cx k (A.deeper (envOfC qual scope s.heap.objs.size f cd)))
 (hg:Gl (bZ (CXr P w) P w K mg base N qual scope f cd A outer s H E) x) (hd:(x == ("__debug__" : Str))=false:=by decide):JS (bZ (CXr P w) P w K mg base N qual scope f cd A outer s H E) (EXf K E) (.Raise (some (.Call (.Name x np) [] [] cpos)) none pos) (p7 x) :=
 ⟨(wl O FB hr.hd hg hd).by fun D σ H ⟨F,ρ,W,R,h⟩=>h σ H W .refl (fun _ z=> .inl z) R C hc none⟩
theorem Ok.x{P:Program}{w:World}{K:FZ}{mg:Str->Option Value}{base:Heap}{x:Str}{ps:List Str}{k:Nat}{sp sp':Sp}(h:Ok P w K mg base x ps k sp)(hi:∀ vs H Q E,sp' vs H Q E->sp vs H Q E):OkX P w K mg base x ps k sp':=by
 obtain ⟨f,fd,h1,h2,h3,F⟩:=h.ex;refine ⟨f,fd,h1,h2,h3,⟨fun vs H Q E q=>F.len vs H Q E (hi _ _ _ _ q),fun A outer s H args us vs Q E hr he hb hv hs=> ?_⟩⟩
 refine codeAny_mono (F.run A outer s H args us vs Q E hr he hb hv (hi _ _ _ _ hs)) fun r s' q=> ?_
 cases r with
 | ok f=>cases f<;>exact q
 | error e=>exact q.elim
theorem AS{K:FZ}{run:FS}{H:Hp}{a:Addr}{ns:List Int}(hrun:∃ x,run [.klst (ns.map D.int)]=some (.ok (.bl true) false,x))(hS:SqL K H a (ns.map V.int)):spF K none run [.ref a] H (fun v _=>v = .bl true) fun _ _ _=>False:=by
 obtain ⟨x,hx⟩:=hrun;refine ⟨[],[],[.klst (ns.map D.int)],rfl,(fun p hp=>by cases hp),(fun p hp=>by cases hp),fun j d v _ h1 h2=> ?_,(fun k z=>by cases z),fun _=>rfl,?_⟩
 ·have hh:hid ([]++[]) H=H:=by funext b;unfold hid;simp
  rw [hh]
  match j,h1,h2 with
  | 0,h1,h2 =>
   simp only [DN,Option.some.injEq] at h1 h2;subst h1 h2;exact ⟨a,_,rfl,hS,dv ns⟩
  | j+1,h1,h2=>simp at h1
 ·rw [hx]
  exact fun v H' _ rv _=>rv
theorem wQ{P:Program}{w:World}{H:Hp}{s:Shared}{e:Value}{s':Shared}(h:CXr P w [] H s (fun _ _ _=>False) e s'):False:=by
 obtain ⟨_,_,_,_,_,_,_,_,_,_,z⟩:=h;exact z
section
variable{X:Cx}{EX:EXT}{a b e:Expr}{es:List Expr}{pos p:Pos}{x y:Arg}{as:List Arg}
theorem c_gk{n:Str}{d:D}(hg:Gl X n)(hm:∃ a,X.mg n=some (.ref a)/\∀ H,aF X.K H d (.ref a))(hd:(n == ("__debug__" : Str))=false:=by decide):JE X EX (.Name n pos) (sC d):=by
 obtain ⟨a,hm,hr⟩:=hm;exact ⟨(js (v:= .ref a) hg hm rfl hd).by fun _ _ _=>oH hr⟩
theorem v(i:Nat){n:Str}(hN:X.N[i]?=some n:=by rfl)(hv:Vis X.env.scope n:=by first | exact Or.inl rfl | exact Or.inr (Or.inl rfl) | exact Or.inr (Or.inr rfl))(hd:(n == ("__debug__" : Str))=false:=by decide)(hcd:(n == ("__classdict__" : Str))=false:=by decide):JE X EX (.Name n pos) (aY i):=c_var hN hv hd hcd
theorem vb(i:Nat){n:Str}(hN:X.N[i]?=some n:=by rfl)(hv:Vis X.env.scope n:=by first | exact Or.inl rfl | exact Or.inr (Or.inl rfl) | exact Or.inr (Or.inr rfl))(hd:(n == ("__debug__" : Str))=false:=by decide)(hcd:(n == ("__classdict__" : Str))=false:=by decide):JB X EX (.Name n pos) (.bor i):=cb_var hN hv hd hcd
theorem b_add(ha:JB X EX a x)(hb:JB X EX b y):JE X EX (.BinOp a .Add b pos) (sOp aU [x,y]):=uO BN os_add ha hb
theorem b_sub(ha:JB X EX a x)(hb:JB X EX b y):JE X EX (.BinOp a .Sub b pos) (sOp cq [x,y]):=uO op_sub os_sub ha hb
theorem b_mul(ha:JB X EX a x)(hb:JB X EX b y):JE X EX (.BinOp a .Mult b pos) (sOp ie [x,y]):=uO vA yR ha hb
theorem b_fdiv(ha:JB X EX a x)(hb:JB X EX b y):JE X EX (.BinOp a .FloorDiv b pos) (sOp fB [x,y]):=uO BK BH ha hb
theorem b_mod(ha:JB X EX a x)(hb:JB X EX b y):JE X EX (.BinOp a .Mod b pos) (sOp eO [x,y]):=uO op_mod os_mod ha hb
theorem b_pow(ha:JB X EX a x)(hb:JB X EX b y):JE X EX (.BinOp a .Pow b pos) (sOp zN [x,y]):=uO op_pow os_pow ha hb
theorem b_ix(ha:JB X EX a x)(hb:JB X EX b y)(hp:qW b:=by exact fun _ _=>rfl):JE X EX (.Subscript a b pos) (sOp gIx [x,y]):=c_ix ix_seq os_ix ha hb hp
theorem q_eq(hu:X.A.units+10 < cLine)(ha:JB X EX a x)(hb:JB X EX b y):JE X EX (.Compare a [.Eq] [b] pos) (sOp gEq [x,y]):=tz (yX (by omega)) C1 ha hb (eG _)
theorem q_le(ha:JB X EX a x)(hb:JB X EX b y):JE X EX (.Compare a [.LtE] [b] pos) (sOp gLe [x,y]):=tz yV yU ha hb (eG _)
theorem q_gt(ha:JB X EX a x)(hb:JB X EX b y):JE X EX (.Compare a [.Gt] [b] pos) (sOp gGt [x,y]):=tz C3 CZ ha hb (eG _)
theorem q_ge(ha:JB X EX a x)(hb:JB X EX b y):JE X EX (.Compare a [.GtE] [b] pos) (sOp gGe [x,y]):=tz C4 C0 ha hb (eG _)
theorem q_in(hu:X.A.units+10 < cLine)(ha:JB X EX a x)(hb:JB X EX b y)(hm:behindInMarks .In b=false:=by with_unfolding_all rfl):JE X EX (.Compare a [.In] [b] pos) (sOp gIn [x,y]):=tz (yW hu) CY ha hb hm
theorem t_eq(hu:X.A.units+10 < cLine)(ha:JB X EX a x)(hb:JB X EX b y):JT X EX (.Compare a [.Eq] [b] pos) (aK gEq [x,y]):=mY (yX (by omega)) C1 ha hb (eG _)
theorem t_ne(hu:X.A.units+10 < cLine)(ha:JB X EX a x)(hb:JB X EX b y):JT X EX (.Compare a [.NotEq] [b] pos) (aK gNe [x,y]):=mY (op_neD (by omega)) os_ne ha hb (eG _)
theorem t_lt(ha:JB X EX a x)(hb:JB X EX b y):JT X EX (.Compare a [.Lt] [b] pos) (aK gLt [x,y]):=mY op_lt os_lt ha hb (eG _)
theorem t_gt(ha:JB X EX a x)(hb:JB X EX b y):JT X EX (.Compare a [.Gt] [b] pos) (aK gGt [x,y]):=mY C3 CZ ha hb (eG _)
theorem t_ge(ha:JB X EX a x)(hb:JB X EX b y):JT X EX (.Compare a [.GtE] [b] pos) (aK gGe [x,y]):=mY C4 C0 ha hb (eG _)
theorem t_is(ha:JB X EX a x)(hb:JB X EX b y):JT X EX (.Compare a [.Is] [b] pos) (aK gIs [x,y]):=mY op_isD os_is ha hb (eG _)
theorem t_in(hu:X.A.units+10 < cLine)(ha:JB X EX a x)(hb:JB X EX b y)(hm:behindInMarks .In b=false:=by with_unfolding_all rfl):JT X EX (.Compare a [.In] [b] pos) (aK gIn [x,y]):=mY (yW hu) CY ha hb hm
variable(he:starEach (e::es) X.env=(false,eval e X.env)::starEach es X.env:=by rfl)(hpl:(backTo pos (starEach es X.env)).any (·.1)=false:=by rfl)
include he hpl
theorem b_len(m:X.mg "len" = none)(ha:JA X EX (e::es) as)(hg:Gl X "len" := by rfl):JE X EX (.Call (.Name "len" p) (e::es) [] pos) (sOp bS as):=ib xl os_len hg m PySem.boot_len ha (by decide) (by decide) he hpl
theorem b_sum(m:X.mg "sum" = none)(ha:JA X EX (e::es) as)(hg:Gl X "sum" := by rfl)(hc:X.calm=true:=by rfl):JE X EX (.Call (.Name "sum" p) (e::es) [] pos) (sOp iY as):=ib (wV hc) os_sum hg m PyProof.Rows.boot_sum ha (by decide) (by decide) he hpl
theorem b_all(m:X.mg "all" = none)(ha:JA X EX (e::es) as)(hg:Gl X "all" := by rfl)(hc:X.calm=true:=by rfl):JE X EX (.Call (.Name "all" p) (e::es) [] pos) (sOp ki as):=ib (xo hc) os_all hg m PyProof.Rows.boot_all ha (by decide) (by decide) he hpl
theorem b_max(m:X.mg "max" = none)(ha:JA X EX (e::es) as)(hg:Gl X "max" := by rfl)(hc:X.calm=true:=by rfl):JE X EX (.Call (.Name "max" p) (e::es) [] pos) (sOp fA as):=ib (xf hc) BF hg m PyProof.Rows.boot_max ha (by decide) (by decide) he hpl
theorem b_min(m:X.mg "min" = none)(ha:JA X EX (e::es) as)(hg:Gl X "min" := by rfl)(hc:X.calm=true:=by rfl):JE X EX (.Call (.Name "min" p) (e::es) [] pos) (sOp gH as):=ib (wZ hc) BE hg m PyProof.Rows.boot_min ha (by decide) (by decide) he hpl
theorem Cq(m:X.mg "tuple" = none)(ha:JA X EX (e::es) as)(hg:Gl X "tuple" := by rfl)(hc:X.calm=true:=by rfl):JE X EX (.Call (.Name "tuple" p) (e::es) [] pos) (sOp dL as):=gL (sZ hc) yM hg m PyProof.Rows.boot_tuple ha (by decide) (by decide) he hpl
theorem b_set(m:X.mg "set" = none)(ha:JA X EX (e::es) as)(hg:Gl X "set" := by rfl)(hc:X.calm=true:=by rfl):JE X EX (.Call (.Name "set" p) (e::es) [] pos) (sOp wJ as):=gL (wW hc) os_set hg m PyProof.Rows.boot_set ha (by decide) (by decide) he hpl
theorem b_int(m:X.mg "int" = none)(ha:JA X EX (e::es) as)(hg:Gl X "int" := by rfl):JE X EX (.Call (.Name "int" p) (e::es) [] pos) (sOp uw as):=gL xm os_int hg m PyProof.Rows.boot_int ha (by decide) (by decide) he hpl
theorem Cs(m:X.mg "range" = none)(ha:JA X EX (e::es) as)(hg:Gl X "range" := by rfl):JE X EX (.Call (.Name "range" p) (e::es) [] pos) (sOp nk as):=gL tf yQ hg m PyProof.Rows.boot_range ha (by decide) (by decide) he hpl
end
section
variable{X:Cx}{EX:EXT}{e:Expr}{a:Arg}{p1 p2 pos:Pos}
theorem xt(he:JB X EX e a)(m1:X.mg "isinstance" = none)(m2:X.mg "int" = none)(g1:Gl X "isinstance" := by rfl)(g2:Gl X "int" := by rfl)(hs:starEach [e,.Name "int" p1] X.env=(false,eval e X.env)::starEach [.Name "int" p1] X.env:=by rfl):JE X EX (.Call (.Name "isinstance" p2) [e,.Name "int" p1] [] pos) (sOp (fZ "int") [a]):=vR (.inl rfl) he g1 m1 g2 m2 PyProof.Rows.boot_int (by decide) (by decide) hs
theorem uS(he:JB X EX e a)(m1:X.mg "isinstance" = none)(m2:X.mg "bool" = none)(g1:Gl X "isinstance" := by rfl)(g2:Gl X "bool" := by rfl)(hs:starEach [e,.Name "bool" p1] X.env=(false,eval e X.env)::starEach [.Name "bool" p1] X.env:=by rfl):JE X EX (.Call (.Name "isinstance" p2) [e,.Name "bool" p1] [] pos) (sOp (fZ "bool") [a]):=vR (.inr (.inl rfl)) he g1 m1 g2 m2 PyProof.Rows.boot_bool (by decide) (by decide) hs
theorem tF(he:JB X EX e a)(m1:X.mg "isinstance" = none)(m2:X.mg "tuple" = none)(g1:Gl X "isinstance" := by rfl)(g2:Gl X "tuple" := by rfl)(hs:starEach [e,.Name "tuple" p1] X.env=(false,eval e X.env)::starEach [.Name "tuple" p1] X.env:=by rfl):JE X EX (.Call (.Name "isinstance" p2) [e,.Name "tuple" p1] [] pos) (sOp (fZ "tuple") [a]):=vR (.inr (.inr (.inl rfl))) he g1 m1 g2 m2 PyProof.Rows.boot_tuple (by decide) (by decide) hs
theorem xr(he:JB X EX e a)(m1:X.mg "isinstance" = none)(m2:X.mg "str" = none)(g1:Gl X "isinstance" := by rfl)(g2:Gl X "str" := by rfl)(hs:starEach [e,.Name "str" p1] X.env=(false,eval e X.env)::starEach [.Name "str" p1] X.env:=by rfl):JE X EX (.Call (.Name "isinstance" p2) [e,.Name "str" p1] [] pos) (sOp (fZ "str") [a]):=vR (.inr (.inr (.inr (.inr rfl)))) he g1 m1 g2 m2 PyProof.Rows.boot_str (by decide) (by decide) hs
end
section
variable{X:Cx}{EX:EXT}{e:Expr}{pos p1 apos cpos:Pos}{n:Str}{f:SE}
theorem zk(j:Nat)(h:JE X EX e f)(hN:X.N[j]?=some n:=by rfl)(hv:Vis X.env.scope n:=by first | exact Or.inl rfl | exact Or.inr (Or.inl rfl) | exact Or.inr (Or.inr rfl))(hst:starEach [e] X.env=(false,eval e X.env)::starEach [] X.env:=by rfl)
 (hbase:attributeBase (.Name n p1) "append" X.env (eval (.Name n p1) X.env)=eval (.Name n p1) X.env:=by rfl) (hfew:((backTo cpos (starEach [e] X.env)).all (fun x => !x.1)&&(backToKw cpos (keywordEach [] X.env)).all (fun x=>x.1.isSome)&&decide ([e].length+([]:List Keyword).length+(if ([]:List Keyword).isEmpty then 0 else 1) < 30))=true:=by rfl)
 (hline:(apos.endLine == cpos.line)=true:=by rfl) (hplain:(backTo cpos (starEach [] X.env)).any (·.1)=false:=by rfl) (hd:(n == ("__debug__" : Str))=false:=by decide) (hcd:(n == ("__classdict__" : Str))=false:=by decide) :
 JE X EX (.Call (.Attribute (.Name n p1) "append" apos) [e] [] cpos) (bU j cv [f]):=Aq wy hU Fu Ft hN hv (.cons h .nil hst) hbase hfew hline hst hplain hd hcd
theorem zj(j:Nat)(h:JE X EX e f)(hN:X.N[j]?=some n:=by rfl)(hv:Vis X.env.scope n:=by first | exact Or.inl rfl | exact Or.inr (Or.inl rfl) | exact Or.inr (Or.inr rfl))(hst:starEach [e] X.env=(false,eval e X.env)::starEach [] X.env:=by rfl)
 (hbase:attributeBase (.Name n p1) "extend" X.env (eval (.Name n p1) X.env)=eval (.Name n p1) X.env:=by rfl) (hfew:((backTo cpos (starEach [e] X.env)).all (fun x => !x.1)&&(backToKw cpos (keywordEach [] X.env)).all (fun x=>x.1.isSome)&&decide ([e].length+([]:List Keyword).length+(if ([]:List Keyword).isEmpty then 0 else 1) < 30))=true:=by rfl)
 (hline:(apos.endLine == cpos.line)=true:=by rfl) (hplain:(backTo cpos (starEach [] X.env)).any (·.1)=false:=by rfl) (hd:(n == ("__debug__" : Str))=false:=by decide) (hcd:(n == ("__classdict__" : Str))=false:=by decide) :
 JE X EX (.Call (.Attribute (.Name n p1) "extend" apos) [e] [] cpos) (bU j cu [f]):=Aq wx ug PySem.F.slot_list_extend PySem.F.type_list_extend hN hv (.cons h .nil hst) hbase hfew hline hst hplain hd hcd
end
end L2
namespace L2
namespace Td
open PySem L2 PyProof.Rows
noncomputable def nb(j:Int):List (Int×Int)->List Int
 | []=>[]
 | t::r=>(if j=t.1 then [t.2] else if j=t.2 then [t.1] else [])++nb j r
theorem oY(j:Int):∀ (a b:List (Int×Int)),nb j (a++b)=nb j a++nb j b
 | [],b=>rfl
 | t::r,b=>by
  show _++nb j (r++b)=_
  rw [oY j r b]
  show _=(_++nb j r)++nb j b
  rw [Eh]
theorem zc(j:Int):∀ (a:List (Int×Int)),(nb j a).length<=a.length
 | []=>Dy _
 | t::r=>by
  have:=zc j r
  show (_++nb j r).length<=r.length+1
  rw [DI]
  split
  ·simp;omega
  ·split
   ·simp;omega
   ·simp;omega
structure Adj(H:Hp)(p:Addr)(ls:List Addr)(done:List (Int×Int))(H':Hp):Prop where
 same:ai H H'
 at_:H' p=some (.lst (ls.map V.ref))
 nd:ls.Nodup
 np:p∉ls
 pn:H p=none
 ln:∀ l∈ls,H l=none
 lst:∀ (j:Nat) (l:Addr),ls[j]?=some l->H' l=some (.lst ((nb j done).map V.int))
theorem Adj.inj{H:Hp}{p:Addr}{ls:List Addr}{done:List (Int×Int)}{H':Hp}(A:Adj H p ls done H'){i j:Nat}{l:Addr}(h1:ls[i]?=some l)(h2:ls[j]?=some l):i=j:=by
 obtain ⟨a1,e1⟩:=DA.mp h1;obtain ⟨a2,e2⟩:=DA.mp h2;exact (List.getElem_inj A.nd).mp (e1.trans e2.symm)
theorem Adj.step{H:Hp}{p:Addr}{ls:List Addr}{done:List (Int×Int)}{H1:Hp}(A:Adj H p ls done H1){a b:Nat}{la lb:Addr}(ha:ls[a]?=some la)(hb:ls[b]?=some lb)(hab:a≠b) :
 Adj H p ls (done++[((a:Int),(b:Int))]) (upd (upd H1 la (.lst ((nb a done++[(b:Int)]).map V.int))) lb (.lst ((nb b done++[(a:Int)]).map V.int))):=by
 have nab:la≠lb:=fun z=>hab (A.inj ha (z ▸ hb))
 have ma:la∈ls:=DD ha;have mb:lb∈ls:=DD hb;refine ⟨fun c o q=> ?_,?_,A.nd,A.np,A.pn,A.ln,fun j l hj=> ?_⟩
 ·rw [am (aq q (A.ln lb mb)),am (aq q (A.ln la ma))]
  exact A.same c o q
 ·rw [am (fun z:p=lb=>A.np (by rw [z];exact mb)),am (fun z:p=la=>A.np (by rw [z];exact ma))]
  exact A.at_
 ·rw [oY]
  by_cases e1:l=lb
  ·subst e1
   have:j=b:=A.inj hj hb;subst this;rw [ao]
   have:nb (j:Int) [((a:Int),(j:Int))]=[(a:Int)]:=by
    show (if (j:Int)=(a:Int) then _ else if (j:Int)=(j:Int) then _ else _)++_=_
    rw [if_neg (by omega),if_pos rfl];rfl
   rw [this]
  ·rw [am e1]
   by_cases e2:l=la
   ·subst e2
    have:j=a:=A.inj hj ha;subst this;rw [ao]
    have:nb (j:Int) [((j:Int),(b:Int))]=[(b:Int)]:=by
     show (if (j:Int)=(j:Int) then _ else _)++_=_
     rw [if_pos rfl];rfl
    rw [this]
   ·rw [am e2,A.lst j l hj]
    have:nb (j:Int) [((a:Int),(b:Int))]=[]:=by
     have n1:j≠a:=fun z=>by subst z;rw [hj] at ha;exact e2 (Option.some.inj ha)
     have n2:j≠b:=fun z=>by subst z;rw [hj] at hb;exact e1 (Option.some.inj hb)
     show (if (j:Int)=(a:Int) then _ else if (j:Int)=(b:Int) then _ else _)++_=_
     rw [if_neg (by omega),if_neg (by omega)];rfl
    rw [this,DW]
theorem Paired.get{α β:Type}{R:α->β->Prop}:∀ {l1:List α} {l2:List β} {i:Nat} {a:α},Paired R l1 l2->l1[i]?=some a->∃ b,l2[i]?=some b/\R a b
 | _,_,_,_,.nil,e=>by simp at e
 | _,_,0,_,.cons r _,e=>by simp at e;subst e;exact ⟨_,rfl,r⟩
 | _,_,i+1,a,.cons _ t,e=>by
  obtain ⟨u,h1,h2⟩:=Paired.get (i:=i) (a:=a) t (by simpa using e);exact ⟨u,by simpa using h1,h2⟩
noncomputable def xS(K:FZ):Sp:=fun vs H Q _=>∃ wb many ties,vs=[.ref wb]/\WebAt K H wb many ties/\1<=many/\many<=40/\∀ p ls H',ls.length=many.toNat->Adj H p ls ties H'->Q (.ref p) H'
noncomputable def vz:D->Option (Int×Int)
 | .tup [.int a,.int b]=>some (a,b)
 | _=>none
noncomputable def iP:List D->Option (List (Int×Int))
 | []=>some []
 | d::r=>match vz d,iP r with
  | some p,some ps=>some (p::ps)
  | _,_=>none
noncomputable def sy(many:Int)(ts:List (Int×Int)):Bool:=decide (1<=many)&&decide (many<=40)&&decide (ts.length<=60)&&ts.all (fun t=>decide (0<=t.1)&&decide (t.1 < t.2)&&decide (t.2 < many))&&decide ts.Nodup
noncomputable def adjD(many:Int)(ts:List (Int×Int)):D:= .lst ((List.range many.toNat).map fun j=> .lst ((nb (j:Nat) ts).map D.int))
noncomputable def nv:FS:=fun ds=>match ds with
 | [.tup [.int many,.tup ties]]=>match iP ties with
  | some ts=>if sy many ts then some (.ok (adjD many ts) false,.non) else none
  | none=>none
 | _=>none
theorem wq{K:FZ}{H:Hp}{d:D}{t:Int×Int}(h:vz d=some t){v:V}(r:aF K H d v):AA K H v t:=by
 unfold vz at h
 split at h
 ·cases h
  obtain ⟨p,xs,rfl,h2,h3⟩:=r;refine ⟨p,rfl,?_⟩
  match xs,h3 with
  | [x,y],⟨r1,r2,_⟩=>rw [h2,show x=_ from r1,show y=_ from r2]
  | [],h3=>exact h3.elim
  | [_],⟨_,h3⟩=>exact h3.elim
  | _::_::_::_,⟨_,_,h3⟩=>exact h3.elim
 ·cases h
theorem mG{K:FZ}{H:Hp}:∀ {ds:List D} {ts:List (Int×Int)} {xs:List V},iP ds=some ts->ak K H ds xs->Paired (AA K H) xs ts
 | [],ts,[],h,_=>by cases h;exact .nil
 | d::ds,ts,x::xs,h,r=>by
  unfold iP at h
  split at h
  ·rename_i p ps h1 h2
   cases h;exact .cons (wq h1 r.1) (mG h2 r.2)
  ·cases h
 | [],_,_::_,_,r=>r.elim
 | _::_,_,[],_,r=>r.elim
theorem vg{K:FZ}{H:Hp}{ls:List Addr}{g:Nat->List Int}:∀ (n:Nat) (k:Nat),ls.length=n->(∀ (j:Nat) (l:Addr),ls[j]?=some l->H l=some (.lst ((g (k+j)).map V.int)))->ak K H ((List.range' k n).map fun j=> .lst ((g j).map D.int)) (ls.map V.ref)
 | 0,k,hl,h=>by
  have:ls=[]:=List.length_eq_zero_iff.mp hl;subst this;exact trivial
 | n+1,k,hl,h=>by
  cases ls with
  | nil=>cases hl
  | cons l ls =>
   refine ⟨⟨l,_,rfl,h 0 l rfl,dv _⟩,?_⟩
   exact vg n (k+1) (by simpa using hl) fun j l' e=>by
    have:=h (j+1) l' (by simpa using e);rw [show k+1+j=k+(j+1) by omega];exact this
theorem uA{ds:List D}{r:Res×D}(h:nv ds=some r):∃ many ties ts,ds=[.tup [.int many,.tup ties]]/\iP ties=some ts/\sy many ts=true/\r=(.ok (adjD many ts) false,.non):=by
 unfold nv at h
 split at h
 ·split at h
  ·split at h
   ·cases h;exact ⟨_,_,_,rfl,‹_›,‹_›,rfl⟩
   ·cases h
  ·cases h
 ·cases h
theorem two{K:FZ}{H:Hp}{a b:D}{xs:List V}(h:ak K H [a,b] xs):∃ x y,xs=[x,y]/\aF K H a x/\aF K H b y:=by
 match xs,h with
 | [x,y],⟨r1,r2,_⟩=>exact ⟨x,y,rfl,r1,r2⟩
 | [],h3=>exact h3.elim
 | [_],⟨_,h3⟩=>exact h3.elim
 | _::_::_::_,⟨_,_,h3⟩=>exact h3.elim
theorem tied_x{P:Program}{w:World}{K:FZ}{mg:Str->Option Value}{base:Heap}(h:Ok P w K mg base "tied_places" ["web"] 1 (xS K)):OkX P w K mg base "tied_places" ["web"] 1 (spF K none nv) :=
 Ok.x h fun vs H Q E q=>by
  obtain ⟨Z,W,ds,hlen,_,hmt,hf,_,hW,hm⟩:=q;have hW:=hW rfl;subst hW
  cases e:nv ds with
  | none=>rw [e] at hm;exact hm.elim
  | some r =>
   obtain ⟨many,ties,ts,rfl,e1,hg,rfl⟩:=uA e;rw [e] at hm;have hm:∀ v H',Fr [] H H'->aF K (hid ([]++Z) H') (adjD many ts) v->(∀ p,([]:List Addr)=[p]->aO K H' (hid ([]++Z) H') p .non)->Q v H':=hm
   obtain ⟨v,rfl⟩:∃ v,vs=[v]:=by
    match vs,hlen with
    | [v],_=>exact ⟨v,rfl⟩
   obtain ⟨wb,xs,rfl,h2,h3⟩:=hf 0 _ _ (by intro z;cases z) rfl rfl;obtain ⟨x,y,rfl,r1,r2⟩:=two h3;have r1:x = .int many:=r1;subst r1;obtain ⟨t,bs,rfl,h4,h5⟩:=r2;unfold sy at hg;simp only [DK,Eo,DJ] at hg;obtain ⟨⟨⟨⟨g1,g2⟩,g3⟩,g4⟩,g5⟩:=hg;refine ⟨wb,many,ts,rfl,⟨⟨t,bs,ay _ _ h2,ay _ _ h4,mG e1 (ai.repDs ay h5)⟩,g3,fun t ht=> ?_,g5⟩,g1,g2,fun p ls H' el A=> ?_⟩
   ·have:=g4 t ht
    exact ⟨this.1.1,this.1.2,this.2⟩
   ·have nz:∀ b,H b=none->b∉[]++Z:=fun b e z=>by
     have:=hmt b z;rw [e] at this;exact this
    refine hm (.ref p) H' A.same.fr ⟨p,_,rfl,(aI (nz p A.pn)).trans A.at_,?_⟩ fun p z=>by cases z
    have:=vg (K:=K) (H:=hid ([]++Z) H') (ls:=ls) (g:=fun j=>nb (j:Nat) ts) many.toNat 0 el fun j l e=>by
     rw [aI (nz l (A.ln l (DD e))),Ep];exact A.lst j l e
    rw [<- List.range_eq_range'] at this;exact this
end Td
end L2
namespace L2
open PySem
noncomputable def eA:SS:=(au (aX (aK gLt [.bor 1,.ex (sOp bS [.bor 0])]) (aB (sOp gIx [.bor 0,.bor 1])) bf) (aB (sC (.int 0))))
noncomputable def br:FS:=az 2 2 none eA
noncomputable def kC:SS:=(au (aW 0 (sOp eO [.ex (sOp aU [.bor 0,.ex (sC (.int 7919))]),.ex (sC (.int 2147483647))])) (aB (sOp eO [.ex (sOp aU [.ex (sOp aU [.ex (sOp ie [.bor 0,.bor 0]),.ex (sOp ie [.ex (sC (.int 48271)),.bor 0])]),.ex (sC (.int 12345))]),.ex (sC (.int 2147483629))])))
noncomputable def dF:FS:=az 1 1 none kC
noncomputable def ik:SS:=(au (aW 1 (sOp fA [.bor 0,.ex (sOp cq [.ex (sC (.int 0)),.bor 0])])) (aB (bG [(aY 1),(sOp uw [.ex (sOp gGe [.bor 1,.ex (sOp zN [.ex (sC (.int 10)),.ex (sC (.int 18))])])]),(sOp eO [.bor 1,.ex (sC (.int 1000003))])])))
noncomputable def bY:FS:=az 1 2 none ik
noncomputable def gp:SS:=(au (aX (aK gEq [.ex (sOp gIx [.bor 0,.ex (sC (.int 1))]),.ex (sC (.int 1))]) (au (aW 2 (sOp eO [.ex (sOp gIx [.bor 0,.ex (sC (.int 0))]),.bor 1])) (au (eD lM 0 (sOp fB [.ex (sOp gIx [.bor 0,.ex (sC (.int 0))]),.bor 1]) (sC (.int 0))) (dD 2))) bf) (au (eD lM 0 (ar none none dF [.ex (sOp aU [.ex (ar none none dF [.ex (sOp gIx [.bor 0,.ex (sC (.int 2))])]),.ex (sC (.int 7))])]) (sC (.int 2))) (aB (sOp eO [.ex (sOp fB [.ex (sOp gIx [.bor 0,.ex (sC (.int 2))]),.ex (sC (.int 64))]),.bor 1]))))
noncomputable def aD:FS:=az 2 3 (some 0) gp
theorem qz{a b:Int}(h1 : -(2 ^ 64) < a)(h2:a < 2 ^ 64):oX a b=true:=by unfold oX;rw [DF ⟨h1,h2⟩];rfl
noncomputable def sf(s:Int):Int:=(((s+7919) % 2147483647) * ((s+7919) % 2147483647)+48271 * ((s+7919) % 2147483647)+12345) % 2147483629
theorem zZ(s:Int):dF [.int s]=some (.ok (.int (sf s)) false,.non):=by
 have m1:oX ((s+7919) % 2147483647) ((s+7919) % 2147483647)=true:=qz (by omega) (by omega);have m2:oX 48271 ((s+7919) % 2147483647)=true:=qz (by omega) (by omega);unfold dF kC;simp only [az,ini,iX,ioD,bf,au,aW,aB,oM,dD,ci,aX,mh,iH,eD,bU,ar,sOp,aK,sC,aY,aR,bG,evA,DE,ES,dC,lO,eB,sIf,jo,sOr,bV,jn,fT,sBl,bE,cO,eE,cm,im,cG,eJ,dh,dI,dP,bM,cH,ce,fo,eV,kY,cz,ot,oq,Tg.ge,Dq,EH,DN,DR,EF,EG,Ef,DX,List.replicate,FI,Nat.reduceSub,Nat.reduceAdd,Ep,Option.isNone,if_true,reduceIte,decide_true,Fj,EW,FK,Fv,Fk,FD,Fn,EN,reduceCtorEq,eO,aU,ie,Int.reduceLT,m1,m2];rfl
theorem BY{n i:Nat}(h:i < n):ixN n (i:Int)=some i:=by
 unfold ixN;rw [if_pos (by omega),if_pos (by omega)];rfl
theorem km{α:Type}{l:List α}{i:Nat}{x:α}(h:l[i]?=some x):atI l (i:Int)=some x:=by
 unfold atI;rw [BY (DA.mp h).1];exact h
section
variable{α:Type}{a b c d:α}{l:List α}
theorem Dh:atI (a::l) 0=some a:=km (i:=0) rfl
theorem Dg:atI (a::b::l) 1=some b:=km (i:=1) rfl
theorem atI_2:atI (a::b::c::l) 2=some c:=km (i:=2) rfl
end
theorem jD{ds:List D}{i:Int}{d:D}(h:atI ds i=some d):gIx [.lst ds,.int i]=some (d,false):=by unfold gIx;simp only [h]
theorem zS{ds:List D}{i:Int}{d:D}(h:atI ds i=some d):gIx [.klst ds,.int i]=some (d,false):=by unfold gIx;simp only [h]
theorem qF{ds:List D}{i:Int}{d:D}(h:atI ds i=some d):gIx [.tup ds,.int i]=some (d,false):=by unfold gIx;simp only [h]
theorem jE(a b:Int):gEq [.int a,.int b]=some (.bl (decide (a=b)),false):=by
 unfold gEq;simp only [aj,Bool.and_self,if_true,eqD,nrm,eqN];rw [show (a == b)=decide (a=b) from rfl]
theorem B5(a b:Int):gNe [.int a,.int b]=some (.bl (!decide (a=b)),false):=by
 unfold gNe;simp only [aj,Bool.and_self,if_true,eqD,nrm,eqN];rw [show (a == b)=decide (a=b) from rfl]
theorem qE{a b:Int}(h:0 < b):eO [.int a,.int b]=some (.int (a % b),false):=by unfold eO;simp only [h,decide_true,if_true]
theorem nr{a b:Int}(h:0 < b)(h2:b < 1073741824):fB [.int a,.int b]=some (.int (a / b),false):=by unfold fB;simp only [h,h2,and_self,decide_true,if_true]
theorem B4:zN [.int 10,.int 18]=some (.int 1000000000000000000,false):=rfl
noncomputable def wo(a f s:Int):D:= .lst [.int a,.int f,.int s]
theorem Cb(c:Int):∃ a f s,bY [.int c]=some (.ok (wo a f s) true,.non):=by
 refine ⟨if 0 - c > c then 0 - c else c,if decide (1000000000000000000<=(if 0 - c > c then 0 - c else c)) then 1 else 0,(if 0 - c > c then 0 - c else c) % 1000003,?_⟩;unfold bY ik;simp only [az,ini,iX,ioD,bf,au,aW,aB,oM,dD,ci,aX,mh,iH,eD,bU,ar,sOp,aK,sC,aY,aR,bG,evA,DE,ES,dC,lO,eB,sIf,jo,sOr,bV,jn,fT,sBl,bE,cO,eE,cm,im,cG,eJ,dh,dI,dP,bM,cH,ce,fo,eV,kY,cz,ot,oq,Tg.ge,Dq,EH,DN,DR,EF,EG,Ef,DX,List.replicate,FI,Nat.reduceSub,Nat.reduceAdd,Ep,Option.isNone,if_true,reduceIte,decide_true,Fj,EW,FK,Fv,Fk,FD,Fn,EN,reduceCtorEq,fA,B8,cq,uw,gGe,B4,eO,Int.reduceLT];rfl
theorem sN(ns:List Int)(k:Nat):∃ c:Int,br [.klst (ns.map D.int),.int k]=some (.ok (.int c) false,.non):=by
 by_cases h:k < ns.length
 ·refine ⟨ns[k],?_⟩
  have e:atI (ns.map D.int) (k:Int)=some (.int ns[k]):=km (by rw [DM,Dm h];rfl)
  have h':(k:Int) < ((ns.map D.int).length:Nat):=by rw [Do];omega
  unfold br eA;simp only [az,ini,iX,ioD,bf,au,aW,aB,oM,dD,ci,aX,mh,iH,eD,bU,ar,sOp,aK,sC,aY,aR,bG,evA,DE,ES,dC,lO,eB,sIf,jo,sOr,bV,jn,fT,sBl,bE,cO,eE,cm,im,cG,eJ,dh,dI,dP,bM,cH,ce,fo,eV,kY,cz,ot,oq,Tg.ge,Dq,EH,DN,DR,EF,EG,Ef,DX,List.replicate,FI,Nat.reduceSub,Nat.reduceAdd,Ep,Option.isNone,if_true,reduceIte,decide_true,Fj,EW,FK,Fv,Fk,FD,Fn,EN,reduceCtorEq,bS,gLt,zS e,h']
 ·refine ⟨0,?_⟩
  have h':¬ (k:Int) < ((ns.map D.int).length:Nat):=by rw [Do];omega
  unfold br eA;simp only [az,ini,iX,ioD,bf,au,aW,aB,oM,dD,ci,aX,mh,iH,eD,bU,ar,sOp,aK,sC,aY,aR,bG,evA,DE,ES,dC,lO,eB,sIf,jo,sOr,bV,jn,fT,sBl,bE,cO,eE,cm,im,cG,eJ,dh,dI,dP,bM,cH,ce,fo,eV,kY,cz,ot,oq,Tg.ge,Dq,EH,DN,DR,EF,EG,Ef,DX,List.replicate,FI,Nat.reduceSub,Nat.reduceAdd,Ep,Option.isNone,if_true,reduceIte,decide_true,Fj,EW,FK,Fv,Fk,FD,Fn,EN,reduceCtorEq,bS,gLt,h',decide_false]
theorem AI{a b c d:D}:lM (.lst [a,b,c]) (.int 0) d=some (.lst [d,b,c]):=rfl
theorem AH{a b c d:D}:lM (.lst [a,b,c]) (.int 2) d=some (.lst [a,b,d]):=rfl
theorem Aa(a f s m:Int)(h:0 < m)(h2:m < 1073741824):∃ r a' f' s':Int,aD [wo a f s,.int m]=some (.ok (.int r) false,wo a' f' s')/\0<=r/\r < m:=by
 by_cases hf:f=1
 ·refine ⟨a % m,a / m,f,s,?_,Int.emod_nonneg _ (by omega),Int.emod_lt_of_pos _ h⟩
  unfold aD gp wo;simp only [az,ini,iX,ioD,bf,au,aW,aB,oM,dD,ci,aX,mh,iH,eD,bU,ar,sOp,aK,sC,aY,aR,bG,evA,DE,ES,dC,lO,eB,sIf,jo,sOr,bV,jn,fT,sBl,bE,cO,eE,cm,im,cG,eJ,dh,dI,dP,bM,cH,ce,fo,eV,kY,cz,ot,oq,Tg.ge,Dq,EH,DN,DR,EF,EG,Ef,DX,List.replicate,FI,Nat.reduceSub,Nat.reduceAdd,Ep,Option.isNone,if_true,reduceIte,decide_true,Fj,EW,FK,Fv,Fk,FD,Fn,EN,reduceCtorEq,jE,jD Dh,jD Dg,qE h,nr h h2,AI,hf]
 ·refine ⟨sf (sf s+7) / 64 % m,a,f,sf (sf s+7),?_,Int.emod_nonneg _ (by omega),Int.emod_lt_of_pos _ h⟩
  unfold aD gp wo;simp only [az,ini,iX,ioD,bf,au,aW,aB,oM,dD,ci,aX,mh,iH,eD,bU,ar,sOp,aK,sC,aY,aR,bG,evA,DE,ES,dC,lO,eB,sIf,jo,sOr,bV,jn,fT,sBl,bE,cO,eE,cm,im,cG,eJ,dh,dI,dP,bM,cH,ce,fo,eV,kY,cz,ot,oq,Tg.ge,Dq,EH,DN,DR,EF,EG,Ef,DX,List.replicate,FI,Nat.reduceSub,Nat.reduceAdd,Ep,Option.isNone,if_true,reduceIte,decide_true,Fj,EW,FK,Fv,Fk,FD,Fn,EN,reduceCtorEq,jE,jD Dh,jD Dg,jD atI_2,qE h,nr (show (0:Int) < 64 by decide) (by decide),aU,AH,hf,decide_false,zZ]
theorem oN{T:Tg}{f:SS}(I:Nat->Rho->Prop):∀ (ds:List D) (k:Nat) (ρ:Rho),I k ρ->(∀ i d ρ,ds[i]?=some d->I (k+i) ρ->∃ ρ1 ρ2,bE T d ρ=some ρ1/\f ρ1=some (.nx,ρ2)/\I (k+i+1) ρ2)->∃ ρ',bF T f ds ρ=some (.nx,ρ')/\I (k+ds.length) ρ'
 | [],k,ρ,h,_=>⟨ρ,rfl,h⟩
 | d::ds,k,ρ,h,hs=>by
  obtain ⟨ρ1,ρ2,e1,e2,h2⟩:=hs 0 d ρ rfl h
  obtain ⟨ρ',e3,h3⟩:=oN I ds (k+1) ρ2 h2 fun i d ρ e hi=>by
   have:=hs (i+1) d ρ (by simpa using e) (by rw [show k+(i+1)=k+1+i by omega];exact hi);rw [show k+(i+1)+1=k+1+i+1 by omega] at this;exact this
  refine ⟨ρ',?_,by rw [Dq,show k+(ds.length+1)=k+1+ds.length by omega];exact h3⟩;unfold bF;simp only [e1,e2,e3]
end L2
namespace L2
open PySem PySem.Spec PyProof.Rows
section
variable{ρ ρ1 ρ2:Rho}{d c c' i:D}{ds:List D}{nw b:Bool}{f g:SE}{p q:ST}{s t:SS}{C:Str}
theorem CI{j:Nat}{x:Option (D×Md)}(h:f ρ=some (.ok d nw,ρ1))(hx:ρ1[j]?=some x)(hn:ρ1.set j (some (d,if nw then .ow else .fz))=ρ2):aW j f ρ=some (.nx,ρ2):=by subst hn;unfold aW;rw [h];show (match ρ1[j]? with | some _=>_ | none=>_)=_;rw [hx]
theorem r_ret(h:f ρ=some (.ok d nw,ρ1)):aB f ρ=some (.rt d nw,ρ1):=by unfold aB;rw [h]
theorem r_expr(h:f ρ=some (.ok d nw,ρ1)):ci f ρ=some (.nx,ρ1):=by unfold ci;rw [h]
theorem CJ{r:Option (Out×Rho)}(h:s ρ=some (.nx,ρ1))(h2:t ρ1=r):au s t ρ=r:=by unfold au;rw [h];exact h2
theorem r_seqR(h:s ρ=some (.rt d nw,ρ1)):au s t ρ=some (.rt d nw,ρ1):=by unfold au;rw [h]
theorem r_ifT{r:Option (Out×Rho)}(h:p ρ=some (.ok b,ρ1))(hb:b=true)(h2:s ρ1=r):aX p s t ρ=r:=by unfold aX;subst hb;rw [h];exact h2
theorem r_ifF{r:Option (Out×Rho)}(h:p ρ=some (.ok b,ρ1))(hb:b=false)(h2:t ρ1=r):aX p s t ρ=r:=by unfold aX;subst hb;rw [h];exact h2
theorem r_nil:bf ρ=some (.nx,ρ):=rfl
theorem r_asg{T:Tg}(h:f ρ=some (.ok d nw,ρ1))(h2:bE T d ρ1=some ρ2):mh T f ρ=some (.nx,ρ2):=by unfold mh;rw [h];show (match bE T d ρ1 with | some ρ2=>_ | none=>_)=_;rw [h2]
theorem r_aug{j:Nat}{op:Int->Int->Int}{a k:Int}{x:Option (D×Md)}(h0:ρ[j]?=some (some (.int a,.fz)))(h:f ρ=some (.ok (.int k) nw,ρ1))(hx:ρ1[j]?=some x)(hn:ρ1.set j (some (.int (op a k),.fz))=ρ2):iH j op f ρ=some (.nx,ρ2):=by
 subst hn;unfold iH;rw [h0];show (match f ρ with | some (.ok (.int b) _,ρ')=>_ | some (.ok _ _,_)=>_ | some (.ex C,ρ')=>_ | none=>_)=_;rw [h];show (match ρ1[j]? with | some _=>_ | none=>_)=_;rw [hx]
theorem Bf{u:D->D->D->Option D}{j:Nat}{x:D×Md}{nw2:Bool}(h:f ρ=some (.ok d nw,ρ1))(h1:ρ1[j]?=some (some x))(h2:g ρ1=some (.ok i nw2,ρ2))(h3:ρ2[j]?=some (some (c,.ow)))(h4:u c i d=some c'){ρ3:Rho}(hn:ρ2.set j (some (c',.ow))=ρ3):eD u j f g ρ=some (.nx,ρ3):=by subst hn;unfold eD;simp only [h,h1,h2,h3,h4]
theorem r_for{it:SI}{T:Tg}{r:Option (Out×Rho)}(h:it ρ=some (.ok ds,ρ1))(h2:bF T s ds ρ1=r):dP it T s ρ=r:=by unfold dP;rw [h];exact h2
theorem Bc{j:Nat}{u:D->List D->Option (D×D)}{fs:List SE}{l:List D}(h0:ρ[j]?=some (some (.lst l,.ow)))(h1:evA (fs.map Arg.ex) ρ=some (.ok ds,ρ1))(h2:ρ1[j]?=some (some (c,.ow)))(h3:u c ds=some (c',d))(hn:ρ1.set j (some (c',.ow))=ρ2):bU j u fs ρ=some (.ok d false,ρ2):=by subst hn;unfold bU;simp only [h0,h1,h2,h3]
theorem r_nilA:evA [] ρ=some (.ok [],ρ):=rfl
theorem CK{as:List Arg}(h:f ρ=some (.ok d nw,ρ1))(h2:evA as ρ1=some (.ok ds,ρ2)):evA (.ex f::as) ρ=some (.ok (d::ds),ρ2):=by unfold evA;simp only [h,h2]
theorem r_nilM:evA (List.map Arg.ex []) ρ=some (.ok [],ρ):=rfl
theorem r_exM{fs:List SE}(h:f ρ=some (.ok d nw,ρ1))(h2:evA (List.map Arg.ex fs) ρ1=some (.ok ds,ρ2)):evA (List.map Arg.ex (f::fs)) ρ=some (.ok (d::ds),ρ2):=CK h h2
theorem r_borA{as:List Arg}{j:Nat}{x:D×Md}{m:Md}(h:ρ[j]?=some (some x))(h2:evA as ρ=some (.ok ds,ρ2))(h3:ρ2[j]?=some (some (d,m))):evA (.bor j::as) ρ=some (.ok (d::ds),ρ2):=by unfold evA;simp only [h,h2,h3]
theorem r_op{o:List D->Option (D×Bool)}{as:List Arg}(h:evA as ρ=some (.ok ds,ρ1))(h2:o ds=some (d,nw)):sOp o as ρ=some (.ok d nw,ρ1):=by unfold sOp;simp only [h,h2]
theorem r_opT{o:List D->Option (D×Bool)}{as:List Arg}(h:evA as ρ=some (.ok ds,ρ1))(h2:o ds=some (.bl b,nw)):aK o as ρ=some (.ok b,ρ1):=by unfold aK;rw [r_op h h2]
theorem r_tru{a:Arg}(h:evA [a] ρ=some (.ok [d],ρ1))(h2:lO d=some b):dC a ρ=some (.ok b,ρ1):=by unfold dC;simp only [h,h2]
theorem r_not(h:p ρ=some (.ok b,ρ1)):eB p ρ=some (.ok (!b),ρ1):=by unfold eB;rw [h]
theorem r_andT{r:Option (xx×Rho)}(h:p ρ=some (.ok b,ρ1))(hb:b=true)(h2:q ρ1=r):jo p q ρ=r:=by unfold jo;subst hb;rw [h];exact h2
theorem r_andF(h:p ρ=some (.ok b,ρ1))(hb:b=false):jo p q ρ=some (.ok false,ρ1):=by unfold jo;subst hb;rw [h]
theorem r_orF{r:Option (xx×Rho)}(h:p ρ=some (.ok b,ρ1))(hb:b=false)(h2:q ρ1=r):sOr p q ρ=r:=by unfold sOr;subst hb;rw [h];exact h2
theorem r_orT(h:p ρ=some (.ok b,ρ1))(hb:b=true):sOr p q ρ=some (.ok true,ρ1):=by unfold sOr;subst hb;rw [h]
theorem r_c:sC d ρ=some (.ok d false,ρ):=rfl
theorem r_varF{j:Nat}(h:ρ[j]?=some (some (d,.fz))):aY j ρ=some (.ok d false,ρ):=by unfold aY;rw [h]
theorem r_varO{j:Nat}(h:ρ[j]?=some (some (d,.ow)))(hn:ρ.set j (some (d,.fz))=ρ1):aY j ρ=some (.ok d false,ρ1):=by subst hn;unfold aY;rw [h]
theorem r_retF{j:Nat}(h:ρ[j]?=some (some (d,.fz))):dD j ρ=some (.rt d false,ρ):=by unfold dD;rw [h]
theorem r_retO{j:Nat}(h:ρ[j]?=some (some (d,.ow)))(hn:ρ.set j none=ρ1):dD j ρ=some (.rt d true,ρ1):=by subst hn;unfold dD;rw [h]
theorem r_tup{fs:List SE}(h:evA (fs.map Arg.ex) ρ=some (.ok ds,ρ1)):aR fs ρ=some (.ok (.tup ds) false,ρ1):=by unfold aR;rw [h]
theorem r_lst{fs:List SE}(h:evA (fs.map Arg.ex) ρ=some (.ok ds,ρ1)):bG fs ρ=some (.ok (.lst ds) true,ρ1):=by unfold bG;rw [h]
theorem r_seqI{l:List D}(h:f ρ=some (.ok d nw,ρ1))(h2:cz d=some l):cH f ρ=some (.ok l,ρ1):=by unfold cH;simp only [h,h2]
theorem r_enum{l:List D}(h:f ρ=some (.ok d nw,ρ1))(h2:cz d=some l):eV f ρ=some (.ok (gJ 0 l),ρ1):=by unfold eV;simp only [h,h2]
theorem r_zip{fs:List SE}{l l':List D}(h:evA (fs.map Arg.ex) ρ=some (.ok ds,ρ1))(h2:xV ds=some (l,l'))(h3:l.length<=l'.length):kY fs ρ=some (.ok (jW l l'),ρ1):=by unfold kY;simp only [h,h2,h3,decide_true,if_true]
theorem r_rng1{x:Arg}{j:Int}(h:evA [x] ρ=some (.ok [.int j],ρ1))(o:okR 0 j=true):ce x ρ=some (.ok (gq 0 j.toNat),ρ1):=by
 unfold ce;rw [h];show (if okR 0 j=true then some (qV.ok (gq 0 j.toNat),ρ1) else none)=_;rw [if_pos o]
theorem r_rng2{x y:Arg}{j k:Int}(h:evA [x,y] ρ=some (.ok [.int j,.int k],ρ1))(o:okR j k=true):fo x y ρ=some (.ok (gq j (k - j).toNat),ρ1):=by
 unfold fo;rw [h];show (if okR j k=true then some (qV.ok (gq j (k - j).toNat),ρ1) else none)=_;rw [if_pos o]
theorem yh{k:Nat}{it:SI}{T:Tg}{e:Option ST}{ys:List D}(h1:it ρ=some (.ok ds,ρ1))(h2:Tg.ge ρ1.length T=true)(h3:bL k T e f ds ρ1=some (ys,ρ2)):bM k it T e f ρ=some (.ok (.lst ys) true,ρ2):=by
 unfold bM;rw [h1];show (if Tg.ge ρ1.length T=true then _ else none)=_;rw [if_pos h2,h3]
theorem r_call{as:List Arg}{run:FS}{x:D}(h:evA as ρ=some (.ok ds,ρ1))(h2:run ds=some (.ok d nw,x))(h3:(cm none 0 as ρ1||(im d nw&&((none:Option Nat).isNone||cG x)))=true):ar none none run as ρ=some (.ok d nw,ρ1):=by
 unfold ar;simp only [h,h2];rw [if_pos h3];rfl
theorem yi{k j:Nat}{as:List Arg}{run:FS}{x:D}(h:evA as ρ=some (.ok ds,ρ1))(h2:run ds=some (.ok d nw,x))(h3:(cm (some k) 0 as ρ1||(im d nw&&((some k).isNone||cG x)))=true)(h4:eE (some j) x ρ1=some ρ2):ar (some k) (some j) run as ρ=some (.ok d nw,ρ2):=by
 unfold ar;simp only [h,h2];rw [if_pos h3,h4]
theorem Bi{o o':List D->Option (D×Bool)}{f3:SE}{x y z:D}{b2:Bool}(h:evA [.ex f,.ex g] ρ=some (.ok [x,y],ρ1))(h1:o [x,y]=some (.bl b,false))(h2:f3 ρ1=some (.ok z nw,ρ1))(h3:o' [y,z]=some (.bl b2,false)):dI o o' f g f3 ρ=some (.ok (.bl (b&&b2)) false,ρ1):=by
 unfold dI;simp only [h,h1]
 cases b with
 | true=>simp only [h2,h3,Fj]
 | false=>rfl
theorem Bk{r:Option (Res×Rho)}(h:f ρ=some (.ok (.bl b) nw,ρ1))(hb:b=true)(h2:g ρ1=r):bV f g ρ=r:=by unfold bV;subst hb;rw [h];exact h2
theorem Bl(h:f ρ=some (.ok (.bl b) nw,ρ1))(hb:b=false):bV f g ρ=some (.ok (.bl false) false,ρ1):=by unfold bV;subst hb;rw [h]
theorem r_orVF{r:Option (Res×Rho)}(h:f ρ=some (.ok (.bl b) nw,ρ1))(hb:b=false)(h2:g ρ1=r):jn f g ρ=r:=by unfold jn;subst hb;rw [h];exact h2
theorem r_orV{b2:Bool}(h:f ρ=some (.ok (.bl b) nw,ρ1))(h2:g ρ1=some (.ok (.bl b2) false,ρ1)):jn f g ρ=some (.ok (.bl (b||b2)) false,ρ1):=by
 unfold jn;rw [h]
 cases b with
 | true=>rfl
 | false=>exact h2
theorem r_notV(h:f ρ=some (.ok (.bl b) nw,ρ1)):fT f ρ=some (.ok (.bl (!b)) false,ρ1):=by unfold fT;rw [h]
section
variable{np n:Nat}{body:SS}{io:Option Nat}{x:D}
theorem r_fn(hi:ini n io ds=ρ)(h:body ρ=some (.rt d nw,ρ1))(hx:ioD io ρ1=some x)(hl:ds.length=np):az np n io body ds=some (.ok d nw,x):=by subst hi;unfold az;rw [if_pos hl,h];show (match ioD io ρ1 with | some x=>_ | none=>_)=_;rw [hx]
end
end
theorem gY{α:Type}{k:Nat}{T:Tg}{f:SE}{ρ:Rho}{inj g:α->D}:∀ (xs:List α),(∀ x∈xs,∃ ρ1 ρ3 nw,bE T (inj x) (ρ++List.replicate k none)=some ρ1/\f ρ1=some (.ok (g x) nw,ρ3)/\ρ3.take ρ.length=ρ)->bL k T none f (xs.map inj) ρ=some (xs.map g,ρ)
 | [],_=>rfl
 | x::xs,h=>by
  obtain ⟨ρ1,ρ3,nw,e1,e2,e3⟩:=h x Dv;rw [DE];unfold bL;simp only [e1,evC,e2,e3,gY xs fun d hd=>h d (Dr _ hd),DE]
theorem zU(bs:List Bool):ki [.lst (bs.map D.bl)]=some (.bl (bs.all id),false):=by unfold ki;simp only [xq]
theorem wI(ns:List Int)(h:ns.length<=1000):wJ [.tup (ns.map D.int)]=some (.set (dd ns),false):=by unfold wJ;simp only [cF,h,decide_true,if_true]
theorem dd_len(ns:List Int):(dd ns).length<=ns.length:=by
 unfold dd
 have:∀ (l acc:List Int),(l.foldl step_dedup acc).length<=acc.length+l.length:=by
  intro l
  induction l with
  | nil=>intro acc;simp
  | cons x l ih =>
   intro acc
   have h1:(step_dedup acc x).length<=acc.length+1:=by
    unfold step_dedup
    split<;>simp
   have:=ih (step_dedup acc x);rw [List.foldl_cons,Dq];omega
 have:=this ns [];simpa using this
theorem zR(ns:List Int)(h:ns.length<=1000):bS [.set (dd ns)]=some (.int (dd ns).length,false):=by
 have:=dd_len ns;unfold bS;simp only [show (dd ns).length<=1000 by omega,decide_true,if_true]
theorem wK(ns:List Int)(h:ns≠[]):fA [.tup (ns.map D.int)]=some (.int (jy ns),false):=by
 unfold fA
 cases ns with
 | nil=>exact absurd rfl h
 | cons n ns=>simp only [cF]
theorem Ax{ns:List Int}{i:Int}(h0:0<=i)(h1:i < ns.length):atI (ns.map D.int) i=some (.int (ns.getD i.toNat 0)):=by
 obtain ⟨k,rfl⟩:∃ k:Nat,i=k:=⟨i.toNat,by omega⟩
 have hk:k < ns.length:=by omega
 refine km ?_;rw [DM,Dm hk];simp [hk]
theorem gl{n:Nat}(h:n<=1000):small n=true:=by unfold small;exact DF (by omega)
theorem cut_lo{l:List D}{n:Nat}(h:n<=l.length):kl l none (some (n:Int))=l.take n:=by
 unfold kl;have e1:HT.sIx l.length 0 none=0:=rfl
 have e2:HT.sIx l.length l.length (some (n:Int))=n:=by
  unfold HT.sIx;simp;rw [if_neg (by omega)];omega
 rw [e1,e2,List.drop_zero,Nat.sub_zero]
theorem cut_hi{l:List D}{n:Nat}(h:n<=l.length):kl l (some (n:Int)) none=l.drop n:=by
 unfold kl;have e1:HT.sIx l.length l.length none=l.length:=rfl
 have e2:HT.sIx l.length 0 (some (n:Int))=n:=by
  unfold HT.sIx;simp;rw [if_neg (by omega)];omega
 rw [e1,e2];apply List.take_of_length_le;rw [List.length_drop];exact Dy _
theorem za{lo hi:Int}(h1 : -1000000<=lo)(h2:lo<=1000000)(h3 : -1000000<=hi)(h4:hi<=1000000)(h5:hi - lo<=1000000):okR lo hi=true:=by
 unfold okR
 refine DF ⟨?_,?_,?_,?_,?_⟩<;>omega
theorem el_mk{k:Nat}{T:Tg}{f:SE}{ρ ρ1 ρ3:Rho}{d y y':D}{nw:Bool}(h1:bE T d (ρ++List.replicate k none)=some ρ1)(h2:f ρ1=some (.ok y' nw,ρ3))(h3:ρ3.take ρ.length=ρ)(hy:y'=y):∃ ρ1 ρ3 nw,bE T d (ρ++List.replicate k none)=some ρ1/\f ρ1=some (.ok y nw,ρ3)/\ρ3.take ρ.length=ρ:=⟨ρ1,ρ3,nw,h1,by rw [<- hy];exact h2,h3⟩
theorem lp_mk{T:Tg}{f:SS}{ρ ρ1 ρ2:Rho}{d:D}{I:Rho->Prop}(h1:bE T d ρ=some ρ1)(h2:f ρ1=some (.nx,ρ2))(h3:I ρ2):∃ ρ1 ρ2,bE T d ρ=some ρ1/\f ρ1=some (.nx,ρ2)/\I ρ2:=⟨ρ1,ρ2,h1,h2,h3⟩
end L2
namespace Srt
open PySem PySem.W PyProof.Rows
noncomputable def Tru{α:Type}(lt:Nat->Nat->Bool)(P:α->Prop):KasT α->Prop
 | .ret a=>P a
 | .ask i j k=>Tru lt P (k (lt i j))
theorem Tru.bind{α β:Type}{lt:Nat->Nat->Bool}{P:β->Prop}{f:α->KasT β}:∀ {t:KasT α},Tru lt (fun a=>Tru lt P (f a)) t->Tru lt P (t.bind f)
 | .ret _,h=>h
 | .ask i j k,h=>Tru.bind (t:=k (lt i j)) h
theorem Tru.mono{α:Type}{lt:Nat->Nat->Bool}{P P':α->Prop}(hp:∀ a,P a->P' a):∀ {t:KasT α},Tru lt P t->Tru lt P' t
 | .ret a,h=>hp a h
 | .ask i j k,h=>Tru.mono hp (t:=k (lt i j)) h
theorem both{α:Type}{n:Nat}{lt:Nat->Nat->Bool}{P P':α->Prop}{cmp:Nat->Nat->(Bool->Shared->Prop)->Shared->Prop}{Q:α->Shared->Prop}{s:Shared}
 (hc:∀ i j C,i < n->j < n->C (lt i j) s->cmp i j C s) (hq:∀ a,P a->P' a->Q a s):∀ {t:KasT α},All n P t->Tru lt P' t->t.kasWp cmp Q s
 | .ret a,h,g=>hq a h g
 | .ask i j k,⟨h1,h2,h3⟩,g=>hc i j _ h1 h2 (both hc hq (h3 _) g)
structure Ord(lt:Nat->Nat->Bool):Prop where
 asym:∀ a b,lt a b=true->lt b a=false
 trans:∀ a b c,lt b a=false->lt c b=false->lt c a=false
section
variable{lt:Nat->Nat->Bool}(O:Ord lt)
theorem Ord.refl(O:Ord lt)(a:Nat):lt a a=false:=by
 cases h:lt a a with
 | false=>rfl
 | true=>exact absurd (O.asym a a h) (by rw [h];decide)
abbrev Le(lt:Nat->Nat->Bool)(a b:Nat):Prop:=lt b a=false
abbrev at_(p:Array Nat)(i:Nat):Nat:=p.getD i 0
noncomputable def Asc(lt:Nat->Nat->Bool)(p:Array Nat)(m:Nat):Prop:=∀ i j,i<=j->j < m->Le lt (at_ p i) (at_ p j)
noncomputable def Des(lt:Nat->Nat->Bool)(p:Array Nat)(m:Nat):Prop:=∀ i j,i<=j->j < m->Le lt (at_ p j) (at_ p i)
noncomputable def Eqv(lt:Nat->Nat->Bool)(p:Array Nat)(a b:Nat):Prop:=∀ i j,a<=i->i < b->a<=j->j < b->Le lt (at_ p i) (at_ p j)
theorem qR{p:Array Nat}{i j:Nat}(hj:j<=p.size)(k:Nat):at_ (kas_rev p i j) k=if i<=k/\k < j then at_ p (i+j - 1 - k) else at_ p k:=by
 have h:=getElem?_mirror_all (xs:=p) (i:=i) hj k
 show (kas_rev p i j).getD k 0=_
 unfold kas_rev at_;rw [Ei,h]
 split<;>rw [Ei]
theorem at_bub{p:Array Nat}{k l:Nat}(hk:k < p.size)(hl:l<=k)(t:Nat):at_ (bubble p k (k - l)) t=if t=l then at_ p k else if l < t/\t<=k then at_ p (t - 1) else at_ p t:=by
 have h:=getElem?_bubble (xs:=p) hk (k - l) (by omega) t;rw [show k - (k - l)=l by omega] at h
 show (bubble p k (k - l)).getD t 0=_
 rw [Ei,h]
 by_cases h1:t=l
 ·rw [if_pos h1,if_pos h1,<- Ei]
 ·rw [if_neg h1,if_neg h1]
  by_cases h2:l < t/\t<=k
  ·rw [if_pos h2,if_pos h2,<- Ei]
  ·rw [if_neg h2,if_neg h2,<- Ei]
include O
theorem Asc.snoc{p:Array Nat}{n:Nat}(h:Asc lt p n)(h1:1<=n)(hn:Le lt (at_ p (n - 1)) (at_ p n)):Asc lt p (n+1):=fun i j hij hj=>by
 by_cases e:j=n
 ·subst e
  by_cases e2:i=j
  ·subst e2;exact O.refl _
  ·exact O.trans _ _ _ (h i (j - 1) (by omega) (by omega)) hn
 ·exact h i j hij (by omega)
theorem Des.snoc{p:Array Nat}{n:Nat}(h:Des lt p n)(h1:1<=n)(hn:Le lt (at_ p n) (at_ p (n - 1))):Des lt p (n+1):=fun i j hij hj=>by
 by_cases e:j=n
 ·subst e
  by_cases e2:i=j
  ·subst e2;exact O.refl _
  ·exact O.trans _ _ _ hn (h i (j - 1) (by omega) (by omega))
 ·exact h i j hij (by omega)
theorem uT{p:Array Nat}:∀ f n,1<=n->Asc lt p n->Tru lt (fun m=>n<=m/\m<=n+f/\Asc lt p m/\(m=n+f\/lt (at_ p m) (at_ p (m - 1))=true)) (kas_asc p f n)
 | 0,n,h1,h=>⟨Dy _,Dy _,h,.inl rfl⟩
 | f+1,n,h1,h=>by
  show Tru lt _ (if lt (at_ p n) (at_ p (n - 1))=true then KasT.ret n else kas_asc p f (n+1))
  by_cases c:lt (at_ p n) (at_ p (n - 1))=true
  ·rw [if_pos c]
   exact ⟨Dy _,by omega,h,.inr c⟩
  ·rw [if_neg c]
   exact (uT f (n+1) (by omega) (h.snoc O h1 (by simpa using c))).mono fun m ⟨a,b,c,d⟩=>⟨by omega,by omega,c,d.imp (fun z=>by omega) id⟩
theorem lH:∀ f (p:Array Nat) n q,1<=n->q+1<=n->n+f<=p.size->Des lt p n->Eqv lt p (n - (q+1)) n ->
 Tru lt (fun r=>n<=r.2.1/\r.2.1<=n+f/\r.2.2+1<=r.2.1/\r.1.size=p.size/\Des lt r.1 r.2.1/\Eqv lt r.1 (r.2.1 - (r.2.2+1)) r.2.1) (kas_desc f p n q)
 | 0,p,n,q,h1,hq,hs,hd,he=>⟨Dy _,Dy _,hq,rfl,hd,he⟩
 | f+1,p,n,q,h1,hq,hs,hd,he=>by
  have one:∀ (p':Array Nat),Eqv lt p' (n+1 - (0+1)) (n+1):=fun p' i j a b c d=>by
   have:i=j:=by omega
   subst this;exact O.refl _
  show Tru lt _ (if lt (at_ p n) (at_ p (n - 1))=true then (if q > 0 then kas_desc f (kas_rev p (n - (q+1)) n) (n+1) 0 else kas_desc f p (n+1) 0)
   else KasT.ask (at_ p (n - 1)) (at_ p n) fun d=>if d=true then .ret (p,n,q) else kas_desc f p (n+1) (q+1))
  by_cases c:lt (at_ p n) (at_ p (n - 1))=true
  ·rw [if_pos c]
   have hle:Le lt (at_ p n) (at_ p (n - 1)):=O.asym _ _ c
   by_cases q0:q > 0
   ·rw [if_pos q0]
    have hn:n<=p.size:=by omega
    have sz:(kas_rev p (n - (q+1)) n).size=p.size:=mirror_size _ _ _ _;have R:=qR (p:=p) (i:=n - (q+1)) hn
    have D:Des lt (kas_rev p (n - (q+1)) n) (n+1):=fun i j hij hj=>by
     rw [R i,R j]
     by_cases ej:j=n
     ·subst ej
      rw [if_neg (by omega:¬ (j - (q+1)<=j/\j < j))]
      split
      ·exact O.trans _ _ _ hle (hd _ (j - 1) (by omega) (by omega))
      ·by_cases ei:i=j
       ·subst ei;exact O.refl _
       ·exact O.trans _ _ _ hle (hd _ (j - 1) (by omega) (by omega))
     ·by_cases si:n - (q+1)<=i/\i < n
      ·rw [if_pos si,if_pos (by omega:n - (q+1)<=j/\j < n)]
       exact he _ _ (by omega) (by omega) (by omega) (by omega)
      ·rw [if_neg si]
       split
       ·exact hd _ _ (by omega) (by omega)
       ·exact hd _ _ hij (by omega)
    exact (lH f _ (n+1) 0 (by omega) (by omega) (by rw [sz];omega) D (one _)).mono fun r ⟨a,b,c,d,e,g⟩=>⟨by omega,by omega,c,d.trans sz,e,g⟩
   ·rw [if_neg q0]
    exact (lH f p (n+1) 0 (by omega) (by omega) (by omega) (hd.snoc O h1 hle) (one _)).mono fun r ⟨a,b,c,d,e,g⟩=>⟨by omega,by omega,c,d,e,g⟩
  ·rw [if_neg c]
   have c:lt (at_ p n) (at_ p (n - 1))=false:=by simpa using c
   show Tru lt _ (if lt (at_ p (n - 1)) (at_ p n)=true then KasT.ret (p,n,q) else kas_desc f p (n+1) (q+1))
   by_cases d:lt (at_ p (n - 1)) (at_ p n)=true
   ·rw [if_pos d]
    exact ⟨Dy _,FL _ _,hq,rfl,hd,he⟩
   ·rw [if_neg d]
    have d:lt (at_ p (n - 1)) (at_ p n)=false:=by simpa using d
    have E:Eqv lt p (n+1 - (q+1+1)) (n+1):=fun i j a b a2 b2=>by
     by_cases ei:i=n
     ·by_cases ej:j=n
      ·rw [ei,ej];exact O.refl _
      ·rw [ei]
       exact O.trans _ _ _ d (he (n - 1) j (by omega) (by omega) (by omega) (by omega))
     ·by_cases ej:j=n
      ·rw [ej]
       exact O.trans _ _ _ (he i (n - 1) (by omega) (by omega) (by omega) (by omega)) c
      ·exact he i j (by omega) (by omega) (by omega) (by omega)
    exact (lH f p (n+1) (q+1) (by omega) (by omega) (by omega) (hd.snoc O h1 d) E).mono fun r ⟨a,b,c,d,e,g⟩=>⟨by omega,by omega,c,d,e,g⟩
theorem rm{p:Array Nat}{n N:Nat}(h1:1<=n)(hn:n<=N)(hs:p.size=N)(hd:Des lt p n):Tru lt (fun r:Nat×Array Nat=>1<=r.1/\r.1<=N/\r.2.size=N/\Asc lt r.2 r.1) (kas_tail3 n N p):=by
 unfold kas_tail3;have sz:(kas_rev p 0 n).size=p.size:=mirror_size _ _ _ _;have R:=qR (p:=p) (i:=0) (j:=n) (by omega)
 have A:Asc lt (kas_rev p 0 n) n:=fun i j hij hj=>by
  rw [R i,R j,if_pos (by omega),if_pos (by omega)];exact hd _ _ (by omega) (by omega)
 exact ((uT O (N - n) n h1 A).mono fun m ⟨a,b,c,_⟩=>(show 1<=m/\m<=N/\(kas_rev p 0 n).size=N/\Asc lt (kas_rev p 0 n) m from ⟨by omega,by omega,sz.trans hs,c⟩)).bind
theorem kI{p:Array Nat}{n N:Nat}(h1:1<=n)(hn:n+1<=N)(hs:p.size=N)(hd:Des lt p (n+1)):Tru lt (fun r:Nat×Array Nat=>1<=r.1/\r.1<=N/\r.2.size=N/\Asc lt r.2 r.1) (kas_descPart n N p):=by
 unfold kas_descPart
 refine ((lH O (N - (n+1)) p (n+1) 0 (by omega) (by omega) (by omega) hd (fun i j a b c d=>by
  have:i=j:=by omega
  subst this
  exact O.refl _)).mono fun r ⟨a,b,c,d,e,g⟩=> ?_).bind
 by_cases q:r.2.2 > 0
 ·rw [if_pos q]
  have hz:r.2.1<=r.1.size:=by omega
  have R:=qR (p:=r.1) (i:=r.2.1 - (r.2.2+1)) (j:=r.2.1) hz
  refine rm O (by omega) (by omega) ((mirror_size _ _ _ _).trans (d.trans hs)) fun i j hij hj=> ?_
  rw [R i,R j]
  by_cases si:r.2.1 - (r.2.2+1)<=i/\i < r.2.1
  ·rw [if_pos si,if_pos (by omega)]
   exact g _ _ (by omega) (by omega) (by omega) (by omega)
  ·rw [if_neg si]
   split
   ·exact e _ _ (by omega) (by omega)
   ·exact e _ _ hij hj
 ·rw [if_neg q]
  exact rm O (by omega) (by omega) (d.trans hs) e
theorem Al{p:Array Nat}{N:Nat}(hN:1<=N)(hs:p.size=N):Tru lt (fun r:Nat×Array Nat=>1<=r.1/\r.1<=N/\r.2.size=N/\Asc lt r.2 r.1) (kas_count N p):=by
 unfold kas_count
 refine ((uT O (p:=p) (N - 1) 1 (Dy _) (fun i j a b=>by
  have:i=j:=by omega
  subst this
  exact O.refl _)).mono fun n ⟨a,b,c,d⟩=> ?_).bind
 by_cases e:(n == N)=true
 ·rw [if_pos e]
  exact ⟨a,by omega,hs,c⟩
 ·rw [if_neg e]
  have ne:n≠N:=by simpa using e
  have hl:lt (at_ p n) (at_ p (n - 1))=true:=d.resolve_left (by omega)
  by_cases n1:n > 1
  ·rw [if_pos n1]
   show Tru lt _ (if lt (at_ p 0) (at_ p (n - 1))=true then _ else _)
   by_cases z:lt (at_ p 0) (at_ p (n - 1))=true
   ·rw [if_pos z]
    exact ⟨a,by omega,hs,c⟩
   ·rw [if_neg z]
    have z:lt (at_ p 0) (at_ p (n - 1))=false:=by simpa using z
    have R:=qR (p:=p) (i:=0) (j:=n) (by omega)
    have ev:∀ i j,i < n->j < n->Le lt (at_ p i) (at_ p j):=fun i j hi hj =>
     O.trans _ _ _ (c i (n - 1) (by omega) (by omega)) (O.trans _ _ _ z (c 0 j (by omega) hj))
    refine kI O (by omega) (by omega) ((mirror_size _ _ _ _).trans hs) fun i j hij hj=> ?_
    rw [R i,R j]
    by_cases ej:j=n
    ·subst ej
     rw [if_neg (by omega:¬ (0<=j/\j < j))]
     split
     ·exact O.trans _ _ _ (O.asym _ _ hl) (ev _ _ (by omega) (by omega))
     ·have:i=j:=by omega
      subst this;exact O.refl _
    ·rw [if_pos (by omega:0<=i/\i < n),if_pos (by omega:0<=j/\j < n)]
     exact ev _ _ (by omega) (by omega)
  ·rw [if_neg n1]
   have:n=1:=by omega
   subst this
   refine kI O (by omega) (by omega) hs fun i j hij hj=> ?_
   by_cases e:i=j
   ·subst e;exact O.refl _
   ·have hi:i=0:=by omega
    have hj:j=1:=by omega
    subst hi hj;exact O.asym _ _ hl
theorem mC{p:Array Nat}{k:Nat}(h:Asc lt p k):∀ f l r,l<=r->r<=k->r<=l+f->(∀ i,i < l->Le lt (at_ p i) (at_ p k))->(∀ i,r<=i->i < k->Le lt (at_ p k) (at_ p i)) ->
 Tru lt (fun m=>m<=k/\(∀ i,i < m->Le lt (at_ p i) (at_ p k))/\∀ i,m<=i->i < k->Le lt (at_ p k) (at_ p i)) (kas_place p k f l r)
 | 0,l,r,h1,h2,h3,h4,h5=>⟨by omega,h4,fun i a b=>h5 i (by omega) b⟩
 | f+1,l,r,h1,h2,h3,h4,h5=>by
  unfold kas_place
  by_cases g:l>=r
  ·rw [if_pos g]
   exact ⟨by omega,h4,fun i a b=>h5 i (by omega) b⟩
  ·rw [if_neg g]
   show Tru lt _ (if lt (at_ p k) (at_ p ((l+r) / 2))=true then _ else _)
   by_cases c:lt (at_ p k) (at_ p ((l+r) / 2))=true
   ·rw [if_pos c]
    exact mC h f l ((l+r) / 2) (by omega) (by omega) (by omega) h4 fun i a b=>O.trans _ _ _ (O.asym _ _ c) (h _ i a b)
   ·rw [if_neg c]
    have c:lt (at_ p k) (at_ p ((l+r) / 2))=false:=by simpa using c
    exact mC h f ((l+r) / 2+1) r (by omega) h2 (by omega) (fun i a=>O.trans _ _ _ (h i _ (by omega) (by omega)) c) h5
theorem Aw{N:Nat}:∀ f (p:Array Nat) k,1<=k->k+f=N->p.size=N->Asc lt p k->Tru lt (fun r:Array Nat=>r.size=N/\Asc lt r N) (kas_bin f p k)
 | 0,p,k,h1,h2,hs,h=>⟨hs,by rw [<- h2];exact h⟩
 | f+1,p,k,h1,h2,hs,h=>by
  unfold kas_bin;refine ((mC O h k 0 k (by omega) (Dy _) (by omega) (fun i z=>by omega) (fun i a b=>by omega)).mono fun l ⟨a,b,c⟩=> ?_).bind;have B:=at_bub (p:=p) (k:=k) (l:=l) (by omega) a
  refine Aw f _ (k+1) (by omega) (by omega) ((bubble_size _ _ _).trans hs) fun i j hij hj=> ?_
  rw [B i,B j]
  by_cases ei:i=l
  ·rw [if_pos ei]
   by_cases ej:j=l
   ·rw [if_pos ej];exact O.refl _
   ·rw [if_neg ej,if_pos (by omega)]
    exact c _ (by omega) (by omega)
  ·rw [if_neg ei]
   by_cases ej:j=l
   ·rw [if_pos ej,if_neg (by omega)]
    exact b i (by omega)
   ·rw [if_neg ej]
    split
    ·rw [if_pos (by omega)]
     exact h _ _ (by omega) (by omega)
    ·split
     ·exact h _ _ (by omega) (by omega)
     ·exact h _ _ hij (by omega)
theorem AU{n:Nat}(h:1<=n):Tru lt (fun r:Array Nat=>r.size=n/\Asc lt r n) (kas_sort n):=by
 unfold kas_sort;refine ((Al O h (by simp)).mono fun r ⟨a,b,c,d⟩=> ?_).bind
 by_cases e:r.1 < n
 ·rw [if_pos e,show max r.1 1=r.1 by omega]
  exact Aw O _ _ _ a (by omega) c d
 ·rw [if_neg e]
  have:r.1=n:=by omega
  exact ⟨c,by rw [<- this];exact d⟩
end
end Srt
namespace Srt
open PySem PySem.W PyProof.Rows
noncomputable def dE:List Int->List Int->Bool
 | [],[]=>false
 | [],_::_=>true
 | _::_,[]=>false
 | a::as,b::bs=>if a=b then dE as bs else decide (a < b)
theorem iU:∀ a b:List Int,dE a b=true->dE b a=false
 | [],[],h=>by cases h
 | [],_::_,_=>rfl
 | _::_,[],h=>by cases h
 | a::as,b::bs,h=>by
  unfold dE at h ⊢
  by_cases e:a=b
  ·rw [if_pos e] at h
   rw [if_pos e.symm];exact iU as bs h
  ·rw [if_neg e] at h
   rw [if_neg (Ne.symm e)];have:=DH h;exact DO (by omega)
theorem mV:∀ a b:List Int,dE a b=false->dE b a=false->a=b
 | [],[],_,_=>rfl
 | [],_::_,h,_=>by cases h
 | _::_,[],_,h=>by cases h
 | a::as,b::bs,h,g=>by
  unfold dE at h g
  by_cases e:a=b
  ·rw [if_pos e] at h
   rw [if_pos e.symm] at g;rw [e,mV as bs h g]
  ·rw [if_neg e] at h
   rw [if_neg (Ne.symm e)] at g;have h:=Fy h;have g:=Fy g;omega
theorem gD:∀ a b c:List Int,dE b a=false->dE c b=false->dE c a=false
 | [],_,[],_,_=>rfl
 | [],[],_::_,_,_=>rfl
 | [],_::_,_::_,_,_=>rfl
 | _::_,[],_,h,_=>by cases h
 | _::_,_::_,[],_,h=>by cases h
 | a::as,b::bs,c::cs,h,g=>by
  unfold dE at h g ⊢
  by_cases e1:b=a
  ·rw [if_pos e1] at h
   by_cases e2:c=b
   ·rw [if_pos e2] at g
    rw [if_pos (e2.trans e1)];exact gD as bs cs h g
   ·rw [if_neg e2] at g
    have g:=Fy g;rw [if_neg (fun z=>e2 (z.trans e1.symm))];exact DO (by omega)
  ·rw [if_neg e1] at h
   have h:=Fy h
   by_cases e2:c=b
   ·rw [if_neg (fun z=>e1 (e2.symm.trans z))]
    exact DO (by omega)
   ·rw [if_neg e2] at g
    have g:=Fy g;rw [if_neg (by omega)];exact DO (by omega)
noncomputable def wC(x:List Int):List (List Int)->List (List Int)
 | []=>[x]
 | y::l=>if dE y x=true then y::wC x l else x::y::l
noncomputable def gC:List (List Int)->List (List Int)
 | []=>[]
 | x::l=>wC x (gC l)
theorem ke(x:List Int):∀ l,(wC x l).Perm (x::l)
 | []=> .refl _
 | y::l=>by
  unfold wC
  split
  ·exact ((ke x l).cons y).trans (.swap _ _ _)
  ·exact .refl _
theorem cn:∀ l,(gC l).Perm l
 | []=> .refl _
 | x::l=>(ke x _).trans ((cn l).cons x)
abbrev LeL(a b:List Int):Prop:=dE b a=false
theorem kF(x:List Int):∀ l:List (List Int),l.Pairwise LeL->(wC x l).Pairwise LeL
 | [],_=>List.pairwise_singleton _ _
 | y::l,h=>by
  have hc:=Ej.mp h;unfold wC
  split
  ·rename_i hl
   refine Ej.mpr ⟨fun z hz=> ?_,kF x l hc.2⟩
   rcases Dz.mp ((ke x l).mem_iff.mp hz) with rfl | hz
   ·exact iU _ _ hl
   ·exact hc.1 z hz
  ·rename_i hl
   have hl:dE y x=false:=by simpa using hl
   refine Ej.mpr ⟨fun z hz=> ?_,h⟩
   rcases Dz.mp hz with rfl | hz
   ·exact hl
   ·exact gD _ _ _ hl (hc.1 z hz)
theorem dg:∀ l,(gC l).Pairwise LeL
 | []=> .nil
 | x::l=>kF x _ (dg l)
theorem bB:∀ {a b:List (List Int)},a.Pairwise LeL->b.Pairwise LeL->a.Perm b->a=b
 | [],b,_,_,p=>by rw [p.nil_eq]
 | x::a,[],_,_,p=>absurd p.symm.nil_eq (by simp)
 | x::a,y::b,ha,hb,p=>by
  have ha':=Ej.mp ha;have hb':=Ej.mp hb
  have exy:x=y:=by
   have hx:x∈y::b:=p.mem_iff.mp Dv;have hy:y∈x::a:=p.mem_iff.mpr Dv
   rcases Dz.mp hx with e | hx
   ·exact e
   ·rcases Dz.mp hy with e | hy
    ·exact e.symm
    ·exact mV _ _ (hb'.1 x hx) (ha'.1 y hy)
  subst exy;rw [bB ha'.2 hb'.2 (List.Perm.cons_inv p)]
theorem lexE{prog:Program}{w:World}{A:Around}{fin:Bool}{C:Bool->Shared->Prop}{s:Shared}:∀ {vs ws:List Value} {ns ms:List Int} (i:Nat),IntsAre vs ns->IntsAre ws ms->fin=decide (ns.length < ms.length)->C (dE ns ms) s->KatLex prog w A true fin C (vs.zip ws) i s
 | [],[],_,_,i,.nil,.nil,hf,hC=>kat_nil (by subst hf;exact hC)
 | [],_::_,_,_,i,.nil,.cons _ _ _,hf,hC=>kat_nil (by subst hf;rw [DF (by simp)];exact hC)
 | _::_,[],_,_,i,.cons _ _ _,.nil,hf,hC=>kat_nil (by subst hf;rw [DO (by simp)];exact hC)
 | _::vs,_::ws,_::ns,_::ms,i,.cons a t h1,.cons c u h2,hf,hC=>by
  rw [FA];refine kat_cons ?_;obtain ⟨e,he,h3⟩:=HT.Ac A s a t c u;refine he prog w _ _ ?_;unfold dE at hC
  cases e with
  | true =>
   rw [if_pos (h3.mp rfl)] at hC;exact kat_yes (lexE (i+1) h1 h2 (by rw [hf];simp) hC)
  | false =>
   rw [if_neg (fun z=>by cases h3.mpr z)] at hC;refine kat_no ?_
   cases i with
   | zero=>exact oneLt_int hC
   | succ i=>exact kat_one _ _ (lt_int hC)
section
variable{prog:Program}{w:World}{A:Around}{E:Value->Shared->Prop}{s:Shared}
noncomputable def iB(h:Heap)(vs:List Value)(ks:List (List Int)):Prop:=vs.length=ks.length/\∀ (i:Nat) (hi:i < vs.length),∃ a items,vs[i] = .ref a/\IsTup h a items/\IntsAre items.toList (ks.getD i [])/\ks.getD i []≠[]
theorem iB.tups{h:Heap}{vs:List Value}{ks:List (List Int)}(t:iB h vs ks):Tups h vs:=fun v hv=>by
 obtain ⟨i,hi,rfl⟩:=E2.mp hv;obtain ⟨a,items,h1,h2,h3,h4⟩:=t.2 i hi;exact ⟨a,items,_,h1,h2,h3,h4⟩
theorem iB.keep{h h':Heap}{vs:List Value}{ks:List (List Int)}(t:iB h vs ks)(k:∀ b o,h.get? b=some o->o.cls = .type "tuple" -> h'.get? b=some o):iB h' vs ks:=⟨t.1,fun i hi=>by
 obtain ⟨a,items,e,⟨o,h1,h2,n,h3⟩,i,ne⟩:=t.2 i hi
 exact ⟨a,items,e,⟨o,k a o h1 h2,h2,n,h3⟩,i,ne⟩⟩
abbrev klt(ks:List (List Int))(i j:Nat):Bool:=dE (ks.getD i []) (ks.getD j [])
theorem BV(ks:List (List Int)):Ord (klt ks):=⟨fun _ _ h=>iU _ _ h,fun _ _ _ h g=>gD _ _ _ h g⟩
theorem asc_pw{lt:Nat->Nat->Bool}{p:Array Nat}(h:Asc lt p p.size):p.toList.Pairwise (Le lt):=by
 rw [List.pairwise_iff_getElem];intro i j hi hj hij;have:=h i j (EV hij) (by simpa using hj);unfold Le at_ at this
 have gi:i < p.size:=by simpa using hi
 have gj:j < p.size:=by simpa using hj
 rw [Ei,Ei,E1 gi,E1 gj] at this;simpa using this
end
end Srt
namespace Srt
open PySem PySem.W PyProof.Rows
section
variable{prog:Program}{w:World}{A:Around}{E:Value->Shared->Prop}{s:Shared}
theorem _root_.L2.IntsAre_len{vs:List Value}{ns:List Int}(h:IntsAre vs ns):vs.length=ns.length:=by
 induction h with
 | nil=>rfl
 | cons _ _ _ ih=>rw [Dq,Dq,ih]
theorem Cw{a:Addr}{vs:List Value}{ks:List (List Int)}{n:Nat}{P:PySem.Fin->Shared->Prop}(ho:s.heap.get? a=some (seqObj "list" vs.toArray n))(ht:iB s.heap vs ks)(h64:vs.length < 64)
 (h:∀ p:List Nat,p.Perm (List.range vs.length)->p.Pairwise (Le (klt ks))->P (.done (.ret .none)) { s with heap:=sortedHeap s.heap a vs (p.map fun i=>vs.getD i Value.none).toArray }):wpAny (model prog w) A (Builtin.«list.sort» ⟨[.ref a],[]⟩) P E s:=by
 rw [list_sort_plain];have ha:a < s.heap.objs.size:=Dx ho;refine Dj (listItems_at ho rfl (Dj (listUpdate_at ho rfl ?_)));obtain ⟨e1,o1⟩:∃ e1,(s.heap.update a (Obj.mapSeq fun _ => #[])).get? a=some (seqObj "list" #[] e1):=⟨_,get?_update_seq ho (fun _ => #[])⟩;refine Dj (seqEpoch_at o1 rfl (Dj (wpAny_newTuple (Dj (FN ?_)))));refine EQ ?_;have o6:(((s.heap.update a (Obj.mapSeq fun _ => #[])).push (seqObj "tuple" vs.toArray 0)).push (seqObj "list" #[] 0)).get? a=some (seqObj "list" #[] e1):=Dk _ (Dk _ o1)
 show wpAny (model prog w) A _ P E { s with heap:=((s.heap.update a (Obj.mapSeq fun _ => #[])).push (seqObj "tuple" vs.toArray 0)).push (seqObj "list" #[] 0) }
 dsimp only
 have hsz:vs.toArray.size=vs.length:=by simp
 have t6:iB (((s.heap.update a (Obj.mapSeq fun _ => #[])).push (seqObj "tuple" vs.toArray 0)).push (seqObj "list" #[] 0)) vs ks:=ht.keep fun b o e c=>by
  refine Dk _ (Dk _ ((Ff _ _ ?_).trans e));rintro rfl;rw [ho] at e;cases e;exact absurd c (by simp [seqObj])
 by_cases h2:vs.toArray.size < 2
 ·rw [if_pos h2,if_pos h2]
  refine Dj (Ds ?_);rw [StateT.run_pure];refine Dj (Ds ?_);dsimp only;refine Dj (seqEpoch_at o6 rfl (Dj (listUpdate_at o6 rfl ?_ (hsz2:=by rw [Array.size_map];show (pairsOf vs).size<=_;rw [pairsOf_size,sizeLine_eq];omega))));simp only [bne_self_eq_false,EO,if_false];refine Ds ?_
  have e:((vs.toArray.zip vs.toArray).map (·.2))=vs.toArray:=by
   apply Array.toList_inj.mp;rw [Array.toList_map,Array.toList_zip];exact List.map_snd_zip (Dy _)
  have q:=h (List.range vs.length) (List.Perm.refl _) (List.pairwise_iff_getElem.mpr fun i j hi hj hij=>by
   rw [ET] at hi hj
   omega)
  rw [show ((List.range vs.length).map fun i=>vs.getD i Value.none)=vs by
   apply Fo
   ·simp
   ·intro i h1 h2
    simp [h2]] at q
  rw [<- e] at q;exact q
 ·rw [if_neg h2,if_neg h2]
  have h2':2<=vs.length:=by omega
  obtain ⟨fs,f1,f2,f3⟩:=zY (M:=model prog w) t6.tups;refine Dj (kat_kind (T:= .type "int") f2 (by omega) f3 (by decide) ?_);rw [show ((Value.type "int" != Value.type "tuple")=true) from by decide]
  refine Dj (EA (kat_run (Q:=fun st' s'=>∃ p:Array Nat,(dH vs.length p/\p.size=vs.length/\Asc (klt ks) p vs.length)/\arrOf st'=p.map (kas_item (vs.toArray.zip vs.toArray))/\failedOf st'=none/\s'=_) (G:=fun p s'=>(dH vs.length p/\p.size=vs.length/\Asc (klt ks) p vs.length)/\s'=_) (ks:=vs) rfl h2' h64
   (fun p st' s' _ a2 a3 a4=>⟨p,a4.1,a2,a3,a4.2⟩) (both (lt:=klt ks) (P:=dH vs.length) (P':=fun p:Array Nat=>p.size=vs.length/\Asc (klt ks) p vs.length) (fun i j C hi hj hC=> ?_) (fun p hp hp2=>⟨⟨hp,hp2⟩,rfl⟩) (sort (by omega)) (AU (BV ks) (by omega)))) ?_ fun _ _ x=>x)
  ·show wpAny (model prog w) A (keyLt' (tuples' true) (vs.getD i Value.none) (vs.getD j Value.none)) C (fun _ _=>False) _
   have gi:vs.getD i Value.none=vs[i]:=by simp [hi]
   have gj:vs.getD j Value.none=vs[j]:=by simp [hj]
   rw [gi,gj];obtain ⟨x,xs,ex,⟨ox,x1,x2,nx,x3⟩,ix,_⟩:=t6.2 i hi;obtain ⟨y,ys,ey,⟨oy,y1,y2,ny,y3⟩,iy,_⟩:=t6.2 j hj;rw [ex,ey];refine kat_lt x1 x3 y1 y3 (lexE 0 ix iy ?_ hC);rw [<- Em,<- Em,L2.IntsAre_len ix,L2.IntsAre_len iy]
  ·rintro ⟨⟨⟩,st'⟩ s' ⟨p,⟨hp,hpz,hpa⟩,har,hf,rfl⟩
   dsimp only;have hout:=kat_snds (vs:=vs) (ks:=vs) rfl har
   have hperm:(p.toList.map fun i=>vs.getD i Value.none).Perm vs:=by
    have e:=hp.2.map fun i=>vs.getD i Value.none
    refine e.trans (Fi ?_);apply Fo
    ·simp
    ·intro i h1 h2
     simp [h2]
   rw [hout];refine Dj (seqEpoch_at o6 rfl (Dj (listUpdate_at o6 rfl ?_ (hsz2:=by rw [Du,hperm.length_eq,sizeLine_eq];omega))));rw [hf];simp only [bne_self_eq_false,EO,if_false];exact Ds (h p.toList hp.2 (asc_pw (by rw [hpz];exact hpa)))
theorem AT{l:Addr}{vs:List Value}{ks:List (List Int)}{Q:Value->Shared->Prop}(hl:s.heap.IsList l vs.toArray)(ht:iB s.heap vs ks)(h64:vs.length < 64)
 (h:∀ p:List Nat,p.Perm (List.range vs.length)->p.Pairwise (Le (klt ks))->Q (.ref (s.heap.objs.size+1)) { s with heap:=sortedAll s.heap vs (p.map fun i=>vs.getD i Value.none).toArray }):wpAny (model prog w) A (call (.builtin "sorted") [.ref l]) Q E s:=by
 refine Calls.call_function_entry kind_sorted plain_sorted entry_sorted (args_sorted1 _) ?_;unfold Builtin.«sorted»;refine Dj (m:=checkCount "sorted" 1 1 _) (Ds ?_);refine Dj (collect_list hl (Dj (FN ?_)))
 have hsz:((s.heap.push (seqObj "list" #[] 0)).update s.heap.objs.size (Obj.mapSeq (·++ vs.toArray))).objs.size=s.heap.objs.size+1:=by
  rw [Heap.size_update,size_push']
 have oL:(((s.heap.push (seqObj "list" #[] 0)).update s.heap.objs.size (Obj.mapSeq (·++ vs.toArray))).push (seqObj "list" vs.toArray 0)).get? (s.heap.objs.size+1)=some (seqObj "list" vs.toArray 0):=by
  rw [<- hsz];exact Dw _ rfl
 show wpAny _ _ _ _ _ { s with heap:=((s.heap.push (seqObj "list" #[] 0)).update s.heap.objs.size (Obj.mapSeq (·++ vs.toArray))).push (seqObj "list" vs.toArray 0) }
 rw [hsz]
 have tL:iB (((s.heap.push (seqObj "list" #[] 0)).update s.heap.objs.size (Obj.mapSeq (·++ vs.toArray))).push (seqObj "list" vs.toArray 0)) vs ks:=ht.keep fun b o e _ =>
  Dk _ ((Ff _ _ (Ne.symm (DL (Dx e)))).trans (Dk _ e))
 refine Dj (EQ (En slot_list_sort ⟨_,oL,rfl⟩ entry_list_sort (Cw oL tL h64 fun p hp hs=>⟨_,rfl,?_⟩) (args_list_sort _)));exact Ds ⟨_,rfl,h p hp hs⟩
end
end Srt
namespace L2
open PySem PySem.Spec PyProof.Rows
section
variable{X:Cx}
noncomputable def jZ(K:FZ):List V->Hp->VK->Prop:=fun xs H Q=>∃ (p:Addr) (bs:List V) (ks:List (List Int)),xs=[V.ref p]/\SqL K H p bs/\bs.length < 64/\bs.length=ks.length/\(∀ (i:Nat) (k:List Int),ks[i]?=some k->∃ a:Addr,bs[i]?=some (.ref a)/\SqT K H a (k.map V.int)/\k≠[]) /\
 ∀ l (q:List Nat),H l=none->q.Perm (List.range bs.length)->q.map (fun i=>ks.getD i [])=Srt.gC ks->Q (.ref l) (upd H l (.lst (q.map fun i=>bs.getD i .non)))
theorem qN:aH X (.builtin "sorted") (jZ X.K):=by
 intro pins s σ H xs us Q I r h;obtain ⟨p,bs,ks,rfl,hq,h64,hlk,ht,q⟩:=h;obtain ⟨u,rfl,ru⟩:=bT r;cases ru;obtain ⟨its,rv,pl,hz⟩:=I.list hq;have hlen:=rv.length
 have isref:∀ b∈bs,∃ a,b = .ref a:=fun b hb=>by
  obtain ⟨i,hi,rfl⟩:=E2.mp hb;obtain ⟨a,e,_⟩:=ht i _ (Dm (by omega));rw [Dm hi] at e;exact ⟨a,Option.some.inj e⟩
 obtain ⟨eb,refs⟩:=oR rv isref
 refine Srt.AT (ks:=ks) pl.isList ⟨by omega,fun i hi=> ?_⟩ (by omega) fun p hp hs=> ?_
 ·obtain ⟨a,e,hS,ne⟩:=ht i _ (Dm (by omega))
  have hv:its[i] = .ref a:=by
   obtain ⟨b,hb⟩:=refs its[i] (EJ hi)
   have:(its.map rO)[i]?=some (.ref a):=by rw [<- eb];exact e
   rw [DM,Dm hi,hb] at this;rw [hb];have:=Option.some.inj this;cases this;rfl
  obtain ⟨items,ri,pt,_⟩:=I.tuple hS
  have hk:ks.getD i []=ks[i]'(by omega):=by simp [DP,Dm (show i < ks.length by omega)]
  rw [hk];exact ⟨a,items.toArray,hv,pt,dw ri,ne⟩
 ·have hf:H (s.heap.objs.size+1)=none:=I.hok.fresh (Nat.le_succ _)
  have perm:(p.map fun i=>its.getD i Value.none).Perm its:=by
   refine (hp.map _).trans (Fi ?_);apply Fo
   ·simp
   ·intro i h1 h2
    simp [h2]
  have ro:∀ u∈(p.map fun i=>its.getD i Value.none),∃ b,u = .ref b:=fun u hu=>refs u (perm.mem_iff.mp hu)
  have eo:(p.map fun i=>its.getD i Value.none).map rO=p.map fun i=>bs.getD i .non:=by
   rw [Eb];apply Ed;intro i hi
   have hi':i < its.length:=by
    have:=hp.mem_iff.mp hi;simpa using this
   show rO (its.getD i Value.none)=_
   rw [eb];simp [DP,hi']
  have es:p.map (fun i=>ks.getD i [])=Srt.gC ks:=by
   refine Srt.bB ?_ (Srt.dg ks) (((hp.map _).trans (Fi ?_)).trans (Srt.cn ks).symm)
   ·rw [List.pairwise_map]
    exact hs.imp fun h=>h
   ·rw [hlen.symm.trans hlk]
    apply Fo
    ·simp
    ·intro i h1 h2
     simp [h2]
  obtain ⟨e,he⟩:=sortedAll_at s.heap its (p.map fun i=>its.getD i Value.none).toArray;refine ⟨.ref (s.heap.objs.size+1),upd H (s.heap.objs.size+1) (.lst (p.map fun i=>bs.getD i .non)),I.laid (t':=s.toks) (fun b o=>sortedAll_old) (Nat.le_succ _) ⟨?_,_,e,by rw [<- eo];exact jX ro,he⟩,rfl,q _ p hf (by rw [hlen];exact hp) es⟩;rw [Do,hp.length_eq,ET,<- hlen];exact hz
end
noncomputable def AK:D->Option (List Int)
 | .tup ds=>match aT ds with
  | some (n::ns)=>some (n::ns)
  | _=>none
 | _=>none
noncomputable def ku:List D->Option (List (List Int))
 | []=>some []
 | d::ds=>match AK d,ku ds with
  | some k,some ks=>some (k::ks)
  | _,_=>none
abbrev pF(k:List Int):D:= .tup (k.map D.int)
theorem AJ{d:D}{k:List Int}(h:AK d=some k):d=pF k/\k≠[]:=by
 unfold AK at h
 split at h
 ·rename_i ds
  split at h
  ·rename_i n ns e
   cases h;exact ⟨by rw [bt e],by simp⟩
  ·cases h
 ·cases h
theorem rf:∀ {ds:List D} {ks:List (List Int)},ku ds=some ks->ds=ks.map pF/\∀ k∈ks,k≠[]
 | [],_,h=>by cases h;exact ⟨rfl,fun k hk=>by cases hk⟩
 | d::ds,ks,h=>by
  unfold ku at h
  split at h
  ·rename_i k ks' h1 h2
   cases h;obtain ⟨e1,n1⟩:=AJ h1;obtain ⟨e2,n2⟩:=rf h2;exact ⟨by rw [e1,e2];rfl,fun k hk=>(Dz.mp hk).elim (fun e=>e ▸ n1) (n2 k)⟩
  ·cases h
noncomputable def nh:List D->Option (D×Bool)
 | [.lst ds]=>match ku ds with
  | some ks=>if decide (ks.length < 64)=true then some (.lst ((Srt.gC ks).map pF),true) else none
  | none=>none
 | _=>none
theorem oQ{K:FZ}{H:Hp}{ds:List D}{xs:List V}(h:ak K H ds xs):∀ (q:List Nat),(∀ i∈q,i < ds.length)->ak K H (q.map fun i=>ds.getD i .non) (q.map fun i=>xs.getD i .non)
 | [],_=>trivial
 | i::q,hq=>by
  have hi:=hq i Dv;obtain ⟨x,hx,r⟩:=h.get (Dm hi);refine ⟨?_,oQ h q fun j hj=>hq j (Dr _ hj)⟩
  show aF K H (ds.getD i .non) (xs.getD i .non)
  rw [DP,DP,hx,Dm hi];exact r
theorem yN{K:FZ}:OpS K (jZ K) nh:=by
 intro vs ds H L Q d nw hm r e q;unfold nh at e
 split at e
 ·rename_i es
  obtain ⟨x,rfl,⟨p,xs,rfl,h1,h2⟩⟩:=aJ r
  cases ek:ku es with
  | none=>rw [ek] at e;cases e
  | some ks =>
   rw [ek] at e;simp only at e
   split at e
   ·rename_i hk
    cases e;have hk:=DH hk;obtain ⟨ee,hne⟩:=rf ek
    have hl:ks.length=xs.length:=by rw [<- h2.len,ee,Do]
    refine ⟨p,xs,ks,rfl,.inl (.inl h1),by omega,hl.symm,fun i k hi=> ?_,fun l p' hl' hp hs=>q _ _ (ai.upd hl') (cE ?_ hl')⟩
    ·obtain ⟨v,hv,a,ys,rfl,g1,g2⟩:=h2.get (i:=i) (d:=pF k) (by rw [ee,DM,hi];rfl)
     exact ⟨a,hv,.inl (.inl (by rw [(aw g1).2,bd g2])),hne k (DD hi)⟩
    ·have:=oQ h2 p' fun i hi=>by
      have:=hp.mem_iff.mp hi;rw [Et,<- h2.len] at this;exact this
     rw [<- hs,Eb]
     have e2:(p'.map fun i=>es.getD i .non)=p'.map (pF ∘ fun i=>ks.getD i []):=by
      apply Ed;intro i hi
      have hi':i < ks.length:=by
       have:=hp.mem_iff.mp hi;rw [Et] at this;omega
      rw [ee];simp [DP,hi']
     rw [<- e2];exact this
   ·cases e
 ·cases e
noncomputable def iZ(ds:List D):Option (D×Bool):=match fM ds with
 | some r=>some r
 | none=>nh ds
theorem yP{K:FZ}:OpS K (fun xs H Q=>(iN K xs H Q\/iM K xs H Q)\/jZ K xs H Q) iZ:=by
 intro vs ds H L Q d nw hm r e q;unfold iZ at e
 cases es:fM ds with
 | some z =>
  rw [es] at e;cases e;exact .inl (wr vs ds H L Q d nw hm r es q)
 | none =>
  rw [es] at e;exact .inr (yN vs ds H L Q d nw hm r e q)
theorem uI{X:Cx}:aH X (.builtin "sorted") (fun xs H Q=>(iN X.K xs H Q\/iM X.K xs H Q)\/jZ X.K xs H Q):=qO.or qN
section
variable{X:Cx}{EX:EXT}{e:Expr}{es:List Expr}{pos p:Pos}{as:List Arg}
end
noncomputable def sTry(nms:List Str)(i:Nat)(f g:SS):SS:=fun ρ=>match f ρ with
 | some (.ex C,ρ1)=>if nms.elem C=true then match ρ1[i]? with
  | some _=>match g (ρ1.set i (some (.exc C,.fz))) with
   | some (.nx,ρ2)=>some (.nx,ρ2.set i none)
   | some (.bk,ρ2)=>some (.bk,ρ2.set i none)
   | some (.ct,ρ2)=>some (.ct,ρ2.set i none)
   | some (.rt d nw,ρ2)=>some (.rt d nw,ρ2)
   | some (.ex _,_)=>none
   | none=>none
  | none=>none
  else none
 | r=>r
section
variable{K:FZ}{F:Fx}{EX:EXT}{σ:St}{H:Hp}{ρ:Rho}{W:List Addr}
theorem Rel.drop(R:Rel K F σ H ρ W)(i:Nat):Rel K F (σ.set i none) H (ρ.set i none) W:=by
 refine ⟨fun j e m hj=> ?_,fun j k e f m n p h1 h2 h3 h4 h5 h6=> ?_,R.wz,R.mt,by rw [Ex,Ex];exact R.len⟩
 ·rcases ba hj with ⟨_,e1⟩ | ⟨ne,e1⟩
  ·cases e1
  ·obtain ⟨v',g1,g2⟩:=R.slot j e m e1
   exact ⟨v',by rw [DV (Ne.symm ne)];exact g1,g2⟩
 ·rcases ba h1 with ⟨_,z⟩ | ⟨n1,z⟩
  ·cases z
  ·rcases ba h3 with ⟨_,z'⟩ | ⟨n2,z'⟩
   ·cases z'
   ·rw [DV (Ne.symm n1)] at h5
    rw [DV (Ne.symm n2)] at h6;exact R.apart j k _ _ _ _ _ z h2 z' h4 h5 h6
end
theorem s_try{X:Cx}{EX:EXT}{body:List Stmt}{b0:Stmt}{suite:List Stmt}{n x:Str}{i:Nat}{Dc:Addr}{np hpos pos:Pos}{f g:SS}{nms:List Str}
 (hst:X.stack=X.env::X.outer) (hfr:X.env.frame=some X.env.locals)
 (hb:∀ pn (EX':EXT),JSs (rj X pn fun c σ H=>∃ nm C,c = .ref C/\gK X.K nm C/\EX' nm σ H) EX' body f)
 (hs:∀ pn ea,JSs (iF X pn ea) EXn (b0::suite) g)
 (hN:X.N.Nodup) (hi:X.N[i]?=some n) (hlo:X.env.scope.names.lookup n=some .local) (hg:Gl X x) (hD:Hdl X.K X.mg x Dc)
 (hsub:∀ nm,nms.elem nm=true->∀ C,gK X.K nm C->PySem.W.subIn X.K (.ref C) (.ref Dc)=some true) (hdb:(x == ("__debug__" : Str))=false:=by decide) :
 JS X EX (.Try body [.ExceptHandler (some (.Name x np)) (some n) (b0::suite) hpos] [] [] pos) (sTry nms i f g):=by
 refine ⟨(ps_try (ts:=tVS X.K EXn g) (tb:=fun W D σ H=>∃ EX':EXT,(W=fun c σ H=>∃ nm C,c = .ref C/\gK X.K nm C/\EX' nm σ H)/\tVS X.K EX' f D σ H) hst hfr (fun pn W=> ?_) (fun pn ea=>(hs pn ea).p) hN hi hlo hg hD hdb).by fun D σ H ⟨F,ρ,W0,R,h⟩=> ?_⟩
 ·intro pins s σ H D I hw
  obtain ⟨EX',rfl,hw⟩:=hw;exact (hb pn EX').p pins s σ H D I hw
 ·let D':lq:={ nx:=fun σ'' H''=>D.nx (σ''.set i none) H'',rt:=D.rt,bk:=fun σ'' H''=>D.bk (σ''.set i none) H'',ct:=fun σ'' H''=>D.ct (σ''.set i none) H'' }
  let EX':EXT:=fun nm σ' H'=>nms.elem nm=true/\∀ C ea,gK X.K nm C->H' ea=none->tVS X.K EXn g D' (σ'.set i (some (.ref ea))) (upd H' ea (nA ea C))
  refine ⟨_,⟨EX',rfl,F,ρ,W0,R,?_⟩,?_⟩
  ·unfold sTry at h
   revert h
   cases f ρ with
   | none=>exact fun h=>h
   | some q =>
    obtain ⟨q,ρ1⟩:=q
    cases q with
    | nx=>exact fun h=>h
    | bk=>exact fun h=>h
    | ct=>exact fun h=>h
    | rt d nw=>exact fun h=>h
    | ex nm =>
     intro h;simp only at h
     by_cases he:nms.elem nm=true
     ·rw [if_pos he] at h
      cases hρ:ρ1[i]? with
      | none=>rw [hρ] at h;exact h.elim
      | some z =>
       rw [hρ] at h;simp only at h;intro σ1 H1 W1 fr sub R1;refine ⟨he,fun C ea hC hea=> ?_⟩
       have hlt:i < σ1.length:=by rw [R1.len];exact (DA.mp hρ).1
       have R2:=(R1.same (ai.upd hea (o:=nA ea C))).put (d:= .exc nm) (v:= .ref ea) hlt ⟨ea,C,rfl,hC,(aI (R1.fresh hea)).trans ao⟩;have fr2:Fr W0 H (upd H1 ea (nA ea C)):=fr.trans (W1:=[]) (ai.fr (ai.upd hea)) (fun p hp=>by cases hp);have h:=OkS.go h fr2 (W1:=W1) sub;refine ⟨F,_,W1,R2,?_⟩
       revert h
       cases g (ρ1.set i (some (.exc nm,.fz))) with
       | none=>exact fun h=>h
       | some q =>
        obtain ⟨q,ρ2⟩:=q
        cases q with
        | nx=>exact fun h σ3 H3 W3 f3 s3 R3=>h _ H3 W3 f3 s3 (R3.drop i)
        | bk=>exact fun h σ3 H3 W3 f3 s3 R3=>h _ H3 W3 f3 s3 (R3.drop i)
        | ct=>exact fun h σ3 H3 W3 f3 s3 R3=>h _ H3 W3 f3 s3 (R3.drop i)
        | rt d nw=>exact fun h=>h
        | ex _=>exact fun h=>h.elim
     ·rw [if_neg he] at h
      exact h.elim
  ·rintro cls σ' H' ⟨nm,C,rfl,hC,he,hh⟩
   exact ⟨C,rfl,hsub nm he C hC,fun ea hea=>hh C ea hC hea⟩
end L2
namespace L2
theorem s_none{X:Cx}{EX:EXT}{s:PySem.Stmt}:JS X EX s (fun _=>none):=⟨fun pins s σ H D I ⟨_,_,_,_,h⟩=>h.elim⟩
namespace Kd
open PySem L2 PyProof.Rows
noncomputable def xD:List Str:=["web", "place", "kind", "share", "square", "number", "text", "row", "great"]
noncomputable def fI(j:Nat):List V:=(List.range 9).map fun i=>V.bl (decide (i=j))
structure uY(K:FZ)(mg:Str->Option Value)(C:Addr)(j:Nat):Prop where
 exk:XK.tN K C
 lt:j < 9
 ve:PySem.W.kitOne K (.ref C) (.type "ValueError")=some true
 k0:∃ c,mg "NoWeb" = some (.ref c)/\PySem.W.kitOne K (.ref C) (.ref c)=some (decide (0=j))
 k1:∃ c,mg "NoPlace" = some (.ref c)/\PySem.W.kitOne K (.ref C) (.ref c)=some (decide (1=j))
 k2:∃ c,mg "NoKind" = some (.ref c)/\PySem.W.kitOne K (.ref C) (.ref c)=some (decide (2=j))
 k3:∃ c,mg "NoShare" = some (.ref c)/\PySem.W.kitOne K (.ref C) (.ref c)=some (decide (3=j))
 k4:∃ c,mg "NoSquare" = some (.ref c)/\PySem.W.kitOne K (.ref C) (.ref c)=some (decide (4=j))
 k5:∃ c,mg "NoNumber" = some (.ref c)/\PySem.W.kitOne K (.ref C) (.ref c)=some (decide (5=j))
 k6:∃ c,mg "NoText" = some (.ref c)/\PySem.W.kitOne K (.ref C) (.ref c)=some (decide (6=j))
 k7:∃ c,mg "NoRow" = some (.ref c)/\PySem.W.kitOne K (.ref C) (.ref c)=some (decide (7=j))
 k8:∃ c,mg "TooGreat" = some (.ref c)/\PySem.W.kitOne K (.ref C) (.ref c)=some (decide (8=j))
theorem zn{K:FZ}{C:Addr}:PySem.W.kitOne K (.ref C) (.ref C)=some true:=by unfold PySem.W.kitOne;rw [if_pos (by simp)]
theorem cM{K:FZ}{C D:Addr}{cd:ClassData}{b:Bool}(ne:C≠D)(h1:PySem.W.clsIn K D=some cd)(h2:PySem.W.typeIn K (.ref D)=some (.type "type"))(h3:PySem.W.subIn K (.ref C) (.ref D)=some b):PySem.W.kitOne K (.ref C) (.ref D)=some b:=by
 unfold PySem.W.kitOne;rw [if_neg (by simpa using ne)];unfold PySem.W.kitCls;dsimp only;rw [h1,h2];simpa using h3
theorem kit_ve{K:FZ}{C:Addr}(h3:PySem.W.subIn K (.ref C) (.type "ValueError")=some true):PySem.W.kitOne K (.ref C) (.type "ValueError")=some true:=by
 unfold PySem.W.kitOne;rw [if_neg (by simp)];unfold PySem.W.kitCls;dsimp only;rw [if_pos (by decide +kernel)];exact h3
theorem mU:∀ j,(fI j).all fW=true:=fun j=>rfl
theorem wA:∀ j,j < 9->((fI j).countP fun z=>eqV z (.bl true))=1:=by decide
theorem zh:∀ j,j < 9->∃ h:j < (fI j).length,eqV (fI j)[j] (.bl true)=true:=by decide
theorem zg:∀ j,j < 9->∀ m,(hm:m < (fI j).length)->m < j->eqV (fI j)[m] (.bl true)=false:=by decide
theorem xC{j:Nat}(h:j < 9):atI [V.str "web",.str "place",.str "kind",.str "share",.str "square",.str "number",.str "text",.str "row",.str "great"] (j:Nat)=some (.str (xD.getD j "")):=by
 have:j=0\/j=1\/j=2\/j=3\/j=4\/j=5\/j=6\/j=7\/j=8:=by omega
 rcases this with rfl | rfl | rfl | rfl | rfl | rfl | rfl | rfl | rfl<;>rfl
noncomputable def tU(K:FZ)(mg:Str->Option Value):Sp:=fun vs H Q _=>∃ ea C j,vs=[.ref ea]/\H ea=some (nA ea C)/\uY K mg C j/\∀ H',ai H H'->Q (.str (xD.getD j "")) H'
section
variable{X:Cx}{e:Expr}{te:TE}{pos p1 p2:Pos}
theorem isx(mi:X.mg "isinstance" = none){x:Str}{c:Addr}(hm:X.mg x=some (.ref c))(he:PE X e te)(g1:Gl X "isinstance")(g2:Gl X x)(hd:(x == ("__debug__" : Str))=false:=by decide)(hs:starEach [e,.Name x p1] X.env=(false,eval e X.env)::starEach [.Name x p1] X.env:=by rfl) :
 PE X (.Call (.Name "isinstance" p2) [e,.Name x p1] [] pos) (tCB (rIsx X.K) (oG te (oG (tC (.ref c)) AQ))) :=
 jt tw g1 mi boot_isinstance (aA he (aA (js (v:= .ref c) g2 hm rfl hd) ck) hs) (he:=hs)
theorem isxV(mi:X.mg "isinstance" = none)(mv:X.mg "ValueError" = none)(he:PE X e te)(g1:Gl X "isinstance")(g2:Gl X "ValueError")(hs:starEach [e,.Name "ValueError" p1] X.env=(false,eval e X.env)::starEach [.Name "ValueError" p1] X.env:=by rfl) :
 PE X (.Call (.Name "isinstance" p2) [e,.Name "ValueError" p1] [] pos) (tCB (rIsx X.K) (oG te (oG (tC (.ty "ValueError")) AQ))) :=
 jt tw g1 mi boot_isinstance (aA he (aA (vy g2 mv PyProof.Rows.Boot.«ValueError» rfl) ck) hs) (he:=hs)
end
noncomputable def names:List Str:=["NoWeb", "NoPlace", "NoKind", "NoShare", "NoSquare", "NoNumber", "NoText", "NoRow", "TooGreat"]
noncomputable def zo(nms:List Str)(C:Str):Option Str:=if nms.elem C=true then match names.findIdx? (·== C) with
 | some j=>some (xD.getD j "")
 | none=>none else none
noncomputable def xZ(nms:List Str)(i:Nat):SE:=fun ρ=>match ρ[i]? with
 | some (some (.exc C,.fz))=>match zo nms C with
  | some w=>some (.ok (.str w) false,ρ)
  | none=>none
 | _=>none
structure AD(K:FZ)(mg:Str->Option Value)(nms:List Str):Prop where
 is:∀ nm,nms.elem nm=true->∀ j,names.findIdx? (·== nm)=some j->∀ C,gK K nm C->uY K mg C j
theorem c_kind{X:Cx}{EX:EXT}{nms:List Str}{i k:Nat}{n:Str}{p q pos:Pos}(G:OkA X.prog X.w X.K X.mg X.base "_law_kind_of" ["e"] k (tU X.K X.mg))(kn:AD X.K X.mg nms)(hr:ff k X.A)(hg:Gl X "_law_kind_of")(hN:X.N[i]?=some n:=by rfl)(hv:Vis X.env.scope n:=by first | exact Or.inl rfl | exact Or.inr (Or.inl rfl) | exact Or.inr (Or.inr rfl))
 (hd:(n == ("__debug__" : Str))=false:=by decide) (hcd:(n == ("__classdict__" : Str))=false:=by decide) (he:starEach [.Name n q] X.env=(false,eval (.Name n q) X.env)::starEach [] X.env:=by rfl) (hpl:(backTo pos (starEach [] X.env)).any (·.1)=false:=by rfl) :
 JE X EX (.Call (.Name "_law_kind_of" p) [.Name n q] [] pos) (xZ nms i):=by
 refine ⟨(yJ G hr hg (aA (gw hN hv hd hcd) ck he) (he:=he) (hpl:=hpl)).by fun σ H Q ⟨F,ρ,W,R,h⟩=> ?_⟩;unfold xZ at h
 revert h
 cases e0:ρ[i]? with
 | none=>exact fun h=>h.elim
 | some z =>
  cases z with
  | none=>exact fun h=>h.elim
  | some z =>
   obtain ⟨d,m⟩:=z
   cases d<;>cases m<;>try exact fun h=>h.elim
   rename_i C;intro h;simp only at h
   cases ew:zo nms C with
   | none=>rw [ew] at h;exact h.elim
   | some w =>
    rw [ew] at h;obtain ⟨v,hv',p',A,rfl,hC,hp⟩:=R.slot i _ _ e0;unfold zo at ew
    split at ew
    ·rename_i hel
     split at ew
     ·rename_i j hj
      cases ew;refine ⟨_,hv',p',A,j,rfl,(aw hp).2,kn.is C hel j hj A hC,fun H' s=> ?_⟩;exact h _ H' W s.fr (fun _ z=>z) ⟨rfl,R.same s⟩
     ·cases ew
    ·cases ew
end Kd
end L2
namespace L2
open PySem PySem.Spec PyProof.Rows
noncomputable def keyD:Key->D
 | .inl i=> .int i
 | .inr x=> .str x
theorem zq{K:FZ}{H:Hp}:∀ (k:Key),aF K H (keyD k) (kV k)
 | .inl _=>rfl
 | .inr _=>rfl
theorem o3{K:FZ}{H:Hp}:∀ (k:List Key),ak K H (k.map keyD) (k.map kV)
 | []=>trivial
 | k::ks=>⟨zq k,o3 ks⟩
noncomputable def gI(ds:List D):Option (D×Bool):=match ds with
 | [.dT ks _]=>some (.lst (ks.map fun k=> .tup (k.map keyD)),true)
 | ds=>zQ ds
noncomputable def yo:List V->Hp->VK->Prop:=fun xs H Q=>∃ a kvs,xs=[V.ref a]/\H a=some (.dT kvs) /\
 ∀ l bs,H l=none->(kvs.map (·.1)).Nodup->bs.length=kvs.length->(∀ (i:Nat) k v,kvs[i]?=some (k,v)->∃ b,bs[i]?=some (V.ref b)/\H b=some (.tup (k.map kV)))->Q (.ref l) (upd H l (.lst bs))
theorem qh{K:FZ}{H:Hp}:∀ {ds:List D} {xs:List V},ds.length=xs.length->(∀ (i:Nat) (d:D),ds[i]?=some d->∃ x,xs[i]?=some x/\aF K H d x)->ak K H ds xs
 | [],[],_,_=>trivial
 | d::ds,x::xs,hl,h=>by
  obtain ⟨y,e,r⟩:=h 0 d rfl;cases e
  exact ⟨r,qh (by simpa using hl) fun i d' hd=>by
   obtain ⟨y,e,r⟩:=h (i+1) d' (by simpa using hd)
   exact ⟨y,by simpa using e,r⟩⟩
 | [],_::_,hl,_=>by simp at hl
 | _::_,[],hl,_=>by simp at hl
theorem yS{K:FZ}:OpS K (fun xs H Q=>(lB K xs H Q\/mq xs H Q)\/yo xs H Q) gI:=by
 intro vs ds H L Q d nw hm r e q;unfold gI at e
 split at e
 ·rename_i ks es
  cases e;obtain ⟨x,rfl,⟨p,xs,rfl,h1,hl,h2⟩⟩:=aJ r;refine .inr ⟨p,_,rfl,h1,fun l bs hf _ hb hk=>q _ _ (ai.upd hf) (cE (qh ?_ fun i d hd=> ?_) hf)⟩
  ·rw [Do,hb,E4,hl,Fh]
  ·rw [DM] at hd
   obtain ⟨k,hk1,rfl⟩:=Ee.mp hd
   have hi:i < xs.length:=by rw [<- hl];exact (DA.mp hk1).1
   obtain ⟨b,e1,e2⟩:=hk i k xs[i] (by rw [FY];exact ⟨hk1,Dm hi⟩);refine ⟨_,e1,b,_,rfl,?_,o3 k⟩;rw [aI fun z=>by have:=hm b z;rw [e2] at this;exact this];exact e2
 ·exact .inl (BG vs ds H L Q d nw hm r e q)
theorem tj{X:Cx}(hc:X.calm=true):aH X (.type "list") (fun xs H Q=>(lB X.K xs H Q\/mq xs H Q)\/yo xs H Q):=(uN hc).or (uL hc)
section
variable{X:Cx}{EX:EXT}{e:Expr}{es:List Expr}{pos p:Pos}{as:List Arg}
theorem Ct(he:starEach (e::es) X.env=(false,eval e X.env)::starEach es X.env:=by rfl)(hpl:(backTo pos (starEach es X.env)).any (·.1)=false:=by rfl)(m:X.mg "list" = none)(ha:JA X EX (e::es) as)(hg:Gl X "list" := by rfl)(hc:X.calm=true:=by rfl):JE X EX (.Call (.Name "list" p) (e::es) [] pos) (sOp gI as):=gL (tj hc) yS hg m PyProof.Rows.boot_list ha (by decide) (by decide) he hpl
end
end L2
namespace St2
open PySem PySem.Spec PyProof.Rows
section
variable{prog:Program}{w:World}{A:Around}{E:Value->Shared->Prop}{s:Shared}
theorem sX{T:String}{d:Addr}{n:Nat}{P:Nat->Value->Prop}{OK:Heap->Prop}{Q:List Value->Shared->Prop}(K:PySem.W.KdlSrc prog w T d d n P OK)(hh:A.handled=none)(hd:OK s.heap)(hz:n<=sizeLine)
 (h:∀ h' tk (acc:Array Value) c,(∀ b o,s.heap.get? b=some o->h'.get? b=some o)->h'.get? s.heap.objs.size=some { cls:= .type "list",dict:=none,data:= .seq acc c,slots := #[] }->ItemsOf P acc n->Q acc.toList { s with heap:=h',toks:=tk }) :
 wpAny (model prog w) A (collect (.ref d)) Q E s:=by
 unfold collect;refine Dj (FX (codeAny_builtin F.entry_proto_collect ?_));unfold Builtin.«proto.collect»
 show wpAny _ _ (newList [] >>= _) _ _ _
 refine Dj (FN ?_ (by simp));refine Ds ⟨Code.quiet_builtin _ (by decide +kernel),codeAny_builtin F.entry_list_iadd ?_⟩;have hn:(s.heap.push { cls:=Value.type "list",data:=Data.seq #[] }).get? s.heap.objs.size=some { cls:=Value.type "list",data:=Data.seq #[] }:=Dw _ rfl
 show wpAny _ _ (Builtin.List.listExtendWith (.ref s.heap.objs.size) (.ref d) (.ref s.heap.objs.size)) _ _ _
 have nd:s.heap.objs.size≠d:=E7 (K.there _ hd).1
 have key:=PySem.W.kdl_extend (A:=A) (s:={ s with heap:=s.heap.push { cls:=Value.type "list",data:=Data.seq #[] } }) (R:=fun r s'=>∃ h' tk acc c,r = .ok (.ret (.ref s.heap.objs.size))/\s'={ s with heap:=h',toks:=tk }/\(∀ b o,s.heap.get? b=some o->h'.get? b=some o)/\h'.get? s.heap.objs.size=some { cls:= .type "list",dict:=none,data:= .seq acc c,slots := #[] }/\ItemsOf P acc n)
  K hh (K.keep _ _ hd fun b _ o e=>Dk _ e) _ nd nd (.ref s.heap.objs.size) 0 hn (fun h' tk acc c keep hS items=>⟨h',tk,acc,c,rfl,rfl,fun b o e=>keep b o (DL (Dx e)) (Dk _ e),hS,items⟩) hz
 refine EA key (fun f s' hf=> ?_) (fun e s' he=> ?_)
 ·cases f with
  | done f =>
   obtain ⟨h',tk,acc,c,e1,rfl,keep,hS,items⟩:=hf;cases e1
   show wpAny _ _ (load s.heap.objs.size >>= _) _ _ _
   refine Dj (wpAny_load hS ?_)
   show wpAny _ _ (pure acc.toList) _ _ _
   exact Ds (h h' tk acc c keep hS items)
  | again c' =>
   refine ⟨hf.1,codeAny_mono hf.2 fun r s' z=> ?_⟩;obtain ⟨h',tk,acc,c,e1,rfl,keep,hS,items⟩:=z;cases e1
   show wpAny _ _ (load s.heap.objs.size >>= _) _ _ _
   refine Dj (wpAny_load hS ?_)
   show wpAny _ _ (pure acc.toList) _ _ _
   exact Ds (h h' tk acc c keep hS items)
 ·obtain ⟨_,_,_,_,e1,_⟩:=he
  cases e1
end
end St2
namespace L2
open PySem PySem.Spec PyProof.Rows
section
variable{X:Cx}
noncomputable def qj:List V->Hp->VK->Prop:=fun xs H Q=>∃ (a:Addr) (ks:List (List Int)) (vs:List V),xs=[V.ref a]/\H a=some (.dT ((ks.map fun k=>k.map Sum.inl).zip vs))/\ks.length=vs.length/\ks.length < 64/\(∀ k∈ks,k≠[]) /\
 ∀ l (bs:List V),H l=none->bs.length=ks.length->(∀ (i:Nat) k,(Srt.gC ks)[i]?=some k->∃ b,bs[i]?=some (V.ref b)/\H b=some (.tup (k.map V.int)))->Q (.ref l) (upd H l (.lst bs))
theorem inl_kV(k:List Int):(k.map (Sum.inl:Int->Key)).map kV=k.map V.int:=by rw [Eb];rfl
theorem oA(hc:X.calm=true):aH X (.builtin "sorted") qj:=by
 intro pins s σ H xs us Q I r h;obtain ⟨a,ks,vs,rfl,ha,hlv,h64,hne,q⟩:=h;obtain ⟨u,rfl,ru⟩:=bT r;cases ru;obtain ⟨z,lo,nd,es,ep,x,hl,hk⟩:=t8 I.hok ha;have lsz:sizeLine=16777216:=sizeLine_eq
 have hlz:((ks.map fun k=>k.map (Sum.inl:Int->Key)).zip vs).length=ks.length:=by rw [E4,Do,hlv,Fh]
 have hes:es.size=ks.length:=hl.trans hlz;refine Calls.call_function_entry kind_sorted plain_sorted entry_sorted (args_sorted1 _) ?_;unfold Builtin.«sorted»;refine Dj (m:=checkCount "sorted" 1 1 _) (Ds ?_);refine Dj (St2.sX (RawD.src (ep:=ep) (es:=es) lo) (I.ok.hd hc) x (by omega) fun h1 tk acc c keep hS items=>Dj (FN ?_ (by rw [Em,items.1];omega)));have hsz:s.heap.objs.size+1<=h1.objs.size:=Dx hS
 have lacc:acc.toList.length=ks.length:=by rw [Em,items.1,hes]
 have at_:∀ (i:Nat) (hi:i < acc.toList.length),∃ b,acc.toList[i] = .ref b/\H b=some (.tup ((ks.getD i []).map V.int))/\ks.getD i []≠[]:=fun i hi=>by
  obtain ⟨hi',e⟩:=items.2 i acc.toList[i] (by rw [<- EY];exact Dm hi);obtain ⟨b,k,v,e1,e2,e3⟩:=hk i hi'
  have hi2:i < ks.length:=by omega
  have ek:k=(ks.getD i []).map Sum.inl:=by
   rw [FY] at e2;have:=e2.1;rw [DM,Dm hi2] at this;have this:ks[i].map Sum.inl=k:=Option.some.inj this;rw [<- this];simp [DP,hi2]
  refine ⟨b,e.trans e1,by rw [e3,ek,inl_kV],hne _ ?_⟩;rw [DP,Dm hi2];exact EJ _
 show wpAny _ _ _ _ _ { s with heap:=h1.push (seqObj "list" acc.toList.toArray 0),toks:=tk }
 have oL:(h1.push (seqObj "list" acc.toList.toArray 0)).get? h1.objs.size=some (seqObj "list" acc.toList.toArray 0):=Dw _ rfl
 have tk1:Srt.iB (h1.push (seqObj "list" acc.toList.toArray 0)) acc.toList ks:=⟨lacc,fun i hi=>by
  obtain ⟨b,e1,e2,e3⟩:=at_ i hi;obtain ⟨items',ri,⟨o,g1,g2,n,g3⟩,_⟩:=I.tuple (X:=X) (.inl (.inl e2))
  exact ⟨b,items'.toArray,e1,⟨o,Dk _ (keep b o g1),g2,n,g3⟩,dw ri,e3⟩⟩
 refine Dj (EQ (En slot_list_sort ⟨_,oL,rfl⟩ entry_list_sort (Srt.Cw oL tk1 (by omega) fun p hp hs=>⟨_,rfl,?_⟩) (args_list_sort _)))
 have hle:s.heap.objs.size<=h1.objs.size:=by omega
 have hf:H h1.objs.size=none:=I.hok.fresh hle
 have hin:∀ i∈p,i < acc.toList.length:=fun i hi=>by
  have:=hp.mem_iff.mp hi
  rwa [Et] at this
 have refs:∀ u∈(p.map fun i=>acc.toList.getD i Value.none),∃ b,u = .ref b:=fun u hu=>by
  obtain ⟨i,hi,rfl⟩:=Ev.mp hu;obtain ⟨b,e1,_⟩:=at_ i (hin i hi);exact ⟨b,by rw [DP,Dm (hin i hi)];exact e1⟩
 have es':p.map (fun i=>ks.getD i [])=Srt.gC ks:=by
  refine Srt.bB ?_ (Srt.dg ks) (((hp.map _).trans (Fi ?_)).trans (Srt.cn ks).symm)
  ·rw [List.pairwise_map]
   exact hs.imp fun h=>h
  ·rw [lacc]
   apply Fo
   ·simp
   ·intro i h1 h2
    simp [h2]
 obtain ⟨e,he⟩:=sortedHeap_at (out:=(p.map fun i=>acc.toList.getD i Value.none).toArray) oL
 have lp:p.length=ks.length:=by rw [hp.length_eq,ET,lacc]
 refine Ds ⟨_,rfl,.ref h1.objs.size,upd H h1.objs.size (.lst ((p.map fun i=>acc.toList.getD i Value.none).map rO)),I.laid (t':=tk) (fun b o q=> ?_) hle ⟨?_,_,e,jX refs,by simpa using he⟩,rfl,q _ _ hf (by rw [Do,Do,lp]) fun i k hik=> ?_⟩
 ·have lb:=Dx (keep b o q)
  rw [sortedHeap_old (DL lb) (by rw [DY];exact EL lb)];exact Dk _ (keep b o q)
 ·rw [Do,Do,lp]
  omega
 ·rw [<- es',DM] at hik
  obtain ⟨j,hj,rfl⟩:=Ee.mp hik;have hj':=hin j (DD hj);obtain ⟨b,e1,e2,_⟩:=at_ j hj';refine ⟨b,?_,e2⟩;rw [DM,DM,hj]
  show some (rO (acc.toList.getD j Value.none))=_
  rw [DP,Dm hj']
  show some (rO acc.toList[j])=_
  rw [e1];rfl
end
noncomputable def BX:List Key->Option (List Int)
 | []=>some []
 | .inl i::ks=>match BX ks with
  | some l=>some (i::l)
  | none=>none
 | .inr _::_=>none
noncomputable def o0:List (List Key)->Option (List (List Int))
 | []=>some []
 | k::ks=>match BX k,o0 ks with
  | some (i::l),some r=>some ((i::l)::r)
  | _,_=>none
theorem vD:∀ {k:List Key} {l:List Int},BX k=some l->k=l.map Sum.inl
 | [],_,h=>by cases h;rfl
 | .inl i::ks,l,h=>by
  unfold BX at h
  split at h
  ·rename_i l' e
   cases h;rw [vD e];rfl
  ·cases h
 | .inr _::_,_,h=>by cases h
theorem so:∀ {ks:List (List Key)} {r:List (List Int)},o0 ks=some r->ks=(r.map fun k=>k.map Sum.inl)/\∀ k∈r,k≠[]
 | [],_,h=>by cases h;exact ⟨rfl,fun k hk=>by cases hk⟩
 | k::ks,r,h=>by
  unfold o0 at h
  split at h
  ·rename_i i l r' e1 e2
   cases h;obtain ⟨g1,g2⟩:=so e2;exact ⟨by rw [g1,vD e1];rfl,fun k hk=>(Dz.mp hk).elim (fun e=>by rw [e];simp) (g2 k)⟩
  ·cases h
noncomputable def dM(ds:List D):Option (D×Bool):=match ds with
 | [.dT ks _]=>match o0 ks with
  | some r=>if decide (r.length < 64)=true then some (.lst ((Srt.gC r).map pF),true) else none
  | none=>none
 | ds=>iZ ds
theorem yO{K:FZ}:OpS K (fun xs H Q=>((iN K xs H Q\/iM K xs H Q)\/jZ K xs H Q)\/qj xs H Q) dM:=by
 intro vs ds H L Q d nw hm r e q;unfold dM at e
 split at e
 ·rename_i ks es
  split at e
  ·rename_i ns hk
   split at e
   ·rename_i h64
    cases e;have h64:=DH h64;obtain ⟨g1,g2⟩:=so hk;obtain ⟨x,rfl,⟨p,xs,rfl,h1,hl,h2⟩⟩:=aJ r
    have ll:ns.length=xs.length:=by rw [<- hl,g1,Do]
    refine .inr ⟨p,ns,xs,rfl,by rw [<- g1];exact h1,ll,h64,g2,fun l bs hf hb hk'=>q _ _ (ai.upd hf) (cE (qh ?_ fun i d hd=> ?_) hf)⟩
    ·rw [Do,hb,(Srt.cn ns).length_eq]
    ·rw [DM] at hd
     obtain ⟨k,hk1,rfl⟩:=Ee.mp hd;obtain ⟨b,e1,e2⟩:=hk' i k hk1;refine ⟨_,e1,b,_,rfl,?_,dv k⟩;rw [aI fun z=>by have:=hm b z;rw [e2] at this;exact this];exact e2
   ·cases e
  ·cases e
 ·exact .inl (yP vs ds H L Q d nw hm r e q)
theorem uH{X:Cx}(hc:X.calm=true):aH X (.builtin "sorted") (fun xs H Q=>((iN X.K xs H Q\/iM X.K xs H Q)\/jZ X.K xs H Q)\/qj xs H Q):=uI.or (oA hc)
section
variable{X:Cx}{EX:EXT}{e:Expr}{es:List Expr}{pos p:Pos}{as:List Arg}
theorem Cr(he:starEach (e::es) X.env=(false,eval e X.env)::starEach es X.env:=by rfl)(hpl:(backTo pos (starEach es X.env)).any (·.1)=false:=by rfl)(m:X.mg "sorted" = none)(ha:JA X EX (e::es) as)(hg:Gl X "sorted" := by rfl)(hc:X.calm=true:=by rfl):JE X EX (.Call (.Name "sorted" p) (e::es) [] pos) (sOp dM as):=ib (uH hc) yO hg m PyProof.Rows.boot_sorted ha (by decide) (by decide) he hpl
end
end L2
namespace L2
open PySem
section
variable{ρ ρ1 ρ2 ρ3:Rho}{d:D}{nw b:Bool}{f g:SE}{s t:SS}{C:Str}{nms:List Str}{i:Nat}
theorem r_dnew:x9 d ρ=some (.ok d true,ρ):=rfl
end
abbrev nD(l:List Int):List D:=l.map D.int
abbrev bD(l:List Bool):List D:=l.map D.bl
abbrev xH(t:Int×Int):D:= .tup [.int t.1,.int t.2]
abbrev tD(ts:List (Int×Int)):List D:=ts.map xH
abbrev iE(n:Int)(ts:List (Int×Int)):D:= .tup [.int n,.tup (tD ts)]
noncomputable def rgI(lo:Int)(n:Nat):List Int:=(List.range n).map fun k=>lo+(k:Nat)
theorem aE(lo:Int)(n:Nat):(rgI lo n).length=n:=by unfold rgI;simp
theorem bI{lo:Int}{n:Nat}{x:Int}:x∈rgI lo n↔lo<=x/\x < lo+n:=by
 unfold rgI;rw [Ev]
 constructor
 ·rintro ⟨k,hk,rfl⟩
  have:=Et.mp hk;omega
 ·rintro ⟨a,b⟩
  exact ⟨(x - lo).toNat,Et.mpr (by omega),by omega⟩
theorem A8{lo:Int}{n i:Nat}{x:Int}(h:(rgI lo n)[i]?=some x):i < n/\x=lo+i:=by
 unfold rgI at h;rw [DM] at h;obtain ⟨k,hk,rfl⟩:=Ee.mp h;obtain ⟨a,b⟩:=DA.mp hk;simp at a b;subst b;exact ⟨a,rfl⟩
theorem rgI_at{lo:Int}{n i:Nat}(h:i < n):(rgI lo n)[i]?=some (lo+(i:Nat)):=by
 unfold rgI;rw [DM,List.getElem?_range h];rfl
theorem bN(lo:Int)(n:Nat):rgI lo (n+1)=rgI lo n++[lo+(n:Nat)]:=by unfold rgI;rw [List.range_succ,Ec];rfl
theorem gs(lo:Int)(n:Nat):rgI lo (n+1)=lo::rgI (lo+1) n:=by
 unfold rgI;rw [List.range_succ_eq_map,DE,Eb]
 congr 1
 ·simp
 ·refine Ed fun k _=> ?_
  show lo+((k+1:Nat):Int)=lo+1+(k:Nat)
  omega
theorem p8(lo:Int)(n:Nat):gq lo n=nD (rgI lo n):=by unfold gq rgI;rw [nD,Eb];rfl
theorem ph{α:Type}{inj:α->D}:∀ (xs:List α) (k:Nat),gJ k (xs.map inj)=(xs.zipIdx k).map fun p=> .tup [.int (p.2:Nat),inj p.1]
 | [],_=>rfl
 | x::xs,k=>by rw [DE,List.zipIdx_cons,DE];show _::gJ (k+1) _=_;rw [ph xs (k+1)]
section
variable{ρ ρ1 ρ2 ρ3 ρ4:Rho}{d y:D}{ds ys:List D}{nw b:Bool}{f g:SE}{p:ST}{s:SS}{T:Tg}{k:Nat}
theorem vh{x:Arg}{j:Int}(h:evA [x] ρ=some (.ok [.int j],ρ1))(h1 : -1000000<=j)(h2:j<=1000000):ce x ρ=some (.ok (nD (rgI 0 j.toNat)),ρ1):=by rw [r_rng1 h (za (by omega) (by omega) h1 h2 (by omega)),p8]
theorem Bb{x:Arg}{n:Nat}(h:evA [x] ρ=some (.ok [.int (n:Nat)],ρ1))(h2:n<=1000000):ce x ρ=some (.ok (nD (rgI 0 n)),ρ1):=by rw [vh h (by omega) (by omega),FG]
theorem Ba{x z:Arg}{i j:Int}(h:evA [x,z] ρ=some (.ok [.int i,.int j],ρ1))(h0 : -1000000<=i)(h0':i<=1000000)(h1 : -1000000<=j)(h2:j<=1000000)(h3:j - i<=1000000):fo x z ρ=some (.ok (nD (rgI i (j - i).toNat)),ρ1):=by rw [r_rng2 h (za h0 h0' h1 h2 h3),p8]
theorem Bg{α:Type}{inj:α->D}{xs:List α}(h:f ρ=some (.ok d nw,ρ1))(hs:cz d=some (xs.map inj)):eV f ρ=some (.ok (xs.zipIdx.map fun p=> .tup [.int (p.2:Nat),inj p.1]),ρ1):=by
 rw [r_enum h hs,ph]
theorem r_ieI{x z:Int}(h:p ρ=some (.ok b,ρ1))(h1:f ρ1=some (.ok (.int x) false,ρ1))(h2:g ρ1=some (.ok (.int z) false,ρ1)):sIf p f g ρ=some (.ok (.int (if b=true then x else z)) false,ρ1):=by
 unfold sIf;rw [h]
 cases b with
 | true=>exact h1
 | false=>exact h2
theorem Bh{e:Option ST}:bL k T e f [] ρ=some ([],ρ):=rfl
theorem vj(h1:bE T d (ρ++List.replicate k none)=some ρ1)(h2:f ρ1=some (.ok y nw,ρ2))(h3:ρ2.take ρ.length=ρ3)(h4:bL k T none f ds ρ3=some (ys,ρ4)):bL k T none f (d::ds) ρ=some (y::ys,ρ4):=by
 subst h3;unfold bL;simp only [h1,evC,h2,h4]
theorem Be:bF T s [] ρ=some (.nx,ρ):=rfl
theorem qi{r:Option (Out×Rho)}(h1:bE T d ρ=some ρ1)(h2:s ρ1=some (.nx,ρ2))(h3:bF T s ds ρ2=r):bF T s (d::ds) ρ=r:=by
 unfold bF;simp only [h1,h2];exact h3
theorem Bd{x:D}(h1:bE T d ρ=some ρ1)(h2:s ρ1=some (.rt x nw,ρ2)):bF T s (d::ds) ρ=some (.rt x nw,ρ2):=by
 unfold bF;simp only [h1,h2]
end
section
variable{α:Type}{k:Nat}{T:Tg}{f:SE}{c:ST}{ρ:Rho}{inj:α->D}{q:α->Bool}
theorem t0{g:α->Int}(xs:List α)(h:∀ x∈xs,∃ ρ1 ρ3 nw,bE T (inj x) (ρ++List.replicate k none)=some ρ1/\f ρ1=some (.ok (.int (g x)) nw,ρ3)/\ρ3.take ρ.length=ρ):bL k T none f (xs.map inj) ρ=some (nD (xs.map g),ρ):=by
 rw [gY (g:=fun x=>D.int (g x)) xs h,nD,Eb];rfl
theorem t3{g:α->Bool}(xs:List α)(h:∀ x∈xs,∃ ρ1 ρ3 nw,bE T (inj x) (ρ++List.replicate k none)=some ρ1/\f ρ1=some (.ok (.bl (g x)) nw,ρ3)/\ρ3.take ρ.length=ρ):bL k T none f (xs.map inj) ρ=some (bD (xs.map g),ρ):=by
 rw [gY (g:=fun x=>D.bl (g x)) xs h,bD,Eb];rfl
theorem tZ{g1 g2:α->Int}(xs:List α)(h:∀ x∈xs,∃ ρ1 ρ3 nw,bE T (inj x) (ρ++List.replicate k none)=some ρ1/\f ρ1=some (.ok (.tup [.int (g1 x),.int (g2 x)]) nw,ρ3)/\ρ3.take ρ.length=ρ):bL k T none f (xs.map inj) ρ=some (tD (xs.map fun x=>(g1 x,g2 x)),ρ):=by
 rw [gY (g:=fun x=> .tup [.int (g1 x),.int (g2 x)]) xs h,tD,Eb];rfl
theorem me{I:Rho->Prop}{P:D->Prop}:∀ (ds:List D) (ρ:Rho),I ρ->(∀ d∈ds,∀ ρ,I ρ->∃ ρ1 ρ2 y nw,bE T d (ρ++List.replicate k none)=some ρ1/\f ρ1=some (.ok y nw,ρ2)/\P y/\I (ρ2.take ρ.length))->∃ ys ρ',bL k T none f ds ρ=some (ys,ρ')/\I ρ'/\ys.length=ds.length/\∀ y∈ys,P y
 | [],ρ,hI,_=>⟨[],ρ,rfl,hI,rfl,fun _ h=>absurd h EI⟩
 | d::ds,ρ,hI,h=>by
  obtain ⟨ρ1,ρ2,y,nw,e1,e2,hP,hI2⟩:=h d Dv ρ hI
  obtain ⟨ys,ρ',e3,hI3,hl,hA⟩:=me ds _ hI2 fun d hd=>h d (Dr _ hd)
  exact ⟨y::ys,ρ',vj e1 e2 rfl e3,hI3,by rw [Dq,Dq,hl],fun z hz=>by
   rcases Dz.mp hz with rfl | hz
   ·exact hP
   ·exact hA z hz⟩
end
theorem elA_mk{k:Nat}{T:Tg}{f:SE}{ρ ρ1 ρ2:Rho}{d y:D}{nw:Bool}{P:D->Prop}{J:Rho->Prop}(h1:bE T d (ρ++List.replicate k none)=some ρ1)(h2:f ρ1=some (.ok y nw,ρ2))(h3:P y)(h4:J ρ2):∃ ρ1 ρ2 y nw,bE T d (ρ++List.replicate k none)=some ρ1/\f ρ1=some (.ok y nw,ρ2)/\P y/\J ρ2:=⟨ρ1,ρ2,y,nw,h1,h2,h3,h4⟩
section
variable{α σ:Type}{T:Tg}{f:SS}{inj:α->D}
theorem kE(R:σ->Rho->Prop)(step:σ->α->σ):∀ (xs:List α) (s:σ) (ρ:Rho),R s ρ->(∀ x∈xs,∀ s ρ,R s ρ->∃ ρ1 ρ2,bE T (inj x) ρ=some ρ1/\f ρ1=some (.nx,ρ2)/\R (step s x) ρ2)->∃ ρ',bF T f (xs.map inj) ρ=some (.nx,ρ')/\R (xs.foldl step s) ρ'
 | [],s,ρ,h,_=>⟨ρ,rfl,h⟩
 | x::xs,s,ρ,h,hs=>by
  obtain ⟨ρ1,ρ2,e1,e2,h2⟩:=hs x Dv s ρ h
  obtain ⟨ρ',e3,h3⟩:=kE R step xs _ ρ2 h2 fun x hx=>hs x (Dr _ hx)
  exact ⟨ρ',qi e1 e2 e3,h3⟩
theorem wf{lo:Int}(I:Nat->Rho->Prop)(n:Nat)(ρ:Rho)(h0:I 0 ρ)(hs:∀ i,i < n->∀ ρ,I i ρ->∃ ρ1 ρ2,bE T (.int (lo+(i:Nat))) ρ=some ρ1/\f ρ1=some (.nx,ρ2)/\I (i+1) ρ2):∃ ρ',bF T f (nD (rgI lo n)) ρ=some (.nx,ρ')/\I n ρ':=by
 obtain ⟨ρ',e,h⟩:=oN (T:=T) (f:=f) I (nD (rgI lo n)) 0 ρ h0 fun i d ρ hd hI=>by
  rw [nD,DM] at hd;obtain ⟨x,hx,rfl⟩:=Ee.mp hd;obtain ⟨h1,rfl⟩:=A8 hx;rw [Ep] at hI ⊢;exact hs i h1 ρ hI
 rw [Do,aE,Ep] at h;exact ⟨ρ',e,h⟩
theorem eC(I:Nat->Rho->Prop)(n:Nat)(ρ:Rho)(h0:I 0 ρ)(hs:∀ i,i < n->∀ ρ,I i ρ->∃ ρ1 ρ2,bE T (.int (i:Nat)) ρ=some ρ1/\f ρ1=some (.nx,ρ2)/\I (i+1) ρ2):∃ ρ',bF T f (nD (rgI 0 n)) ρ=some (.nx,ρ')/\I n ρ' :=
 wf I n ρ h0 fun i hi ρ hI=>by rw [Int.zero_add];exact hs i hi ρ hI
theorem kD(R:Nat->σ->Rho->Prop)(step:σ->α->σ):∀ (xs:List α) (n:Nat) (s:σ) (ρ:Rho),R n s ρ->(∀ i x,xs[i]?=some x->∀ s ρ,R (n+i) s ρ->∃ ρ1 ρ2,bE T (inj x) ρ=some ρ1/\f ρ1=some (.nx,ρ2)/\R (n+i+1) (step s x) ρ2)->∃ ρ',bF T f (xs.map inj) ρ=some (.nx,ρ')/\R (n+xs.length) (xs.foldl step s) ρ'
 | [],n,s,ρ,h,_=>⟨ρ,rfl,h⟩
 | x::xs,n,s,ρ,h,hs=>by
  obtain ⟨ρ1,ρ2,e1,e2,h2⟩:=hs 0 x rfl s ρ h
  obtain ⟨ρ',e3,h3⟩:=kD R step xs (n+1) _ ρ2 h2 fun i x hx s ρ hR=>by
   have:=hs (i+1) x (by simpa using hx) s ρ (by rw [show n+(i+1)=n+1+i by omega];exact hR);rw [show n+(i+1)+1=n+1+i+1 by omega] at this;exact this
  refine ⟨ρ',qi e1 e2 e3,?_⟩;rw [Dq,show n+(xs.length+1)=n+1+xs.length by omega];exact h3
end
section
variable{α:Type}{inj:α->D}{xs ys:List α}{ns ms:List Int}{i a b:Int}
theorem pc:bS [.lst (xs.map inj)]=some (.int (xs.length:Nat),false):=by show some (D.int ((xs.map inj).length:Nat),false)=_;rw [Do]
theorem dX:bS [.tup (xs.map inj)]=some (.int (xs.length:Nat),false):=by show some (D.int ((xs.map inj).length:Nat),false)=_;rw [Do]
theorem sI(h0:0<=i)(h1:i < ns.length):gIx [.tup (nD ns),.int i]=some (.int (ns.getD i.toNat 0),false):=qF (Ax h0 h1)
theorem wH:iY [.lst (nD ns)]=some (.int ns.sum,false):=by unfold iY;simp only [cF]
theorem o8:iY [.tup (nD ns)]=some (.int ns.sum,false):=by unfold iY;simp only [cF]
theorem ut(h:ns≠[]):fA [.tup (nD ns)]=some (.int (jy ns),false):=wK ns h
theorem ur(h:ns≠[]):gH [.tup (nD ns)]=some (.int (kb ns),false):=by
 unfold gH
 cases ns with
 | nil=>exact absurd rfl h
 | cons n ns=>simp only [cF]
theorem B7:fA [.int a,.int b]=some (.int (max a b),false):=by
 show some (D.int (if b > a then b else a),false)=_
 congr 3
 rw [Int.max_def]
 split<;>split<;>omega
theorem B6:gH [.int a,.int b]=some (.int (min a b),false):=by
 show some (D.int (if b < a then b else a),false)=_
 congr 3
 rw [Int.min_def]
 split<;>split<;>omega
theorem yb(h : -1000000<=a)(h2:b<=1000000)(h3:a<=1000000)(h4 : -1000000<=b)(h5:b - a<=1000):rH a b=true:=by
 unfold rH
 refine DF ⟨?_,?_,?_,?_,?_⟩<;>omega
theorem pb(h : -1000000<=a)(h2:b<=1000000)(h3:a<=1000000)(h4 : -1000000<=b)(h5:b - a<=1000):gI [.rng a b]=some (.lst (nD (rgI a (b - a).toNat)),true):=by
 show (if rH a b=true then some (D.lst (gq a (b - a).toNat),true) else none)=_
 rw [if_pos (yb h h2 h3 h4 h5),p8]
theorem uv{n:Nat}(h:n<=1000):gI [.rng 0 (n:Nat)]=some (.lst (nD (rgI 0 n)),true):=by rw [pb (by omega) (by omega) (by omega) (by omega) (by omega),show ((n:Int) - 0).toNat=n by omega]
theorem uu{n:Nat}(h:n<=1000):gI [.rng 1 ((n:Nat)+1)]=some (.lst (nD (rgI 1 n)),true):=by rw [pb (by omega) (by omega) (by omega) (by omega) (by omega),show ((n:Int)+1 - 1).toNat=n by omega]
theorem sE(h:ns.length < 64):dM [.lst (nD ns)]=some (.lst (nD (eY ns)),true):=by
 have:fM [.lst (nD ns)]=some (.lst (nD (eY ns)),true):=by unfold fM;simp only [cF,h,decide_true,if_true]
 show iZ _=_
 unfold iZ;rw [this]
noncomputable def cJ(ts:List (Int×Int)):List (Int×Int):=(Srt.gC (ts.map fun t=>[t.1,t.2])).map fun k=>(k.getD 0 0,k.getD 1 0)
theorem fF(ts:List (Int×Int)):(cJ ts).Perm ts:=by
 unfold cJ;refine ((Srt.cn _).map _).trans ?_;rw [Eb];refine Fi ?_;exact (Ed (fun t _=>rfl)).trans (List.map_id' _)
theorem my(ts:List (Int×Int)):(cJ ts).map (fun t=>[t.1,t.2])=Srt.gC (ts.map fun t=>[t.1,t.2]):=by
 unfold cJ;rw [Eb];refine (Ed fun k hk=> ?_).trans (List.map_id' _);obtain ⟨t,_,rfl⟩:=Ev.mp ((Srt.cn _).mem_iff.mp hk);rfl
theorem tS(ts:List (Int×Int)):tD ts=(ts.map fun t=>[t.1,t.2]).map pF:=by rw [tD,Eb];rfl
theorem oE:∀ (ks:List (List Int)),(∀ k∈ks,k≠[])->ku (ks.map pF)=some ks
 | [],_=>rfl
 | k::ks,h=>by
  have e:AK (pF k)=some k:=by
   cases k with
   | nil=>exact absurd rfl (h _ Dv)
   | cons n ns=>show (match aT ((n::ns).map D.int) with | some (n::ns)=>some (n::ns) | _=>none)=_;rw [cF]
  rw [DE];unfold ku;rw [e,oE ks fun k hk=>h k (Dr _ hk)]
theorem o9{ts:List (Int×Int)}(h:ts.length < 64):dM [.lst (tD ts)]=some (.lst (tD (cJ ts)),true):=by
 cases hts:ts with
 | nil=>rfl
 | cons t r =>
  rw [<- hts]
  have e0:fM [.lst (tD ts)]=none:=by rw [hts];rfl
  have e1:ku (tD ts)=some (ts.map fun t=>[t.1,t.2]):=by
   rw [tS]
   refine oE _ fun k hk=> ?_
   obtain ⟨t,_,rfl⟩:=Ev.mp hk
   exact fun z=>nomatch z
  show iZ _=_
  unfold iZ;rw [e0]
  show nh _=_
  unfold nh;simp only [e1,Do,h,decide_true,if_true];rw [<- my,tS]
theorem sS:∀ (a b:List Int),fR (a.map D.int) (b.map D.int)=decide (a=b)
 | [],[]=>rfl
 | [],_::_=>rfl
 | _::_,[]=>rfl
 | x::a,y::b=>by
  show ((x == y)&&fR (a.map D.int) (b.map D.int))=_
  rw [sS a b,E6];simp
theorem mP:∀ (a:List Int),cB (a.map D.int)=a.map D.int
 | []=>rfl
 | x::a=>by show nrm (.int x)::cB (a.map D.int)=_;rw [mP a];rfl
theorem eK(n:Nat):∀ (a:List Int),(a.map D.int).all (aj n)=true
 | []=>rfl
 | x::a=>by rw [DE,FO,eK n a];unfold aj;rfl
theorem sQ(n:Nat)(a:List Int):aj (n+1) (.tup (nD a))=true:=by unfold aj;exact eK n a
theorem sR(n:Nat)(a:List Int):aj (n+1) (.lst (nD a))=true:=by unfold aj;exact eK n a
theorem Ab(a b:List Int):eqD (.lst (nD a)) (.lst (nD b))=decide (a=b):=by unfold eqD nrm;rw [mP,mP];show fR _ _=_;exact sS a b
theorem zT:gEq [.lst (nD ns),.lst (nD ms)]=some (.bl (decide (ns=ms)),false):=by unfold gEq;simp only [sR,Bool.and_self,if_true,Ab]
theorem fC(h:xs.length+ys.length<=1000):aU [.lst (xs.map inj),.lst (ys.map inj)]=some (.lst ((xs++ys).map inj),true):=by
 unfold aU;simp only [gl (show (xs.map inj).length+(ys.map inj).length<=1000 by rw [Do,Do];exact h),if_true,Ec]
theorem wM(h:ns.length<=999):aU [.lst (nD ns),.lst [.int a]]=some (.lst (nD (ns++[a])),true):=fC (inj:=D.int) (xs:=ns) (ys:=[a]) (by simp;omega)
theorem ux(h:ns.length<=999):aU [.lst [.int a],.lst (nD ns)]=some (.lst (nD (a::ns)),true):=fC (inj:=D.int) (xs:=[a]) (ys:=ns) (by simp;omega)
theorem wL{ts:List (Int×Int)}(h:ts.length<=999):aU [.lst (tD ts),.lst [.tup [.int a,.int b]]]=some (.lst (tD (ts++[(a,b)])),true):=fC (inj:=xH) (xs:=ts) (ys:=[(a,b)]) (by simp;omega)
theorem xF(h:ns.length<=1000):cv (.lst (nD ns)) [.int a]=some (.lst (nD (ns++[a])),.non):=by
 show (if small (nD ns).length=true then some (D.lst (nD ns++[.int a]),D.non) else none)=_
 rw [if_pos (gl (by rw [Do];exact h)),nD,nD,Ec];rfl
theorem xE{ts:List (Int×Int)}(h:ts.length<=1000):cv (.lst (tD ts)) [.tup [.int a,.int b]]=some (.lst (tD (ts++[(a,b)])),.non):=by
 show (if small (tD ts).length=true then some (D.lst (tD ts++[.tup [.int a,.int b]]),D.non) else none)=_
 rw [if_pos (gl (by rw [Do];exact h)),tD,tD,Ec];rfl
theorem jg(h:xs.length+ys.length<=1000):cu (.lst (xs.map inj)) [.lst (ys.map inj)]=some (.lst ((xs++ys).map inj),.non):=by
 show (if small ((xs.map inj).length+(ys.map inj).length)=true then some (D.lst (xs.map inj++ys.map inj),D.non) else none)=_
 rw [if_pos (gl (by rw [Do,Do];exact h)),Ec]
theorem zP(h1 : -(2 ^ 64) < a)(h2:a < 2 ^ 64):ie [.int a,.int b]=some (.int (a * b),false):=by
 show (if oX a b=true then some (D.int (a * b),false) else none)=_
 rw [if_pos (qz h1 h2)]
theorem rN(d:D):∀ n,repL n [d]=List.replicate n d
 | 0=>rfl
 | n+1=>by
  have:=rN d n;unfold repL at this ⊢;rw [Ez,E5,this];rfl
theorem zO(h1 : -1000000<=b)(h2:b<=1000000):ie [.lst [.int a],.int b]=some (.lst (nD (List.replicate b.toNat a)),true):=by
 show (if (decide (-1000000<=b/\b<=1000000)&&small ([D.int a].length * b.toNat))=true then some (D.lst (repL b.toNat [.int a]),true) else none)=_
 have:small ([D.int a].length * b.toNat)=true:=DF (by simp;omega);rw [if_pos (by rw [this,DF ⟨h1,h2⟩];rfl),rN,nD,List.map_replicate]
end
noncomputable def qH(xs:List Int)(lo hi:Option Int):List Int:=(xs.drop (HT.sIx xs.length 0 lo)).take (HT.sIx xs.length xs.length hi - HT.sIx xs.length 0 lo)
theorem cut_nD(ns:List Int)(lo hi:Option Int):kl (nD ns) lo hi=nD (qH ns lo hi):=by
 unfold kl qH;rw [Do,nD,nD,List.map_take,List.map_drop]
theorem tY{n d:Nat}{i:Int}(h:0<=i):HT.sIx n d (some i)<=i.toNat:=by
 unfold HT.sIx;simp
 split<;>omega
theorem Ch{ns:List Int}{lo:Option Int}{j:Int}(h:0<=j):(qH ns lo (some j)).length<=j.toNat:=by
 unfold qH;rw [EU];have:=tY (n:=ns.length) (d:=ns.length) h;omega
theorem sG{ns:List Int}{i j:Int}:B3 i j [.klst (nD ns)]=some (.lst (nD (qH ns (some i) (some j))),true):=by
 show some (D.lst (kl (nD ns) _ _),true)=_
 rw [cut_nD]
theorem uy{ns:List Int}{a i j:Int}(h:0<=j)(h2:j < 100):aU [.lst [.int a],.lst (nD (qH ns (some i) (some j)))]=some (.lst (nD (a::qH ns (some i) (some j))),true):=ux (by have:=Ch (ns:=ns) (lo:=some i) h;omega)
structure Pn where
 a:Int
 f:Int
 s:Int
abbrev pD(P:Pn):D:=wo P.a P.f P.s
theorem lG(P:Pn)(m:Int):∃ q:Int×Pn,(0 < m->m < 1073741824->aD [pD P,.int m]=some (.ok (.int q.1) false,pD q.2))/\(0 < m->m < 1073741824->0<=q.1/\q.1 < m):=by
 by_cases h:0 < m/\m < 1073741824
 ·obtain ⟨r,a,f,s,e,h1,h2⟩:=Aa P.a P.f P.s m h.1 h.2
  exact ⟨(r,⟨a,f,s⟩),fun _ _=>e,fun _ _=>⟨h1,h2⟩⟩
 ·exact ⟨(0,P),fun a b=>absurd ⟨a,b⟩ h,fun a b=>absurd ⟨a,b⟩ h⟩
noncomputable def dr(P:Pn)(m:Int):Int:=(Classical.choose (lG P m)).1
noncomputable def nx(P:Pn)(m:Int):Pn:=(Classical.choose (lG P m)).2
theorem tDraw{P:Pn}{m:Int}(h:0 < m)(h2:m < 1073741824):aD [pD P,.int m]=some (.ok (.int (dr P m)) false,pD (nx P m)):=(Classical.choose_spec (lG P m)).1 h h2
theorem jI(P:Pn){m:Int}(h:0 < m)(h2:m < 1073741824):0<=dr P m/\dr P m < m:=(Classical.choose_spec (lG P m)).2 h h2
theorem yE(c:Int):∃ P:Pn,bY [.int c]=some (.ok (pD P) true,.non):=by
 obtain ⟨a,f,s,e⟩:=Cb c;exact ⟨⟨a,f,s⟩,e⟩
noncomputable def pen0(c:Int):Pn:=Classical.choose (yE c)
theorem tPen{c:Int}:bY [.int c]=some (.ok (pD (pen0 c)) true,.non):=Classical.choose_spec (yE c)
noncomputable def vQ(ns:List Int)(k:Nat):Int:=Classical.choose (sN ns k)
theorem tCell{ns:List Int}{k:Nat}:br [.klst (nD ns),.int k]=some (.ok (.int (vQ ns k)) false,.non):=Classical.choose_spec (sN ns k)
theorem tCell0{ns:List Int}:br [.klst (nD ns),.int 0]=some (.ok (.int (vQ ns 0)) false,.non):=tCell (k:=0)
end L2
namespace L2
open PySem PySem.Spec PyProof.Rows
section
variable{K:FZ}{F:Fx}{σ:St}{H H1 H2:Hp}{ρ:Rho}{W:List Addr}{p:Addr}
abbrev Fx.more(F:Fx)(p:Addr):Fx:=⟨p::F.Z,F.io⟩
theorem B1(L M:List Addr)(H:Hp):hid L (hid M H)=hid (M++L) H:=by
 funext b
 unfold hid
 by_cases h1:b∈L
 ·rw [if_pos h1,if_pos (Dl _ h1)]
 ·rw [if_neg h1]
  by_cases h2:b∈M
  ·rw [if_pos h2,if_pos (Dp _ h2)]
  ·rw [if_neg h2,if_neg (fun z=>(DG.mp z).elim h2 h1)]
theorem Rel.more(R:Rel K F σ (hid [p] H) ρ W)(hp:p∉W++F.Z)(hm:eL (H p)):Rel K (F.more p) σ H ρ W:=by
 have neq:∀ r,r∈W++F.Z->hid [p] H r=H r:=fun r hr=>aI (fun z=>hp (by rw [<- DC.mp z];exact hr))
 have sh:ai (hid (W++F.Z) (hid [p] H)) (hid (W++(F.more p).Z) H):=by
  rw [B1]
  exact dB fun b hb=>by
   rcases DG.mp hb with z | z
   ·exact Dl _ (Dp _ z)
   ·rcases Dz.mp z with z | z
    ·rw [z];exact Dp _ (DC.mpr rfl)
    ·exact Dl _ (Dl _ z)
 refine ⟨fun i d m h=> ?_,R.apart,fun q hq z=> ?_,fun q hq=> ?_,R.len⟩
 ·obtain ⟨v,h1,h2⟩:=R.slot i d m h
  refine ⟨v,h1,?_⟩
  cases m with
  | fz=>exact sh.repD h2
  | ow=>obtain ⟨r,e1,e2,e3⟩:=h2;exact ⟨r,e1,e2,e3.at (neq r (Dp _ e2)).symm sh⟩
  | io=>obtain ⟨r,e1,e2,e3,e4⟩:=h2;exact ⟨r,e1,e2,e3.at (neq r (Dp _ e2)).symm sh,e4⟩
 ·rcases Dz.mp z with z | z
  ·rw [z] at hq;exact hp (Dp _ hq)
  ·exact R.wz q hq z
 ·rcases DG.mp hq with z | z
  ·have:=R.mt q (Dp _ z)
   rw [neq q (Dp _ z)] at this;exact this
  ·rcases Dz.mp z with z | z
   ·rw [z];exact hm
   ·have:=R.mt q (Dl _ z)
    rw [neq q (Dl _ z)] at this;exact this
theorem Rel.less(R:Rel K (F.more p) σ H1 ρ W)(hz:p∉F.Z)(fr:∀ b o,b∉[p]->H1 b=some o->H2 b=some o):Rel K F σ H2 ρ W:=by
 have hpW:p∉W:=fun z=>R.wz p z Dv
 have keep:∀ b,b∈W++F.Z->b≠p->H2 b=H1 b:=fun b hb ne=>by
  obtain ⟨u,q⟩:=(R.mt b (by
   rcases DG.mp hb with z | z
   ·exact Dp _ z
   ·exact Dl _ (Dr _ z))).some
  rw [q];exact fr b u (fun z=>ne (DC.mp z)) q
 have sh:ai (hid (W++(F.more p).Z) H1) (hid (W++F.Z) H2):=aP (fun b hb=> .inl (by
  rcases DG.mp hb with z | z
  ·exact Dp _ z
  ·exact Dl _ (Dr _ z))) fun b o n e=>fr b o (fun z=>n (by rw [DC.mp z];exact Dl _ Dv)) e
 have ne:∀ r∈W,r≠p:=fun r hr z=>hpW (by rw [<- z];exact hr)
 refine ⟨fun i d m h=> ?_,R.apart,fun q hq z=>R.wz q hq (Dr _ z),fun q hq=> ?_,R.len⟩
 ·obtain ⟨v,h1,h2⟩:=R.slot i d m h
  refine ⟨v,h1,?_⟩
  cases m with
  | fz=>exact sh.repD h2
  | ow=>obtain ⟨r,e1,e2,e3⟩:=h2;exact ⟨r,e1,e2,e3.at (keep r (Dp _ e2) (ne r e2)) sh⟩
  | io=>obtain ⟨r,e1,e2,e3,e4⟩:=h2;exact ⟨r,e1,e2,e3.at (keep r (Dp _ e2) (ne r e2)) sh,e4⟩
 ·have m1:eL (H1 q):=R.mt q (by
   rcases DG.mp hq with z | z
   ·exact Dp _ z
   ·exact Dl _ (Dr _ z))
  by_cases e:q=p
  ·rw [e] at hq
   rcases DG.mp hq with z | z
   ·exact absurd z hpW
   ·exact absurd z hz
  ·rw [keep q hq e];exact m1
theorem Fr.hide{q:Addr}(fr:Fr W H1 H2)(hq:H1 q=none):Fr W H1 (L2.hid [q] H2):=⟨fun b o n e=>by
 rw [aI (fun z=>by rw [DC.mp z,hq] at e;cases e)]
 exact fr.keep b o n e,fun b e=>by
 by_cases z:b∈[q]
 ·rw [DC.mp z];exact hq
 ·rw [aI z] at e;exact fr.dom b e⟩
end
noncomputable def mf(run:FS)(f:SE)(as:List Arg):SE:=fun ρ=>match f ρ with
 | some (.ok d true,ρ1)=>match evA as ρ1 with
  | some (.ok ds,ρ2)=>if cm none 0 as ρ2=true then
   match run (d::ds) with
   | some (.ok r nw,_)=>some (.ok r nw,ρ2)
   | some (.ex C,_)=>some (.ex C,ρ2)
   | none=>none
   else none
  | _=>none
 | some (.ok _ false,_)=>none
 | some (.ex C,ρ1)=>some (.ex C,ρ1)
 | none=>none
section
variable{X:Cx}{EX:EXT}{e:Expr}{es:List Expr}{as:List Arg}
theorem eM.reps{K:FZ}{F:Fx}{σ:St}{H:Hp}{ρ:Rho}{W:List Addr}{ds:List D}{vs:List V}(R:Rel K F σ H ρ W)(A:eM K F σ H ρ W as ds vs)(hn:cm none 0 as ρ=true){j:Nat}{d:D}{v:V}(e1:ds[j]?=some d)(e2:vs[j]?=some v):aF K (hid (W++F.Z) H) d v:=by
 obtain ⟨a,ea,ra⟩:=A.get e1 e2
 cases a with
 | ex f=>exact ra
 | bor i =>
  obtain ⟨d',hd'⟩:=fq hn ea (by simp);obtain ⟨q1,m,q2⟩:=ra;rw [hd'] at q2;cases q2;obtain ⟨v',q3,q4⟩:=R.slot i _ _ hd';rw [q1] at q3;cases q3;exact q4
theorem Cp{x:Str}{ps:List Str}{k k':Nat}{run:FS}{f:SE}{p pos:Pos}(C:gW X EX)(h:OkX X.prog X.w X.K X.mg X.base x ps k (spF X.K (some 0) run))(hr:cx k' X.A)(hk:k<=k')(hg:Gl X x)(hf:JE X EX e f)(ha:JA X EX es as)
 (hdb:(x == ("__debug__" : Str))=false:=by decide) (he:starEach (e::es) X.env=(false,eval e X.env)::starEach es X.env:=by rfl) (hpl:(backTo pos (starEach es X.env)).any (·.1)=false:=by rfl) :
 JE X EX (.Call (.Name x p) (e::es) [] pos) (mf run f as) :=
 ⟨(C.call h (hr.mono hk) hg (aA hf.p ha.p he) hdb he hpl).by fun σ H Q ⟨F,ρ,W,R,h⟩=>by
   refine ⟨F,ρ,W,R,?_⟩;unfold mf at h
   revert h
   cases f ρ with
   | none=>exact fun h=>h
   | some q =>
    obtain ⟨q,ρ1⟩:=q
    cases q with
    | ex C=>exact fun h=>h
    | ok d nw =>
     cases nw with
     | false=>exact fun h=>h.elim
     | true =>
      intro h v H1 W1 fr1 sub1 post;obtain ⟨p,rfl,hp0,hpW,hO,R1⟩:=post;have R1':=R1.more hpW hO.mu;refine qU as R1' ?_
      revert h
      dsimp only
      cases evA as ρ1 with
      | none=>exact fun h=>h
      | some q =>
       obtain ⟨q,ρ2⟩:=q
       cases q with
       | ex C=>exact fun h=>h.elim
       | ok ds =>
        dsimp only
        split
        ·rename_i hn
         intro h vs H2 W2 fr2 sub2 R2 A2
         have hpW2:p∉W2:=fun z=>R2.wz p z Dv
         have hpZ:p∉F.Z:=fun z=>hpW (Dl _ z)
         obtain ⟨u,hu⟩:=hO.mu.some
         have hp2:H2 p=H1 p:=by rw [hu];exact fr2.keep p u (fun z=>hpW (Dp _ z)) hu
         have sA:ai (hid (W2++(F.more p).Z) H2) (hid ([p]++(W2++F.Z)) H2):=dB fun b hb=>by
          rcases DG.mp hb with z | z
          ·rw [DC.mp z];exact Dl _ Dv
          ·rcases DG.mp z with z | z
           ·exact Dp _ z
           ·exact Dl _ (Dr _ z)
         have sB:ai (hid (p::(W1++F.Z)) H1) (hid ([p]++(W2++F.Z)) H2):=by
          refine ai.trans ?_ sA;refine ai.trans (dB (L':=W1++(F.more p).Z) fun b hb=> ?_) (fr2.hid fun q hq=> .inl (sub2 q hq))
          rcases DG.mp hb with z | z
          ·exact Dr _ (Dp _ z)
          ·rcases Dz.mp z with z | z
           ·rw [z];exact Dv
           ·exact Dr _ (Dl _ z)
         have frW:Fr W H H2:=fr1.trans fr2 fun q hq=> .inl (sub1 q hq)
         refine ⟨W2++F.Z,[p],d::ds,by rw [Dq,Dq,A2.len],fun q hq z=> ?_,fun q hq=> ?_,fun j d' v' nj e1 e2=> ?_,fun k hk=> ?_,fun z=>(by cases z),?_⟩
         ·rw [DC.mp hq] at z
          exact (DG.mp z).elim hpW2 hpZ
         ·rcases DG.mp hq with z | z
          ·rw [DC.mp z];exact R2.mt p (Dl _ Dv)
          ·rcases DG.mp z with z | z
           ·exact R2.mt q (Dp _ z)
           ·exact R2.mt q (Dl _ (Dr _ z))
         ·cases j with
          | zero=>exact absurd rfl nj
          | succ j=>exact sA.repD (A2.reps R2 hn (by simpa using e1) (by simpa using e2))
         ·cases hk
          exact ⟨p,d,rfl,rfl,rfl,hO.at hp2 sB⟩
         ·cases er:run (d::ds) with
          | none=>rw [er] at h;exact h.elim
          | some r =>
           obtain ⟨r,dio⟩:=r;rw [er] at h
           cases r with
           | ex C =>
            intro H3 fr3 own ca hca x;exact ⟨C,ca,rfl,hca,h H3 W2 (frW.trans fr3 fun q hq=> .inr (by rw [DC.mp hq];exact hp0)) (fun q hq=>sub1 q (sub2 q hq)) (R2.less hpZ fr3.keep)⟩
           | ok r nw =>
            cases nw with
            | false =>
             intro v' H3 fr3 rep own;exact h v' H3 W2 (frW.trans fr3 fun q hq=> .inr (by rw [DC.mp hq];exact hp0)) (fun q hq=>sub1 q (sub2 q hq)) ⟨(dB fun b hb=>Dl _ hb).repD rep,R2.less hpZ fr3.keep⟩
            | true =>
             intro q H3 fr3 hq hO3 own;refine h (.ref q) H3 W2 (frW.trans fr3 fun q hq=> .inr (by rw [DC.mp hq];exact hp0)) (fun q hq=>sub1 q (sub2 q hq)) ⟨q,rfl,frW.dom q hq,fun z=> ?_,?_,R2.less hpZ (fr3.hide hq).keep⟩
             ·refine R2.fresh hq ?_
              rcases DG.mp z with z | z
              ·exact Dp _ z
              ·exact Dl _ (Dr _ z)
             ·refine hO3.at rfl (dB fun b hb=> ?_)
              rcases Dz.mp hb with z | z
              ·rw [z];exact Dv
              ·exact Dr _ (Dl _ z)
        ·exact fun h=>h.elim⟩
end
theorem Bj{run:FS}{f:SE}{as:List Arg}{ρ ρ1 ρ2:Rho}{d r x:D}{ds:List D}{nw:Bool}(h1:f ρ=some (.ok d true,ρ1))(h2:evA as ρ1=some (.ok ds,ρ2))(h3:run (d::ds)=some (.ok r nw,x))(h4:cm none 0 as ρ2=true):mf run f as ρ=some (.ok r nw,ρ2):=by
 unfold mf;simp only [h1,h2,h3];rw [if_pos h4]
noncomputable def oO(ks:List Key)(fs:List SE):SE:=fun ρ=>match evA (fs.map Arg.ex) ρ with
 | some (.ok ds,ρ')=>some (.ok (.dK ks ds) true,ρ')
 | _=>none
noncomputable def constK:Key->Const
 | .inl i=> .int i
 | .inr x=> .str x
inductive JP(X:Cx)(EX:EXT)(pos:Pos):List (Option Expr)->List Expr->List Key->List SE->Prop where
 | nil:JP X EX pos [] [] [] []
 | cons {k:Key} {j:Nat} {p:Pos} {e:Expr} {f:SE} {es:List (Option Expr)} {vs:List Expr} {ks:List Key} {fs:List SE} (h:JE X EX e f) (t:JP X EX pos es vs ks fs):JP X EX pos (some (.Constant (constK k) j p)::es) (e::vs) (k::ks) (f::fs)
noncomputable def prT(K:FZ)(EX:EXT):List Key->List SE->List (TE×TE)
 | k::ks,f::fs=>(tC (kV k),tV K EX f)::prT K EX ks fs
 | _,_=>[]
theorem JP.p{X:Cx}{EX:EXT}{pos:Pos}{es:List (Option Expr)}{vs:List Expr}{ks:List Key}{fs:List SE}(h:JP X EX pos es vs ks fs):PPs X pos es vs (prT X.K EX ks fs):=by
 induction h with
 | nil=>exact Bu
 | @cons k j p e f es vs ks fs h t ih =>
  refine yy ?_ h.p ih
  cases k with
  | inl i=>exact iO
  | inr x=>exact dJ
theorem JP.len{X:Cx}{EX:EXT}{pos:Pos}{es:List (Option Expr)}{vs:List Expr}{ks:List Key}{fs:List SE}(h:JP X EX pos es vs ks fs):es.all (·.isSome)=true/\es.length=vs.length/\ks.length=es.length/\fs.length=es.length:=by
 induction h with
 | nil=>exact ⟨rfl,rfl,rfl,rfl⟩
 | cons h t ih=>exact ⟨by rw [FO,ih.1];rfl,by rw [Dq,Dq,ih.2.1],by rw [Dq,Dq,ih.2.2.1],by rw [Dq,Dq,ih.2.2.2]⟩
theorem CV{K:FZ}{F:Fx}{EX:EXT}{σ:St}:∀ (ks:List Key) (fs:List SE) {H:Hp} {ρ:Rho} {W:List Addr} {Q:List V->Hp->Prop} {Q':List (V×V)->Hp->Prop},ks.length=fs.length->Rel K F σ H ρ W->OkFs K F EX σ H W (evA (fs.map Arg.ex) ρ) Q ->
 (∀ vs H',vs.length=ks.length->Q vs H'->Q' ((ks.zip vs).map (fun kv=>(kV kv.1,kv.2))) H')->pS (prT K EX ks fs) σ H Q'
 | [],[],H,ρ,W,Q,Q',_,R,h,g=>g [] H rfl (h [] H W .refl (fun _ z=>z) R trivial)
 | k::ks,f::fs,H,ρ,W,Q,Q',hl,R,h,g=>by
  refine ⟨F,ρ,W,R,?_⟩;rw [DE] at h;unfold evA at h
  revert h
  cases f ρ with
  | none=>exact fun h=>h
  | some r =>
   obtain ⟨r,ρ1⟩:=r
   cases r with
   | ex C=>exact fun h=>h
   | ok d nw =>
    intro h v H1 W1 fr sub post;obtain ⟨rd,R1⟩:=post.plain
    refine CV (K:=K) (F:=F) (EX:=EX) (σ:=σ) ks fs (H:=H1) (ρ:=ρ1) (W:=W1) (Q:=fun vs H2=>Q (v::vs) H2) (Nat.succ.inj hl) R1 ?_ fun vs H2 e q=>g (v::vs) H2 (by rw [Dq,Dq,e]) q
    revert h
    dsimp only
    cases evA (fs.map Arg.ex) ρ1 with
    | none=>exact fun h=>h
    | some q =>
     obtain ⟨q,ρ2⟩:=q
     cases q with
     | ex C=>exact fun h H2 W2 fr2 sub2 R2=>h H2 W2 (fr.trans fr2 fun p hp=> .inl (sub p hp)) (fun p hp=>sub p (sub2 p hp)) R2
     | ok ds =>
      intro h vs H2 W2 fr2 sub2 R2 reps;exact h (v::vs) H2 W2 (fr.trans fr2 fun p hp=> .inl (sub p hp)) (fun p hp=>sub p (sub2 p hp)) R2 ⟨(fr2.hid fun p hp=> .inl (sub2 p hp)).repD rd,reps⟩
 | [],_::_,_,_,_,_,_,hl,_,_,_=>by simp at hl
 | _::_,[],_,_,_,_,_,hl,_,_,_=>by simp at hl
theorem mS:∀ (kvs acc:List (Key×V)),(kvs.map (·.1)).Nodup->(∀ k∈kvs.map (·.1),k∉acc.map (·.1))->gB acc kvs=acc++kvs
 | [],acc,_,_=>by unfold gB;simp
 | p::r,acc,nd,ha=>by
  rw [DE] at nd ha;have nd:=Er.mp nd
  show gB (eN acc p.1 p.2) r=_
  have e:eN acc p.1 p.2=acc++[p]:=by
   unfold eN;rw [if_neg];intro z;obtain ⟨q,hq,e⟩:=List.any_eq_true.mp z;exact ha p.1 Dv (Ev.mpr ⟨q,hq,DH e⟩)
  rw [e,mS r _ nd.2 fun k hk z=> ?_,Eh]
  ·rfl
  ·rw [Ec,DG] at z
   rcases z with z | z
   ·exact ha k (Dr _ hk) z
   ·have z:k=p.1:=by simpa using z
    rw [z] at hk;exact nd.1 hk
theorem u3:∀ (ks:List Key) (vs:List V),vs.length=ks.length->(ks.zip vs).map (·.1)=ks
 | [],_,_=>rfl
 | k::ks,[],h=>by simp at h
 | k::ks,v::vs,h=>by rw [FA,DE,u3 ks vs (Nat.succ.inj h)]
theorem c_disp{X:Cx}{EX:EXT}{pos:Pos}{es:List (Option Expr)}{vs:List Expr}{ks:List Key}{fs:List SE}(h:JP X EX pos es vs ks fs)(h0:es≠[])(h15:es.length<=15)(nd:ks.Nodup):JE X EX (.Dict es vs pos) (oO ks fs) :=
 ⟨(Bz h.p h.len.1 h.len.2.1 h0 h15).by fun σ H Q ⟨F,ρ,W,R,q⟩=>by
   intro p hp;have hl:=h.len
   have hH:hid [p] (upd H p (.dK []))=H:=by
    funext b
    by_cases z:b=p
    ·subst z;unfold hid;rw [if_pos (DC.mpr rfl),hp]
    ·rw [aI (fun y=>z (DC.mp y)),am z]
   have R1:Rel X.K (F.more p) σ (upd H p (.dK [])) ρ W:=Rel.more (by rw [hH];exact R) (R.fresh hp) (by rw [ao];trivial)
   have hpZ:p∉F.Z:=fun z=>R.fresh hp (Dl _ z)
   refine CV (F:=F.more p) (Q:=fun xs H2=>H2 p=some (.dK [])/\Q (.ref p) (upd H2 p (.dK (ks.zip xs)))) ks fs (by omega) R1 ?_ fun xs H2 el hz=>⟨hz.1,ks.zip xs,rfl,by rw [E4];omega,?_⟩
   ·unfold oO at q
    revert q
    cases ee:evA (fs.map Arg.ex) ρ with
    | none=>exact fun q=>q
    | some o =>
     obtain ⟨o,ρ2⟩:=o
     cases o with
     | ex C=>exact fun q=>q.elim
     | ok ds =>
      intro q xs H2 W2 fr2 sub2 R2 reps;have hp2:H2 p=some (.dK []):=fr2.keep p _ (fun z=>R.fresh hp (Dp _ z)) ao
      have fr3:Fr [p] H2 (upd H2 p (.dK (ks.zip xs))):=⟨fun b o n e=>by rw [am (fun z=>n (DC.mpr z))];exact e,fun b e=>by
       by_cases z:b=p
       ·subst z;rw [ao] at e;cases e
       ·rw [am z] at e;exact e⟩
      have frU:Fr W H (upd H p (.dK [])):=(ai.upd hp).fr;refine ⟨hp2,q (.ref p) _ W2 ((frU.trans fr2 fun r hr=> .inl hr).trans fr3 fun r hr=> .inr (by rw [DC.mp hr];exact hp)) sub2 ⟨p,rfl,hp,fun z=> ?_,?_,?_⟩⟩
      ·rcases DG.mp z with z | z
       ·exact R2.wz p z Dv
       ·exact hpZ z
      ·refine ⟨xs,ao,?_,?_⟩
       ·have:=reps.len
        have:=lF ee;omega
       ·refine ai.repDs (aP (fun b hb=> .inl ?_) fun b o n e=> ?_:ai (hid (W2++(F.more p).Z) H2) _) reps
        ·rcases Dz.mp hb with z | z
         ·rw [z];exact Dl _ Dv
         ·rcases DG.mp z with z | z
          ·exact Dp _ z
          ·exact Dl _ (Dr _ z)
        ·rw [am (fun z=>n (by rw [z];exact Dl _ Dv))]
         exact e
      ·refine R2.less hpZ fun b o n e=> ?_
       have nb:b≠p:=fun z=>n (DC.mpr z)
       rw [aI (fun y=>nb (DC.mp y)),am nb];exact e
   ·rw [mS (ks.zip xs) [] (by rw [u3 ks xs el];exact nd) (fun k hk z=>absurd z EI),DX]
    exact hz.2⟩
theorem r_disp{ks:List Key}{fs:List SE}{ρ ρ1:Rho}{ds:List D}(h:evA (fs.map Arg.ex) ρ=some (.ok ds,ρ1)):oO ks fs ρ=some (.ok (.dK ks ds) true,ρ1):=by unfold oO;rw [h]
noncomputable def FzM(P:Program)(w:World)(K:FZ)(a:Addr)(kvs:List (Key×V)):Prop :=
 (a == sysModules)=false/\∃ (o:Obj) (es:Array DictEntry) (ep:Nat) (vs:List (Key×Value)),K.lookup a=some o/\o.ExactDict/\o.data = .dict es ep /\
   KeysOf (aV P w) es/\Pairs (aV P w) es.toList vs/\(vs.map (·.1)).Nodup/\KV kvs vs
structure vV(w:World)(K:FZ)(mg:Str->Option Value)(n:Str)(ks:List Key)(ds:List D):Prop where
 ex:∃ a xs,mg n=some (.ref a)/\ks.length=xs.length/\(∀ P,FzM P w K a (ks.zip xs))/\∀ H,ak K H ds xs
noncomputable def pd(ks:List Key)(ds:List D):List D->Option (D×Bool)
 | [d]=>match fv d with
  | some k=>match bQ ks ds k with
   | some d=>some (d,false)
   | none=>none
  | none=>none
 | _=>none
noncomputable def B9(ks:List Key)(ds:List D)(neg:Bool):List D->Option (D×Bool)
 | [d]=>match fv d with
  | some k=>some (.bl (if neg then !(bQ ks ds k).isSome else (bQ ks ds k).isSome),false)
  | none=>none
 | _=>none
section
variable{X:Cx}{EX:EXT}{i:Expr}{pos p:Pos}{y:Arg}{n:Str}{ks:List Key}{ds:List D}
theorem FzM.dict{pins:List (Addr×Obj)}{σ:St}{H:Hp}{s:Shared}{a:Addr}{kvs:List (Key×V)}(h:FzM X.prog X.w X.K a kvs)(I:Inv X pins σ H s):∃ vs,KV kvs vs/\s.heap.DictOf (aV X.prog X.w) a vs:=by
 obtain ⟨_,ob,es,ep,vs,h1,h2,h3,h4,h5,h6,h7⟩:=h;exact ⟨vs,h7,ob,es,ep,I.kIn a ob h1,h2,h3,h4,h5,h6⟩
noncomputable def tMGet(X:Cx)(td ty:TE):TE:=fun σ H Q=>td σ H fun x H1=>ty σ H1 fun y H2=>∃ a kvs k v,x = .ref a/\y=kV k/\FzM X.prog X.w X.K a kvs/\dY kvs k=some v/\Q v H2
noncomputable def tMIn(X:Cx)(neg:Bool)(ty td:TE):TE:=fun σ H Q=>ty σ H fun y H1=>td σ H1 fun x H2=>∃ a kvs k,x = .ref a/\y=kV k/\FzM X.prog X.w X.K a kvs/\Q (.bl (if neg then !(dY kvs k).isSome else (dY kvs k).isSome)) H2
theorem By{o:Expr}{td ty:TE}(ho:PE X o td)(hi:PE X i ty)(hs:AC i):PE X (.Subscript o i pos) (tMGet X td ty):=by
 intro pins s σ H Q I h;refine u6 PySem.F.slot_dict_getitem.lookup hs (thn (ho pins s σ H _ I h) fun u s1 ⟨x,H1,I1,rx,q1⟩=>thn (hi pins s1 σ H1 _ I1 q1) fun iv s2 ⟨y,H2,I2,ry,a,kvs,j,v,ex,ey,g,e,q2⟩=> ?_);subst ex;subst ey;obtain rfl:u=Value.ref a:=rx;obtain ⟨vs,rel,dd⟩:=g.dict I2;obtain ⟨w',hw,rw'⟩:=nU.some_of (v:=v) (o:=valueAt vs j) (by rw [<- e];exact rel.val j);exact ⟨dd.typeIs,wpAny_getItem_of (kG ry) dd.mapOf hw ⟨v,H2,I2.tok _,rw',q2⟩⟩
theorem pc_min{neg:Bool}{o:Expr}{td ty:TE}(hi:PE X i ty)(ho:PE X o td):PC X (if neg then .NotIn else .In) i o (tMIn X neg ty td):=by
 intro pins s σ H Q I h
 refine thn (hi pins s σ H _ I h) fun iv s1 ⟨y,H1,I1,ry,q1⟩=>thn (ho pins s1 σ H1 _ I1 q1) fun u s2 ⟨x,H2,I2,rx,a,kvs,k,ex,ey,g,q2⟩=> ?_
 subst ex;subst ey;obtain rfl:u=Value.ref a:=rx;obtain ⟨vs,rel,dd⟩:=g.dict I2
 cases neg with
 | false =>
  refine wpAny_in_of (kG ry) g.1 dd.mapOf ⟨.bl (dY kvs k).isSome,H2,I2.tok _,?_,q2⟩;rw [(rel.val k).isSome_eq];rfl
 | true =>
  refine wpAny_notIn_of (kG ry) g.1 dd.mapOf ⟨.bl (!(dY kvs k).isSome),H2,I2.tok _,?_,q2⟩;rw [(rel.val k).isSome_eq];rfl
theorem mX{K:FZ}{H Hh:Hp}{d:D}{v:V}{k:Key}(e:fv d=some k)(r:gb K H Hh d v):v=kV k:=by
 cases d<;>first | (unfold fv at e;cases e;done) | (unfold fv at e;cases e;exact r)
theorem c_kget(M:vV X.w X.K X.mg n ks ds)(hg:Gl X n)(hi:JB X EX i y)(hd:(n == ("__debug__" : Str))=false:=by decide)(hs:AC i:=by exact fun _ _=>rfl):JE X EX (.Subscript (.Name n p) i pos) (sOp (pd ks ds) [y]):=by
 obtain ⟨a,xs,hm,hl,fz,rep⟩:=M.ex;refine ⟨(By (js (v:= .ref a) hg hm rfl hd) hi.p hs).by fun σ H Q ⟨F,ρ,W,R,h⟩=> ?_⟩
 have os:OpS X.K (r1 fun yv H2 Q=>∃ a' kvs k v,V.ref a = .ref a'/\yv=kV k/\FzM X.prog X.w X.K a' kvs/\dY kvs k=some v/\Q v H2) (pd ks ds):=by
  intro vs ds' H L Q d nw hm r e q;unfold pd at e
  split at e
  ·obtain ⟨v,rfl,rb⟩:=aJ r
   split at e
   ·rename_i k ek
    split at e
    ·rename_i d' ed
     cases e;obtain ⟨v',h1,h2⟩:=(fu (x:=k) hl (rep (hid L H))).1 _ ed;exact ⟨a,_,k,v',rfl,mX ek rb,fz _,h1,q v' H (ai.refl _) h2⟩
    ·cases e
   ·cases e
  ·cases e
 exact cD os R h
theorem BW{neg:Bool}{a:Addr}{xs:List V}(hl:ks.length=xs.length)(fz:∀ P,FzM P X.w X.K a (ks.zip xs))(rep:∀ H,ak X.K H ds xs):OpS X.K (r1 fun yv H2 Q=>∃ a' kvs k,V.ref a = .ref a'/\yv=kV k/\FzM X.prog X.w X.K a' kvs/\Q (.bl (if neg then !(dY kvs k).isSome else (dY kvs k).isSome)) H2) (B9 ks ds neg):=by
 intro vs ds' H L Q d nw hm r e q;unfold B9 at e
 split at e
 ·obtain ⟨v,rfl,rb⟩:=aJ r
  split at e
  ·rename_i k ek
   cases e;refine ⟨a,_,k,rfl,mX ek rb,fz _,q _ H (ai.refl _) ?_⟩;have l:=fu (x:=k) hl (rep (hid L H))
   have e2:(dY (ks.zip xs) k).isSome=(bQ ks ds k).isSome:=by
    cases h:bQ ks ds k with
    | none=>rw [l.2 h];rfl
    | some d=>obtain ⟨v',h1,_⟩:=l.1 d h;rw [h1];rfl
   show V.bl _ = .bl _
   rw [e2]
  ·cases e
 ·cases e
theorem t_kin{neg:Bool}(M:vV X.w X.K X.mg n ks ds)(hg:Gl X n)(hi:JB X EX i y)(hm2:behindInMarks (if neg then .NotIn else .In) (.Name n p)=false)(hd:(n == ("__debug__" : Str))=false:=by decide):JT X EX (.Compare i [if neg then .NotIn else .In] [.Name n p] pos) (aK (B9 ks ds neg) [y]):=by
 obtain ⟨a,xs,hm,hl,fz,rep⟩:=M.ex;exact ⟨(pt_cmp (pc_min (neg:=neg) hi.p (js (v:= .ref a) hg hm rfl hd)) hm2).by fun σ H Q ⟨F,ρ,W,R,h⟩=>cD (BW hl fz rep) R (Df h)⟩
end
theorem fzM_of{w:World}{K:FZ}{a:Addr}{ep:Nat}(xs:List (Str×Tok×Addr))(nd:(a == sysModules)=false)(l:K.lookup a=some ⟨.type "dict",none,.dict (xs.map fun x=>(⟨PyData.keyHash w.params x.1,.str x.1 x.2.1,.ref x.2.2⟩:DictEntry)).toArray ep,#[]⟩)(ndp:(xs.map (·.1)).Nodup):∀ P,FzM P w K a (xs.map fun x=>(Sum.inr x.1,V.ref x.2.2)):=by
 intro P;refine ⟨nd,_,_,ep,xs.map fun x=>(Sum.inr x.1,Value.ref x.2.2),l,⟨rfl,rfl,rfl⟩,rfl,fun e he=> ?_,?_,?_,?_⟩
 ·have he:e∈xs.map fun x=>(⟨PyData.keyHash w.params x.1,.str x.1 x.2.1,.ref x.2.2⟩:DictEntry):=by simpa using he
  obtain ⟨x,_,rfl⟩:=Ev.mp he;exact ⟨.inr x.1,eW _ _ x.1 x.2.1,rfl⟩
 ·rw [List.toList_toArray]
  induction xs with
  | nil=>exact .nil
  | cons x xs ih =>
   rw [DE,DE];refine .cons (eW _ _ x.1 x.2.1) rfl ?_;clear ih l
   have:∀ ys:List (Str×Tok×Addr),Pairs (aV P w) (ys.map fun x=>(⟨PyData.keyHash w.params x.1,.str x.1 x.2.1,.ref x.2.2⟩:DictEntry)) (ys.map fun x=>(Sum.inr x.1,Value.ref x.2.2)):=by
    intro ys
    induction ys with
    | nil=>exact .nil
    | cons y ys ih=>exact .cons (eW _ _ y.1 y.2.1) rfl ih
   exact this xs
 ·rw [Eb]
  have:(xs.map ((fun x:Key×Value=>x.1) ∘ fun x:Str×Tok×Addr=>((Sum.inr x.1:Key),Value.ref x.2.2)))=(xs.map (·.1)).map Sum.inr:=by rw [Eb];rfl
  rw [this];refine List.Pairwise.map _ (fun a b h z=>h (Sum.inr.inj z)) ndp
 ·clear l ndp
  induction xs with
  | nil=>exact .nil
  | cons x xs ih=>exact .cons ⟨rfl,rfl⟩ ih
theorem r_zipE{ρ ρ1:Rho}{ds a b zs:List D}{fs:List SE}(h:evA (fs.map Arg.ex) ρ=some (.ok ds,ρ1))(hs:xV ds=some (a,b))(hl:a.length<=b.length)(hz:jW a b=zs):kY fs ρ=some (.ok zs,ρ1):=by rw [r_zip h hs hl,hz]
noncomputable def tJ(o:Option (Out×Rho))(Q:D->Bool->Rho->Prop):Prop:=∃ d nw ρ',o=some (.rt d nw,ρ')/\Q d nw ρ'
section
variable{s t:SS}{p:ST}{ρ ρ1:Rho}{Q:D->Bool->Rho->Prop}{b:Bool}
theorem ya(h1:s ρ=some (.nx,ρ1))(h2:tJ (t ρ1) Q):tJ (au s t ρ) Q:=by obtain ⟨d,nw,ρ',e,q⟩:=h2;exact ⟨d,nw,ρ',CJ h1 e,q⟩
theorem rq_ret{d:D}{nw:Bool}(h:s ρ=some (.rt d nw,ρ1))(q:Q d nw ρ1):tJ (s ρ) Q:=⟨d,nw,ρ1,h,q⟩
theorem t4{j n:Nat}{it:SI}{ds:List D}{T:Tg}{f:SE}(I:Rho->Prop)(P:D->Prop)(hit:it ρ=some (.ok ds,ρ1))(hg:Tg.ge ρ1.length T=true)(hI:I ρ1)
 (hs:∀ d∈ds,∀ ρ,I ρ->∃ ρ1 ρ2 y nw,bE T d (ρ++List.replicate n none)=some ρ1/\f ρ1=some (.ok y nw,ρ2)/\P y/\I (ρ2.take ρ.length))
 (go:∀ ys ρ',I ρ'->ys.length=ds.length->(∀ y∈ys,P y)->∃ x,ρ'[j]?=some x/\tJ (s (ρ'.set j (some (.lst ys,.ow)))) Q):tJ (au (aW j (bM n it T none f)) s ρ) Q:=by
 obtain ⟨ys,ρ',e,h1,h2,h3⟩:=me (k:=n) (T:=T) (f:=f) (I:=I) (P:=P) ds ρ1 hI hs;obtain ⟨x,hx,hr⟩:=go ys ρ' h1 h2 h3;exact ya (CI (yh hit hg e) hx rfl) hr
end
noncomputable def isT1:Option (Res×D)->Bool
 | some (.ok (.bl true) false,.non)=>true
 | _=>false
theorem bv{o:Option (Res×D)}(h:isT1 o=true):o=some (.ok (.bl true) false,.non):=by
 unfold isT1 at h
 split at h
 ·rfl
 ·cases h
theorem r_whT{n:Nat}{c:ST}{f:SS}{ρ ρ1 ρ2:Rho}{b:Bool}{r:Option (Out×Rho)}(h:c ρ=some (.ok b,ρ1))(hb:b=true)(h2:f ρ1=some (.nx,ρ2))(h3:de n c f ρ2=r):de (n+1) c f ρ=r:=by
 subst hb;unfold de;simp only [h,h2];exact h3
theorem CH{n:Nat}{c:ST}{f:SS}{ρ ρ1:Rho}{b:Bool}(h:c ρ=some (.ok b,ρ1))(hb:b=false):de (n+1) c f ρ=some (.nx,ρ1):=by
 subst hb;unfold de;simp only [h]
theorem zV{a b c:List D}(h:small (a.length+b.length)=true)(e:a++b=c):aU [.lst a,.lst b]=some (.lst c,true):=by
 subst e;unfold aU;simp only [h,if_true]
theorem vW{ts:List (Int×Int)}{a b:Int}(h:ts.length<=1000000):cv (.lst (tD ts)) [.tup [.int a,.int b]]=some (.lst (tD (ts++[(a,b)])),.non):=by
 show (if small (tD ts).length=true then some (D.lst (tD ts++[.tup [.int a,.int b]]),D.non) else none)=_
 rw [if_pos (by unfold small;rw [Do];exact DF h),tD,tD,Ec];rfl
noncomputable def gLeA:List D->Option (D×Bool)
 | [.tup a,.tup b]=>match aT a,aT b with
  | some x,some y=>some (.bl (HT.C5 x y),false)
  | _,_=>none
 | ds=>gLe ds
noncomputable def nq:List D->Option (D×Bool)
 | [.tup a,.int k]=>if (decide (2<=k/\k<=1000000)&&small (a.length * k.toNat) && !a.isEmpty)=true then some (.tup (repL k.toNat a),false) else none
 | ds=>ie ds
noncomputable def CN(K:FZ):R2:=fun x y H Q=>∃ a k xs,x = .ref a/\y = .int k/\SqT K H a xs/\xs≠[]/\2<=k/\xs.length * k.toNat<=sizeLine/\∀ p H',H' p=some (.tup (List.replicate k.toNat xs).flatten)->ai H H'->Q (.ref p) H'
theorem BI{X:Cx}:OpR X (binaryOp .Mult) (CN X.K):=by
 intro pins s σ H x y v u Q I rx ry h;obtain ⟨a,k,xs,rfl,rfl,ha,ne,h1,hz,q⟩:=h;cases rx;obtain ⟨t,rfl⟩:=ry;obtain ⟨its,r,⟨⟨cls,dd,data,sl⟩,e,c,n,d⟩,_⟩:=I.tuple ha;dsimp only at c d;subst c d
 have hne:its.toArray.isEmpty=false:=by
  cases r with
  | nil=>exact absurd rfl ne
  | cons _ _=>rfl
 refine wpAny_binaryOp_repeat_ref (T := "tuple") (U := "int") (by decide) ⟨_,e,rfl⟩ (fun s'=>typeIs_int s' k t) ue F.fills_int_mul F.slot_int_rmul t7 F.slot_int_index.lookup
  (call_meets F.slot_int_rmul (typeIs_int s k t) F.entry_int_rmul (F.args_int_rmul_2 _ _) (yd k t a its.toArray n dd sl) ⟨e,rfl,⟨_,e,rfl⟩,?_⟩)
 have hl:its.toArray.size * k.toNat<=sizeLine:=by rw [Du,<- r.length];exact hz
 refine call_meets F.slot_tuple_mul ⟨_,e,rfl⟩ F.entry_tuple_mul (F.args_tuple_mul_2 _ _) (zd a its.toArray n dd sl k t (by omega) hl hne) ⟨e,?_⟩;have f0:=h9 its k.toNat [];rw [DX] at f0;have f1:List.foldl (fun x1 x2=>x1++x2) #[] (List.replicate k.toNat its.toArray)=(List.replicate k.toNat its).flatten.toArray:=f0;rw [f1];have hf:H s.heap.objs.size=none:=I.hok.fresh (Dy _);refine ⟨.ref s.heap.objs.size,_,I.laid (o:= .tup (List.replicate k.toNat xs).flatten) (t':=s.toks) (fun _ _ z=>Dk _ z) (Dy _) ⟨?_,_,r.rep k.toNat,⟨_,Dw _ rfl,rfl,_,rfl⟩⟩,rfl,q _ _ ao (ai.upd hf)⟩;rw [qA,Nat.mul_comm];exact hz
section
variable{X:Cx}{EX:EXT}{a b:Expr}{x y:Arg}{pos:Pos}{K:FZ}
theorem BD:OpS K (r2 fun x y H Q=>(rI xA (fun i j=> .int (i * j)) x y H Q\/Bn x y H Q)\/CN K x y H Q) nq:=by
 intro vs ds H L Q d nw hm r e q;unfold nq at e
 split at e
 ·rename_i a k
  obtain ⟨x,y,rfl,⟨p,xs,rfl,h1,h2⟩,rb⟩:=aQ r
  split at e
  ·rename_i hs
   cases e;simp only [DK,Eo] at hs;obtain ⟨⟨⟨k1,k2⟩,sm⟩,ne⟩:=hs;refine .inr ⟨p,k,xs,rfl,rb,.inl (.inl (aw h1).2),fun z=> ?_,k1,?_,fun p' H' hp' s=>q _ _ s (gZ hm (mm k.toNat h2) s hp')⟩
   ·have:=h2.len
    rw [z] at this
    cases a with
    | nil=>cases ne
    | cons _ _=>simp at this
   ·rw [<- h2.len]
    exact fk sm
  ·cases e
 ·obtain z:=yR vs ds H L Q d nw hm r e q
  match vs,z with
  | [x,y],z=>exact .inl z
theorem b_mulA(ha:JB X EX a x)(hb:JB X EX b y):JE X EX (.BinOp a .Mult b pos) (sOp nq [x,y]):=uO (vA.or BI) BD ha hb
end
section
variable{P:Program}{w:World}{K:FZ}{mg:Str->Option Value}{base:Heap}{x:Str}{st:Stmt}{N ps:List Str}{k:Nat}{io:Option Nat}{body:SS}
theorem B0{f:Addr}{cdv:Value}{A:Around}{outer:List Env}{s:Shared}{H:Hp}{E:XK}{c:Nat}(h:c<=10)(hr:cx k (A.deeper (envOfC x (ah st) s.heap.objs.size f cdv))):(bZ (CXr P w) P w K mg base N x (ah st) f cdv A outer s H E).A.units+c < cLine:=by
 have:=hr.units
 show (A.deeper _).units+c < cLine
 omega
theorem aN(h:Has K mg x st ps)(S:cy N ps (ah st))
 (hb:∀ (f:Addr) (cdv:Value) (A:Around) (outer:List Env) (s:Shared) (H:Hp) (E:XK),cx k (A.deeper (envOfC x (ah st) s.heap.objs.size f cdv))->N.Nodup ->
   (bZ (CXr P w) P w K mg base N x (ah st) f cdv A outer s H E).A.units+10 < cLine->(bZ (CXr P w) P w K mg base N x (ah st) f cdv A outer s H E).A.units+1 < cLine ->
   JSs (bZ (CXr P w) P w K mg base N x (ah st) f cdv A outer s H E) (EXf K E) (bb st) body) (hps:ps.length<=N.length:=by decide):OkX P w K mg base x ps (k+1) (spF K io (az ps.length N.length io body)) :=
 fn_ok h S (fun f cdv A outer s H E hr=>hb f cdv A outer s H E hr S.nd (B0 (by decide) hr) (B0 (by decide) hr)) hps
theorem fn_okV{f0:Addr}{fd0:FuncData}(h:Fun K x x st f0 fd0)(S:cy N ps (ah st))
 (hb:∀ (f:Addr) (cdv:Value) (A:Around) (outer:List Env) (s:Shared) (H:Hp) (E:XK),cx k (A.deeper (envOfC x (ah st) s.heap.objs.size f cdv))->N.Nodup ->
   (bZ (CXr P w) P w K mg base N x (ah st) f cdv A outer s H E).A.units+10 < cLine->(bZ (CXr P w) P w K mg base N x (ah st) f cdv A outer s H E).A.units+1 < cLine ->
   JSs (bZ (CXr P w) P w K mg base N x (ah st) f cdv A outer s H E) (EXf K E) (bb st) body) (hps:ps.length<=N.length:=by decide):kq P w K mg base (CXr P w) (k+1) f0 fd0 ps (spF K io (az ps.length N.length io body)) :=
 zW h S (fun f cdv A outer s H E hr=>hb f cdv A outer s H E hr S.nd (B0 (by decide) hr) (B0 (by decide) hr)) hps
end
theorem nd_k{l:List Str}(h:decide l.Nodup=true):l.Nodup:=DH h
abbrev OkY(x:Str)(ps:List Str)(k:Nat)(io:Option Nat)(f:FS)(P:Program)(w:World)(K:FZ)(mg:Str->Option Value)(base:Heap):Prop:=OkX P w K mg base x ps k (spF K io f)
structure lI(K:FZ)(mg:Str->Option Value)(base:Heap)(x:Str):Prop where
 ex:∃ C bm B newId initId,OwnCls x C bm newId mg base/\ExcBaseFacts B newId initId bm/\gK K x C
theorem xW{P:Program}{w:World}{K:FZ}{mg:Str->Option Value}{base:Heap}{N:List Str}{qual:Str}{scope:Scope}{f:Addr}{cd:Value}{A:Around}{outer:List Env}{s:Shared}{H:Hp}{E:XK}{x:Str}{np cpos pos:Pos}{k:Nat}
 (O:lI K mg base x) (hr:cx k (A.deeper (envOfC qual scope s.heap.objs.size f cd)))
 (hg:Gl (bZ (CXr P w) P w K mg base N qual scope f cd A outer s H E) x) (hd:(x == ("__debug__" : Str))=false:=by decide):JS (bZ (CXr P w) P w K mg base N qual scope f cd A outer s H E) (EXf K E) (.Raise (some (.Call (.Name x np) [] [] cpos)) none pos) (p7 x):=by
 obtain ⟨C,bm,B,nI,iI,h1,h2,h3⟩:=O.ex;exact A3 h1 h2 h3 hr hg hd
section
variable{X:Cx}{EX:EXT}{e i1 i2:Expr}{pos pos1 pos2 tpos p1 p2:Pos}{n:Str}{j k:Nat}{f f1 f2:SE}
end
section
variable{X:Cx}{EX:EXT}{a b:Expr}{x y:Arg}{pos:Pos}
end
end L2
namespace L2
open PyProof.Rows
theorem gk:∀ {a b:List Int},a.Pairwise (·<= ·)->b.Pairwise (·<= ·)->a.Perm b->a=b
 | [],b,_,_,p=>by rw [p.nil_eq]
 | x::a,[],_,_,p=>absurd p.symm.nil_eq (by simp)
 | x::a,y::b,ha,hb,p=>by
  have ha':=Ej.mp ha;have hb':=Ej.mp hb
  have e:x=y:=by
   have h1:x∈y::b:=p.mem_iff.mp Dv;have h2:y∈x::a:=p.mem_iff.mpr Dv
   rcases Dz.mp h1 with h | h
   ·exact h
   ·rcases Dz.mp h2 with g | g
    ·exact g.symm
    ·have:=hb'.1 x h
     have:=ha'.1 y g;omega
  subst e;rw [gk ha'.2 hb'.2 (List.Perm.cons_inv p)]
theorem ml(lo:Int):∀ n,(rgI lo n).Pairwise (·<= ·)
 | 0=>List.Pairwise.nil
 | n+1=>by
  rw [bN,List.pairwise_append];refine ⟨ml lo n,List.pairwise_singleton _ _,fun a ha b hb=> ?_⟩;rw [DC.mp hb];have:=bI.mp ha;omega
theorem du(lo:Int):∀ n,(rgI lo n).Nodup
 | 0=>FH
 | n+1=>by
  rw [bN,FF];refine ⟨du lo n,List.pairwise_singleton _ _,fun a ha b hb=> ?_⟩;rw [DC.mp hb];have:=bI.mp ha;omega
theorem lx(lo:Int)(m:Nat):∀ n,rgI lo (m+n)=rgI lo m++rgI (lo+(m:Nat)) n
 | 0=>by simp [rgI]
 | n+1=>by
  rw [<- Nat.add_assoc,bN,lx lo m n,bN,Eh]
  congr 3
  omega
theorem oo{l m:List Int}(h:l.Perm m)(hm:m.Pairwise (·<= ·)):eY l=m:=gk (fK l) hm ((iW l).trans h)
theorem wF{l:List Int}{lo:Int}{n:Nat}(h:l.Perm (rgI lo n)):eY l=rgI lo n:=oo h (ml lo n)
theorem kJ:∀ (l acc:List Int),(l++acc).Nodup->(l.foldl step_dedup acc).length=acc.length+l.length
 | [],acc,_=>rfl
 | x::l,acc,h=>by
  have h':=Er.mp h
  have e:(step_dedup acc x).length=acc.length+1/\(step_dedup acc x).Perm (x::acc):=by
   unfold step_dedup;rw [if_neg]
   ·exact ⟨by simp,by first | exact List.Perm.refl _ | exact List.perm_append_singleton x acc⟩
   ·intro z
    refine h'.1 (Dl _ ?_)
    first
     | (obtain ⟨y,hy,e⟩:=List.any_eq_true.mp z;rw [<- eq_of_beq e];exact hy)
     | simpa using z
  have nd:(l++step_dedup acc x).Nodup:=by
   refine ((List.Perm.append_left l e.2).trans ?_).nodup_iff.mpr h;exact List.perm_middle
  rw [List.foldl_cons,kJ l _ nd,e.1,Dq];omega
theorem jM{l:List Int}(h:l.Nodup):(dd l).length=l.length:=by
 have:=kJ l [] (by simpa using h);unfold dd;simpa using this
end L2
namespace L2
noncomputable def dnI(hi:Int)(n:Nat):List Int:=(List.range n).map fun k=>hi - (k:Nat)
theorem jL(hi:Int)(n:Nat):(dnI hi n).length=n:=by unfold dnI;simp
theorem Af(hi:Int)(n:Nat):dnI hi (n+1)=hi::dnI (hi - 1) n:=by
 unfold dnI;rw [List.range_succ_eq_map,DE,Eb]
 congr 1
 ·simp
 ·refine Ed fun k _=> ?_
  show hi - ((k+1:Nat):Int)=hi - 1 - (k:Nat)
  omega
theorem jJ(hi:Int)(n:Nat):dnI hi (n+1)=dnI hi n++[hi - (n:Nat)]:=by unfold dnI;rw [List.range_succ,Ec];rfl
theorem vM(hi:Int)(m:Nat):∀ n,dnI hi (m+n)=dnI hi m++dnI (hi - (m:Nat)) n
 | 0=>by simp [dnI]
 | n+1=>by
  rw [<- Nat.add_assoc,jJ,vM hi m n,jJ,Eh]
  congr 3
  omega
theorem jK(hi:Int):∀ n:Nat,(dnI hi n).Perm (rgI (hi - (n:Nat)+1) n)
 | 0=>List.Perm.refl _
 | n+1=>by
  rw [jJ,gs];refine (List.perm_append_singleton _ _).trans ?_
  have e:hi - ((n+1:Nat):Int)+1=hi - (n:Nat):=by omega
  rw [e];exact (jK hi n).cons _
theorem dnI_at{hi:Int}{n i:Nat}(h:i < n):(dnI hi n)[i]?=some (hi - (i:Nat)):=by
 unfold dnI;rw [DM,List.getElem?_range h];rfl
noncomputable def rem(legs:List Nat):Nat:=legs.sum+legs.length - 1
noncomputable def cS(b:Bool)(lo hi:Int):List Nat->List Int
 | []=>[]
 | l::r=>if r=[] then [] else if b then (hi - l)::cS false lo (hi - l - 1) r else (lo+l)::cS true (lo+l+1) hi r
noncomputable def cL(b:Bool)(lo hi:Int):List Nat->List Int
 | []=>[]
 | l::r=>if b then dnI hi l++cL false lo (hi - l - 1) r else rgI lo l++cL true (lo+l+1) hi r
noncomputable def cP(b:Bool)(lo hi:Int):List Nat->Int
 | []=>lo - 1
 | l::r=>if r=[] then (if b then lo - 1 else lo+l - 1) else if b then cP false lo (hi - l - 1) r else cP true (lo+l+1) hi r
noncomputable def cT(k fr:Int):List Nat->List (Int×Int)
 | []=>[]
 | l::r=>(rgI fr l).map (fun x=>(k,x))++(if r=[] then [] else (k,k+1)::cT (k+1) (fr+l) r)
theorem mo{l:Nat}{r:List Nat}(h:r≠[]):rem (l::r)=l+1+rem r:=by
 unfold rem;have:=DS.mpr h;rw [EM,Dq];omega
theorem lA{l:Nat}:rem [l]=l:=by unfold rem;simp
theorem nL:∀ (legs:List Nat) (b:Bool) (lo hi:Int),(cS b lo hi legs).length=legs.length - 1
 | [],_,_,_=>rfl
 | l::r,b,lo,hi=>by
  unfold cS
  split
  ·rename_i h;rw [h];rfl
  ·rename_i h
   have:=DS.mpr h
   split
   ·rw [Dq,nL r,Dq];omega
   ·rw [Dq,nL r,Dq];omega
theorem nG:∀ (legs:List Nat) (b:Bool) (lo hi:Int),legs≠[]->hi - lo+1=(rem legs:Nat)->(cS b lo hi legs++cL b lo hi legs).Perm (rgI lo (rem legs))
 | [],_,_,_,h,_=>absurd rfl h
 | l::r,b,lo,hi,_,e=>by
  by_cases hr:r=[]
  ·subst hr
   rw [lA] at e ⊢;unfold cS cL;rw [if_pos rfl,DX]
   show (if b=true then dnI hi l++[] else rgI lo l++[]).Perm _
   split
   ·rw [DW]
    have:=jK hi l;rw [show hi - (l:Nat)+1=lo by omega] at this;exact this
   ·rw [DW]
  ·rw [mo hr] at e ⊢
   unfold cS cL;rw [if_neg hr]
   cases b with
   | true =>
    have ih:=nG r false lo (hi - l - 1) hr (by omega)
    show (((hi - l)::cS false lo (hi - l - 1) r)++(dnI hi l++cL false lo (hi - l - 1) r)).Perm _
    have p1:(((hi - l)::cS false lo (hi - l - 1) r)++(dnI hi l++cL false lo (hi - l - 1) r)).Perm ((dnI hi l++[hi - l])++(cS false lo (hi - l - 1) r++cL false lo (hi - l - 1) r)):=by
     rw [Fa];intro a;simp only [List.count_append,List.count_cons,List.count_nil];omega
    refine p1.trans ?_;rw [show l+1+rem r=rem r+(l+1) by omega,lx,<- jJ];have p2:=jK hi (l+1);rw [show hi - ((l+1:Nat):Int)+1=lo+(rem r:Nat) by omega] at p2;exact (List.Perm.append p2 ih).trans List.perm_append_comm
   | false =>
    have ih:=nG r true (lo+l+1) hi hr (by omega)
    show (((lo+l)::cS true (lo+l+1) hi r)++(rgI lo l++cL true (lo+l+1) hi r)).Perm _
    have p1:(((lo+l)::cS true (lo+l+1) hi r)++(rgI lo l++cL true (lo+l+1) hi r)).Perm ((rgI lo l++[lo+l])++(cS true (lo+l+1) hi r++cL true (lo+l+1) hi r)):=by
     rw [Fa];intro a;simp only [List.count_append,List.count_cons,List.count_nil];omega
    refine p1.trans ?_;rw [lx,<- bN,show lo+((l+1:Nat):Int)=lo+l+1 by omega];exact List.Perm.append_left _ ih
theorem vS:∀ (legs:List Nat) (b:Bool) (lo hi:Int),legs≠[]->hi - lo+1=(rem legs:Nat)->lo - 1<=cP b lo hi legs/\cP b lo hi legs<=hi
 | [],_,_,_,h,_=>absurd rfl h
 | l::r,b,lo,hi,_,e=>by
  by_cases hr:r=[]
  ·subst hr
   rw [lA] at e;unfold cP;rw [if_pos rfl]
   split<;>omega
  ·rw [mo hr] at e
   unfold cP;rw [if_neg hr]
   split
   ·have:=vS r false lo (hi - l - 1) hr (by omega)
    omega
   ·have:=vS r true (lo+l+1) hi hr (by omega)
    omega
theorem pk(N:Int->Int):∀ (legs:List Nat) (b:Bool) (lo hi k fr:Int),legs≠[]->hi - lo+1=(rem legs:Nat)->N k=(if b then lo - 1 else hi+1) ->
 (∀ (j:Nat) x,(cS b lo hi legs)[j]?=some x->N (k+1+j)=x)->(∀ (j:Nat) x,(cL b lo hi legs)[j]?=some x->N (fr+j)=x) ->
 (cT k fr legs).map (fun t=>((N t.1 - N t.2).natAbs:Int))=dnI (rem legs:Nat) (rem legs)/\∀ t∈cT k fr legs,min (N t.1) (N t.2)<=cP b lo hi legs/\cP b lo hi legs < max (N t.1) (N t.2)
 | [],_,_,_,_,_,h,_,_,_,_=>absurd rfl h
 | l::r,b,lo,hi,k,fr,_,e,hk,hs,hl=>by
  have legN:∀ j:Nat,j < l->N (fr+j)=if b then hi - j else lo+j:=fun j hj=>by
   refine hl j _ ?_;unfold cL
   cases b with
   | true=>show (dnI hi l++_)[j]?=_;rw [DQ (by rw [jL];exact hj),dnI_at hj];rfl
   | false=>show (rgI lo l++_)[j]?=_;rw [DQ (by rw [aE];exact hj),rgI_at hj];rfl
  have here:((rgI fr l).map (fun x=>(k,x))).map (fun t=>((N t.1 - N t.2).natAbs:Int))=dnI (rem (l::r):Nat) l:=by
   unfold rgI dnI;rw [Eb,Eb]
   refine Ed fun j hj=> ?_
   have hj:=Et.mp hj
   show ((N k - N (fr+(j:Nat))).natAbs:Int)=_
   rw [hk,legN j hj]
   have:l<=rem (l::r):=by unfold rem;rw [EM,Dq];omega
   split<;>omega
  have bnd:=vS (l::r) b lo hi (by simp) e
  by_cases hr:r=[]
  ·subst hr
   refine ⟨?_,?_⟩
   ·unfold cT
    rw [if_pos rfl,DW,here,lA]
   ·intro t ht
    unfold cT at ht;rw [if_pos rfl,DW] at ht;obtain ⟨x,hx,rfl⟩:=Ev.mp ht;obtain ⟨h1,h2⟩:=bI.mp hx;have hx2:=legN (x - fr).toNat (by omega);rw [show fr+((x - fr).toNat:Nat)=x by omega] at hx2;rw [lA] at e
    show min (N k) (N x)<=_/\_ < max (N k) (N x)
    rw [hk,hx2];unfold cP;rw [if_pos rfl]
    split<;>omega
  ·have er:=mo (l:=l) hr
   have nxt:N (k+1)=if b then hi - l else lo+l:=by
    have:=hs 0 (if b then hi - l else lo+l) (by
     unfold cS;rw [if_neg hr]
     cases b<;>rfl)
    simpa using this
   have ih:=pk N r (!b) (if b then lo else lo+l+1) (if b then hi - l - 1 else hi) (k+1) (fr+l) hr (by rw [er] at e;cases b<;>simp<;>omega) (by rw [nxt];cases b<;>simp<;>omega)
    (fun j x hx=>by
      have:=hs (j+1) x (by
       unfold cS;rw [if_neg hr]
       cases b<;>simpa using hx)
      rw [<- this]
      congr 1
      omega)
    (fun j x hx=>by
      have:=hl (l+j) x (by
       unfold cL
       cases b with
       | true=>show (dnI hi l++_)[l+j]?=_;rw [Ek (by rw [jL];omega),jL,Nat.add_sub_cancel_left];simpa using hx
       | false=>show (rgI lo l++_)[l+j]?=_;rw [Ek (by rw [aE];omega),aE,Nat.add_sub_cancel_left];simpa using hx)
      rw [<- this]
      congr 1
      omega)
   have cp:cP b lo hi (l::r)=cP (!b) (if b then lo else lo+l+1) (if b then hi - l - 1 else hi) r:=by
    conv=>lhs;unfold cP
    rw [if_neg hr];cases b<;>rfl
   refine ⟨?_,?_⟩
   ·unfold cT
    rw [if_neg hr,Ec,here,DE,ih.1]
    show _++((N k - N (k+1)).natAbs:Int)::_=_
    rw [hk,nxt,er,show l+1+rem r=l+(rem r+1) by omega,vM,Af]
    congr 2
    ·rw [er] at e
     split<;>omega
    ·congr 1
     omega
   ·intro t ht
    unfold cT at ht;rw [if_neg hr] at ht;have bnd2:=vS r (!b) (if b then lo else lo+l+1) (if b then hi - l - 1 else hi) hr (by rw [er] at e;cases b<;>simp<;>omega);rw [cp];rw [er] at e
    rcases DG.mp ht with ht | ht
    ·obtain ⟨x,hx,rfl⟩:=Ev.mp ht
     obtain ⟨h1,h2⟩:=bI.mp hx;have hx2:=legN (x - fr).toNat (by omega);rw [show fr+((x - fr).toNat:Nat)=x by omega] at hx2
     show min (N k) (N x)<=_/\_ < max (N k) (N x)
     rw [hk,hx2]
     cases b<;>simp at bnd2 ⊢ <;> omega
    ·rcases Dz.mp ht with rfl | ht
     ·show min (N k) (N (k+1))<=_/\_ < max (N k) (N (k+1))
      rw [hk,nxt]
      cases b<;>simp at bnd2 ⊢ <;> omega
     ·exact ih.2 t ht
theorem uQ:∀ (legs:List Nat) (k fr:Int),legs≠[]->((cT k fr legs).map Prod.snd).Perm (rgI (k+1) (legs.length - 1)++rgI fr legs.sum)
 | [],_,_,h=>absurd rfl h
 | l::r,k,fr,_=>by
  have e0:((rgI fr l).map (fun x=>(k,x))).map Prod.snd=rgI fr l:=by rw [Eb];exact (Ed fun x _=>rfl).trans (List.map_id' _)
  unfold cT
  by_cases hr:r=[]
  ·subst hr
   rw [if_pos rfl,DW,e0];simp [rgI]
  ·have:=DS.mpr hr
   rw [if_neg hr,Ec,e0,DE,Dq,EM,lx,show r.length+1 - 1=(r.length - 1)+1 by omega,gs];have ih:=uQ r (k+1) (fr+l) hr
   show (rgI fr l++(k+1)::(cT (k+1) (fr+l) r).map Prod.snd).Perm ((k+1)::rgI (k+1+1) (r.length - 1)++(rgI fr l++rgI (fr+(l:Nat)) r.sum))
   rw [Fa];intro a;have:=Fa.mp ih a;simp only [List.count_append,List.count_cons] at this ⊢;omega
theorem As{legs:List Nat}(h:legs≠[])(k fr:Int):(cT k fr legs).length=rem legs:=by
 have:=(uQ legs k fr h).length_eq;rw [Do,DI,aE,aE] at this;have:=DS.mpr h;unfold rem;omega
theorem uR:∀ (legs:List Nat) (k fr:Int),k+legs.length<=fr->∀ t∈cT k fr legs,k<=t.1/\t.1 < k+legs.length/\t.1 < t.2/\t.2 < fr+legs.sum
 | [],_,_,_,t,ht=>by unfold cT at ht;exact absurd ht EI
 | l::r,k,fr,hf,t,ht=>by
  rw [Dq] at hf ⊢;rw [EM];unfold cT at ht
  rcases DG.mp ht with ht | ht
  ·obtain ⟨x,hx,rfl⟩:=Ev.mp ht
   obtain ⟨h1,h2⟩:=bI.mp hx
   show k<=k/\k < _/\k < x/\x < _
   omega
  ·split at ht
   ·exact absurd ht EI
   ·rename_i hr
    have:=DS.mpr hr
    rcases Dz.mp ht with rfl | ht
    ·show k<=k/\k < _/\k < k+1/\k+1 < _
     omega
    ·have:=uR r (k+1) (fr+l) (by omega) t ht
     omega
noncomputable def cN(legs:List Nat):List Int:=(0::cS true 1 (rem legs:Nat) legs)++cL true 1 (rem legs:Nat) legs
theorem vT{legs:List Nat}(h:legs≠[]):(cN legs).Perm (rgI 0 (rem legs+1)):=by
 unfold cN;rw [gs,Ef];exact (nG legs true 1 _ h (by omega)).cons 0
theorem cN_len{legs:List Nat}(h:legs≠[]):(cN legs).length=rem legs+1:=by rw [(vT h).length_eq,aE]
theorem vH{l:List Int}{i:Nat}{x:Int}(h:l[i]?=some x):l.getD i 0=x:=by rw [DP,h];rfl
theorem Au{legs:List Nat}(h:legs≠[]):(cT 0 (legs.length:Nat) legs).map (fun t=>(((cN legs).getD t.1.toNat 0 - (cN legs).getD t.2.toNat 0).natAbs:Int))=dnI (rem legs:Nat) (rem legs)/\∀ t∈cT 0 (legs.length:Nat) legs,min ((cN legs).getD t.1.toNat 0) ((cN legs).getD t.2.toNat 0)<=cP true 1 (rem legs:Nat) legs/\cP true 1 (rem legs:Nat) legs < max ((cN legs).getD t.1.toNat 0) ((cN legs).getD t.2.toNat 0):=by
 have hl:=DS.mpr h;refine pk (fun i=>(cN legs).getD i.toNat 0) legs true 1 (rem legs:Nat) 0 (legs.length:Nat) h (by omega) rfl (fun j x hx=> ?_) (fun j x hx=> ?_)
 ·refine vH ?_
  rw [show ((0:Int)+1+(j:Nat)).toNat=j+1 by omega];unfold cN;rw [DQ (by rw [Dq,nL];have:=(DA.mp hx).1;rw [nL] at this;omega),DR];exact hx
 ·refine vH ?_
  rw [show ((legs.length:Int)+(j:Nat)).toNat=legs.length+j by omega];unfold cN
  have e:(0::cS true 1 (rem legs:Nat) legs).length=legs.length:=by rw [Dq,nL];omega
  rw [Ek (by rw [e];omega),e,Nat.add_sub_cancel_left];exact hx
noncomputable def rS(b:Bool)(lo hi:Int)(r:List Nat):List Int:=if r=[] then [] else if b then lo::cS true (lo+1) hi r else hi::cS false lo (hi - 1) r
noncomputable def rL(b:Bool)(lo hi:Int)(r:List Nat):List Int:=if b then cL true (lo+1) hi r else cL false lo (hi - 1) r
theorem rS_t(lo hi:Int)(l:Nat)(r:List Nat):rS true lo hi (l::r)=lo::rS false (lo+1) (hi - (l:Nat)) r:=by
 unfold rS;rw [if_neg (by simp)]
 by_cases hr:r=[]
 ·subst hr;rfl
 ·rw [if_neg hr]
  show lo::cS true (lo+1) hi (l::r)=lo::((hi - (l:Nat))::cS false (lo+1) (hi - (l:Nat) - 1) r)
  rw [cS,if_neg hr];rfl
theorem rS_f(lo hi:Int)(l:Nat)(r:List Nat):rS false lo hi (l::r)=hi::rS true (lo+(l:Nat)) (hi - 1) r:=by
 unfold rS;rw [if_neg (by simp)]
 by_cases hr:r=[]
 ·subst hr;rfl
 ·rw [if_neg hr]
  show hi::cS false lo (hi - 1) (l::r)=hi::((lo+(l:Nat))::cS true (lo+(l:Nat)+1) (hi - 1) r)
  rw [cS,if_neg hr];rfl
theorem rL_t(lo hi:Int)(l:Nat)(r:List Nat):rL true lo hi (l::r)=dnI hi l++rL false (lo+1) (hi - (l:Nat)) r:=rfl
theorem rL_f(lo hi:Int)(l:Nat)(r:List Nat):rL false lo hi (l::r)=rgI lo l++rL true (lo+(l:Nat)) (hi - 1) r:=rfl
theorem De{legs:List Nat}(h:legs≠[]):rS true 0 (rem legs:Nat) legs++rL true 0 (rem legs:Nat) legs=cN legs:=by
 unfold rS rL cN;rw [if_neg h];rfl
end L2
namespace L2
theorem fG{α β:Type}{f:α->β}:∀ {l:List α},l.Nodup->(∀ x∈l,∀ y∈l,f x=f y->x=y)->(l.map f).Nodup
 | [],_,_=>FH
 | x::l,nd,h=>by
  have nd:=Er.mp nd;rw [DE,Er];refine ⟨fun z=> ?_,fG nd.2 fun a ha b hb=>h a (Dr _ ha) b (Dr _ hb)⟩;obtain ⟨y,hy,e⟩:=Ev.mp z;have:=h y (Dr _ hy) x Dv e;subst this;exact nd.1 hy
abbrev stG(ps:List Int)(t:Int×Int):Int:=((ps.getD t.1.toNat 0 - ps.getD t.2.toNat 0).natAbs:Nat)
structure Prt(ts:List (Int×Int))(q:Nat)(ps:List Int)(P:Int):Prop where
 p:ps.Perm (rgI 0 (q+1))
 s:(ts.map (stG ps)).Perm (rgI 1 q)
 m:∀ t∈ts,min (ps.getD t.1.toNat 0) (ps.getD t.2.toNat 0)<=P/\P < max (ps.getD t.1.toNat 0) (ps.getD t.2.toNat 0)
 r:∀ t∈ts,0<=t.1/\t.1 < (q:Int)+1/\0<=t.2/\t.2 < (q:Int)+1
 q0:0 < q
theorem Prt.len{ts:List (Int×Int)}{q:Nat}{ps:List Int}{P:Int}(h:Prt ts q ps P):ps.length=q+1:=by rw [h.p.length_eq,aE]
theorem Prt.tlen{ts:List (Int×Int)}{q:Nat}{ps:List Int}{P:Int}(h:Prt ts q ps P):ts.length=q:=by have:=h.s.length_eq;rwa [Do,aE] at this
theorem Cj{legs:List Nat}(h0:0 < rem legs)(h:legs≠[]):Prt (cJ (cT 0 (legs.length:Nat) legs)) (rem legs) (cN legs) (cP true 1 (rem legs:Nat) legs):=by
 obtain ⟨s1,s2⟩:=Au h;have pm:=fF (cT 0 (legs.length:Nat) legs);refine ⟨vT h,(pm.map _).trans ?_,fun t ht=>s2 t (pm.mem_iff.mp ht),fun t ht=> ?_,h0⟩
 ·refine (Fi s1).trans ?_
  have:=jK (rem legs:Nat) (rem legs);rw [show ((rem legs:Nat):Int) - (rem legs:Nat)+1=1 by omega] at this;exact this
 ·have:=uR legs 0 (legs.length:Nat) (by omega) t (pm.mem_iff.mp ht)
  unfold rem;have:=DS.mpr h;omega
end L2
namespace L2
theorem rW{a b:List (Int×Int)}(h:a.Perm b):cJ a=cJ b:=by
 unfold cJ;rw [Srt.bB (Srt.dg _) (Srt.dg _) ((Srt.cn _).trans ((h.map _).trans (Srt.cn _).symm))]
abbrev iL(legs:List Nat):List Int:=legs.map fun (n:Nat)=>(n:Int)
theorem pU:∀ legs:List Nat,(iL legs).sum=((legs.sum:Nat):Int)
 | []=>rfl
 | l::r=>by show ((l:Nat):Int)+(iL r).sum=_;rw [pU r,EM];omega
noncomputable def stT(k fr:Int):List Nat->List (Int×Int)
 | []=>[]
 | l::r=>(rgI fr l).map (fun x=>(k,x))++stT (k+1) (fr+l) r
noncomputable def iJ(a:Int)(n:Nat):List (Int×Int):=(rgI a n).map fun p=>(p,p+1)
theorem Dd:∀ (legs:List Nat) (k fr:Int),legs≠[]->(iJ k (legs.length - 1)++stT k fr legs).Perm (cT k fr legs)
 | [],_,_,h=>absurd rfl h
 | l::r,k,fr,_=>by
  unfold cT stT
  by_cases hr:r=[]
  ·subst hr
   rw [if_pos rfl,DW];simp [iJ,stT,rgI]
  ·have:=DS.mpr hr
   rw [if_neg hr,Dq,show r.length+1 - 1=(r.length - 1)+1 by omega];have ih:=Dd r (k+1) (fr+l) hr
   have e:iJ k ((r.length - 1)+1)=(k,k+1)::iJ (k+1) (r.length - 1):=by unfold iJ;rw [gs,DE]
   rw [e];rw [Fa];intro a;have:=Fa.mp ih a;simp only [List.count_append,List.count_cons] at this ⊢;omega
noncomputable def spT(legs:List Nat):List (Int×Int):=iJ 0 (legs.length - 1)++stT 0 (legs.length:Nat) legs
theorem lT{legs:List Nat}(h:legs≠[]):(spT legs).Perm (cT 0 (legs.length:Nat) legs):=Dd legs 0 _ h
noncomputable def jp(n:Nat):List (Int×Int):=iJ 0 (n - 1)++[(0,(n:Int) - 1)]
noncomputable def gm(m n:Nat):List (Int×Int):=(rgI 0 m).flatMap fun p=>(rgI (m:Nat) n).map fun x=>(p,x)
structure cb(n:Nat)(ts:List (Int×Int)):Prop where
 r:∀ t∈ts,0<=t.1/\t.1 < t.2/\t.2 < n
 d:ts.Nodup
 l:ts.length<=60
 n0:1<=n
 n:n<=40
theorem jv{α β:Type}{f:α->β}:∀ {l:List α},(l.map f).Nodup->l.Nodup
 | [],_=>FH
 | x::l,h=>by
  rw [DE] at h;have h:=Er.mp h;exact Er.mpr ⟨fun z=>h.1 (Ev.mpr ⟨x,z,rfl⟩),jv h.2⟩
theorem cb.perm{n:Nat}{a b:List (Int×Int)}(h:cb n a)(p:a.Perm b):cb n b:=⟨fun t ht=>h.r t (p.mem_iff.mpr ht),p.nodup_iff.mp h.d,by rw [<- p.length_eq];exact h.l,h.n0,h.n⟩
theorem sp_ok{legs:List Nat}(h:legs≠[])(m:legs.length+legs.sum<=40):cb (legs.length+legs.sum) (spT legs):=by
 have hl:=DS.mpr h;refine cb.perm ⟨fun t ht=> ?_,?_,?_,by omega,m⟩ (lT h).symm
 ·have:=uR legs 0 (legs.length:Nat) (by omega) t ht
  omega
 ·refine jv (f:=Prod.snd) ((uQ legs 0 _ h).nodup_iff.mpr ?_)
  rw [FF];refine ⟨du _ _,du _ _,fun a ha b hb=> ?_⟩;have:=bI.mp ha;have:=bI.mp hb;omega
 ·rw [As h];unfold rem;omega
noncomputable def lr(n:Nat)(ts:List (Int×Int)):Bool:=ts.all (fun t=>decide (0<=t.1)&&decide (t.1 < t.2)&&decide (t.2 < (n:Int)))&&decide ts.Nodup&&decide (ts.length<=60)&&decide (1<=n)&&decide (n<=40)
theorem oF{n:Nat}{ts:List (Int×Int)}(h:lr n ts=true):cb n ts:=by
 unfold lr at h;simp only [DK,Eo,DJ] at h;obtain ⟨⟨⟨⟨h1,h2⟩,h3⟩,h4⟩,h5⟩:=h;exact ⟨fun t ht=>⟨(h1 t ht).1.1,(h1 t ht).1.2,(h1 t ht).2⟩,h2,h3,h4,h5⟩
theorem tW(m n:Nat):(gm m n).length=m * n:=by
 have:∀ i:Nat,((rgI 0 i).flatMap fun p=>(rgI (m:Nat) n).map fun x=>(p,x)).length=i * n:=by
  intro i
  induction i with
  | zero=>simp [rgI]
  | succ i ih=>rw [bN,Fq,DI,ih];simp [aE,Nat.add_mul]
 exact this m
theorem zl:∀ {legs:List Nat} {m:Nat},legs.sum<=m->∀ l∈legs,l<=m
 | [],_,_,_,h=>absurd h EI
 | x::r,m,hs,l,h=>by
  rw [EM] at hs
  rcases Dz.mp h with rfl | h
  ·omega
  ·exact zl (legs:=r) (by omega) l h
noncomputable def lP:List Nat->List Nat
 | []=>[]
 | l::r=>if 40 < (l::r).length+(l::r).sum then lP r else l::r
theorem u4:∀ {legs:List Nat},legs≠[]->(∀ l∈legs,l<=39)->lP legs≠[]/\(lP legs).length+(lP legs).sum<=40
 | [],h,_=>absurd rfl h
 | l::r,_,hb=>by
  unfold lP
  split
  ·rename_i h
   by_cases hr:r=[]
   ·subst hr
    have:=hb l Dv;simp at h;omega
   ·exact u4 hr fun x hx=>hb x (Dr _ hx)
  ·rename_i h
   exact ⟨by simp,by omega⟩
theorem vB{m:Nat}:∀ (ys:List D),(∀ y∈ys,∃ n:Nat,n<=m/\y = .int (n:Nat))->∃ legs:List Nat,ys=nD (iL legs)/\legs.length=ys.length/\∀ l∈legs,l<=m
 | [],_=>⟨[],rfl,rfl,fun _ h=>absurd h EI⟩
 | y::ys,h=>by
  obtain ⟨n,hn,rfl⟩:=h _ Dv
  obtain ⟨legs,rfl,e,hl⟩:=vB ys fun y hy=>h y (Dr _ hy)
  exact ⟨n::legs,rfl,by rw [Dq,Dq,e],fun l hl'=>by
   rcases Dz.mp hl' with rfl | hl'
   ·exact hn
   ·exact hl l hl'⟩
theorem pick6{d:Int}(h0:0<=d)(h1:d < 6):∃ n:Nat,n<=3/\gIx [.lst [.int 0,.int 0,.int 1,.int 2,.int 0,.int 3],.int d]=some (.int (n:Nat),false):=by
 obtain rfl | rfl | rfl | rfl | rfl | rfl:d=0\/d=1\/d=2\/d=3\/d=4\/d=5:=by omega
 ·exact ⟨0,by omega,rfl⟩
 ·exact ⟨0,by omega,rfl⟩
 ·exact ⟨1,by omega,rfl⟩
 ·exact ⟨2,by omega,rfl⟩
 ·exact ⟨0,by omega,rfl⟩
 ·exact ⟨3,by omega,rfl⟩
theorem pickL{d:Int}(h0:0<=d)(h1:d < 6):∃ legs:List Nat,(legs≠[]/\legs.length<=40/\∀ l∈legs,l<=39)/\gIx [.lst [.lst (nD (List.replicate (40:Int).toNat 0)),.lst [.int 39],.lst (nD (List.replicate (20:Int).toNat 0++[19])),.lst (nD (List.replicate (20:Int).toNat 1)),.lst [.int 9,.int 9,.int 9,.int 9],.lst [.int 0]],.int d]=some (.lst (nD (iL legs)),false):=by
 obtain rfl | rfl | rfl | rfl | rfl | rfl:d=0\/d=1\/d=2\/d=3\/d=4\/d=5:=by omega
 ·exact ⟨List.replicate 40 0,⟨by decide,by decide,by decide⟩,rfl⟩
 ·exact ⟨[39],⟨by decide,by decide,by decide⟩,rfl⟩
 ·exact ⟨List.replicate 20 0++[19],⟨by decide,by decide,by decide⟩,rfl⟩
 ·exact ⟨List.replicate 20 1,⟨by decide,by decide,by decide⟩,rfl⟩
 ·exact ⟨[9,9,9,9],⟨by decide,by decide,by decide⟩,rfl⟩
 ·exact ⟨[0],⟨by decide,by decide,by decide⟩,rfl⟩
theorem Ak(x:Nat)(r:List Nat):uq [.lst (nD (iL (x::r))),.int 1]=some (.lst (nD (iL r)),true):=by
 show some (D.lst (kl (nD (iL (x::r))) (some 1) none),true)=_
 have:=cut_hi (l:=nD (iL (x::r))) (n:=1) (by simp);rw [show (some (1:Int))=some ((1:Nat):Int) from rfl,this];rfl
end L2
namespace L2
noncomputable def kg(m n:Nat):List (Int×Int):=(rgI 0 (m * n)).map fun k=>(k / (n:Nat),(m:Int)+k % (n:Nat))
noncomputable def sdN(m n:Nat):List Int:=rgI 0 m++(rgI 0 n).map fun k=>(m:Int) * (k+1)
noncomputable def sdB(m n:Nat):Bool:=decide (cJ (gm m n)=kg m n)&&decide (eY ((kg m n).map fun t=>max ((sdN m n).getD t.1.toNat 0) ((sdN m n).getD t.2.toNat 0) - min ((sdN m n).getD t.1.toNat 0) ((sdN m n).getD t.2.toNat 0))=rgI 1 (m * n))&&decide (jy ((kg m n).map fun t=>min ((sdN m n).getD t.1.toNat 0) ((sdN m n).getD t.2.toNat 0)) < kb ((kg m n).map fun t=>max ((sdN m n).getD t.1.toNat 0) ((sdN m n).getD t.2.toNat 0)))
noncomputable def CD:Bool:=(List.range 40).all fun m=>(List.range 40).all fun n=>(decide (m=0)||decide (n=0)||decide (40 < m+n)||decide (60 < m * n))||sdB m n
theorem sd_all:CD=true:=by decide +kernel
theorem CC{m n:Nat}(h1:1<=m)(h2:1<=n)(h3:m+n<=40)(h4:m * n<=60):sdB m n=true:=by
 have h:=sd_all;unfold CD at h;have h:=DJ.mp h m (Et.mpr (by omega));have h:=DJ.mp h n (Et.mpr (by omega))
 rcases (FE _ _).mp h with h | h
 ·simp only [FE,Eo] at h
  omega
 ·exact h
theorem vC{m n:Nat}(h2:1<=n):∀ t∈kg m n,0<=t.1/\t.1 < m/\(m:Int)<=t.2/\t.2 < (m:Int)+n:=fun t ht=>by
 obtain ⟨k,hk,rfl⟩:=Ev.mp ht;have hk:=bI.mp hk;have e:((m * n:Nat):Int)=(m:Int) * n:=Int.natCast_mul m n;have h1:k / (n:Int) < m:=Int.ediv_lt_of_lt_mul (by omega) (by omega);have h3:=Int.emod_nonneg k (b:=(n:Int)) (by omega);have h4:=Int.emod_lt_of_pos k (b:=(n:Int)) (by omega);have h5:0<=k / (n:Int):=Int.ediv_nonneg (by omega) (by omega);exact ⟨h5,h1,by show (m:Int)<=m+k % n;omega,by show (m:Int)+k % n < _;omega⟩
theorem ui{m n:Nat}(h2:1<=n):(kg m n).Nodup:=by
 refine fG (du _ _) fun x _ y _ e=> ?_
 injection e with e1 e2
 have h1:=Int.mul_ediv_add_emod x n;have h2:=Int.mul_ediv_add_emod y n;rw [e1] at h1;omega
theorem jz(m n:Nat):(kg m n).length=m * n:=by unfold kg;rw [Do,aE]
theorem AX{m n:Nat}(h1:1<=m)(h2:1<=n)(h3:m+n<=40)(h4:m * n<=60):cJ (gm m n)=kg m n/\cb (m+n) (gm m n):=by
 have h:=CC h1 h2 h3 h4;unfold sdB at h;simp only [DK,Eo] at h;refine ⟨h.1.1,cb.perm ⟨fun t ht=> ?_,ui h2,by rw [jz];exact h4,by omega,h3⟩ (by rw [<- h.1.1];exact fF _)⟩;have:=vC h2 t ht;omega
end L2
namespace L2
structure Nm(n:Nat)(ts:List (Int×Int))(ps:List Int):Prop where
 r:∀ t∈ts,0<=t.1/\t.1 < n/\0<=t.2/\t.2 < n
 l:ts.length < 62
 nl:n<=40
 n0:0 < n
 pl:ps.length=n
 d:(dd ps).length=n
 lo:0<=kb ps
 hi:jy ps<=ts.length
 s:eY (ts.map fun t=>max (ps.getD t.1.toNat 0) (ps.getD t.2.toNat 0) - min (ps.getD t.1.toNat 0) (ps.getD t.2.toNat 0))=rgI 1 ts.length
theorem Prt.nm{ts:List (Int×Int)}{q:Nat}{ps:List Int}{P:Int}(h:Prt ts q ps P)(hq:q+1<=40):Nm (q+1) ts ps:=by
 have tl:=h.tlen;have ne:ps≠[]:=Fm (by rw [h.len];omega);refine ⟨fun t ht=> ?_,by omega,hq,by omega,h.len,by rw [jM (h.p.nodup_iff.mpr (du _ _)),h.len],?_,?_,?_⟩
 ·have:=h.r t ht
  omega
 ·have:=bI.mp (h.p.mem_iff.mp (jw ne).1)
  omega
 ·have:=bI.mp (h.p.mem_iff.mp (jx ne).1)
  omega
 ·rw [tl]
  refine wF (List.Perm.trans (Fi (Ed fun t ht=> ?_)) h.s)
  show _=(((ps.getD t.1.toNat 0 - ps.getD t.2.toNat 0).natAbs:Nat):Int)
  omega
theorem pW(m n:Nat):(sdN m n).length=m+n:=by unfold sdN;rw [DI,Do,aE,aE]
theorem u7{m n:Nat}{x:Int}(hx:x∈sdN m n)(h1:1<=m)(h2:1<=n):0<=x/\x<=((m * n:Nat):Int):=by
 unfold sdN at hx;have e:((m * n:Nat):Int)=(m:Int) * n:=Int.natCast_mul m n
 rcases DG.mp hx with hx | hx
 ·have:=bI.mp hx
  have:(m:Int) * 1<=(m:Int) * n:=FM (by omega) (by omega);omega
 ·obtain ⟨k,hk,rfl⟩:=Ev.mp hx
  have hk:=bI.mp hk;have h3:(m:Int) * (k+1)<=(m:Int) * n:=FM (by omega) (by omega);have h4:0<=(m:Int) * (k+1):=Int.mul_nonneg (by omega) (by omega);omega
theorem wc{m n:Nat}(h1:1<=m):(sdN m n).Nodup:=by
 unfold sdN;rw [FF];refine ⟨du _ _,fG (du _ _) fun x _ y _ e=> ?_,fun a ha b hb=> ?_⟩
 ·have:=Int.eq_of_mul_eq_mul_left (by omega:(m:Int)≠0) e
  omega
 ·obtain ⟨k,hk,rfl⟩:=Ev.mp hb
  have hk:=bI.mp hk;have ha:=bI.mp ha;have:(m:Int) * 1<=(m:Int) * (k+1):=FM (by omega) (by omega);omega
theorem sd_nm{m n:Nat}(h1:1<=m)(h2:1<=n)(h3:m+n<=40)(h4:m * n<=60):Nm (m+n) (kg m n) (sdN m n)/\jy ((kg m n).map fun t=>min ((sdN m n).getD t.1.toNat 0) ((sdN m n).getD t.2.toNat 0)) < kb ((kg m n).map fun t=>max ((sdN m n).getD t.1.toNat 0) ((sdN m n).getD t.2.toNat 0)):=by
 have h:=CC h1 h2 h3 h4;unfold sdB at h;simp only [DK,Eo] at h;have ne:sdN m n≠[]:=Fm (by rw [pW];omega);refine ⟨⟨fun t ht=> ?_,by rw [jz];omega,h3,by omega,pW m n,by rw [jM (wc h1),pW],(u7 (jw ne).1 h1 h2).1,by rw [jz];exact (u7 (jx ne).1 h1 h2).2,by rw [jz];exact h.1.2⟩,h.2⟩;have:=vC h2 t ht;omega
noncomputable def A6:Bool:=(List.range 38).all fun n=>lr (n+3) (jp (n+3))
theorem yf:A6=true:=by decide +kernel
theorem oP{n:Nat}(h1:3<=n)(h2:n<=40):lr n (jp n)=true:=by
 have:=DJ.mp yf (n - 3) (Et.mpr (by omega));rw [show n - 3+3=n by omega] at this;exact this
end L2
namespace L2
noncomputable def fU(n:Nat):List Int:=(rgI 0 n).map fun p=>if decide (p % 2=0)=true then p / 2+(if decide ((n:Int) % 4=3)=true then (if decide ((n:Int) / 2<=p)=true then 1 else 0) else 0) else (n:Int) - p / 2 - (if decide ((n:Int) % 4=0)=true then (if decide ((n:Int) / 2<=p)=true then 1 else 0) else 0)
noncomputable def lawR(n:Nat):List (Int×Int):=(rgI 0 n).flatMap fun one=>((rgI 0 one.toNat).filter fun other=>decide (other+1=one)||decide (one - other=(n:Int) - 1)).map fun other=>(other,one)
noncomputable def wR(n:Nat)(ts:List (Int×Int)):List Int:=(List.range n).map fun j=>((Td.nb (j:Nat) ts).length:Int)
noncomputable def bR(n:Nat):List (Int×Int):=(0,1)::(0,(n:Int) - 1)::iJ 1 (n - 2)
noncomputable def rM(n:Nat):Bool :=
 decide (cJ (jp n)=bR n)&&decide (cJ (lawR n)=bR n) &&
 (if n % 4=0\/n % 4=3 then
   decide ((dd (fU n)).length=n)&&decide (0<=kb (fU n))&&decide (jy (fU n)<=n)&&decide (eY ((bR n).map fun t=>max ((fU n).getD t.1.toNat 0) ((fU n).getD t.2.toNat 0) - min ((fU n).getD t.1.toNat 0) ((fU n).getD t.2.toNat 0))=rgI 1 n)
 else (wR n (bR n)).all (fun c=>decide (c % 2=0))&&decide ((n:Int) * ((n:Int)+1) / 2 % 2=1))
noncomputable def ringGo:Bool:=(List.range 38).all fun n=>rM (n+3)
theorem A5:ringGo=true:=by decide +kernel
theorem p9{n:Nat}(h1:3<=n)(h2:n<=40):rM n=true:=by
 have:=DJ.mp A5 (n - 3) (Et.mpr (by omega));rw [show n - 3+3=n by omega] at this;exact this
theorem dq{n:Nat}(h:3<=n):(bR n).length=n:=by unfold bR iJ;simp [aE];omega
theorem wg{n:Nat}(h:3<=n):∀ t∈bR n,0<=t.1/\t.1 < t.2/\t.2 < (n:Int):=fun t ht=>by
 unfold bR iJ at ht
 rcases Dz.mp ht with rfl | ht
 ·show (0:Int)<=0/\(0:Int) < 1/\(1:Int) < n;omega
 ·rcases Dz.mp ht with rfl | ht
  ·show (0:Int)<=0/\(0:Int) < (n:Int) - 1/\(n:Int) - 1 < n;omega
  ·obtain ⟨p,hp,rfl⟩:=Ev.mp ht
   have:=bI.mp hp
   show 0<=p/\p < p+1/\p+1 < (n:Int)
   omega
theorem t5{n:Nat}(h1:3<=n)(h2:n<=40):cJ (jp n)=bR n/\cJ (lawR n)=bR n:=by
 have h:=p9 h1 h2;unfold rM at h;simp only [DK,Eo] at h;exact h.1
theorem A4{n:Nat}(h1:3<=n)(h2:n<=40)(h3:n % 4=0\/n % 4=3):Nm n (bR n) (fU n):=by
 have h:=p9 h1 h2;unfold rM at h;rw [if_pos h3] at h;simp only [DK,Eo] at h;obtain ⟨_,⟨⟨a,b⟩,c⟩,d⟩:=h;refine ⟨fun t ht=> ?_,by rw [dq h1];omega,h2,by omega,by unfold fU;rw [Do,aE],a,b,by rw [dq h1];exact c,by rw [dq h1];exact d⟩;have:=wg h1 t ht;omega
theorem ye{n:Nat}(h1:3<=n)(h2:n<=40)(h3:¬ (n % 4=0\/n % 4=3)):(wR n (bR n)).all (fun c=>decide (c % 2=0))=true/\(n:Int) * ((n:Int)+1) / 2 % 2=1:=by
 have h:=p9 h1 h2;unfold rM at h;rw [if_neg h3] at h;simp only [DK,Eo] at h;exact h.2
theorem oW:∀ ts:List (Int×Int),Td.iP (tD ts)=some ts
 | []=>rfl
 | t::ts=>by
  show (match Td.vz (xH t),Td.iP (tD ts) with | some p,some ps=>some (p::ps) | _,_=>none)=_
  rw [oW ts];rfl
theorem zI{n:Nat}{ts:List (Int×Int)}(O:cb n ts):Td.sy (n:Nat) ts=true:=by
 unfold Td.sy;have a:=O.n0;have b:=O.n;rw [DF (show (1:Int)<=(n:Nat) by omega),DF (show ((n:Nat):Int)<=40 by omega),DF O.l,DF O.d];simp only [Fj,EW,DJ];intro t ht;have:=O.r t ht;rw [DF this.1,DF this.2.1,DF this.2.2];rfl
theorem AL{n:Nat}{ts:List (Int×Int)}(O:cb n ts):Td.nv [iE (n:Nat) ts]=some (.ok (.lst ((List.range n).map fun j=> .lst (nD (Td.nb (j:Nat) ts)))) false,.non):=by
 unfold Td.nv;simp only [oW,zI O,if_true];rfl
end L2
set_option linter.all false
private def xp(r:Array String):Nat->Char->List Nat
 | 0,_=>[]
 | k+1,c=>let x:=c.toNat;if x < 80 then [x - 33 - (if x < 35 then 0 else 1)] else if 255 < x&&x < 1024 then [x - 210] else (r.getD (if x < 127 then x - 80 - (if x < 93 then 0 else 1) else x - 978) "").toList.flatMap (xp r k)
set_option hygiene false
set_option compiler.extract_closed false
private def ta:Lean.MacroM (Lean.TSyntax `tactic) := `(tactic| (exact .nil;refine .cons ?_ ?_;exact ⟨rfl,rfl,rfl,by decide +kernel,rfl,by decide +kernel,by decide +kernel⟩;(simp only [EF,EG,reduceIte,EO];exact rfl);omega;(with_reducible assumption);exact zL nd rfl (Or.inl rfl);(simp only [bE,cO,xH,DN,DR,EF,EG,List.replicate,Ef,DX,Ep];exact rfl);(with_reducible apply B5 _ _);exact DF (by omega);refine t_eq hu ?_ ?_;exact ⟨rfl,by decide +kernel,by decide +kernel,by decide +kernel,rfl,by decide +kernel,by decide +kernel,by decide +kernel,by decide +kernel⟩;(first | exact Or.inl rfl | exact Or.inr (Or.inl rfl) | exact Or.inr (Or.inr rfl));refine q_eq hu ?_ ?_;exact DO (by omega);refine b_len (m:=T.len) (ha:= ?_);intros;intro x0 hx0;refine g_tup rfl ?_;refine i_rng1 (by rfl) T.range ?_;refine tF ?_ T.isi T.tuple;refine t_ne hu ?_ ?_;(simp only [Dq,EH,List.take_succ_cons,List.take_zero,Ep];exact rfl);(with_reducible apply jE _ _);(simp only [Do,DI,ET,Dq,EH,EB,Ex,aE,List.length_zipIdx,E4,List.length_reverse] at *;omega);refine CF nd rfl (Or.inl rfl) ?_;exact zL (nd_k (by kernel_rfl)) rfl (Or.inl rfl);refine zj _ ?_;refine s_retV rfl ?_;refine b_all (m:=T.all) (ha:= ?_);refine aN (N:=["thing"]) h ?_ fun f cdv A outer s H E hr nd hu hu1=> ?_;refine b_max (m:=T.max) (ha:= ?_);refine Cr (m:=T.sorted) (ha:= ?_);refine b_min (m:=T.min) (ha:= ?_);exact Ar (by rfl) T.MOST_PLACES;(with_reducible apply zU _);(simp only [Bool.not_eq_true',Bool.not_eq_false',Eo,decide_eq_false_iff_not];omega);decide;(simp only [Ef,DX];exact rfl);refine b_sum (m:=T.sum) (ha:= ?_);refine CF nd rfl (Or.inr rfl) ?_;refine s_for rfl ?_ ?_ ?_;refine i_enum (by rfl) T.enumerate ?_;refine Cq (m:=T.tuple) (ha:= ?_);refine b_int (m:=T.int) (ha:= ?_);refine aN (N:=["n"]) h ?_ fun f cdv A outer s H E hr nd hu hu1=> ?_;refine t_in hu ?_ ?_;(simp only [ini,iX,Dq,EH,List.replicate,Ef,DX,DW,Nat.reduceSub,FI,Nat.reduceAdd,Ep,reduceCtorEq,reduceIte,Option.some.injEq,Nat.reduceEqDiff,Nat.zero_ne_one,Nat.one_ne_zero];exact rfl);(simp only [jW];exact rfl);unfold ji;refine xt ?_ T.isi T.int;refine uS ?_ T.isi T.bool;refine aN (N:=["kind", "word"]) h ?_ fun f cdv A outer s H E hr nd hu hu1=> ?_;refine i_rng2 (by rfl) T.range ?_;refine dN (M:=["legs", "low", "high", "row", "further", "place", "leg"]) (tgs:=["k"]) rfl ?_ ?_ ?_ ?_ ?_;refine jd.ok (osc:=ah (top 47)) (N:=["legs", "low", "high", "row", "further", "place", "leg"]) ?_;refine xY zx nd rfl (Or.inr rfl) ?_;refine xY ip_sub nd rfl (Or.inr rfl) ?_;refine Ct (m:=T.list) (ha:= ?_);refine Cs (m:=T.range) (ha:= ?_);refine aN (N:=["web"]) h ?_ fun f cdv A outer s H E hr nd hu hu1=> ?_;refine aN (N:=["kind"]) h ?_ fun f cdv A outer s H E hr nd hu hu1=> ?_;exact xW R_NoKind hr (by rfl);refine s_item ?_ ?_ rfl ?_;refine q_in hu ?_ ?_;refine jd.ok (osc:=ah (top 61)) (N:=["web", "thing", "steps"]) ?_;refine aN (N:=["many", "thing"]) h ?_ fun f cdv A outer s H E hr nd hu hu1=> ?_;refine c_sl10 xT os_s10 ?_ ?_;refine c_dget hu1 ?_ ?_;refine c_disp ?_ (by simp) (by decide) (by decide);refine .cons (k:= .inr "ring") ?_ ?_;refine .cons (k:= .inr "full") ?_ ?_;refine .cons (k:= .inr "wheel") ?_ ?_;refine .cons (k:= .inr "fan") ?_ ?_;exact Ar (by rfl) T.MOST_TIES;(simp only [Bool.not_eq_true',Bool.not_eq_false',DK,FE,Bool.and_eq_false_iff,Bool.or_eq_false_iff,Eo,decide_eq_false_iff_not];omega);have hy0:=bI.mp hx0;(with_reducible apply wI _);(with_reducible apply zR _);(simp only [eE,DN,DR,EF,EG];exact rfl);unfold u9;unfold u8;refine aN (N:=["first", "last"]) h ?_ fun f cdv A outer s H E hr nd hu hu1=> ?_;refine dN (M:=["first", "last"]) (tgs:=["place"]) rfl ?_ ?_ ?_ ?_ ?_;refine jd.ok (osc:=ah (top 32)) (N:=["first", "last"]) ?_;exact .no;refine aN (N:=["middle", "first", "last"]) h ?_ fun f cdv A outer s H E hr nd hu hu1=> ?_;refine dN (M:=["middle", "first", "last"]) (tgs:=["place"]) rfl ?_ ?_ ?_ ?_ ?_;refine jd.ok (osc:=ah (top 33)) (N:=["middle", "first", "last"]) ?_;refine aN (N:=["legs", "low", "high", "row", "further", "place", "leg"]) h ?_ fun f cdv A outer s H E hr nd hu hu1=> ?_;refine zk _ ?_;refine aN (N:=["m", "n"]) h ?_ fun f cdv A outer s H E hr nd hu hu1=> ?_;refine dN (M:=["m", "n"]) (tgs:=["k"]) rfl ?_ ?_ ?_ ?_ ?_;refine jd.ok (osc:=ah (top 48)) (N:=["m", "n"]) ?_;refine aN (N:=["n", "numbers", "place", "skipped"]) h ?_ fun f cdv A outer s H E hr nd hu hu1=> ?_;refine aN (N:=["script", "k"]) h ?_ fun f cdv A outer s H E hr nd hu hu1=> ?_;refine aN (N:=["seed"]) h ?_ fun f cdv A outer s H E hr nd hu hu1=> ?_;refine aN (N:=["cell", "left"]) h ?_ fun f cdv A outer s H E hr nd hu hu1=> ?_;refine aN (N:=["found"]) h ?_ fun f cdv A outer s H E hr nd hu hu1=> ?_;refine aN (N:=["legs", "ties", "fresh", "place", "leg"]) h ?_ fun f cdv A outer s H E hr nd hu hu1=> ?_;refine aN (N:=["thing", "least", "most"]) h ?_ fun f cdv A outer s H E hr nd hu hu1=> ?_;refine Co yV yV yU yU ?_ ?_ ?_;refine dN (M:=["web"]) (tgs:=["others"]) rfl ?_ ?_ ?_ ?_ ?_;refine jd.ok (osc:=ah (top 21)) (N:=["web"]) ?_;refine aN (N:=["legs", "ties", "further", "place", "leg"]) h ?_ fun f cdv A outer s H E hr nd hu hu1=> ?_;refine xY zx nd rfl (Or.inl rfl) ?_;refine aN (N:=["m", "n", "ties", "place"]) h ?_ fun f cdv A outer s H E hr nd hu hu1=> ?_;refine aN (N:=["n", "ties", "place"]) h ?_ fun f cdv A outer s H E hr nd hu hu1=> ?_;refine aN (N:=["pen", "many", "found"]) h ?_ fun f cdv A outer s H E hr nd hu hu1=> ?_;refine aN (N:=["kind", "many", "ties", "size", "one", "other", "row", "close"]) h ?_ fun f cdv A outer s H E hr nd hu hu1=> ?_;refine dN (M:=["kind", "many", "ties", "size", "one", "other", "row", "close"]) (tgs:=["k"]) rfl ?_ ?_ ?_ ?_ ?_;refine jd.ok (osc:=ah (top 58)) (N:=["kind", "many", "ties", "size", "one", "other", "row", "close"]) ?_;refine aN (N:=["web", "thing", "steps"]) h ?_ fun f cdv A outer s H E hr nd hu hu1=> ?_;refine dN (M:=["web", "thing", "steps"]) (tgs:=["number"]) rfl ?_ ?_ ?_ ?_ ?_;refine b_set (m:=T.set) (ha:= ?_);refine dN (M:=["web", "thing", "steps"]) (tgs:=["a", "b"]) rfl ?_ ?_ ?_ ?_ ?_;refine dN (M:=["thing"]) (tgs:=["leg"]) rfl ?_ ?_ ?_ ?_ ?_;refine jd.ok (osc:=ah (top 28)) (N:=["thing"]) ?_;refine aN (N:=["leasts", "things"]) h ?_ fun f cdv A outer s H E hr nd hu hu1=> ?_;refine dN (M:=["leasts", "things"]) (tgs:=["least", "thing"]) rfl ?_ ?_ ?_ ?_ ?_;refine jd.ok (osc:=ah (top 29)) (N:=["leasts", "things"]) ?_;refine i_zip (by rfl) T.zip ?_;refine aN (N:=["web", "thing", "q"]) h ?_ fun f cdv A outer s H E hr nd hu hu1=> ?_;refine dN (M:=["web", "thing", "q"]) (tgs:=["count"]) rfl ?_ ?_ ?_ ?_ ?_;refine jd.ok (osc:=ah (top 42)) (N:=["web", "thing", "q"]) ?_;refine aN (N:=["pen", "most", "word", "legs", "one", "other", "least", "great", "size"]) h ?_ fun f cdv A outer s H E hr nd hu hu1=> ?_;refine we (M:=["pen", "most", "word", "legs", "one", "other", "least", "great", "size"]) (tgs:=["k"]) rfl ?_ ?_ ?_ ?_ ?_ nd rfl rfl;refine jd.ok (osc:=ah (top 59)) (N:=["pen", "most", "word", "legs", "one", "other", "least", "great", "size"]) ?_;refine dN (M:=["many", "thing"]) (tgs:=["end"]) rfl ?_ ?_ ?_ ?_ ?_;refine jd.ok (osc:=ah (top 18)) (N:=["many", "thing"]) ?_;refine aN (N:=["thing", "word"]) h ?_ fun f cdv A outer s H E hr nd hu hu1=> ?_;refine xr ?_ T.isi T.str;refine t_kin (neg:=true) M_LEAST_NUMBERS (by rfl) ?_ (by rfl);refine c_kget M_LEAST_NUMBERS (by rfl) ?_;refine aN (N:=["web", "bar"]) h ?_ fun f cdv A outer s H E hr nd hu hu1=> ?_;exact c_gk (by rfl) T.STEP_BARS;refine aN (N:=["many", "things", "told", "number", "thing", "tie"]) h ?_ fun f cdv A outer s H E hr nd hu hu1=> ?_;refine s_dput hu1 ?_ ?_ rfl ?_;refine aN (N:=["kind", "web"]) h ?_ fun f cdv A outer s H E hr nd hu hu1=> ?_;refine aN (N:=["kind", "found"]) h ?_ fun f cdv A outer s H E hr nd hu hu1=> ?_;refine aN (N:=["thing", "e"]) h ?_ fun f cdv A outer s H E hr nd hu hu1=> ?_;refine s_try (nms:=nms) rfl rfl ?_ ?_ nd rfl rfl (by rfl) HT SU;refine uP uF G19 hr (by decide) (by rfl) ?_;exact Kd.c_kind GK KN (hr.any.mono (by decide)).mark (by rfl);refine fn_okV (N:=["script", "listed", "kind", "some", "thing", "cell"]) h ?_ fun f cdv A outer s H E hr nd hu hu1=> ?_;refine c_sl11 xT os_s11 ?_;refine Cp nJ G34 hr (by decide) (by rfl) ?_ ?_;skip))
private def tb(k:Nat)(i:Lean.Ident):Lean.MacroM (Lean.TSyntax `tactic):=match k with | 0 => `(tactic| with_reducible apply $i) | 1 => `(tactic| exact $i) | 2 => `(tactic| refine $i ?_) | 3 => `(tactic| refine $i ?_ ?_) | 4 => `(tactic| refine $i ?_ ?_ ?_) | 5 => `(tactic| exact $i _) | 6 => `(tactic| apply $i) | 7 => `(tactic| intro $i:ident) | 8 => `(tactic| refine uP uG $i hr (by decide) (by rfl) ?_) | _ => `(tactic| refine uP nJ $i hr (by decide) (by rfl) ?_)
private def tc:Array (Nat×Lean.Name) := #[(1,`rfl),(0,`r_nilA),(2,`cb_ex),(5,`vb),(0,`r_exM),(0,`CK),(2,`s_one),(0,`r_nilM),(1,`ca_nil),(0,`r_opT),(3,`s_cons),(5,`v),(1,`c_int),(0,`r_ret),(3,`b_add),(0,`r_orF),(1,`s_nil),(6,`Eq.trans),(0,`r_c),(0,`r_call),(2,`c_one),(0,`r_varF),(0,`r_nil),(2,`w_or1),(1,`e),(3,`b_sub),(0,`Bk),(0,`r_lst),(0,`ya),(0,`r_op),(0,`h),(0,`CI),(0,`r_ifT),(0,`CJ),(0,`r_ifF),(0,`r_tru),(0,`r_for),(1,`ln),(1,`f),(1,`g),(3,`w_or),(3,`b_mul),(3,`b_fdiv),(0,`r_tup),(1,`h),(3,`c_and),(1,`c_str),(3,`b_mod),(2,`s_expr),(0,`yh),(0,`Bb),(1,`w),(3,`b_ix),(1,`g_nil),(1,`c_bl),(0,`r_seqI),(0,`vj),(1,`gi),(0,`r_aug),(1,`e0),(1,`hl),(0,`t0),(0,`dX),(0,`Bl),(3,`g_cons),(2,`i_seq),(1,`c_non),(1,`al),(1,`ex),(1,`e2),(0,`xF),(1,`e1),(0,`r_ieI),(1,`q),(0,`r_disp),(0,`Bh),(0,`Bg),(0,`tZ),(1,`r),(0,`t3),(1,`sm),(0,`B6),(0,`r_orT),(1,`f1),(0,`r_orVF),(0,`r_andF),(0,`tDraw),(0,`zO),(0,`zV),(3,`Cm),(2,`JW.t),(2,`c_tup),(4,`c_if),(3,`t_lt),(3,`t_gt),(8,`G6),(9,`G18),(2,`k_tru),(8,`G9),(0,`r_notV),(0,`qF),(1,`sr),(0,`Ba),(1,`st),(0,`r_retO),(0,`r_zipE),(0,`r_seqR),(1,`g1),(1,`g2),(1,`h1),(1,`h2),(1,`h3),(0,`pc),(0,`zP),(0,`xE),(1,`ix),(0,`r_varO),(0,`h1),(0,`h2),(1,`hn),(0,`vW),(1,`ga),(0,`r_andT),(1,`q2),(0,`rq_ret),(1,`hx),(0,`gx),(0,`Be),(2,`c_not),(4,`s_if),(2,`c_lst),(3,`t_ge),(8,`G10),(3,`c_or),(3,`q_gt),(3,`w_and),(2,`w_and1),(8,`G37),(9,`G37),(8,`G3),(1,`s_none),(3,`q_le),(8,`G16),(8,`G1),(8,`G19),(9,`G20),(0,`r_fn),(0,`r_borA),(0,`Bi),(0,`r_not),(1,`mn),(1,`mx),(6,`lp_mk),(0,`tt),(0,`Bf),(1,`up),(0,`tm),(0,`r_dnew),(6,`el_mk),(0,`r_expr),(0,`Bc),(0,`qi),(0,`wL),(1,`hm),(1,`h4),(0,`qE),(1,`mi),(1,`ad),(0,`uv),(0,`fC),(0,`r_fnX),(0,`r_raise),(0,`r_asg),(0,`o9),(1,`mu),(1,`hh),(0,`nr),(0,`w),(0,`ur),(0,`ut),(0,`B7),(0,`sE),(0,`uu),(0,`zT),(1,`s0),(1,`a),(0,`Bd),(1,`b),(0,`r_retF),(1,`m),(1,`md),(0,`r_orV),(5,`Fv),(1,`hi'),(1,`ct),(1,`e'),(0,`vh),(0,`yi),(6,`elA_mk),(0,`wM),(0,`Bj),(0,`tPen),(1,`gz),(1,`p1),(1,`p2),(1,`p3),(1,`p4),(1,`p4'),(1,`p5),(1,`p6),(1,`q1),(1,`q3),(1,`q4),(1,`q5),(1,`q6),(1,`q7),(1,`q8),(1,`q9),(1,`qa),(1,`qb),(1,`qc),(1,`qd),(1,`qe),(1,`qf),(1,`qg),(0,`tCell0),(0,`sG),(0,`uy),(2,`s_ret),(3,`q_ge),(3,`b_pow),(8,`G5),(8,`G32),(8,`G18),(8,`G31),(8,`G30),(3,`s_asg),(8,`G40),(2,`k_not),(9,`G21),(8,`G25),(9,`G9),(3,`AZ),(9,`G4),(8,`G14),(8,`G36),(8,`G24),(8,`G17),(8,`G23),(8,`G12),(8,`G26),(9,`G39),(8,`G15),(1,`Cn),(9,`G8),(3,`t_is),(8,`G11),(8,`G22),(8,`G7),(8,`G13),(8,`G0),(8,`G2),(8,`G29),(8,`G28),(8,`G41),(8,`G38),(3,`b_mulA),(9,`G35),(9,`G33),(9,`G27)]
private def xg(q:Array Lean.Syntax):List Nat->Lean.MacroM (Array (Lean.TSyntax `tactic))
 | []=>return #[]
 | i::l=>do let a <- (match tc[i]? with | some (k,n)=>tb k (Lean.mkIdent n) | none=>pure ⟨q.getD (2 * (i - tc.size)) .missing⟩);let b <- xg q l;return #[a]++b
local macro_rules
 | `(tactic| trace $s:str)=>do
  let q <- ta
  let a <- xg q.raw[1][0][0].getArgs (s.getString.toList.flatMap (xp #["#!", "ī$", "a*", "P!", "sS", "$.", "!ǣ", "[!", "?s", "(ƶ", "ИS", "!!", "CA", "?'", "%$", "b]", "ī%", "3Ťȏ", ",ǹ", "%U", "ĭǡ", "2Y", "И#", "[ǣ", "Ŕǡ", "ґҒ", "5Ё", "ǤǤ", "&M", "?Ѝ", "5s", "Чxі", "Ǣc", ".ǡ", "ť!", "CD", ".Ǡ", "ǢY", "'X", "ИP", "Ćd", "[[", "Ф)", "!8", "ѓ҃", "ǰǺҋ", ",ȉ", "sP", "Āǡ", "$y", "eЂ", "ļB", "ѹZ", "Ҋ*", "b/", ")W", "mЦ", "R*", "$i", "ХĶ!", "+s", "'k", "+є", "&X", ")!", "mФ", "wP", "?И", "-Ǡ", "YĈ", "'4", "ųǧ", "иǪ", "Ѓ$", "/M", "tғ", "wZ", "Ѕҁ", "0d", "0$", "uǠ", "uЩ", "&4", "wx", "ђ)", "'Ɨs", "īU", "ǡЄ", "^=", "Ǯ8", "кT", "'=", "/5", "V]", "tІ8", "Ƃl", "ѻн", "Ї2", "eѼ", "ĒǦ", "Q;", "0_", ",œ", "Z!", "?w", "gǷ", "Ѝ#", "ĀY", "҂л", "ǀҕ", "ҖєS", "űŲ!", "ҘF", "кP", "S[", "+ҍg", "`k", "nZ", "ŔǠ", "(œ", "ĂȺ", "ǳR", "ȋQ", "ЛĀ", "ĀǠ", "**", "Oǭ", "ѽп", "ФФ", "&Ѹ", "wS", "ҏ8", "Ĩl҉", "$ǯ", "Űǧ", "Ҍh", "ђЦ", "їR", "%%", "bр", "҅ĉ", "Ѿ]", "ǱȬј", "Cс", "=)", "ĄЁ", "/<", "҆z", "љН", "+ҙ", "ǥǣ", "'^", "'M", "МФ", "{)", "Ъђњ", "ґҚ", "ЃU", "Ǫ҇", "dU", "Ćќ", "ǫē", "ћU", "d*", "2c", "Ҏѿ", "7!", "+Ѝ", "t1", "К_", "-ǡ", "җJ", "Ūǧ", "҄*", "ŧE", "Ўй", "ŷǤ", "ѓ)", "aШ", "^ă", "мN", "$ā", "ҀЏ", "!ȯ", "Qy", "ǰȵǰ", "ҔĶ", "'n", "$Ĵ", "!S", "D҈", "ѕЙ", "ȱҐ", "ҁ8", "Xx", "ĳ$", "ѺҀ", "иĬ", "VC", "Хо", "ȰҐ"] 99))
  `(tactic| ($[$a];*))
set_option compiler.extract_closed true
set_option hygiene true
namespace K17
open PySem L2 PyProof.Rows
noncomputable def top(i:Nat):Stmt:=PySem.Challenge.pw_tienumbers_k17_steps_made.main.body.getD i (.Pass ⟨0,0,0,0⟩)
noncomputable def gG:D:= .ktup [.ktup [.str "places"],.ktup [.str "even"]]
noncomputable def bi:List Key:=[.inr "ring",.inr "sides",.inr "full",.inr "wheel",.inr "fan"]
noncomputable def bj:List D:=[.ktup [.int 3],.ktup [.int 1,.int 1],.ktup [.int 1],.ktup [.int 3],.ktup [.int 1]]
noncomputable def nms:List Str:=["NoKind"]
structure Txt(K:FZ)(mg:Str->Option Value):Prop where
 ValueError:mg "ValueError" = none
 all:mg "all" = none
 bool:mg "bool" = none
 enumerate:mg "enumerate" = none
 int:mg "int" = none
 isi:mg "isinstance" = none
 len:mg "len" = none
 list:mg "list" = none
 max:mg "max" = none
 min:mg "min" = none
 range:mg "range" = none
 set:mg "set" = none
 sorted:mg "sorted" = none
 str:mg "str" = none
 sum:mg "sum" = none
 tuple:mg "tuple" = none
 zip:mg "zip" = none
 MOST_PLACES:∃ t,mg "MOST_PLACES" = some (.int 40 t)
 MOST_TIES:∃ t,mg "MOST_TIES" = some (.int 60 t)
 STEP_BARS:∃ a,mg "STEP_BARS" = some (.ref a)/\∀ H,aF K H gG (.ref a)
section
variable{P:Program}{w:World}{K:FZ}{mg:Str->Option Value}{base:Heap}
noncomputable def l7:SS:=(aB (bV (sOp (fZ "int") [.bor 0]) (fT (sOp (fZ "bool") [.bor 0]))))
noncomputable def fP:FS:=az 1 1 none l7
abbrev nQ:=OkY "is_whole" ["thing"] 1 none fP
theorem r9(h:Has K mg "is_whole" (top 12) ["thing"])(T:Txt K mg):nQ P w K mg base:=by
 trace "ǾvOȒ%6Œȓ%"
open L2.Td in
theorem pX:cy ["web", "tied", "a", "b"] ["web"] (ah (top 22)):=⟨rfl,rfl,rfl,by decide +kernel,rfl,by decide +kernel,by decide +kernel⟩
open L2.Td in
noncomputable def AY:Scope:={ kind:= .function,names:=[(".0",.local),("place",.local)],isGenerator:=false,isCoroutine:=false,more:=[] }
open L2.Td in
theorem Av:jd (ah (top 22)) ["web", "tied", "a", "b"] AY ["web", "tied", "a", "b"] ["place"]:=⟨rfl,by decide +kernel,by decide +kernel,by decide +kernel,rfl,by decide +kernel,by decide +kernel,by decide +kernel,by decide +kernel⟩
open L2.Td in
theorem BP(h:Has K mg "tied_places" (top 22) ["web"])(T:Txt K mg):Ok P w K mg base "tied_places" ["web"] 1 (xS K):=by
 refine h.ok pX (fun vs H Q E h=> ?_) (fun f cdv A outer s H vs Q E hr h=> ?_)
 ·obtain ⟨wb,many,ties,rfl,_⟩:=h;rfl
 ·obtain ⟨wb,many,ties,rfl,web,m0,m1,q⟩:=h
  obtain ⟨t,bs,h1,h2,h3⟩:=web.at_;have bl:bs.length=ties.length:=Paired.length h3;have lt60:ties.length<=60:=web.len
  refine ⟨_,df (mB (j:=1) (M:=["web", "tied", "a", "b"]) (tgs:=["place"]) rfl Av.ok (oS (by rfl) T.range (aA (oU uk (pv 0) iO (fun _ _=>rfl)) ck))
   (fun cl C fp s H=>lD (i:=4) Av.nd rfl (Or.inl rfl)) (fun cl C fp s H=>pif0) (fun cl C fp s H=>mF ck) pX.nd rfl rfl)
   (df (yw PassesOwn.never rfl (pi_tup (oU uk (pv 0) iO (fun _ _=>rfl))) (yD rfl (mE (lD (i:=2) pX.nd rfl (Or.inl rfl)) (mE (lD (i:=3) pX.nd rfl (Or.inl rfl)) vw)))
     (df (lC (oV ER Fu Ft hU (oU lE (pv 1) (pv 2) (fun _ _=>rfl)) (aA (pv 3) ck)))
     (jr (lC (oV ER Fu Ft hU (oU lE (pv 1) (pv 3) (fun _ _=>rfl)) (aA (pv 2) ck))))))
   (jr (mz (pv 1)))),?_⟩
  refine ⟨_,rfl,wb,[.int many,.ref t],0,_,rfl,rfl,.inl (.inl h1),rfl,many,rfl,by omega,by omega,?_⟩;refine uD (n:=many.toNat) (fun k ys H'=>ai H H'/\∃ ls:List Addr,ys=ls.map V.ref/\ls.length=k/\ls.Nodup/\∀ l∈ls,H l=none/\H' l=some (.lst [])) ⟨ai.refl H,[],rfl,rfl,FH,fun l hl=>by cases hl⟩ (fun k ys H' hk pv=> ?_) (fun k ys H' hk pv=> ?_) (fun ys H' pv p hp=> ?_)
  ·obtain ⟨_,ls,rfl,e,_⟩:=pv
   rw [Do,e];exact EV (cw (by omega))
  ·obtain ⟨e,ls,rfl,el,nd,ea⟩:=pv
   refine ⟨rfl,by show 0<=sizeLine;decide,fun l hl=> .mk hk ⟨e.trans (ai.upd hl),ls++[l],by simp,by simp [el],?_,fun l' hl'=> ?_⟩⟩
   ·refine FF.mpr ⟨nd,by simp,fun a ha b hb=> ?_⟩
    have:b=l:=by simpa using hb
    subst this;exact aq (ea a ha).2 hl
   ·rcases DG.mp hl' with hl' | hl'
    ·exact ⟨(ea l' hl').1,ai.upd hl _ _ (ea l' hl').2⟩
    ·have:l'=l:=by simpa using hl'
     subst this;exact ⟨e.free hl,ao⟩
  ·obtain ⟨e,ls,rfl,el,nd,ea⟩:=pv
   have A0:Adj H p ls [] (upd H' p (.lst (ls.map V.ref))):=by
    have np:∀ l∈ls,l≠p:=fun l hl=>aq (ea l hl).2 hp
    refine ⟨e.trans (ai.upd hp),ao,nd,fun z=>np p z rfl,e.free hp,fun l hl=>(ea l hl).1,fun j l hj=> ?_⟩;have hl:=DD hj;rw [am (np l hl)];exact (ea l hl).2
   have s0:=A0.same;refine ⟨_,rfl,wb,[.int many,.ref t],1,_,rfl,rfl,.inl (.inl (s0 _ _ h1)),rfl,t,rfl,⟨bs,.inl (.inl (s0 _ _ h2))⟩,?_⟩;refine Ca (K:=K) (a:=t) (xs:=bs) (fun k σ H'=>∃ v2 v3,σ=[some (.ref wb),some (.ref p),v2,v3]/\Adj H p ls (ties.take k) H') ⟨none,none,rfl,A0⟩ (fun k σ H' hk ⟨_,_,_,A⟩=> .inl (.inl (A.same _ _ h2))) ?_ ?_
   ·rintro k x σ H2 hk ⟨v2,v3,rfl,A⟩
    obtain ⟨tt,ht,a,rfl,ha⟩:=Paired.get h3 hk;obtain ⟨g1,g2,g3⟩:=web.good tt (DD ht);obtain ⟨na,ea'⟩:∃ n:Nat,tt.1=n:=⟨tt.1.toNat,by omega⟩;obtain ⟨nb',eb'⟩:∃ n:Nat,tt.2=n:=⟨tt.2.toNat,by omega⟩;have la:ls[na]?=some ls[na]:=Dm (by omega);have lb:ls[nb']?=some ls[nb']:=Dm (by omega);have hla:=A.lst na _ la;have hlb:=A.lst nb' _ lb
    have nab:ls[na]≠ls[nb']:=fun z=>by
     have:=A.inj la (z ▸ lb);omega
    have lenN:∀ j:Int,(nb j (ties.take k)).length<=60:=fun j=>by
     have:=zc j (ties.take k);rw [EU] at this;omega
    refine ⟨a,[.int tt.1,.int tt.2],rfl,.inl (.inl (A.same _ _ ha)),rfl,_,_,rfl,_,_,rfl,rfl,?_⟩;refine ⟨_,rfl,_,rfl,p,ls.map V.ref,tt.1,.ref ls[na],rfl,rfl,.inl (.inl A.at_),by rw [ea'];exact vU (by rw [DM,la];rfl),?_⟩;refine ⟨.inl ⟨rfl,_,.inl (.inl hla)⟩,_,rfl,ls[na],_,_,rfl,rfl,hla,cw (by rw [Do];have:=lenN na;omega),?_⟩
    have p2:(upd H2 ls[na] (.lst ((nb na (ties.take k)).map V.int++[.int tt.2]))) p=some (.lst (ls.map V.ref)):=by
     rw [am (fun z:p=ls[na]=>A.np (by rw [z];exact EJ _))];exact A.at_
    have hlb2:(upd H2 ls[na] (.lst ((nb na (ties.take k)).map V.int++[.int tt.2]))) ls[nb']=some (.lst ((nb nb' (ties.take k)).map V.int)):=by
     rw [am (Ne.symm nab)];exact hlb
    refine ⟨_,rfl,_,rfl,p,ls.map V.ref,tt.2,.ref ls[nb'],rfl,rfl,.inl (.inl p2),by rw [eb'];exact vU (by rw [DM,lb];rfl),?_⟩;refine ⟨.inl ⟨rfl,_,.inl (.inl hlb2)⟩,_,rfl,ls[nb'],_,_,rfl,rfl,hlb2,cw (by rw [Do];have:=lenN nb';omega),?_⟩;refine ⟨_,_,rfl,?_⟩;have st:=A.step la lb (by omega)
    have e1:ties.take (k+1)=ties.take k++[((na:Int),(nb':Int))]:=by
     rw [List.take_add_one,ht]
     show _++[tt]=_
     rw [<- ea',<- eb']
    rw [e1,ea',eb'];rw [Ec,Ec] at st;exact st
   ·rintro σ H2 ⟨v2,v3,rfl,A⟩
    refine ⟨_,rfl,q p ls H2 el ?_⟩;rw [bl,List.take_length] at A;exact A
noncomputable def fj:FS:=Td.nv
abbrev iq:=OkY "tied_places" ["web"] 1 none fj
theorem mH(h:Has K mg "tied_places" (top 22) ["web"])(T:Txt K mg):iq P w K mg base:=Td.tied_x (BP h T)
noncomputable def eQ:SS:=(au (aW 1 (sOp gIx [.bor 0,.ex (sC (.int 0))])) (au (aX (aK gEq [.bor 1,.ex (sC (.str "spine"))]) (aB (sOp aU [.ex (sOp bS [.ex (sOp gIx [.bor 0,.ex (sC (.int 1))])]),.ex (sOp iY [.ex (sOp gIx [.bor 0,.ex (sC (.int 1))])])])) bf) (au (aX (aK gEq [.bor 1,.ex (sC (.str "sides"))]) (aB (sOp aU [.ex (sOp gIx [.bor 0,.ex (sC (.int 1))]),.ex (sOp gIx [.bor 0,.ex (sC (.int 2))])])) bf) (au (aX (sOr (aK gEq [.bor 1,.ex (sC (.str "wheel"))]) (aK gEq [.bor 1,.ex (sC (.str "fan"))])) (aB (sOp aU [.ex (sOp gIx [.bor 0,.ex (sC (.int 1))]),.ex (sC (.int 1))])) bf) (aB (sOp gIx [.bor 0,.ex (sC (.int 1))]))))))
noncomputable def bh:FS:=az 1 2 none eQ
abbrev gO:=OkY "places_in" ["kind"] 1 none bh
theorem qq(h:Has K mg "places_in" (top 30) ["kind"])(T:Txt K mg):gO P w K mg base:=by
 trace "Ȕqyв0їЇ$ȇгв0ЃЃ2ѽǪ_Ā9Ǫ_н0ѯfy"
noncomputable def lZ:SS:=(aB (bM 1 (fo (.bor 0) (.bor 1)) (.nm 2) none (aR [(aY 2),(sOp aU [.bor 2,.ex (sC (.int 1))])])))
noncomputable def dy:FS:=az 2 2 none lZ
abbrev fS:=OkY "row_ties" ["first", "last"] 1 none dy
theorem r8(h:Has K mg "row_ties" (top 32) ["first", "last"])(T:Txt K mg):fS P w K mg base:=by
 trace "ȲvȳȴǫȕaR~дРǠ"
noncomputable def kw:SS:=(aB (bM 1 (fo (.bor 1) (.ex (sOp aU [.bor 2,.ex (sC (.int 1))]))) (.nm 3) none (aR [(aY 0),(aY 3)])))
noncomputable def bx:FS:=az 3 3 none kw
abbrev dG:=OkY "star_ties" ["middle", "first", "last"] 1 none bx
theorem qo(h:Has K mg "star_ties" (top 33) ["middle", "first", "last"])(T:Txt K mg):dG P w K mg base:=by
 trace "ȶvȷȸǫȕaQР*~дЖ"
noncomputable def bc:SS:=(aX (aK gEq [.ex (sOp eO [.bor 5,.ex (sC (.int 2))]),.ex (sC (.int 0))]) (au (ci (bU 3 cv [(aY 1)])) (au (ci (bU 4 cu [(bM 1 (ce (.bor 6)) (.nm 7) none (sOp cq [.bor 2,.bor 7]))])) (au (iH 1 (fun i j=>i+j) (sC (.int 1))) (iH 2 (fun i j=>i - j) (aY 6))))) (au (ci (bU 3 cv [(aY 2)])) (au (ci (bU 4 cu [(bM 1 (ce (.bor 6)) (.nm 7) none (sOp aU [.bor 1,.bor 7]))])) (au (iH 1 (fun i j=>i+j) (aY 6)) (iH 2 (fun i j=>i - j) (sC (.int 1)))))))
noncomputable def ig:SS:=(au (aW 1 (sC (.int 0))) (au (aW 2 (sOp cq [.ex (sOp aU [.ex (sOp bS [.bor 0]),.ex (sOp iY [.bor 0])]),.ex (sC (.int 1))])) (au (aW 3 (bG [])) (au (aW 4 (bG [])) (au (dP (eV (aY 0)) (.tp [(.nm 5),(.nm 6)]) bc) (aB (sOp dL [.ex (sOp aU [.bor 3,.bor 4])])))))))
noncomputable def dz:FS:=az 1 7 none ig
abbrev ir:=OkY "spine_steps" ["legs"] 1 none dz
theorem mI(h:Has K mg "spine_steps" (top 47) ["legs"])(T:Txt K mg):ir P w K mg base:=by
 trace "ȹǢ,Ȉ.,Ȉ;$0ћ$ȇRUcшcшЀȊ-ǲееćщѰѱ,ъ-,ĂǻȖȗǫы~;ќ,Ș.(ș-,ъ-,ĂǻȖȗǫы~0ќ,Ș-(ș.Yь0ќ*"
noncomputable def ii:SS:=(aB (sOp dL [.ex (sOp aU [.ex (sOp gI [.ex (sOp nk [.bor 0])]),.ex (bM 1 (ce (.bor 1)) (.nm 2) none (sOp ie [.bor 0,.ex (sOp aU [.bor 2,.ex (sC (.int 1))])]))])]))
noncomputable def dA:FS:=az 2 2 none ii
abbrev iu:=OkY "sides_steps" ["m", "n"] 1 none dA
theorem mJ(h:Has K mg "sides_steps" (top 48) ["m", "n"])(T:Txt K mg):iu P w K mg base:=by
 trace "ȻvьСȚQțЋ$ȼȽǫы~K_Р*"
noncomputable def eh:SS:=(au (aW 3 (sIf (aK gGe [.bor 2,.ex (sOp fB [.bor 0,.ex (sC (.int 2))])]) (sC (.int 1)) (sC (.int 0)))) (aX (aK gEq [.ex (sOp eO [.bor 2,.ex (sC (.int 2))]),.ex (sC (.int 0))]) (ci (bU 1 cv [(sOp aU [.ex (sOp fB [.bor 2,.ex (sC (.int 2))]),.ex (sIf (aK gEq [.ex (sOp eO [.bor 0,.ex (sC (.int 4))]),.ex (sC (.int 3))]) (aY 3) (sC (.int 0)))])])) (ci (bU 1 cv [(sOp cq [.ex (sOp cq [.bor 0,.ex (sOp fB [.bor 2,.ex (sC (.int 2))])]),.ex (sIf (aK gEq [.ex (sOp eO [.bor 0,.ex (sC (.int 4))]),.ex (sC (.int 0))]) (aY 3) (sC (.int 0)))])]))))
noncomputable def jl:SS:=(au (aW 1 (bG [])) (au (dP (ce (.bor 0)) (.nm 2) eh) (aB (sOp dL [.bor 1]))))
noncomputable def dU:FS:=az 1 4 none jl
abbrev jR:=OkY "ring_steps" ["n"] 1 none dU
theorem oh(h:Has K mg "ring_steps" (top 50) ["n"])(T:Txt K mg):jR P w K mg base:=by
 trace "ȾqшЀыǦcĮŕ_Ld..щѰѱ(ъСLd$ĮѰѱ-.(ъ;$;_Ld$ĮѰѱ-.YȋR"
abbrev gS:=OkY "_law_cell_at" ["script", "k"] 1 none br
theorem lj(h:Has K mg "_law_cell_at" (top 52) ["script", "k"])(T:Txt K mg):gS P w K mg base:=by
 trace "ȿǢиį_ǯRYѲf."
abbrev kU:=OkY "_law_next" ["seed"] 1 none dF
theorem qx(h:Has K mg "_law_next" (top 53) ["seed"])(T:Txt K mg):kU P w K mg base:=by
 trace "ɀqā$РUYā$ССK%_KUѱ"
abbrev iA:=OkY "_law_pen_of" ["cell"] 1 none bY
theorem mM(h:Has K mg "_law_pen_of" (top 54) ["cell"])(T:Txt K mg):iA P w K mg base:=by
 trace "ɁqǿaжU%*YiѼȌQƷ_ƸUU*ǡādǠ"
noncomputable def jm:SS:=(aB (bV (sOp (fZ "int") [.bor 0]) (fT (sOp (fZ "bool") [.bor 0]))))
noncomputable def dW:FS:=az 1 1 none jm
abbrev jS:=OkY "_law_whole" ["found"] 1 none dW
theorem oj(h:Has K mg "_law_whole" (top 56) ["found"])(T:Txt K mg):jS P w K mg base:=by
 trace "ɂvOȒ%6Œȓ%"
noncomputable def bH:SS:=(au (ci (bU 1 cv [(aR [(aY 3),(aY 2)])])) (aW 2 (sOp aU [.bor 2,.ex (sC (.int 1))])))
noncomputable def aM:SS:=(au (aX (aK gGt [.bor 3,.ex (sC (.int 0))]) (ci (bU 1 cv [(aR [(sOp cq [.bor 3,.ex (sC (.int 1))]),(aY 3)])])) bf) (dP (ce (.ex (sOp gIx [.bor 0,.bor 3]))) (.nm 4) bH))
noncomputable def eU:SS:=(au (aW 1 (bG [])) (au (aW 2 (sOp bS [.bor 0])) (au (dP (ce (.ex (sOp bS [.bor 0]))) (.nm 3) aM) (aB (aR [(aY 2),(aY 1)])))))
noncomputable def cg:FS:=az 1 5 none eU
abbrev fc:=OkY "_law_spine_ties" ["legs"] 1 none cg
theorem iR(h:Has K mg "_law_spine_ties" (top 57) ["legs"])(T:Txt K mg):fc P w K mg base:=by
 trace "ɃqшcǯRЀǳQǯЋǦиİd(ъe;dǡЖ2(ȉǳQѲ*Ǧ,ъдЖ(ǹРYдЖ"
open L2.Kd in
theorem pY:cy ["e", "marks", "words"] ["e"] (ah (top 60)):=⟨rfl,rfl,rfl,by decide +kernel,rfl,by decide +kernel,by decide +kernel⟩
open L2.Kd in
theorem BR(h:Has K mg "_law_kind_of" (top 60) ["e"])(T:Txt K mg):OkA P w K mg base "_law_kind_of" ["e"] 1 (tU K mg):=by
 refine h.okA pY (fun vs H Q E h=> ?_) (fun f cdv A outer s H vs Q E hr h=> ?_)
 ·obtain ⟨ea,C,j,rfl,_⟩:=h;rfl
 ·obtain ⟨ea,C,j,rfl,hH,kd,q⟩:=h
  obtain ⟨c0,m0,k0⟩:=kd.k0;obtain ⟨c1,m1,k1⟩:=kd.k1;obtain ⟨c2,m2,k2⟩:=kd.k2;obtain ⟨c3,m3,k3⟩:=kd.k3;obtain ⟨c4,m4,k4⟩:=kd.k4;obtain ⟨c5,m5,k5⟩:=kd.k5;obtain ⟨c6,m6,k6⟩:=kd.k6;obtain ⟨c7,m7,k7⟩:=kd.k7;obtain ⟨c8,m8,k8⟩:=kd.k8
  refine ⟨_,df (qk (i:=1) pY.nd rfl (Or.inl rfl) (mF (aA (isx T.isi m0 (pv 0) (by rfl) (by rfl)) (aA (isx T.isi m1 (pv 0) (by rfl) (by rfl)) (aA (isx T.isi m2 (pv 0) (by rfl) (by rfl)) (aA (isx T.isi m3 (pv 0) (by rfl) (by rfl)) ck))))))
   (df (qk (i:=1) pY.nd rfl (Or.inl rfl) (CW yY (pv 1) (mF (aA (isx T.isi m4 (pv 0) (by rfl) (by rfl)) (aA (isx T.isi m5 (pv 0) (by rfl) (by rfl)) (aA (isx T.isi m6 (pv 0) (by rfl) (by rfl)) (aA (isx T.isi m7 (pv 0) (by rfl) (by rfl)) ck)))))))
   (df (lC (oV ER Fu Ft hU (pv 1) (aA (isx T.isi m8 (pv 0) (by rfl) (by rfl)) ck)))
   (df (CU (PW.pt (CT (yt (pt_val (isxV T.isi T.ValueError (pv 0) (by rfl) (by rfl)))) (yq (vt op_ne (oV ER PySem.F.slot_list_count PySem.F.type_list_count zf (pv 1) (aA yK ck)) iO (eG _))))) (jr (mz dJ)) vv)
   (df (qk (i:=2) pY.nd rfl (Or.inl rfl) (mF (aA dJ (aA dJ (aA dJ (aA dJ (aA dJ (aA dJ (aA dJ (aA dJ (aA dJ ck)))))))))))
   (jr (mz (oU lE (pv 2) (oV ER PySem.F.slot_list_index PySem.F.type_list_index ze (pv 1) (aA yK ck)) (fun _ _=>rfl)))))))),?_⟩
  refine ⟨_,rfl,ea,C,.ref c0,.ref c0,_,rfl,hH,kd.exk,rfl,k0,_,rfl,ea,C,.ref c1,.ref c1,_,rfl,hH,kd.exk,rfl,k1,_,rfl,ea,C,.ref c2,.ref c2,_,rfl,hH,kd.exk,rfl,k2,_,rfl,ea,C,.ref c3,.ref c3,_,rfl,hH,kd.exk,rfl,k3,by show 4<=sizeLine;decide,fun l1 hl1=> ?_⟩;have s1:=ai.upd (o:= .lst [.bl (decide (0=j)),.bl (decide (1=j)),.bl (decide (2=j)),.bl (decide (3=j))]) hl1;have h1:=s1 _ _ hH;refine ⟨_,rfl,_,rfl,ea,C,.ref c4,.ref c4,_,rfl,h1,kd.exk,rfl,k4,_,rfl,ea,C,.ref c5,.ref c5,_,rfl,h1,kd.exk,rfl,k5,_,rfl,ea,C,.ref c6,.ref c6,_,rfl,h1,kd.exk,rfl,k6,_,rfl,ea,C,.ref c7,.ref c7,_,rfl,h1,kd.exk,rfl,k7,by show 4<=sizeLine;decide,fun l2 hl2=> ?_⟩;have s2:=s1.trans (ai.upd (o:= .lst [.bl (decide (4=j)),.bl (decide (5=j)),.bl (decide (6=j)),.bl (decide (7=j))]) hl2);refine ⟨l1,l2,_,_,rfl,rfl,ai.upd hl2 _ _ ao,ao,EV (cw (by show 4+4<=1000;decide)),fun l3 hl3=> ?_⟩;have s3:=s2.trans (ai.upd (o:= .lst ([.bl (decide (0=j)),.bl (decide (1=j)),.bl (decide (2=j)),.bl (decide (3=j))]++[.bl (decide (4=j)),.bl (decide (5=j)),.bl (decide (6=j)),.bl (decide (7=j))])) hl3);have nl3:H l3=none:=s2.free hl3;refine ⟨_,rfl,.inl ⟨rfl,_,.inl (.inl ao)⟩,_,rfl,ea,C,.ref c8,.ref c8,_,rfl,s3 _ _ hH,kd.exk,rfl,k8,l3,_,_,rfl,rfl,ao,cw (by show 8<=1000;decide),?_⟩;rw [AG];have s4:ai H (upd (upd (upd H l1 (.lst [.bl (decide (0=j)),.bl (decide (1=j)),.bl (decide (2=j)),.bl (decide (3=j))])) l2 (.lst [.bl (decide (4=j)),.bl (decide (5=j)),.bl (decide (6=j)),.bl (decide (7=j))])) l3 (.lst (fI j))):=s2.trans (ai.upd hl3);refine ⟨_,rfl,ea,C,.ty "ValueError",.type "ValueError",_,rfl,s4 _ _ hH,kd.exk,rfl,kd.ve,_,rfl,iteF ⟨_,rfl,.inl ⟨rfl,_,.inl (.inl ao)⟩,l3,fI j,.bl true,rfl,rfl,ao,rfl,mU j,rfl,_,rfl,?_⟩⟩
  rw [wA j kd.lt]
  refine iteB (fun c=>absurd c (by decide)) fun _=> ?_
  refine ⟨by show 9<=sizeLine;decide,fun l5 hl5=> ?_⟩;refine ⟨_,rfl,_,rfl,.inl ⟨rfl,_,.inl (.inl (ai.upd hl5 _ _ ao))⟩,l3,fI j,.bl true,j,rfl,rfl,ai.upd hl5 _ _ ao,rfl,mU j,zh j kd.lt,zg j kd.lt,l5,_,_,_,rfl,rfl,.inl (.inl ao),xC kd.lt,q _ (s4.trans (ai.upd hl5))⟩
noncomputable def gn:SS:=(aB (bV (ar none none fP [.bor 0]) (dI gLe gLe (aY 1) (aY 0) (aY 2))))
noncomputable def bq:FS:=az 3 3 none gn
abbrev cr:=OkY "whole_within" ["thing", "least", "most"] 2 none bq
theorem le(h:Has K mg "whole_within" (top 13) ["thing", "least", "most"])(T:Txt K mg)(G5:nQ P w K mg base):cr P w K mg base:=by
 trace "ɄvOƹR6Ʌ---"
noncomputable def jh:SS:=(aB (sOp dL [.ex (bM 1 (cH (ar none none fj [.bor 0])) (.nm 1) none (sOp bS [.bor 1]))]))
noncomputable def dQ:FS:=az 1 1 none jh
abbrev jO:=OkY "tie_counts" ["web"] 2 none dQ
theorem oa(h:Has K mg "tie_counts" (top 21) ["web"])(T:Txt K mg)(G32:iq P w K mg base):jO P w K mg base:=by
 trace "ȜvьɆɇѳƺR~ǯЋ"
noncomputable def cV:SS:=(au (ci (bU 1 cu [(ar none none bx [.bor 3,.bor 2,.ex (sOp cq [.ex (sOp aU [.bor 2,.bor 4]),.ex (sC (.int 1))])])])) (iH 2 (fun i j=>i+j) (aY 4)))
noncomputable def jj:SS:=(au (aW 1 (ar none none dy [.ex (sC (.int 0)),.ex (sOp cq [.ex (sOp bS [.bor 0]),.ex (sC (.int 1))])])) (au (aW 2 (sOp bS [.bor 0])) (au (dP (eV (aY 0)) (.tp [(.nm 3),(.nm 4)]) cV) (dD 1))))
noncomputable def dR:FS:=az 1 5 none jj
abbrev jP:=OkY "spine_ties" ["legs"] 2 none dR
theorem of(h:Has K mg "spine_ties" (top 34) ["legs"])(T:Txt K mg)(G6:fS P w K mg base)(G18:dG P w K mg base):jP P w K mg base:=by
 trace "ɈqıШжѴ*cǯRЀȊ-ǲееć,ĂǻĲaaж$0%ѵ(ɉ-(ǼǬ"
noncomputable def kx:SS:=(aB (sOp aU [.ex (ar none none dy [.ex (sC (.int 0)),.ex (sOp cq [.bor 0,.ex (sC (.int 1))])]),.ex (bG [(aR [(sC (.int 0)),(sOp cq [.bor 0,.ex (sC (.int 1))])])])]))
noncomputable def eZ:FS:=az 1 1 none kx
abbrev kN:=OkY "ring_ties" ["n"] 2 none eZ
theorem qp(h:Has K mg "ring_ties" (top 35) ["n"])(T:Txt K mg)(G6:fS P w K mg base):kN P w K mg base:=by
 trace "ȍvСıШжѵЌer;dǠǠ"
noncomputable def dZ:SS:=(ci (bU 2 cu [(ar none none bx [.bor 3,.bor 0,.ex (sOp cq [.ex (sOp aU [.bor 0,.bor 1]),.ex (sC (.int 1))])])]))
noncomputable def jk:SS:=(au (aW 2 (bG [])) (au (dP (ce (.bor 0)) (.nm 3) dZ) (dD 2)))
noncomputable def dS:FS:=az 2 4 none jk
abbrev jQ:=OkY "sides_ties" ["m", "n"] 2 none dS
theorem og(h:Has K mg "sides_ties" (top 36) ["m", "n"])(T:Txt K mg)(G18:dG P w K mg base):jQ P w K mg base:=by
 trace "ɊqшЀыǦ(ĂǻĲaaж$0%ѵ(ǼǬ"
noncomputable def n8:SS:=(ci (bU 1 cu [(ar none none bx [.bor 2,.ex (sOp aU [.bor 2,.ex (sC (.int 1))]),.ex (sOp cq [.bor 0,.ex (sC (.int 1))])])]))
noncomputable def rG:SS:=(au (aW 1 (bG [])) (au (dP (ce (.bor 0)) (.nm 2) n8) (dD 1)))
noncomputable def kH:FS:=az 1 3 none rG
abbrev kR:=OkY "full_ties" ["n"] 2 none kH
theorem qv(h:Has K mg "full_ties" (top 37) ["n"])(T:Txt K mg)(G18:dG P w K mg base):kR P w K mg base:=by
 trace "ɋqшЀыǦ(ĂǻĲaQРжѵ(ǼǬ"
noncomputable def tX:SS:=(aB (sOp aU [.ex (ar none none bx [.ex (sC (.int 0)),.ex (sC (.int 1)),.bor 0]),.ex (ar none none dy [.ex (sC (.int 1)),.bor 0])]))
noncomputable def i0:FS:=az 1 1 none tX
abbrev jc:=OkY "fan_ties" ["n"] 2 none i0
theorem se(h:Has K mg "fan_ties" (top 38) ["n"])(T:Txt K mg)(G18:dG P w K mg base)(G6:fS P w K mg base):jc P w K mg base:=by
 trace "ȍvСƻШШR$ıШR"
noncomputable def fh:SS:=(au (aX (aK gEq [.ex (sOp gIx [.bor 0,.ex (sC (.int 0))]),.ex (sC (.str "spine"))]) (aB (ar none none dz [.ex (sOp gIx [.bor 0,.ex (sC (.int 1))])])) bf) (au (aX (aK gEq [.ex (sOp gIx [.bor 0,.ex (sC (.int 0))]),.ex (sC (.str "sides"))]) (aB (ar none none dA [.ex (sOp gIx [.bor 0,.ex (sC (.int 1))]),.ex (sOp gIx [.bor 0,.ex (sC (.int 2))])])) bf) (p7 "NoKind")))
noncomputable def bX:FS:=az 1 1 none fh
abbrev iz:=OkY "parted_made" ["kind"] 2 none bX
theorem mL(h:Has K mg "parted_made" (top 46) ["kind"])(T:Txt K mg)(G31:ir P w K mg base)(G30:iu P w K mg base)(R_NoKind:lI K mg base "NoKind"):iz P w K mg base:=by
 trace "ȝǢКЛнƼгКЛнƽҊг(Ȟ"
abbrev kW:=OkY "_law_draw" ["pen", "many"] 2 (some 0) aD
theorem qy(h:Has K mg "_law_draw" (top 55) ["pen", "many"])(T:Txt K mg)(G10:kU P w K mg base):kW P w K mg base:=by
 trace "ɌǢКѯcāЃ%,ȟLЃ%.Ǭ(ǼǬ2,ȟŖQСŖЇU*.ǬYā$Lѯ%"
noncomputable def cc:SS:=(au (aW 6 (bV (sOp gEq [.ex (sOp aU [.bor 5,.ex (sC (.int 1))]),.bor 4]) (jn (sOp gGt [.bor 5,.ex (sC (.int 0))]) (sOp gEq [.ex (sOp gIx [.bor 0,.ex (sC (.int 0))]),.ex (sC (.str "ring"))])))) (au (aW 7 (jn (bV (sOp gEq [.ex (sOp gIx [.bor 0,.ex (sC (.int 0))]),.ex (sC (.str "wheel"))]) (bV (sOp gEq [.bor 5,.ex (sC (.int 1))]) (sOp gEq [.bor 4,.bor 3]))) (bV (sOp gEq [.ex (sOp gIx [.bor 0,.ex (sC (.int 0))]),.ex (sC (.str "ring"))]) (sOp gEq [.ex (sOp cq [.bor 4,.bor 5]),.ex (sOp cq [.bor 3,.ex (sC (.int 1))])])))) (aX (sOr (aK gEq [.ex (sOp gIx [.bor 0,.ex (sC (.int 0))]),.ex (sC (.str "full"))]) (sOr (dC (.bor 6)) (sOr (dC (.bor 7)) (jo (aK gIn [.ex (sOp gIx [.bor 0,.ex (sC (.int 0))]),.ex (bG [(sC (.str "wheel")),(sC (.str "fan"))])]) (aK gEq [.bor 5,.ex (sC (.int 0))]))))) (ci (bU 2 cv [(aR [(aY 5),(aY 4)])])) bf)))
noncomputable def cX:SS:=(dP (ce (.bor 4)) (.nm 5) cc)
noncomputable def cC:SS:=(au (aX (aK gEq [.ex (sOp gIx [.bor 0,.ex (sC (.int 0))]),.ex (sC (.str "spine"))]) (au (mh (.tp [(.nm 1),(.nm 2)]) (ar none none cg [.ex (sOp gIx [.bor 0,.ex (sC (.int 1))])])) (aB (aR [(aY 1),(sOp dL [.ex (sOp dM [.bor 2])])]))) bf) (au (aW 3 (sOp gIx [.bor 0,.ex (sC (.int 1))])) (au (aX (aK gEq [.ex (sOp gIx [.bor 0,.ex (sC (.int 0))]),.ex (sC (.str "sides"))]) (aB (aR [(sOp aU [.bor 3,.ex (sOp gIx [.bor 0,.ex (sC (.int 2))])]),(sOp dL [.ex (bM 1 (ce (.ex (sOp ie [.bor 3,.ex (sOp gIx [.bor 0,.ex (sC (.int 2))])]))) (.nm 8) none (aR [(sOp fB [.bor 8,.ex (sOp gIx [.bor 0,.ex (sC (.int 2))])]),(sOp aU [.bor 3,.ex (sOp eO [.bor 8,.ex (sOp gIx [.bor 0,.ex (sC (.int 2))])])])]))])])) bf) (au (aW 2 (bG [])) (au (dP (ce (.ex (sOp aU [.bor 3,.ex (sOp uw [.ex (sOp gIn [.ex (sOp gIx [.bor 0,.ex (sC (.int 0))]),.ex (bG [(sC (.str "wheel")),(sC (.str "fan"))])])])]))) (.nm 4) cX) (aB (aR [(sOp aU [.bor 3,.ex (sOp uw [.ex (sOp gIn [.ex (sOp gIx [.bor 0,.ex (sC (.int 0))]),.ex (bG [(sC (.str "wheel")),(sC (.str "fan"))])])])]),(sOp dL [.ex (sOp dM [.bor 2])])])))))))
noncomputable def aS:FS:=az 1 8 none cC
abbrev fX:=OkY "_law_made_web" ["kind"] 2 none aS
theorem ka(h:Has K mg "_law_made_web" (top 58) ["kind"])(T:Txt K mg)(G40:fc P w K mg base):fX P w K mg base:=by
 trace "ɍǢКэ,ƾƿЇǲееćYдьȀЋǠ2,ȈyКЛнeзyǡьɎɏǫǳQK_y*~eL_yǡзā_yǠ*ǠѶшЀǳQзȌQȠЛiЂюяǦ(ȉыǦcѐ$Р%6ŗŘd6ǭэcŗѐэѐd6ǭќ6ѐэ6ǭ$;%_;dщĬJǪэJĳ%Jĳ%9ĬřȎЛiЂюŚǪd(ъдЖfeзȌQȠЛiЂю*ǡьȀЋǠ"
noncomputable def eS:SS:=(au (aX (sOr (eB (dC (.ex (sOp (fZ "tuple") [.bor 1])))) (sOr (aK gNe [.ex (sOp bS [.bor 1]),.ex (sOp gIx [.bor 0,.ex (sC (.int 0))])]) (eB (dC (.ex (sOp ki [.ex (bM 1 (cH (aY 1)) (.nm 3) none (ar none none dW [.bor 3]))])))))) (aB (sC (.bl false))) bf) (au (aX (sOr (aK gNe [.ex (sOp bS [.ex (sOp wJ [.bor 1])]),.ex (sOp gIx [.bor 0,.ex (sC (.int 0))])]) (sOr (aK gLt [.ex (sOp gH [.bor 1]),.ex (sC (.int 0))]) (aK gGt [.ex (sOp fA [.bor 1]),.ex (sOp bS [.ex (sOp gIx [.bor 0,.ex (sC (.int 1))])])]))) (aB (sC (.bl false))) bf) (au (aW 2 (sOp dM [.ex (bM 2 (cH (sOp gIx [.bor 0,.ex (sC (.int 1))])) (.tp [(.nm 3),(.nm 4)]) none (sOp cq [.ex (sOp fA [.ex (sOp gIx [.bor 1,.bor 3]),.ex (sOp gIx [.bor 1,.bor 4])]),.ex (sOp gH [.ex (sOp gIx [.bor 1,.bor 3]),.ex (sOp gIx [.bor 1,.bor 4])])]))])) (aB (sOp gEq [.bor 2,.ex (sOp gI [.ex (sOp nk [.ex (sC (.int 1)),.ex (sOp aU [.ex (sOp bS [.ex (sOp gIx [.bor 0,.ex (sC (.int 1))])]),.ex (sC (.int 1))])])])])))))
noncomputable def cf:FS:=az 2 3 none eS
abbrev fb:=OkY "_law_steps_good" ["web", "thing"] 2 none cf
theorem iQ(h:Has K mg "_law_steps_good" (top 61) ["web", "thing"])(T:Txt K mg)(G21:jS P w K mg base):fb P w K mg base:=by
 trace "ɐǢёǴ%JǵћЃ9пǽQɑȡѳ-~ǁЋЗ2ѽǵїQɒЋЃJį$ȁRU9İ$ǿRїЇЗѶȀQɓȡѳyǰǲĒǺĒǺćҋ;$ǿQѲQѲ*$ȁQѲQѲяYǭ_ȚQțШQ0їЇUя"
noncomputable def ky:SS:=(aB (ar none none bq [.bor 0,.ex (sC (.int 1)),.ex (sC (.int 40))]))
noncomputable def e7:FS:=az 1 1 none ky
abbrev kO:=OkY "many_good" ["thing"] 3 none e7
theorem qr(h:Has K mg "many_good" (top 17) ["thing"])(T:Txt K mg)(G37:cr P w K mg base):kO P w K mg base:=by
 trace "Ǿvś҄QȂ*"
noncomputable def l8:SS:=(aB (ar none none bq [.bor 1,.ex (sC (.int 0)),.ex (sOp cq [.bor 0,.ex (sC (.int 1))])]))
noncomputable def fQ:FS:=az 2 2 none l8
abbrev nR:=OkY "is_place" ["many", "thing"] 3 none fQ
theorem sd(h:Has K mg "is_place" (top 19) ["many", "thing"])(T:Txt K mg)(G37:cr P w K mg base):nR P w K mg base:=by
 trace "Ȣvś҄жѵ"
noncomputable def kA:SS:=(au (aX (sOr (eB (dC (.ex (sOp (fZ "tuple") [.bor 0])))) (aK gEq [.ex (sOp bS [.bor 0]),.ex (sC (.int 0))])) (aB (sC (.bl false))) bf) (aB (sOp ki [.ex (bM 1 (cH (aY 0)) (.nm 1) none (ar none none bq [.bor 1,.ex (sC (.int 0)),.ex (sC (.int 40))]))])))
noncomputable def e8:FS:=az 1 1 none kA
abbrev kP:=OkY "legs_good" ["thing"] 3 none e8
theorem qt(h:Has K mg "legs_good" (top 28) ["thing"])(T:Txt K mg)(G37:cr P w K mg base):kP P w K mg base:=by
 trace "ǾǢёǴ%9ǪѴЗfǽQɔɕѳ-~Ŝ҄QȂя"
noncomputable def em:SS:=(au (aX (aK gNe [.ex (sOp bS [.bor 1]),.ex (sOp bS [.bor 0])]) (aB (sC (.bl false))) bf) (aB (sOp ki [.ex (bM 2 (kY [(aY 0),(aY 1)]) (.tp [(.nm 2),(.nm 3)]) none (ar none none bq [.bor 3,.bor 2,.ex (sC (.int 40))]))])))
noncomputable def bP:FS:=az 2 2 none em
abbrev gP:=OkY "numbers_good" ["leasts", "things"] 3 none bP
theorem lf(h:Has K mg "numbers_good" (top 29) ["leasts", "things"])(T:Txt K mg)(G37:cr P w K mg base):gP P w K mg base:=by
 trace "ɖǢиǵћћЗfǽQɗɘǫəǡѼЖǰǲĒǺĒǺćҋŜaaQȂя"
noncomputable def pZ:SS:=(aB (sOp aU [.ex (ar none none i0 [.bor 0]),.ex (bG [(aR [(sC (.int 1)),(aY 0)])])]))
noncomputable def jF:FS:=az 1 1 none pZ
abbrev jN:=OkY "wheel_ties" ["n"] 3 none jF
theorem n9(h:Has K mg "wheel_ties" (top 39) ["n"])(T:Txt K mg)(G3:jc P w K mg base):jN P w K mg base:=by
 trace "ȍvСŝRЌerЖǠ"
noncomputable def dl:SS:=(au (aW 2 (sOp bS [.ex (sOp gIx [.bor 0,.ex (sC (.int 1))])])) (au (aX (aK gEq [.bor 1,.ex (aR [(sC (.str "places"))])]) (aB (sOp gGt [.ex (sOp gIx [.bor 0,.ex (sC (.int 0))]),.ex (sOp aU [.bor 2,.ex (sC (.int 1))])])) bf) (au (aX (aK gEq [.bor 1,.ex (aR [(sC (.str "even"))])]) (aB (bV (sOp ki [.ex (bM 1 (cH (ar none none dQ [.bor 0])) (.nm 3) none (sOp gEq [.ex (sOp eO [.bor 3,.ex (sC (.int 2))]),.ex (sC (.int 0))]))]) (sOp gEq [.ex (sOp eO [.ex (sOp fB [.ex (sOp ie [.bor 2,.ex (sOp aU [.bor 2,.ex (sC (.int 1))])]),.ex (sC (.int 2))]),.ex (sC (.int 2))]),.ex (sC (.int 1))]))) bf) (aB (sC (.bl false))))))
noncomputable def bn:FS:=az 2 3 none dl
abbrev fE:=OkY "step_bar_holds" ["web", "thing"] 3 none bn
theorem ju(h:Has K mg "step_bar_holds" (top 42) ["web", "thing"])(T:Txt K mg)(G25:jO P w K mg base):fE P w K mg base:=by
 trace "ɚqǯЇѻeюYŘЛР2ѻeюYOǽQɛɜѳǂR~ǭ҇ѱ*6ǭ҇$L$K_РUUUfĈ"
noncomputable def bJ:SS:=(aW 3 (sOp uq [.bor 3,.ex (sC (.int 1))]))
noncomputable def cY:SS:=(au (de 100 (aK gGt [.ex (sOp aU [.ex (sOp bS [.bor 3]),.ex (sOp iY [.bor 3])]),.ex (sC (.int 40))]) bJ) (aB (aR [(sC (.str "spine")),(sOp dL [.bor 3])])))
noncomputable def cZ:SS:=(au (aW 3 (bM 1 (ce (.ex (sOp aU [.ex (sC (.int 1)),.ex (ar (some 0) (some 0) aD [.bor 0,.ex (sC (.int 12))])]))) (.nm 9) none (sOp gIx [.ex (bG [(sC (.int 0)),(sC (.int 0)),(sC (.int 1)),(sC (.int 2)),(sC (.int 0)),(sC (.int 3))]),.ex (ar (some 0) (some 0) aD [.bor 0,.ex (sC (.int 6))])]))) (au (aX (aK gEq [.ex (ar (some 0) (some 0) aD [.bor 0,.ex (sC (.int 6))]),.ex (sC (.int 0))]) (aW 3 (sOp gIx [.ex (bG [(sOp ie [.ex (bG [(sC (.int 0))]),.ex (sC (.int 40))]),(bG [(sC (.int 39))]),(sOp aU [.ex (sOp ie [.ex (bG [(sC (.int 0))]),.ex (sC (.int 20))]),.ex (bG [(sC (.int 19))])]),(sOp ie [.ex (bG [(sC (.int 1))]),.ex (sC (.int 20))]),(bG [(sC (.int 9)),(sC (.int 9)),(sC (.int 9)),(sC (.int 9))]),(bG [(sC (.int 0))])]),.ex (ar (some 0) (some 0) aD [.bor 0,.ex (sC (.int 6))])])) bf) cY))
noncomputable def bK:SS:=(au (aW 2 (sOp gIx [.ex (bG [(sC (.str "spine")),(sC (.str "ring")),(sC (.str "sides")),(sC (.str "full")),(sC (.str "wheel")),(sC (.str "fan"))]),.ex (ar (some 0) (some 0) aD [.bor 0,.bor 1])])) (au (aX (aK gEq [.bor 2,.ex (sC (.str "spine"))]) cZ bf) (au (aX (aK gEq [.bor 2,.ex (sC (.str "sides"))]) (au (aW 4 (sOp aU [.ex (sC (.int 1)),.ex (ar (some 0) (some 0) aD [.bor 0,.ex (sC (.int 8))])])) (au (aW 5 (sOp aU [.ex (sC (.int 1)),.ex (ar (some 0) (some 0) aD [.bor 0,.ex (sOp gH [.ex (sOp cq [.ex (sC (.int 40)),.bor 4]),.ex (sOp fB [.ex (sC (.int 60)),.bor 4])])])])) (aB (sOp gIx [.ex (bG [(aR [(sC (.str "sides")),(aY 4),(aY 5)]),(aR [(sC (.str "sides")),(aY 5),(aY 4)])]),.ex (ar (some 0) (some 0) aD [.bor 0,.ex (sC (.int 2))])])))) bf) (au (aW 6 (sOp sK [.ex (oO [.inr "ring",.inr "full",.inr "wheel",.inr "fan"] [(sC (.int 3)),(sC (.int 1)),(sC (.int 3)),(sC (.int 1))]),.bor 2])) (au (aW 7 (sOp sK [.ex (oO [.inr "ring",.inr "full",.inr "wheel",.inr "fan"] [(sC (.int 40)),(sC (.int 11)),(sC (.int 30)),(sC (.int 30))]),.bor 2])) (au (aW 8 (sOp aU [.bor 6,.ex (ar (some 0) (some 0) aD [.bor 0,.ex (sC (.int 9))])])) (au (aX (aK gEq [.ex (ar (some 0) (some 0) aD [.bor 0,.ex (sC (.int 4))]),.ex (sC (.int 0))]) (aW 8 (sOp cq [.bor 7,.ex (ar (some 0) (some 0) aD [.bor 0,.ex (sC (.int 3))])])) bf) (aB (aR [(aY 2),(aY 8)])))))))))
noncomputable def aZ:FS:=az 2 9 (some 0) bK
abbrev gR:=OkY "_law_kind_by" ["pen", "most"] 3 (some 0) aZ
theorem lh(h:Has K mg "_law_kind_by" (top 59) ["pen", "most"])(T:Txt K mg)(G9:kW P w K mg base):gR P w K mg base:=by
 trace "ɝqĆЌЂЂЂЂЂюҎaRѻĀ,ɞɟǫǳQ0Uѷ*~ĆЌrrrrru$ǃѿКѷU(ǹĆЌKЌuUǡiuǡСKЌuUЌuǡKЌuUǡirrruǡiТѷ2,Ǆİ$0ћ$ȇRU(ǹȣdYЄȋRǠ2ѻĀc0Uѷc0UҎaQȁжU%QLU%яYĆЌЄѼЖЩѼЖǠѷѶȤ$ȥȦ.ȧ.Ȩ.ȩu%cȤ$ȥȦ.ȧ.Ȩ.ȩu%cзĴѿКѷU(ǹ;_ĴѿfдЖ"
noncomputable def lX:SS:=(au (aX (sOr (eB (dC (.ex (sOp (fZ "tuple") [.bor 1])))) (aK gNe [.ex (sOp bS [.bor 1]),.ex (sC (.int 2))])) (aB (sC .non)) bf) (au (aX (sOr (eB (dC (.ex (sOp ki [.ex (bM 1 (cH (aY 1)) (.nm 2) none (ar none none fQ [.bor 0,.bor 2]))])))) (aK gEq [.ex (sOp gIx [.bor 1,.ex (sC (.int 0))]),.ex (sOp gIx [.bor 1,.ex (sC (.int 1))])])) (aB (sC .non)) bf) (aB (aR [(sOp gH [.bor 1]),(sOp fA [.bor 1])]))))
noncomputable def fN:FS:=az 2 2 none lX
abbrev nO:=OkY "tie_told" ["many", "thing"] 4 none fN
theorem rZ(h:Has K mg "tie_told" (top 18) ["many", "thing"])(T:Txt K mg)(G4:nR P w K mg base):nO P w K mg base:=by
 trace "ȢǢёǴ%9ǵѴYĔ2ёǽQɠɡѳ-~ǅaЋ9ǪЃЃYĔfeȁRǡǿRǠ"
noncomputable def eR:SS:=(au (aX (sOr (eB (dC (.ex (sOp (fZ "tuple") [.bor 0])))) (aK gLt [.ex (sOp bS [.bor 0]),.ex (sC (.int 2))])) (aB (sC (.bl false))) bf) (au (aW 1 (sOp gIx [.bor 0,.ex (sC (.int 0))])) (au (aX (aK gEq [.bor 1,.ex (sC (.str "spine"))]) (aB (bV (sOp gEq [.ex (sOp bS [.bor 0]),.ex (sC (.int 2))]) (ar none none e8 [.ex (sOp gIx [.bor 0,.ex (sC (.int 1))])]))) bf) (au (aX (sOr (eB (dC (.ex (sOp (fZ "str") [.bor 1])))) (aK (B9 bi bj true) [.bor 1])) (aB (sC (.bl false))) bf) (aB (ar none none bP [.ex (sOp (pd bi bj) [.bor 1]),.ex (sOp uq [.bor 0,.ex (sC (.int 1))])]))))))
noncomputable def bz:FS:=az 1 2 none eR
abbrev kS:=OkY "form_good" ["thing"] 4 none bz
theorem qw(h:Has K mg "form_good" (top 27) ["thing"])(T:Txt K mg)(G14:kP P w K mg base)(G36:gP P w K mg base)(M_LEAST_NUMBERS:vV w K mg "LEAST_NUMBERS" bi bj):kS P w K mg base:=by
 trace "ɢǢёǴ%9įѴЗѶyвѐѴ6ǆгёɣ%9ɤ%ЗfǇQɥ%Qȣѵ"
noncomputable def gX:SS:=(au (aW 1 (sOp gIx [.bor 0,.ex (sC (.int 0))])) (au (aX (aK gEq [.bor 1,.ex (sC (.str "spine"))]) (aB (ar none none dR [.ex (sOp gIx [.bor 0,.ex (sC (.int 1))])])) bf) (au (aX (aK gEq [.bor 1,.ex (sC (.str "ring"))]) (aB (ar none none eZ [.ex (sOp gIx [.bor 0,.ex (sC (.int 1))])])) bf) (au (aX (aK gEq [.bor 1,.ex (sC (.str "sides"))]) (aB (ar none none dS [.ex (sOp gIx [.bor 0,.ex (sC (.int 1))]),.ex (sOp gIx [.bor 0,.ex (sC (.int 2))])])) bf) (au (aX (aK gEq [.bor 1,.ex (sC (.str "full"))]) (aB (ar none none kH [.ex (sOp gIx [.bor 0,.ex (sC (.int 1))])])) bf) (au (aX (aK gEq [.bor 1,.ex (sC (.str "wheel"))]) (aB (ar none none jF [.ex (sOp gIx [.bor 0,.ex (sC (.int 1))])])) bf) (aB (ar none none i0 [.ex (sOp gIx [.bor 0,.ex (sC (.int 1))])]))))))))
noncomputable def bW:FS:=az 1 2 none gX
abbrev ko:=OkY "ties_in" ["kind"] 4 none bW
theorem ud(h:Has K mg "ties_in" (top 31) ["kind"])(T:Txt K mg)(G24:jP P w K mg base)(G17:kN P w K mg base)(G23:jQ P w K mg base)(G12:kR P w K mg base)(G26:jN P w K mg base)(G3:jc P w K mg base):ko P w K mg base:=by
 trace "ȔqyвǈгвǉгвǊҊгвǋгвǌЇfŝЇ"
noncomputable def ji:SS:=(aX (dC (.ex (ar none none bn [.bor 0,.bor 1]))) (dD 1) bf)
noncomputable def lY:SS:=(au (dP (cH (sC gG)) (.nm 1) ji) (aB (sC .non)))
noncomputable def fO:FS:=az 1 2 none lY
abbrev nP:=OkY "step_bar" ["web"] 4 none fO
theorem r6(h:Has K mg "step_bar" (top 43) ["web"])(T:Txt K mg)(G39:fE P w K mg base):nP P w K mg base:=by
 trace "ɦǢЀēɧǦщҕǍaR(ǼǬfĔ"
noncomputable def iG:SS:=(au (aW 5 (ar none none fN [.bor 0,.bor 4])) (au (aX (sOr (aK gIs [.bor 5,.ex (sC .non)]) (sOr (aK gIn [.bor 5,.bor 2]) (aK gGe [.bor 3,.ex (sC (.int 60))]))) (fun _=>none) bf) (eD re 2 (sC (.bl true)) (aY 5))))
noncomputable def rF:SS:=(au (aX (eB (dC (.ex (ar none none e7 [.bor 0])))) (fun _=>none) bf) (au (aW 2 (x9 (.dT [] []))) (au (dP (eV (aY 1)) (.tp [(.nm 3),(.nm 4)]) iG) (aB (aR [(aY 0),(sOp dL [.ex (sOp dM [.bor 2])])])))))
noncomputable def jG:FS:=az 2 6 none rF
abbrev tH:=OkY "web_of" ["many", "things"] 5 none jG
theorem wt(h:Has K mg "web_of" (top 20) ["many", "things"])(T:Txt K mg)(G15:kO P w K mg base)(G8:nO P w K mg base):tH P w K mg base:=by
 trace "ɨǢипǎR(ŞѶǏЀȊ-ǲееćcǐaRѽǑ_ĔJȎќ9ŕ_Ȫ(Ş2(ɩĈ-ǬYдьȀЋǠ"
noncomputable def kB:SS:=(aB (bV (ar none none bz [.bor 0]) (bV (sOp gLe [.ex (ar none none bh [.bor 0]),.ex (sC (.int 40))]) (sOp gLe [.ex (sOp bS [.ex (ar none none bW [.bor 0])]),.ex (sC (.int 60))]))))
noncomputable def e9:FS:=az 1 1 none kB
abbrev kQ:=OkY "kind_good" ["thing"] 5 none e9
theorem qu(h:Has K mg "kind_good" (top 25) ["thing"])(T:Txt K mg)(G11:kS P w K mg base)(G16:gO P w K mg base)(G1:ko P w K mg base):kQ P w K mg base:=by
 trace "ǾvOǒROş$ŠR$Ȃ6şїQšЋ$Ȫ"
noncomputable def fg:SS:=(au (aX (sOr (aK gEq [.ex (sOp eO [.ex (sOp gIx [.bor 0,.ex (sC (.int 0))]),.ex (sC (.int 4))]),.ex (sC (.int 0))]) (aK gEq [.ex (sOp eO [.ex (sOp gIx [.bor 0,.ex (sC (.int 0))]),.ex (sC (.int 4))]),.ex (sC (.int 3))])) (aB (aR [(sC (.str "numbering")),(ar none none dU [.ex (sOp gIx [.bor 0,.ex (sC (.int 0))])])])) bf) (aB (aR [(sC (.str "bar")),(ar none none fO [.bor 0])])))
noncomputable def bC:FS:=az 1 1 none fg
abbrev iw:=OkY "ring_answer" ["web"] 5 none bC
theorem mK(h:Has K mg "ring_answer" (top 49) ["web"])(T:Txt K mg)(G22:jR P w K mg base)(G7:nP P w K mg base):iw P w K mg base:=by
 trace "ȜǢѽѰѯU9ѰѯUYЄǓЇǠfЄǔRǠ"
noncomputable def oK:SS:=(au (aX (eB (dC (.ex (ar none none e9 [.bor 0])))) (p7 "NoKind") bf) (aB (ar none none jG [.ex (ar none none bh [.bor 0]),.ex (ar none none bW [.bor 0])])))
noncomputable def ia:FS:=az 1 1 none oK
abbrev pE:=OkY "web_for" ["kind"] 6 none ia
theorem uc(h:Has K mg "web_for" (top 26) ["kind"])(T:Txt K mg)(G13:kQ P w K mg base)(G0:tH P w K mg base)(G16:gO P w K mg base)(G1:ko P w K mg base)(R_NoKind:lI K mg base "NoKind"):pE P w K mg base:=by
 trace "ȝǢипǕR(ȞfǖQŠRQšЋ"
noncomputable def eP:SS:=(au (aW 1 (ar none none ia [.bor 0])) (au (aX (aK gEq [.ex (sOp gIx [.bor 0,.ex (sC (.int 0))]),.ex (sC (.str "ring"))]) (aB (ar none none bC [.bor 1])) bf) (aB (aR [(sC (.str "numbering")),(ar none none bX [.bor 0])]))))
noncomputable def bg:FS:=az 1 2 none eP
abbrev gN:=OkY "steps_for" ["kind"] 7 none bg
theorem qm(h:Has K mg "steps_for" (top 45) ["kind"])(T:Txt K mg)(G2:pE P w K mg base)(G29:iw P w K mg base)(G28:iz P w K mg base):gN P w K mg base:=by
 trace "ɪqǗRКЛнǘRfЄǙRǠ"
noncomputable def cW:SS:=(au (aW 1 (ar none none bg [.bor 0])) (au (aX (sOr (eB (dC (.ex (sOp (fZ "tuple") [.bor 1])))) (sOr (aK gNe [.ex (sOp bS [.bor 1]),.ex (sC (.int 2))]) (aK gNe [.ex (ar none none bg [.bor 0]),.bor 1]))) (aB (sC (.bl false))) bf) (au (aX (jo (aK gEq [.ex (sOp gIx [.bor 0,.ex (sC (.int 0))]),.ex (sC (.str "ring"))]) (aK gIn [.ex (sOp eO [.ex (sOp gIx [.bor 0,.ex (sC (.int 1))]),.ex (sC (.int 4))]),.ex (aR [(sC (.int 1)),(sC (.int 2))])])) (aB (bV (sOp gEq [.bor 1,.ex (aR [(sC (.str "bar")),(aR [(sC (.str "even"))])])]) (sOp (fZ "tuple") [.ex (sOp gIx [.bor 1,.ex (sC (.int 1))])]))) bf) (aB (bV (sOp gEq [.ex (sOp gIx [.bor 1,.ex (sC (.int 0))]),.ex (sC (.str "numbering"))]) (ar none none cf [.ex (ar none none aS [.bor 0]),.ex (sOp gIx [.bor 1,.ex (sC (.int 1))])]))))))
noncomputable def ax:FS:=az 1 2 none cW
abbrev jT:=OkY "_law_right" ["kind"] 8 none ax
theorem om(h:Has K mg "_law_right" (top 62) ["kind"])(T:Txt K mg)(G19:gN P w K mg base)(G41:fb P w K mg base)(G38:fX P w K mg base):jT P w K mg base:=by
 trace "ɫqŢRёǴ%JǵѴ9ǵ$ŢR%З2җřǪэŚȎ҇ѯ$eruYѐ_ЄeюǠ6ǴЃfѐэ6ǚQǛRЇ"
noncomputable def l9:SS:=(au (sTry nms 1 (ci (ar none none bg [.bor 0])) (aB (sOp gEq [.ex (Kd.xZ nms 1),.ex (sC (.str "kind"))]))) (aB (sC (.bl false))))
noncomputable def av:FS:=az 1 2 none l9
abbrev gQ:=OkY "_law_no_kind" ["thing"] 8 none av
theorem lg(h:Has K mg "_law_no_kind" (top 63) ["thing"])(T:Txt K mg)(G19:gN P w K mg base){TEa:Addr}(HT:Hdl K mg "TieError" TEa)(SU:∀ nm,nms.elem nm=true->∀ C,gK K nm C->PySem.W.subIn K (.ref C) (.ref TEa)=some true)(GK:OkA P w K mg base "_law_kind_of" ["e"] 1 (Kd.tU K mg))(KN:Kd.AD K mg nms):gQ P w K mg base:=by
 trace "ɬǢ,ɭǰ(ĂɮRǰYǭ$ɯ$нĈ"
noncomputable def u9:SS:=(aX (eB (dC (.ex (ar none none ax [.bor 2])))) (aB (sC (.bl false))) bf)
noncomputable def u8:SS:=(aX (eB (dC (.ex (ar none none av [.bor 4])))) (aB (sC (.bl false))) bf)
noncomputable def lw:SS:=(aX (eB (dC (.ex (ar none none ax [.ex (mf aZ (ar none none bY [.bor 5]) [.ex (sC (.int 3))])])))) (aB (sC (.bl false))) bf)
noncomputable def xX:SS:=(au (aW 1 (bG [(aR [(sC (.str "spine")),(aR [(sC (.int 0))])]),(aR [(sC (.str "spine")),(aR [(sC (.int 39))])]),(aR [(sC (.str "spine")),(sOp nq [.ex (aR [(sC (.int 0))]),.ex (sC (.int 40))])]),(aR [(sC (.str "ring")),(sC (.int 3))]),(aR [(sC (.str "ring")),(sC (.int 40))])])) (au (aW 1 (sOp aU [.bor 1,.ex (bG [(aR [(sC (.str "sides")),(sC (.int 1)),(sC (.int 1))]),(aR [(sC (.str "sides")),(sC (.int 6)),(sC (.int 10))])])])) (au (dP (cH (aY 1)) (.nm 2) u9) (au (aW 3 (bG [(sC .non),(aR []),(sC (.str "ring")),(bG [(sC (.str "ring")),(sC (.int 4))]),(aR [(sC (.str "ring")),(sC (.int 2))]),(aR [(sC (.str "ring")),(sC (.int 41))]),(aR [(sC (.str "ring")),(sC (.bl true))]),(aR [(sC (.str "full")),(sC (.int 3))])])) (au (aW 3 (sOp aU [.bor 3,.ex (bG [(aR [(sC (.str "wheel")),(sC (.int 4))]),(aR [(sC (.str "fan")),(sC (.int 2))])])])) (au (dP (cH (sOp aU [.bor 3,.ex (bG [(aR [(sC (.str "spine")),(aR [])]),(aR [(sC (.str "spine")),(bG [(sC (.int 0))])]),(aR [(sC (.str "sides")),(sC (.int 8)),(sC (.int 8))]),(aR [(sC (.str "sides")),(sC (.int 3))]),(aR [(sC (.str "path")),(sC (.int 3))]),(aR [(sC (.str "full")),(sC (.int 12))])])])) (.nm 4) u8) (au (dP (cH (sOp aU [.ex (bG [(ar none none br [.bor 0,.ex (sC (.int 0))])]),.ex (sOp (B3 1 6) [.bor 0])])) (.nm 5) lw) (aB (sC (.bl true))))))))))
noncomputable def sM:FS:=az 1 6 none xX
theorem ok_law{f0:Addr}{fd0:FuncData}(h:Fun K "law" "law" (top 64) f0 fd0)(T:Txt K mg)(G20:jT P w K mg base)(G35:gQ P w K mg base)(G33:gS P w K mg base)(G34:gR P w K mg base)(G27:iA P w K mg base):kq P w K mg base (CXr P w) 9 f0 fd0 ["script"] (spF K none sM):=by
 trace "ɰqiЄeТЩeТЩǜ$euUǠЩУТcзiЄrУrТЀē-ǦщпţRЗѶiĔǡĭǠǡЂiЂУУУĈǠЩТcзiЄУТЀēзiЄĭǠǠЩiТЩrУУУТǦщпǝRЗ2Ѐē0ЌǞѿǠ$ɱ%ǦщпţQɲǟRШяЗfĈ"
end
end K17
namespace K17
open PySem L2
theorem AM{i:Int}:fP [.int i]=some (.ok (.bl true) false,.non):=by
 unfold fP l7
 trace "Ј<XS!ĵXSW"
theorem gf{i lo hi:Int}:bq [.int i,.int lo,.int hi]=some (.ok (.bl (decide (lo<=i)&&decide (i<=hi))) false,.non):=by
 have h := @AM;unfold bq gn
 trace "Ј<k@!!Ŧ'Ѹ'ѸP7[W"
theorem t_many{n:Int}:e7 [.int n]=some (.ok (.bl (decide (1<=n)&&decide (n<=40))) false,.non):=by
 have h := @gf;unfold e7 ky
 trace "ЈoИx@z"
theorem AN{n i:Int}:fQ [.int n,.int i]=some (.ok (.bl (decide (0<=i)&&decide (i<=n - 1))) false,.non):=by
 have h := @gf;unfold fQ l8
 trace "ЈoИОP@z"
theorem t_told{n a b:Int}(h0:0<=a)(h1:a < b)(h2:b < n):fN [.int n,.tup [.int a,.int b]]=some (.ok (.tup [.int a,.int b]) false,.non):=by
 have h := @AN
 have mn:gH [.tup [.int a,.int b]]=some (.int a,false):=by
  show some (D.int (if a<=b then a else b),false)=_
  rw [if_pos (by omega)]
 have mx:fA [.tup [.int a,.int b]]=some (.int b,false):=by
  show some (D.int (if b<=a then a else b),false)=_
  rw [if_neg (by omega)]
 have al:ki [.lst [.bl (decide (0<=a)&&decide (a<=n - 1)),.bl (decide (0<=b)&&decide (b<=n - 1))]]=some (.bl true,false):=by
  rw [DF h0,DF (show a<=n - 1 by omega),DF (show 0<=b by omega),DF (show b<=n - 1 by omega)];rfl
 unfold fN lX
 trace "ѝАgǨ|Җ'ў7WĊǧoT@!ǶĊǧoT@!Ƕĝ#ĕSѹмǷЫМБPŨБPũЉ"
noncomputable def kT(t:Int×Int):List Key:=[.inl t.1,.inl t.2]
theorem uj{a b:Int×Int}(h:kT a=kT b):a=b:=by
 unfold kT at h;simp at h;exact Prod.ext h.1 h.2
theorem wB{ts:List (Int×Int)}{t:Int×Int}(h:t∉ts):∀ vs:List D,bQ (ts.map kT) vs (kT t)=none:=by
 induction ts with
 | nil=>intro vs;cases vs<;>rfl
 | cons u ts ih =>
  intro vs
  cases vs with
  | nil=>rfl
  | cons v vs =>
   rw [DE];unfold bQ;rw [if_neg (fun e=>h (by rw [uj e];exact Dv))];exact ih (fun z=>h (Dr _ z)) vs
theorem Bq{ts:List (Int×Int)}{t:Int×Int}(h:t∉ts):j0 (ts.map kT) (List.replicate ts.length (.bl true)) (kT t) (.bl true)=((ts++[t]).map kT,List.replicate (ts++[t]).length (.bl true)):=by
 induction ts with
 | nil=>rfl
 | cons u ts ih =>
  rw [DE,Dq,Ez];unfold j0;rw [if_neg (fun e=>h (by rw [uj e];exact Dv)),ih fun z=>h (Dr _ z)];rfl
theorem zr{ts:List (Int×Int)}(h:ts.Nodup):(ts.map kT).Nodup:=by
 induction ts with
 | nil=>exact FH
 | cons u ts ih =>
  have h:=Er.mp h;rw [DE];refine Er.mpr ⟨fun z=> ?_,ih h.2⟩;obtain ⟨v,hv,e⟩:=Ev.mp z;exact h.1 (by rw [<- uj e];exact hv)
theorem zp(ts:List (Int×Int)):o0 (ts.map kT)=some (ts.map fun t=>[t.1,t.2]):=by
 induction ts with
 | nil=>rfl
 | cons u ts ih =>
  rw [DE];unfold o0;rw [ih];rfl
theorem v9{ts:List (Int×Int)}(h:ts.length < 64){vs:List D}:dM [.dT (ts.map kT) vs]=some (.lst (tD (cJ ts)),true):=by
 unfold dM;simp only [zp,Do,h,decide_true,if_true];rw [<- my,tS]
theorem xI{n:Nat}{ts:List (Int×Int)}(O:cb n ts):jG [.int (n:Nat),.lst (tD ts)]=some (.ok (iE (n:Nat) (cJ ts)) false,.non):=by
 have n0:=O.n0;have n1:=O.n;have ll:=O.l;have tm := @t_many;have tt := @t_told;have sr:=v9 (ts:=ts) (by omega) (vs:=List.replicate ts.length (.bl true))
 obtain ⟨ρ',e,a,b,c,rfl⟩:=kD (T:= .tp [.nm 3,.nm 4]) (f:=iG) (inj:=fun p:(Int×Int)×Nat=> .tup [.int (p.2:Nat),xH p.1]) (fun i (_:Unit) ρ=>∃ a b c,ρ=[some (.int (n:Nat),.fz),some (.lst (tD ts),.fz),some (.dT ((ts.take i).map kT) (List.replicate (ts.take i).length (.bl true)),.ow),a,b,c]) (fun _ _=>()) ts.zipIdx 0 () [some (.int (n:Nat),.fz),some (.lst (tD ts),.fz),some (.dT [] [],.ow),none,none,none] ⟨none,none,none,rfl⟩ (by
  rintro i ⟨t,j⟩ hx _ ρ ⟨a,b,c,rfl⟩;rw [List.getElem?_zipIdx] at hx;obtain ⟨t',ht,e⟩:=Ee.mp hx;cases e;rw [Ep] at *;have hi:=(DA.mp ht).1;have hr:=O.r t (DD ht)
  have tk:ts.take (i+1)=ts.take i++[t]:=by rw [List.take_add_one,ht];rfl
  have nd:(ts.take i++[t]).Nodup:=by rw [<- tk];exact O.d.sublist (List.take_sublist _ _)
  have ni:t∉ts.take i:=fun z=>by
   rw [FF] at nd;exact nd.2.2 t z t (DC.mpr rfl) rfl
  have gi:gIn [.tup [.int t.1,.int t.2],.dT ((ts.take i).map kT) (List.replicate (ts.take i).length (.bl true))]=some (.bl false,false):=by
   show (match (some (bQ ((ts.take i).map kT) (List.replicate (ts.take i).length (.bl true)) (kT t)).isSome) with | some b=>some (D.bl b,false) | none=>none)=_
   rw [wB ni];rfl
  have up:re (.dT ((ts.take i).map kT) (List.replicate (ts.take i).length (.bl true))) (.tup [.int t.1,.int t.2]) (.bl true)=some (.dT ((ts.take i++[t]).map kT) (List.replicate (ts.take i++[t]).length (.bl true))):=by
   show (if (small ((ts.take i).map kT).length&&decide ((ts.take i).map kT).Nodup)=true then some (D.dT (j0 ((ts.take i).map kT) (List.replicate (ts.take i).length (.bl true)) (kT t) (.bl true)).1 (j0 ((ts.take i).map kT) (List.replicate (ts.take i).length (.bl true)) (kT t) (.bl true)).2) else none)=_
   rw [Bq ni,if_pos];rw [gl (by rw [Do,EU];omega),DF (zr (O.d.sublist (List.take_sublist _ _)))];rfl
  unfold iG
  trace "џoTūlǤhѺҁ1ЎTċ!ЎZЫŬ4!7[ŭǣ"
  rw [tk]
  exact ⟨_,_,_,rfl⟩)
 rw [List.length_zipIdx,Ep,List.take_length] at e;unfold jG rF
 trace "bt҈Ů!Pȫ8]ůтĞ7[:Мѓ&уķPЉ"
end K17
namespace K17
open PySem L2
abbrev spK(legs:List Nat):D:= .tup [.str "spine",.tup (nD (iL legs))]
abbrev cI(n:Int):D:= .tup [.str "ring",.int n]
abbrev cU(m n:Int):D:= .tup [.str "sides",.int m,.int n]
theorem Cz{a b:Int}(h0:0<=a)(h1:a<=1000)(h2:0<=b)(h3:b<=1000):dy [.int a,.int b]=some (.ok (.lst (tD (iJ a (b - a).toNat))) true,.non):=by
 unfold dy lZ
 trace "ЈăĸsTllǤ!ğѠMѓБZ)[W"
theorem xJ{m a b:Int}(h0:0<=a)(h1:a<=1000)(h2 : -1<=b)(h3:b<=1000):bx [.int m,.int a,.int b]=some (.ok (.lst (tD ((rgI a (b+1 - a).toNat).map fun x=>(m,x)))) true,.non):=by
 unfold bx kw
 trace "ЈăĸsОPllǤ!ğѠM}[W"
theorem Cc{legs r:List Nat}{k l:Nat}(h:legs.drop k=l::r):legs[k]?=some l/\legs.drop (k+1)=r/\k < legs.length:=by
 have h1:legs[k]?=some l:=by
  have:=congrArg (fun x=>x[0]?) h;simpa using this
 refine ⟨h1,?_,(DA.mp h1).1⟩;have:=congrArg List.tail h;simpa using this
abbrev enD(p:Nat×Nat):D:= .tup [.int (p.2:Nat),.int (p.1:Nat)]
theorem Da(legs:List Nat):(iL legs).zipIdx.map (fun p:Int×Nat=>D.tup [.int (p.2:Nat),.int p.1])=legs.zipIdx.map enD:=by
 have:∀ (legs:List Nat) (k:Nat),((iL legs).zipIdx k).map (fun p:Int×Nat=>D.tup [.int (p.2:Nat),.int p.1])=(legs.zipIdx k).map enD:=by
  intro legs
  induction legs with
  | nil=>intro k;rfl
  | cons l r ih=>intro k;show _::_=_::_;rw [<- ih (k+1)]
 exact this legs 0
theorem oJ{L:Option (D×Md)}:∀ (r:List Nat) (k:Nat) (fr:Nat) (ts:List (Int×Int)) (a c:Option (D×Md)),ts.length+r.sum<=1000->fr+r.sum<=1000 ->
 ∃ a' c':Option (D×Md),bF (.tp [.nm 3,.nm 4]) cV ((r.zipIdx k).map enD) [L,some (.lst (tD ts),.ow),some (.int (fr:Nat),.fz),a,c]=some (.nx,[L,some (.lst (tD (ts++stT (k:Nat) (fr:Nat) r)),.ow),some (.int ((fr+r.sum:Nat):Int),.fz),a',c'])
 | [],k,fr,ts,a,c,h,h2=>⟨a,c,by simp [stT];rfl⟩
 | l::r,k,fr,ts,a,c,h,h2=>by
  rw [EM] at h h2;obtain ⟨a',c',e2⟩:=oJ r (k+1) (fr+l) (ts++(rgI (fr:Nat) l).map fun x=>((k:Int),x)) (some (.int (k:Nat),.fz)) (some (.int (l:Nat),.fz)) (by simp [aE];omega) (by omega);refine ⟨a',c',?_⟩
  have eT:ts++(rgI (fr:Nat) l).map (fun x=>((k:Int),x))++stT ((k+1:Nat):Int) ((fr+l:Nat):Int) r=ts++stT (k:Nat) (fr:Nat) (l::r):=by
   rw [Eh];rfl
  rw [eT,show fr+l+r.sum=fr+(l::r).sum by rw [EM];omega] at e2
  have st:bx [.int (k:Nat),.int (fr:Nat),.int ((fr:Int)+(l:Nat) - 1)]=some (.ok (.lst (tD ((rgI (fr:Nat) l).map fun x=>((k:Int),x)))) true,.non):=by
   rw [xJ (by omega) (by omega) (by omega) (by omega),show ((fr:Int)+(l:Nat) - 1+1 - (fr:Nat)).toNat=l by omega]
  have ex:cu (.lst (tD ts)) [.lst (tD ((rgI (fr:Nat) l).map fun x=>((k:Int),x)))]=some (.lst (tD (ts++(rgI (fr:Nat) l).map fun x=>((k:Int),x))),.non):=jg (by rw [Do,aE];omega)
  have e0:cV [L,some (.lst (tD ts),.ow),some (.int (fr:Nat),.fz),some (.int (k:Nat),.fz),some (.int (l:Nat),.fz)]=some (.nx,[L,some (.lst (tD (ts++(rgI (fr:Nat) l).map fun x=>((k:Int),x))),.ow),some (.int ((fr:Int)+(l:Nat)),.fz),some (.int (k:Nat),.fz),some (.int (l:Nat),.fz)]):=by
   unfold cV
   trace "3ѡ&os'Ь!xSĹ!ВĖǣČ!7h!"
  rw [List.zipIdx_cons,DE];rw [show ((fr+l:Nat):Int)=(fr:Int)+(l:Nat) by omega] at e2
  trace "3Йčė!"
theorem pI{legs:List Nat}(h0:legs≠[])(hb:legs.length+legs.sum<=900):dR [.tup (nD (iL legs))]=some (.ok (.lst (tD (spT legs))) true,.non):=by
 have hl:=DS.mpr h0;have r:=Cz (a:=0) (b:=(legs.length:Int) - 1) (by omega) (by omega) (by omega) (by omega);rw [show ((legs.length:Int) - 1 - 0).toNat=legs.length - 1 by omega] at r;obtain ⟨a',c',e⟩:=oJ (L:=some (.tup (nD (iL legs)),.fz)) legs 0 legs.length (iJ 0 (legs.length - 1)) none none (by unfold iJ;rw [Do,aE];omega) (by omega)
 have ln:bS [.tup (nD (iL legs))]=some (.int (legs.length:Nat),false):=by rw [dX,Do]
 rw [<- Da] at e;unfold dR jj
 trace "`5И'уGx#Ġh]XPGтĞ7[:ĺVW"
theorem rq{n:Nat}(h0:1<=n)(h1:n<=900):eZ [.int (n:Nat)]=some (.ok (.lst (tD (jp n))) true,.non):=by
 have r:=Cz (a:=0) (b:=(n:Int) - 1) (by omega) (by omega) (by omega) (by omega);rw [show ((n:Int) - 1 - 0).toNat=n - 1 by omega] at r
 have l:(iJ 0 (n - 1)).length=n - 1:=by unfold iJ;rw [Do,aE]
 unfold eZ kx
 trace "Ј^5ИО#Ġ!ЭГБZ))#ŴǤW"
theorem pK{m n:Nat}(h1:m<=40)(h2:n<=40)(h3:m * n<=900):dS [.int (m:Nat),.int (n:Nat)]=some (.ok (.lst (tD (gm m n))) true,.non):=by
 have fl:∀ i:Nat,((rgI 0 i).flatMap fun p=>(rgI (m:Nat) n).map fun x=>(p,x)).length=i * n:=by
  intro i
  induction i with
  | zero=>simp [rgI]
  | succ i ih=>rw [bN,Fq,DI,ih];simp [aE,Nat.add_mul]
 obtain ⟨ρ',e,a,rfl⟩:=eC (T:= .nm 3) (f:=dZ) (fun i ρ=>∃ a,ρ=[some (.int (m:Nat),.fz),some (.int (n:Nat),.fz),some (.lst (tD ((rgI 0 i).flatMap fun p=>(rgI (m:Nat) n).map fun x=>(p,x))),.ow),a]) m [some (.int (m:Nat),.fz),some (.int (n:Nat),.fz),some (.lst [],.ow),none] ⟨none,by simp [rgI]⟩ (by
  rintro i hi ρ ⟨a,rfl⟩
  have st:bx [.int (i:Nat),.int (m:Nat),.int ((m:Int)+(n:Nat) - 1)]=some (.ok (.lst (tD ((rgI (m:Nat) n).map fun x=>((i:Int),x)))) true,.non):=by
   rw [xJ (by omega) (by omega) (by omega) (by omega),show ((m:Int)+(n:Nat) - 1+1 - (m:Nat)).toNat=n by omega]
  have lb:i * n<=900:=Eu (Nat.mul_le_mul_right n (by omega)) h3;have ex:cu (.lst (tD ((rgI 0 i).flatMap fun p=>(rgI (m:Nat) n).map fun x=>(p,x)))) [.lst (tD ((rgI (m:Nat) n).map fun x=>((i:Int),x)))]=some (.lst (tD (((rgI 0 i).flatMap fun p=>(rgI (m:Nat) n).map fun x=>(p,x))++(rgI (m:Nat) n).map fun x=>((i:Int),x))),.non):=jg (by rw [fl,Do,aE];omega);unfold dZ
  trace "Ѿс&os'Ь!xSĹ!ВĖǣ"
  rw [bN,Fq,Int.zero_add,List.flatMap_cons,List.flatMap_nil,DW]
  exact ⟨_,rfl⟩)
 have hm:m<=1000000:=by omega
 unfold dS jk
 trace "`Ѣтѣŵ:ĺVW"
end K17
namespace K17
open PySem L2
theorem t_legs{legs:List Nat}(h0:legs≠[])(hb:∀ l∈legs,l<=40):e8 [.tup (nD (iL legs))]=some (.ok (.bl true) false,.non):=by
 have h := @gf;have hl:=DS.mpr h0
 have ln:bS [.tup (nD (iL legs))]=some (.int (legs.length:Nat),false):=by rw [dX,Do]
 have al:((iL legs).map fun x=>decide (0<=x)&&decide (x<=40)).all id=true:=by
  rw [List.all_map,List.all_map,DJ];intro x hx;have:=hb x hx
  show (decide (0<=(x:Int))&&decide ((x:Int)<=40))=true
  rw [DF (by omega),DF (by omega)];rfl
 unfold e8 kA
 trace "ѝ+ДGлЫ/ў7WġǱјoИx@W#ȃ["
 rw [al]
theorem t_num1{a n:Int}(h1:a<=n)(h2:n<=40):bP [.ktup [.int a],.tup [.int n]]=some (.ok (.bl true) false,.non):=by
 have h := @gf
 have al:ki [.lst [.bl (decide (a<=n)&&decide (n<=40))]]=some (.bl true,false):=by rw [DF h1,DF h2];rfl
 unfold bP em
 trace "btАє#Ǩ|/҅Ļ}!ǸȐ!ĊǧosZ@!Ƕĝ#ĕW"
theorem t_num2{a b n m:Int}(h1:a<=n)(h2:n<=40)(h3:b<=m)(h4:m<=40):bP [.ktup [.int a,.int b],.tup [.int n,.int m]]=some (.ok (.bl true) false,.non):=by
 have h := @gf
 have al:ki [.lst [.bl (decide (a<=n)&&decide (n<=40)),.bl (decide (b<=m)&&decide (m<=40))]]=some (.bl true,false):=by rw [DF h1,DF h2,DF h3,DF h4];rfl
 unfold bP em
 trace "btАє#Ǩ|/҅Ļ}!ǸȐ!ĊǧosZ@!ǶĊǧosZ@!Ƕĝ#ĕW"
theorem v6{legs:List Nat}(h0:legs≠[])(hb:∀ l∈legs,l<=40):bz [spK legs]=some (.ok (.bl true) false,.non):=by
 have h:=t_legs h0 hb;unfold bz eR
 trace "ѝАZ8]љПѤ?єл!5ѥ"
theorem rC{n:Int}(h1:3<=n)(h2:n<=40):bz [cI n]=some (.ok (.bl true) false,.non):=by
 have h:=t_num1 h1 h2;have g1:pd bi bj [.str "ring"]=some (.ktup [.int 3],false):=rfl;have g2:uq [cI n,.int 1]=some (.tup [.int n],false):=rfl;unfold bz eR
 trace "ѝАZ8]Ѧр+T|ЮДĽХľ#Nz"
theorem pQ{m n:Int}(h1:1<=m)(h2:m<=40)(h3:1<=n)(h4:n<=40):bz [cU m n]=some (.ok (.bl true) false,.non):=by
 have h:=t_num2 h1 h2 h3 h4;have g1:pd bi bj [.str "sides"]=some (.ktup [.int 1,.int 1],false):=rfl;have g2:uq [cU m n,.int 1]=some (.tup [.int m,.int n],false):=rfl;unfold bz eR
 trace "ѝАZ8]Ѧр+T|ЮДĽХľ#Nz"
theorem rA{legs:List Nat}:bh [spK legs]=some (.ok (.int ((legs.length+legs.sum:Nat):Int)) false,.non):=by
 have ln:bS [.tup (nD (iL legs))]=some (.int (legs.length:Nat),false):=by rw [dX,Do]
 have sm:iY [.tup (nD (iL legs))]=some (.int (legs.sum:Nat),false):=by rw [o8,pU]
 unfold bh eQ
 trace "`љП/^n#Gҍ#Ģф"
theorem nY{n:Int}:bh [cI n]=some (.ok (.int n) false,.non):=by
 unfold bh eQ
 trace "`ѦНѺҁғ/Ҍz"
theorem lQ{m n:Int}:bh [cU m n]=some (.ok (.int (m+n)) false,.non):=by
 unfold bh eQ
 trace "`ѦП/nЍф"
theorem vZ{legs:List Nat}(h0:legs≠[])(hb:legs.length+legs.sum<=900):bW [spK legs]=some (.ok (.lst (tD (spT legs))) true,.non):=by
 have h:=pI h0 hb;unfold bW gX
 trace "`љПЮѥ"
theorem rn{n:Nat}(h0:1<=n)(h1:n<=900):bW [cI (n:Nat)]=some (.ok (.lst (tD (jp n))) true,.non):=by
 have h:=rq h0 h1;unfold bW gX
 trace "`ѦПЮѥ"
theorem pH{m n:Nat}(h1:m<=40)(h2:n<=40)(h3:m * n<=900):bW [cU (m:Nat) (n:Nat)]=some (.ok (.lst (tD (gm m n))) true,.non):=by
 have h:=pK h1 h2 h3;unfold bW gX
 trace "`ѦНПЮЍѥ"
structure nV(k:D)(n:Nat)(ts:List (Int×Int)):Prop where
 f:bz [k]=some (.ok (.bl true) false,.non)
 p:bh [k]=some (.ok (.int (n:Nat)) false,.non)
 t:bW [k]=some (.ok (.lst (tD ts)) true,.non)
 o:cb n ts
theorem rB{k:D}{n:Nat}{ts:List (Int×Int)}(O:nV k n ts):e9 [k]=some (.ok (.bl true) false,.non):=by
 have h1:=O.f;have h2:=O.p;have h3:=O.t;have n1:=O.o.n;have l1:=O.o.l;unfold e9 kB
 trace "Ј<kĿ[<^kŀ!xǩ^^kŁ!#łй"
 rw [DF (show (ts.length:Int)<=60 by omega)]
theorem jY{k:D}{n:Nat}{ts:List (Int×Int)}(O:nV k n ts):ia [k]=some (.ok (iE (n:Nat) (cJ ts)) false,.non):=by
 have h1:=rB O;have h2:=O.p;have h3:=O.t;have h4:=xI O.o;unfold ia oK
 trace "bt҈ĿѕЮЏŀ!ЏŁ!#Ŷz"
theorem ok_sp{legs:List Nat}(h0:legs≠[])(m:legs.length+legs.sum<=40):nV (spK legs) (legs.length+legs.sum) (spT legs):=⟨v6 h0 (zl (by omega)),rA,vZ h0 (by omega),sp_ok h0 m⟩
theorem BQ{n:Nat}(h1:3<=n)(h2:n<=40)(o:cb n (jp n)):nV (cI (n:Nat)) n (jp n):=⟨rC (by omega) (by omega),nY,rn (by omega) (by omega),o⟩
theorem yZ{m n:Nat}(h1:1<=m)(h2:1<=n)(h3:m+n<=40)(o:cb (m+n) (gm m n)):nV (cU (m:Nat) (n:Nat)) (m+n) (gm m n):=⟨pQ (by omega) (by omega) (by omega) (by omega),lQ,pH (by omega) (by omega) (by have:=o.l;rw [tW] at this;omega),o⟩
end K17
namespace K17
open PySem L2
theorem xQ{L:Option (D×Md)}:∀ (r:List Nat) (k:Nat) (b:Bool) (lo hi:Int) (row fur:List Int) (x5 x6:Option (D×Md)),(b=true↔k % 2=0)->row.length+r.length<=900->fur.length+r.sum<=900 ->
 ∃ lo' hi' x5' x6',bF (.tp [.nm 5,.nm 6]) bc ((r.zipIdx k).map enD) [L,some (.int lo,.fz),some (.int hi,.fz),some (.lst (nD row),.ow),some (.lst (nD fur),.ow),x5,x6]=some (.nx,[L,some (.int lo',.fz),some (.int hi',.fz),some (.lst (nD (row++rS b lo hi r)),.ow),some (.lst (nD (fur++rL b lo hi r)),.ow),x5',x6'])
 | [],k,b,lo,hi,row,fur,x5,x6,hb,h1,h2=>⟨lo,hi,x5,x6,by cases b<;>simp [rS,rL,cL]<;>rfl⟩
 | l::r,k,b,lo,hi,row,fur,x5,x6,hb,h1,h2=>by
  rw [Dq] at h1;rw [EM] at h2;rw [List.zipIdx_cons,DE]
  have hl:l<=1000000:=by omega
  cases b with
  | true =>
   have hk:=hb.mp rfl;obtain ⟨lo',hi',x5',x6',e⟩:=xQ (L:=L) r (k+1) false (lo+1) (hi - (l:Nat)) (row++[lo]) (fur++dnI hi l) (some (.int (k:Nat),.fz)) (some (.int (l:Nat),.fz)) (by constructor<;>intro z<;>first | cases z | omega) (by simp;omega) (by simp [jL];omega);refine ⟨lo',hi',x5',x6',?_⟩;rw [rS_t,rL_t,show row++lo::rS false (lo+1) (hi - (l:Nat)) r=row++[lo]++rS false (lo+1) (hi - (l:Nat)) r by simp,<- Eh]
   have dn:(rgI 0 l).map (fun x=>hi - x)=dnI hi l:=by unfold rgI dnI;rw [Eb];exact Ed fun x _=>by show hi - (0+(x:Nat))=hi - (x:Nat);omega
   have ex:cu (.lst (nD fur)) [.lst (nD ((rgI 0 l).map fun x=>hi - x))]=some (.lst (nD (fur++dnI hi l)),.non):=by rw [dn];exact jg (by rw [jL];omega)
   have e0:bc [L,some (.int lo,.fz),some (.int hi,.fz),some (.lst (nD row),.ow),some (.lst (nD fur),.ow),some (.int (k:Nat),.fz),some (.int (l:Nat),.fz)]=some (.nx,[L,some (.int (lo+1),.fz),some (.int (hi - (l:Nat)),.fz),some (.lst (nD (row++[lo])),.ow),some (.lst (nD (fur++dnI hi l)),.ow),some (.int (k:Nat),.fz),some (.int (l:Nat),.fz)]):=by
    unfold bc
    trace "3Bѧǩѡ҃!ĘǤǣѡ&ăѣĎ!ďѠXTWВĖǣCČ!4VČ!7h!"
   trace "3Йč:!"
  | false =>
   have hk:¬ k % 2=0:=fun z=>by have:=hb.mpr z;cases this
   obtain ⟨lo',hi',x5',x6',e⟩:=xQ (L:=L) r (k+1) true (lo+(l:Nat)) (hi - 1) (row++[hi]) (fur++rgI lo l) (some (.int (k:Nat),.fz)) (some (.int (l:Nat),.fz)) (by constructor<;>intro z<;>first | rfl | omega) (by simp;omega) (by simp [aE];omega);refine ⟨lo',hi',x5',x6',?_⟩;rw [rS_f,rL_f,show row++hi::rS true (lo+(l:Nat)) (hi - 1) r=row++[hi]++rS true (lo+(l:Nat)) (hi - 1) r by simp,<- Eh]
   have dn:(rgI 0 l).map (fun x=>lo+x)=rgI lo l:=by unfold rgI;rw [Eb];exact Ed fun x _=>by show lo+(0+(x:Nat))=lo+(x:Nat);omega
   have ex:cu (.lst (nD fur)) [.lst (nD ((rgI 0 l).map fun x=>lo+x))]=some (.lst (nD (fur++rgI lo l)),.non):=by rw [dn];exact jg (by rw [aE];omega)
   have e0:bc [L,some (.int lo,.fz),some (.int hi,.fz),some (.lst (nD row),.ow),some (.lst (nD fur),.ow),some (.int (k:Nat),.fz),some (.int (l:Nat),.fz)]=some (.nx,[L,some (.int (lo+(l:Nat)),.fz),some (.int (hi - 1),.fz),some (.lst (nD (row++[hi])),.ow),some (.lst (nD (fur++rgI lo l)),.ow),some (.int (k:Nat),.fz),some (.int (l:Nat),.fz)]):=by
    unfold bc
    trace "3DѧǮѡ҃!ĘǤǣѡ&ăѣĎ!ďѠXTWВĖǣCČ!7hČ!4V!"
   trace "3Йč:!"
theorem tQ{legs:List Nat}(h0:legs≠[])(hb:legs.length+legs.sum<=800):dz [.tup (nD (iL legs))]=some (.ok (.tup (nD (cN legs))) false,.non):=by
 have hl:=DS.mpr h0
 have hq:(legs.length:Int)+(legs.sum:Nat) - 1=(rem legs:Nat):=by unfold rem;omega
 obtain ⟨lo',hi',x5,x6,e⟩:=xQ (L:=some (.tup (nD (iL legs)),.fz)) legs 0 true 0 (rem legs:Nat) [] [] none none (by simp) (by simp;omega) (by simp;omega);rw [DX,DX,<- Da] at e;have e1:bF (.tp [.nm 5,.nm 6]) bc ((iL legs).zipIdx.map fun p:Int×Nat=>D.tup [.int (p.2:Nat),.int p.1]) [some (.tup (nD (iL legs)),.fz),some (.int 0,.fz),some (.int (rem legs:Nat),.fz),some (.lst [],.ow),some (.lst [],.ow),none,none]=_:=e
 have ln:bS [.tup (nD (iL legs))]=some (.int (legs.length:Nat),false):=by rw [dX,Do]
 have sm:iY [.tup (nD (iL legs))]=some (.int (legs.sum:Nat),false):=by rw [o8,pU]
 have mi:cq [.int ((legs.length:Int)+(legs.sum:Nat)),.int 1]=some (.int (rem legs:Nat),false):=by show some (D.int (_ - 1),false)=_;rw [hq]
 have cl:(rS true 0 (rem legs:Nat) legs++rL true 0 (rem legs:Nat) legs).length=rem legs+1:=by rw [De h0,cN_len h0]
 rw [DI] at cl
 have ad:aU [.lst (nD (rS true 0 (rem legs:Nat) legs)),.lst (nD (rL true 0 (rem legs:Nat) legs))]=some (.lst (nD (cN legs)),true):=by rw [<- De h0];exact fC (by rw [cl];unfold rem;omega)
 unfold dz ig
 trace "`4Я^уGДĢPgŸЯѢЯѢтĞ7[ę/ЬŹф"
theorem nX{m n:Nat}(h1:m<=40)(h2:n<=40):dA [.int (m:Nat),.int (n:Nat)]=some (.ok (.tup (nD (sdN m n))) false,.non):=by
 unfold dA ii
 trace "Ј^^?є#źǤ'ăѣǤ!ďѠXОPŃl[#ŻǸф"
theorem v4{legs:List Nat}(h0:legs≠[])(hb:legs.length+legs.sum<=800):bX [spK legs]=some (.ok (.tup (nD (cN legs))) false,.non):=by
 have h:=tQ h0 hb;unfold bX fh
 trace "bЅІЮѥ"
theorem pM{m n:Nat}(h1:m<=40)(h2:n<=40):bX [cU (m:Nat) (n:Nat)]=some (.ok (.tup (nD (sdN m n))) false,.non):=by
 have h:=nX h1 h2;unfold bX fh
 trace "bаЅІЮЍѥ"
end K17
namespace K17
open PySem L2
theorem ix_at{legs:List Nat}{k l:Nat}(h:legs[k]?=some l):gIx [.tup (nD (iL legs)),.int (k:Nat)]=some (.int (l:Nat),false):=by
 refine qF (km ?_);rw [nD,iL,DM,DM,h];rfl
theorem A7(k n:Nat):rgI (k:Nat) (n+1)=(k:Int)::rgI ((k+1:Nat):Int) n:=by rw [gs];rfl
theorem zi(k fr:Int)(ts:List (Int×Int))(i:Nat):ts++(rgI fr (i+1)).map (fun x=>(k,x))=(ts++(rgI fr i).map (fun x=>(k,x)))++[(k,fr+(i:Nat))]:=by
 rw [bN,Ec,Eh];rfl
theorem oZ{k l:Nat}{fr:Int}{ts:List (Int×Int)}{L c:Option (D×Md)}(h:ts.length+l<=1000):∃ c',bF (.nm 4) bH (nD (rgI 0 l)) [L,some (.lst (tD ts),.ow),some (.int fr,.fz),some (.int (k:Nat),.fz),c]=some (.nx,[L,some (.lst (tD (ts++(rgI fr l).map (fun x=>((k:Int),x)))),.ow),some (.int (fr+(l:Nat)),.fz),some (.int (k:Nat),.fz),c']):=by
 obtain ⟨ρ',e,c',rfl⟩:=eC (T:= .nm 4) (f:=bH) (fun i ρ=>∃ c,ρ=[L,some (.lst (tD (ts++(rgI fr i).map (fun x=>((k:Int),x)))),.ow),some (.int (fr+(i:Nat)),.fz),some (.int (k:Nat),.fz),c]) l [L,some (.lst (tD ts),.ow),some (.int fr,.fz),some (.int (k:Nat),.fz),c] ⟨c,by simp [rgI]⟩ (by
  rintro i hi ρ ⟨c,rfl⟩
  have hb:(ts++(rgI fr i).map (fun x=>((k:Int),x))).length<=1000:=by rw [DI,Do,aE];omega
  unfold bH
  trace "Ѿѡm}ВńѨAXZV"
  rw [zi,show fr+((i+1:Nat):Int)=fr+(i:Nat)+1 by omega]
  exact ⟨_,rfl⟩)
 exact ⟨c',e⟩
theorem iT(legs:List Nat):∀ (r:List Nat) (k:Nat) (fr:Int) (ts:List (Int×Int)) (a c:Option (D×Md)),legs.drop k=r->ts.length+r.length+r.sum<=1000 ->
 ∃ a' c':Option (D×Md),bF (.nm 3) aM (nD (rgI (k:Nat) r.length)) [some (.tup (nD (iL legs)),.fz),some (.lst (tD ts),.ow),some (.int fr,.fz),a,c]=some (.nx,[some (.tup (nD (iL legs)),.fz),some (.lst (tD (ts++(if 0 < k/\r≠[] then [((k:Int) - 1,(k:Int))] else [])++cT k fr r)),.ow),some (.int (fr+(r.sum:Nat)),.fz),a',c'])
 | [],k,fr,ts,a,c,h,hb=>⟨a,c,by simp [cT];rfl⟩
 | l::r,k,fr,ts,a,c,h,hb=>by
  obtain ⟨h1,h2,h3⟩:=Cc h;rw [Dq,EM] at hb;have ix:=ix_at h1;rw [Dq,A7,nD,DE]
  by_cases k0:0 < k
  ·obtain ⟨c1,e1⟩:=oZ (k:=k) (l:=l) (fr:=fr) (ts:=ts++[((k:Int) - 1,(k:Int))]) (L:=some (.tup (nD (iL legs)),.fz)) (c:=c) (by simp;omega)
   obtain ⟨a',c',e2⟩:=iT legs r (k+1) (fr+(l:Nat)) (ts++[((k:Int) - 1,(k:Int))]++(rgI fr l).map (fun x=>((k:Int),x))) (some (.int (k:Nat),.fz)) c1 h2 (by simp [aE];omega);refine ⟨a',c',?_⟩
   have eT:ts++[((k:Int) - 1,(k:Int))]++(rgI fr l).map (fun x=>((k:Int),x))++(if 0 < k+1/\r≠[] then [(((k+1:Nat):Int) - 1,((k+1:Nat):Int))] else [])++cT ((k+1:Nat):Int) (fr+(l:Nat)) r=ts++(if 0 < k/\(l::r)≠[] then [((k:Int) - 1,(k:Int))] else [])++cT k fr (l::r):=by
    rw [if_pos (show 0 < k/\(l::r)≠[] from ⟨k0,by simp⟩)]
    conv=>rhs;unfold cT
    by_cases hr:r=[]
    ·subst hr;simp [cT]
    ·rw [if_pos ⟨by omega,hr⟩,if_neg hr]
     simp only [Eh,Ef,DX];rw [show (((k+1:Nat):Int) - 1)=k by omega];rfl
   rw [eT,show fr+(l:Nat)+(r.sum:Nat)=fr+((l::r).sum:Nat) by rw [EM];omega] at e2
   have hb2:ts.length<=1000:=by omega
   have hl:l<=1000000:=by omega
   have e0:aM [some (.tup (nD (iL legs)),.fz),some (.lst (tD ts),.ow),some (.int fr,.fz),some (.int (k:Nat),.fz),c]=some (.nx,[some (.tup (nD (iL legs)),.fz),some (.lst (tD (ts++[((k:Int) - 1,(k:Int))]++(rgI fr l).map (fun x=>((k:Int),x)))),.ow),some (.int (fr+(l:Nat)),.fz),some (.int (k:Nat),.fz),c1]):=by
    unfold aM
    trace "3CBЎZǩсmБZ҃ВńѨFĄwTŅ#Ďę!"
   trace "3Йčė!"
  ·obtain ⟨c1,e1⟩:=oZ (k:=k) (l:=l) (fr:=fr) (ts:=ts) (L:=some (.tup (nD (iL legs)),.fz)) (c:=c) (by omega)
   obtain ⟨a',c',e2⟩:=iT legs r (k+1) (fr+(l:Nat)) (ts++(rgI fr l).map (fun x=>((k:Int),x))) (some (.int (k:Nat),.fz)) c1 h2 (by simp [aE];omega);refine ⟨a',c',?_⟩
   have eT:ts++(rgI fr l).map (fun x=>((k:Int),x))++(if 0 < k+1/\r≠[] then [(((k+1:Nat):Int) - 1,((k+1:Nat):Int))] else [])++cT ((k+1:Nat):Int) (fr+(l:Nat)) r=ts++(if 0 < k/\(l::r)≠[] then [((k:Int) - 1,(k:Int))] else [])++cT k fr (l::r):=by
    rw [if_neg (show ¬ (0 < k/\(l::r)≠[]) from fun z=>k0 z.1)]
    conv=>rhs;unfold cT
    by_cases hr:r=[]
    ·subst hr;simp [cT]
    ·rw [if_pos ⟨by omega,hr⟩,if_neg hr]
     simp only [Eh,Ef,DX];rw [show (((k+1:Nat):Int) - 1)=k by omega];rfl
   rw [eT,show fr+(l:Nat)+(r.sum:Nat)=fr+((l::r).sum:Nat) by rw [EM];omega] at e2
   have hl:l<=1000000:=by omega
   have e0:aM [some (.tup (nD (iL legs)),.fz),some (.lst (tD ts),.ow),some (.int fr,.fz),some (.int (k:Nat),.fz),c]=some (.nx,[some (.tup (nD (iL legs)),.fz),some (.lst (tD (ts++(rgI fr l).map (fun x=>((k:Int),x)))),.ow),some (.int (fr+(l:Nat)),.fz),some (.int (k:Nat),.fz),c1]):=by
    unfold aM
    trace "3tЎZЫFĄwTŅ#Ďę!"
   trace "3Йčė!"
theorem xL{legs:List Nat}(hb:legs.length+legs.sum<=1000):cg [.tup (nD (iL legs))]=some (.ok (.tup [.int ((legs.length:Int)+(legs.sum:Nat)),.lst (tD (cT 0 (legs.length:Nat) legs))]) false,.non):=by
 obtain ⟨a',c',e⟩:=iT legs legs 0 (legs.length:Nat) [] none none rfl (by simpa using hb)
 have e0:([]:List (Int×Int))++(if 0 < 0/\legs≠[] then [(((0:Nat):Int) - 1,((0:Nat):Int))] else [])++cT ((0:Nat):Int) (legs.length:Nat) legs=cT 0 (legs.length:Nat) legs:=by
  rw [if_neg (fun z=>absurd z.1 (by omega))];rfl
 rw [e0] at e;have e1:bF (.nm 3) aM (nD (rgI 0 legs.length)) [some (.tup (nD (iL legs)),.fz),some (.lst [],.ow),some (.int (legs.length:Nat),.fz),none,none]=some (.nx,[some (.tup (nD (iL legs)),.fz),some (.lst (tD (cT 0 (legs.length:Nat) legs)),.ow),some (.int ((legs.length:Int)+(legs.sum:Nat)),.fz),a',c']):=e
 have ln:bS [.tup (nD (iL legs))]=some (.int (legs.length:Nat),false):=by rw [dX,Do]
 have hl:legs.length<=1000000:=by omega
 unfold cg eU
 trace "`ѢЯXPGтĄДG#ĎęМѓ&ņVЉ"
theorem xK{i:Int}:dW [.int i]=some (.ok (.bl true) false,.non):=by
 unfold dW jm
 trace "Ј<XS!ĵXSW"
theorem tR{legs:List Nat}(h0:legs≠[])(hb:legs.length+legs.sum<=40):aS [spK legs]=some (.ok (iE ((legs.length+legs.sum:Nat):Int) (cJ (spT legs))) false,.non):=by
 have h:=xL (legs:=legs) (by omega);have cl:=As h0 0 (legs.length:Nat)
 have lt:(cT 0 (legs.length:Nat) legs).length < 64:=by rw [cl];unfold rem;omega
 rw [rW (lT h0)];unfold aS cC
 trace "bЅІCž5҆!ǧМѓ&уſǥPЉ"
theorem nZ{m n:Nat}(h1:m<=40)(h2:1<=n)(h3:n<=40)(h4:m * n<=60):aS [cU (m:Nat) (n:Nat)]=some (.ok (iE ((m+n:Nat):Int) (kg m n)) false,.non):=by
 have mu:ie [.int (m:Nat),.int (n:Nat)]=some (.int ((m * n:Nat):Int),false):=by rw [zP (by omega) (by omega),Int.natCast_mul]
 have hh:m * n<=1000000:=by omega
 unfold aS cC
 trace "bа]љЅІМБЍS&҅ĄwЍPƀ#Ɓ!ğѠMБЍPбБwЍP҂S)[PЉ"
theorem pO{n:Nat}{ts:List (Int×Int)}{ps:List Int}(G:Nm n ts ps):cf [iE (n:Nat) ts,.tup (nD ps)]=some (.ok (.bl true) false,.non):=by
 have w := @xK;have l1:=G.l;have l2:=G.nl;have l3:=G.pl;have l4:=G.d;have l5:=G.lo;have l6:=G.hi;have l0:=G.n0;have ne:ps≠[]:=Fm (by omega)
 have al:(ps.map fun _=>true).all id=true:=by rw [List.all_map,DJ];exact fun _ _=>rfl
 have h1:∀ t∈ts,gIx [.tup (nD ps),.int t.1]=some (.int (ps.getD t.1.toNat 0),false):=fun t ht=>sI (G.r t ht).1 (by have:=G.r t ht;omega)
 have h2:∀ t∈ts,gIx [.tup (nD ps),.int t.2]=some (.int (ps.getD t.2.toNat 0),false):=fun t ht=>sI (G.r t ht).2.2.1 (by have:=G.r t ht;omega)
 unfold cf eS
 trace "ѝ1+ДĐмǨȄҀ'ў7WġǱјkƃW#ȃPȄ8Ѻ+'уȭǤ#ȮǤмǨȄ1+ДƄǥxǮ+Дƅǥҍ#ĐPЫ]ўҌWďǱј^ЬŇǥwTňǥ#Ɔ'ЬŇǥwTňǥ#ģS!#ƇǸV/XѩЕѩn#ĐxP#ƈǤPƉ["
 rw [DF G.s]
end K17
namespace K17
open PySem L2
abbrev rgf(n p:Int):Int:=if decide (p % 2=0)=true then p / 2+(if decide (n % 4=3)=true then (if decide (n / 2<=p)=true then 1 else 0) else 0) else n - p / 2 - (if decide (n % 4=0)=true then (if decide (n / 2<=p)=true then 1 else 0) else 0)
theorem pL{n:Nat}(h:n<=900):dU [.int (n:Nat)]=some (.ok (.tup (nD (fU n))) false,.non):=by
 obtain ⟨ρ',e,a,b,rfl⟩:=eC (T:= .nm 2) (f:=eh) (fun i ρ=>∃ a b,ρ=[some (.int (n:Nat),.fz),some (.lst (nD ((rgI 0 i).map (rgf n))),.ow),a,b]) n [some (.int (n:Nat),.fz),some (.lst [],.ow),none,none] ⟨none,none,by simp [rgI]⟩ (by
  rintro i hi ρ ⟨a,b,rfl⟩
  have hb:((rgI 0 i).map (rgf n)).length<=1000:=by rw [Do,aE];omega
  rw [bN,Ec,Int.zero_add,DE,ES];unfold eh
  by_cases h2:(i:Int) % 2=0
  ·have e1:rgf n i=(i:Int) / 2+(if decide ((n:Int) % 4=3)=true then (if decide ((n:Int) / 2<=i)=true then 1 else 0) else 0):=by unfold rgf;rw [if_pos (DF h2)]
   rw [e1]
   trace "џĚЎХбS44VBѧǩс&?Хб'ĚѧѸ4PВĘѨ"
   exact ⟨_,_,rfl⟩
  ·have e1:rgf n i=(n:Int) - (i:Int) / 2 - (if decide ((n:Int) % 4=0)=true then (if decide ((n:Int) / 2<=i)=true then 1 else 0) else 0):=by unfold rgf;rw [if_neg (by rw [Eo];exact h2)]
   rw [e1]
   trace "џĚЎХбS44VDѧǮс&кХбS'ĚѧѸ4PВĘѨ"
   exact ⟨_,_,rfl⟩)
 have hn:n<=1000000:=by omega
 unfold dU jl
 trace "`Ѣтѣŉ:/XSW"
theorem xN{n:Nat}{ts:List (Int×Int)}(O:cb n ts):dQ [iE (n:Nat) ts]=some (.ok (.tup (nD (wR n ts))) false,.non):=by
 have h:fj [iE (n:Nat) ts]=some (.ok (.lst ((List.range n).map fun j=> .lst (nD (Td.nb (j:Nat) ts)))) false,.non):=AL O;unfold dQ jh
 trace "ЈўkNWďǱјXPł[ф"
theorem lR{n:Nat}{ts:List (Int×Int)}:bn [iE (n:Nat) ts,.ktup [.str "places"]]=some (.ok (.bl (decide ((ts.length:Int)+1 < n))) false,.non):=by
 unfold bn dl
 trace "`n#ĐVЅЎѪ{S!/nОф"
theorem pP{n:Nat}{ts:List (Int×Int)}(O:cb n ts)(h1:(wR n ts).all (fun c=>decide (c % 2=0))=true)(h2:(ts.length:Int) * ((ts.length:Int)+1) / 2 % 2=1):bn [iE (n:Nat) ts,.ktup [.str "even"]]=some (.ok (.bl true) false,.non):=by
 have h:=xN O;have l:=O.l
 have al:((wR n ts).map fun c=>decide (c % 2=0)).all id=true:=by rw [List.all_map];exact h1
 unfold bn dl
 trace "`n#ĐVtЎѪ{S|ЅЎѪ{S!ѤўkNWġǱј?ҙ[#ȃĕ^^кОPŃlgбgо["
 rw [DF h2]
theorem t_bar{n:Nat}{ts:List (Int×Int)}(O:cb n ts)(h0:n<=ts.length+1)(h1:(wR n ts).all (fun c=>decide (c % 2=0))=true)(h2:(ts.length:Int) * ((ts.length:Int)+1) / 2 % 2=1):fO [iE (n:Nat) ts]=some (.ok (.ktup [.str "even"]) false,.non):=by
 have a:=lR (n:=n) (ts:=ts);rw [DO (by omega)] at a;have b:=pP O h1 h2;have s0:cz gG=some [.ktup [.str "places"],.ktup [.str "even"]]:=rfl;unfold fO lY
 trace "bļFĉ4ƊЙȑDE'oTƋѕƌǧȑBE'oTƍҏƎz"
theorem rg_ok{n:Nat}(h1:3<=n)(h2:n<=40):cb n (bR n):=by
 have:=(oF (oP h1 h2)).perm (fF (jp n)).symm;rw [(t5 h1 h2).1] at this;exact this
theorem v7{n:Nat}(h1:3<=n)(h2:n<=40)(h3:n % 4=0\/n % 4=3):bC [iE (n:Nat) (bR n)]=some (.ok (.tup [.str "numbering",.tup (nD (fU n))]) false,.non):=by
 have h:=pL (n:=n) (by omega);unfold bC fg
 rcases h3 with h3 | h3
 ·trace "bЅĤхоǩ!ѫ&5҆!Љ"
 ·trace "bЅ1хоǮхоǩѫ&5҆!Љ"
theorem v8{n:Nat}(h1:3<=n)(h2:n<=40)(h3:¬ (n % 4=0\/n % 4=3)):bC [iE (n:Nat) (bR n)]=some (.ok (.tup [.str "bar",.ktup [.str "even"]]) false,.non):=by
 obtain ⟨b1,b2⟩:=ye h1 h2 h3;have h:=t_bar (rg_ok h1 h2) (by rw [dq h1];omega) b1 (by rw [dq h1];exact b2)
 have h4:¬ n % 4=0:=fun z=>h3 (.inl z)
 have h5:¬ n % 4=3:=fun z=>h3 (.inr z)
 unfold bC fg
 trace "bѺхоǮхоЫѫ&kN!Љ"
theorem lS{n:Nat}{d:D}(h1:3<=n)(h2:n<=40)(h:bC [iE (n:Nat) (bR n)]=some (.ok d false,.non)):bg [cI (n:Nat)]=some (.ok d false,.non):=by
 have w:=jY (BQ h1 h2 (oF (oP h1 h2)));rw [(t5 h1 h2).1] at w;unfold bg eP
 trace "цąhЅІ/kNz"
theorem xM{legs:List Nat}(h0:legs≠[])(hb:legs.length+legs.sum<=40):bg [spK legs]=some (.ok (.tup [.str "numbering",.tup (nD (cN legs))]) false,.non):=by
 have w:=jY (ok_sp h0 hb);have m:=v4 h0 (by omega);unfold bg eP
 trace "цąhаѫ&kƏ!Љ"
theorem rD{m n:Nat}(h1:1<=m)(h2:1<=n)(h3:m+n<=40)(h4:m * n<=60):bg [cU (m:Nat) (n:Nat)]=some (.ok (.tup [.str "numbering",.tup (nD (sdN m n))]) false,.non):=by
 have w:=jY (yZ h1 h2 h3 (AX h1 h2 h3 h4).2);have md:=pM (m:=m) (n:=n) (by omega) (by omega);unfold bg eP
 trace "цąhаѫ&kƐ!Љ"
end K17
namespace K17
open PySem L2
section
variable{n:Nat}{x1:Option (D×Md)}
abbrev cR(n:Nat)(i:Nat)(o:Int):Bool:=decide (o+1=(i:Int))||decide ((i:Int) - o=(n:Int) - 1)
theorem BU{i:Nat}{ts:List (Int×Int)}(hl:ts.length+i<=900000){x5 x6 x7:Option (D×Md)}:∃ y5 y6 y7,bF (.nm 5) cc (nD (rgI 0 i)) [some (cI (n:Nat),.fz),x1,some (.lst (tD ts),.ow),some (.int (n:Nat),.fz),some (.int (i:Nat),.fz),x5,x6,x7]=some (.nx,[some (cI (n:Nat),.fz),x1,some (.lst (tD (ts++((rgI 0 i).filter (cR n i)).map fun o=>(o,(i:Int)))),.ow),some (.int (n:Nat),.fz),some (.int (i:Nat),.fz),y5,y6,y7]):=by
 obtain ⟨ρ',e,y5,y6,y7,rfl⟩:=eC (T:= .nm 5) (f:=cc) (fun j ρ=>∃ y5 y6 y7,ρ=[some (cI (n:Nat),.fz),x1,some (.lst (tD (ts++((rgI 0 j).filter (cR n i)).map fun o=>(o,(i:Int)))),.ow),some (.int (n:Nat),.fz),some (.int (i:Nat),.fz),y5,y6,y7]) i [some (cI (n:Nat),.fz),x1,some (.lst (tD ts),.ow),some (.int (n:Nat),.fz),some (.int (i:Nat),.fz),x5,x6,x7] ⟨x5,x6,x7,by simp [rgI]⟩ (by
  rintro j hj ρ ⟨y5,y6,y7,rfl⟩
  have lb:(ts++((rgI 0 j).filter (cR n i)).map fun o=>(o,(i:Int))).length<=1000000:=by
   rw [DI,Do];have:=List.length_filter_le (cR n i) (rgI 0 j);rw [aE] at this;omega
  rw [bN,List.filter_append,Ec,Int.zero_add,<- Eh];unfold cc
  by_cases h1:(j:Int)+1=(i:Int)
  ·have f1:gEq [.int ((j:Int)+1),.int (i:Nat)]=some (.bl true,false):=by rw [jE,DF h1]
   have c1:[(j:Int)].filter (cR n i)=[(j:Int)]:=by simp [cR,h1]
   rw [c1]
   trace "џ<кZЁĥ!ƑXZчǣ]Ħđnй<чЬ!О#ǷVB1ІĤETƒ!сm}ВŊѨ"
   exact ⟨_,_,_,rfl⟩
  ·have f1:gEq [.int ((j:Int)+1),.int (i:Nat)]=some (.bl false,false):=by rw [jE,DO h1]
   by_cases h2:(i:Int) - (j:Int)=(n:Int) - 1
   ·have c1:[(j:Int)].filter (cR n i)=[(j:Int)]:=by simp [cR,h2]
    rw [c1]
    trace "џđкZЁĥh]Ħđnй<чЬ!О#ǷVB1І1ET!ĤETǩ!сm}ВŊѨ"
    exact ⟨_,_,_,rfl⟩
   ·have c1:[(j:Int)].filter (cR n i)=[]:=by simp [cR,h1,h2]
    rw [c1,ES,DW]
    trace "џđкZЁĥh]Ħđnй<чЬ!О#ǷVD1І1ET!1ETǮħѹЭЦS|"
    exact ⟨_,_,_,rfl⟩)
 exact ⟨y5,y6,y7,e⟩
abbrev pR(n i:Nat):List (Int×Int):=(rgI 0 i).flatMap fun one=>((rgI 0 one.toNat).filter fun other=>decide (other+1=one)||decide (one - other=(n:Int) - 1)).map fun other=>(other,one)
theorem pN(h1:3<=n)(h2:n<=40):aS [cI (n:Nat)]=some (.ok (iE (n:Nat) (bR n)) false,.non):=by
 have pl:∀ i,i<=40->(pR n i).length<=i * 40:=by
  intro i
  induction i with
  | zero=>intro _;simp [pR,rgI]
  | succ i ih =>
   intro hi;have:=ih (by omega);unfold pR at this ⊢;rw [bN,Fq,DI,List.flatMap_cons,List.flatMap_nil,DW,Do];have q:=List.length_filter_le (fun other:Int=>decide (other+1=0+((i:Nat):Int))||decide (0+((i:Nat):Int) - other=(n:Int) - 1)) (rgI 0 (0+((i:Nat):Int)).toNat);rw [aE] at q;omega
 obtain ⟨ρ',e,y4,y5,y6,y7,rfl⟩:=eC (T:= .nm 4) (f:=cX) (fun i ρ=>∃ y4 y5 y6 y7,ρ=[some (cI (n:Nat),.fz),none,some (.lst (tD (pR n i)),.ow),some (.int (n:Nat),.fz),y4,y5,y6,y7]) n [some (cI (n:Nat),.fz),none,some (.lst [],.ow),some (.int (n:Nat),.fz),none,none,none,none] ⟨none,none,none,none,by simp [pR,rgI]⟩ (by
  rintro i hi ρ ⟨y4,y5,y6,y7,rfl⟩;have:=pl i (by omega);obtain ⟨z5,z6,z7,e⟩:=BU (n:=n) (x1:=none) (i:=i) (ts:=pR n i) (by omega) (x5:=y5) (x6:=y6) (x7:=y7)
  have ep:pR n (i+1)=pR n i++((rgI 0 i).filter (cR n i)).map fun o=>(o,(i:Int)):=by
   unfold pR;rw [bN,Fq,List.flatMap_cons,List.flatMap_nil,DW,Int.zero_add];rfl
  have hi':i<=1000000:=by omega
  unfold cX
  trace "ѾFѣƓ:"
  rw [ep]
  exact ⟨_,_,_,_,rfl⟩)
 have pe:cJ (pR n n)=bR n:=(t5 h1 h2).2
 have ll:(pR n n).length < 64:=by
  have:=congrArg List.length pe;rw [(fF _).length_eq,dq h1] at this;omega
 have sr:dM [.lst (tD (pR n n))]=some (.lst (tD (bR n)),true):=by rw [o9 ll,pe]
 have gi:gIn [.str "ring",.lst [.str "wheel",.str "fan"]]=some (.bl false,false):=rfl
 have ga:aU [.int (n:Nat),.int (if false=true then 1 else 0)]=some (.int (n:Nat),false):=by
  show some (D.int ((n:Int)+0),false)=_
  rw [Int.add_zero]
 have hn:n<=1000000:=by omega
 unfold aS cC
 trace "bа]ља]ѢтĄwѩnЭЦ#ċPPŋ#ŉ:МБѩnЭЦ#ċPPŋ&уķPЉ"
end
theorem nn{d:D}(h:aj 9 d=true):gNe [d,d]=some (.bl false,false):=by
 show (if (aj 9 d&&aj 9 d)=true then some (D.bl (!eqD d d),false) else none)=_
 rw [h,show eqD d d=true from jH 9 h];rfl
theorem ja(l:List Int):aj 9 (.tup [.str "numbering",.tup (nD l)])=true:=by
 unfold aj
 show (aj 8 (.str "numbering")&&(aj 8 (.tup (nD l))&&true))=true
 rw [sQ];rfl
theorem iK{n:Nat}(h1:3<=n)(h2:n<=40):ax [cI (n:Nat)]=some (.ok (.bl true) false,.non):=by
 by_cases h3:n % 4=0\/n % 4=3
 ·have f:=lS h1 h2 (v7 h1 h2 h3)
  have g:=pO (A4 h1 h2 h3);have w:=pN h1 h2;have q:=nn (ja (fU n))
  have gi:gIn [.int ((n:Int) % 4),.tup [.int 1,.int 2]]=some (.bl false,false):=by
   rcases h3 with h3 | h3
   ·rw [show (n:Int) % 4=0 by omega];rfl
   ·rw [show (n:Int) % 4=3 by omega];rfl
  unfold ax cW
  trace "цHhр1АgǨ!+ЏH!Ёě|tŌІх҂ѪЦ#ċ|Ѥч5Џą!мIz"
 ·have f:=lS h1 h2 (v8 h1 h2 h3)
  have q:gNe [.tup [.str "bar",.ktup [.str "even"]],.tup [.str "bar",.ktup [.str "even"]]]=some (.bl false,false):=rfl;have q2:gEq [.tup [.str "bar",.ktup [.str "even"]],.tup [.str "bar",.tup [.str "even"]]]=some (.bl true,false):=rfl
  have gi:gIn [.int ((n:Int) % 4),.tup [.int 1,.int 2]]=some (.bl true,false):=by
   obtain h4 | h4:(n:Int) % 4=1\/(n:Int) % 4=2:=by omega
   ·rw [h4];rfl
   ·rw [h4];rfl
  unfold ax cW
  trace "цHhр1АgǨ!+ЏH!Ёě|ЅŌІх҂ѪЦ#ċ!ѤXѪФmѬPō!nф"
theorem vf:ax [.tup [.str "spine",.tup [.int 0]]]=some (.ok (.bl true) false,.non):=bv (by decide +kernel)
theorem mj{legs:List Nat}(h0:legs≠[])(hb:legs.length+legs.sum<=40):ax [spK legs]=some (.ok (.bl true) false,.non):=by
 have hl:=DS.mpr h0
 by_cases q0:0 < rem legs
 ·have hq:rem legs+1=legs.length+legs.sum:=by unfold rem;omega
  have f:=xM h0 hb;have pr:=Cj q0 h0;rw [<- rW (lT h0)] at pr;have nm:=pr.nm (by omega);rw [hq] at nm;have g:=pO nm;have w:=tR h0 hb;have q:=nn (ja (cN legs));unfold ax cW
  trace "цHhр1АgǨ!+ЏH!Ёě|tħѹй8Ѥч5Џą!мIz"
 ·have:legs=[0]:=by
   unfold rem at q0
   cases legs with
   | nil=>exact absurd rfl h0
   | cons l r =>
    cases r with
    | nil=>simp at q0;rw [q0]
    | cons m r=>simp at q0
  subst this;exact vf
theorem gr{m n:Nat}(h1:1<=m)(h2:1<=n)(h3:m+n<=40)(h4:m * n<=60):ax [cU (m:Nat) (n:Nat)]=some (.ok (.bl true) false,.non):=by
 have f:=rD h1 h2 h3 h4;obtain ⟨nm,hp⟩:=sd_nm h1 h2 h3 h4;have g:=pO nm;have w:=nZ (m:=m) (n:=n) (by omega) h2 (by omega) h4;have q:=nn (ja (sdN m n));unfold ax cW
 trace "цHhр1АgǨ!+ЏH!Ёě|tħѹй8Ѥч5Џą!мIz"
end K17
namespace K17
open PySem L2
section
variable{x0 x1 x2 x4 x5 x6 x7 x8:Option (D×Md)}
abbrev sWc:ST:=aK gGt [.ex (sOp aU [.ex (sOp bS [.bor 3]),.ex (sOp iY [.bor 3])]),.ex (sC (.int 40))]
theorem Cv:∀ (legs:List Nat) (n:Nat) (md:Md),md ≠ .io->legs.length < n->∃ md',md' ≠ .io/\de n sWc bJ [x0,x1,x2,some (.lst (nD (iL legs)),md),x4,x5,x6,x7,x8]=some (.nx,[x0,x1,x2,some (.lst (nD (iL (lP legs))),md'),x4,x5,x6,x7,x8])
 | _,0,_,_,h=>absurd h (Nat.not_lt_zero _)
 | [],n+1,md,hm,_=>⟨md,hm,by
  have c:sWc [x0,x1,x2,some (.lst (nD (iL [])),md),x4,x5,x6,x7,x8]=some (.ok false,[x0,x1,x2,some (.lst (nD (iL [])),md),x4,x5,x6,x7,x8]):=rfl
  exact CH c rfl⟩
 | l::r,n+1,md,hm,h=>by
  have ln:bS [.lst (nD (iL (l::r)))]=some (.int ((l::r).length:Nat),false):=by rw [pc,Do]
  have sm:iY [.lst (nD (iL (l::r)))]=some (.int ((l::r).sum:Nat),false):=by rw [wH,pU]
  have c:sWc [x0,x1,x2,some (.lst (nD (iL (l::r))),md),x4,x5,x6,x7,x8]=some (.ok (decide (40 < ((l::r).length:Int)+((l::r).sum:Nat))),[x0,x1,x2,some (.lst (nD (iL (l::r))),md),x4,x5,x6,x7,x8]):=by
   unfold sWc
   trace "3+'уGДĢPZ"
  by_cases hb:40 < (l::r).length+(l::r).sum
  ·have ct:=Ak l r
   obtain ⟨md',h1,e⟩:=Cv r n .ow (by decide) (by rw [Dq] at h;omega);refine ⟨md',h1,?_⟩
   have e0:bJ [x0,x1,x2,some (.lst (nD (iL (l::r))),md),x4,x5,x6,x7,x8]=some (.nx,[x0,x1,x2,some (.lst (nD (iL r)),.ow),x4,x5,x6,x7,x8]):=by
    unfold bJ
    trace "3AҔƔV!"
   rw [show lP (l::r)=lP r by rw [lP,if_pos hb]];exact r_whT c (DF (by omega)) e0 e
  ·refine ⟨md,hm,?_⟩
   rw [show lP (l::r)=l::r by rw [lP,if_neg hb]];exact CH c (DO (by omega))
noncomputable def IsSp(k:D):Prop:=∃ legs:List Nat,legs≠[]/\legs.length+legs.sum<=40/\k=spK legs
noncomputable def SpQ(m:D)(d:D)(nw:Bool)(ρ:Rho):Prop:=IsSp d/\nw=false/\∃ (P:Pn) (y1 y2 y3 y4 y5 y6 y7 y8:Option (D×Md)),ρ=[some (pD P,.io),y1,y2,y3,y4,y5,y6,y7,y8]
theorem xR{P:Pn}{m:D}{legs:List Nat}(h0:legs≠[])(h1:legs.length<=40)(h2:∀ l∈legs,l<=39){md:Md}(hm:md ≠ .io):tJ (cY [some (pD P,.io),x1,x2,some (.lst (nD (iL legs)),md),x4,x5,x6,x7,x8]) (SpQ m):=by
 obtain ⟨md',hm',e⟩:=Cv (x0:=some (pD P,.io)) (x1:=x1) (x2:=x2) (x4:=x4) (x5:=x5) (x6:=x6) (x7:=x7) (x8:=x8) legs 100 md hm (by omega);obtain ⟨t1,t2⟩:=u4 h0 h2;unfold cY;have e':de 100 (aK gGt [.ex (sOp aU [.ex (sOp bS [.bor 3]),.ex (sOp iY [.bor 3])]),.ex (sC (.int 40))]) bJ [some (pD P,.io),x1,x2,some (.lst (nD (iL legs)),md),x4,x5,x6,x7,x8]=_:=e
 trace ">ƕ"
 trace "ŎѫБS)"
 exact ⟨⟨_,t1,t2,rfl⟩,rfl,P,_,_,_,_,_,_,_,_,rfl⟩
theorem sp_beg{P:Pn}{m:D}{md1 md2:Md}:tJ (cZ [some (pD P,.io),some (m,.fz),some (.str "spine",.fz),none,none,none,none,none,none]) (SpQ m):=by
 unfold cZ;have d12:=jI P (m:=12) (by omega) (by omega);refine t4 (fun ρ=>∃ P:Pn,ρ=[some (pD P,.io),some (m,.fz),some (.str "spine",.fz),none,none,none,none,none,none]) (fun y=>∃ n:Nat,n<=3/\y = .int (n:Nat)) (by trace "Ɩ'ЕpP#l") rfl ⟨_,rfl⟩ ?_ ?_
 ·rintro d hd ρ ⟨P,rfl⟩
  have b:=jI P (m:=6) (by omega) (by omega);obtain ⟨n,hn,hx⟩:=pick6 b.1 b.2
  trace "Ƙǧѭp#ŏ"
  ·exact ⟨n,hn,rfl⟩
  ·exact ⟨_,rfl⟩
 ·rintro ys ρ ⟨P,rfl⟩ hl hy
  obtain ⟨legs,rfl,hl2,hl3⟩:=vB ys hy;rw [Do,Do,Do,aE] at hl;refine ⟨_,rfl,?_⟩
  by_cases h6:dr P 6=0
  ·have b:=jI (nx P 6) (m:=6) (by omega) (by omega)
   obtain ⟨legs',⟨L1,L2,L3⟩,hx⟩:=pickL b.1 b.2
   trace ">B+pлǩAЪ&Ъ{gĩl&={&^Ъ{gĩlЭ{#ƙǸ&Ъ{gĩl&=њ&=Ѭp#ŏV"
   exact xR L1 L2 L3 (by decide)
  ·trace ">D+pлЫ"
   exact xR (Fm (by omega)) (by omega) (fun l hl=>Eu (hl3 l hl) (by omega)) (by decide)
end
end K17
namespace K17
open PySem L2
noncomputable def uZ(k:D):Prop:=∃ n:Nat,3<=n/\n<=40/\k=cI (n:Nat)
noncomputable def lJ(k:D):Prop:=∃ m n:Nat,1<=m/\1<=n/\m+n<=40/\m * n<=60/\k=cU (m:Nat) (n:Nat)
theorem vc{i:Int}(h1:3<=i)(h2:i<=40):uZ (cI i):=⟨i.toNat,by omega,by omega,by rw [show ((i.toNat:Nat):Int)=i by omega]⟩
theorem xU{a b:Int}(h1:1<=a)(h2:a<=8)(h3:1<=b)(h4:b<=min (40 - a) (60 / a)):lJ (cU a b)/\lJ (cU b a):=by
 have h5:a.toNat * b.toNat<=60/\a+b<=40:=by
  obtain rfl | rfl | rfl | rfl | rfl | rfl | rfl | rfl:a=1\/a=2\/a=3\/a=4\/a=5\/a=6\/a=7\/a=8:=by omega
  all_goals (simp at h4 ⊢;omega)
 refine ⟨⟨a.toNat,b.toNat,by omega,by omega,by omega,h5.1,?_⟩,⟨b.toNat,a.toNat,by omega,by omega,by omega,by rw [Nat.mul_comm];exact h5.1,?_⟩⟩
 ·rw [show ((a.toNat:Nat):Int)=a by omega,show ((b.toNat:Nat):Int)=b by omega]
 ·rw [show ((a.toNat:Nat):Int)=a by omega,show ((b.toNat:Nat):Int)=b by omega]
theorem bnd_of{a:Int}(h1:1<=a)(h2:a<=8):0 < min (40 - a) (60 / a)/\min (40 - a) (60 / a) < 1073741824:=by
 obtain rfl | rfl | rfl | rfl | rfl | rfl | rfl | rfl:a=1\/a=2\/a=3\/a=4\/a=5\/a=6\/a=7\/a=8:=by omega
 all_goals decide
theorem v5(P:Pn):∃ k P',aZ [pD P,.int 3]=some (.ok k false,pD P')/\(IsSp k\/uZ k\/lJ k):=by
 have d3:=jI P (m:=3) (by omega) (by omega)
 obtain h | h | h:dr P 3=0\/dr P 3=1\/dr P 3=2:=by omega
 ·have g:gIx [.lst [.str "spine",.str "ring",.str "sides",.str "full",.str "wheel",.str "fan"],.int (dr P 3)]=some (.str "spine",false):=by rw [h];rfl
  obtain ⟨d,nw,ρ',e,hk,rfl,P',y1,y2,y3,y4,y5,y6,y7,y8,rfl⟩:=sp_beg (P:=nx P 3) (m:= .int 3) (md1:= .fz) (md2:= .fz);refine ⟨d,P',?_,.inl hk⟩;unfold aZ bK
  trace "`ѭЧTі#IVП:W"
 ·have g:gIx [.lst [.str "spine",.str "ring",.str "sides",.str "full",.str "wheel",.str "fan"],.int (dr P 3)]=some (.str "ring",false):=by rw [h];rfl
  have b9:=jI (nx P 3) (m:=9) (by omega) (by omega)
  by_cases h4:dr (nx (nx P 3) 9) 4=0
  ·have b3:=jI (nx (nx (nx P 3) 9) 4) (m:=3) (by omega) (by omega)
   refine ⟨cI (40 - dr (nx (nx (nx P 3) 9) 4) 3),nx (nx (nx (nx P 3) 9) 4) 3,?_,.inr (.inl (vc (by omega) (by omega)))⟩;unfold aZ bK
   trace "`ѭЧTі#IVНН]^ĜњTЯ^ĜњTЯXpSҘB+pлǩAXpSVМ}W"
  ·refine ⟨cI (3+dr (nx P 3) 9),nx (nx (nx P 3) 9) 4,?_,.inr (.inl (vc (by omega) (by omega)))⟩
   unfold aZ bK
   trace "`ѭЧTі#IVНН]^ĜњTЯ^ĜњTЯXpSVt+pлЫМ}W"
 ·have g:gIx [.lst [.str "spine",.str "ring",.str "sides",.str "full",.str "wheel",.str "fan"],.int (dr P 3)]=some (.str "sides",false):=by rw [h];rfl
  have b8:=jI (nx P 3) (m:=8) (by omega) (by omega);obtain ⟨q1,q2⟩:=bnd_of (a:=1+dr (nx P 3) 8) (by omega) (by omega);have bo:=jI (nx (nx P 3) 8) q1 q2;have b2:=jI (nx (nx (nx P 3) 8) (min (40 - (1+dr (nx P 3) 8)) (60 / (1+dr (nx P 3) 8)))) (m:=2) (by omega) (by omega);obtain ⟨s1,s2⟩:=xU (a:=1+dr (nx P 3) 8) (b:=1+dr (nx (nx P 3) 8) (min (40 - (1+dr (nx P 3) 8)) (60 / (1+dr (nx P 3) 8)))) (by omega) (by omega) (by omega) (by omega)
  obtain h2 | h2:dr (nx (nx (nx P 3) 8) (min (40 - (1+dr (nx P 3) 8)) (60 / (1+dr (nx P 3) 8)))) 2=0\/dr (nx (nx (nx P 3) 8) (min (40 - (1+dr (nx P 3) 8)) (60 / (1+dr (nx P 3) 8)))) 2=1:=by omega
  ·have gx:∀ a b:D,gIx [.lst [a,b],.int (dr (nx (nx (nx P 3) 8) (min (40 - (1+dr (nx P 3) 8)) (60 / (1+dr (nx P 3) 8)))) 2)]=some (a,false):=fun a b=>by rw [h2];rfl
   refine ⟨_,nx (nx (nx (nx P 3) 8) (min (40 - (1+dr (nx P 3) 8)) (60 / (1+dr (nx P 3) 8)))) 2,?_,.inr (.inr s1)⟩;unfold aZ bK
   trace "`ѭЧTі#IVНП]ЕpSǣ]ЕЧѩЕT'ЕЁб#ģPĨǥǥ҉Sǣ/ЪГ}Г})p#ŐW"
  ·have gx:∀ a b:D,gIx [.lst [a,b],.int (dr (nx (nx (nx P 3) 8) (min (40 - (1+dr (nx P 3) 8)) (60 / (1+dr (nx P 3) 8)))) 2)]=some (b,false):=fun a b=>by rw [h2];rfl
   refine ⟨_,nx (nx (nx (nx P 3) 8) (min (40 - (1+dr (nx P 3) 8)) (60 / (1+dr (nx P 3) 8)))) 2,?_,.inr (.inr s2)⟩;unfold aZ bK
   trace "`ѭЧTі#IVНП]ЕpSǣ]ЕЧѩЕT'ЕЁб#ģPĨǥǥ҉Sǣ/ЪГ}Г})p#ŐW"
end K17
namespace K17
open PySem L2
theorem wj{k:D}(h:IsSp k\/uZ k\/lJ k):ax [k]=some (.ok (.bl true) false,.non):=by
 rcases h with ⟨legs,h0,hb,rfl⟩ | ⟨n,h1,h2,rfl⟩ | ⟨m,n,h1,h2,h3,h4,rfl⟩
 ·exact mj h0 hb
 ·exact iK h1 h2
 ·exact gr h1 h2 h3 h4
theorem a1:av [.non]=some (.ok (.bl true) false,.non):=bv (by decide +kernel)
theorem a2:av [.tup []]=some (.ok (.bl true) false,.non):=bv (by decide +kernel)
theorem a3:av [.str "ring"]=some (.ok (.bl true) false,.non):=bv (by decide +kernel)
theorem a4:av [.lst [.str "ring",.int 4]]=some (.ok (.bl true) false,.non):=bv (by decide +kernel)
theorem a5:av [.tup [.str "ring",.int 2]]=some (.ok (.bl true) false,.non):=bv (by decide +kernel)
theorem a6:av [.tup [.str "ring",.int 41]]=some (.ok (.bl true) false,.non):=bv (by decide +kernel)
theorem a7:av [.tup [.str "ring",.bl true]]=some (.ok (.bl true) false,.non):=bv (by decide +kernel)
theorem a8:av [.tup [.str "full",.int 3]]=some (.ok (.bl true) false,.non):=bv (by decide +kernel)
theorem a9:av [.tup [.str "wheel",.int 4]]=some (.ok (.bl true) false,.non):=bv (by decide +kernel)
theorem aa:av [.tup [.str "fan",.int 2]]=some (.ok (.bl true) false,.non):=bv (by decide +kernel)
theorem ab:av [.tup [.str "spine",.tup []]]=some (.ok (.bl true) false,.non):=bv (by decide +kernel)
theorem ac:av [.tup [.str "spine",.lst [.int 0]]]=some (.ok (.bl true) false,.non):=bv (by decide +kernel)
theorem ad:av [.tup [.str "sides",.int 8,.int 8]]=some (.ok (.bl true) false,.non):=bv (by decide +kernel)
theorem ae:av [.tup [.str "sides",.int 3]]=some (.ok (.bl true) false,.non):=bv (by decide +kernel)
theorem af:av [.tup [.str "path",.int 3]]=some (.ok (.bl true) false,.non):=bv (by decide +kernel)
theorem ag:av [.tup [.str "full",.int 12]]=some (.ok (.bl true) false,.non):=bv (by decide +kernel)
theorem b2:ax [.tup [.str "spine",.tup [.int 39]]]=some (.ok (.bl true) false,.non):=by
 rw [show (D.tup [.str "spine",.tup [.int 39]])=spK [39] from rfl];exact mj (legs:=[39]) (by decide) (by decide)
abbrev z40:D:= .tup (nD (iL (List.replicate 40 0)))
theorem b3:ax [.tup [.str "spine",z40]]=some (.ok (.bl true) false,.non):=by
 exact mj (legs:=List.replicate 40 0) (by decide) (by decide)
theorem b4:ax [.tup [.str "ring",.int 3]]=some (.ok (.bl true) false,.non):=by
 rw [show (D.tup [.str "ring",.int 3])=cI ((3:Nat):Int) from rfl];exact iK (n:=3) (by decide) (by decide)
theorem b4':ax [.tup [.str "ring",.int 40]]=some (.ok (.bl true) false,.non):=by
 rw [show (D.tup [.str "ring",.int 40])=cI ((40:Nat):Int) from rfl];exact iK (n:=40) (by decide) (by decide)
theorem b5:ax [.tup [.str "sides",.int 1,.int 1]]=some (.ok (.bl true) false,.non):=by
 rw [show (D.tup [.str "sides",.int 1,.int 1])=cU ((1:Nat):Int) ((1:Nat):Int) from rfl];exact gr (m:=1) (n:=1) (by decide) (by decide) (by decide) (by decide)
theorem b6:ax [.tup [.str "sides",.int 6,.int 10]]=some (.ok (.bl true) false,.non):=by
 rw [show (D.tup [.str "sides",.int 6,.int 10])=cU ((6:Nat):Int) ((10:Nat):Int) from rfl];exact gr (m:=6) (n:=10) (by decide) (by decide) (by decide) (by decide)
theorem gz:nq [.tup [.int 0],.int 40]=some (z40,true)\/nq [.tup [.int 0],.int 40]=some (z40,false):=by
 first | exact .inl rfl | exact .inr rfl
theorem Lp(ns:List Int):∀ x1 x2 x3 x4:Option (D×Md),∃ y,bF (.nm 5) lw (nD (vQ ns 0::qH ns (some 1) (some 6))) [some (.klst (nD ns),.fz),x1,x2,x3,x4,none]=some (.nx,[some (.klst (nD ns),.fz),x1,x2,x3,x4,y]):=fun x1 x2 x3 x4=>by
 obtain ⟨ρ',e,y,rfl⟩:=kE (T:= .nm 5) (f:=lw) (inj:=D.int) (fun (_:Unit) ρ=>∃ y,ρ=[some (.klst (nD ns),.fz),x1,x2,x3,x4,y]) (fun _ _=>()) (vQ ns 0::qH ns (some 1) (some 6)) () [some (.klst (nD ns),.fz),x1,x2,x3,x4,none] ⟨_,rfl⟩ (by
  rintro c hc _ ρ ⟨y,rfl⟩;obtain ⟨k,P',e,hk⟩:=v5 (pen0 c);have r:=wj hk;unfold lw
  trace "ѾDҀ'5'ƚkƛ!g:!#Ġѕ"
  exact ⟨_,rfl⟩)
 exact ⟨y,e⟩
end K17
namespace K17
open PySem L2
theorem gz0:nq [.tup [.int 0],.int 40]=some (z40,false):=rfl
theorem law_ok(ns:List Int):sM [.klst (nD ns)]=some (.ok (.bl true) false,.non):=by
 have q1:=a1;have q2:=a2;have q3:=a3;have q4:=a4;have q5:=a5;have q6:=a6;have q7:=a7;have q8:=a8;have q9:=a9;have qa:=aa;have qb:=ab;have qc:=ac;have qd:=ad;have qe:=ae;have qf:=af;have qg:=ag;have p1:=vf;have p2:=b2;have p3:=b3;have p4:=b4;have p4':=b4';have p5:=b5;have p6:=b6;have gz:=gz0
 have R:tJ (xX [some (.klst (nD ns),.fz),none,none,none,none,none]) (fun d nw ρ=>d = .bl true/\nw=false):=by
  unfold xX
  trace ">A=ГmѬГmѬГ&^M{gƜ)ЊЊ)V"
  trace ">AXЭmђ{mђѬPĪȅȆV"
  trace ">FĉņV!ЙҚƝѮƞѮƟѮƠѮơѮƢѮƣѕő"
  trace ">A=Фm)Ф&=ЦЊЊЊЊ)V"
  trace ">AXЭЊЊ)PĪȅȆV"
  trace ">FĉXЭГm))Г&=Ѭmђ{ЊЊЊ)PĪȅȆ!ЙҒƤjōjƥjƦjƧjƨjƩjƪjƫjƬjƭjƮjƯjưjƱjƲѕő"
  obtain ⟨y,e⟩:=Lp ns _ _ _ _
  trace ">FĉЪ&oxƳ!)Дƴ#Ƶl!:"
  trace "Ŏ/4"
  exact ⟨rfl,rfl⟩
 obtain ⟨d,nw,ρ',e2,rfl,rfl⟩:=R;unfold sM
 trace "bėW"
end K17
namespace K17
open PySem L2 PyProof.Rows
noncomputable def DIn(K:FZ)(x:Str)(i:Nat):Prop:=∃ (f:Addr) (od an:Option Addr) (sl:Array (Option Value)) (oc kV dc pm cd ct:Value),PySem.W.nsIn K mainGlobals x=some (some (.ref f))/\K.lookup f=some ⟨oc,od,.func (PySem.W.fnOf x x (di (top i)) (bb (top i)) (ah (top i)) .none kV dc pm an cd ct),sl⟩/\PySem.W.codeIn K cd x=true/\PySem.W.keepIn K (.ref f)=true
theorem din_mk{K:FZ}{x:Str}{i:Nat}{f:Addr}{od an:Option Addr}{sl:Array (Option Value)}{oc kV dc pm cd ct:Value}(a:PySem.W.nsIn K mainGlobals x=some (some (.ref f)))(l:K.lookup f=some ⟨oc,od,.func (PySem.W.fnOf x x (di (top i)) (bb (top i)) (ah (top i)) .none kV dc pm an cd ct),sl⟩)(c:PySem.W.codeIn K cd x=true)(k:PySem.W.keepIn K (.ref f)=true):DIn K x i:=⟨f,od,an,sl,oc,kV,dc,pm,cd,ct,a,l,c,k⟩
theorem uo{K:FZ}{mg:Str->Option Value}{h:Heap}(X:K.In h)(G:h.Ns mainGlobals mg){x:Str}{i:Nat}{ps:List Str}(d:DIn K x i)
 (hb:∀ (kV doc pm:Value) (an:Option Addr) (cdv ct:Value) (us:List Value),us.length=ps.length->bindArgs (PySem.W.fnOf x x (di (top i)) (bb (top i)) (ah (top i)) .none kV doc pm an cdv ct) ⟨us,[]⟩=pure (ps.zip us)):Has K mg x (top i) ps:=by
 obtain ⟨f,od,an,sl,oc,kV,dc,pm,cd,ct,a,l,c,k⟩:=d;exact ⟨f,_,uz l c k,El X G a,(uz (st:=top i) l c k).binds hb⟩
theorem own_of{K:FZ}{mg:Str->Option Value}{h:Heap}{x:Str}{C:Addr}{bs:List Value}{ni:String}(X:K.In h)(G:h.Ns mainGlobals mg)(e:PySem.W.nsIn K mainGlobals x=some (some (.ref C)))(q:PySem.W.excIn K C bs ni=true):OwnCls x C bs ni mg h where
 bound:=El X G e
 obj:=by
  unfold PySem.W.excIn at q
  split at q
  case h_2=>cases q
  case h_1 d1 cl ss look =>
   split at q
   case h_2=>cases q
   case h_1 C2 rest a0 a1 a2 a3 nw a5 hmro hslots =>
    rcases cl with ⟨c1,c2,c3,c4,c5,c6,c7,c8,c9,c10,c11⟩
    rcases ss with ⟨ss⟩
    simp only [DK,beq_iff_eq,Bool.not_eq_true'] at q
    rcases q with ⟨⟨⟨⟨⟨w1,w2⟩,w3⟩,w4⟩,w5⟩,w6⟩
    dsimp only at hmro hslots w3 w5 w6;cases w1;cases w2;cases hmro;cases w3;cases hslots;exact ⟨rest,c4,c1,c5,c2,c6,c7,c8,c9,c10,d1,a0,a1,a2,a3,a5,_,X _ _ look,.of_isNs (PySem.W.isNs_of_in X w5),PySem.W.nsMap_none_of_in X w5 w6,PySem.W.tail_of_in X w4⟩
theorem bw{K:FZ}{mg:Str->Option Value}{h:Heap}(X:K.In h)(G:h.Ns mainGlobals mg){x:Str}{i:Nat}(p0:Str)(d:DIn K x i)(hb:∀ (kV doc pm:Value) (an:Option Addr) (cdv ct u0:Value),bindArgs (PySem.W.fnOf x x (di (top i)) (bb (top i)) (ah (top i)) .none kV doc pm an cdv ct) ⟨[u0],[]⟩=pure ([p0].zip [u0])):Has K mg x (top i) [p0]:=uo X G d fun _ _ _ _ _ _ us hl=>match us,hl with | [u0],_=>hb _ _ _ _ _ _ _
theorem fV{K:FZ}{mg:Str->Option Value}{h:Heap}(X:K.In h)(G:h.Ns mainGlobals mg){x:Str}{i:Nat}(p0 p1:Str)(d:DIn K x i)(hb:∀ (kV doc pm:Value) (an:Option Addr) (cdv ct u0 u1:Value),bindArgs (PySem.W.fnOf x x (di (top i)) (bb (top i)) (ah (top i)) .none kV doc pm an cdv ct) ⟨[u0,u1],[]⟩=pure ([p0,p1].zip [u0,u1])):Has K mg x (top i) [p0,p1]:=uo X G d fun _ _ _ _ _ _ us hl=>match us,hl with | [u0,u1],_=>hb _ _ _ _ _ _ _ _
theorem C8{K:FZ}{mg:Str->Option Value}{h:Heap}(X:K.In h)(G:h.Ns mainGlobals mg){x:Str}{i:Nat}(p0 p1 p2:Str)(d:DIn K x i)(hb:∀ (kV doc pm:Value) (an:Option Addr) (cdv ct u0 u1 u2:Value),bindArgs (PySem.W.fnOf x x (di (top i)) (bb (top i)) (ah (top i)) .none kV doc pm an cdv ct) ⟨[u0,u1,u2],[]⟩=pure ([p0,p1,p2].zip [u0,u1,u2])):Has K mg x (top i) [p0,p1,p2]:=uo X G d fun _ _ _ _ _ _ us hl=>match us,hl with | [u0,u1,u2],_=>hb _ _ _ _ _ _ _ _ _
theorem all_mk{l:PySem.W.OpenLaw}{w:World}{K:FZ}{h:Heap}{mg:Str->Option Value}{fa:Addr}(X:K.In h)(G:h.Ns mainGlobals mg)(hfa:mg "law" = some (.ref fa))
 {f8:Addr} {k8:ClassData}
 {m4:Addr} {c5:ClassData}
 {i6:Addr} {a7:ClassData}
 {b10:Addr} {f10:ClassData}
 {j6:Addr} {b7:ClassData}
 {a5:Addr} {f5:ClassData}
 {g8:Addr} {m8:ClassData}
 {c10:Addr} {g10:ClassData}
 {b5:Addr} {g5:ClassData}
 {TE:Addr} {eT:ClassData}
 {k3:Tok}
 {c4:Tok}
 {bb0:Addr} {db0:Option Addr} {nb0:Nat} {sb0:Array (Option Value)} {bb1:Addr} {db1:Option Addr} {nb1:Nat} {sb1:Array (Option Value)} {tb1_0:Tok} {bb2:Addr} {db2:Option Addr} {nb2:Nat} {sb2:Array (Option Value)} {tb2_0:Tok}
 {c2:Addr} {f2:Nat}
 {a1:Tok} {bb3:Addr} {db3:Option Addr} {nb3:Nat} {sb3:Array (Option Value)} {tb3_0:Tok}
 {b1:Tok} {bb4:Addr} {db4:Option Addr} {nb4:Nat} {sb4:Array (Option Value)} {tb4_0:Tok} {tb4_1:Tok}
 {c1:Tok} {bb5:Addr} {db5:Option Addr} {nb5:Nat} {sb5:Array (Option Value)} {tb5_0:Tok}
 {f1:Tok} {bb6:Addr} {db6:Option Addr} {nb6:Nat} {sb6:Array (Option Value)} {tb6_0:Tok}
 {g1:Tok} {bb7:Addr} {db7:Option Addr} {nb7:Nat} {sb7:Array (Option Value)} {tb7_0:Tok}
 (d0:DIn K "is_whole" 12)
 (d1:DIn K "whole_within" 13)
 (d2:DIn K "many_good" 17)
 (d3:DIn K "tie_told" 18)
 (d4:DIn K "is_place" 19)
 (d5:DIn K "web_of" 20)
 (d6:DIn K "tie_counts" 21)
 (d7:DIn K "tied_places" 22)
 (d8:DIn K "kind_good" 25)
 (d9:DIn K "web_for" 26)
 (d10:DIn K "form_good" 27)
 (d11:DIn K "legs_good" 28)
 (d12:DIn K "numbers_good" 29)
 (d13:DIn K "places_in" 30)
 (d14:DIn K "ties_in" 31)
 (d15:DIn K "row_ties" 32)
 (d16:DIn K "star_ties" 33)
 (d17:DIn K "spine_ties" 34)
 (d18:DIn K "ring_ties" 35)
 (d19:DIn K "sides_ties" 36)
 (d20:DIn K "full_ties" 37)
 (d21:DIn K "fan_ties" 38)
 (d22:DIn K "wheel_ties" 39)
 (d23:DIn K "step_bar_holds" 42)
 (d24:DIn K "step_bar" 43)
 (d25:DIn K "steps_for" 45)
 (d26:DIn K "parted_made" 46)
 (d27:DIn K "spine_steps" 47)
 (d28:DIn K "sides_steps" 48)
 (d29:DIn K "ring_answer" 49)
 (d30:DIn K "ring_steps" 50)
 (d31:DIn K "_law_cell_at" 52)
 (d32:DIn K "_law_next" 53)
 (d33:DIn K "_law_pen_of" 54)
 (d34:DIn K "_law_draw" 55)
 (d35:DIn K "_law_whole" 56)
 (d36:DIn K "_law_spine_ties" 57)
 (d37:DIn K "_law_made_web" 58)
 (d38:DIn K "_law_kind_by" 59)
 (d39:DIn K "_law_kind_of" 60)
 (d40:DIn K "_law_steps_good" 61)
 (d41:DIn K "_law_right" 62)
 (d42:DIn K "_law_no_kind" 63)
 (d43:DIn K "law" 64)
 (f4:PySem.W.nsIn K mainGlobals "ValueError" = some none)
 (j11:PySem.W.nsIn K mainGlobals "all" = some none)
 (g11:PySem.W.nsIn K mainGlobals "bool" = some none)
 (k4:PySem.W.nsIn K mainGlobals "enumerate" = some none)
 (k11:PySem.W.nsIn K mainGlobals "int" = some none)
 (g4:PySem.W.nsIn K mainGlobals "isinstance" = some none)
 (m11:PySem.W.nsIn K mainGlobals "len" = some none)
 (i11:PySem.W.nsIn K mainGlobals "list" = some none)
 (a12:PySem.W.nsIn K mainGlobals "max" = some none)
 (b12:PySem.W.nsIn K mainGlobals "min" = some none)
 (c11:PySem.W.nsIn K mainGlobals "range" = some none)
 (c12:PySem.W.nsIn K mainGlobals "set" = some none)
 (a10:PySem.W.nsIn K mainGlobals "sorted" = some none)
 (f12:PySem.W.nsIn K mainGlobals "str" = some none)
 (g12:PySem.W.nsIn K mainGlobals "sum" = some none)
 (f11:PySem.W.nsIn K mainGlobals "tuple" = some none)
 (i12:PySem.W.nsIn K mainGlobals "zip" = some none)
 (b4:PySem.W.nsIn K mainGlobals "MOST_PLACES" = some (some (.int 40 k3)))
 (i4:PySem.W.nsIn K mainGlobals "MOST_TIES" = some (some (.int 60 c4)))
 (j4:PySem.W.nsIn K mainGlobals "STEP_BARS" = some (some (.ref bb0)))
 (lb0:K.lookup bb0=some ⟨.type "tuple",db0,.seq #[.ref bb1,.ref bb2] nb0,sb0⟩)
 (lb1:K.lookup bb1=some ⟨.type "tuple",db1,.seq #[.str "places" tb1_0] nb1,sb1⟩)
 (lb2:K.lookup bb2=some ⟨.type "tuple",db2,.seq #[.str "even" tb2_0] nb2,sb2⟩)
 (c3:PySem.W.nsIn K mainGlobals "LEAST_NUMBERS" = some (some (.ref c2)))
 (g2:K.lookup c2=some ⟨.type "dict",none,.dict #[⟨PyData.keyHash w.params "ring",.str "ring" a1,.ref bb3⟩,⟨PyData.keyHash w.params "sides",.str "sides" b1,.ref bb4⟩,⟨PyData.keyHash w.params "full",.str "full" c1,.ref bb5⟩,⟨PyData.keyHash w.params "wheel",.str "wheel" f1,.ref bb6⟩,⟨PyData.keyHash w.params "fan",.str "fan" g1,.ref bb7⟩] f2,#[]⟩)
 (lb3:K.lookup bb3=some ⟨.type "tuple",db3,.seq #[.int 3 tb3_0] nb3,sb3⟩)
 (lb4:K.lookup bb4=some ⟨.type "tuple",db4,.seq #[.int 1 tb4_0,.int 1 tb4_1] nb4,sb4⟩)
 (lb5:K.lookup bb5=some ⟨.type "tuple",db5,.seq #[.int 1 tb5_0] nb5,sb5⟩)
 (lb6:K.lookup bb6=some ⟨.type "tuple",db6,.seq #[.int 3 tb6_0] nb6,sb6⟩)
 (lb7:K.lookup bb7=some ⟨.type "tuple",db7,.seq #[.int 1 tb7_0] nb7,sb7⟩)
 (i2:(c2 == sysModules)=false)
 (a9:PySem.W.nsIn K mainGlobals "NoKind" = some (some (.ref f8)))
 (j9:PySem.W.excIn K f8 [.type "ValueError",.type "Exception",.type "BaseException",.type "object"] "ValueError.__new__" = true)
 (nT:PySem.W.nsIn K mainGlobals "TieError" = some (some (.ref TE)))
 (yT:PySem.W.clsIn K TE=some eT)
 (tT:PySem.W.typeIn K (.ref TE)=some (.type "type"))
 (sT:PySem.W.subIn K (.ref TE) (.type "BaseException")=some true)
 (i9:PySem.W.subIn K (.ref f8) (.ref TE)=some true)
 (j10:PySem.W.nsIn K mainGlobals "NoWeb" = some (some (.ref c10)))
 (b11:PySem.W.clsIn K c10=some g10)
 (m10:PySem.W.typeIn K (.ref c10)=some (.type "type"))
 (i7:PySem.W.nsIn K mainGlobals "NoPlace" = some (some (.ref i6)))
 (b8:PySem.W.clsIn K i6=some a7)
 (m7:PySem.W.typeIn K (.ref i6)=some (.type "type"))
 (k9:PySem.W.clsIn K f8=some k8)
 (c9:PySem.W.typeIn K (.ref f8)=some (.type "type"))
 (j7:PySem.W.nsIn K mainGlobals "NoShare" = some (some (.ref j6)))
 (c8:PySem.W.clsIn K j6=some b7)
 (a8:PySem.W.typeIn K (.ref j6)=some (.type "type"))
 (j5:PySem.W.nsIn K mainGlobals "NoSquare" = some (some (.ref a5)))
 (f6:PySem.W.clsIn K a5=some f5)
 (a6:PySem.W.typeIn K (.ref a5)=some (.type "type"))
 (i5:PySem.W.nsIn K mainGlobals "NoNumber" = some (some (.ref m4)))
 (c6:PySem.W.clsIn K m4=some c5)
 (m5:PySem.W.typeIn K (.ref m4)=some (.type "type"))
 (b9:PySem.W.nsIn K mainGlobals "NoText" = some (some (.ref g8)))
 (m9:PySem.W.clsIn K g8=some m8)
 (f9:PySem.W.typeIn K (.ref g8)=some (.type "type"))
 (i10:PySem.W.nsIn K mainGlobals "NoRow" = some (some (.ref b10)))
 (a11:PySem.W.clsIn K b10=some f10)
 (k10:PySem.W.typeIn K (.ref b10)=some (.type "type"))
 (k5:PySem.W.nsIn K mainGlobals "TooGreat" = some (some (.ref b5)))
 (g6:PySem.W.clsIn K b5=some g5)
 (b6:PySem.W.typeIn K (.ref b5)=some (.type "type"))
 (j3:PySem.W.subIn K (.ref f8) (.ref c10)=some false)
 (a4:f8≠c10)
 (j2:PySem.W.subIn K (.ref f8) (.ref i6)=some false)
 (m2:f8≠i6)
 (k2:PySem.W.subIn K (.ref f8) (.ref j6)=some false)
 (a3:f8≠j6)
 (j1:PySem.W.subIn K (.ref f8) (.ref a5)=some false)
 (a2:f8≠a5)
 (i1:PySem.W.subIn K (.ref f8) (.ref m4)=some false)
 (m1:f8≠m4)
 (f3:PySem.W.subIn K (.ref f8) (.ref g8)=some false)
 (g3:f8≠g8)
 (i3:PySem.W.subIn K (.ref f8) (.ref b10)=some false)
 (m3:f8≠b10)
 (k1:PySem.W.subIn K (.ref f8) (.ref b5)=some false)
 (b2:f8≠b5)
 (g9:PySem.W.subIn K (.ref f8) (.type "ValueError")=some true)
 (c7:PySem.W.findIn K (.ref f8) "__getattribute__" = some (some (.builtin "BaseException.__getattribute__")))
 (f7:PySem.W.findIn K (.ref f8) "__getattr__" = some none)
 (g7:PySem.W.mroIn K f8 (.type "BaseException")=some true)
 (m6:PySem.W.findIn K (.ref f8) "__class__" = some (some (.builtin "object.__class__")))
 (k7:PySem.W.mroIn K f8 (.type "object")=some true)
 : ∃ fd:FuncData,(∀ (s:Shared) (v:Value),BindsTo s fd ⟨[v],[]⟩ [("script",v)])/\∀ base:Heap,K.In base->base.Ns mainGlobals mg->kq l.prog w K mg base (CXr l.prog w) 9 fa fd ["script"] (spF K none sM):=by
 obtain ⟨fL,odL,anL,slL,ocL,kVL,dcL,pmL,cdL,ctL,aL,lL,cL,kL⟩:=d43;cases hfa.symm.trans (El X G aL);have T:Txt K mg:=⟨DU X G f4,DU X G j11,DU X G g11,DU X G k4,DU X G k11,DU X G g4,DU X G m11,DU X G i11,DU X G a12,DU X G b12,DU X G c11,DU X G c12,DU X G a10,DU X G f12,DU X G g12,DU X G f11,DU X G i12,⟨k3,El X G b4⟩,⟨c4,El X G i4⟩,⟨bb0,El X G j4,fun H=>⟨bb0,[.ref bb1,.ref bb2],rfl,.inr ⟨_,#[.ref bb1,.ref bb2],nb0,lb0,rfl,rfl,by show 2<=sizeLine;decide,(.cons rfl (.cons rfl .nil))⟩,⟨bb1,[.str "places"],rfl,.inr ⟨_,#[.str "places" tb1_0],nb1,lb1,rfl,rfl,by show 1<=sizeLine;decide,(.cons ⟨_,rfl⟩ .nil)⟩,rfl,trivial⟩,⟨bb2,[.str "even"],rfl,.inr ⟨_,#[.str "even" tb2_0],nb2,lb2,rfl,rfl,by show 1<=sizeLine;decide,(.cons ⟨_,rfl⟩ .nil)⟩,rfl,trivial⟩,trivial⟩⟩⟩;have b3:vV w K mg "LEAST_NUMBERS" bi bj:=⟨⟨c2,[.ref bb3,.ref bb4,.ref bb5,.ref bb6,.ref bb7],El X G c3,rfl,fzM_of [("ring",a1,bb3),("sides",b1,bb4),("full",c1,bb5),("wheel",f1,bb6),("fan",g1,bb7)] i2 g2 (show (["ring", "sides", "full", "wheel", "fan"]:List Str).Nodup by decide),fun H=>⟨⟨bb3,[.int 3],rfl,.inr ⟨_,#[.int 3 tb3_0],nb3,lb3,rfl,rfl,by show 1<=sizeLine;decide,(.cons ⟨_,rfl⟩ .nil)⟩,rfl,trivial⟩,⟨bb4,[.int 1,.int 1],rfl,.inr ⟨_,#[.int 1 tb4_0,.int 1 tb4_1],nb4,lb4,rfl,rfl,by show 2<=sizeLine;decide,(.cons ⟨_,rfl⟩ (.cons ⟨_,rfl⟩ .nil))⟩,rfl,rfl,trivial⟩,⟨bb5,[.int 1],rfl,.inr ⟨_,#[.int 1 tb5_0],nb5,lb5,rfl,rfl,by show 1<=sizeLine;decide,(.cons ⟨_,rfl⟩ .nil)⟩,rfl,trivial⟩,⟨bb6,[.int 3],rfl,.inr ⟨_,#[.int 3 tb6_0],nb6,lb6,rfl,rfl,by show 1<=sizeLine;decide,(.cons ⟨_,rfl⟩ .nil)⟩,rfl,trivial⟩,⟨bb7,[.int 1],rfl,.inr ⟨_,#[.int 1 tb7_0],nb7,lb7,rfl,rfl,by show 1<=sizeLine;decide,(.cons ⟨_,rfl⟩ .nil)⟩,rfl,trivial⟩,trivial⟩⟩⟩
 have D0:=bw X G "thing" d0 (by intros;rfl);have D1:=C8 X G "thing" "least" "most" d1 (by intros;rfl);have D2:=bw X G "thing" d2 (by intros;rfl);have D3:=fV X G "many" "thing" d3 (by intros;rfl);have D4:=fV X G "many" "thing" d4 (by intros;rfl);have D5:=fV X G "many" "things" d5 (by intros;rfl);have D6:=bw X G "web" d6 (by intros;rfl);have D7:=bw X G "web" d7 (by intros;rfl);have D8:=bw X G "thing" d8 (by intros;rfl);have D9:=bw X G "kind" d9 (by intros;rfl);have D10:=bw X G "thing" d10 (by intros;rfl);have D11:=bw X G "thing" d11 (by intros;rfl);have D12:=fV X G "leasts" "things" d12 (by intros;rfl);have D13:=bw X G "kind" d13 (by intros;rfl);have D14:=bw X G "kind" d14 (by intros;rfl);have D15:=fV X G "first" "last" d15 (by intros;rfl);have D16:=C8 X G "middle" "first" "last" d16 (by intros;rfl);have D17:=bw X G "legs" d17 (by intros;rfl);have D18:=bw X G "n" d18 (by intros;rfl);have D19:=fV X G "m" "n" d19 (by intros;rfl);have D20:=bw X G "n" d20 (by intros;rfl);have D21:=bw X G "n" d21 (by intros;rfl);have D22:=bw X G "n" d22 (by intros;rfl);have D23:=fV X G "web" "thing" d23 (by intros;rfl);have D24:=bw X G "web" d24 (by intros;rfl);have D25:=bw X G "kind" d25 (by intros;rfl);have D26:=bw X G "kind" d26 (by intros;rfl);have D27:=bw X G "legs" d27 (by intros;rfl);have D28:=fV X G "m" "n" d28 (by intros;rfl);have D29:=bw X G "web" d29 (by intros;rfl);have D30:=bw X G "n" d30 (by intros;rfl);have D31:=fV X G "script" "k" d31 (by intros;rfl);have D32:=bw X G "seed" d32 (by intros;rfl);have D33:=bw X G "cell" d33 (by intros;rfl);have D34:=fV X G "pen" "many" d34 (by intros;rfl);have D35:=bw X G "found" d35 (by intros;rfl);have D36:=bw X G "legs" d36 (by intros;rfl)
 have D37:=bw X G "kind" d37 (by intros;rfl);have D38:=fV X G "pen" "most" d38 (by intros;rfl);have D39:=bw X G "e" d39 (by intros;rfl);have D40:=fV X G "web" "thing" d40 (by intros;rfl);have D41:=bw X G "kind" d41 (by intros;rfl);have D42:=bw X G "thing" d42 (by intros;rfl);refine ⟨PySem.W.fnOf "law" "law" (di (top 64)) (bb (top 64)) (ah (top 64)) .none kVL dcL pmL anL cdL ctL,fun s v=> .of_eq rfl,fun base KB GB=> ?_⟩;have i8:OwnCls "NoKind" f8 [.type "ValueError",.type "Exception",.type "BaseException",.type "object"] "ValueError.__new__" mg base:=own_of KB GB a9 j9;have j8:lI K mg base "NoKind" := ⟨_,_,_,_,_,i8,PySem.F.excBase_ValueError,a9⟩;have HT:Hdl K mg "TieError" TE:=⟨El X G nT,sT,by rw [yT];rfl,tT⟩
 have SU:∀ nm,nms.elem nm=true->∀ C,gK K nm C->PySem.W.subIn K (.ref C) (.ref TE)=some true:=fun nm h C hC=>by
  rcases (by simpa [nms] using h:nm=("NoKind" : Str)) with rfl
  ·have e:C=f8:=by have:=(show PySem.W.nsIn K mainGlobals "NoKind" = _ from hC).symm.trans a9;simpa using this
   subst e;exact i9
 have k6:Kd.uY K mg f8 2:=⟨⟨c7,f7,g7,m6,k7,by rw [k9];rfl⟩,by decide,Kd.kit_ve g9,⟨c10,El X G j10,Kd.cM a4 b11 m10 j3⟩,⟨i6,El X G i7,Kd.cM m2 b8 m7 j2⟩,⟨f8,El X G a9,Kd.zn⟩,⟨j6,El X G j7,Kd.cM a3 c8 a8 k2⟩,⟨a5,El X G j5,Kd.cM a2 f6 a6 j1⟩,⟨m4,El X G i5,Kd.cM m1 c6 m5 i1⟩,⟨g8,El X G b9,Kd.cM g3 m9 f9 f3⟩,⟨b10,El X G i10,Kd.cM m3 a11 k10 i3⟩,⟨b5,El X G k5,Kd.cM b2 g6 b6 k1⟩⟩
 have KN:Kd.AD K mg nms:=⟨fun nm h j hj C hC=>by
  rcases (by simpa [nms] using h:nm=("NoKind" : Str)) with rfl
  ·have e:C=f8:=by have:=(show PySem.W.nsIn K mainGlobals "NoKind" = _ from hC).symm.trans a9;simpa using this
   subst e;rw [show Kd.names.findIdx? (·== ("NoKind" : Str))=some 2 by decide +kernel] at hj;cases hj
   exact k6⟩
 have GK:=BR (P:=l.prog) (w:=w) (base:=base) D39 T;have G5:=r9 (P:=l.prog) (w:=w) (base:=base) D0 T;have G32:=mH (P:=l.prog) (w:=w) (base:=base) D7 T;have G16:=qq (P:=l.prog) (w:=w) (base:=base) D13 T;have G6:=r8 (P:=l.prog) (w:=w) (base:=base) D15 T;have G18:=qo (P:=l.prog) (w:=w) (base:=base) D16 T;have G31:=mI (P:=l.prog) (w:=w) (base:=base) D27 T;have G30:=mJ (P:=l.prog) (w:=w) (base:=base) D28 T;have G22:=oh (P:=l.prog) (w:=w) (base:=base) D30 T;have G33:=lj (P:=l.prog) (w:=w) (base:=base) D31 T;have G10:=qx (P:=l.prog) (w:=w) (base:=base) D32 T;have G27:=mM (P:=l.prog) (w:=w) (base:=base) D33 T;have G21:=oj (P:=l.prog) (w:=w) (base:=base) D35 T;have G40:=iR (P:=l.prog) (w:=w) (base:=base) D36 T;have G37:=le (P:=l.prog) (w:=w) (base:=base) D1 T G5;have G25:=oa (P:=l.prog) (w:=w) (base:=base) D6 T G32;have G24:=of (P:=l.prog) (w:=w) (base:=base) D17 T G6 G18;have G17:=qp (P:=l.prog) (w:=w) (base:=base) D18 T G6;have G23:=og (P:=l.prog) (w:=w) (base:=base) D19 T G18;have G12:=qv (P:=l.prog) (w:=w) (base:=base) D20 T G18;have G3:=se (P:=l.prog) (w:=w) (base:=base) D21 T G18 G6;have G28:=mL (P:=l.prog) (w:=w) (base:=base) D26 T G31 G30 j8;have G9:=qy (P:=l.prog) (w:=w) (base:=base) D34 T G10;have G38:=ka (P:=l.prog) (w:=w) (base:=base) D37 T G40;have G41:=iQ (P:=l.prog) (w:=w) (base:=base) D40 T G21;have G15:=qr (P:=l.prog) (w:=w) (base:=base) D2 T G37;have G4:=sd (P:=l.prog) (w:=w) (base:=base) D4 T G37;have G14:=qt (P:=l.prog) (w:=w) (base:=base) D11 T G37;have G36:=lf (P:=l.prog) (w:=w) (base:=base) D12 T G37
 have G26:=n9 (P:=l.prog) (w:=w) (base:=base) D22 T G3;have G39:=ju (P:=l.prog) (w:=w) (base:=base) D23 T G25;have G34:=lh (P:=l.prog) (w:=w) (base:=base) D38 T G9;have G8:=rZ (P:=l.prog) (w:=w) (base:=base) D3 T G4;have G11:=qw (P:=l.prog) (w:=w) (base:=base) D10 T G14 G36 b3;have G1:=ud (P:=l.prog) (w:=w) (base:=base) D14 T G24 G17 G23 G12 G26 G3;have G7:=r6 (P:=l.prog) (w:=w) (base:=base) D24 T G39;have G0:=wt (P:=l.prog) (w:=w) (base:=base) D5 T G15 G8;have G13:=qu (P:=l.prog) (w:=w) (base:=base) D8 T G11 G16 G1;have G29:=mK (P:=l.prog) (w:=w) (base:=base) D29 T G22 G7;have G2:=uc (P:=l.prog) (w:=w) (base:=base) D9 T G13 G0 G16 G1 j8;have G19:=qm (P:=l.prog) (w:=w) (base:=base) D25 T G2 G29 G28;have G20:=om (P:=l.prog) (w:=w) (base:=base) D41 T G19 G41 G38;have G35:=lg (P:=l.prog) (w:=w) (base:=base) D42 T G19 HT SU GK KN;exact ok_law (P:=l.prog) (w:=w) (base:=base) (uz lL cL kL) T G20 G35 G33 G34 G27
end K17
open PySem PySem.W PyProof.Rows
noncomputable def PySem.W.Fast.tw316514102143019080:=0
noncomputable def PySem.W.Fast.tw13402640891724300857:=0
noncomputable def PySem.W.Fast.tw17643754061406199020:=0
noncomputable def PySem.W.Fast.tw4491058772748593153:=0
noncomputable def PySem.W.Fast.tw12533650973541477374:=0
noncomputable def PySem.W.Fast.tw3101917741504857134:=0
noncomputable def PySem.W.Fast.tw7498633149979677338:=0
noncomputable def PySem.W.Fast.tw13840814423707232359:=0
noncomputable def PySem.W.Fast.tw16472409268878238316:=0
noncomputable def PySem.W.Fast.tw234749781942434899:=0
noncomputable def PySem.W.Fast.tw12444894573219911983:=0
noncomputable def PySem.W.Fast.tw6436848712300024549:=0
noncomputable def PySem.W.Fast.tw5030944203280556702:=0
noncomputable def PySem.W.Fast.tw8933567498414919238:=0
noncomputable def PySem.W.Fast.tw5623994078177797194:=0
noncomputable def PySem.W.Fast.tw14613296582639449008:=0
noncomputable def PySem.W.Fast.tw11627183963262164719:=0
noncomputable def PySem.W.Fast.tw2665306549610424077:=0
noncomputable def PySem.W.Fast.tw4843473975253519250:=0
noncomputable def PySem.W.Fast.tw1541540961381408409:=0
noncomputable def PySem.W.Fast.tw5388663596951873645:=0
noncomputable def PySem.W.Fast.tw16317983856663788926:=0
noncomputable def PySem.W.Fast.tw3414106826494052011:=0
noncomputable def PySem.W.Fast.tw7363425622247834253:=0
noncomputable def PySem.W.Fast.tw15308039878007177628:=0
noncomputable def PySem.W.Fast.tw2625098255110226060:=0
noncomputable def PySem.W.Fast.tw3094701115853657799:=0
noncomputable def PySem.W.Fast.tw5285349122156285790:=0
noncomputable def PySem.W.Fast.tw1165732905965986049:=0
noncomputable def PySem.W.Fast.tw7263716545317095810:=0
noncomputable def PySem.W.Fast.tw10752687858943698738:=0
noncomputable def PySem.W.Fast.tw17601101962401091345:=0
noncomputable def PySem.W.Fast.tw11712190458185945011:=0
noncomputable def PySem.W.Fast.tw14678158920106854735:=0
noncomputable def PySem.W.Fast.tw15285198872529256923:=0
noncomputable def PySem.W.Fast.tw12532165626772418067:=0
noncomputable def PySem.W.Fast.tw11990459337992974956:=0
noncomputable def PySem.W.Fast.tw517312751163448032:=0
noncomputable def PySem.W.Fast.tw11289143093466461953:=0
noncomputable def PySem.W.Fast.tw9516800180062724845:=0
noncomputable def PySem.W.Fast.tw17011488483646847055:=0
noncomputable def PySem.W.Fast.tw10015853644003576960:=0
noncomputable def PySem.W.Fast.tw16037262199133111090:=0
noncomputable def PySem.W.Fast.tw4211700434839312001:=0
noncomputable def PySem.W.Fast.tw11386625637836781638:=0
noncomputable def PySem.W.Fast.tw13767189678803695011:=0
noncomputable def PySem.W.Fast.tw2810533944269268182:=0
noncomputable def PySem.W.Fast.tw17513604867990543079:=0
noncomputable def PySem.W.Fast.tw14987661418082201831:=0
noncomputable def PySem.W.Fast.tw2337977823195543630:=0
noncomputable def PySem.W.Fast.tw17698735102306075112:=0
noncomputable def PySem.W.Fast.tw11188117447681078326:=0
noncomputable def PySem.W.Fast.tw11628655550579775585:=0
noncomputable def PySem.W.Fast.tw1647960591809683682:=0
noncomputable def PySem.W.Fast.tw1733859077932722978:=0
noncomputable def PySem.W.Fast.tw18167724695441219349:=0
noncomputable def PySem.W.Fast.tw10896712999787139778:=0
noncomputable def PySem.W.Fast.tw6771182271545134960:=0
noncomputable def PySem.W.Fast.tw6873971014812347169:=0
noncomputable def PySem.W.Fast.tw13508602156133886167:=0
noncomputable def PySem.W.Fast.tw11469360237664420825:=0
noncomputable def PySem.W.Fast.tw3808584094389355786:=0
noncomputable def PySem.W.Fast.tw15261137711255440680:=0
noncomputable def PySem.W.Fast.tw10134030333460990790:=0
noncomputable def PySem.W.Fast.tw4177351759533223642:=0
noncomputable def PySem.W.Fast.tw2202087279664922802:=0
noncomputable def PySem.W.Fast.tw17338234738716814015:=0
noncomputable def PySem.W.Fast.tw4972022577876997631:=0
noncomputable def PySem.W.Fast.tw11300376045408061371:=0
noncomputable def PySem.W.Fast.tw6205024481829086969:=0
noncomputable def PySem.W.Fast.tw8621336744817483243:=0
noncomputable def PySem.W.Fast.tw11586196018267737339:=0
noncomputable def PySem.W.Fast.tw10241233070082051121:=0
noncomputable def PySem.W.Fast.tw12694112234171929671:=0
noncomputable def PySem.W.Fast.tw16366832468508596192:=0
noncomputable def PySem.W.Fast.tw2484844197603217540:=0
noncomputable def PySem.W.Fast.tw1354003750591732747:=0
noncomputable def PySem.W.Fast.tw5011889884212318148:=0
noncomputable def PySem.W.Fast.tw4636031889025220839:=0
noncomputable def PySem.W.Fast.tw7910172739516966087:=0
noncomputable def PySem.W.Fast.tw6181526210622171578:=0
noncomputable def PySem.W.Fast.tw5738919822854818926:=0
noncomputable def PySem.W.Fast.tw16803143847538834185:=0
open_top head for PySem.Challenge.rw_tienumbers_k17_steps_made
set_option maxRecDepth 100000 in
set_option maxHeartbeats 0 in
theorem PySem.Challenge.cw_tienumbers_k17_steps_made_holds : PySem.Challenge.rw_tienumbers_k17_steps_made.Holds := by
 refine head ?_
 k_fill
 refine L2.AF (l:=PySem.Challenge.rw_tienumbers_k17_steps_made) (n:=63) (k:=9) (x := "script") (CX:=fun w=>L2.CXr (PySem.Challenge.rw_tienumbers_k17_steps_made).prog w) (sp:=fun w=>L2.spF _ none K17.sM) rfl (by decide) rfl ⟨rfl,by decide,by decide,rfl⟩ (fun w h Y=>PySem.W.kIn_of Y) ?F (fun _ _ a ns hl _ hS=>L2.AS ⟨_,K17.law_ok ns⟩ hS) fun _ _ _ _ _ z=>L2.wQ z
 case F =>
  intro w mg fa h KX G hmg;refine' K17.all_mk KX G hmg ?_ ?_ ?_ ?_ ?_ ?_ ?_ ?_ ?_ ?_ ?_ ?_ ?_ ?_ ?_ ?_ ?_ ?_ ?_ ?_ ?_ ?_ ?_ ?_ ?_ ?_ ?_ ?_ ?_ ?_ ?_ ?_ ?_ ?_ ?_ ?_ ?_ ?_ ?_ ?_ ?_ ?_ ?_ ?_ ?_ ?_ ?_ ?_ ?_ ?_ ?_ ?_ ?_ ?_ ?_ ?_ ?_ ?_ ?_ ?_ ?_ ?_ ?_ ?_ ?_ ?_ ?_ ?_ ?_ ?_ ?_ ?_ ?_ ?_ ?_ ?_ ?_ ?_ ?_ ?_ ?_ ?_ ?_ ?_ ?_ ?_ ?_ ?_ ?_ ?_ ?_ ?_ ?_ ?_ ?_ ?_ ?_ ?_ ?_ ?_ ?_ ?_ ?_ ?_ ?_ ?_ ?_ ?_ ?_ ?_ ?_ ?_ ?_ ?_ ?_ ?_ ?_ ?_ ?_ ?_ ?_ ?_ ?_ ?_ ?_ ?_ ?_ ?_ ?_ ?_
  all_goals first | (apply K17.din_mk<;>k_is) | k_is | k_exc | decide | skip
end
