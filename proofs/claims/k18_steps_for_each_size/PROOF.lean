import PyProof.Rows.All
import Wide.All
import OpenK.AllK
import Wide.FinOn
import Lean
import PyProof.EqAt
import PyProof.EqKinds
import PyProof.TupleCall
import PyProof.CallFns
import PyProof.Draws
import PyProof.EnumMake
import PyProof.ExcArgsOwn
import PyProof.FactsAll.dict_1
import PyProof.FactsAll.dict_4
import PyProof.FactsAll.subtypes_4
import PyProof.FactsAll.tuple_2
import PyProof.ListMulRoad
import PyProof.ListRange
import PyProof.MaxThree
import PyProof.NeKinds
import PyProof.ReprRoads
import PyProof.Rows.CallKwBuiltin
import PyProof.Rows.EnumRows
import PyProof.Rows.SetFrom
import PyProof.Rows.SortRev
import PyProof.TupleOfStr
import PySem.Challenge.RW_tienumbers_k18_steps_for_each_size
set_option Elab.async false
set_option linter.all false
set_option maxRecDepth 100000
set_option maxHeartbeats 4000000
section
open PySem PySem.Spec PyProof.Rows
abbrev AB:=@wpAny_bind
abbrev AC:=@Heap.get?_push_of_some
abbrev AD:=@List.getElem?_eq_getElem
abbrev AE:=@List.length_map
abbrev AF:=@List.size_toArray
abbrev AG:=@wpAny_pure
abbrev AH:=@List.mem_append_right
abbrev AI:=@List.length_cons
abbrev AJ:=@Heap.get?_push_size
abbrev AK:=@List.mem_append_left
abbrev AL:=@Heap.lt_size
abbrev AM:=@List.getElem?_eq_some_iff
abbrev AN:=@List.mem_cons_of_mem
abbrev AO:=@Nat.le_refl
abbrev AQ:=@List.mem_cons
abbrev AR:=@List.mem_of_getElem?
abbrev AS:=@decide_eq_true
abbrev AT:=@List.mem_cons_self
abbrev AU:=@List.map_cons
abbrev AV:=@List.length_append
abbrev AW:=@of_decide_eq_true
abbrev AX:=@List.all_eq_true
abbrev AY:=@Bool.and_eq_true
abbrev AZ:=@Nat.ne_of_lt
abbrev A2:=@List.getElem?_map
abbrev A3:=@Bool.false_ne_true
abbrev A4:=@List.getElem?_cons_zero
abbrev A5:=@List.getElem?_append_left
abbrev A6:=@List.getD_eq_getElem?_getD
abbrev A7:=@List.mem_singleton
abbrev A8:=@List.mem_append
abbrev A9:=@List.getElem?_cons_succ
abbrev Ba:=@List.length_pos_iff
abbrev Bb:=@Nat.lt_of_lt_of_le
abbrev Bc:=@decide_eq_false
abbrev Bd:=@PySem.W.mg_none_of
abbrev Be:=@Heap.size_push
abbrev Bf:=@wpAny_newObj_type
abbrev Bg:=@wpAny_pyIter_tuple
abbrev Bh:=@wpAny_callSpecial?_slot
abbrev Bi:=@List.map_map
abbrev Bj:=@List.length_replicate
abbrev Bk:=@List.append_nil
abbrev Bl:=@List.map_congr_left
abbrev Bm:=@List.map_append
abbrev Bn:=@Array.getD_eq_getD_getElem?
abbrev Bo:=@List.pairwise_cons
abbrev Bp:=@List.getElem?_append_right
abbrev Bq:=@List.replicate_succ
abbrev Br:=@wpAny_call_entry
abbrev Bs:=@List.nil_append
abbrev Bt:=@List.cons_append
abbrev Bu:=@List.append_assoc
abbrev Bv:=@Nat.zero_add
abbrev Bw:=@List.getElem?_set_ne
abbrev Bx:=@Option.map_eq_some_iff
abbrev By:=@List.mem_filter
abbrev Bz:=@Array.length_toList
abbrev BA:=@List.mem_range
abbrev BB:=@decide_eq_true_eq
abbrev BC:=@List.set_cons_zero
abbrev BD:=@List.set_cons_succ
abbrev BE:=@List.nodup_cons
abbrev BF:=@List.sum_cons
abbrev BG:=@PySem.mem_of_lookup
abbrev BH:=@List.mem_map
abbrev BI:=@Heap.get?_update_self
abbrev BJ:=@wpAny_loadPart'
abbrev BK:=@wpAny_field
abbrev BL:=@Nat.le_trans
abbrev BM:=@Nat.lt_succ_of_lt
abbrev BN:=@Bool.and_false
abbrev BO:=@List.length_set
abbrev BP:=@List.length_nil
abbrev BQ:=@wpAny_mono
abbrev BR:=@List.getElem_mem
abbrev BS:=@wpAny_holding
abbrev BT:=@wpAny_truthy_bool
abbrev BU:=@List.length_range
abbrev BV:=@List.getElem?_set_self
abbrev BW:=@List.map_nil
abbrev BX:=@Bool.and_true
abbrev BY:=@Array.getElem?_toList
abbrev BZ:=@wpAny_setField
abbrev B0:=@Array.getElem?_eq_getElem
abbrev B1:=@List.mem_iff_getElem
abbrev B2:=@wpAny_pyIter_list
abbrev B3:=@List.flatten_cons
abbrev B4:=@Int.toNat_natCast
abbrev B5:=@Nat.le_of_lt
abbrev B6:=@List.perm_iff_count
abbrev B7:=@List.getElem?_replicate
abbrev B8:=@wpAny_typeNameOfWhole_keyiter
abbrev B9:=@List.not_mem_nil
abbrev Ca:=@List.lookup_cons
abbrev Cb:=@List.length_take
abbrev Cc:=@Heap.get?_update_other
abbrev Cd:=@Nat.zero_le
abbrev Ce:=@Nat.ne_of_gt
abbrev Cf:=@Nat.min_self
abbrev Cg:=@List.length_zip
abbrev Ch:=@List.Perm.of_eq
abbrev Ci:=@Nat.lt_irrefl
abbrev Cj:=@Bool.true_and
abbrev Ck:=@wpAny_seqItems
abbrev Cl:=@List.ne_nil_of_length_pos
abbrev Cm:=@Bool.false_and
abbrev Cn:=@Nat.lt_succ_self
abbrev Co:=@List.ext_getElem
abbrev Cp:=@beq_eq_false_iff_ne
abbrev Cq:=@PySem.W.hideAll_get
abbrev Cr:=@List.flatMap_append
abbrev Cs:=@wpAny_typeNameOf_keyiter
abbrev Ct:=@Bool.or_true
abbrev Cu:=@of_decide_eq_false
abbrev Cv:=@PySem.W.mg_of
abbrev Cw:=@List.find?_cons
abbrev Cy:=@Bool.or_false
abbrev Cz:=@Bool.or_eq_true
abbrev CA:=@Bool.false_or
abbrev CB:=@Bool.false_eq_true
abbrev CC:=@List.nodup_append
abbrev CD:=@List.nodup_nil
abbrev CF:=@Nat.sub_self
abbrev CG:=@List.getElem?_eq_none
abbrev CH:=@Bool.true_or
abbrev CI:=@Nat.le_add_right
abbrev CJ:=@Int.mul_le_mul_of_nonneg_left
abbrev CK:=@wpAny_newList
abbrev CL:=@wpAny_passesOwn
abbrev CM:=@List.getElem_of_mem
abbrev CN:=@List.filterMap_cons
abbrev CO:=@Obj.data_mapFields
abbrev CP:=@List.zip_cons_cons
abbrev CQ:=@List.mem_filterMap
abbrev CS:=@wpAny_runValue
abbrev CT:=@List.getElem?_zip_eq_some
end
namespace L2
open PySem PySem.Spec PyProof.Rows
abbrev Key:=Sum Int Str
def nh:Key→Value→Bool
 | .inl k,v=>Value.isInt k v
 | .inr x,v=>Value.isStrOf x v
def keyH(w:World):Key→Int
 | .inl k=>hashInt k
 | .inr x=>hashStr w x
theorem bH:∀ {k:Key} {v:Value},nh k v=true→(∃ i t,k=Sum.inl i∧v=Value.int i t)∨(∃ x t,k=Sum.inr x∧v=Value.str x t)
 | .inl i,v,h=>by
  obtain ⟨t,e⟩:=Value.isInt_shape (k:=i) (v:=v) h;exact .inl ⟨i,t,rfl,e⟩
 | .inr x,v,h=>by
  obtain ⟨t,e⟩:=Value.isStrOf_shape (x:=x) (v:=v) h;exact .inr ⟨x,t,rfl,e⟩
theorem uK(i:Int)(t:Tok):nh (.inl i) (.int i t)=true:=by simp [nh,Value.isInt]
theorem uJ(x:Str)(t:Tok):nh (.inr x) (.str x t)=true:=by simp [nh,Value.isStrOf]
theorem key_ll(a b:Int):decide ((Sum.inl a:Key)=Sum.inl b)=(a == b):=by
 by_cases e:a=b
 ·subst e;simp
 ·have h:¬ (Sum.inl a:Key)=Sum.inl b:=fun q=>e (Sum.inl.inj q)
  rw [Bc h];exact (Cp.mpr e).symm
theorem key_rr(a b:Str):decide ((Sum.inr a:Key)=Sum.inr b)=decide (a=b):=by
 by_cases e:a=b
 ·subst e;simp
 ·have h:¬ (Sum.inr a:Key)=Sum.inr b:=fun q=>e (Sum.inr.inj q)
  rw [Bc h,Bc e]
theorem key_lr(a:Int)(b:Str):decide ((Sum.inl a:Key)=Sum.inr b)=false:=Bc (fun q=>nomatch q)
theorem key_rl(a:Str)(b:Int):decide ((Sum.inr a:Key)=Sum.inl b)=false:=Bc (fun q=>nomatch q)
def bi(prog:Program)(w:World):PySem.KeyKind prog w Key where
 is:=nh
 hash:=keyH w
 inj:=fun v a b ha hb=>by
  rcases bH ha with ⟨i,t,rfl,rfl⟩ | ⟨x,t,rfl,rfl⟩
  ·rcases bH hb with ⟨j,u,rfl,e⟩ | ⟨y,u,rfl,e⟩
   ·injection e with e1 _;rw [e1]
   ·exact nomatch e
  ·rcases bH hb with ⟨j,u,rfl,e⟩ | ⟨y,u,rfl,e⟩
   ·exact nomatch e
   ·injection e with e1 _;rw [e1]
 byValue:=fun k v h=>by
  rcases bH h with ⟨i,t,rfl,rfl⟩ | ⟨x,t,rfl,rfl⟩<;>rfl
 pyHash:=fun hv h=>by
  rcases bH hv with ⟨i,t,rfl,rfl⟩ | ⟨x,t,rfl,rfl⟩
  ·exact wpAny_pyHash_int h
  ·exact wpAny_pyHash_str h
 eqBool:=fun hu hv h=>by
  rcases bH hu with ⟨i,t,rfl,rfl⟩ | ⟨x,t,rfl,rfl⟩
  ·rcases bH hv with ⟨j,u,rfl,rfl⟩ | ⟨y,u,rfl,rfl⟩
   ·rw [key_ll] at h;exact wpAny_eqBool_int h
   ·rw [key_lr] at h;exact SeqAt.EqAt.int_str i t y u _ _ _ _ h
  ·rcases bH hv with ⟨j,u,rfl,rfl⟩ | ⟨y,u,rfl,rfl⟩
   ·rw [key_rl] at h;exact SeqAt.EqAt.str_int x t j u _ _ _ _ h
   ·rw [key_rr] at h;exact wpAny_eqBool_str h
 «strs»:=fun k x t v h=>by
  rcases bH h with ⟨i,u,rfl,e⟩ | ⟨y,u,rfl,e⟩
  ·exact nomatch e
  ·injection e with e1 _
   subst e1;cases v<;>rfl
theorem qr(prog:Program)(w:World)(i:Int)(t:Tok):(bi prog w).is (.inl i) (.int i t)=true:=uK i t
theorem fg(prog:Program)(w:World)(x:Str)(t:Tok):(bi prog w).is (.inr x) (.str x t)=true:=uJ x t
end L2
namespace L2
open PySem PySem.Spec PyProof.Rows
inductive V where
 | non | bl (b:Bool) | int (i:Int) | str (x:Str) | byt (b:Array UInt8) | flt (b:UInt64) | ref (a:Addr) | ty (n:String)
 deriving DecidableEq
def aR:V→Value→Prop
 | .non,u=>u=Value.none
 | .bl b,u=>u=Value.bool b
 | .int i,u=>∃ t,u=Value.int i t
 | .str x,u=>∃ t,u=Value.str x t
 | .byt b,u=>∃ t,u=Value.bytes b t
 | .flt b,u=>∃ t,u=Value.float b t
 | .ref a,u=>u=Value.ref a
 | .ty n,u=>u=Value.type n
abbrev aG:List V→List Value→Prop:=Paired aR
theorem aG.length{xs:List V}{us:List Value}(r:aG xs us):xs.length=us.length:=Paired.length r
theorem aG.get:∀ {xs:List V} {us:List Value} {i:Nat} {x:V},aG xs us→xs[i]?=some x→∃ u,us[i]?=some u∧aR x u
 | _,_,_,_,.nil,e=>by simp at e
 | _,_,0,_,.cons r _,e=>by simp at e;subst e;exact ⟨_,rfl,r⟩
 | _,_,i+1,x,.cons _ t,e=>by
  obtain ⟨u,h1,h2⟩:=aG.get (i:=i) (x:=x) t (by simpa using e);exact ⟨u,by simpa using h1,h2⟩
theorem aG.set{x:V}{u:Value}(r:aR x u):∀ {xs:List V} {us:List Value} (i:Nat),aG xs us→aG (xs.set i x) (us.set i u)
 | _,_,_,.nil=> .nil
 | _,_,0,.cons _ t=> .cons r t
 | _,_,i+1,.cons q t=> .cons q (aG.set r i t)
theorem aG.append:∀ {xs ys:List V} {us ws:List Value},aG xs us→aG ys ws→aG (xs++ys) (us++ws)
 | _,_,_,_,.nil,s=>s
 | _,_,_,_,.cons r t,s=> .cons r (aG.append t s)
theorem aG.take:∀ {xs:List V} {us:List Value} (n:Nat),aG xs us→aG (xs.take n) (us.take n)
 | _,_,0,_=> .nil
 | _,_,_+1,.nil=> .nil
 | _,_,n+1,.cons r t=> .cons r (aG.take n t)
theorem aG.drop:∀ {xs:List V} {us:List Value} (n:Nat),aG xs us→aG (xs.drop n) (us.drop n)
 | _,_,0,r=>r
 | _,_,_+1,.nil=> .nil
 | _,_,n+1,.cons _ t=>aG.drop n t
def pf:Option V→Option Value→Prop
 | some v,some u=>aR v u
 | none,none=>True
 | _,_=>False
def KV{κ:Type}:List (κ×V)→List (κ×Value)→Prop:=Paired fun (p:κ×V) (q:κ×Value)=>p.1=q.1∧aR p.2 q.2
def kV:Key→V
 | .inl i=> .int i
 | .inr x=> .str x
inductive HO where
 | lst (xs:List V)
 | tup (xs:List V)
 | dK (kvs:List (Key×V)) | dT (kvs:List (List Key×V))
 | set (S:Int→Bool) (n:Nat)
 | ins (C dx:Addr) (fs:List (Str×V))
 | own (x:Addr)
 | xd (fs:List (Str×V))
 | met (f x:Addr)
 | rng (lo hi:Int)
 | frz (o:Obj) (u:HO)
 | tbl (ps:Array Value)
 | ext (φ:Heap→Prop)
abbrev Hp:=Addr→Option HO
def upd(H:Hp)(a:Addr)(o:HO):Hp:=fun b=>if b=a then some o else H b
theorem aD{H:Hp}{a:Addr}{o:HO}:upd H a o a=some o:=by unfold upd;rw [if_pos rfl]
theorem ar{H:Hp}{a b:Addr}{o:HO}(h:b≠a):upd H a o b=H b:=by unfold upd;rw [if_neg h]
theorem ne_of{H:Hp}{a b:Addr}{o u:HO}(h:H a=some o)(h':H b=some u)(d:o≠u):a≠b:=by
 intro e;subst e;rw [h] at h';exact d (Option.some.inj h')
theorem au{H:Hp}{a b:Addr}{o:HO}(h:H a=some o)(h':H b=none):a≠b:=by
 intro e;subst e;rw [h] at h';cases h'
section
variable(P:Program)(w:World)
def bP(H:Hp)(h:Heap)(a:Addr):HO→Prop
 | .lst xs=>xs.length≤sizeLine∧∃ (its:List Value) (n:Nat),aG xs its∧h.get? a=some { cls:= .type "list",data:= .seq its.toArray n }
 | .tup xs=>xs.length≤sizeLine∧∃ its:List Value,aG xs its∧IsTup h a its.toArray
 | .dK kvs=>kvs.length≤sizeLine∧(a == sysModules)=false∧∃ vs,KV kvs vs∧h.DictOf (bi P w) a vs
 | .dT kvs=>kvs.length≤sizeLine∧(a == sysModules)=false∧∃ xs:List (List Key×Addr×Value),
  Paired (fun (p:List Key×V) (q:List Key×Addr×Value)=>p.1=q.1∧H q.2.1=some (.tup (p.1.map kV))∧aR p.2 q.2.2) kvs xs ∧
  ∃ o es ep,h.get? a=some o∧o.ExactDict∧o.data = .dict es ep∧es.toList=xs.map (entryOfKey (tupleKind (bi P w)))∧(xs.map (·.1)).Nodup
 | .set S n=>h.SetOf (intKind P w) a S n
 | .ins C dx fs=>H dx=some (.own a)∧fs.length≤1000∧dx≠a∧h.get? a=some (PySem.W.instObj C dx) ∧
  ∃ mA,h.Ns1 dx mA∧(∀ f,pf (fs.lookup f) (mA f))∧PySem.Within mA (fs.map (·.1))
 | .own _=>∃ o,h.get? a=some o
 | .xd fs=>∃ mA,h.Ns1 a mA∧∀ f,pf (fs.lookup f) (mA f)
 | .rng lo hi=>∃ t u v,h.get? a=some { cls:= .type "range",data:= .fields #[.int lo t,.int hi u,.int 1 v] }
 | .frz o u=>h.get? a=some o∧bP H h a u
 | .tbl ps=>h.get? a=some { cls:= .none,data:= .fields ps }
 | .met f x=>h.get? a=some (PySem.W.methodObj (.ref f) (.ref x))
 | .ext φ=>φ h∧(∃ o,h.get? a=some o)∧∀ h1 h2:Heap,φ h1→(∀ o,h1.get? a=some o→h2.get? a=some o)→φ h2
def HOk(H:Hp)(h:Heap):Prop:=∀ a o,H a=some o→bP P w H h a o
end
section
variable{P:Program}{w:World}{H H':Hp}{h h':Heap}{a:Addr}{o:HO}
theorem bP.lt(x:bP P w H h a o):a < h.objs.size:=by
 cases o with
 | lst xs=>obtain ⟨_,_,_,_,e⟩:=x;exact AL e
 | tup xs=>obtain ⟨_,_,_,p⟩:=x;exact p.lt
 | dK kvs=>obtain ⟨_,_,_,_,o,_,_,e,_⟩:=x;exact AL e
 | dT kvs=>obtain ⟨_,_,_,_,o,_,_,e,_⟩:=x;exact AL e
 | set S n=>obtain ⟨o,_,_,_,e,_⟩:=x;exact AL e
 | ins C dx fs=>obtain ⟨_,_,_,e,_⟩:=x;exact AL e
 | own y=>obtain ⟨_,e⟩:=x;exact AL e
 | xd fs=>obtain ⟨_,⟨_,_,_,e,_⟩,_⟩:=x;exact AL e
 | rng lo hi=>obtain ⟨_,_,_,e⟩:=x;exact AL e
 | frz ob u=>obtain ⟨e,_⟩:=x;exact AL e
 | tbl ps=>exact AL (show h.get? a=some _ from x)
 | met f y=>exact AL (show h.get? a=some _ from x)
 | ext φ=>obtain ⟨_,⟨_,e⟩,_⟩:=x;exact AL e
theorem Paired.mapP{α β:Type}{F G:α→β→Prop}:∀ {l₁:List α} {l₂:List β},Paired F l₁ l₂→(∀ a b,F a b→G a b)→Paired G l₁ l₂
 | _,_,.nil,_=> .nil
 | _,_,.cons r t,f=> .cons (f _ _ r) (Paired.mapP t f)
theorem bP.stay(x:bP P w H h a o)(k:∀ b u,(b=a∨H b=some (.own a))→h.get? b=some u→h'.get? b=some u)
 (ho:∀ b,H b=some (.own a)→H' b=some (.own a)) (ht:∀ b xs,H b=some (.tup xs)→H' b=some (.tup xs)):bP P w H' h' a o:=by
 induction o with
 | lst xs=>obtain ⟨z,its,n,r,e⟩:=x;exact ⟨z,its,n,r,k _ _ (.inl rfl) e⟩
 | tup xs=>obtain ⟨z,its,r,ob,e,c⟩:=x;exact ⟨z,its,r,ob,k _ _ (.inl rfl) e,c⟩
 | dK kvs=>obtain ⟨z,y,vs,r,ob,es,ep,e,c⟩:=x;exact ⟨z,y,vs,r,ob,es,ep,k _ _ (.inl rfl) e,c⟩
 | dT kvs =>
  obtain ⟨z,y,xs,r,ob,es,ep,e,c⟩:=x;exact ⟨z,y,xs,Paired.mapP r fun p q z=>⟨z.1,ht _ _ z.2.1,z.2.2⟩,ob,es,ep,k _ _ (.inl rfl) e,c⟩
 | set S n=>obtain ⟨ob,es,ep,t,e,c⟩:=x;exact ⟨ob,es,ep,t,k _ _ (.inl rfl) e,c⟩
 | ins C dx fs =>
  obtain ⟨d,z,ne,e,mA,⟨od,es,ep,e2,c⟩,r⟩:=x;exact ⟨ho _ d,z,ne,k _ _ (.inl rfl) e,mA,⟨od,es,ep,k _ _ (.inr d) e2,c⟩,r⟩
 | own y=>obtain ⟨ob,e⟩:=x;exact ⟨ob,k _ _ (.inl rfl) e⟩
 | xd fs=>obtain ⟨mA,⟨od,es,ep,e,c⟩,r⟩:=x;exact ⟨mA,⟨od,es,ep,k _ _ (.inl rfl) e,c⟩,r⟩
 | rng lo hi=>obtain ⟨t,u,v,e⟩:=x;exact ⟨t,u,v,k _ _ (.inl rfl) e⟩
 | frz ob u ih=>obtain ⟨e,q⟩:=x;exact ⟨k _ _ (.inl rfl) e,ih q⟩
 | tbl ps =>
  have e:h.get? a=some { cls:= .none,data:= .fields ps }:=x
  show h'.get? a=some { cls:= .none,data:= .fields ps }
  exact k a _ (.inl rfl) e
 | met f y =>
  have e:h.get? a=some (PySem.W.methodObj (.ref f) (.ref y)):=x
  show h'.get? a=some (PySem.W.methodObj (.ref f) (.ref y))
  exact k a _ (.inl rfl) e
 | ext φ=>obtain ⟨p,⟨o,e⟩,st⟩:=x;exact ⟨st _ _ p fun o q=>k _ _ (.inl rfl) q,⟨o,k _ _ (.inl rfl) e⟩,st⟩
theorem HOk.lt(x:HOk P w H h)(e:H a=some o):a < h.objs.size:=(x a o e).lt
theorem HOk.fresh(x:HOk P w H h)(e:h.objs.size≤a):H a=none:=by
 cases q:H a with
 | none=>rfl
 | some u=>exact absurd (Bb (x.lt q) e) (Ci _)
theorem HOk.kept(x:HOk P w H h)(k:∀ b u,h.get? b=some u→h'.get? b=some u):HOk P w H h':=fun a o e =>
 (x a o e).stay (fun b u _ q=>k b u q) (fun _ q=>q) fun _ _ q=>q
theorem HOk.laid(x:HOk P w H h)(k:∀ b u,h.get? b=some u→h'.get? b=some u)(hp:h.objs.size≤a)(new:bP P w (upd H a o) h' a o):HOk P w (upd H a o) h':=fun b u e=>by
 have hn:=x.fresh hp
 by_cases hb:b=a
 ·subst hb;rw [aD] at e;cases e;exact new
 ·rw [ar hb] at e
  exact (x b u e).stay (fun c v _ q=>k c v q) (fun c q=>by rw [ar (au q hn)];exact q) fun c xs q=>by rw [ar (au q hn)];exact q
end
def Rd(H:Hp)(a:Addr)(u:HO):Prop:=H a=some u∨∃ o,H a=some (.frz o u)
theorem Rd.ok{P:Program}{w:World}{H:Hp}{h:Heap}{a:Addr}{u:HO}(r:Rd H a u)(x:HOk P w H h):bP P w H h a u:=by
 rcases r with r | ⟨o,r⟩
 ·exact x a u r
 ·obtain ⟨_,q⟩:=x a _ r
  exact q
def Mut:Option HO→Prop
 | some (.lst _)=>True
 | some (.dK _)=>True
 | some (.dT _)=>True
 | some (.set _ _)=>True
 | some (.ins _ _ _)=>True
 | some (.ext _)=>True
 | _=>False
section
variable{P:Program}{w:World}{H:Hp}{h h':Heap}{x e:Addr}{o':HO}
theorem HOk.write(ok:HOk P w H h)(mu:Mut (H x))(he:e=x∨H e=some (.own x))(k:∀ b u,b≠e→h.get? b=some u→h'.get? b=some u)(heo:∃ u,h'.get? e=some u)
 (new:bP P w (upd H x o') h' x o'):HOk P w (upd H x o') h':=fun b u q=>by
 have nown:∀ c y,H c=some (.own y)→c≠x:=fun c y r z=>by subst z;rw [r] at mu;exact mu
 have ntup:∀ c xs,H c=some (.tup xs)→c≠x:=fun c xs r z=>by subst z;rw [r] at mu;exact mu
 by_cases hb:b=x
 ·subst hb;rw [aD] at q;cases q;exact new
 ·rw [ar hb] at q
  by_cases hbe:b=e
  ·have q':H b=some (.own x):=by
    rcases he with z | z
    ·exact absurd (hbe.trans z) hb
    ·rw [hbe];exact z
   rw [q] at q';cases q';obtain ⟨v,hv⟩:=heo;exact ⟨v,by rw [hbe];exact hv⟩
  ·refine (ok b u q).stay (fun c v hc r=>k c v ?_ r) (fun c r=>by rw [ar (nown c b r)];exact r) fun c xs r=>by rw [ar (ntup c xs r)];exact r
   rcases hc with rfl | hc
   ·exact hbe
   ·rintro rfl
    rcases he with z | z
    ·exact nown c b hc z
    ·rw [hc] at z;cases z;exact hb rfl
end
structure Un(fs ex:List Addr)(H H':Hp)(h h':Heap):Prop where
 keep:∀ b o,h.get? b=some o→H b=none→b∉fs→b∉ex→h'.get? b=some o
 slot:∀ b o,h.get? b=some o→H b=none→b∈fs→b∉ex→∃ sl,h'.get? b=some { o with slots:=sl }
 free:∀ b o,h.get? b=some o→H b=none→b∉ex→H' b=none
 there:∀ b o,h.get? b=some o→b∉ex→∃ o',h'.get? b=some o'
 tups:∀ b xs,H b=some (.tup xs)→H' b=some (.tup xs)
 frzs:∀ b o u,H b=some (.frz o u)→H' b=some (.frz o u)
 tbls:∀ b ps,H b=some (.tbl ps)→∃ more,H' b=some (.tbl (ps++more))
section
variable{fs fs' ex ex':List Addr}{H H1 H2:Hp}{h h1 h2 h':Heap}{a x e:Addr}{o:HO}
theorem Un.any(u:Un fs ex H H1 h h1){b:Addr}{ob:Obj}(q:h.get? b=some ob)(n:H b=none)(hx:b∉ex):∃ sl,h1.get? b=some { ob with slots:=sl }:=by
 by_cases hb:b∈fs
 ·exact u.slot b ob q n hb hx
 ·exact ⟨ob.slots,u.keep b ob q n hb hx⟩
theorem Un.kept(k:∀ b u,h.get? b=some u→h'.get? b=some u):Un fs ex H H h h' :=
 ⟨fun b ob q _ _ _=>k b ob q,fun b ob q _ _ _=>⟨ob.slots,k b ob q⟩,fun _ _ _ n _=>n,fun b ob q _=>⟨ob,k b ob q⟩,fun _ _ q=>q,fun _ _ _ q=>q,fun _ ps q=>⟨#[],by rw [q];simp⟩⟩
theorem Un.refl:Un fs ex H H h h:=Un.kept fun _ _ q=>q
theorem Un.laid(k:∀ b u,h.get? b=some u→h'.get? b=some u)(hp:h.objs.size≤a)(hn:H a=none):Un fs ex H (upd H a o) h h' where
 keep:=fun b u q _ _ _=>k b u q
 slot:=fun b u q _ _ _=>⟨u.slots,k b u q⟩
 free:=fun b u q n _=>by rw [ar (AZ (Bb (AL q) hp))];exact n
 there:=fun b u q _=>⟨u,k b u q⟩
 tups:=fun b xs q=>by rw [ar (au q hn)];exact q
 frzs:=fun b u xs q=>by rw [ar (au q hn)];exact q
 tbls:=fun b ps q=>⟨#[],by rw [ar (au q hn),q];simp⟩
theorem Un.write(mu:Mut (H x))(he:e=x∨H e=some (.own x))(k:∀ b u,b≠e→h.get? b=some u→h'.get? b=some u)(heo:∃ u,h'.get? e=some u):Un fs ex H (upd H x o) h h':=by
 have hx:∀ b,H b=none→b≠x:=fun b n z=>by subst z;rw [n] at mu;exact mu
 have hb:∀ b,H b=none→b≠e:=fun b n z=>by
  subst z
  rcases he with r | r
  ·exact hx b n r
  ·rw [n] at r;cases r
 have hm:∀ b u,H b=some u→¬ Mut (some u)→b≠x:=fun b u q nm z=>by subst z;rw [q] at mu;exact nm mu
 refine ⟨fun b u q n _ _=>k b u (hb b n) q,fun b u q n _ _=>⟨u.slots,k b u (hb b n) q⟩,fun b u q n _=>by rw [ar (hx b n)];exact n,fun b u q _=> ?_,
  fun b xs q=>by rw [ar (hm b _ q fun z=>z)];exact q,fun b u xs q=>by rw [ar (hm b _ q fun z=>z)];exact q,fun b ps q=>⟨#[],by rw [ar (hm b _ q fun z=>z),q];simp⟩⟩
 by_cases hbe:b=e
 ·subst hbe;exact heo
 ·exact ⟨u,k b u hbe q⟩
end
def trk(h:Heap)(H:Hp):List Addr:=(List.range h.objs.size).filter fun a=>(H a).isSome
def oU(h:Heap)(H:Hp):Heap:=PySem.W.hideAll h (trk h H)
theorem uN(h:Heap)(H:Hp):(oU h H).objs.size=h.objs.size:=PySem.W.hideAll_size _ _
theorem wY{h:Heap}{H:Hp}{b:Addr}{o:Obj}(e:h.get? b=some o)(n:H b=none):(oU h H).get? b=some o :=
 Cq _ e fun hm=>by
  have q:(H b).isSome=true:=(By.mp hm).2;rw [n] at q;simp at q
theorem zc{h:Heap}{H:Hp}{b:Addr}{o:Obj}(e:(oU h H).get? b=some o):h.get? b=some o∧H b=none:=by
 have e':h.get? b=some o:=PySem.W.of_hideAll (trk h H) e;refine ⟨e',?_⟩
 cases q:H b with
 | none=>rfl
 | some x =>
  have hm:b∈trk h H:=By.mpr ⟨BA.mpr (AL e'),by simp [q]⟩;have z:(oU h H).get? b=none:=PySem.W.hideAll_none (trk h H) hm;rw [z] at e;cases e
end L2
namespace L2
open PySem PySem.Spec PyProof.Rows
structure Mod(K:PySem.W.Frag)(mg:Str→Option Value)(base:Heap):Prop where
 kin:K.In base
 glob:base.Ns mainGlobals mg
 blt:∃ mb,base.Ns builtinsNs mb∧∀ x:Str,x ≠ "__name__" → mb x=bootBuiltins x
 nolimit:base.NoLimit
structure Cx where
 prog:Program
 w:World
 K:PySem.W.Frag
 mg:Str→Option Value
 base:Heap
 A:Around
 N:List Str
 s₀:Shared
 H₀:Hp
 env:Env
 outer:List Env
 stack:List Env
 ex:List Addr
 fn:Str→Bool
 calm:Bool
 pn:List (Addr×Obj)
 xe:Value→Shared→Prop
def frs(l:List Env):List Addr:=l.filterMap (·.frame)
abbrev Cx.fs(X:Cx):List Addr:=frs X.outer
def Vis(sc:Scope)(x:Str):Prop:=sc.names.lookup x=some .local∨sc.names.lookup x=some .cell∨sc.names.lookup x=some .free
def Loc(sc:Scope)(x:Str):Prop:=sc.names.lookup x=some .local∨sc.names.lookup x=some .cell
def Look(env:Env)(h:Heap)(m:Str→Option Value)(x:Str)(u:Value):Prop :=
 (env.kindOf x=some .local∧m x=some u)∨((env.kindOf x=some .cell∨env.kindOf x=some .free)∧∃ c,env.cells.lookup x=some c∧h.IsCell c (some u))
structure Cx.Ok(X:Cx):Prop where
 mod:Mod X.K X.mg X.base
 kind:X.env.scope.kind = .function
 glob:X.env.globals=mainGlobals
 blt:X.env.builtins=builtinsNs
 above:X.s₀.heap.objs.size≤X.env.locals
 inj:∀ x y c,X.env.cells.lookup x=some c→X.env.cells.lookup y=some c→x=y
 has:∀ x,(X.env.kindOf x=some .cell∨X.env.kindOf x=some .free)→∃ c,X.env.cells.lookup x=some c
 cab:∀ x c,X.fn x=true→X.env.cells.lookup x=some c→X.s₀.heap.objs.size≤c
 hd:X.calm=true→X.A.handled=none
 frames:X.A.frames=some X.stack
 stk:X.stack=X.outer∨(X.stack=X.env::X.outer∧X.env.frame=some X.env.locals)
 exf:∀ b∈X.ex,b≠X.env.locals∧∀ x c,X.env.cells.lookup x=some c→c≠b
 bs:∀ b o,X.base.get? b=some o→X.s₀.heap.get? b=some o∧X.H₀ b=none
 bsz:X.base.objs.size≤X.s₀.heap.objs.size
 noex:∀ b o,X.base.get? b=some o→b∉X.ex
 exfs:∀ b∈X.ex,b∉X.fs
 funs:X.s₀.heap.FunFrames X.base X.outer
 frf:∀ b∈X.fs,X.H₀ b=none
structure Inv(X:Cx)(pins:List (Addr×Obj))(σ:List (Option V))(H:Hp)(s:Shared):Prop where
 ok:X.Ok
 os:s.os=X.s₀.os
 bare:AllBare s.gens
 base:Un X.fs X.ex X.H₀ H X.s₀.heap s.heap
 loc:∃ m,s.heap.Ns X.env.locals m∧∀ (i:Nat) (x:Str) (v:V),X.N[i]?=some x→σ[i]?=some (some v)→Vis X.env.scope x→∃ u,aR v u∧Look X.env s.heap m x u
 cell:∀ x c,X.env.cells.lookup x=some c→∃ v,s.heap.IsCell c v
 free:H X.env.locals=none
 freeC:∀ x c,X.env.cells.lookup x=some c→H c=none
 pin:∀ p∈X.pn++pins,s.heap.get? p.1=some p.2∧H p.1=none∧p.1≠X.env.locals∧p.1∉X.fs∧∀ v,p.2.data ≠ .cell v
 hok:HOk X.prog X.w H s.heap
 len:σ.length=X.N.length
section
variable{X:Cx}{pins:List (Addr×Obj)}{σ:List (Option V)}{H H':Hp}{s:Shared}{h':Heap}
theorem Cx.Ok.nofr(ok:X.Ok){b:Addr}{o:Obj}(e:X.base.get? b=some o):b∉X.fs:=fun hb=>by
 have:=(ok.funs.mem hb).1;rw [e] at this;cases this
theorem Inv.bs(I:Inv X pins σ H s):∀ b o,X.base.get? b=some o→s.heap.get? b=some o∧H b=none:=fun b o e =>
 ⟨I.base.keep b o (I.ok.bs b o e).1 (I.ok.bs b o e).2 (I.ok.nofr e) (I.ok.noex b o e),I.base.free b o (I.ok.bs b o e).1 (I.ok.bs b o e).2 (I.ok.noex b o e)⟩
theorem Inv.bk(I:Inv X pins σ H s):∀ b o,X.base.get? b=some o→s.heap.get? b=some o:=fun b o e=>(I.bs b o e).1
theorem Inv.mod(I:Inv X pins σ H s):Mod X.K X.mg X.base:=I.ok.mod
theorem Inv.kIn(I:Inv X pins σ H s):X.K.In s.heap:=I.ok.mod.kin.keeps I.bk
theorem Inv.fr(I:Inv X pins σ H s):∃ m,Fr X.base X.env.locals s.heap m :=
 let ⟨m,hn,_⟩:=I.loc
 ⟨m,hn,I.bk,BL I.ok.bsz I.ok.above⟩
theorem Inv.lt(I:Inv X pins σ H s):X.env.locals < s.heap.objs.size:=let ⟨_,hn,_⟩:=I.loc;hn.lt
theorem Inv.sz(I:Inv X pins σ H s):X.s₀.heap.objs.size≤s.heap.objs.size:=BL I.ok.above (B5 I.lt)
theorem Inv.nofs(I:Inv X pins σ H s){a:Addr}(h:s.heap.objs.size≤a):a∉X.fs:=fun hb=>by
 obtain ⟨_,o,ho,_⟩:=I.ok.funs.mem hb;exact absurd (Bb (AL ho) (BL I.sz h)) (Ci _)
theorem Inv.cne(I:Inv X pins σ H s):∀ x c,X.env.cells.lookup x=some c→c≠X.env.locals:=fun x c e z=>by
 obtain ⟨v,o,ho,hd⟩:=I.cell x c e;obtain ⟨m,⟨o',es,ep,ho',hd',_⟩,_⟩:=I.loc;rw [z,ho'] at ho;cases ho;rw [hd'] at hd;cases hd
theorem Inv.funs(I:Inv X pins σ H s):s.heap.FunFrames X.base X.outer:=by
 have all:∀ (l:List Env),(∀ b∈frs l,b∈X.fs)→X.s₀.heap.FunFrames X.base l→s.heap.FunFrames X.base l:=by
  intro l
  induction l with
  | nil=>intro _ _;trivial
  | cons env r ih =>
   intro hs hl;obtain ⟨hk,⟨L,o,hf,hn,ho,hd⟩,hr⟩:=hl;have hL:L∈X.fs:=hs L (by unfold frs;rw [CN,hf];exact AT)
   obtain ⟨sl,e⟩:=I.base.slot L o ho (I.ok.frf L hL) hL fun z=>I.ok.exfs L z hL
   exact ⟨hk,⟨L,_,hf,hn,e,hd⟩,ih (fun b hb=>hs b (by unfold frs;rw [CN,hf];exact AN _ hb)) hr⟩
 exact all X.outer (fun _ hb=>hb) I.ok.funs
theorem Inv.stack(I:Inv X pins σ H s):s.heap.FunFrames X.base X.stack:=by
 rcases I.ok.stk with e | ⟨e,hf⟩
 ·rw [e];exact I.funs
 ·rw [e]
  obtain ⟨m,hn,_⟩:=I.loc;refine .cons (by rw [I.ok.kind];decide) hf hn ?_ I.funs;exact Heap.get?_none_of_le (BL I.ok.bsz I.ok.above)
theorem Inv.stkSub(I:Inv X pins σ H s):∀ b∈frs X.stack,b∈X.env.locals::X.fs:=fun b hb=>by
 rcases I.ok.stk with e | ⟨e,hf⟩
 ·rw [e] at hb;exact AN _ hb
 ·rw [e] at hb
  unfold frs at hb;rw [CN,hf] at hb;exact hb
theorem Inv.stkFree(I:Inv X pins σ H s):∀ b∈frs X.stack,H b=none:=fun b hb=>by
 rcases AQ.mp (I.stkSub b hb) with e | hb
 ·rw [e];exact I.free
 ·obtain ⟨_,o,ho,_⟩:=I.ok.funs.mem hb
  exact I.base.free b o ho (I.ok.frf b hb) fun z=>I.ok.exfs b z hb
theorem Inv.step{g':Array GenState}{t':Nat}{d':Drawn}{ch:List Addr}(I:Inv X pins σ H s)
 (hch:∀ b∈ch,(b∈X.ex∨X.s₀.heap.objs.size≤b)∧b≠X.env.locals∧(∀ x c,X.env.cells.lookup x=some c→c≠b)∧∀ p∈X.pn++pins,p.1≠b)
 (keep:∀ b o,b≠X.env.locals→b∉X.fs→b∉ch→s.heap.get? b=some o→H b=none→h'.get? b=some o)
 (slot:∀ b o,b≠X.env.locals→b∈X.fs→b∉ch→s.heap.get? b=some o→H b=none→∃ sl,h'.get? b=some { o with slots:=sl }) (free:∀ b o,b∉ch→s.heap.get? b=some o→H b=none→H' b=none)
 (there:∀ b o,b∉ch→s.heap.get? b=some o→∃ o',h'.get? b=some o')
 (tups:∀ b xs,H b=some (.tup xs)→H' b=some (.tup xs)) (frzs:∀ b o u,H b=some (.frz o u)→H' b=some (.frz o u)) (tbls:∀ b ps,H b=some (.tbl ps)→∃ more,H' b=some (.tbl (ps++more)))
 (ns:∀ m,s.heap.Ns X.env.locals m→h'.Ns X.env.locals m) (hok:HOk X.prog X.w H' h') (hg:AllBare g') :
 Inv X pins σ H' { s with heap:=h',gens:=g',drawn:=d',toks:=t' }:=by
 have neL:∀ b o,X.s₀.heap.get? b=some o→b≠X.env.locals:=fun b o e=>AZ (Bb (AL e) I.ok.above)
 have neC:∀ b o,X.s₀.heap.get? b=some o→b∉X.ex→b∉ch:=fun b o e hx hb=>by
  rcases (hch b hb).1 with z | z
  ·exact hx z
  ·exact absurd (Bb (AL e) z) (Ci _)
 have cellK:∀ x c,X.env.cells.lookup x=some c→∀ v,s.heap.IsCell c v→h'.IsCell c v:=fun x c e v ⟨o,ho,hd⟩=>by
  have nch:c∉ch:=fun z=>(hch c z).2.2.1 x c e rfl
  by_cases hc:c∈X.fs
  ·obtain ⟨sl,q⟩:=slot c o (I.cne x c e) hc nch ho (I.freeC x c e)
   exact ⟨_,q,hd⟩
  ·exact ⟨o,keep c o (I.cne x c e) hc nch ho (I.freeC x c e),hd⟩
 refine ⟨I.ok,I.os,hg,⟨fun b o e n hb hx=> ?_,fun b o e n hb hx=> ?_,fun b o e n hx=> ?_,fun b o e hx=> ?_,fun b xs e=>tups b xs (I.base.tups b xs e),fun b o xs e=>frzs b o xs (I.base.frzs b o xs e),fun b ps e=> ?_⟩,?_,fun x c e=> ?_,?_,fun x c e=> ?_,fun p hp=> ?_,hok,I.len⟩
 ·exact keep b o (neL b o e) hb (neC b o e hx) (I.base.keep b o e n hb hx) (I.base.free b o e n hx)
 ·obtain ⟨sl,e1⟩:=I.base.slot b o e n hb hx
  obtain ⟨sl',e2⟩:=slot b _ (neL b o e) hb (neC b o e hx) e1 (I.base.free b o e n hx);exact ⟨sl',e2⟩
 ·obtain ⟨o',e1⟩:=I.base.there b o e hx
  exact free b o' (neC b o e hx) e1 (I.base.free b o e n hx)
 ·obtain ⟨o',e1⟩:=I.base.there b o e hx
  exact there b o' (neC b o e hx) e1
 ·obtain ⟨m1,e1⟩:=I.base.tbls b ps e
  obtain ⟨m2,e2⟩:=tbls b _ e1;exact ⟨m1++m2,by rw [e2,Array.append_assoc]⟩
 ·obtain ⟨m,hn,hl⟩:=I.loc
  refine ⟨m,ns m hn,fun i x v e1 e2 e3=> ?_⟩;obtain ⟨u,r,l⟩:=hl i x v e1 e2 e3;refine ⟨u,r,?_⟩
  rcases l with l | ⟨k,c,e,z⟩
  ·exact .inl l
  ·exact .inr ⟨k,c,e,cellK x c e _ z⟩
 ·obtain ⟨v,z⟩:=I.cell x c e
  exact ⟨v,cellK x c e v z⟩
 ·obtain ⟨m,⟨o,_,_,ho,_⟩,_⟩:=I.loc
  exact free _ o (fun z=>(hch _ z).2.1 rfl) ho I.free
 ·obtain ⟨v,o,ho,hd⟩:=I.cell x c e
  exact free c o (fun z=>(hch c z).2.2.1 x c e rfl) ho (I.freeC x c e)
 ·obtain ⟨e,n,ne,nf,d⟩:=I.pin p hp
  have nch:p.1∉ch:=fun z=>(hch p.1 z).2.2.2 p hp rfl
  exact ⟨keep p.1 p.2 ne nf nch e n,free p.1 p.2 nch e n,ne,nf,d⟩
theorem Inv.un{t':Nat}(I:Inv X pins σ H s)(u:Un X.fs [] H H' s.heap h')(hok:HOk X.prog X.w H' h'):Inv X pins σ H' { s with heap:=h',toks:=t' }:=by
 obtain ⟨m,⟨o,es,ep,ho,r⟩,_⟩:=id I.loc;obtain ⟨sl,hL⟩:=u.any ho I.free (by simp)
 exact I.step (g':=s.gens) (d':=s.drawn) (ch:=[]) (fun _ z=>nomatch z) (fun b o _ hb _ e n=>u.keep b o e n hb (by simp)) (fun b o _ hb _ e n=>u.slot b o e n hb (by simp)) (fun b o _ e n=>u.free b o e n (by simp)) (fun b o _ e=>u.there b o e (by simp)) u.tups u.frzs u.tbls (fun m' hm=>by
  obtain ⟨o',es',ep',ho',r'⟩:=hm;rw [ho] at ho';cases ho'
  exact ⟨_,es',ep',hL,r'⟩) hok I.bare
theorem Inv.call{g':Array GenState}{t':Nat}{d':Drawn}{ch:List Addr}(I:Inv X pins σ H s)(u:Un (frs X.stack) ch H H' s.heap h')(hok:HOk X.prog X.w H' h')(hg:AllBare g')
 (hch:∀ b∈ch,(b∈X.ex∨X.s₀.heap.objs.size≤b)∧b≠X.env.locals∧(∀ x c,X.env.cells.lookup x=some c→c≠b)∧∀ p∈X.pn++pins,p.1≠b) :
 Inv X pins σ H' { s with heap:=h',gens:=g',drawn:=d',toks:=t' }:=by
 obtain ⟨m,⟨o,es,ep,ho,r⟩,_⟩:=id I.loc
 obtain ⟨sl,hL⟩:=u.any ho I.free fun z=>(hch _ z).2.1 rfl
 exact I.step (ch:=ch) hch (fun b o hL hb hc e n=>u.keep b o e n (fun z=>(AQ.mp (I.stkSub b z)).elim hL hb) hc) (fun b o _ _ hc e n=>u.any e n hc) (fun b o hc e n=>u.free b o e n hc) (fun b o hc e=>u.there b o e hc) u.tups u.frzs u.tbls (fun m' hm=>by
  obtain ⟨o',es',ep',ho',r'⟩:=hm;rw [ho] at ho';cases ho'
  exact ⟨_,es',ep',hL,r'⟩) hok hg
theorem Inv.turned{t':Nat}{it:Addr}(I:Inv X pins σ H s)(k:∀ b o,b≠it→s.heap.get? b=some o→h'.get? b=some o)(hn:H it=none)(hL:it≠X.env.locals)
 (h1:it∈X.ex∨X.s₀.heap.objs.size≤it) (h2:∀ x c,X.env.cells.lookup x=some c→c≠it) (h3:∀ p∈X.pn++pins,p.1≠it):Inv X pins σ H { s with heap:=h',toks:=t' }:=by
 have nit:∀ b u,H b=some u→b≠it:=fun b u e z=>by rw [z,hn] at e;cases e
 refine I.step (g':=s.gens) (d':=s.drawn) (ch:=[it]) (fun b hb=> ?_) (fun b o _ _ hc e _=>k b o (fun z=>hc (by simp [z])) e) (fun b o _ _ hc e _=>⟨o.slots,k b o (fun z=>hc (by simp [z])) e⟩) (fun _ _ _ _ n=>n)
  (fun b o hc e=>⟨o,k b o (fun z=>hc (by simp [z])) e⟩) (fun _ _ e=>e) (fun _ _ _ e=>e) (fun b ps e=>⟨#[],by rw [e];simp⟩) (fun m hm=> ?_) (fun b u e=> ?_) I.bare
 ·have e:b=it:=by simpa using hb
  subst e;exact ⟨h1,hL,h2,h3⟩
 ·obtain ⟨o,es,ep,ho,r⟩:=hm
  exact ⟨o,es,ep,k _ o (Ne.symm hL) ho,r⟩
 ·refine (I.hok b u e).stay (fun c v hc q=>k c v ?_ q) (fun _ q=>q) fun _ _ q=>q
  rcases hc with z | z
  ·rw [z];exact nit b u e
  ·exact nit c _ z
theorem Inv.tok(I:Inv X pins σ H s)(t:Nat):Inv X pins σ H { s with toks:=t }:=I.un (h':=s.heap) (t':=t) Un.refl I.hok
theorem Inv.kept{t':Nat}(I:Inv X pins σ H s)(k:∀ b u,s.heap.get? b=some u→h'.get? b=some u):Inv X pins σ H { s with heap:=h',toks:=t' }:=I.un (Un.kept k) (I.hok.kept k)
theorem Inv.laid{a:Addr}{o:HO}{t':Nat}(I:Inv X pins σ H s)(k:∀ b u,s.heap.get? b=some u→h'.get? b=some u)(hp:s.heap.objs.size≤a)(new:bP X.prog X.w (upd H a o) h' a o) :
 Inv X pins σ (upd H a o) { s with heap:=h',toks:=t' }:=I.un (Un.laid k hp (I.hok.fresh hp)) (I.hok.laid k hp new)
theorem Inv.write{x e:Addr}{o:HO}{t':Nat}(I:Inv X pins σ H s)(mu:Mut (H x))(he:e=x∨H e=some (.own x))(k:∀ b u,b≠e→s.heap.get? b=some u→h'.get? b=some u)(heo:∃ u,h'.get? e=some u)
 (new:bP X.prog X.w (upd H x o) h' x o):Inv X pins σ (upd H x o) { s with heap:=h',toks:=t' }:=I.un (Un.write mu he k heo) (I.hok.write mu he k heo new)
theorem Inv.weak{σ':List (Option V)}(I:Inv X pins σ H s)(hl:σ'.length=σ.length)(w:∀ (i:Nat) v,σ'[i]?=some (some v)→σ[i]?=some (some v)):Inv X pins σ' H s :=
 ⟨I.ok,I.os,I.bare,I.base,let ⟨m,hn,hl'⟩:=I.loc;⟨m,hn,fun i x v e1 e2 e3=>hl' i x v e1 (w i v e2) e3⟩,I.cell,I.free,I.freeC,I.pin,I.hok,hl.trans I.len⟩
theorem Inv.pins_of{pins':List (Addr×Obj)}(I:Inv X pins σ H s)(h:∀ p∈pins',s.heap.get? p.1=some p.2∧H p.1=none∧p.1≠X.env.locals∧p.1∉X.fs∧∀ v,p.2.data ≠ .cell v):Inv X pins' σ H s :=
 ⟨I.ok,I.os,I.bare,I.base,I.loc,I.cell,I.free,I.freeC,fun p hp=>(A8.mp hp).elim (fun z=>I.pin p (AK _ z)) (h p),I.hok,I.len⟩
theorem qp{N:List Str}(hN:N.Nodup){i j:Nat}{x:Str}(a:N[i]?=some x)(b:N[j]?=some x):i=j:=by
 obtain ⟨h1,e1⟩:=AM.mp a;obtain ⟨h2,e2⟩:=AM.mp b;exact (List.getElem_inj hN).mp (e1.trans e2.symm)
theorem mP{M:Model}{A:Around}{E:Value→Shared→Prop}{i:Nat}{x:Str}{v:V}{u:Value}{Q:Unit→Shared→Prop}(I:Inv X pins σ H s)(hN:X.N.Nodup)(hi:X.N[i]?=some x)(hx:Loc X.env.scope x)(r:aR v u)
 (h:∀ s',Inv X pins (σ.set i (some v)) H s'→(∃ a,Heap.SameBut a s.heap s'.heap∧(a=X.env.locals∨X.env.cells.lookup x=some a))→Q () s') (hf:X.fn x=true∨X.env.scope.names.lookup x=some .local:=by first | exact .inl rfl | exact .inr rfl | assumption):wpAny M A (storeName X.env x u) Q E s:=by
 obtain ⟨m,hn,hl⟩:=id I.loc
 have hcls:(X.env.scope.kind == .class||(X.env.scope.kind == .module&&X.env.locals != X.env.globals))=false:=by rw [I.ok.kind];rfl
 have hiσ:i < σ.length:=by rw [I.len];exact (AM.mp hi).1
 have cne:=I.cne
 have tracked:∀ {a:Addr} {h':Heap},(∃ o,s.heap.get? a=some o∧H a=none)→Heap.SameBut a s.heap h'→HOk X.prog X.w H h':=fun {a h'} ha hs b ob e=>by
  obtain ⟨_,_,hfree⟩:=ha
  refine (I.hok b ob e).stay (fun c w' hc q=>(hs.2 c ?_).trans q) (fun _ q=>q) fun _ _ q=>q
  rintro rfl
  rcases hc with rfl | hc
  ·rw [hfree] at e;cases e
  ·rw [hfree] at hc;cases hc
 rcases hx with hk | hk
 ·refine wpAny_storeName_local hk hn (fun h' hn' hs=> ?_) hcls
  obtain ⟨oL,_,_,hoL,_⟩:=id hn;refine h _ ⟨I.ok,I.os,I.bare,⟨fun b o e n hb hx=> ?_,fun b o e n hb hx=> ?_,I.base.free,fun b o e hx=> ?_,I.base.tups,I.base.frzs,I.base.tbls⟩,⟨_,hn',fun j y v' e1 e2 e3=> ?_⟩,fun y c e=> ?_,I.free,I.freeC,fun p hp=> ?_,tracked ⟨oL,hoL,I.free⟩ hs,by simpa using I.len⟩ ⟨_,hs,.inl rfl⟩
  ·exact (hs.2 b (AZ (Bb (AL e) I.ok.above))).trans (I.base.keep b o e n hb hx)
  ·obtain ⟨sl,e1⟩:=I.base.slot b o e n hb hx
   exact ⟨sl,(hs.2 b (AZ (Bb (AL e) I.ok.above))).trans e1⟩
  ·obtain ⟨o',e1⟩:=I.base.there b o e hx
   exact ⟨o',(hs.2 b (AZ (Bb (AL e) I.ok.above))).trans e1⟩
  ·by_cases hj:j=i
   ·subst hj
    rw [hi] at e1;cases e1;rw [BV hiσ] at e2;cases e2;exact ⟨u,r,.inl ⟨hk,by simp⟩⟩
   ·rw [Bw (Ne.symm hj)] at e2
    obtain ⟨u',r',q⟩:=hl j y v' e1 e2 e3;refine ⟨u',r',?_⟩
    rcases q with ⟨k,e⟩ | ⟨k,c,e,z⟩
    ·refine .inl ⟨k,?_⟩
     have:y≠x:=fun e=>hj (qp hN e1 (e ▸ hi))
     simp [this,e]
    ·exact .inr ⟨k,c,e,z.sameBut hs (cne y c e)⟩
  ·obtain ⟨w',z⟩:=I.cell y c e
   exact ⟨w',z.sameBut hs (cne y c e)⟩
  ·obtain ⟨e,n,ne,nf,d⟩:=I.pin p hp
   exact ⟨(hs.2 p.1 ne).trans e,n,ne,nf,d⟩
 ·have hfn:X.fn x=true:=by
   rcases hf with z | z
   ·exact z
   ·rw [z] at hk;cases hk
  obtain ⟨c,hc⟩:=I.ok.has x (.inl hk);obtain ⟨w',z⟩:=I.cell x c hc;refine wpAny_storeName_cell I.ok.kind hk hc z (fun h' hc' hs=> ?_);obtain ⟨oc,hoc,hocd⟩:=id z;refine h { s with heap:=h' } ⟨I.ok,I.os,I.bare,⟨fun b o e n hb hx=> ?_,fun b o e n hb hx=> ?_,I.base.free,fun b o e hx=> ?_,I.base.tups,I.base.frzs,I.base.tbls⟩,⟨m,hn.sameBut hs (Ne.symm (cne x c hc)),fun j y v' e1 e2 e3=> ?_⟩,fun y c' e=> ?_,I.free,I.freeC,fun p hp=> ?_,tracked ⟨oc,hoc,I.freeC x c hc⟩ hs,by simpa using I.len⟩ ⟨c,hs,.inr hc⟩
  ·exact (hs.2 b (AZ (Bb (AL e) (I.ok.cab x c hfn hc)))).trans (I.base.keep b o e n hb hx)
  ·obtain ⟨sl,e1⟩:=I.base.slot b o e n hb hx
   exact ⟨sl,(hs.2 b (AZ (Bb (AL e) (I.ok.cab x c hfn hc)))).trans e1⟩
  ·obtain ⟨o',e1⟩:=I.base.there b o e hx
   exact ⟨o',(hs.2 b (AZ (Bb (AL e) (I.ok.cab x c hfn hc)))).trans e1⟩
  ·by_cases hj:j=i
   ·subst hj
    rw [hi] at e1;cases e1;rw [BV hiσ] at e2;cases e2;exact ⟨u,r,.inr ⟨.inl hk,c,hc,hc'⟩⟩
   ·rw [Bw (Ne.symm hj)] at e2
    obtain ⟨u',r',q⟩:=hl j y v' e1 e2 e3;refine ⟨u',r',?_⟩
    rcases q with q | ⟨k,c',e,z'⟩
    ·exact .inl q
    ·refine .inr ⟨k,c',e,z'.sameBut hs ?_⟩
     rintro rfl;exact hj (qp hN e1 (I.ok.inj _ _ _ e hc ▸ hi))
  ·by_cases hcc:c'=c
   ·subst hcc;exact ⟨_,hc'⟩
   ·obtain ⟨w2,z2⟩:=I.cell y c' e
    exact ⟨w2,z2.sameBut hs hcc⟩
  ·obtain ⟨e,n,ne,nf,d⟩:=I.pin p hp
   refine ⟨(hs.2 p.1 ?_).trans e,n,ne,nf,d⟩;intro q;rw [q,hoc] at e;have q':oc=p.2:=Option.some.inj e;exact d w' (by rw [← q'];exact hocd)
theorem kA{M:Model}{A:Around}{E:Value→Shared→Prop}{i:Nat}{x:Str}{v:V}{u:Value}{Q:Unit→Shared→Prop}(I:Inv X pins σ H s)(hN:X.N.Nodup)(hi:X.N[i]?=some x)(hx:Loc X.env.scope x)(r:aR v u)
 (h:∀ s',Inv X pins (σ.set i (some v)) H s'→Q () s') (hf:X.fn x=true∨X.env.scope.names.lookup x=some .local:=by first | exact .inl rfl | exact .inr rfl | assumption):wpAny M A (storeName X.env x u) Q E s :=
 mP I hN hi hx r (fun s' I' _=>h s' I') hf
theorem Inv.call'{s':Shared}{ch:List Addr}(I:Inv X pins σ H s)(ho:s'.os=s.os)(u:Un (frs X.stack) ch H H' s.heap s'.heap)(hok:HOk X.prog X.w H' s'.heap)(hg:AllBare s'.gens)
 (hch:∀ b∈ch,(b∈X.ex∨X.s₀.heap.objs.size≤b)∧b≠X.env.locals∧(∀ x c,X.env.cells.lookup x=some c→c≠b)∧∀ p∈X.pn++pins,p.1≠b):Inv X pins σ H' s':=by
 obtain ⟨h',g',d',t',o'⟩:=s';have e:o'=s.os:=ho;subst e;exact I.call (g':=g') (t':=t') (d':=d') u hok hg hch
end
abbrev XK:=Value→Option Addr→Hp→Prop
abbrev St:=List (Option V)
abbrev VK:=V→Hp→Prop
abbrev TE:=St→Hp→VK→Prop
abbrev TT:=St→Hp→(Bool→Hp→Prop)→Prop
abbrev TA:=St→Hp→(List V→Hp→Prop)→Prop
structure lV where
 nx:St→Hp→Prop
 rt:VK
 bk:St→Hp→Prop:=fun _ _=>False
 ct:St→Hp→Prop:=fun _ _=>False
abbrev TS:=lV→St→Hp→Prop
def EP(X:Cx)(pins:List (Addr×Obj))(σ:St)(Q:VK)(u:Value)(s':Shared):Prop:=∃ v H',Inv X pins σ H' s'∧aR v u∧Q v H'
def TP(X:Cx)(pins:List (Addr×Obj))(σ:St)(Q:Bool→Hp→Prop)(b:Bool)(s':Shared):Prop:=∃ H',Inv X pins σ H' s'∧Q b H'
def AP(X:Cx)(pins:List (Addr×Obj))(σ:St)(Q:List V→Hp→Prop)(us:List Value)(s':Shared):Prop:=∃ vs H',Inv X pins σ H' s'∧aG vs us∧Q vs H'
def SP(X:Cx)(pins:List (Addr×Obj))(D:lV)(f:Flow)(s':Shared):Prop :=
 match f with
 | .next=>∃ σ' H',Inv X pins σ' H' s'∧D.nx σ' H'
 | .brk=>∃ σ' H',Inv X pins σ' H' s'∧D.bk σ' H'
 | .cont=>∃ σ' H',Inv X pins σ' H' s'∧D.ct σ' H'
 | .ret u=>∃ v σ' H',Inv X pins σ' H' s'∧aR v u∧D.rt v H'
def PE(X:Cx)(e:Expr)(t:TE):Prop :=
 ∀ (pins:List (Addr×Obj)) (s:Shared) (σ:St) (H:Hp) (Q:VK),Inv X pins σ H s→t σ H Q→wpAny (model X.prog X.w) X.A (eval e X.env) (EP X pins σ Q) X.xe s
def PT(X:Cx)(e:Expr)(t:TT):Prop :=
 ∀ (pins:List (Addr×Obj)) (s:Shared) (σ:St) (H:Hp) (Q:Bool→Hp→Prop),Inv X pins σ H s→t σ H Q→wpAny (model X.prog X.w) X.A (isTrue e X.env (eval e X.env)) (TP X pins σ Q) X.xe s
def PW(X:Cx)(e:Expr)(t:TT):Prop :=
 ∀ (whole:Sem Value) (pins:List (Addr×Obj)) (s:Shared) (σ:St) (H:Hp) (Q:Bool→Hp→Prop),Inv X pins σ H s→t σ H Q→wpAny (model X.prog X.w) X.A (isTrue e X.env whole) (TP X pins σ Q) X.xe s
theorem PW.pt{X:Cx}{e:Expr}{t:TT}(h:PW X e t):PT X e t:=h _
def PA(X:Cx)(es:List Expr)(t:TA):Prop :=
 ∀ (pos:Pos) (pins:List (Addr×Obj)) (s:Shared) (σ:St) (H:Hp) (Q:List V→Hp→Prop),Inv X pins σ H s→t σ H Q→wpAny (model X.prog X.w) X.A (spliced (backTo pos (starEach es X.env))) (AP X pins σ Q) X.xe s
def PS(X:Cx)(st:Stmt)(t:TS):Prop :=
 ∀ (pins:List (Addr×Obj)) (s:Shared) (σ:St) (H:Hp) (D:lV),Inv X pins σ H s→t D σ H→wpAny (model X.prog X.w) X.A (exec st X.env) (SP X pins D) X.xe s
def PSs(X:Cx)(st:List Stmt)(t:TS):Prop :=
 ∀ (pins:List (Addr×Obj)) (s:Shared) (σ:St) (H:Hp) (D:lV),Inv X pins σ H s→t D σ H→wpAny (model X.prog X.w) X.A (execs st X.env) (SP X pins D) X.xe s
theorem thn{α:Type}{t:Sem α}{Q Q':α→Shared→Prop}{M:Model}{A:Around}{E:Value→Shared→Prop}{s:Shared}(h:wpAny M A t Q E s)(hQ:∀ a s,Q a s→Q' a s):wpAny M A t Q' E s:=BQ h hQ fun _ _ x=>x
end L2
namespace L2
open PySem PySem.Spec PyProof.Rows
section
variable{X:Cx}
theorem bin{a b:Expr}{ta tb:TE}(ha:PE X a ta)(hb:PE X b tb){pins:List (Addr×Obj)}{s:Shared}{σ:St}{H:Hp}{R:V→V→Hp→Prop}(I:Inv X pins σ H s)(h:ta σ H fun x H1=>tb σ H1 fun y H2=>R x y H2)
 {α:Type} {Q:α→Shared→Prop} {f:Value→Value→Sem α}
 (hf:∀ v u s2 x y H2,Inv X pins σ H2 s2→aR x v→aR y u→R x y H2→wpAny (model X.prog X.w) X.A (f v u) Q X.xe s2) :
 wpAny (model X.prog X.w) X.A (eval a X.env) (fun v s₁=>wpAny (model X.prog X.w) X.A (eval b X.env) (fun u s₂=>wpAny (model X.prog X.w) X.A (f v u) Q X.xe s₂) X.xe s₁) X.xe s:=by
 refine thn (ha pins s σ H _ I h) fun v s1 ⟨x,H1,I1,r1,q1⟩=> ?_
 refine thn (hb pins s1 σ H1 _ I1 q1) fun u s2 ⟨y,H2,I2,r2,q2⟩=> ?_
 exact hf v u s2 x y H2 I2 r1 r2 q2
def vH(i:Nat):TE:=fun σ H Q=>∃ v,σ[i]?=some (some v)∧Q v H
def tC(v:V):TE:=fun _ H Q=>Q v H
theorem ii{i:Nat}{x:Str}{pos:Pos}(hN:X.N[i]?=some x)(hv:Vis X.env.scope x)(hd:(x == ("__debug__" : Str))=false:=by decide)(hcd:(x == ("__classdict__" : Str))=false:=by decide):PE X (.Name x pos) (vH i):=by
 intro pins s σ H Q I h;obtain ⟨v,e,h⟩:=h;obtain ⟨m,hn,hl⟩:=I.loc;obtain ⟨u,r,l⟩:=hl i x v hN e hv;have fin:EP X pins σ Q u s:=⟨v,H,I,r,h⟩
 rcases l with ⟨hk,hm⟩ | ⟨hk,c,hc,hcell⟩
 ·exact wpAny_Name (wpAny_loadName_local I.ok.kind hk hn hm fin) hd
 ·rcases hk with hk | hk
  ·exact wpAny_Name (wpAny_loadName_cell I.ok.kind hk hc hcell fin) hd
  ·exact wpAny_Name (wpAny_loadName_free I.ok.kind hk hc hcell fin hcd) hd
theorem rJ{i j pos}:PE X (.Constant (.int i) j pos) (tC (.int i)):=fun _ _ _ H _ I h=>wpAny_Constant_int ⟨.int i,H,I.tok _,⟨_,rfl⟩,h⟩
theorem pe_bl{b j pos}:PE X (.Constant (.bool b) j pos) (tC (.bl b)):=fun _ _ _ H _ I h=>Constant_bool ⟨.bl b,H,I,rfl,h⟩
theorem pe_non{j pos}:PE X (.Constant .none j pos) (tC .non):=fun _ _ _ H _ I h=>Constant_none ⟨.non,H,I,rfl,h⟩
theorem pe_str{x j pos}:PE X (.Constant (.str x) j pos) (tC (.str x)):=fun _ _ _ H _ I h=>Calls.Constant_str ⟨.str x,H,I.tok _,⟨_,rfl⟩,h⟩
def Gl(X:Cx)(x:Str):Prop:=X.env.kindOf x=some .globalImplicit
theorem oR{E:Value→Shared→Prop}{pins:List (Addr×Obj)}{s:Shared}{σ:St}{H:Hp}{x:Str}{u:Value}{pos:Pos}{Q:Value→Shared→Prop}(I:Inv X pins σ H s)(hg:Gl X x)(hm:X.mg x=some u)(h:Q u s)
 (hd:(x == ("__debug__" : Str))=false:=by decide):wpAny (model X.prog X.w) X.A (eval (.Name x pos) X.env) Q E s :=
 Calls.Name_function_global I.ok.kind hg (Calls.loadGlobal_global (by rw [I.ok.glob];exact I.mod.glob.keeps I.bk) hm h) hd
theorem iu{E:Value→Shared→Prop}{pins:List (Addr×Obj)}{s:Shared}{σ:St}{H:Hp}{x:Str}{u:Value}{pos:Pos}{Q:Value→Shared→Prop}(I:Inv X pins σ H s)(hg:Gl X x)(hm:X.mg x=none)(hv:bootBuiltins x=some u)(h:Q u s)
 (hn:x ≠ "__name__" := by decide) (hd:(x == ("__debug__" : Str))=false:=by decide):wpAny (model X.prog X.w) X.A (eval (.Name x pos) X.env) Q E s:=by
 obtain ⟨mb,h1,h2⟩:=I.mod.blt;exact Calls.Name_function_global I.ok.kind hg (Calls.loadGlobal_builtin (by rw [I.ok.glob];exact I.mod.glob.keeps I.bk) hm (by rw [I.ok.blt];exact h1.keeps I.bk) ((h2 x hn).trans hv) h) hd
theorem kl{x:Str}{v:V}{u:Value}{pos:Pos}(hg:Gl X x)(hm:X.mg x=some u)(r:aR v u)(hd:(x == ("__debug__" : Str))=false:=by decide):PE X (.Name x pos) (tC v) :=
 fun _ _ _ H _ I h=>oR I hg hm ⟨v,H,I,r,h⟩ hd
theorem yO{x:Str}{v:V}{u:Value}{pos:Pos}(hg:Gl X x)(hm:X.mg x=none)(hv:bootBuiltins x=some u)(r:aR v u)(hn:x ≠ "__name__" := by decide)(hd:(x == ("__debug__" : Str))=false:=by decide):PE X (.Name x pos) (tC v) :=
 fun _ _ _ H _ I h=>iu I hg hm hv ⟨v,H,I,r,h⟩ hn hd
variable{a b:Expr}{ta tb:TE}{pos:Pos}
def PC(X:Cx)(op:CmpOp)(a b:Expr)(t:TE):Prop :=
 ∀ (pins:List (Addr×Obj)) (s:Shared) (σ:St) (H:Hp) (Q:VK),Inv X pins σ H s→t σ H Q →
  wpAny (model X.prog X.w) X.A (eval a X.env) (fun v s₁=>wpAny (model X.prog X.w) X.A (eval b X.env) (fun u s₂=>wpAny (model X.prog X.w) X.A (compareOp op v u) (EP X pins σ Q) X.xe s₂) X.xe s₁) X.xe s
theorem wK(b:Expr){op:CmpOp}(h:op ≠ .In)(h2:op ≠ .NotIn):behindInMarks op b=false:=by
 have e1:(op == CmpOp.In)=false:=by cases op<;>first | rfl | exact absurd rfl h
 have e2:(op == CmpOp.NotIn)=false:=by cases op<;>first | rfl | exact absurd rfl h2
 cases b<;>simp [behindInMarks,e1,e2]
def tB(t:TE):TT:=fun σ H Q=>t σ H fun x H1=>∃ c,x = .bl c∧Q c H1
theorem pt_cmp{op:CmpOp}{t:TE}(h:PC X op a b t)(h1:behindInMarks op b=false:=by first | exact wK _ (by decide) (by decide) | rfl):PT X (.Compare a [op] [b] pos) (tB t):=by
 intro pins s σ H Q I hw;refine wpAny_isTrue_Compare1 (thn (h pins s σ H _ I hw) fun v s1 h1=>thn h1 fun u s2 h2=>thn h2 fun c s3 ⟨x,H1,I1,r1,q1⟩=> ?_) h1;obtain ⟨d,rfl,q⟩:=q1;cases r1;exact BT ⟨H1,I1,q⟩
variable{tA tB':TT}{rest:List Expr}
def tAnd(t u:TT):TT:=fun σ H Q=>t σ H fun c H1=>if c=true then u σ H1 Q else Q false H1
def tOr(t u:TT):TT:=fun σ H Q=>t σ H fun c H1=>if c=true then Q true H1 else u σ H1 Q
def tNot(t:TT):TT:=fun σ H Q=>t σ H fun c H1=>Q (!c) H1
theorem yA(ha:PT X a tA):PW X (.BoolOp .And [a] pos) tA:=by
 intro wh pins s σ H Q I h;refine isTrue_and (thn (ha pins s σ H Q I h) fun c s1 e=> ?_)
 cases c with
 | true=>exact isTrue_and_nil e
 | false=>exact e
theorem pw_or1(ha:PT X a tA):PW X (.BoolOp .Or [a] pos) tA:=by
 intro wh pins s σ H Q I h;refine isTrue_or (thn (ha pins s σ H Q I h) fun c s1 e=> ?_)
 cases c with
 | false=>exact isTrue_or_nil e
 | true=>exact e
theorem pw_and(ha:PT X a tA)(hb:PW X (.BoolOp .And (b::rest) pos) tB'):PW X (.BoolOp .And (a::b::rest) pos) (tAnd tA tB'):=by
 intro wh pins s σ H Q I h;refine isTrue_and (thn (ha pins s σ H _ I h) fun c s1 ⟨H1,I1,q1⟩=> ?_)
 cases c with
 | true=>exact hb wh pins s1 σ H1 Q I1 q1
 | false=>exact ⟨H1,I1,q1⟩
theorem pw_or(ha:PT X a tA)(hb:PW X (.BoolOp .Or (b::rest) pos) tB'):PW X (.BoolOp .Or (a::b::rest) pos) (tOr tA tB'):=by
 intro wh pins s σ H Q I h;refine isTrue_or (thn (ha pins s σ H _ I h) fun c s1 ⟨H1,I1,q1⟩=> ?_)
 cases c with
 | true=>exact ⟨H1,I1,q1⟩
 | false=>exact hb wh pins s1 σ H1 Q I1 q1
theorem pt_not(ha:PT X a tA):PT X (.UnaryOp .Not a pos) (tNot tA):=by
 intro pins s σ H Q I h;exact isTrue_not (ha pins s σ H (fun c H1=>Q (!c) H1) I h)
def tAndV(ta tb:TE):TE:=fun σ H Q=>ta σ H fun x H1=>∃ c,x = .bl c∧if c=true then tb σ H1 Q else Q (.bl false) H1
def tOrV(ta tb:TE):TE:=fun σ H Q=>ta σ H fun x H1=>∃ c,x = .bl c∧if c=true then Q (.bl true) H1 else tb σ H1 Q
def tNotV(ta:TE):TE:=fun σ H Q=>ta σ H fun x H1=>∃ c,x = .bl c∧Q (.bl (!c)) H1
theorem pe_one{op}{t:TE}(h:PE X a t):PE X (.BoolOp op [a] pos) t:=fun pins s σ H Q I hw=>BoolOp_one (h pins s σ H Q I hw)
theorem pe_and(ha:PE X a ta)(hb:PE X (.BoolOp .And (b::rest) pos) tb):PE X (.BoolOp .And (a::b::rest) pos) (tAndV ta tb):=by
 intro pins s σ H Q I h;refine BoolOp_and (thn (ha pins s σ H _ I h) fun v s1 ⟨x,H1,I1,r1,q1⟩=> ?_);obtain ⟨c,rfl,q1⟩:=q1;cases r1;refine BT ?_
 cases c with
 | true=>exact hb pins s1 σ H1 Q I1 q1
 | false=>exact ⟨.bl false,H1,I1,rfl,q1⟩
theorem pe_or(ha:PE X a ta)(hb:PE X (.BoolOp .Or (b::rest) pos) tb):PE X (.BoolOp .Or (a::b::rest) pos) (tOrV ta tb):=by
 intro pins s σ H Q I h;refine BoolOp_or (thn (ha pins s σ H _ I h) fun v s1 ⟨x,H1,I1,r1,q1⟩=> ?_);obtain ⟨c,rfl,q1⟩:=q1;cases r1;refine BT ?_
 cases c with
 | false=>exact hb pins s1 σ H1 Q I1 q1
 | true=>exact ⟨.bl true,H1,I1,rfl,q1⟩
theorem pe_not(ha:PE X a ta):PE X (.UnaryOp .Not a pos) (tNotV ta):=by
 intro pins s σ H Q I h;refine UnaryOp_ (thn (ha pins s σ H _ I h) fun v s1 ⟨x,H1,I1,r1,q1⟩=> ?_);obtain ⟨c,rfl,q1⟩:=q1;cases r1;exact not_of (BT ⟨.bl (!c),H1,I1,rfl,q1⟩)
def tIf(t:TT)(ta tb:TE):TE:=fun σ H Q=>t σ H fun c H1=>if c=true then ta σ H1 Q else tb σ H1 Q
theorem wr{c:Expr}(hc:PT X c tA)(ha:PE X a ta)(hb:PE X b tb):PE X (.IfExp c a b pos) (tIf tA ta tb):=by
 intro pins s σ H Q I h;refine wpAny_IfExp (thn (hc pins s σ H _ I h) fun d s1 ⟨H1,I1,q1⟩=> ?_)
 cases d with
 | true=>exact ha pins s1 σ H1 Q I1 q1
 | false=>exact hb pins s1 σ H1 Q I1 q1
end
end L2
namespace L2
open PySem PySem.Spec PyProof.Rows
def SqL(K:PySem.W.Frag)(H:Hp)(a:Addr)(xs:List V):Prop :=
 Rd H a (.lst xs) ∨
  ∃ (o:Obj) (its:Array Value) (n:Nat),K.lookup a=some o∧o.cls = .type "list" ∧ o.dict=none∧o.data = .seq its n∧its.size≤sizeLine∧aG xs its.toList
def SqT(K:PySem.W.Frag)(H:Hp)(a:Addr)(xs:List V):Prop :=
 Rd H a (.tup xs) ∨
  ∃ (o:Obj) (its:Array Value) (n:Nat),K.lookup a=some o∧o.cls = .type "tuple" ∧ o.data = .seq its n∧its.size≤sizeLine∧aG xs its.toList
def absV:Value→Option V
 | .none=>some .non
 | .bool b=>some (.bl b)
 | .int i _=>some (.int i)
 | .str x _=>some (.str x)
 | .bytes b _=>some (.byt b)
 | .float b _=>some (.flt b)
 | .ref a=>some (.ref a)
 | .type n=>some (.ty n)
 | _=>none
theorem aR.abs{x:V}{u:Value}(r:aR x u):absV u=some x:=by
 cases x with
 | non=>cases r;rfl
 | bl _=>cases r;rfl
 | int _=>obtain ⟨t,rfl⟩:=r;rfl
 | str _=>obtain ⟨t,rfl⟩:=r;rfl
 | byt _=>obtain ⟨t,rfl⟩:=r;rfl
 | flt _=>obtain ⟨t,rfl⟩:=r;rfl
 | ref _=>cases r;rfl
 | ty _=>cases r;rfl
theorem aR.inj{x y:V}{u:Value}(r:aR x u)(q:aR y u):x=y:=Option.some.inj (r.abs.symm.trans q.abs)
theorem aG.inj:∀ {xs ys:List V} {us:List Value},aG xs us→aG ys us→xs=ys
 | _,_,_,.nil,.nil=>rfl
 | _,_,_,.cons r t,.cons r' t'=>by rw [r.inj r',aG.inj t t']
section
variable{X:Cx}{pins:List (Addr×Obj)}{σ:St}{H:Hp}{s:Shared}{a:Addr}{xs ys:List V}
theorem Inv.list(I:Inv X pins σ H s)(h:SqL X.K H a xs):∃ its:List Value,aG xs its∧PlainL s.heap a its.toArray∧xs.length≤sizeLine:=by
 rcases h with h | ⟨o,its,n,hk,hc,hd,hs,hz,r⟩
 ·obtain ⟨z,its,n,r,e⟩:=h.ok I.hok
  exact ⟨its,r,⟨_,n,e,rfl,rfl,rfl⟩,z⟩
 ·refine ⟨its.toList,r,⟨o,n,I.kIn a o hk,hc,hd,by simpa using hs⟩,?_⟩
  have e:=r.length;simp only [Bz] at e;omega
theorem Inv.tuple(I:Inv X pins σ H s)(h:SqT X.K H a xs):∃ its:List Value,aG xs its∧IsTup s.heap a its.toArray∧xs.length≤sizeLine:=by
 rcases h with h | ⟨o,its,n,hk,hc,hs,hz,r⟩
 ·obtain ⟨z,its,r,p⟩:=h.ok I.hok
  exact ⟨its,r,p,z⟩
 ·refine ⟨its.toList,r,⟨o,I.kIn a o hk,hc,n,by simpa using hs⟩,?_⟩
  have e:=r.length;simp only [Bz] at e;omega
theorem Inv.list_inj(I:Inv X pins σ H s)(h:SqL X.K H a xs)(h':SqL X.K H a ys):xs=ys:=by
 obtain ⟨its,r,⟨o,n,e,_,_,d⟩,_⟩:=I.list h;obtain ⟨its',r',⟨o',n',e',_,_,d'⟩,_⟩:=I.list h';rw [e] at e';cases e';rw [d] at d'
 injection d' with d1 _
 have:its=its':=by simpa using congrArg Array.toList d1
 subst this;exact r.inj r'
theorem Inv.tuple_inj(I:Inv X pins σ H s)(h:SqT X.K H a xs)(h':SqT X.K H a ys):xs=ys:=by
 obtain ⟨its,r,⟨o,e,_,n,d⟩,_⟩:=I.tuple h;obtain ⟨its',r',⟨o',e',_,n',d'⟩,_⟩:=I.tuple h';rw [e] at e';cases e';rw [d] at d'
 injection d' with d1 _
 have:its=its':=by simpa using congrArg Array.toList d1
 subst this;exact r.inj r'
end
abbrev Cx.wish(X:Cx)(E:Value→Shared→Prop):Cx:={ X with xe:=E }
abbrev Cx.nox(X:Cx):Cx:=X.wish fun _ _=>False
theorem Cx.Ok.wish{X:Cx}(ok:X.Ok)(E:Value→Shared→Prop):(X.wish E).Ok :=
 ⟨ok.mod,ok.kind,ok.glob,ok.blt,ok.above,ok.inj,ok.has,ok.cab,ok.hd,ok.frames,ok.stk,ok.exf,ok.bs,ok.bsz,ok.noex,ok.exfs,ok.funs,ok.frf⟩
theorem Cx.Ok.unwish{X:Cx}{E:Value→Shared→Prop}(ok:(X.wish E).Ok):X.Ok :=
 ⟨ok.mod,ok.kind,ok.glob,ok.blt,ok.above,ok.inj,ok.has,ok.cab,ok.hd,ok.frames,ok.stk,ok.exf,ok.bs,ok.bsz,ok.noex,ok.exfs,ok.funs,ok.frf⟩
section
variable{X:Cx}{pins:List (Addr×Obj)}{σ:St}{H:Hp}{s:Shared}{E:Value→Shared→Prop}
theorem Inv.wish(I:Inv X pins σ H s)(E:Value→Shared→Prop):Inv (X.wish E) pins σ H s:=⟨I.ok.wish E,I.os,I.bare,I.base,I.loc,I.cell,I.free,I.freeC,I.pin,I.hok,I.len⟩
theorem Inv.unwish(I:Inv (X.wish E) pins σ H s):Inv X pins σ H s:=⟨I.ok.unwish,I.os,I.bare,I.base,I.loc,I.cell,I.free,I.freeC,I.pin,I.hok,I.len⟩
theorem SP.unwish{D:lV}{f:Flow}{s':Shared}(h:SP (X.wish E) pins D f s'):SP X pins D f s':=by
 cases f with
 | next=>obtain ⟨σ',H',I,q⟩:=h;exact ⟨σ',H',I.unwish,q⟩
 | brk=>obtain ⟨σ',H',I,q⟩:=h;exact ⟨σ',H',I.unwish,q⟩
 | cont=>obtain ⟨σ',H',I,q⟩:=h;exact ⟨σ',H',I.unwish,q⟩
 | ret u=>obtain ⟨v,σ',H',I,r,q⟩:=h;exact ⟨v,σ',H',I.unwish,r,q⟩
theorem PSs.nox{st:List Stmt}{t:TS}(h:PSs X.nox st t):PSs X st t:=fun pins s σ H D I hw =>
 BQ (h pins s σ H D (I.wish _) hw) (fun _ _ q=>q.unwish) fun _ _ z=>False.elim z
end
section
variable{X:Cx}{st:Stmt}{rest:List Stmt}{t u:TS}{e:Expr}{te:TE}{pos:Pos}
def tNext:TS:=fun D σ H=>D.nx σ H
def tSeq(t u:TS):TS:=fun D σ H=>t { D with nx:=u D } σ H
theorem yF:PSs X [] tNext:=fun _ _ σ H _ I h=>wpAny_execs_nil ⟨σ,H,I,h⟩
theorem iY(h1:PS X st t)(h2:PSs X rest u):PSs X (st::rest) (tSeq t u):=by
 intro pins s σ H D I h;refine wpAny_execs_cons (thn (h1 pins s σ H { D with nx:=u D } I h) fun f s1 q=> ?_)
 cases f with
 | next =>
  obtain ⟨σ',H',I',q⟩:=q;exact h2 pins s1 σ' H' D I' q
 | ret v=>exact q
 | brk=>exact q
 | cont=>exact q
theorem oC(h1:PS X st t):PSs X [st] t:=by
 intro pins s σ H D I h;refine wpAny_execs_cons (thn (h1 pins s σ H D I h) fun f s1 q=> ?_)
 cases f with
 | next=>exact wpAny_execs_nil q
 | ret v=>exact q
 | brk=>exact q
 | cont=>exact q
theorem Inv.quiet{pins:List (Addr×Obj)}{σ:St}{H:Hp}{s:Shared}(I:Inv X pins σ H s):interactive X.env=false:=by simp [interactive,I.ok.kind]
def tDrop(te:TE):TS:=fun D σ H=>te σ H fun _ H1=>D.nx σ H1
theorem oD(he:PE X e te)(hs:swapsWith e none pos.line X.env=pure false:=by rfl):PS X (.Expr e pos) (tDrop te):=by
 intro pins s σ H D I h;exact wpAny_Expr_any (thn (he pins s σ H _ I h) fun v s1 ⟨x,H1,I1,r1,q1⟩=>⟨σ,H1,I1,q1⟩) I.quiet hs
def tRet(te:TE):TS:=fun D σ H=>te σ H D.rt
theorem rF(he:PE X e te):PS X (.Return (some e) pos) (tRet te):=by
 intro pins s σ H D I h;exact wpAny_Return_some (thn (he pins s σ H _ I h) fun v s1 ⟨x,H1,I1,r1,q1⟩=>⟨x,σ,H1,I1,r1,q1⟩)
def tIfS(c:TT)(t u:TS):TS:=fun D σ H=>c σ H fun b H1=>if b=true then t D σ H1 else u D σ H1
theorem ps_if{c:Expr}{a b:List Stmt}{tc:TT}(hc:PT X c tc)(ha:PSs X a t)(hb:PSs X b u):PS X (.If c a b pos) (tIfS tc t u):=by
 intro pins s σ H D I h;refine wpAny_If (thn (hc pins s σ H _ I h) fun d s1 ⟨H1,I1,q1⟩=> ?_)
 cases d with
 | true=>exact ha pins s1 σ H1 D I1 q1
 | false=>exact hb pins s1 σ H1 D I1 q1
end
abbrev TG:=V→St→Hp→(St→Hp→Prop)→Prop
abbrev TGs:=List V→St→Hp→(St→Hp→Prop)→Prop
def PG(X:Cx)(target:Expr)(t:TG):Prop :=
 ∀ (pins:List (Addr×Obj)) (s:Shared) (σ:St) (H:Hp) (v:V) (u:Value) (Q:St→Hp→Prop),Inv X pins σ H s→aR v u→t v σ H Q →
  wpAny (model X.prog X.w) X.A (assign target X.env u) (fun _ s'=>∃ σ' H',Inv X pins σ' H' s'∧Q σ' H') X.xe s
def PGs(X:Cx)(ts:List Expr)(t:TGs):Prop :=
 ∀ (pins:List (Addr×Obj)) (s:Shared) (σ:St) (H:Hp) (vs:List V) (us:List Value) (Q:St→Hp→Prop),Inv X pins σ H s→aG vs us→t vs σ H Q →
  wpAny (model X.prog X.w) X.A (assignInOrder ((assignEach ts X.env).map (·.2)) us) (fun _ s'=>∃ σ' H',Inv X pins σ' H' s'∧Q σ' H') X.xe s
abbrev TSet:=V→V→V→Hp→(Hp→Prop)→Prop
def PSet(X:Cx)(t:TSet):Prop :=
 ∀ (pins:List (Addr×Obj)) (s:Shared) (σ:St) (H:Hp) (o i v:V) (ov iv u:Value) (Q:Hp→Prop),Inv X pins σ H s→aR o ov→aR i iv→aR v u→t o i v H Q →
  wpAny (model X.prog X.w) X.A (setItem ov iv u) (fun _ s'=>∃ H',Inv X pins σ H' s'∧Q H') X.xe s
abbrev TIp:=V→V→Hp→VK→Prop
def PIp(X:Cx)(op:Operator)(t:TIp):Prop :=
 ∀ (pins:List (Addr×Obj)) (s:Shared) (σ:St) (H:Hp) (x y:V) (v u:Value) (Q:VK),Inv X pins σ H s→aR x v→aR y u→t x y H Q →
  wpAny (model X.prog X.w) X.A (inplaceOp op v u) (EP X pins σ Q) X.xe s
section
variable{X:Cx}{pos:Pos}
def tQ(i:Nat):TG:=fun v σ H Q=>Q (σ.set i (some v)) H
theorem kj{i:Nat}{x:Str}(hN:X.N.Nodup)(hi:X.N[i]?=some x)(hx:Loc X.env.scope x)(hf:X.fn x=true∨X.env.scope.names.lookup x=some .local:=by first | exact .inl rfl | exact .inr rfl | assumption):PG X (.Name x pos) (tQ i):=by
 intro pins s σ H v u Q I r h;exact wpAny_assign_Name (kA I hN hi hx r (fun s' I'=>⟨_,H,I',h⟩) hf)
def gNil:TGs:=fun vs σ H Q=>vs=[]∧Q σ H
def Ap(t:TG)(u:TGs):TGs:=fun vs σ H Q=>∃ v r,vs=v::r∧t v σ H fun σ' H'=>u r σ' H' Q
theorem tz:PGs X [] gNil:=by
 intro pins s σ H vs us Q I r h;obtain ⟨e,h⟩:=h;subst e;cases r;exact assignInOrder_nil ⟨σ,H,I,h⟩
theorem k6{e:Expr}{es:List Expr}{t:TG}{u:TGs}(h1:PG X e t)(h2:PGs X es u)
 (hs:(assignEach (e::es) X.env).map (·.2)=assign e X.env::(assignEach es X.env).map (·.2):=by rfl):PGs X (e::es) (Ap t u):=by
 intro pins s σ H vs us Q I r h;obtain ⟨v,vr,e1,h⟩:=h;subst e1
 cases r with
 | cons r rr =>
  rw [hs];refine assignInOrder_cons (thn (h1 pins s σ H _ _ _ I r h) fun _ s1 ⟨σ1,H1,I1,q1⟩=> ?_);exact h2 pins s1 σ1 H1 _ _ Q I1 rr q1
def gTup(K:PySem.W.Frag)(n:Nat)(t:TGs):TG:=fun v σ H Q=>∃ a xs,v = .ref a∧SqT K H a xs∧xs.length=n∧t xs σ H Q
theorem wn{es:List Expr}{k:Nat}{t:TGs}{n:Nat}(hc:X.calm=true)(h:PGs X es t)
 (hn:(assignEach es X.env).length=n:=by rfl) (hst:(assignEach es X.env).findIdx? (·.1)=none:=by rfl):PG X (.Tuple es k pos) (gTup X.K n t):=by
 intro pins s σ H v u Q I r hw;obtain ⟨a,xs,e1,hq,hl,hw⟩:=hw;subst e1;cases r;obtain ⟨its,rv,ht,hz⟩:=I.tuple hq
 refine assign_Tuple_tuple (I.ok.hd hc) ht (by simp [hn,← hl,rv.length]) hst fun h' hx=> ?_
 have I1:Inv X pins σ H { s with heap:=h' }:=I.kept (t':=s.toks) fun b o e=>hx b o (AZ (AL e)) e
 exact h pins _ σ H xs _ Q I1 (by simpa using rv) hw
def gSub(to ti:TE)(t:TSet):TG:=fun v σ H Q=>to σ H fun o H1=>ti σ H1 fun i H2=>t o i v H2 fun H3=>Q σ H3
theorem pg_sub{o i:Expr}{to ti:TE}{t:TSet}(ho:PE X o to)(hi:PE X i ti)(hs:PSet X t)
 (ha:∀ v,assign (.Subscript o i pos) X.env v=(do
   let ov ← holding [v] (eval o X.env)
   let iv ← holding [v,ov] (eval i X.env)
   standAt pos
   holding [v,ov,iv] (setItem ov iv v)
   release [v,ov,iv] []):=by intro _;rfl):PG X (.Subscript o i pos) (gSub to ti t):=by
 intro pins s σ H v u Q I r h;rw [ha];refine AB (BS (thn (ho pins s σ H _ I h) fun ov s1 ⟨x,H1,I1,r1,q1⟩=> ?_));refine AB (BS (thn (hi pins s1 σ H1 _ I1 q1) fun iv s2 ⟨y,H2,I2,r2,q2⟩=> ?_));refine AB (wpAny_standAt (AB (BS (thn (hs pins s2 σ H2 x y v ov iv u _ I2 r1 r2 r q2) fun _ s3 ⟨H3,I3,q3⟩=> ?_))));exact wpAny_release ⟨σ,H3,I3,q3⟩
def tAsg(te:TE)(g:TG):TS:=fun D σ H=>te σ H fun x H1=>g x σ H1 D.nx
theorem wg{tg e:Expr}{te:TE}{g:TG}(he:PE X e te)(hg:PG X tg g)(hs:swapsWithSole [tg] e pos.line X.env=pure false:=by rfl)(hw:swappedStores [tg] e X.env=pure none:=by rfl)
 (h1:(assignEach [tg] X.env).map (·.2)=[assign tg X.env]:=by rfl):PS X (.Assign [tg] e pos) (tAsg te g):=by
 intro pins s σ H D I h;refine wpAny_Assign_stores (thn (he pins s σ H _ I h) fun v s1 ⟨x,H1,I1,r1,q1⟩=> ?_) hs hw;rw [h1]
 exact thn (hg pins s1 σ H1 x v _ I1 r1 q1) fun _ s2 q=>q
theorem ps_set{i:Nat}{x:Str}{e:Expr}{te:TE}{pos':Pos}(hN:X.N.Nodup)(hi:X.N[i]?=some x)(hx:Loc X.env.scope x)(he:PE X e te)(hs:swapsWith e (some (.Name x pos')) pos.line X.env=pure false:=by rfl)(hf:X.fn x=true∨X.env.scope.names.lookup x=some .local:=by first | exact .inl rfl | exact .inr rfl | assumption) :
 PS X (.Assign [.Name x pos'] e pos) (tAsg te (tQ i)):=by
 intro pins s σ H D I h;refine wpAny_Assign_Name (thn (he pins s σ H _ I h) fun v s1 ⟨y,H1,I1,r1,q1⟩=> ?_) hs;exact kA I1 hN hi hx r1 (fun s2 I2=>⟨_,H1,I2,q1⟩) hf
def tAug(i:Nat)(te:TE)(ti:TIp):TS:=fun D σ H=>∃ x,σ[i]?=some (some x)∧te σ H fun y H1=>ti x y H1 fun z H2=>D.nx (σ.set i (some z)) H2
theorem ps_aug{i:Nat}{x:Str}{e:Expr}{te:TE}{op:Operator}{ti:TIp}{pos':Pos}(hN:X.N.Nodup)(hi:X.N[i]?=some x)(hx:Loc X.env.scope x)(he:PE X e te)(ho:PIp X op ti)(hf:X.fn x=true∨X.env.scope.names.lookup x=some .local:=by first | exact .inl rfl | exact .inr rfl | assumption) :
 PS X (.AugAssign (.Name x pos') op e pos) (tAug i te ti):=by
 intro pins s σ H D I h;obtain ⟨v,e1,h⟩:=h;obtain ⟨m,hn,hl⟩:=I.loc
 have vis:Vis X.env.scope x:=by rcases hx with k | k;exact .inl k;exact .inr (.inl k)
 obtain ⟨u,r,l⟩:=hl i x v hi e1 vis;refine wpAny_AugAssign_Name ?_
 have go:wpAny (model X.prog X.w) X.A (eval e X.env) (fun w s₂=>wpAny (model X.prog X.w) X.A (inplaceOp op u w) (fun r s₃=>wpAny (model X.prog X.w) X.A (storeName X.env x r) (fun _=>SP X pins D .next) X.xe s₃) X.xe s₂) X.xe s:=by
  refine thn (he pins s σ H _ I h) fun w s1 ⟨y,H1,I1,r1,q1⟩=> ?_
  refine thn (ho pins s1 σ H1 v y u w _ I1 r r1 q1) fun z s2 ⟨zv,H2,I2,r2,q2⟩=> ?_
  exact kA I2 hN hi hx r2 (fun s3 I3=>⟨_,H2,I3,q2⟩) hf
 rcases l with ⟨hk,hm⟩ | ⟨hk,c,hc,hcell⟩
 ·exact wpAny_loadName_local I.ok.kind hk hn hm go
 ·rcases hk with hk | hk
  ·exact wpAny_loadName_cell I.ok.kind hk hc hcell go
  ·rcases hx with k | k
   ·have:X.env.scope.names.lookup x=some .free:=hk
    rw [k] at this;cases this
   ·have:X.env.scope.names.lookup x=some .free:=hk
    rw [k] at this;cases this
def ipI(f:Int→Int→Int):TIp:=fun x y H Q=>∃ i j,x = .int i∧y = .int j∧Q (.int (f i j)) H
theorem rX:PIp X .Add (ipI fun i j=>i+j):=by
 intro pins s σ H x y v u Q I r1 r2 h;obtain ⟨i,j,e1,e2,q⟩:=h;subst e1;subst e2;obtain ⟨t,rfl⟩:=r1;obtain ⟨t',rfl⟩:=r2;exact iadd_int ⟨.int _,H,I.tok _,⟨_,rfl⟩,q⟩
theorem wV:PIp X .Sub (ipI fun i j=>i - j):=by
 intro pins s σ H x y v u Q I r1 r2 h;obtain ⟨i,j,e1,e2,q⟩:=h;subst e1;subst e2;obtain ⟨t,rfl⟩:=r1;obtain ⟨t',rfl⟩:=r2;exact isub_int ⟨.int _,H,I.tok _,⟨_,rfl⟩,q⟩
end
section
variable{X:Cx}{pos:Pos}
end
structure It where
 go:Nat→Hp→Prop
 yld:Nat→Hp→V→Hp→Prop
 stop:Nat→Hp→Prop
def pi(X:Cx)(pins:List (Addr×Obj))(H:Hp)(b:Addr):Prop :=
 H b=none∧b≠X.env.locals∧b∉X.fs∧(b∈X.ex∨X.s₀.heap.objs.size≤b)∧(∀ x c,X.env.cells.lookup x=some c→c≠b)∧∀ p∈X.pn++pins,p.1≠b
theorem Inv.fpOk{X:Cx}{pins:List (Addr×Obj)}{σ:St}{H H':Hp}{s:Shared}{b:Addr}(I:Inv X pins σ H s)(hb:s.heap.objs.size≤b)(hn:H' b=none):pi X pins H' b:=by
 refine ⟨hn,Ce (Bb I.lt hb),I.nofs hb,.inr (BL I.sz hb),fun x c e z=> ?_,fun p hp z=> ?_⟩
 ·obtain ⟨v,q⟩:=I.cell x c e
  exact absurd (Bb q.lt (by rw [z];exact hb)) (Ci _)
 ·exact absurd (Bb (AL (I.pin p hp).1) (by rw [z];exact hb)) (Ci _)
structure vt(P:Program)(w:World)(K:PySem.W.Frag)(tg:Expr)(J:It)(fp:List Addr)(it:Addr)(tn:Nat→Heap→Prop):Prop where
 mem:it∈fp
 obj:∀ i h,tn i h→∀ b∈fp,∃ o,h.get? b=some o∧∀ v,o.data ≠ .cell v
 keep:∀ i h h',tn i h→(∀ b∈fp,∀ o,h.get? b=some o→h'.get? b=some o)→tn i h'
 item:∀ (X:Cx),X.prog=P→X.w=w→X.K=K→X.calm=true→∀ (i:Nat) (pins:List (Addr×Obj)) (s:Shared) (σ:St) (H:Hp) (E:Value→Shared→Prop),Inv X pins σ H s→(∀ b∈fp,pi X pins H b)→tn i s.heap→J.go i H →
  wpAny (model P w) X.A (pyNext (.ref it)) (fun r s1=>∃ u,r=some u ∧
   wpAny (model P w) X.A (letOwnedTupleGo tg (.ref it) u) (fun _ s2=>∃ x H',Inv X pins σ H' s2∧aR x u∧J.yld i H x H'∧tn (i+1) s2.heap∧∀ b∈fp,H' b=none) E s1) E s
 done:∀ (X:Cx),X.prog=P→X.w=w→X.K=K→X.calm=true→∀ (i:Nat) (pins:List (Addr×Obj)) (s:Shared) (σ:St) (H:Hp) (E:Value→Shared→Prop),Inv X pins σ H s→(∀ b∈fp,pi X pins H b)→tn i s.heap→J.stop i H →
  wpAny (model P w) X.A (pyNext (.ref it)) (fun r s1=>r=none∧Inv X pins σ H s1) E s
 self:∀ (A:Around) (i:Nat) (s:Shared) (Q:Value→Shared→Prop) (E:Value→Shared→Prop),tn i s.heap→Q (.ref it) s→wpAny (model P w) A (pyIter (.ref it)) Q E s
abbrev TI:=St→Hp→(It→Hp→Prop)→Prop
def PIE(X:Cx)(pins:List (Addr×Obj))(σ:St)(tg:Expr)(R:It→Hp→Prop)(itv:Value)(s2:Shared):Prop :=
 ∃ (it:Addr) (fp:List Addr) (tn:Nat→Heap→Prop) (J:It) (H':Hp),itv = .ref it∧Inv X pins σ H' s2∧vt X.prog X.w X.K tg J fp it tn∧tn 0 s2.heap∧(∀ b∈fp,pi X pins H' b)∧R J H'
def PI(X:Cx)(tg iter:Expr)(wi:TI):Prop :=
 ∀ (pins:List (Addr×Obj)) (s:Shared) (σ:St) (H:Hp) (R:It→Hp→Prop),Inv X pins σ H s→wi σ H R →
  wpAny (model X.prog X.w) X.A (eval iter X.env) (fun v s1=>wpAny (model X.prog X.w) X.A (pyIter v) (PIE X pins σ tg R) X.xe s1) X.xe s
theorem w8{M:Model}{A:Around}{E:Value→Shared→Prop}{s:Shared}{tg:Expr}{it:Addr}{u:Value}{o:Obj}{n:String}{vs:Array Value}{Q:Unit→Shared→Prop}(ho:s.heap.get? it=some o)(hc:o.cls = .type n)(hd:o.data = .fields vs)
 (hn:["enumerate", "zip", "dict_itemiterator", "dict_reverseitemiterator", "odict_iterator", "itertools.zip_longest", "itertools.pairwise"].contains n=false) (hQ:Q () s):wpAny M A (letOwnedTupleGo tg (.ref it) u) Q E s:=by
 unfold letOwnedTupleGo
 cases tg<;>first
  | exact AG hQ
  | (cases u<;>first
      | exact AG hQ
      | (refine AB (wpAny_load ho ?_)
         rw [hc,hd]
         show wpAny M A (if (["enumerate", "zip", "dict_itemiterator", "dict_reverseitemiterator", "odict_iterator", "itertools.zip_longest", "itertools.pairwise"].contains n&&vs[0]? == some (rawInt _))=true then _ else _) Q E s
         rw [if_neg (by intro h;rw [hn,Cm] at h;cases h)]
         exact AG hQ))
def Itl(K:PySem.W.Frag)(a:Addr):It :=
 ⟨fun i H=>∃ xs x,SqL K H a xs∧xs[i]?=some x,fun i H x H'=>H'=H∧∀ xs,SqL K H a xs→xs[i]?=some x,fun i H=>∃ xs,SqL K H a xs∧xs.length≤i⟩
def Itt(K:PySem.W.Frag)(a:Addr):It :=
 ⟨fun i H=>∃ xs x,SqT K H a xs∧xs[i]?=some x,fun i H x H'=>H'=H∧∀ xs,SqT K H a xs→xs[i]?=some x,fun i H=>∃ xs,SqT K H a xs∧xs.length≤i⟩
def Itr(lo:Int)(n:Nat):It:=⟨fun i _=>i < n,fun i H x H'=>H'=H∧x = .int (lo+i),fun i _=>n≤i⟩
theorem uc{P:Program}{w:World}{K:PySem.W.Frag}{tg:Expr}(a it:Addr):vt P w K tg (Itl K a) [it] it (fun i h=>h.IsListIter it a i) where
 mem:=by simp
 obj:=fun i h st b hb=>by
  have e:b=it:=by simpa using hb
  subst e;obtain ⟨o,e,c,d⟩:=st;exact ⟨o,e,fun v z=>by rw [d] at z;cases z⟩
 keep:=fun i h h' st k=>st.at fun o e=>k it (by simp) o e
 item:=by
  intro X hP hw hK hc i pins s σ H E I hf st hg;subst hP hw hK;obtain ⟨xs,x,hq,hx⟩:=hg;obtain ⟨its,rv,p,hz⟩:=I.list hq;obtain ⟨u,hu,ru⟩:=rv.get hx;obtain ⟨f0,f1,f2,f3,f4,f5⟩:=hf it (by simp)
  refine wpAny_pyNext_list_item st p.isList (x:=u) (by simpa using hu) fun h' st' sb=> ?_
  have I1:Inv X pins σ H { s with heap:=h' }:=I.turned (t':=s.toks) (fun b o hb e=>(sb.2 b hb).trans e) f0 f1 f3 f4 f5;obtain ⟨o,e,c,d⟩:=id st';exact ⟨u,rfl,w8 (s:={ s with heap:=h' }) e c d (by decide) ⟨x,H,I1,ru,⟨rfl,fun ys hy=>by rw [I.list_inj hy hq];exact hx⟩,st',fun b hb=>(hf b hb).1⟩⟩
 done:=by
  intro X hP hw hK hc i pins s σ H E I hf st hg;subst hP hw hK;obtain ⟨xs,hq,hx⟩:=hg;obtain ⟨its,rv,p,hz⟩:=I.list hq;obtain ⟨f0,f1,f2,f3,f4,f5⟩:=hf it (by simp);have hl:=rv.length
  exact wpAny_pyNext_list_end (I.ok.hd hc) st p.isList (by simp;omega) fun h' eb=>⟨rfl,I.turned (t':=s.toks) (fun b o hb e=>eb b o hb e) f0 f1 f3 f4 f5⟩
 self:=fun _ _ _ _ _ st h=>wpAny_pyIter_listiter st h
theorem kt{P:Program}{w:World}{K:PySem.W.Frag}{tg:Expr}(a it:Addr):vt P w K tg (Itt K a) [it] it (fun i h=>h.IsTupleIter it a i) where
 mem:=by simp
 obj:=fun i h st b hb=>by
  have e:b=it:=by simpa using hb
  subst e;obtain ⟨o,e,c,d⟩:=st;exact ⟨o,e,fun v z=>by rw [d] at z;cases z⟩
 keep:=fun i h h' st k=>st.at fun o e=>k it (by simp) o e
 item:=by
  intro X hP hw hK hc i pins s σ H E I hf st hg;subst hP hw hK;obtain ⟨xs,x,hq,hx⟩:=hg;obtain ⟨its,rv,p,hz⟩:=I.tuple hq;obtain ⟨u,hu,ru⟩:=rv.get hx;obtain ⟨f0,f1,f2,f3,f4,f5⟩:=hf it (by simp)
  refine wpAny_pyNext_tuple_item st (show s.heap.IsTuple a its.toArray from p) (x:=u) (by simpa using hu) fun h' st' sb=> ?_
  have I1:Inv X pins σ H { s with heap:=h' }:=I.turned (t':=s.toks) (fun b o hb e=>(sb.2 b hb).trans e) f0 f1 f3 f4 f5;obtain ⟨o,e,c,d⟩:=id st';exact ⟨u,rfl,w8 (s:={ s with heap:=h' }) e c d (by decide) ⟨x,H,I1,ru,⟨rfl,fun ys hy=>by rw [I.tuple_inj hy hq];exact hx⟩,st',fun b hb=>(hf b hb).1⟩⟩
 done:=by
  intro X hP hw hK hc i pins s σ H E I hf st hg;subst hP hw hK;obtain ⟨xs,hq,hx⟩:=hg;obtain ⟨its,rv,p,hz⟩:=I.tuple hq;obtain ⟨f0,f1,f2,f3,f4,f5⟩:=hf it (by simp);have hl:=rv.length
  exact wpAny_pyNext_tuple_end (I.ok.hd hc) st (show s.heap.IsTuple a its.toArray from p) (by simp;omega) fun h' eb=>⟨rfl,I.turned (t':=s.toks) (fun b o hb e=>eb b o hb e) f0 f1 f3 f4 f5⟩
 self:=fun _ _ _ _ _ st h=>wpAny_pyIter_tupleiter st h
theorem qW{P:Program}{w:World}{K:PySem.W.Frag}{tg:Expr}(it:Addr)(lo:Int)(n:Nat):vt P w K tg (Itr lo n) [it] it (fun i h=>IsRangeIter h it (lo+(i:Nat) * 1) ((n:Int) - (i:Nat)) 1) where
 mem:=by simp
 obj:=fun i h st b hb=>by
  have e:b=it:=by simpa using hb
  subst e
  exact ⟨_,st,fun v z=>by
   have z':Data.fields _=Data.cell v:=z
   cases z'⟩
 keep:=fun i h h' st k=>k it (by simp) _ st
 item:=by
  intro X hP hw hK hc i pins s σ H E I hf st hg;subst hP hw hK;obtain ⟨f0,f1,f2,f3,f4,f5⟩:=hf it (by simp);have W:=Walks.range (prog:=X.prog) (w:=X.w) (I.ok.hd hc) it lo 1 n
  refine W.item i s _ _ hg st fun v h' tk hv st' kk=> ?_
  obtain ⟨t,rfl⟩:=hv;have I1:Inv X pins σ H { s with heap:=h',toks:=tk }:=I.turned (fun b o hb e=>kk b o (by simpa using hb) e) f0 f1 f3 f4 f5;refine ⟨_,rfl,w8 (s:={ s with heap:=h',toks:=tk }) (n := "range_iterator") st' rfl rfl (by decide) ⟨.int (lo+i),H,I1,⟨t,?_⟩,⟨rfl,rfl⟩,st',fun b hb=>(hf b hb).1⟩⟩;rw [Int.mul_one]
 done:=by
  intro X hP hw hK hc i pins s σ H E I hf st hg;subst hP hw hK;obtain ⟨f0,f1,f2,f3,f4,f5⟩:=hf it (by simp)
  exact wpAny_pyNext_range_end (I.ok.hd hc) st (by have:n≤i:=hg;omega) fun h' eb=>⟨rfl,I.turned (t':=s.toks) (fun b o hb e=>eb b o hb e) f0 f1 f3 f4 f5⟩
 self:=fun _ _ _ _ _ st h=>wpAny_pyIter_rangeiter st h
end L2
namespace L2
open PySem PySem.Spec PyProof.Rows
section
variable{X:Cx}{tg:Expr}
def iTup(K:PySem.W.Frag)(tl:TE):TI:=fun σ H R=>tl σ H fun x H1=>∃ a,x = .ref a∧(∃ xs,SqT K H1 a xs)∧R (Itt K a) H1
theorem pi_tup{l:Expr}{tl:TE}(hl:PE X l tl):PI X tg l (iTup X.K tl):=by
 intro pins s σ H R I h
 refine thn (hl pins s σ H _ I h) fun v s1 ⟨x,H1,I1,r1,q1⟩=> ?_
 obtain ⟨a,e,⟨xs,hq⟩,q⟩:=q1;subst e;cases r1;obtain ⟨its,rv,p,hz⟩:=I1.tuple hq;refine Bg (show s1.heap.IsTuple a its.toArray from p) ?_;refine ⟨s1.heap.objs.size,[s1.heap.objs.size],_,_,H1,rfl,I1.kept (t':=s1.toks) fun b o e=>AC _ e,kt a _,⟨_,AJ _ rfl,rfl,rfl⟩,fun b hb=> ?_,q⟩
 have e:b=s1.heap.objs.size:=by simpa using hb
 subst e;exact I1.fpOk (AO _) (I1.hok.fresh (AO _))
theorem p8{pins:List (Addr×Obj)}{σ:St}{H:Hp}{s:Shared}{R:It→Hp→Prop}{E:Value→Shared→Prop}{lo hi:Int}{t u v:Tok}{tk:Nat}(I:Inv X pins σ H s)(h1 : -(2 ^ 62)≤lo)(h2:lo < 2 ^ 62)(h3 : -(2 ^ 62)≤hi)(h4:hi < 2 ^ 62)
 (q:R (Itr lo (hi - lo).toNat) H):wpAny (model X.prog X.w) X.A (pyIter (.ref s.heap.objs.size)) (PIE X pins σ tg R) E { s with heap:=s.heap.push { cls:= .type "range",data:= .fields #[.int lo t,.int hi u,.int 1 v] },toks:=tk }:=by
 refine wpAny_pyIter_range (IsRange.new ..) (small_one h1 h2 h3 h4) ?_
 have I1:Inv X pins σ H { s with heap:=s.heap.push { cls:= .type "range",data:= .fields #[.int lo t,.int hi u,.int 1 v] },toks:=tk }:=I.kept fun b o e=>AC _ e
 refine ⟨(s.heap.push { cls:= .type "range",data:= .fields #[.int lo t,.int hi u,.int 1 v] }).objs.size,[(s.heap.push { cls:= .type "range",data:= .fields #[.int lo t,.int hi u,.int 1 v] }).objs.size],_,_,H,rfl,
  I1.kept (t':=tk) fun b o e=>AC _ e,qW _ lo (hi - lo).toNat,?_,fun b hb=> ?_,q⟩
 ·have e1:lo+((0:Nat):Int) * 1=lo:=by simp
  have e2:(((hi - lo).toNat:Nat):Int) - ((0:Nat):Int)=Builtin.Range.rangeSize lo hi 1:=by rw [rangeSize_one];split<;>omega
  show IsRangeIter _ _ (lo+((0:Nat):Int) * 1) ((((hi - lo).toNat:Nat):Int) - ((0:Nat):Int)) 1
  rw [e1,e2];exact AJ _ rfl
 ·have e:b=(s.heap.push { cls:= .type "range",data:= .fields #[.int lo t,.int hi u,.int 1 v] }).objs.size:=by simpa using hb
  subst e;exact I1.fpOk (AO _) (I1.hok.fresh (AO _))
def iRng1(ta:TA):TI:=fun σ H R=>ta σ H fun vs H1=>∃ j:Int,vs=[.int j] ∧ -(2 ^ 62)≤j∧j < 2 ^ 62∧R (Itr 0 j.toNat) H1
def iRng2(ta:TA):TI:=fun σ H R=>ta σ H fun vs H1=>∃ i j:Int,vs=[.int i,.int j]∧(-(2 ^ 62)≤i∧i < 2 ^ 62 ∧ -(2 ^ 62)≤j∧j < 2 ^ 62)∧R (Itr i (j - i).toNat) H1
theorem mY{a:Expr}{ta:TA}{p pos:Pos}(hg:Gl X "range")(hm:X.mg "range" = none)(ha:PA X [a] ta)(hs:starEach [a] X.env=[(false,eval a X.env)]:=by rfl):PI X tg (.Call (.Name "range" p) [a] [] pos) (iRng1 ta):=by
 intro pins s σ H R I h;refine Call_ (iu I hg hm boot_range (PyProof.Rows.callWith_type1 (thn (ha pos pins s σ H _ I h) fun us s1 ⟨vs,H1,I1,r1,q1⟩=> ?_) hs rfl));obtain ⟨j,e,q1,q2,q⟩:=q1;subst e
 cases r1 with
 | cons r rr =>
  cases rr;obtain ⟨t,rfl⟩:=r;exact call_range_1 (p8 I1 (by omega) (by omega) q1 q2 (by simpa using q))
theorem uv{a b:Expr}{ta:TA}{p pos:Pos}(hg:Gl X "range")(hm:X.mg "range" = none)(ha:PA X [a,b] ta)(hs:starEach [a,b] X.env=[(false,eval a X.env),(false,eval b X.env)]:=by rfl)(hs2:starEach [b] X.env=[(false,eval b X.env)]:=by rfl) :
 PI X tg (.Call (.Name "range" p) [a,b] [] pos) (iRng2 ta):=by
 intro pins s σ H R I h;refine Call_ (iu I hg hm boot_range (PyProof.Rows.callWith_type1 (thn (ha pos pins s σ H _ I h) fun us s1 ⟨vs,H1,I1,r1,q1⟩=> ?_) (by rw [hs,hs2]) (by rw [hs2];rfl)));obtain ⟨i,j,e,⟨q1,q2,q3,q4⟩,q⟩:=q1;subst e
 cases r1 with
 | cons r rr =>
  cases rr with
  | cons r' rr =>
   cases rr;obtain ⟨t,rfl⟩:=r;obtain ⟨t',rfl⟩:=r';exact call_range_2 (p8 I1 q1 q2 q3 q4 q)
def tFor(wi:TI)(g:TG)(tb:TS):TS:=fun D σ H=>wi σ H fun J H1=>∃ W:Nat→Nat→St→Hp→Prop,(∃ m,W 0 m σ H1)∧∀ i m σ H,W i m σ H →
 (J.stop i H∧D.nx σ H)∨(J.go i H∧∃ N:St→Hp→Prop,(∀ σ' H',N σ' H'→∃ m',m' < m∧W (i+1) m' σ' H')∧∀ x H',J.yld i H x H'→g x σ H' fun σ2 H2=>tb { D with nx:=N,ct:=N,bk:=D.nx } σ2 H2)
def jn(fp:List Addr)(h:Heap):List (Addr×Obj):=fp.filterMap fun b=>(h.get? b).map fun o=>(b,o)
theorem dy{fp:List Addr}{h:Heap}{b:Addr}{o:Obj}(hb:b∈fp)(e:h.get? b=some o):(b,o)∈jn fp h:=CQ.mpr ⟨b,hb,by rw [e];rfl⟩
theorem uB{fp:List Addr}{h:Heap}{p:Addr×Obj}(hp:p∈jn fp h):p.1∈fp∧h.get? p.1=some p.2:=by
 obtain ⟨b,hb,e⟩:=CQ.mp hp
 cases q:h.get? b with
 | none=>rw [q] at e;cases e
 | some o =>
  rw [q] at e;have e':(b,o)=p:=Option.some.inj e;subst e';exact ⟨hb,q⟩
theorem Inv.pinned{pins:List (Addr×Obj)}{σ:St}{H:Hp}{s:Shared}{fp:List Addr}(I:Inv X pins σ H s)(hf:∀ b∈fp,pi X pins H b)(ho:∀ b∈fp,∃ o,s.heap.get? b=some o∧∀ v,o.data ≠ .cell v):Inv X (pins++jn fp s.heap) σ H s :=
 I.pins_of fun p hp=>(A8.mp hp).elim (fun z=>I.pin p (AH _ z)) fun z=>by
  obtain ⟨hb,e⟩:=uB z;obtain ⟨f0,f1,f2,_⟩:=hf p.1 hb;obtain ⟨o,e',d⟩:=ho p.1 hb;rw [e] at e';cases e';exact ⟨e,f0,f1,f2,d⟩
theorem Inv.unpinned{pins pl:List (Addr×Obj)}{σ:St}{H:Hp}{s:Shared}(I:Inv X (pins++pl) σ H s):Inv X pins σ H s:=I.pins_of fun p hp=>I.pin p (AH _ (AK _ hp))
theorem wf{iter:Expr}{body:List Stmt}{wi:TI}{g:TG}{tb:TS}{pos:Pos}(hp:PassesOwn (model X.prog X.w) X.A X.env X.xe)(hc:X.calm=true)(hi:PI X tg iter wi)(hg:PG X tg g)(hb:PSs X body tb)
 (hs:∀ x,foldedSetIterable iter X.env x=pure x:=by intro _;rfl):PS X (.For tg iter body [] pos) (tFor wi g tb):=by
 intro pins s σ H D I h;refine wpAny_For (thn (hi pins s σ H _ I h) fun v s1 h1=>thn h1 fun itv s2 h2=> ?_) hs;obtain ⟨it,fp,tn,J,H2,e,I2,T,st2,f2,W,⟨m0,w0⟩,turn⟩:=h2;subst e
 have stat:∀ {H':Hp},(∀ b∈fp,H' b=none)→∀ b∈fp,pi X pins H' b:=fun hn b hb=>⟨hn b hb,(f2 b hb).2⟩
 refine codeAny_forLoop_any (fun n s'=>∃ i σ' H',Inv X pins σ' H' s'∧tn i s'.heap∧(∀ b∈fp,H' b=none)∧W i n σ' H') ?_ m0 ⟨0,σ,H2,I2,st2,fun b hb=>(f2 b hb).1,w0⟩;rintro n s3 ⟨i,σ3,H3,I3,st3,fr3,w3⟩
 rcases turn i n σ3 H3 w3 with ⟨stop,qn⟩ | ⟨go,N,hN,step⟩
 ·refine CL hp (thn (T.done X rfl rfl rfl hc i pins s3 σ3 H3 X.xe I3 (stat fr3) st3 stop) fun r s4 ⟨hr,I4⟩=> ?_)
  subst hr;exact wpAny_execs_nil ⟨σ3,H3,I4,qn⟩
 ·refine CL hp (thn (T.item X rfl rfl rfl hc i pins s3 σ3 H3 X.xe I3 (stat fr3) st3 go) fun r s4 ⟨u,hr,h4⟩=> ?_)
  subst hr;refine CL hp (thn h4 fun _ s5 ⟨x,H5,I5,r5,y5,st5,fr5⟩=> ?_);have I5':=I5.pinned (stat fr5) (T.obj _ _ st5);refine CL hp (thn (hg _ s5 σ3 H5 x u _ I5' r5 (step x H5 y5)) fun _ s6 ⟨σ6,H6,I6,q6⟩=> ?_);refine CL hp (thn (hb _ s6 σ6 H6 _ I6 q6) fun f s7 q7=> ?_)
  have again:∀ {σ7:St} {H7:Hp},Inv X (pins++jn fp s5.heap) σ7 H7 s7→N σ7 H7→∃ m,m < n∧∃ i σ' H',Inv X pins σ' H' s7∧tn i s7.heap∧(∀ b∈fp,H' b=none)∧W i m σ' H':=fun {σ7 H7} I7 n7=>by
   obtain ⟨m',hm,w7⟩:=hN σ7 H7 n7;refine ⟨m',hm,i+1,σ7,H7,I7.unpinned,T.keep _ _ _ st5 fun b hb o e=>(I7.pin (b,o) (AH _ (AH _ (dy hb e)))).1,fun b hb=> ?_,w7⟩;obtain ⟨o,e,d⟩:=T.obj _ _ st5 b hb;exact (I7.pin (b,o) (AH _ (AH _ (dy hb e)))).2.1
  cases f with
  | next=>obtain ⟨σ7,H7,I7,n7⟩:=q7;exact again I7 n7
  | cont=>obtain ⟨σ7,H7,I7,n7⟩:=q7;exact again I7 n7
  | brk=>obtain ⟨σ7,H7,I7,q7⟩:=q7;exact ⟨σ7,H7,I7.unpinned,q7⟩
  | ret v=>obtain ⟨x7,σ7,H7,I7,r7,q7⟩:=q7;exact ⟨x7,σ7,H7,I7.unpinned,r7,q7⟩
end
theorem for_list{K:PySem.W.Frag}{a:Addr}{xs:List V}{g:TG}{tb:TS}{D:lV}{σ:St}{H:Hp}(Pv:Nat→St→Hp→Prop)(h0:Pv 0 σ H)(hl:∀ i σ H,i≤xs.length→Pv i σ H→SqL K H a xs)
 (hs:∀ i x σ H,xs[i]?=some x→Pv i σ H→g x σ H fun σ2 H2=>tb { D with nx:=Pv (i+1),ct:=Pv (i+1),bk:=D.nx } σ2 H2) (hd:∀ σ H,Pv xs.length σ H→D.nx σ H) :
 ∃ W:Nat→Nat→St→Hp→Prop,(∃ m,W 0 m σ H)∧∀ i m σ H,W i m σ H →
  ((Itl K a).stop i H∧D.nx σ H)∨((Itl K a).go i H∧∃ N:St→Hp→Prop,(∀ σ' H',N σ' H'→∃ m',m' < m∧W (i+1) m' σ' H')∧∀ x H',(Itl K a).yld i H x H'→g x σ H' fun σ2 H2=>tb { D with nx:=N,ct:=N,bk:=D.nx } σ2 H2):=by
 refine ⟨fun i m σ H=>m=xs.length - i∧i≤xs.length∧Pv i σ H,⟨xs.length,by simp,Cd _,h0⟩,?_⟩;rintro i m σ H ⟨rfl,hi,p⟩;have q:=hl i σ H hi p
 by_cases hlt:i < xs.length
 ·refine .inr ⟨⟨xs,xs[i],q,by simp [hlt]⟩,Pv (i+1),fun σ' H' p'=>⟨xs.length - (i+1),by omega,rfl,hlt,p'⟩,fun x H' y=> ?_⟩
  obtain ⟨e,y⟩:=y;subst e;exact hs i x σ _ (y xs q) p
 ·have e:i=xs.length:=by omega
  subst e;exact .inl ⟨⟨xs,q,AO _⟩,hd σ H p⟩
theorem zr{K:PySem.W.Frag}{a:Addr}{xs:List V}{g:TG}{tb:TS}{D:lV}{σ:St}{H:Hp}(Pv:Nat→St→Hp→Prop)(h0:Pv 0 σ H)(hl:∀ i σ H,i≤xs.length→Pv i σ H→SqT K H a xs)
 (hs:∀ i x σ H,xs[i]?=some x→Pv i σ H→g x σ H fun σ2 H2=>tb { D with nx:=Pv (i+1),ct:=Pv (i+1),bk:=D.nx } σ2 H2) (hd:∀ σ H,Pv xs.length σ H→D.nx σ H) :
 ∃ W:Nat→Nat→St→Hp→Prop,(∃ m,W 0 m σ H)∧∀ i m σ H,W i m σ H →
  ((Itt K a).stop i H∧D.nx σ H)∨((Itt K a).go i H∧∃ N:St→Hp→Prop,(∀ σ' H',N σ' H'→∃ m',m' < m∧W (i+1) m' σ' H')∧∀ x H',(Itt K a).yld i H x H'→g x σ H' fun σ2 H2=>tb { D with nx:=N,ct:=N,bk:=D.nx } σ2 H2):=by
 refine ⟨fun i m σ H=>m=xs.length - i∧i≤xs.length∧Pv i σ H,⟨xs.length,by simp,Cd _,h0⟩,?_⟩;rintro i m σ H ⟨rfl,hi,p⟩;have q:=hl i σ H hi p
 by_cases hlt:i < xs.length
 ·refine .inr ⟨⟨xs,xs[i],q,by simp [hlt]⟩,Pv (i+1),fun σ' H' p'=>⟨xs.length - (i+1),by omega,rfl,hlt,p'⟩,fun x H' y=> ?_⟩
  obtain ⟨e,y⟩:=y;subst e;exact hs i x σ _ (y xs q) p
 ·have e:i=xs.length:=by omega
  subst e;exact .inl ⟨⟨xs,q,AO _⟩,hd σ H p⟩
end L2
namespace L2
open PySem PySem.Spec PyProof.Rows
abbrev R2:=V→V→Hp→VK→Prop
def OpR(X:Cx)(f:Value→Value→Sem Value)(r:R2):Prop :=
 ∀ (pins:List (Addr×Obj)) (s:Shared) (σ:St) (H:Hp) (x y:V) (v u:Value) (Q:VK),Inv X pins σ H s→aR x v→aR y u→r x y H Q →
  wpAny (model X.prog X.w) X.A (f v u) (EP X pins σ Q) X.xe s
def aI(X:Cx)(f:Value)(r:List V→Hp→VK→Prop):Prop :=
 ∀ (pins:List (Addr×Obj)) (s:Shared) (σ:St) (H:Hp) (xs:List V) (us:List Value) (Q:VK),Inv X pins σ H s→aG xs us→r xs H Q →
  wpAny (model X.prog X.w) X.A (call f us) (EP X pins σ Q) X.xe s
def TruR(X:Cx)(r:V→Hp→(Bool→Hp→Prop)→Prop):Prop :=
 ∀ (pins:List (Addr×Obj)) (s:Shared) (σ:St) (H:Hp) (x:V) (v:Value) (Q:Bool→Hp→Prop),Inv X pins σ H s→aR x v→r x H Q →
  wpAny (model X.prog X.w) X.A (truthy v) (TP X pins σ Q) X.xe s
def tOp(r:R2)(ta tb:TE):TE:=fun σ H Q=>ta σ H fun x H1=>tb σ H1 fun y H2=>r x y H2 Q
def rI(C:Int→Int→Prop)(g:Int→Int→V):R2:=fun x y H Q=>∃ i j,x = .int i∧y = .int j∧C i j∧Q (g i j) H
def rI0(g:Int→Int→V):R2:=fun x y H Q=>∃ i j,x = .int i∧y = .int j∧Q (g i j) H
section
variable{X:Cx}{a b c:Expr}{ta tb tc:TE}{pos:Pos}
theorem binT(ha:PE X a ta)(hb:PE X b tb){pins:List (Addr×Obj)}{s:Shared}{σ:St}{H:Hp}{R:V→V→Hp→Prop}(I:Inv X pins σ H s)
 (h:ta σ H fun x H1=>tb σ H1 fun y H2=>R x y H2) {Q:Value→Shared→Prop} {f:Value→Value→Sem Value}
 (hf:∀ v u s2 x y H2,Inv X pins σ H2 s2→aR x v→aR y u→R x y H2→wpAny (model X.prog X.w) X.A (f v u) Q X.xe s2) :
 wpAny (model X.prog X.w) X.A (eval a X.env) (fun v s₁=>wpAny (model X.prog X.w) X.A (eval b X.env) (fun u s₂=>wpAny (model X.prog X.w) X.A (f v u) Q X.xe s₂) X.xe s₁) X.xe s:=by
 refine thn (ha pins s σ H _ I h) fun v s1 ⟨x,H1,I1,r1,q1⟩=> ?_
 refine thn (hb pins s1 σ H1 _ I1 q1) fun u s2 ⟨y,H2,I2,r2,q2⟩=> ?_
 exact hf v u s2 x y H2 I2 r1 r2 q2
theorem pe_op{op:Operator}{r:R2}(ho:OpR X (binaryOp op) r)(ha:PE X a ta)(hb:PE X b tb):PE X (.BinOp a op b pos) (tOp r ta tb):=by
 intro pins s σ H Q I h;exact wpAny_BinOp (binT ha hb I h fun v u s2 x y H2 I2 rx ry q=>ho pins s2 σ H2 x y v u Q I2 rx ry q)
theorem opI{f:Value→Value→Sem Value}{C:Int→Int→Prop}{g:Int→Int→Int}
 (rule:∀ (i j:Int) (t u:Tok) (s:Shared) (Q:Value→Shared→Prop) (E:Value→Shared→Prop),C i j→Q (.int (g i j) s.toks) { s with toks:=s.toks+1 }→wpAny (model X.prog X.w) X.A (f (.int i t) (.int j u)) Q E s) :
 OpR X f (rI C fun i j=> .int (g i j)):=by
 intro pins s σ H x y v u Q I rx ry h;obtain ⟨i,j,rfl,rfl,hc,q⟩:=h;obtain ⟨t,rfl⟩:=rx;obtain ⟨t',rfl⟩:=ry;exact rule i j t t' s _ _ hc ⟨.int (g i j),H,I.tok _,⟨_,rfl⟩,q⟩
theorem opI0{f:Value→Value→Sem Value}{g:Int→Int→Int}
 (rule:∀ (i j:Int) (t u:Tok) (s:Shared) (Q:Value→Shared→Prop) (E:Value→Shared→Prop),Q (.int (g i j) s.toks) { s with toks:=s.toks+1 }→wpAny (model X.prog X.w) X.A (f (.int i t) (.int j u)) Q E s) :
 OpR X f (rI0 fun i j=> .int (g i j)):=by
 intro pins s σ H x y v u Q I rx ry h;obtain ⟨i,j,rfl,rfl,q⟩:=h;obtain ⟨t,rfl⟩:=rx;obtain ⟨t',rfl⟩:=ry;exact rule i j t t' s _ _ ⟨.int (g i j),H,I.tok _,⟨_,rfl⟩,q⟩
theorem yZ{f:Value→Value→Sem Value}{g:Int→Int→Bool}
 (rule:∀ (i j:Int) (t u:Tok) (s:Shared) (Q:Value→Shared→Prop) (E:Value→Shared→Prop),Q (.bool (g i j)) s→wpAny (model X.prog X.w) X.A (f (.int i t) (.int j u)) Q E s) :
 OpR X f (rI0 fun i j=> .bl (g i j)):=by
 intro pins s σ H x y v u Q I rx ry h;obtain ⟨i,j,rfl,rfl,q⟩:=h;obtain ⟨t,rfl⟩:=rx;obtain ⟨t',rfl⟩:=ry;exact rule i j t t' s _ _ ⟨.bl (g i j),H,I,rfl,q⟩
def CDiv(i j:Int):Prop:=0 < j∧j < 1073741824
def CPow(i j:Int):Prop:=0≤j∧j≤1000000∧i.natAbs < 2 ^ 64
def xN(i j:Int):Prop:=(-(2 ^ 64) < i∧i < 2 ^ 64)∨(-(2 ^ 64) < j∧j < 2 ^ 64)
theorem xN.ok{i j:Int}(h:xN i j):IntMulOk i j:=by
 rcases h with ⟨h1,h2⟩ | ⟨h1,h2⟩
 ·exact .of_left (intBits_le_64 h1 h2)
 ·exact .of_right (intBits_le_64 h1 h2)
theorem op_add:OpR X (binaryOp .Add) (rI0 fun i j=> .int (i+j)):=opI0 fun _ _ _ _ _ _ _ q=>add_int q
theorem op_sub:OpR X (binaryOp .Sub) (rI0 fun i j=> .int (i - j)):=opI0 fun _ _ _ _ _ _ _ q=>sub_int q
theorem op_mul:OpR X (binaryOp .Mult) (rI xN fun i j=> .int (i * j)):=opI fun _ _ _ _ _ _ _ hc q=>mul_int q hc.ok
theorem yV:OpR X (binaryOp .FloorDiv) (rI CDiv fun i j=> .int (i / j)):=opI fun i j _ _ _ _ _ hc q=>by
 have h1:(0:Int) < j:=hc.1;have h2:j < 1073741824:=hc.2;exact floordiv_int (by omega) (by rw [Int.fdiv_eq_ediv_of_nonneg i (by omega)];exact q) (.inl (PyProof.noPylong_small (by omega)))
theorem op_mod:OpR X (binaryOp .Mod) (rI (fun _ j=>0 < j) fun i j=> .int (i % j)):=opI fun i j _ _ _ _ _ hc q=>by
 have h1:(0:Int) < j:=hc;exact mod_int' (by omega) (by rw [Int.fmod_eq_emod_of_nonneg i (by omega)];exact q)
theorem op_pow:OpR X (binaryOp .Pow) (rI CPow fun i j=> .int (i ^ j.toNat)):=opI fun _ _ _ _ _ _ _ hc q=>pow_int_small hc.1 hc.2.1 hc.2.2 q
end
section
variable{X:Cx}{a b c:Expr}{ta tb tc:TE}{pos:Pos}
theorem fin_bl{pins:List (Addr×Obj)}{σ:St}{H:Hp}{s:Shared}{Q:VK}{k k':Bool}(I:Inv X pins σ H s)(q:Q (.bl k) H)(e:k=k'):EP X pins σ Q (.bool k') s:=by
 subst e;exact ⟨.bl k,H,I,rfl,q⟩
theorem op_lt:OpR X (compareOp .Lt) (rI0 fun i j=> .bl (decide (i < j))):=yZ fun _ _ _ _ _ _ _ q=>lt_int q
theorem wF:OpR X (compareOp .LtE) (rI0 fun i j=> .bl (decide (i≤j))):=yZ fun _ _ _ _ _ _ _ q=>le_int q
theorem Al:OpR X (compareOp .Gt) (rI0 fun i j=> .bl (decide (j < i))):=yZ fun _ _ _ _ _ _ _ q=>gt_int q
theorem Am:OpR X (compareOp .GtE) (rI0 fun i j=> .bl (decide (j≤i))):=yZ fun _ _ _ _ _ _ _ q=>ge_int q
theorem op_isN:OpR X (compareOp .Is) (fun x y H Q=>y = .non∧Q (.bl (decide (x = .non))) H):=by
 intro pins s σ H x y v u Q I rx ry h;obtain ⟨rfl,q⟩:=h;cases ry;refine is_none_gen (fin_bl I q ?_)
 cases x<;>first
  | (cases rx;rfl)
  | (obtain ⟨t,rfl⟩:=rx;rfl)
theorem OpR.or{f:Value→Value→Sem Value}{r r':R2}(h:OpR X f r)(h':OpR X f r'):OpR X f (fun x y H Q=>r x y H Q∨r' x y H Q):=by
 intro pins s σ H x y v u Q I rx ry q
 rcases q with q | q
 ·exact h pins s σ H x y v u Q I rx ry q
 ·exact h' pins s σ H x y v u Q I rx ry q
theorem fB(b:Expr){op:CmpOp}(h:op ≠ .In:=by decide)(h2:op ≠ .NotIn:=by decide):behindInMarks op b=false:=by
 have e1:(op == CmpOp.In)=false:=by cases op<;>first | rfl | exact absurd rfl h
 have e2:(op == CmpOp.NotIn)=false:=by cases op<;>first | rfl | exact absurd rfl h2
 cases b<;>simp [behindInMarks,e1,e2]
theorem yN{op:CmpOp}{r:R2}(ho:OpR X (compareOp op) r)(ha:PE X a ta)(hb:PE X b tb)(hm:behindInMarks op b=false):PE X (.Compare a [op] [b] pos) (tOp r ta tb):=by
 intro pins s σ H Q I h;exact wpAny_Compare1 (binT ha hb I h fun v u s2 x y H2 I2 rx ry q=>ho pins s2 σ H2 x y v u Q I2 rx ry q) hm
def tTest(t:TE):TT:=fun σ H Q=>t σ H fun x H'=>∃ k,x = .bl k∧Q k H'
theorem yE{op:CmpOp}{r:R2}(ho:OpR X (compareOp op) r)(ha:PE X a ta)(hb:PE X b tb)(hm:behindInMarks op b=false):PT X (.Compare a [op] [b] pos) (tTest (tOp r ta tb)):=by
 intro pins s σ H Q I h
 refine wpAny_isTrue_Compare1 (thn (ha pins s σ H _ I h) fun v s1 ⟨x,H1,I1,r1,q1⟩=>thn (hb pins s1 σ H1 _ I1 q1) fun u s2 ⟨y,H2,I2,r2,q2⟩ =>
  thn (ho pins s2 σ H2 x y v u _ I2 r1 r2 q2) fun c s3 ⟨z,H3,I3,r3,k,e,q3⟩=> ?_) hm
 subst e;cases r3;exact BT ⟨H3,I3,q3⟩
def vI(r r':R2)(ta tb tc:TE):TE:=fun σ H Q=>ta σ H fun x H1=>tb σ H1 fun y H2=>r x y H2 fun z H3=>∃ k,z = .bl k ∧
 (if k=true then tc σ H3 fun w' H4=>r' y w' H4 Q else Q (.bl false) H3)
theorem wu{op op':CmpOp}{r r':R2}(ho:OpR X (compareOp op) r)(ho':OpR X (compareOp op') r')(ha:PE X a ta)(hb:PE X b tb)(hc:PE X c tc)
 (hm:lastMarks [op,op'] [b,c]=false:=by with_unfolding_all rfl):PE X (.Compare a [op,op'] [b,c] pos) (vI r r' ta tb tc):=by
 intro pins s σ H Q I h
 refine Compare_chain (thn (ha pins s σ H _ I h) fun v s1 ⟨x,H1,I1,r1,q1⟩=>chain_link (thn (hb pins s1 σ H1 _ I1 q1) fun u s2 ⟨y,H2,I2,r2,q2⟩ =>
  thn (ho pins s2 σ H2 x y v u _ I2 r1 r2 q2) fun d s3 ⟨z,H3,I3,r3,k,e,q3⟩=> ?_)) hm
 subst e;cases r3;refine BT ?_
 cases k with
 | false=>exact ite_ff ⟨.bl false,H3,I3,rfl,q3⟩
 | true=>exact ite_tt (chain_last (thn (hc pins s3 σ H3 _ I3 q3) fun w' s4 ⟨z',H4,I4,r4,q4⟩=>ho' pins s4 σ H4 y z' u w' Q I4 r2 r4 q4))
def zN(K:PySem.W.Frag)(x:V)(H:Hp)(k:Bool):Prop :=
 match x with
 | .non=>k=false
 | .bl b=>k=b
 | .int i=>k=(i != 0)
 | .str y=>y.length≤sizeLine∧k=((y.length:Int) != 0)
 | .byt y=>y.size≤sizeLine∧k=((y.size:Int) != 0)
 | .ref p=>(∃ xs,SqL K H p xs∧k = !xs.isEmpty)∨(∃ xs,SqT K H p xs∧k = !xs.isEmpty)∨∃ kvs,H p=some (.dK kvs)∧k = !kvs.isEmpty
 | _=>False
theorem rW{κ:Type}{kvs:List (κ×V)}{vs:List (κ×Value)}(r:KV kvs vs):(!vs.isEmpty) = !kvs.isEmpty:=by
 cases r<;>rfl
theorem lx{xs:List V}{its:List Value}(r:aG xs its):(!its.toArray.isEmpty) = !xs.isEmpty:=by
 cases r<;>simp
theorem jt:(sizeLine:Nat) < 2 ^ 63:=by rw [sizeLine_eq];decide
theorem tru_ok:TruR X (fun x H Q=>∃ k,zN X.K x H k∧Q k H):=by
 intro pins s σ H x v Q I rx h;obtain ⟨k,e,q⟩:=h;have hl:=jt;have hs:sizeLine=16777216:=sizeLine_eq
 cases x with
 | non =>
  cases rx;have e':k=false:=e;subst e';exact truthy_none ⟨H,I,q⟩
 | bl b =>
  cases rx;have e':k=b:=e;subst e';exact BT ⟨H,I,q⟩
 | int i =>
  obtain ⟨t,rfl⟩:=rx;have e':k=(i != 0):=e;subst e';exact PySem.P.truthy_int ⟨H,I,q⟩
 | str y =>
  obtain ⟨t,rfl⟩:=rx;obtain ⟨hy,e'⟩:y.length≤sizeLine∧k=((y.length:Int) != 0):=e;subst e';exact PySem.P.truthy_str (by omega) ⟨H,I.tok _,q⟩
 | byt y =>
  obtain ⟨t,rfl⟩:=rx;obtain ⟨hy,e'⟩:y.size≤sizeLine∧k=((y.size:Int) != 0):=e;subst e';exact PySem.W.truthy_bytes (by omega) ⟨H,I.tok _,q⟩
 | ref p =>
  cases rx;have e':(∃ xs,SqL X.K H p xs∧k = !xs.isEmpty)∨(∃ xs,SqT X.K H p xs∧k = !xs.isEmpty)∨∃ kvs,H p=some (.dK kvs)∧k = !kvs.isEmpty:=e
  rcases e' with ⟨xs,hx,e'⟩ | ⟨xs,hx,e'⟩ | ⟨kvs,hx,e'⟩
  ·subst e'
   obtain ⟨its,r,pl,hz⟩:=I.list hx;have hlen:=r.length;exact wpAny_truthy_list pl.isList (by simp only [AF];omega) ⟨H,I.tok _,by rw [lx r];exact q⟩
  ·subst e'
   obtain ⟨its,r,pl,hz⟩:=I.tuple hx;have hlen:=r.length;exact truthy_tuple pl (by simp only [AF];omega) ⟨H,I.tok _,by rw [lx r];exact q⟩
  ·subst e'
   obtain ⟨hz,hS,vs,r,m⟩:kvs.length≤sizeLine∧(p == sysModules)=false∧∃ vs,KV kvs vs∧s.heap.DictOf (bi X.prog X.w) p vs:=I.hok p _ hx;have hlen:kvs.length=vs.length:=Paired.length r;exact wpAny_truthy_dict hS m (by omega) ⟨H,I.tok _,by rw [rW r];exact q⟩
 | _=>exact (show False from e).elim
theorem we(ha:PE X a ta)(he:∀ whole,isTrue a X.env whole=(do let v ← whole;standAt a.pos;holding [v] (truthy v))) :
 PT X a (fun σ H Q=>ta σ H fun x H'=>∃ k,zN X.K x H' k∧Q k H'):=by
 intro pins s σ H Q I h;exact isTrue_plain (thn (ha pins s σ H _ I h) fun v s1 ⟨x,H1,I1,r1,q1⟩=>tru_ok pins s1 σ H1 x v Q I1 r1 q1) (he _)
theorem b4{x:V}{us:List Value}(r:aG [x] us):∃ u,us=[u]∧aR x u:=by
 cases r with
 | cons r1 r2=>cases r2;exact ⟨_,rfl,r1⟩
theorem pp{x y:V}{us:List Value}(r:aG [x,y] us):∃ u w',us=[u,w']∧aR x u∧aR y w':=by
 cases r with
 | cons r1 r2 =>
  cases r2 with
  | cons r3 r4=>cases r4;exact ⟨_,_,rfl,r1,r3⟩
theorem vc(hc:X.calm=true):aI X (.builtin "max") (fun xs H Q=>∃ i j,xs=[.int i,.int j]∧Q (.int (if j > i then j else i)) H):=by
 intro pins s σ H xs us Q I r h;obtain ⟨i,j,rfl,q⟩:=h;obtain ⟨u,w',rfl,⟨t,rfl⟩,⟨t',rfl⟩⟩:=pp r
 refine max_two_ints (I.ok.hd hc) fun h' tk k=>⟨_,H,I.kept k,?_,q⟩
 by_cases hj:j > i
 ·rw [if_pos hj,if_pos hj];exact ⟨_,rfl⟩
 ·rw [if_neg hj,if_neg hj];exact ⟨_,rfl⟩
theorem u5(hc:X.calm=true):aI X (.builtin "min") (fun xs H Q=>∃ i j,xs=[.int i,.int j]∧Q (.int (if j < i then j else i)) H):=by
 intro pins s σ H xs us Q I r h;obtain ⟨i,j,rfl,q⟩:=h;obtain ⟨u,w',rfl,⟨t,rfl⟩,⟨t',rfl⟩⟩:=pp r
 refine min_two_ints (I.ok.hd hc) fun h' tk k=>⟨_,H,I.kept k,?_,q⟩
 by_cases hj:j < i
 ·rw [if_pos hj,if_pos hj];exact ⟨_,rfl⟩
 ·rw [if_neg hj,if_neg hj];exact ⟨_,rfl⟩
theorem vj:aI X (.type "int") (fun xs H Q=>(∃ i,xs=[.int i]∧Q (.int i) H)∨∃ k,xs=[.bl k]∧Q (.int (if k then 1 else 0)) H):=by
 intro pins s σ H xs us Q I r h
 rcases h with ⟨i,rfl,q⟩ | ⟨k,rfl,q⟩
 ·obtain ⟨u,rfl,t,rfl⟩:=b4 r
  exact call_int_int ⟨.int i,H,I,⟨_,rfl⟩,q⟩
 ·obtain ⟨u,rfl,r1⟩:=b4 r
  cases r1;exact call_int_bool ⟨.int (if k then 1 else 0),H,I.tok _,⟨_,rfl⟩,q⟩
end
end L2
namespace L2
open PySem PySem.Spec PyProof.Rows
section
variable{prog:Program}{w:World}{A:Around}{E:Value→Shared→Prop}{s:Shared}{K:PySem.W.Frag}{x dx C f:Addr}{mA:Str→Option Value}{name:Str}{v:Value}
end
theorem pf.some_of{v:V}{o:Option Value}(r:pf (some v) o):∃ u,o=some u∧aR v u:=by
 cases o with
 | none=>exact (show False from r).elim
 | some u=>exact ⟨u,rfl,r⟩
section
variable{P:Program}{w:World}{H H':Hp}{h h':Heap}{a C dx:Addr}{fs fs':List (Str×V)}
end
structure Cls(K:PySem.W.Frag)(C:Addr):Prop where
 pg:PySem.W.plainGet K C Str.empty=true
 hd:PySem.W.hasDictIn K C=true
 po:PySem.W.plainOver K C=true
 sa:PySem.W.findIn K (.ref C) "__setattr__" = some (some (.builtin "object.__setattr__"))
section
variable{X:Cx}{pins:List (Addr×Obj)}{σ:St}{H:Hp}{s:Shared}{a C dx:Addr}{fs:List (Str×V)}{f:Str}{v:V}{A:Around}{E:Value→Shared→Prop}
end
section
variable{X:Cx}{o e value:Expr}{f:Str}{pos pos' tpos:Pos}{ta tv:TE}
end
section
variable{X:Cx}{pins:List (Addr×Obj)}{σ:St}{H:Hp}{s:Shared}{A:Around}{E:Value→Shared→Prop}{Q:Value→Shared→Prop}{c:Value}{b:Bool}
inductive lT(K:PySem.W.Frag)(H:Hp):V→Value→Prop where
 | non:lT K H .non (.type "NoneType")
 | bl (x:Bool):lT K H (.bl x) (.type "bool")
 | int (i:Int):lT K H (.int i) (.type "int")
 | str (x:Str):lT K H (.str x) (.type "str")
 | flt (x:UInt64):lT K H (.flt x) (.type "float")
 | lst {a:Addr} {xs:List V} (e:H a=some (.lst xs)):lT K H (.ref a) (.type "list")
 | frz {a:Addr} {o:Obj} {xs:List V} (e:H a=some (.frz o (.lst xs))):lT K H (.ref a) (.type "list")
 | tup {a:Addr} {xs:List V} (e:H a=some (.tup xs)):lT K H (.ref a) (.type "tuple")
 | dK {a:Addr} {kvs:List (Key×V)} (e:H a=some (.dK kvs)):lT K H (.ref a) (.type "dict")
 | dT {a:Addr} {kvs:List (List Key×V)} (e:H a=some (.dT kvs)):lT K H (.ref a) (.type "dict")
 | ins {a C dx:Addr} {fs:List (Str×V)} (e:H a=some (.ins C dx fs)) (cl:Cls K C) (ha:PySem.W.findIn K (.ref C) "__class__" = some (some (.builtin "object.__class__")))
  (hn:PySem.W.specialIn K (.builtin "object.__class__") "__get__" = some (some (.builtin "getset_descriptor.__get__"))) (htk:PySem.W.takesIn K (.builtin "object.__class__")=some true)
  (hm:PySem.W.mroIn K C (.type "object")=some true):lT K H (.ref a) (.ref C)
end
end L2
namespace L2
open PySem PySem.Spec PyProof.Rows
structure dW(k:Nat)(A:Around):Prop where
 hd:A.handled=none
 dp:A.depth+3 * k+5 < recursionLimit
 un:A.units+16 * k+200 < cLine
 gd:A.guards=some []:=by rfl
theorem dW.mono{j k:Nat}{A:Around}(r:dW k A)(h:j≤k):dW j A:=⟨r.hd,by have:=r.dp;omega,by have:=r.un;omega,r.gd⟩
theorem dW.deeper{k:Nat}{A:Around}(r:dW (k+1) A)(env:Env):dW k (A.deeper env) :=
 ⟨r.hd,by have:=r.dp;show A.depth+1+3 * k+5 < _;omega,by have:=r.un;show A.units+3+16 * k+200 < _;omega,r.gd⟩
theorem dW.depth{k:Nat}{A:Around}(r:dW k A):A.depth < recursionLimit:=by have:=r.dp;omega
theorem dW.units{k:Nat}{A:Around}(r:dW k A):A.units+64 < cLine:=by have:=r.un;omega
def tNil:TA:=fun _ H Q=>Q [] H
def zU(ta:TE)(tr:TA):TA:=fun σ H Q=>ta σ H fun x H1=>tr σ H1 fun xs H2=>Q (x::xs) H2
section
variable{X:Cx}{e:Expr}{es:List Expr}{te:TE}{t:TA}{pos:Pos}
theorem gw:PA X [] tNil:=fun _ _ _ _ H Q I h=>Calls.spliced_nil ⟨[],H,I,.nil,h⟩
theorem ff(ha:PE X e te)(hr:PA X es t)(hs:starEach (e::es) X.env=(false,eval e X.env)::starEach es X.env:=by rfl):PA X (e::es) (zU te t):=by
 intro pos pins s σ H Q I h;rw [hs]
 show wpAny _ _ (spliced ((false,eval e X.env)::backTo pos (starEach es X.env))) _ _ s
 refine Calls.spliced_cons (thn (ha pins s σ H _ I h) fun u s1 ⟨x,H1,I1,r1,q1⟩=> ?_)
 exact thn (hr pos pins s1 σ H1 _ I1 q1) fun us s2 ⟨xs,H2,I2,r2,q2⟩=>⟨x::xs,H2,I2,.cons r1 r2,q2⟩
def tTup(t:TA):TE:=fun σ H Q=>t σ H fun xs H1=>xs.length≤sizeLine∧∀ p,H1 p=none→Q (.ref p) (upd H1 p (.tup xs))
def tLst(t:TA):TE:=fun σ H Q=>t σ H fun xs H1=>xs.length≤sizeLine∧∀ p,H1 p=none→Q (.ref p) (upd H1 p (.lst xs))
theorem pe_tup{x1}(h:PA X es t):PE X (.Tuple es x1 pos) (tTup t):=by
 intro pins s σ H Q I hq;refine wpAny_Tuple_spliced (thn (h pos pins s σ H _ I hq) fun us s1 ⟨xs,H1,I1,r,z,q⟩=>⟨by rw [← r.length];exact z,?_⟩);have hf:H1 s1.heap.objs.size=none:=I1.hok.fresh (AO _);refine ⟨.ref s1.heap.objs.size,upd H1 s1.heap.objs.size (.tup xs),I1.laid (t':=s1.toks) (fun b u e=>AC _ e) (AO _) ?_,rfl,q _ hf⟩;exact ⟨z,us,r,⟨_,AJ _ rfl,rfl,_,rfl⟩⟩
theorem wq(h:PA X es t):PE X (.List es pos) (tLst t):=by
 intro pins s σ H Q I hq;refine wpAny_List_spliced (thn (h pos pins s σ H _ I hq) fun us s1 ⟨xs,H1,I1,r,z,q⟩=>⟨by rw [← r.length];exact z,?_⟩);have hf:H1 s1.heap.objs.size=none:=I1.hok.fresh (AO _);refine ⟨.ref s1.heap.objs.size,upd H1 s1.heap.objs.size (.lst xs),I1.laid (t':=s1.toks) (fun b u e=>AC _ e) (AO _) ?_,rfl,q _ hf⟩;exact ⟨z,us,0,r,AJ _ rfl⟩
end
abbrev Sp:=List V→Hp→VK→XK→Prop
abbrev CXT:=List Env→Hp→Shared→XK→Value→Shared→Prop
structure zO(P:Program)(w:World)(K:PySem.W.Frag)(mg:Str→Option Value)(base:Heap)(A:Around)(outer:List Env)(s:Shared)(H:Hp):Prop where
 frames:A.frames=some outer
 mod:Mod K mg base
 bs:∀ b o,base.get? b=some o→s.heap.get? b=some o∧H b=none
 bsz:base.objs.size≤s.heap.objs.size
 funs:s.heap.FunFrames base outer
 frf:∀ b∈frs outer,H b=none
 hok:HOk P w H s.heap
 bare:AllBare s.gens
def CE(outer:List Env)(P:Program)(w:World)(H:Hp)(s:Shared)(Q:VK)(u:Value)(s':Shared):Prop :=
 ∃ v H',s'.os=s.os∧AllBare s'.gens∧Un (frs outer) [] H H' s.heap s'.heap∧HOk P w H' s'.heap∧aR v u∧Q v H'
def CR(CX:CXT)(outer:List Env)(P:Program)(w:World)(H:Hp)(s:Shared)(Q:VK)(E:XK)(r:Result)(s':Shared):Prop :=
 match r with
 | .ok (.ret u)=>CE outer P w H s Q u s'
 | .ok _=>False
 | .error e=>CX outer H s E e s'
structure kc(P:Program)(w:World)(K:PySem.W.Frag)(mg:Str→Option Value)(base:Heap)(CX:CXT)(k:Nat)(f:Addr)(fd:FuncData)(ps:List Str)(sp:Sp):Prop where
 len:∀ vs H Q E,sp vs H Q E→vs.length=ps.length
 run:∀ (A:Around) (outer:List Env) (s:Shared) (H:Hp) (args:Args) (us:List Value) (vs:List V) (Q:VK) (E:XK),dW k A→zO P w K mg base A outer s H→BindsTo s fd args (ps.zip us)→aG vs us→sp vs H Q E →
  codeAny (model P w) A (.call (.ref f) args) (CR CX outer P w H s Q E) s
section
variable{X:Cx}{pins:List (Addr×Obj)}{σ:St}{H:Hp}{s s':Shared}
theorem Inv.env0(I:Inv X pins σ H s):zO X.prog X.w X.K X.mg X.base X.A X.stack s H :=
 ⟨I.ok.frames,I.ok.mod,I.bs,BL I.ok.bsz I.sz,I.stack,I.stkFree,I.hok,I.bare⟩
theorem Inv.after{Q:VK}{u:Value}(I:Inv X pins σ H s)(h:CE X.stack X.prog X.w H s Q u s'):EP X pins σ Q u s':=by
 obtain ⟨v,H',os,bare,un,hok,r,q⟩:=h;obtain ⟨hh,g,d,t,os'⟩:=s';obtain rfl:os'=s.os:=os;exact ⟨v,H',I.call (h':=hh) (g':=g) (d':=d) (t':=t) (ch:=[]) un hok bare (fun b z=>absurd z (by simp)),r,q⟩
end
def vJ(sp:Sp)(dvs:List V)(E:XK)(t:TA):TE:=fun σ H Q=>t σ H fun vs H1=>sp (vs++dvs) H1 Q E
def jX(K:PySem.W.Frag)(fd:FuncData)(ps:List Str)(ds:List Value):Prop :=
 ∀ (s:Shared) (us:List Value),K.In s.heap→(us++ds).length=ps.length→BindsTo s fd ⟨us,[]⟩ (ps.zip (us++ds))
theorem jX.all{K:PySem.W.Frag}{fd:FuncData}{ps:List Str}(h:∀ us:List Value,us.length=ps.length→bindArgs fd ⟨us,[]⟩=pure (ps.zip us)):jX K fd ps []:=fun s us _ hl=>by
 rw [Bk] at hl ⊢;exact .of_eq (h us hl)
def sQ(CX:CXT)(X:Cx)(E:XK):Prop:=∀ (pins:List (Addr×Obj)) (σ:St) (H:Hp) (s:Shared) (e:Value) (s':Shared),Inv X pins σ H s→CX X.stack H s E e s'→X.xe e s'
section
variable{X:Cx}{CX:CXT}{k:Nat}{f C:Addr}{fd:FuncData}{ps:List Str}{sp:Sp}{dvs:List V}{ds:List Value}{E:XK}{x m:Str}{p pos apos:Pos}{e o:Expr}{es:List Expr}{ta:TE}{t:TA}
theorem run_fn{pins:List (Addr×Obj)}{σ:St}{H:Hp}{s:Shared}{Q:VK}{us:List Value}{vs:List V}(F:kc X.prog X.w X.K X.mg X.base CX k f fd ps sp)(hr:dW k X.A)(hb:jX X.K fd ps ds)(hd:aG dvs ds)(hx:sQ CX X E)
 (I:Inv X pins σ H s) (r:aG vs us) (h:sp (vs++dvs) H Q E):wpAny (model X.prog X.w) X.A (call (.ref f) us) (EP X pins σ Q) X.xe s:=by
 have r2:aG (vs++dvs) (us++ds):=r.append hd
 have hl:(us++ds).length=ps.length:=by rw [← r2.length];exact F.len _ _ _ _ h
 refine wpAny_call (codeAny_mono (F.run X.A X.stack s H ⟨us,[]⟩ (us++ds) (vs++dvs) Q E hr I.env0 (hb s us I.kIn hl) r2 h) fun r s' hq=> ?_)
 cases r with
 | error e=>exact hx pins σ H s e s' I hq
 | ok fl =>
  cases fl with
  | ret u=>exact I.after hq
  | next=>exact False.elim hq
  | brk=>exact False.elim hq
  | cont=>exact False.elim hq
theorem tE(F:kc X.prog X.w X.K X.mg X.base CX k f fd ps sp)(hr:dW k X.A)(hg:Gl X x)(hm:X.mg x=some (.ref f))(hk:PySem.W.keepIn X.K (.ref f)=true)(hb:jX X.K fd ps ds)(hd:aG dvs ds)(hx:sQ CX X E)
 (ha:PA X (e::es) t) (hdb:(x == ("__debug__" : Str))=false:=by decide) (he:starEach (e::es) X.env=(false,eval e X.env)::starEach es X.env:=by rfl) (hpl:(backTo pos (starEach es X.env)).any (·.1)=false:=by rfl) :
 PE X (.Call (.Name x p) (e::es) [] pos) (vJ sp dvs E t):=by
 intro pins s σ H Q I h;refine wpAny_Call_Name_kw (oR I hg hm ?_ hdb);refine PySem.W.callWith_K (h₀:=X.base) I.ok.mod.kin hk (thn (ha pos pins s σ H _ I h) fun us s1 ⟨vs,H1,I1,r,q⟩=>⟨I1.kIn,?_⟩) he hpl;exact run_fn F hr hb hd hx I1 r q
end
section
variable{X:Cx}{CX:CXT}{k:Nat}{f C:Addr}{fd:FuncData}{ps ks:List Str}{sp:Sp}{E:XK}{x m:Str}{p pos apos kpos:Pos}{e o:Expr}{es:List Expr}{kws:List Keyword}{te ta:TE}{t tk:TA}{nm:Option Str}
variable{g:List Value→List Value→List Value}{gV:List V→List V→List V}
end
structure aq(N P:List Str)(sc:Scope):Prop where
 kind:sc.kind = .function
 co:sc.isCoroutine=false
 gen:sc.isGenerator=false
 nd:N.Nodup
 pre:N.take P.length=P
 par:∀ x∈P,sc.names.lookup x=some .local∨sc.names.lookup x=some .cell
 nofree:∀ y∈sc.names,y.2 ≠ .free
theorem nI{kindOf:Str→Option NameKind}{x:Str}:∀ {binds:List (Str×Value)} {m:Str→Option Value},(∀ v,(x,v)∉binds)→bindL kindOf binds m x=m x
 | [],_,_=>rfl
 | (n,v)::r,m,h=>by
  unfold bindL;rw [nI fun w hw=>h w (AN _ hw)]
  split
  ·have:x≠n:=by rintro rfl;exact h v AT
   simp [this]
  ·rfl
theorem nK{kindOf:Str→Option NameKind}{x:Str}:∀ {binds:List (Str×Value)} {m:Str→Option Value},(∀ v,(x,v)∉binds)→bindC kindOf binds m x=m x
 | [],_,_=>rfl
 | (n,v)::r,m,h=>by
  unfold bindC;rw [nK fun w hw=>h w (AN _ hw)]
  split
  ·rfl
  ·have:x≠n:=by rintro rfl;exact h v AT
   simp [this]
theorem nJ{kindOf:Str→Option NameKind}{x:Str}{v:Value}:∀ {P:List Str} {vs:List Value} {i:Nat} {m:Str→Option Value},P.Nodup→P[i]?=some x→vs[i]?=some v→kindOf x=some .local →
 bindL kindOf (P.zip vs) m x=some v
 | [],_,_,_,_,h,_,_=>by simp at h
 | _::_,[],_,_,_,_,h,_=>by simp at h
 | p::P,w::vs,0,m,nd,h1,h2,hk=>by
  simp at h1 h2;subst h1;subst h2
  show bindL kindOf ((p,w)::P.zip vs) m p=_
  unfold bindL;rw [nI fun v hv=>(BE.mp nd).1 (List.of_mem_zip hv).1,if_pos hk];simp
 | p::P,w::vs,i+1,m,nd,h1,h2,hk=>by
  show bindL kindOf ((p,w)::P.zip vs) m x=_
  unfold bindL;exact nJ (i:=i) (BE.mp nd).2 (by simpa using h1) (by simpa using h2) hk
theorem nL{kindOf:Str→Option NameKind}{x:Str}{v:Value}:∀ {P:List Str} {vs:List Value} {i:Nat} {m:Str→Option Value},P.Nodup→P[i]?=some x→vs[i]?=some v→kindOf x≠some .local →
 bindC kindOf (P.zip vs) m x=some v
 | [],_,_,_,_,h,_,_=>by simp at h
 | _::_,[],_,_,_,_,h,_=>by simp at h
 | p::P,w::vs,0,m,nd,h1,h2,hk=>by
  simp at h1 h2;subst h1;subst h2
  show bindC kindOf ((p,w)::P.zip vs) m p=_
  unfold bindC;rw [nK fun v hv=>(BE.mp nd).1 (List.of_mem_zip hv).1,if_neg hk];simp
 | p::P,w::vs,i+1,m,nd,h1,h2,hk=>by
  show bindC kindOf ((p,w)::P.zip vs) m x=_
  unfold bindC;exact nL (i:=i) (BE.mp nd).2 (by simpa using h1) (by simpa using h2) hk
def cK(N:List Str)(vs:List V):St:=vs.map some++List.replicate (N.length - vs.length) none
def bO(CX:CXT)(P:Program)(w:World)(K:PySem.W.Frag)(mg:Str→Option Value)(base:Heap)(N:List Str)(qual:Str)(scope:Scope)(f:Addr)(cd:Value)(A:Around)(outer:List Env)(s:Shared)(H:Hp)(E:XK):Cx where
 prog:=P
 w:=w
 K:=K
 mg:=mg
 base:=base
 A:=A.deeper (envOfC qual scope s.heap.objs.size f cd)
 N:=N
 s₀:=s
 H₀:=H
 env:=envOfC qual scope s.heap.objs.size f cd
 outer:=outer
 stack:=envOfC qual scope s.heap.objs.size f cd::outer
 ex:=[]
 calm:=true
 fn:=fun _=>true
 pn:=[]
 xe:=fun e s'=>wpAny (model P w) (A.deeper (envOfC qual scope s.heap.objs.size f cd)) (leaving (envOfC qual scope s.heap.objs.size f cd) e) (fun _ s''=>CX outer H s E e s'') (fun e' s''=>CX outer H s E e' s'') s'
theorem qK{sc:Scope}{n:Nat}{x:Str}(h:sc.names.lookup x=some .cell):∃ c,(cellsFrom n sc.names []).lookup x=some c:=by
 have q:=PySem.W.cellsFrom_some sc.names n [] (.inl h);exact Option.isSome_iff_exists.mp q
theorem uM{CX:CXT}{P:Program}{w:World}{K:PySem.W.Frag}{mg:Str→Option Value}{base:Heap}{N ps:List Str}{qual:Str}{scope:Scope}{f:Addr}{cd:Value}{A:Around}{outer:List Env}{s s1:Shared}{H:Hp}{E:XK}{us:List Value}{vs:List V}
 (S:aq N ps scope) (hd:A.handled=none) (e0:zO P w K mg base A outer s H) (hl:vs.length=ps.length) (r:aG vs us)
 (x:InCallC s s.heap.objs.size (bindL (envOfC qual scope s.heap.objs.size f cd).kindOf (ps.zip us) fun _=>none) (cellsFrom (s.heap.objs.size+1) scope.names []) (bindC (envOfC qual scope s.heap.objs.size f cd).kindOf (ps.zip us) fun _=>none) s1) :
 Inv (bO CX P w K mg base N qual scope f cd A outer s H E) [] (cK N vs) H s1:=by
 have hpl:ps.length≤N.length:=by have:=congrArg List.length S.pre;rw [Cb] at this;omega
 obtain ⟨h1,tk,rfl,hk⟩:=x.done
 have noA:∀ b:Addr,b∉(bO CX P w K mg base N qual scope f cd A outer s H E).ex:=fun b z=>absurd (show b∈([]:List Addr) from z) (by simp)
 refine ⟨⟨e0.mod,S.kind,rfl,rfl,AO _,fun y z c h1 h2=> ?_,fun y hy=> ?_,fun y c _ h=> ?_,fun _=>hd,Around.frames_deeper e0.frames,.inr ⟨rfl,rfl⟩,fun b z=>absurd z (noA b),e0.bs,e0.bsz,fun b _ _=>noA b,fun b z=>absurd z (noA b),e0.funs,e0.frf⟩,
  rfl,e0.bare,Un.kept hk,⟨_,x.toInCall.ns,fun i y v h1 h2 h3=> ?_⟩,fun y c h=>⟨_,x.cell y c h⟩,e0.hok.fresh (AO _),fun y c h=> ?_,fun p hp=>absurd (show p∈([]:List (Addr×Obj)) from hp) (by simp),e0.hok.kept hk,?_⟩
 ·exact name_of_addr x.apart (BG h1) (BG h2)
 ·have hy:scope.names.lookup y=some .cell∨scope.names.lookup y=some .free:=hy
  rcases hy with hy | hy
  ·exact qK hy
  ·exact absurd rfl (S.nofree _ (BG hy))
 ·exact B5 (x.above y c (BG h))
 ·have hi:i < vs.length:=by
   unfold cK at h2
   by_cases hi:i < vs.length
   ·exact hi
   ·rw [Bp (by simpa using hi)] at h2
    rw [B7] at h2
    split at h2<;>cases h2
  have ha:vs[i]?=some v:=by
   unfold cK at h2;rw [A5 (by simpa using hi),A2] at h2
   cases e:vs[i]? with
   | none=>rw [e] at h2;cases h2
   | some a=>rw [e] at h2;cases h2;rfl
  obtain ⟨u,hu,rv⟩:=r.get ha
  have hp:ps[i]?=some y:=by
   rw [← S.pre,List.getElem?_take_of_lt (by omega)];exact h1
  have ndP:ps.Nodup:=by rw [← S.pre];exact S.nd.sublist (List.take_sublist _ _)
  refine ⟨u,rv,?_⟩
  rcases S.par y (AR hp) with k | k
  ·exact .inl ⟨k,nJ ndP hp hu k⟩
  ·obtain ⟨c,e⟩:=qK (n:=s.heap.objs.size+1) k
   refine .inr ⟨.inl k,c,e,?_⟩;have q:=x.cell y c e;rw [nL ndP hp hu (by show scope.names.lookup y≠_;rw [k];decide)] at q;exact q
 ·exact e0.hok.fresh (B5 (x.above y c (BG h)))
 ·unfold cK
  show _=N.length
  rw [AV,AE,Bj];omega
theorem xl{CX:CXT}{P:Program}{w:World}{K:PySem.W.Frag}{mg:Str→Option Value}{base:Heap}{k:Nat}{f:Addr}{name qual:Str}{params:Arguments}{body:List Stmt}{scope:Scope}{dV kV doc pm cdv ct oc:Value}{an od:Option Addr}
 {osl:Array (Option Value)} {N ps:List Str} {sp:Sp} (lk:K.lookup f=some ⟨oc,od,.func (PySem.W.fnOf name qual params body scope dV kV doc pm an cdv ct),osl⟩) (hcd:PySem.W.codeIn K cdv qual=true) (S:aq N ps scope)
 (len:∀ vs H Q E,sp vs H Q E→vs.length=ps.length)
 (hbody:∀ (A:Around) (outer:List Env) (s:Shared) (H:Hp) (vs:List V) (Q:VK) (E:XK),dW k (A.deeper (envOfC qual scope s.heap.objs.size f cdv))→sp vs H Q E →
   ∃ t,PSs (bO CX P w K mg base N qual scope f cdv A outer s H E) body t∧t { nx:=fun _ H'=>Q .non H',rt:=Q } (cK N vs) H) :
 kc P w K mg base CX (k+1) f (PySem.W.fnOf name qual params body scope dV kV doc pm an cdv ct) ps sp:=by
 refine ⟨len,fun A outer s H args us vs Q E hr e0 hb r hsp=> ?_⟩;have hl:=len _ _ _ _ hsp
 have KX:K.In s.heap:=e0.mod.kin.keeps fun b o e=>(e0.bs b o e).1
 have lim:s.heap.NoLimit:=e0.mod.nolimit.keeps fun b o e=>(e0.bs b o e).1
 have hkind:∀ y∈ps.zip us,scope.names.lookup y.1=some .local∨(scope.names.lookup y.1=some .cell∧((cellsFrom (s.heap.objs.size+1) scope.names []).lookup y.1).isSome=true):=fun ⟨n,v⟩ hy=>by
  rcases S.par n (List.of_mem_zip hy).1 with q | q
  ·exact .inl q
  ·exact .inr ⟨q,PySem.W.cellsFrom_some _ _ _ (.inl q)⟩
 refine codeAny_call_function hr.depth (KX _ _ lk) rfl S.co S.gen rfl (PySem.W.codeRec_of KX hcd) (hb _ _ _ _ ?_)
 refine wpAny_newFunctionEnv_cells S.kind hkind fun env he s1 x=> ?_
 subst he;refine ⟨lim.keeps x.toInCall.keep,codeAny_func ?_⟩;obtain ⟨t,ht,hq⟩:=hbody A outer s H vs Q E (hr.deeper _) hsp;have I:Inv (bO CX P w K mg base N qual scope f cdv A outer s H E) [] (cK N vs) H s1:=uM S hr.hd e0 hl r x
 refine BQ (ht [] s1 (cK N vs) H _ I hq) (fun fl s' hs=> ?_) fun e s' hs=>hs
 have fin:∀ {σ':St} {H':Hp} {v:V} {u:Value},Inv (bO CX P w K mg base N qual scope f cdv A outer s H E) [] σ' H' s'→aR v u→Q v H'→CE outer P w H s Q u s' :=
  fun {σ' H' v u} J rv q=>⟨v,H',J.os,J.bare,J.base,J.hok,rv,q⟩
 cases fl with
 | ret u =>
  obtain ⟨v,σ',H',J,rv,q⟩:=hs;exact fin J rv q
 | next =>
  obtain ⟨σ',H',J,q⟩:=hs;exact fin (v:=V.non) (u:=Value.none) J rfl q
 | brk =>
  obtain ⟨_,_,_,q⟩:=hs;exact False.elim q
 | cont =>
  obtain ⟨_,_,_,q⟩:=hs;exact False.elim q
end L2
namespace L2
open PySem PySem.Spec PyProof.Rows
section
variable{X:Cx}{x:Str}{p pos:Pos}{e:Expr}{es:List Expr}{t:TA}{id T:String}{r:List V→Hp→VK→Prop}
def tCB(r:List V→Hp→VK→Prop)(t:TA):TE:=fun σ H Q=>t σ H fun vs H1=>r vs H1 Q
theorem qg(hc:aI X (.builtin id) r)(hg:Gl X x)(hm:X.mg x=none)(hv:bootBuiltins x=some (.builtin id))(ha:PA X (e::es) t)(hn:x ≠ "__name__" := by decide)(hdb:(x == ("__debug__" : Str))=false:=by decide)
 (he:starEach (e::es) X.env=(false,eval e X.env)::starEach es X.env:=by rfl) (hpl:(backTo pos (starEach es X.env)).any (·.1)=false:=by rfl):PE X (.Call (.Name x p) (e::es) [] pos) (tCB r t):=by
 intro pins s σ H Q I h;refine wpAny_Call_Name_kw (iu I hg hm hv ?_ hn hdb);exact PyProof.Rows.callWith_builtin1 (thn (ha pos pins s σ H _ I h) fun us s1 ⟨vs,H1,I1,r1,q1⟩=>hc pins s1 σ H1 vs us Q I1 r1 q1) he hpl
theorem ux(hc:aI X (.type T) r)(hg:Gl X x)(hm:X.mg x=none)(hv:bootBuiltins x=some (.type T))(ha:PA X (e::es) t)(hn:x ≠ "__name__" := by decide)(hdb:(x == ("__debug__" : Str))=false:=by decide)
 (he:starEach (e::es) X.env=(false,eval e X.env)::starEach es X.env:=by rfl) (hpl:(backTo pos (starEach es X.env)).any (·.1)=false:=by rfl):PE X (.Call (.Name x p) (e::es) [] pos) (tCB r t):=by
 intro pins s σ H Q I h;refine wpAny_Call_Name_kw (iu I hg hm hv ?_ hn hdb);exact PyProof.Rows.callWith_type1 (thn (ha pos pins s σ H _ I h) fun us s1 ⟨vs,H1,I1,r1,q1⟩=>hc pins s1 σ H1 vs us Q I1 r1 q1) he hpl
end
end L2
namespace L2
open PySem PySem.Spec PyProof.Rows
section
variable{κ:Type}[DecidableEq κ]
def eC(kvs:List (κ×V))(k:κ):Option V:=(kvs.find? fun kv=>decide (kv.1=k)).map (·.2)
def ig(kvs:List (κ×V))(k:κ)(v:V):List (κ×V) :=
 if (kvs.any fun kv=>decide (kv.1=k))=true then kvs.map (fun kv=>if kv.1=k then (kv.1,v) else kv) else kvs++[(k,v)]
theorem iG{p:κ×V}{r:List (κ×V)}{k:κ}(e:p.1=k):eC (p::r) k=some p.2:=by simp [eC,Cw,e]
theorem iH{p:κ×V}{r:List (κ×V)}{k:κ}(e:¬ p.1=k):eC (p::r) k=eC r k:=by simp [eC,Cw,e]
theorem pw(k:κ):∀ kvs:List (κ×V),(kvs.any fun kv=>decide (kv.1=k))=(eC kvs k).isSome
 | []=>rfl
 | p::r=>by
  rw [List.any_cons]
  by_cases e:p.1=k
  ·simp only [iG e,AS e,CH,Option.isSome_some]
  ·rw [iH e,Bc e,CA];exact pw k r
theorem jQ(kvs:List (κ×V))(k:κ)(v:V):(ig kvs k v).length≤kvs.length+1:=by
 unfold ig
 split
 ·rw [AE];omega
 ·rw [AV,AI,BP];omega
theorem pf.isSome_eq{o:Option V}{u:Option Value}(r:pf o u):o.isSome=u.isSome:=by
 cases o with
 | none=>cases u with
  | none=>rfl
  | some _=>exact (show False from r).elim
 | some _=>cases u with
  | none=>exact (show False from r).elim
  | some _=>rfl
theorem KV.val{kvs:List (κ×V)}{vs:List (κ×Value)}(r:KV kvs vs)(k:κ):pf (eC kvs k) (valueAt vs k):=by
 unfold KV at r
 induction r with
 | nil=>exact True.intro
 | @cons p q ps qs h t ih =>
  obtain ⟨h1,h2⟩:=h
  by_cases e:p.1=k
  ·have e':q.1=k:=h1.symm.trans e
   have b:valueAt (q::qs) k=some q.2:=by simp [valueAt,Cw,e']
   rw [iG e,b];exact h2
  ·have e':¬ q.1=k:=fun z=>e (h1.trans z)
   have b:valueAt (q::qs) k=valueAt qs k:=by simp [valueAt,Cw,e']
   rw [iH e,b];exact ih
theorem KV.any{kvs:List (κ×V)}{vs:List (κ×Value)}(r:KV kvs vs)(k:κ):(kvs.any fun kv=>decide (kv.1=k))=vs.any fun kv=>decide (kv.1=k):=by
 unfold KV at r
 induction r with
 | nil=>rfl
 | cons h t ih=>rw [List.any_cons,List.any_cons,ih,h.1]
theorem KV.repl{kvs:List (κ×V)}{vs:List (κ×Value)}(r:KV kvs vs)(k:κ){y:V}{u:Value}(ry:aR y u) :
 KV (kvs.map fun kv=>if kv.1=k then (kv.1,y) else kv) (vs.map fun kv=>if kv.1=k then (kv.1,u) else kv):=by
 unfold KV at r ⊢
 induction r with
 | nil=>exact .nil
 | @cons p q ps qs h t ih =>
  rw [AU,AU];refine .cons ?_ ih;obtain ⟨h1,h2⟩:=h
  by_cases e:p.1=k
  ·rw [if_pos e,if_pos (h1.symm.trans e)];exact ⟨h1,ry⟩
  ·rw [if_neg e,if_neg (fun z=>e (h1.trans z))];exact ⟨h1,h2⟩
theorem KV.put{kvs:List (κ×V)}{vs:List (κ×Value)}(r:KV kvs vs)(k:κ){y:V}{u:Value}(ry:aR y u):KV (ig kvs k y) (stored vs k u):=by
 unfold ig stored;rw [r.any k]
 by_cases e:(vs.any fun kv=>decide (kv.1=k))=true
 ·rw [if_pos e,if_pos e];exact r.repl k ry
 ·rw [if_neg e,if_neg e];exact Paired.snoc r ⟨rfl,ry⟩
theorem KV.length{kvs:List (κ×V)}{vs:List (κ×Value)}(r:KV kvs vs):kvs.length=vs.length:=Paired.length r
end
theorem nj{P:Program}{w:World}{k:Key}{u:Value}(r:aR (kV k) u):(bi P w).is k u=true:=by
 cases k with
 | inl i=>obtain ⟨t,e⟩:=(show ∃ t,u=Value.int i t from r);subst e;exact qr P w i t
 | inr x=>obtain ⟨t,e⟩:=(show ∃ t,u=Value.str x t from r);subst e;exact fg P w x t
theorem nk{P:Program}{w:World}:∀ {ks:List Key} {us:List Value},aG (ks.map kV) us→ItemsAre (bi P w) ks us
 | [],_,r=>by rw [BW] at r;cases r;exact .nil
 | k::ks,_,r=>by
  rw [AU] at r
  cases r with
  | cons h t=>exact .cons (nj h) (nk t)
abbrev KT(H:Hp):List (List Key×V)→List (List Key×Addr×Value)→Prop:=Paired fun p q=>p.1=q.1∧H q.2.1=some (.tup (p.1.map kV))∧aR p.2 q.2.2
theorem KT.val{H:Hp}{kvs:List (List Key×V)}{xs:List (List Key×Addr×Value)}(r:KT H kvs xs)(k:List Key):pf (eC kvs k) ((atKey xs k).map (·.2)):=by
 induction r with
 | nil=>exact True.intro
 | @cons p q ps qs h t ih =>
  obtain ⟨h1,_,h2⟩:=h
  by_cases e:p.1=k
  ·have e':q.1=k:=h1.symm.trans e
   have b:atKey (q::qs) k=some q.2:=by simp [atKey,Cw,e']
   rw [iG e,b];exact h2
  ·have e':¬ q.1=k:=fun z=>e (h1.trans z)
   have b:atKey (q::qs) k=atKey qs k:=by simp [atKey,Cw,e']
   rw [iH e,b];exact ih
theorem KT.repl{H:Hp}{kvs:List (List Key×V)}{xs:List (List Key×Addr×Value)}(r:KT H kvs xs)(k:List Key){y:V}{u:Value}(ry:aR y u) :
 KT H (kvs.map fun kv=>if kv.1=k then (kv.1,y) else kv) (xs.map (putAt k u)):=by
 induction r with
 | nil=>exact .nil
 | @cons p q ps qs h t ih =>
  rw [AU,AU];refine .cons ?_ ih;obtain ⟨h1,h2,h3⟩:=h;unfold putAt
  by_cases e:p.1=k
  ·rw [if_pos e,if_pos (h1.symm.trans e)];exact ⟨h1,h2,ry⟩
  ·rw [if_neg e,if_neg (fun z=>e (h1.trans z))];exact ⟨h1,h2,h3⟩
theorem KT.put{H:Hp}{kvs:List (List Key×V)}{xs:List (List Key×Addr×Value)}(r:KT H kvs xs)(k:List Key){b:Addr}{y:V}{u:Value}(hb:H b=some (.tup (k.map kV)))(ry:aR y u) :
 KT H (ig kvs k y) (storedH xs k b u):=by
 have e:(kvs.any fun kv=>decide (kv.1=k))=(atKey xs k).isSome:=by
  rw [pw,(r.val k).isSome_eq,Option.isSome_map]
 unfold ig storedH;rw [e]
 by_cases q:(atKey xs k).isSome=true
 ·rw [if_pos q,if_pos q];exact r.repl k ry
 ·rw [if_neg q,if_neg q];exact Paired.snoc r ⟨rfl,hb,ry⟩
theorem KT.keeps{H H':Hp}{kvs:List (List Key×V)}{xs:List (List Key×Addr×Value)}(r:KT H kvs xs)(ht:∀ b ys,H b=some (.tup ys)→H' b=some (.tup ys)):KT H' kvs xs :=
 Paired.mapP r fun _ _ z=>⟨z.1,ht _ _ z.2.1,z.2.2⟩
section
variable{P:Program}{w:World}{H:Hp}{h:Heap}{a:Addr}
theorem zZ{u:HO}(ok:HOk P w H h)(e:Rd H a u):bP P w H h a u:=e.ok ok
theorem xx{kvs:List (Key×V)}(ok:HOk P w H h)(e:Rd H a (.dK kvs)):kvs.length≤sizeLine∧(a == sysModules)=false∧∃ vs,KV kvs vs∧h.DictOf (bi P w) a vs :=
 show bP P w H h a (.dK kvs) from zZ ok e
theorem dk_of{kvs:List (Key×V)}(ok:HOk P w H h)(e:H a=some (.dK kvs)):kvs.length≤sizeLine∧(a == sysModules)=false∧∃ vs,KV kvs vs∧h.DictOf (bi P w) a vs:=xx ok (.inl e)
theorem rR{ks:List Key}(ok:HOk P w H h)(e:H a=some (.tup (ks.map kV))):(tupleKind (bi P w)).is h ks a:=by
 obtain ⟨_,its,r,o,h1,h2,n,h3⟩:=(show bP P w H h a (.tup (ks.map kV)) from ok a _ e);exact ⟨o,its.toArray,n,h1,h2,h3,by simpa using nk r⟩
theorem Ar{kvs:List (List Key×V)}(ok:HOk P w H h)(e:Rd H a (.dT kvs)):kvs.length≤sizeLine∧(a == sysModules)=false ∧
 ∃ xs,KT H kvs xs∧h.DictOfH (tupleKind (bi P w)) a xs:=by
 obtain ⟨z,y,xs,r,o,es,ep,h1,h2,h3,h4,h5⟩:=(show bP P w H h a (.dT kvs) from zZ ok e);refine ⟨z,y,xs,r,o,es,ep,h1,h2,h3,h4,fun x hx=> ?_,h5⟩
 have all:∀ {l:List (List Key×V)} {m:List (List Key×Addr×Value)},KT H l m→∀ x∈m,(tupleKind (bi P w)).is h x.1 x.2.1:=by
  intro l m q
  induction q with
  | nil=>intro x hx;exact nomatch hx
  | @cons p q ps qs hq t ih =>
   intro x hx
   rcases AQ.mp hx with e | hx
   ·subst e
    exact rR ok (by rw [← hq.1];exact hq.2.1)
   ·exact ih x hx
 exact all r x hx
theorem dt_of{kvs:List (List Key×V)}(ok:HOk P w H h)(e:H a=some (.dT kvs)):kvs.length≤sizeLine∧(a == sysModules)=false ∧
 ∃ xs,KT H kvs xs∧h.DictOfH (tupleKind (bi P w)) a xs:=Ar ok (.inl e)
end
def mH(H:Hp)(a:Addr)(y:V)(r:Option V):Prop :=
 (∃ kvs k,Rd H a (.dK kvs)∧y=kV k∧r=eC kvs k)∨∃ kvs k b,Rd H a (.dT kvs)∧y = .ref b∧H b=some (.tup (k.map kV))∧r=eC kvs k
def pj(H:Hp)(a:Addr)(y v:V)(H':Hp):Prop :=
 (∃ kvs k,H a=some (.dK kvs)∧y=kV k∧kvs.length < sizeLine∧H'=upd H a (.dK (ig kvs k v))) ∨
 ∃ kvs k b,H a=some (.dT kvs)∧y = .ref b∧H b=some (.tup (k.map kV))∧kvs.length < sizeLine∧H'=upd H a (.dT (ig kvs k v))
theorem mH.k{H:Hp}{a:Addr}{kvs:List (Key×V)}{k:Key}(e:H a=some (.dK kvs)):mH H a (kV k) (eC kvs k):= .inl ⟨kvs,k,.inl e,rfl,rfl⟩
theorem mH.t{H:Hp}{a b:Addr}{kvs:List (List Key×V)}{k:List Key}(e:H a=some (.dT kvs))(eb:H b=some (.tup (k.map kV))):mH H a (.ref b) (eC kvs k):= .inr ⟨kvs,k,b,.inl e,rfl,eb,rfl⟩
theorem pj.k{H:Hp}{a:Addr}{kvs:List (Key×V)}{k:Key}{v:V}(e:H a=some (.dK kvs))(hl:kvs.length < sizeLine):pj H a (kV k) v (upd H a (.dK (ig kvs k v))):= .inl ⟨kvs,k,e,rfl,hl,rfl⟩
theorem pj.t{H:Hp}{a b:Addr}{kvs:List (List Key×V)}{k:List Key}{v:V}(e:H a=some (.dT kvs))(eb:H b=some (.tup (k.map kV)))(hl:kvs.length < sizeLine) :
 pj H a (.ref b) v (upd H a (.dT (ig kvs k v))):= .inr ⟨kvs,k,b,e,rfl,eb,hl,rfl⟩
section
variable{X:Cx}{pins:List (Addr×Obj)}{σ:St}{H:Hp}{s:Shared}{a:Addr}{y v:V}{u r:Value}{o:Option V}{A:Around}{E:Value→Shared→Prop}
theorem Inv.big(I:Inv X pins σ H s):sysModules < s.heap.objs.size:=by
 have h:mainGlobals < s.heap.objs.size:=(I.mod.glob.keeps I.bk).lt;exact Nat.lt_trans (by decide) h
theorem d_in{Q:Value→Shared→Prop}(hu:A.units+1 < cLine)(I:Inv X pins σ H s)(g:mH H a y o)(ry:aR y u)(h:∀ s',Inv X pins σ H s'→Q (.bool o.isSome) s') :
 wpAny (model X.prog X.w) A (compareOp .In u (.ref a)) Q E s:=by
 rcases g with ⟨kvs,k,e,ey,l⟩ | ⟨kvs,k,b,e,ey,eb,l⟩
 ·subst ey
  obtain ⟨z,hd,vs,rel,dd⟩:=xx I.hok e;refine wpAny_in_of (nj ry) hd dd.mapOf ?_;rw [← (rel.val k).isSome_eq,← l];exact h _ (I.tok _)
 ·subst ey
  cases (show u=Value.ref b from ry);obtain ⟨z,hd,xs,rel,dd⟩:=Ar I.hok e;refine wpAny_in_heap (tupleKind_room_in1 hu) (rR I.hok eb) hd dd ?_;have q:=(rel.val k).isSome_eq;rw [Option.isSome_map] at q;rw [← q,← l];exact h _ (I.tok _)
theorem tU{h':Heap}{t':Nat}{ob:HO}(I:Inv X pins σ H s)(mu:Mut (H a))(hs:Heap.SameBut a s.heap h')(he:∃ q,h'.get? a=some q)(new:bP X.prog X.w (upd H a ob) h' a ob) :
 Inv X pins σ (upd H a ob) { s with heap:=h',toks:=t' } :=
 I.write (x:=a) (e:=a) mu (.inl rfl) (fun b q hb z=>(hs.2 b hb).trans z) he new
theorem dk_new{P:Program}{w:World}{H':Hp}{h':Heap}{kvs:List (Key×V)}{vs:List (Key×Value)}(z:kvs.length≤sizeLine)(hd:(a == sysModules)=false)(rel:KV kvs vs)(dd:h'.DictOf (bi P w) a vs) :
 bP P w H' h' a (.dK kvs):=⟨z,hd,vs,rel,dd⟩
theorem uT{H':Hp}{Q:Unit→Shared→Prop}(hu:A.units+1 < cLine)(I:Inv X pins σ H s)(g:pj H a y v H')(ry:aR y u)(rv:aR v r)(h:∀ s',Inv X pins σ H' s'→Q () s') :
 wpAny (model X.prog X.w) A (setItem (.ref a) u r) Q E s:=by
 rcases g with ⟨kvs,k,e,ey,l,eH⟩ | ⟨kvs,k,b,e,ey,eb,l,eH⟩
 ·subst ey eH
  obtain ⟨z,hd,vs,rel,dd⟩:=dk_of I.hok e
  have hz:vs.length≤sizeLine:=by rw [← rel.length];exact z
  have hl:(ig kvs k v).length≤sizeLine:=by have:=jQ kvs k v;omega
  refine wpAny_setItem_pairs (hsz:=hz) (nj ry) dd fun h' dd' hs=>h _ ?_
  have he:∃ q,h'.get? a=some q:=let ⟨q,_,_,hq,_⟩:=dd';⟨q,hq⟩;exact tU I (by rw [e];exact True.intro) hs he (dk_new hl hd (rel.put k rv) dd')
 ·subst ey eH
  cases (show u=Value.ref b from ry);obtain ⟨z,hd,xs,rel,dd⟩:=dt_of I.hok e
  have hz:xs.length≤sizeLine:=by rw [← Paired.length rel];exact z
  have hl:(ig kvs k v).length≤sizeLine:=by have:=jQ kvs k v;omega
  refine wpAny_setItem_heap (hsz:=hz) (tupleKind_room_in1 hu) (rR I.hok eb) dd fun h' dd' hs=>h _ ?_
  obtain ⟨q,es,ep,hq,h2,h3,h4,_,h5⟩:=dd';refine tU I (by rw [e];exact True.intro) hs ⟨q,hq⟩ ⟨hl,hd,_,(rel.put k eb rv).keeps fun c ys ec=> ?_,q,es,ep,hq,h2,h3,h4,h5⟩;rw [ar (ne_of ec e (fun z=>nomatch z))];exact ec
end
section
variable{X:Cx}{pins:List (Addr×Obj)}{σ:St}{H:Hp}{s:Shared}{a:Addr}{kvs:List (Key×V)}{k:Key}{u:Value}{A:Around}{E:Value→Shared→Prop}
theorem d_len{Q:Value→Shared→Prop}(I:Inv X pins σ H s)(e:Rd H a (.dK kvs))(h:∀ t s',Inv X pins σ H s'→Q (.int kvs.length t) s'):wpAny (model X.prog X.w) A (call (.builtin "len") [.ref a]) Q E s:=by
 obtain ⟨z,hd,vs,rel,dd⟩:=xx I.hok e;refine call_len_dict hd dd (by rw [← rel.length];rw [sizeLine_eq] at z;omega) ?_;rw [← rel.length];exact h _ _ (I.tok _)
end
def NoSl(i:Expr):Prop:=∀ ov iv,subscripted i false ov iv=operate [ov,iv] (getItem ov iv)
theorem xZ{prog:Program}{w:World}{A:Around}{E:Value→Shared→Prop}{s:Shared}{env:Env}{value slice:Expr}{pos:Pos}{T id:String}{Q:Value→Shared→Prop}
 (hl:typeLookup (.type T) "__getitem__" = pure (some (.builtin id))) (hs:NoSl slice)
 (h:wpAny (model prog w) A (eval value env) (fun o s₁=>wpAny (model prog w) A (eval slice env) (fun i s₂=>s₂.TypeIs o T∧wpAny (model prog w) A (getItem o i) Q E s₂) E s₁) E s) :
 wpAny (model prog w) A (eval (.Subscript value slice pos) env) Q E s:=by
 refine Subscript_ (BQ h (fun o s₁ h₁=>BQ h₁ (fun i s₂ h₂=> ?_) fun _ _ x=>x) fun _ _ x=>x);obtain ⟨hT,h₂⟩:=h₂;unfold subscriptTail;refine AB ?_;rw [getitemInPython_of_ne hT.not_modules];refine AB (wpAny_specialOf hT hl ?_)
 have fin:wpAny (model prog w) A (subscripted slice false o i) (fun r s₃=>wpAny (model prog w) A (letTemporaryGo value o r >>= fun _=>pure r) Q E s₃) E s₂:=by
  rw [hs o i];exact wpAny_operating (BQ h₂ (fun r s₃ h₃=>AB (wpAny_letTemporaryGo (AG h₃))) fun _ _ x=>x)
 first
  | exact AG (AB fin)
  | exact AB (AG (AB fin))
  | exact AB fin
def sDPut(td ty tv:TE):TS:=fun D σ H=>tv σ H fun v H1=>td σ H1 fun x H2=>ty σ H2 fun y H3=>∃ a H4,x = .ref a∧pj H3 a y v H4∧D.nx σ H4
section
variable{X:Cx}{o i e value:Expr}{pos pos' tpos:Pos}{td ty tv:TE}
theorem yG(hu:X.A.units+1 < cLine)(ho:PE X o td)(hi:PE X i ty)(hv:PE X value tv)(hs:swapsWith value (some (.Subscript o i pos')) pos.line X.env=pure false) :
 PS X (.Assign [.Subscript o i pos'] value pos) (sDPut td ty tv):=by
 intro pins s σ H D I h;refine wpAny_Assign_Subscript (thn (hv pins s σ H _ I h) fun r s1 ⟨v,H1,I1,rv,q1⟩=>thn (ho pins s1 σ H1 _ I1 q1) fun u s2 ⟨x,H2,I2,rx,q2⟩=>thn (hi pins s2 σ H2 _ I2 q2) fun iv s3 ⟨y,H3,I3,ry,a,H4,ex,g,q3⟩=> ?_) hs;subst ex;obtain rfl:u=Value.ref a:=rx
 exact uT hu I3 g ry rv fun s4 I4=>⟨σ,H4,I4,q3⟩
end
theorem xu{P:Program}{w:World}{H:Hp}(h:Heap)(hb:sysModules < h.objs.size):bP P w H (h.push { cls:= .type "dict",data:= .dict #[] }) h.objs.size (.dT []) :=
 ⟨Cd _,Cp.mpr (Ne.symm (AZ hb)),[],.nil,_,#[],0,AJ _ rfl,⟨rfl,rfl,rfl⟩,rfl,rfl,CD⟩
def tDNewT:TE:=fun _ H Q=>∀ p,H p=none→Q (.ref p) (upd H p (.dT []))
section
variable{X:Cx}{pos:Pos}
theorem wt:PE X (.Dict [] [] pos) tDNewT:=fun pins s σ H Q I h =>
 wpAny_Dict_empty ⟨.ref s.heap.objs.size,_,I.laid (a:=s.heap.objs.size) (o:= .dT []) (t':=s.toks) (fun _ _ q=>AC _ q) (AO _) (xu s.heap I.big),rfl,h _ (I.hok.fresh (AO _))⟩
end
section
variable{X:Cx}{pins:List (Addr×Obj)}{σ:St}{H:Hp}{s:Shared}{a:Addr}{y d:V}{u r:Value}{o:Option V}{A:Around}{E:Value→Shared→Prop}
end
section
variable{X:Cx}{o e f:Expr}{apos cpos:Pos}{td ty tx:TE}
end
section
variable{X:Cx}{pins:List (Addr×Obj)}{σ:St}{H:Hp}{s:Shared}{a:Addr}{kvs:List (Key×V)}{A:Around}{E:Value→Shared→Prop}
end
section
variable{X:Cx}{pins:List (Addr×Obj)}{σ:St}{H:Hp}{s:Shared}{a:Addr}{y:V}{u:Value}{A:Around}{E:Value→Shared→Prop}
end
end L2
namespace HT
open PySem PyProof.Rows
theorem xr(A:Around)(s:Shared)(a:Int)(t:Tok)(c:Int)(u:Tok):∃ e,SeqAt.EqAt A s (.int a t) (.int c u) e∧(e=true↔a=c) :=
 ⟨(a == c),SeqAt.EqAt.int_int a t c u,by simp⟩
section
open PySem.SeqAt
open PySem.AutoSeq1 (wpAny_loadPart')
open PySem.MeetsSeq PySem.MeetsSeq2 PySem.MeetsSeq3
end
section
variable{prog:Program}{w:World}{A:Around}{E:Value→Shared→Prop}{s:Shared}
theorem zy{t b:Addr}{vs ws:List Value}{Q:Value→Shared→Prop}(ht:IsTup s.heap t vs.toArray)(hb:IsTup s.heap b ws.toArray)(hv:vs≠[])
 (h1:ws=[]→Q (.ref t) s) (h2:ws≠[]→Q (.ref s.heap.objs.size) { s with heap:=s.heap.push { cls:= .type "tuple",data:= .seq (vs++ws).toArray } })
 (hsz:vs.length+ws.length≤sizeLine):wpAny (model prog w) A (binaryOp .Add (.ref t) (.ref b)) Q E s:=by
 obtain ⟨⟨cls,dd,data,sl⟩,ho,hc,n,hd⟩:=id ht;obtain ⟨⟨cls2,dd2,data2,sl2⟩,ho2,hc2,n2,hd2⟩:=id hb;simp only at hc hd hc2 hd2;subst hc hd hc2 hd2
 have e:vs.toArray++ws.toArray=(vs++ws).toArray:=by simp
 by_cases hw:ws=[]
 ·exact concat_meets ⟨_,ho,rfl⟩ ⟨_,ho2,rfl⟩ noFill_tuple_add seq_tuple_add PySem.F.slot_tuple_add PySem.F.entry_tuple_add (PySem.F.args_tuple_add_2 _ _)
   (tuple_addW1 t b vs.toArray ws.toArray n n2 dd dd2 sl sl2 (by simpa using hv) (by simp [hw])) ⟨ho,ho2,h1 hw⟩
 ·refine concat_meets ⟨_,ho,rfl⟩ ⟨_,ho2,rfl⟩ noFill_tuple_add seq_tuple_add PySem.F.slot_tuple_add PySem.F.entry_tuple_add (PySem.F.args_tuple_add_2 _ _)
   (tuple_addW2 t b vs.toArray ws.toArray n n2 dd dd2 sl sl2 (by simpa using hv) (by simpa using hw) (by rw [AF,AF];exact hsz)) ⟨ho,ho2,?_⟩
  rw [e];exact h2 hw
def sIx(n d:Nat):Option Int→Nat
 | none=>d
 | some v=>if v < 0 then (v+(n:Int)).toNat else min v.toNat n
theorem sIx_le(n d:Nat)(hd:d≤n)(o:Option Int):sIx n d o≤n:=by
 cases o with
 | none=>exact hd
 | some v =>
  show (if v < 0 then (v+(n:Int)).toNat else min v.toNat n)≤n
  by_cases hv:v < 0
  ·rw [if_pos hv];omega
  ·rw [if_neg hv];exact Nat.min_le_right _ _
theorem tW(v:Int)(n d:Nat):(if v < 0 then max (v+(n:Int)) 0 else min v (n:Int))=((sIx n d (some v):Nat):Int):=by
 show (if v < 0 then max (v+(n:Int)) 0 else min v (n:Int))=(((if v < 0 then (v+(n:Int)).toNat else min v.toNat n):Nat):Int)
 by_cases hv:v < 0
 ·simp only [if_pos hv];omega
 ·simp only [if_neg hv];omega
theorem sN(lo hi:Option Int)(n:Nat):Builtin.Slice.sliceAdjust lo hi 1 (n:Int)=(((sIx n 0 lo:Nat):Int),((sIx n n hi:Nat):Int)):=by
 have h1:¬ ((1:Int) < 0):=by omega
 unfold Builtin.Slice.sliceAdjust;simp only [h1,if_false];refine Prod.ext ?_ ?_
 ·cases lo with
  | none=>rfl
  | some v=>exact tW v n 0
 ·cases hi with
  | none=>rfl
  | some v=>exact tW v n n
theorem rH(i j:Nat):Builtin.Slice.slicePlaces (i:Int) (j:Int) 1=j - i:=by
 unfold Builtin.Slice.slicePlaces
 have h1:(1:Int) > 0:=by omega
 simp only [h1,if_true,Int.ediv_one]
 split<;>omega
theorem kD{v:Value}{o:Option Int}{Q:Option Int→Shared→Prop}(p:IsPart v o)(h:Q o s):wpAny (model prog w) A (Builtin.Slice.slicePartIndex v) Q E s:=by
 cases p with
 | none=>exact slicePart_none h
 | int i t=>exact slicePart_int h
theorem fE{sl:Addr}{vl vu:Value}{lo hi:Option Int}{n:Nat}{Q:Int×Int×Nat→Shared→Prop}(hs:s.heap.IsSliceOf sl vl vu .none)(pl:IsPart vl lo)(pu:IsPart vu hi)
 (h:Q (((sIx n 0 lo:Nat):Int),1,sIx n n hi - sIx n 0 lo) s):wpAny (model prog w) A (Builtin.Slice.sliceApplied (.ref sl) (pure (n:Int))) Q E s:=by
 obtain ⟨os,hos,hcs,hds⟩:=id hs;unfold Builtin.Slice.sliceApplied Builtin.Slice.sliceFields;refine AB (AB (BK hos hds (x:=vl) rfl (AB (BK hos hds (x:=vu) rfl (AB (BK hos hds (x:= .none) rfl (AG ?_)))))));refine AB (slicePart_none ?_)
 show wpAny _ _ (if ((1:Int) == 0)=true then _ else _) _ _ s
 rw [if_neg (by decide)];refine AB (kD pl (AB (kD pu (AB (AG ?_)))))
 show wpAny _ _ (match Builtin.Slice.sliceAdjust lo hi 1 (n:Int) with | (lo,hi)=>pure (lo,(1:Int),Builtin.Slice.slicePlaces lo hi 1)) _ _ s
 rw [sN lo hi n]
 show wpAny _ _ (pure (((sIx n 0 lo:Nat):Int),(1:Int),Builtin.Slice.slicePlaces ((sIx n 0 lo:Nat):Int) ((sIx n n hi:Nat):Int) 1)) _ _ s
 rw [rH];exact AG h
theorem wl(xs:Array Value)(i k:Nat):((List.range k).filterMap fun (m:Nat)=>xs[((i:Int)+(m:Int) * 1).toNat]?).toArray=((xs.toList.drop i).take k).toArray:=by
 have e:(fun (m:Nat)=>xs[((i:Int)+(m:Int) * 1).toNat]?)=fun m=>xs[i+m]?:=by
  funext m
  have:((i:Int)+(m:Int) * 1).toNat=i+m:=by omega
  rw [this]
 rw [e];have:=pick_run xs i k;rw [List.filterMap_map] at this
 have e2:((fun x=>xs[x]?) ∘ fun x=>i+x)=fun m=>xs[i+m]?:=rfl
 rw [e2] at this;rw [this]
theorem ja{t sl:Addr}{items:Array Value}{vl vu:Value}{lo hi:Option Int}{Q:Value→Shared→Prop}(ht:IsTup s.heap t items)(hs:s.heap.IsSliceOf sl vl vu .none)(pl:IsPart vl lo)(pu:IsPart vu hi)
 (hw:¬ (sIx items.size 0 lo=0∧sIx items.size items.size hi=items.size))
 (h:Q (.ref s.heap.objs.size) { s with heap:=s.heap.push { cls:= .type "tuple",data:= .seq ((items.toList.drop (sIx items.size 0 lo)).take (sIx items.size items.size hi - sIx items.size 0 lo)).toArray } })
 (hsz:items.size≤sizeLine):wpAny (model prog w) A (getItem (.ref t) (.ref sl)) Q E s:=by
 have htake:sizeOk (.seq ((items.toList.drop (sIx items.size 0 lo)).take (sIx items.size items.size hi - sIx items.size 0 lo)).toArray):=by
  show ((items.toList.drop (sIx items.size 0 lo)).take (sIx items.size items.size hi - sIx items.size 0 lo)).toArray.size≤sizeLine
  rw [AF,Cb,List.length_drop,Bz];omega
 have hj:sIx items.size items.size hi≤items.size:=sIx_le _ _ (AO _) hi;obtain ⟨os,hos,hcs,hds⟩:=id hs;have hTs:s.TypeIs (.ref sl) "slice" := ⟨os,hos,hcs⟩;unfold getItem
 try with_reducible refine BS ?_
 first | refine AB (AG ?_) | skip
 refine AB (wpAny_sequenceKey ht.typeIs (by decide) ?_)
 refine AB (Bh (name:=Str.ofString "__getitem__") ht.typeIs PyProof.Rows.slot_tuple_getitem
  (Br PyProof.Rows.slot_tuple_getitem ht.typeIs entry_tuple_getitem ?_ (args_tuple_getitem _ _)))
 show wpAny _ _ (Builtin.Tuple.tupleItemsOf (.ref t) >>= _) _ _ s
 refine AB (tupleItemsOf_ ht ?_);refine AB (wpAny_typeOf hTs ?_);rw [if_pos (by decide)];refine AB (fE hs pl pu ?_)
 have hno:¬ ((((sIx items.size 0 lo:Nat):Int) == 0&&(1:Int) == 1&&(sIx items.size items.size hi - sIx items.size 0 lo) == items.size)=true):=by
  intro q;rw [AY,AY] at q;have q1:((sIx items.size 0 lo:Nat):Int)=0:=eq_of_beq q.1.1;have q2:sIx items.size items.size hi - sIx items.size 0 lo=items.size:=eq_of_beq q.2;exact hw ⟨by omega,by omega⟩
 show wpAny _ _ (if (((sIx items.size 0 lo:Nat):Int) == 0&&(1:Int) == 1&&(sIx items.size items.size hi - sIx items.size 0 lo) == items.size)=true then _ else _) _ _ s
 rw [if_neg hno,wl]
 first
  | exact AB (m:=Builtin.Tuple.tupleExact _) (Bf (AG ⟨_,rfl,AG h⟩) htake)
  | exact AB (m:=Builtin.Tuple.tupleExact _) (Bf (AB (AG (AG ⟨_,rfl,AG h⟩))) htake)
  | exact AB (AB (m:=Builtin.Tuple.tupleExact _) (Bf (AG (AG ⟨_,rfl,AG h⟩)) htake))
  | exact AB (AB (m:=Builtin.Tuple.tupleExact _) (Bf (AG ⟨_,rfl,AG h⟩) htake))
end
end HT
namespace L2
open PySem PySem.Spec PyProof.Rows
abbrev TO:=St→Hp→(Option Int→Hp→Prop)→Prop
def PO(X:Cx)(e:Option Expr)(t:TO):Prop :=
 ∀ (pins:List (Addr×Obj)) (s:Shared) (σ:St) (H:Hp) (Q:Option Int→Hp→Prop),Inv X pins σ H s→t σ H Q →
  wpAny (model X.prog X.w) X.A (evalPart e X.env) (fun u s'=>∃ o H',Inv X pins σ H' s'∧IsPart u o∧Q o H') X.xe s
def xY:TO:=fun _ H Q=>Q none H
def tPart(t:TE):TO:=fun σ H Q=>t σ H fun x H1=>∃ i,x = .int i∧Q (some i) H1
theorem dA{ns:List Int}:∀ {us:List Value},aG (ns.map V.int) us→IntsAre us ns:=by
 induction ns with
 | nil=>intro us r;rw [BW] at r;cases r;exact .nil
 | cons n ns ih =>
  intro us r;rw [AU] at r
  cases r with
  | cons r1 r2 =>
   obtain ⟨t,e⟩:=r1;subst e;exact .cons n t (ih r2)
section
variable{X:Cx}{e:Expr}{te:TE}{lo hi:Option Expr}{tl th:TO}{pos p2:Pos}
theorem yI:PO X none xY:=by
 intro pins s σ H Q I h;rw [evalPart_none];exact AG ⟨none,H,I,.none,h⟩
theorem yH(h:PE X e te):PO X (some e) (tPart te):=by
 intro pins s σ H Q I hw;rw [evalPart_some]
 refine thn (h pins s σ H _ I hw) fun u s1 ⟨x,H1,I1,r1,q1⟩=> ?_
 obtain ⟨i,rfl,q⟩:=q1;obtain ⟨t,rfl⟩:=r1;exact ⟨some i,H1,I1,.int i t,q⟩
def SlR(X:Cx)(r:V→Option Int→Option Int→Hp→VK→Prop):Prop :=
 ∀ (pins:List (Addr×Obj)) (s:Shared) (σ:St) (H:Hp) (x:V) (v vl vu:Value) (lo hi:Option Int) (sl:Addr) (Q:VK),Inv X pins σ H s→aR x v→s.heap.IsSliceOf sl vl vu .none→IsPart vl lo→IsPart vu hi→r x lo hi H Q →
  ∃ T id,typeLookup (.type T) "__getitem__" = pure (some (.builtin id))∧s.TypeIs v T∧wpAny (model X.prog X.w) X.A (getItem v (.ref sl)) (EP X pins σ Q) X.xe s
theorem SlR.or{r r':V→Option Int→Option Int→Hp→VK→Prop}(h:SlR X r)(h':SlR X r'):SlR X (fun x lo hi H Q=>r x lo hi H Q∨r' x lo hi H Q):=by
 intro pins s σ H x v vl vu lo hi sl Q I rx hs pl pu q
 rcases q with q | q
 ·exact h pins s σ H x v vl vu lo hi sl Q I rx hs pl pu q
 ·exact h' pins s σ H x v vl vu lo hi sl Q I rx hs pl pu q
def tSl(r:V→Option Int→Option Int→Hp→VK→Prop)(te:TE)(tl th:TO):TE:=fun σ H Q=>te σ H fun x H1=>tl σ H1 fun l H2=>th σ H2 fun u H3=>r x l u H3 Q
theorem wp{r:V→Option Int→Option Int→Hp→VK→Prop}(hr:SlR X r)(he:PE X e te)(hl:PO X lo tl)(hu:PO X hi th):PE X (.Subscript e (.Slice lo hi none p2) pos) (tSl r te tl th):=by
 intro pins s σ H Q I h;refine Subscript_ (thn (he pins s σ H _ I h) fun v s1 ⟨x,H1,I1,r1,q1⟩=> ?_);refine wpAny_Slice (thn (hl pins s1 σ H1 _ I1 q1) fun vl s2 ⟨l,H2,I2,pl,q2⟩=>thn (hu pins s2 σ H2 _ I2 q2) fun vu s3 ⟨u,H3,I3,pu,q3⟩=> ?_);rw [evalPart_none];refine AG ?_
 have I4:Inv X pins σ H3 { s3 with heap:=s3.heap.push { cls:= .type "slice",data:= .fields #[vl,vu,.none] } }:=I3.kept (t':=s3.toks) fun b ob q=>AC _ q
 obtain ⟨T,id,hT,ht,hg⟩:=hr pins { s3 with heap:=s3.heap.push { cls:= .type "slice",data:= .fields #[vl,vu,.none] } } σ H3 x v vl vu l u s3.heap.objs.size Q I4 r1 (Heap.IsSliceOf.new ..) pl pu q3
 show wpAny (model X.prog X.w) X.A (subscriptTail e (.Slice lo hi none p2) v (.ref s3.heap.objs.size)) (EP X pins σ Q) X.xe { s3 with heap:=s3.heap.push { cls:= .type "slice",data:= .fields #[vl,vu,.none] } }
 exact tail_any (ops:=[.ref s3.heap.objs.size,v]) ht hT hg (by with_unfolding_all rfl)
def lK(xs:List V)(lo hi:Option Int):List V:=(xs.drop (HT.sIx xs.length 0 lo)).take (HT.sIx xs.length xs.length hi - HT.sIx xs.length 0 lo)
theorem jU(xs:List V)(lo hi:Option Int):(lK xs lo hi).length≤xs.length:=by
 unfold lK;rw [Cb,List.length_drop];omega
def rSlT(K:PySem.W.Frag):V→Option Int→Option Int→Hp→VK→Prop:=fun x lo hi H Q=>∃ a xs,x = .ref a∧SqT K H a xs ∧
 ¬ (HT.sIx xs.length 0 lo=0∧HT.sIx xs.length xs.length hi=xs.length)∧∀ p,H p=none→Q (.ref p) (upd H p (.tup (lK xs lo hi)))
theorem sl_tup:SlR X (rSlT X.K):=by
 intro pins s σ H x v vl vu lo hi sl Q I rx hs pl pu h;obtain ⟨a,xs,rfl,hx,hw,q⟩:=h;cases rx;obtain ⟨its,r,ht,hz⟩:=I.tuple hx
 have hlen:its.toArray.size=xs.length:=by rw [AF];exact r.length.symm
 refine ⟨"tuple",_,PyProof.Rows.slot_tuple_getitem.lookup,ht.typeIs,?_⟩;refine HT.ja ht hs pl pu (by rw [hlen];exact hw) ?_ (by rw [hlen];exact hz);rw [hlen];refine ⟨.ref s.heap.objs.size,_,I.laid (t':=s.toks) (o:= .tup (lK xs lo hi)) (fun b ob q=>AC _ q) (AO _) ?_,rfl,q _ (I.hok.fresh (AO _))⟩;exact ⟨BL (jU xs lo hi) hz,_,(r.drop (HT.sIx xs.length 0 lo)).take (HT.sIx xs.length xs.length hi - HT.sIx xs.length 0 lo),IsTup.new _ _⟩
def rCatT(K:PySem.W.Frag):R2:=fun x y H Q=>∃ a b xs ys,x = .ref a∧y = .ref b∧SqT K H a xs∧SqT K H b ys∧xs≠[]∧xs.length+ys.length≤sizeLine ∧
 (ys=[]→Q (.ref a) H)∧(ys≠[]→∀ p,H p=none→Q (.ref p) (upd H p (.tup (xs++ys))))
theorem aG.nil_iff{xs:List V}{us:List Value}(r:aG xs us):us=[]↔xs=[]:=by
 cases r with
 | nil=>simp
 | cons _ _=>simp
theorem yW:OpR X (binaryOp .Add) (rCatT X.K):=by
 intro pins s σ H x y v u Q I rx ry h;obtain ⟨a,b,xs,ys,rfl,rfl,ha,hb,hx,hz,q1,q2⟩:=h;cases rx;cases ry;obtain ⟨its,r1,p1,_⟩:=I.tuple ha;obtain ⟨its2,r2,p2,_⟩:=I.tuple hb;refine HT.zy p1 p2 (fun z=>hx (r1.nil_iff.mp z)) (fun z=>⟨.ref a,H,I,rfl,q1 (r2.nil_iff.mp z)⟩) (fun z=> ?_) (by rw [← r1.length,← r2.length];exact hz);refine ⟨.ref s.heap.objs.size,_,I.laid (t':=s.toks) (o:= .tup (xs++ys)) (fun b ob q=>AC _ q) (AO _) ?_,rfl,q2 (fun w=>z (r2.nil_iff.mpr w)) _ (I.hok.fresh (AO _))⟩;exact ⟨by rw [AV];exact hz,_,r1.append r2,IsTup.new _ _⟩
end
end L2
namespace L2
open PySem PySem.Spec PyProof.Rows
def ixN(n:Nat)(i:Int):Option Nat:=if 0≤i then (if i < n then some i.toNat else none) else if -(n:Int)≤i then some (i+n).toNat else none
def atI{α:Type}(xs:List α)(i:Int):Option α:=(ixN xs.length i).bind fun j=>xs[j]?
theorem tJ{n:Nat}{i:Int}{j:Nat}(h:ixN n i=some j):seqIndex? i n=some j∧j < n ∧ -(n:Int)≤i∧i < n:=by
 unfold ixN at h
 by_cases h0:0≤i
 ·rw [if_pos h0] at h
  by_cases h1:i < n
  ·rw [if_pos h1] at h
   have e:i.toNat=j:=Option.some.inj h;exact ⟨by rw [seqIndex_of h0 h1,e],by omega,by omega,h1⟩
  ·rw [if_neg h1] at h;cases h
 ·rw [if_neg h0] at h
  by_cases h1 : -(n:Int)≤i
  ·rw [if_pos h1] at h
   have e:(i+n).toNat=j:=Option.some.inj h;exact ⟨by rw [seqIndex_neg (by omega) h1,e],by omega,h1,by omega⟩
  ·rw [if_neg h1] at h;cases h
theorem pc{α:Type}{xs:List α}{i:Int}{v:α}(h:atI xs i=some v):∃ j,seqIndex? i xs.length=some j∧xs[j]?=some v∧j < xs.length ∧ -(xs.length:Int)≤i∧i < xs.length:=by
 unfold atI at h
 cases e:ixN xs.length i with
 | none=>rw [e] at h;cases h
 | some j =>
  rw [e] at h;obtain ⟨h1,h2,h3,h4⟩:=tJ e;exact ⟨j,h1,h,h2,h3,h4⟩
theorem t9{α:Type}{xs:List α}{j:Nat}{v:α}(h:xs[j]?=some v):atI xs (j:Int)=some v:=by
 have hj:j < xs.length:=(AM.mp h).1
 have e:ixN xs.length (j:Int)=some j:=by
  unfold ixN;rw [if_pos (by omega),if_pos (by omega)];simp
 unfold atI;rw [e];exact h
def ph(b:Expr):Prop:=∀ o i,subscripted b false o i=operate [o,i] (getItem o i)
def IxR(X:Cx)(r:R2):Prop :=
 ∀ (value slice:Expr) (pins:List (Addr×Obj)) (s:Shared) (σ:St) (H:Hp) (x y:V) (v u:Value) (Q:VK),Inv X pins σ H s→aR x v→aR y u→r x y H Q →
  subscripted slice false v u=operate [v,u] (getItem v u)→wpAny (model X.prog X.w) X.A (subscriptTail value slice v u) (EP X pins σ Q) X.xe s
def MtR(X:Cx)(id:String)(r:V→List V→Hp→VK→Prop):Prop :=
 ∀ (pins:List (Addr×Obj)) (s:Shared) (σ:St) (H:Hp) (x:V) (xs:List V) (v:Value) (us:List Value) (Q:VK),Inv X pins σ H s→aR x v→aG xs us→r x xs H Q →
  wpAny (model X.prog X.w) X.A (call (.builtin id) (v::us)) (EP X pins σ Q) X.xe s
section
variable{X:Cx}{a b:Expr}{ta tb:TE}{pos:Pos}
theorem IxR.or{r r':R2}(h:IxR X r)(h':IxR X r'):IxR X (fun x y H Q=>r x y H Q∨r' x y H Q):=by
 intro value slice pins s σ H x y v u Q I rx ry q hs
 rcases q with q | q
 ·exact h value slice pins s σ H x y v u Q I rx ry q hs
 ·exact h' value slice pins s σ H x y v u Q I rx ry q hs
theorem qf{r:R2}(hr:IxR X r)(ha:PE X a ta)(hb:PE X b tb)(hs:ph b):PE X (.Subscript a b pos) (tOp r ta tb):=by
 intro pins s σ H Q I h;exact Subscript_ (binT ha hb I h fun v u s2 x y H2 I2 rx ry q=>hr a b pins s2 σ H2 x y v u Q I2 rx ry q (hs _ _))
def rIxL(K:PySem.W.Frag):R2:=fun x y H Q=>∃ p xs i v,x = .ref p∧y = .int i∧SqL K H p xs∧atI xs i=some v∧Q v H
def rIxT(K:PySem.W.Frag):R2:=fun x y H Q=>∃ p xs i v,x = .ref p∧y = .int i∧SqT K H p xs∧atI xs i=some v∧Q v H
def rIxS:R2:=fun x y H Q=>∃ z i c,x = .str z∧y = .int i∧z.length≤sizeLine∧atI z.cps.toList i=some c∧Q (.str ⟨#[c]⟩) H
theorem oS:IxR X (rIxL X.K):=by
 intro value slice pins s σ H x y v u Q I rx ry h hs;obtain ⟨p,xs,i,z,rfl,rfl,hq,he,q⟩:=h;cases rx;obtain ⟨t,rfl⟩:=ry;obtain ⟨its,r,pl,hz⟩:=I.list hq;obtain ⟨j,h1,h2,h3,h4,h5⟩:=pc he;obtain ⟨w,ew,rw'⟩:=r.get h2;have hl:=r.length;have hn:=jt;have fin:EP X pins σ Q w s:=⟨z,H,I,rw',q⟩
 by_cases h0:0≤i
 ·have hj:i.toNat=j:=by
   rw [seqIndex_of h0 h5] at h1;exact Option.some.inj h1
  exact item_listR pl.isList h0 (by omega) (by rw [hj];simpa using ew) fin hs
 ·have hj:(i+(its.toArray.size:Int)).toNat=j:=by
   rw [seqIndex_neg (by omega) h4] at h1;rw [AF,← hl];exact Option.some.inj h1
  exact subscriptTail_builtinR (x:=w) pl.isList.typeIs slot_list_getitem.lookup
   (wpAny_getItem_list_neg (Q:=fun r s'=>r=w∧EP X pins σ Q r s') pl.isList (by omega) (by rw [AF]<;>omega) (by omega) (by rw [hj];simpa using ew) ⟨rfl,fin⟩) hs
theorem rU:IxR X (rIxT X.K):=by
 intro value slice pins s σ H x y v u Q I rx ry h hs;obtain ⟨p,xs,i,z,rfl,rfl,hq,he,q⟩:=h;cases rx;obtain ⟨t,rfl⟩:=ry;obtain ⟨its,r,pl,hz⟩:=I.tuple hq;obtain ⟨j,h1,h2,h3,h4,h5⟩:=pc he;obtain ⟨w,ew,rw'⟩:=r.get h2;have hl:=r.length;have hn:=jt;have fin:EP X pins σ Q w s:=⟨z,H,I,rw',q⟩
 exact subscriptTail_builtinR (x:=w) pl.typeIs slot_tuple_getitem.lookup
  (getItem_tuple (j:=j) (Q:=fun r s'=>r=w∧EP X pins σ Q r s') pl (by omega) (by omega) (by rw [AF,← hl];exact h1) (by simpa using ew) ⟨rfl,fin⟩) hs
theorem ix_str:IxR X rIxS:=by
 intro value slice pins s σ H x y v u Q I rx ry h hs;obtain ⟨z,i,c,rfl,rfl,hz,he,q⟩:=h;obtain ⟨t,rfl⟩:=rx;obtain ⟨t',rfl⟩:=ry;obtain ⟨j,h1,h2,h3,h4,h5⟩:=pc he
 have hl:z.cps.toList.length=z.length:=by simp [Str.length]
 rw [hl] at h1 h4 h5;have hn:=jt
 exact tail_any (typeIs_str s z t) slot_str_getitem.lookup (getItem_str (c:=c) (by
  have e1:decide (i < -(2 ^ 63:Int))=false:=Bc (by omega);have e2:decide (i≥2 ^ 63)=false:=Bc (by omega)
  rw [e1,e2,Cy]) (by rw [h1];simpa using h2) ⟨.str ⟨#[c]⟩,H,I.tok _,⟨_,rfl⟩,q⟩) hs
def rIx(K:PySem.W.Frag):R2:=fun x y H Q=>rIxL K x y H Q∨rIxT K x y H Q∨rIxS x y H Q
theorem ix_seq:IxR X (rIx X.K):=oS.or (rU.or ix_str)
theorem rP(its:List Value)(n j:Nat)(u:Value):Obj.mapSeq (·.setIfInBounds j u) { cls:= .type "list",data:= .seq its.toArray n }={ cls:= .type "list",data:= .seq (its.set j u).toArray n }:=by
 simp [Obj.mapSeq]
theorem Inv.lst{pins:List (Addr×Obj)}{σ:St}{H:Hp}{s:Shared}{p:Addr}{xs:List V}(I:Inv X pins σ H s)(h:H p=some (.lst xs)) :
 ∃ (its:List Value) (n:Nat),aG xs its∧s.heap.get? p=some { cls:= .type "list",data:= .seq its.toArray n }∧xs.length≤sizeLine:=by
 obtain ⟨z,its,n,r,e⟩:=I.hok p _ h;exact ⟨its,n,r,e,z⟩
theorem Inv.lstUpd{pins:List (Addr×Obj)}{σ:St}{H:Hp}{s:Shared}{p:Addr}{xs ys:List V}{its its':List Value}{n n':Nat}{f:Obj→Obj}(I:Inv X pins σ H s)(h:H p=some (.lst xs))
 (ho:s.heap.get? p=some { cls:= .type "list",data:= .seq its.toArray n }) (hf:f { cls:= .type "list",data:= .seq its.toArray n }={ cls:= .type "list",data:= .seq its'.toArray n' }) (r:aG ys its') (hz:ys.length≤sizeLine) (t:Nat) :
 Inv X pins σ (upd H p (.lst ys)) { s with heap:=s.heap.update p f,toks:=t }:=by
 have e:(s.heap.update p f).get? p=some { cls:= .type "list",data:= .seq its'.toArray n' }:=by
  rw [BI f ho (by rw [hf]<;>rfl),hf]
 refine I.write (x:=p) (e:=p) (by rw [h];trivial) (.inl rfl) (fun b u hb q=>(Cc _ _ (Ne.symm hb)).trans q) ⟨_,e⟩ ?_;exact ⟨hz,its',n',r,e⟩
def Ab:V→V→V→Hp→(Hp→Prop)→Prop:=fun o i v H Q=>∃ p xs k j,o = .ref p∧i = .int k∧H p=some (.lst xs)∧ixN xs.length k=some j∧Q (upd H p (.lst (xs.set j v)))
theorem kE:PSet X Ab:=by
 intro pins s σ H o i v ov iv u Q I ro ri rv h;obtain ⟨p,xs,k,j,rfl,rfl,hp,hj,q⟩:=h;cases ro;obtain ⟨t,rfl⟩:=ri;obtain ⟨its,n,r,ho,hz⟩:=I.lst hp;obtain ⟨h1,h2,h3,h4⟩:=tJ hj;have hl:=r.length;have hn:=jt
 have I':Inv X pins σ (upd H p (.lst (xs.set j v))) { s with heap:=s.heap.update p (Obj.mapSeq (·.setIfInBounds j u)) } :=
  I.lstUpd hp ho (rP its n j u) (r.set rv j) (by rw [BO];exact hz) s.toks
 by_cases h0:0≤k
 ·have hk:k.toNat=j:=by
   rw [seqIndex_of h0 h4] at h1;exact Option.some.inj h1
  exact PySem.W.ki_setAt ho h0 (by omega) (by rw [AF,← hl];exact h4) (by rw [hk];exact ⟨_,I',q⟩)
 ·have hk:(k+(its.toArray.size:Int)).toNat=j:=by
   rw [seqIndex_neg (by omega) h3] at h1;rw [AF,← hl];exact Option.some.inj h1
  exact PySem.W.ki_setBack ho (by omega) (by rw [AF,← hl];exact h3) (by omega) (by rw [hk];exact ⟨_,I',q⟩)
theorem n5(lo hi:Option Int)(n:Nat):(sliceBounds lo hi none n).1=((HT.sIx n 0 lo:Nat):Int)∧(sliceBounds lo hi none n).2.1=((HT.sIx n n hi:Nat):Int)∧(sliceBounds lo hi none n).2.2=1:=by
 refine ⟨?_,?_,rfl⟩
 ·cases lo with
  | none=>simp [sliceBounds,HT.sIx]
  | some i =>
   simp only [sliceBounds,HT.sIx,Option.getD_none,show (1:Int) > 0 by decide,if_true]
   by_cases h:i < 0
   ·simp only [h,if_true]<;>omega
   ·simp only [h,if_false]<;>omega
 ·cases hi with
  | none=>simp [sliceBounds,HT.sIx]
  | some i =>
   simp only [sliceBounds,HT.sIx,Option.getD_none,show (1:Int) > 0 by decide,if_true]
   by_cases h:i < 0
   ·simp only [h,if_true]<;>omega
   ·simp only [h,if_false]<;>omega
theorem l7(its:List Value)(lo hi:Option Int):slicePick its.toArray lo hi none=((its.drop (HT.sIx its.length 0 lo)).take (HT.sIx its.length its.length hi - HT.sIx its.length 0 lo)).toArray:=by
 obtain ⟨h1,h2,h3⟩:=n5 lo hi its.toArray.size;unfold slicePick;rw [h1,h2,h3]
 simp only [sliceRange_one,pick_run,AF]<;>rfl
def rSlL(K:PySem.W.Frag):V→Option Int→Option Int→Hp→VK→Prop:=fun x lo hi H Q=>∃ a xs,x = .ref a∧SqL K H a xs∧∀ p,H p=none→Q (.ref p) (upd H p (.lst (lK xs lo hi)))
theorem yc:SlR X (rSlL X.K):=by
 intro pins s σ H x v vl vu lo hi sl Q I rx hs pl pu h;obtain ⟨a,xs,rfl,hx,q⟩:=h;cases rx;obtain ⟨its,r,ht,hz⟩:=I.list hx;have hlen:=r.length;refine ⟨"list",_,slot_list_getitem.lookup,ht.isList.typeIs,?_⟩;refine wpAny_getItem_list_slice ht.isList hs pl pu .none (by simp) ?_ (by rw [AF]<;>omega);rw [l7,← hlen];refine ⟨.ref s.heap.objs.size,_,I.laid (t':=s.toks) (o:= .lst (lK xs lo hi)) (fun b ob q=>AC _ q) (AO _) ?_,rfl,q _ (I.hok.fresh (AO _))⟩;exact ⟨BL (jU xs lo hi) hz,_,0,(r.drop (HT.sIx xs.length 0 lo)).take (HT.sIx xs.length xs.length hi - HT.sIx xs.length 0 lo),AJ _ rfl⟩
theorem o8:aI X (.builtin "len") (fun xs H Q=>∃ p ys,xs=[.ref p]∧(SqL X.K H p ys∨SqT X.K H p ys)∧Q (.int ys.length) H):=by
 intro pins s σ H xs us Q I r h;obtain ⟨p,ys,rfl,hq,q⟩:=h;obtain ⟨u,rfl,rx⟩:=b4 r;cases rx;have hn:=jt
 rcases hq with hq | hq
 ·obtain ⟨its,r',pl,hz⟩:=I.list hq
  have hlen:=r'.length;exact Calls.call_len_list pl.isList (by simp only [AF]<;>omega) ⟨.int ys.length,H,I.tok _,⟨s.toks+1,by rw [AF,hlen]⟩,q⟩
 ·obtain ⟨its,r',pl,hz⟩:=I.tuple hq
  have hlen:=r'.length;exact len_tuple pl (by simp only [AF]<;>omega) ⟨.int ys.length,H,I.tok _,⟨s.toks+1,by rw [AF,hlen]⟩,q⟩
theorem aI.or{f:Value}{r r':List V→Hp→VK→Prop}(h:aI X f r)(h':aI X f r'):aI X f (fun xs H Q=>r xs H Q∨r' xs H Q):=by
 intro pins s σ H xs us Q I rs q
 rcases q with q | q
 ·exact h pins s σ H xs us Q I rs q
 ·exact h' pins s σ H xs us Q I rs q
theorem o7:aI X (.type "list") (fun xs H Q=>∃ p ys,xs=[.ref p]∧(SqL X.K H p ys∨SqT X.K H p ys)∧∀ l,H l=none→Q (.ref l) (upd H l (.lst ys))):=by
 intro pins s σ H xs us Q I r h;obtain ⟨p,ys,rfl,hq,q⟩:=h;obtain ⟨u,rfl,rx⟩:=b4 r;cases rx
 have fin:∀ (its:List Value),aG ys its→ys.length≤sizeLine→∀ (h':Heap) (c':Nat),(∀ b o',s.heap.get? b=some o'→h'.get? b=some o') →
  h'.get? s.heap.objs.size=some { cls:= .type "list",dict:=none,data:= .seq its.toArray c',slots := #[] }→EP X pins σ Q (.ref s.heap.objs.size) { s with heap:=h' }:=fun its r' hz h' c' kp e =>
  ⟨.ref s.heap.objs.size,_,I.laid (t':=s.toks) kp (AO _) (show bP X.prog X.w _ h' _ (.lst ys) from ⟨hz,its,c',r',e⟩),rfl,q _ (I.hok.fresh (AO _))⟩
 rcases hq with hq | hq
 ·obtain ⟨its,r',pl,hz⟩:=I.list hq
  have hlen:=r'.length;obtain ⟨o,ho,hc,n,hd⟩:=pl.isList;exact call_list_seq p (.inl rfl) ho hc hd (fun h' c' kp e=>fin its r' hz h' c' kp e) (by simp only [AF]<;>omega)
 ·obtain ⟨its,r',pl,hz⟩:=I.tuple hq
  have hlen:=r'.length;obtain ⟨o,ho,hc,n,hd⟩:=pl;exact call_list_seq p (.inr rfl) ho hc hd (fun h' c' kp e=>fin its r' hz h' c' kp e) (by simp only [AF]<;>omega)
theorem mE:aI X (.type "tuple") (fun xs H Q=>∃ p ys,xs=[.ref p]∧((SqL X.K H p ys∧∀ l,H l=none→Q (.ref l) (upd H l (.tup ys)))∨(SqT X.K H p ys∧Q (.ref p) H))):=by
 intro pins s σ H xs us Q I r h;obtain ⟨p,ys,rfl,h⟩:=h;obtain ⟨u,rfl,rx⟩:=b4 r;cases rx
 rcases h with ⟨hq,q⟩ | ⟨hq,q⟩
 ·obtain ⟨its,r',pl,hz⟩:=I.list hq
  have hlen:=r'.length;refine call_tuple_list pl.isList (fun h' kp=> ?_) (by simp only [AF]<;>omega);have I1:Inv X pins σ H { s with heap:=h' }:=I.kept (t':=s.toks) kp
  have I2:Inv X pins σ (upd H h'.objs.size (.tup ys)) { s with heap:=h'.push { cls:= .type "tuple",data:= .seq its.toArray } } :=
   I1.laid (t':=s.toks) (fun b o e=>AC _ e) (AO _) (show bP X.prog X.w _ _ _ (.tup ys) from ⟨hz,its,r',IsTup.new _ _⟩)
  exact ⟨.ref h'.objs.size,_,I2,rfl,q _ (I1.hok.fresh (AO _))⟩
 ·obtain ⟨its,r',pl,hz⟩:=I.tuple hq
  exact call_tuple_same pl ⟨.ref p,H,I,rfl,q⟩
def tyV(K:PySem.W.Frag)(T:String)(x:V)(H:Hp):Prop:=match x with
 | .str _=>T = "str"
 | .int _=>T = "int"
 | .ref p=>(T = "list" ∧ ∃ xs,SqL K H p xs)∨(T = "tuple" ∧ ∃ o,K.lookup p=some o∧o.cls = .type "tuple" ∧ o.dict=none) ∨
  (T = "dict" ∧ ((∃ kvs,H p=some (.dK kvs))∨∃ kvs,H p=some (.dT kvs)))∨(T = "set" ∧ ∃ S n,H p=some (.set S n))
 | _=>False
theorem tyV_is{pins:List (Addr×Obj)}{σ:St}{H:Hp}{s:Shared}{T:String}{x:V}{v:Value}(I:Inv X pins σ H s)(r:aR x v)(ty:tyV X.K T x H) :
 s.TypeIs v T∧∀ a,v = .ref a→∃ ob,s.heap.get? a=some ob∧ob.dict=none:=by
 cases x with
 | str z =>
  obtain ⟨t,rfl⟩:=r;cases (show T = "str" from ty);exact ⟨typeIs_str s z t,fun _ e=>nomatch e⟩
 | int i =>
  obtain ⟨t,rfl⟩:=r;cases (show T = "int" from ty);exact ⟨typeIs_int s i t,fun _ e=>nomatch e⟩
 | ref p =>
  cases r
  rcases ty with ⟨rfl,xs,hq⟩ | ⟨rfl,o,hk,hc,hd⟩ | ⟨rfl,hk⟩ | ⟨rfl,S,n,hk⟩
  ·obtain ⟨its,_,pl,_⟩:=I.list hq
   refine ⟨pl.isList.typeIs,fun a e=> ?_⟩;cases e;obtain ⟨o,n,e,c,hd,_⟩:=pl;exact ⟨o,e,hd⟩
  ·refine ⟨⟨o,I.kIn p o hk,hc⟩,fun a e=> ?_⟩
   cases e;exact ⟨o,I.kIn _ o hk,hd⟩
  ·have z:∃ o,s.heap.get? p=some o∧o.ExactDict:=by
    rcases hk with ⟨kvs,hk⟩ | ⟨kvs,hk⟩
    ·obtain ⟨_,_,_,_,o,_,_,e,ex,_⟩:=I.hok p _ hk
     exact ⟨o,e,ex⟩
    ·obtain ⟨_,_,_,_,o,_,_,e,ex,_⟩:=I.hok p _ hk
     exact ⟨o,e,ex⟩
   obtain ⟨o,e,ex⟩:=z;refine ⟨⟨o,e,ex.1⟩,fun a e2=> ?_⟩;cases e2;exact ⟨o,e,ex.2.1⟩
  ·obtain ⟨o,_,_,_,e,ex,_⟩:=I.hok p _ hk
   refine ⟨⟨o,e,ex.1⟩,fun a e2=> ?_⟩;cases e2;exact ⟨o,e,ex.2.1⟩
 | _=>exact False.elim ty
def tBM(K:PySem.W.Frag)(T:String)(r:V→List V→Hp→VK→Prop)(to:TE)(t:TA):TE:=fun σ H Q=>to σ H fun x H1=>tyV K T x H1∧t σ H1 fun xs H2=>r x xs H2 Q
variable{o e:Expr}{es:List Expr}{to:TE}{t:TA}{name:Str}{apos cpos:Pos}{T id:String}{r:V→List V→Hp→VK→Prop}
theorem wv(pa:PlainAttrs T)(slot:Slot T name id)(hty:typeOf (.builtin id)=pure (.type "method_descriptor"))(hm:MtR X id r)(ho:PE X o to)(ha:PA X (e::es) t)
 (hbase:attributeBase o name X.env (eval o X.env)=eval o X.env:=by rfl)
 (hfew:((backTo cpos (starEach (e::es) X.env)).all (fun x => !x.1)&&(backToKw cpos (keywordEach [] X.env)).all (fun x=>x.1.isSome)
   && decide ((e::es).length+([]:List Keyword).length+(if ([]:List Keyword).isEmpty then 0 else 1) < 30))=true:=by rfl)
 (hline:(apos.endLine == cpos.line)=true:=by rfl) (hs:starEach (e::es) X.env=(false,eval e X.env)::starEach es X.env:=by rfl) (hplain:(backTo cpos (starEach es X.env)).any (·.1)=false:=by rfl) :
 PE X (.Call (.Attribute o name apos) (e::es) [] cpos) (tBM X.K T r to t):=by
 intro pins s σ H Q I h;refine wpAny_Call_method_late hbase hfew hline rfl (thn (ho pins s σ H _ I h) fun v s1 ⟨x,H1,I1,r1,ty,q1⟩=> ?_);obtain ⟨h1,h2⟩:=tyV_is I1 r1 ty;refine ⟨T,id,pa,slot,hty,h1,h2,?_⟩;have hA:=ha cpos pins s1 σ H1 _ I1 q1;rw [hs] at hA ⊢;refine Calls.callWith_builtin (by show (false||(backTo cpos (starEach es X.env)).any (·.1))=false;rw [hplain]<;>rfl) (Calls.evalArgs_plain ?_)
 exact thn hA fun us s2 ⟨vs,H2,I2,r2,q2⟩=>hm pins s2 σ H2 x vs v us Q I2 r1 r2 q2
end
end L2
namespace L2
open PySem PySem.Spec PyProof.Rows
def MtM(X:Cx)(id:String)(r:V→List V→Hp→VK→Prop):Prop :=
 ∀ (pins:List (Addr×Obj)) (s:Shared) (σ:St) (H:Hp) (x:V) (xs:List V) (v:Value) (us:List Value) (Q:VK),Inv X pins σ H s→aR x v→aG xs us→r x xs H Q →
  wpAny (model X.prog X.w) X.A (call (.builtin id) (v::us)) (EP X pins σ Q) X.xe s
theorem aG.one:∀ {x:V} {us:List Value},aG [x] us→∃ u,us=[u]∧aR x u
 | _,_,.cons r .nil=>⟨_,rfl,r⟩
theorem aG.rep{xs:List V}{us:List Value}(h:aG xs us):∀ k:Nat,aG (List.replicate k xs).flatten (List.replicate k us).flatten
 | 0=> .nil
 | k+1=>by
  rw [Bq,Bq,B3,B3];exact aG.append h (aG.rep h k)
theorem nB(its:List Value):∀ (k:Nat) (acc:List Value),
 List.foldl (fun x1 x2=>x1++x2) acc.toArray (List.replicate k its.toArray)=(acc++(List.replicate k its).flatten).toArray
 | 0,acc=>by simp
 | k+1,acc=>by
  have e:acc.toArray++its.toArray=(acc++its).toArray:=by simp
  have e2:(acc++its)++(List.replicate k its).flatten=acc++(List.replicate (k+1) its).flatten:=by
   rw [Bq,B3,Bu]
  rw [← e2,← nB its k (acc++its),← e,Bq,List.foldl_cons]
section
variable{X:Cx}{pins:List (Addr×Obj)}{σ:St}{H:Hp}{s:Shared}{l b:Addr}{xs ys zs:List V}
theorem Inv.lset{its its':List Value}{n:Nat}{f:Array Value→Array Value}{t':Nat}(I:Inv X pins σ H s)(hH:H l=some (.lst xs))
 (e:s.heap.get? l=some { cls:= .type "list",data:= .seq its.toArray n }) (hf:f its.toArray=its'.toArray) (hv:aG ys its') (hz:ys.length≤sizeLine) :
 Inv X pins σ (upd H l (.lst ys)) { s with heap:=s.heap.update l (Obj.mapSeq f),toks:=t' }:=by
 have q:=PySem.IsL.update e f;rw [hf] at q;refine I.write (x:=l) (e:=l) (by rw [hH];exact trivial) (.inl rfl) (fun b' u hb hu=>(Cc s.heap (Obj.mapSeq f) (Ne.symm hb)).trans hu) ⟨_,q⟩ ?_;exact ⟨hz,its',_,hv,q⟩
theorem Inv.lnew{its:List Value}{t':Nat}(I:Inv X pins σ H s)(hv:aG ys its)(hz:ys.length≤sizeLine) :
 Inv X pins σ (upd H s.heap.objs.size (.lst ys)) { s with heap:=s.heap.push { cls:= .type "list",data:= .seq its.toArray },toks:=t' } :=
 I.laid (fun _ _ q=>AC _ q) (AO _) ⟨hz,its,0,hv,AJ _ rfl⟩
theorem Inv.fresh(I:Inv X pins σ H s):H s.heap.objs.size=none:=I.hok.fresh (AO _)
theorem Inv.lstM(I:Inv X pins σ H s)(hH:H l=some (.lst xs)):xs.length≤sizeLine∧∃ (its:List Value) (n:Nat),aG xs its∧xs.length=its.length∧s.heap.get? l=some { cls:= .type "list",data:= .seq its.toArray n }:=by
 obtain ⟨z,its,n,r,e⟩:=I.hok l _ hH;exact ⟨z,its,n,r,r.length,e⟩
theorem lm{n:Nat}(h:n≤sizeLine):Builtin.List.listTooLong n=false:=by
 unfold Builtin.List.listTooLong;exact Bc (by omega)
end
section
variable{X:Cx}
def tw:V→List V→Hp→VK→Prop:=fun x vs H Q=>∃ l xs y,x = .ref l∧vs=[y]∧H l=some (.lst xs)∧xs.length < sizeLine∧Q .non (upd H l (.lst (xs++[y])))
theorem jp:MtM X "list.append" tw:=by
 intro pins s σ H x vs v us Q I rx rv h;obtain ⟨l,xs,y,rfl,rfl,hH,hz,q⟩:=h;cases rx;obtain ⟨u,rfl,ru⟩:=rv.one;obtain ⟨z,its,n,r,hl,e⟩:=I.lstM hH;refine call_meets F.slot_list_append ⟨_,e,rfl⟩ F.entry_list_append (F.args_list_append_2 _ _) (PySem.list_append l its.toArray n u (by rw [AF];omega)) ⟨e,?_⟩;refine ⟨.non,_,I.lset (its':=its++[u]) hH e (by simp) (r.append (.cons ru .nil)) ?_,rfl,q⟩;rw [AV,List.length_singleton];omega
def tq:V→List V→Hp→VK→Prop:=fun x vs H Q=>∃ l b xs zs,x = .ref l∧vs=[.ref b]∧H l=some (.lst xs)∧H b=some (.lst zs)∧xs.length+zs.length≤sizeLine∧Q .non (upd H l (.lst (xs++zs)))
theorem uC:MtM X "list.extend" tq:=by
 intro pins s σ H x vs v us Q I rx rv h;obtain ⟨l,b,xs,zs,rfl,rfl,hH,hB,hz,q⟩:=h;cases rx;obtain ⟨u,rfl,ru⟩:=rv.one;cases ru;obtain ⟨z,its,n,r,hl,e⟩:=I.lstM hH;obtain ⟨z2,its2,n2,r2,hl2,e2⟩:=I.lstM hB
 have hsz:its.toArray.size+its2.toArray.size≤sizeLine:=by rw [AF,AF];omega
 have hlong:¬ (!its.toArray.isEmpty&&Builtin.List.listTooLong (its.toArray.size+its2.toArray.size))=true:=by
  rw [lm hsz,BN];exact A3
 refine call_meets F.slot_list_extend ⟨_,e,rfl⟩ F.entry_list_extend (F.args_list_extend_2 _ _)
  (AutoSeq1.list_extend_list_list_0 l its.toArray n b its2.toArray n2 hlong (by rw [AF];omega) (by omega)) ⟨e,e2,?_⟩
 refine ⟨.non,_,I.lset (its':=its++its2) hH e (by simp) (r.append r2) ?_,rfl,q⟩;rw [AV];omega
def rCat:R2:=fun x y H Q=>∃ l b xs zs,x = .ref l∧y = .ref b∧H l=some (.lst xs)∧H b=some (.lst zs)∧xs.length+zs.length≤sizeLine∧∀ p,H p=none→Q (.ref p) (upd H p (.lst (xs++zs)))
theorem op_cat:OpR X (binaryOp .Add) rCat:=by
 intro pins s σ H x y v u Q I rx ry h;obtain ⟨l,b,xs,zs,rfl,rfl,hH,hB,hz,q⟩:=h;cases rx;cases ry;obtain ⟨z,its,n,r,hl,e⟩:=I.lstM hH;obtain ⟨z2,its2,n2,r2,hl2,e2⟩:=I.lstM hB;refine PySem.P.add_list e e2 ?_ (by rw [AF,AF];omega)
 have ea:its.toArray++its2.toArray=(its++its2).toArray:=by simp
 rw [ea];exact ⟨.ref _,_,I.lnew (t':=s.toks) (r.append r2) (by rw [AV];omega),rfl,q _ I.fresh⟩
def rRep:R2:=fun x y H Q=>∃ l k xs,x = .ref l∧y = .int k∧H l=some (.lst xs) ∧ -(2 ^ 63)≤k∧k < 2 ^ 63∧xs.length * k.toNat≤sizeLine ∧
 ∀ p,H p=none→Q (.ref p) (upd H p (.lst (List.replicate k.toNat xs).flatten))
theorem zf{α:Type}(xs:List α)(k:Nat):(List.replicate k xs).flatten.length=k * xs.length:=by
 induction k with
 | zero=>simp
 | succ k ih=>rw [Bq,B3,AV,ih,Nat.succ_mul,Nat.add_comm]
theorem op_rep:OpR X (binaryOp .Mult) rRep:=by
 intro pins s σ H x y v u Q I rx ry h;obtain ⟨l,k,xs,rfl,rfl,hH,h1,h2,hz,q⟩:=h;cases rx;obtain ⟨t,rfl⟩:=ry;obtain ⟨z,its,n,r,hl,e⟩:=I.lstM hH
 have hlen:its.toArray.size * k.toNat≤sizeLine:=by rw [AF,← hl];exact hz
 have hcap:¬ its.toArray.size * k.toNat > (2 ^ 63 - 1) / 8:=by
  have:(sizeLine:Nat)≤(2 ^ 63 - 1) / 8:=by decide
  omega
 have hfit:¬ (!Builtin.List.listFitsIndex k)=true:=by
  rw [fitsIndex_both h1 h2];exact A3
 have hlong:¬ Builtin.List.listTooLong (its.toArray.size * k.toNat)=true:=by
  rw [lm hlen];exact A3
 have hnew:List.foldl (fun x1 x2=>x1++x2) #[] (List.replicate (if its.toArray.isEmpty=true then 0 else k.toNat) its.toArray)=(List.replicate k.toNat its).flatten.toArray:=by
  have f0:∀ m:Nat,List.foldl (fun x1 x2=>x1++x2) #[] (List.replicate m its.toArray)=(List.replicate m its).flatten.toArray:=fun m=>by
   have:=nB its m [];rw [Bs] at this;exact this
  rw [f0]
  cases its with
  | nil=>simp
  | cons a r'=>rw [if_neg (by simp)]
 refine wpAny_binaryOp_repeat_ref (T := "list") (U := "int") (by decide) ⟨_,e,rfl⟩ (fun s'=>typeIs_int s' k t) noFill_list_mul F.fills_int_mul F.slot_int_rmul repeat_list F.slot_int_index.lookup
  (call_meets F.slot_int_rmul (typeIs_int s k t) F.entry_int_rmul (F.args_int_rmul_2 _ _) (int___rmul___int_list k t l its.toArray n)
    ⟨e,rfl,⟨_,e,rfl⟩,call_meets F.slot_list_mul ⟨_,e,rfl⟩ F.entry_list_mul (F.args_list_mul_2 _ _) (AutoListH.list___mul___list_int_3 l its.toArray n k t hfit hcap hlong) ⟨e,?_⟩⟩)
 rw [hnew];exact ⟨.ref _,_,I.lnew (t':=s.toks) (r.rep k.toNat) (by rw [zf,Nat.mul_comm];exact hz),rfl,q _ I.fresh⟩
end
section
variable{prog:Program}{w:World}{A:Around}{E:Value→Shared→Prop}{s:Shared}
end
section
variable{X:Cx}
end
end L2
namespace Att
open PySem PySem.W PySem.Calls PyProof.Rows
theorem ka{P:Params}{h:Heap}:∀ (ns:List Int) (vs:List Value),WellAll P h vs (ns.map WData.int)→IntsAre vs ns:=by
 intro ns
 induction ns with
 | nil =>
  intro vs w;rw [BW] at w;cases w;exact .nil
 | cons n ns ih =>
  intro vs w;rw [AU] at w
  cases w with
  | cons a b =>
   cases a;exact .cons _ _ (ih _ b)
theorem ul{l:OpenLaw}{n:Nat}(hn:l.most=some n){P:Params}{h:Heap}{args:List WData}{vals:List Value}
 (hpre:l.row.toRowW.claim.pre args=true) (hwl:WellAll P h vals args) :
 ∃ a vs ns,vals=[Value.ref a]∧args=[WData.list (ns.map WData.int)]∧h.get? a=some { cls:= .type "list",data:= .seq vs.toArray }∧IntsAre vs ns∧ns.length≤n:=by
 have hsh:WShape.hasAll [] args [.list .int]=true:=(pre_splitW hpre).1;have hc:l.pre.holds [] { args:=args }=true:=(pre_splitW hpre).2;obtain ⟨d,r,rfl,h1,h2⟩:=hasAllW_cons hsh;obtain rfl:=hasAllW_nil h2;obtain ⟨xs,rfl,h3⟩:=hasW_list h1;obtain ⟨ns,rfl⟩:=items_int h3
 have hlen:ns.length≤n:=by
  unfold OpenLaw.pre at hc
  have h4:(WTm.not (.lt (.lit (.int (n:Int))) (.len (.arg 0)))).holds [] { args:=[.list (ns.map .int)] }=true:=by
   have h4:=(holds_andW hc).1;rw [hn] at h4;exact h4
  have h5:=condW_of h4 (w_not (w_lt w_lit (w_len_list (w_arg rfl))));rw [AE] at h5
  refine Nat.le_of_not_lt fun q=> ?_
  have q':(n:Int) < ((ns.length:Nat):Int):=by omega
  first
   | (rw [AS q'] at h5;exact absurd h5 (by decide))
   | (simp at h5;omega)
 cases hwl with
 | cons w1 w2 =>
  cases w2
  cases w1 with
  | list ho hall=>exact ⟨_,_,ns,rfl,rfl,ho,ka ns _ hall,hlen⟩
theorem uu(l:OpenLaw)(args:List WData):l.row.toRowW.claim.post args (.bool true) args=true :=
 postW_of (r:=l.row.toRowW) (X:=(true == true))
  (show WShape.has [] (.bool true) .bool=true by first | rfl | decide | simp [WShape.has,WShape.arms,WShape.armsAll])
  (show (WTm.eq .res (.lit (.bool true))).value [] { args:=args,res:=some (.bool true),after:=args }=some (.bool (true == true)) from w_eq_bool (w_res rfl) w_lit) rfl
theorem qT{l:OpenLaw}{n:Nat}{q:Program}{loose:List Str}{XP:(Str→Option Value)→Heap→Prop}{YP:World→Heap→Prop}{d:DefRec}
 (hn:l.most=some n) (hdf:d.params.defaults=[])
 (call:∀ (w:World) (s₀ s₁:Shared) (mg mb:Str→Option Value) (fa:Addr) (o:Obj) (pm cd doc:Value) (a:Addr) (vs:List Value) (ns:List Int),
   Ground q loose [] XP w s₀ mg mb s₁.heap→YP w s₁.heap →
   s₁.heap.get? fa=some o→o.data = .func (docDef d.name d.params d.body d.scope pm cd doc)→s₁.heap.CodeRec cd d.name→mg d.name=some (.ref fa) →
   s₁.heap.get? a=some { cls:= .type "list",data:= .seq vs.toArray }→IntsAre vs ns→ns.length≤n→s₁.gens = #[] →
   codeAny (model l.prog w) callerA (.call (.ref fa) ⟨[.ref a],[]⟩) (fun r s'=>r = .ok (.ret (.bool true))∧OldK s₁.heap s'.heap∧s'.os=s₁.os∧AllBare s'.gens) s₁) :
 WalkO q loose XP YP l.row.toRowW d [] (fun f vs=>PySem.call f vs):=by
 intro w s₀ s₁ mg mb G Y fa o pm cd doc dV kV ho hd hcd hD hmg hg args vals as hpre hlay hrd hwl hlo;obtain rfl:dV = .none:=Dflts.none hD hdf;obtain rfl:kV = .none:=Dflts.noKw hD;obtain ⟨a,vs,ns,rfl,rfl,hobj,hints,hlen⟩:=ul hn hpre hwl;refine enter_call (codeAny_mono (call w s₀ s₁ mg mb fa o pm cd doc a vs ns G Y ho (fd_plain hd) hcd hmg hobj hints hlen hg) fun r s' hq=> ?_);obtain ⟨rfl,h2,h3,h4⟩:=hq;exact ⟨.inl ⟨.bool true,.bool true,[],rfl,fun _=>rfl,.bool true,uu l _,fun _=>⟨List.Pairwise.nil,fun _ hm=>(nomatch hm)⟩⟩,h2,h3,h4⟩
section
variable{prog:Program}{w:World}{A:Around}{E:Value→Shared→Prop}{s:Shared}{K:Frag}
end
end Att
namespace L2
open PySem PySem.Spec PyProof.Rows
theorem mJ:∀ {vs:List Value} {ns:List Int},IntsAre vs ns→aG (ns.map V.int) vs
 | _,_,.nil=> .nil
 | _,_,.cons n t h=> .cons ⟨t,rfl⟩ (mJ h)
def Only(H:Hp):Prop:=∀ b,H b=none∨∃ o xs,H b=some (.frz o (.lst xs))
theorem wO{P:Program}{w:World}{K:PySem.W.Frag}{mg mb:Str→Option Value}{CX:CXT}{k:Nat}{fa a:Addr}{fd:FuncData}{x:Str}{sp:Sp}{s₁:Shared}{vs:List Value}{ns:List Int}
 (KX:K.In s₁.heap) (hns:s₁.heap.Ns mainGlobals mg) (hb:s₁.heap.Ns builtinsNs mb) (hbb:∀ x:Str,x ≠ "__name__" → mb x=bootBuiltins x) (hlim:s₁.heap.NoLimit) (hg:s₁.gens = #[])
 (ha:s₁.heap.get? a=some { cls:= .type "list",data:= .seq vs.toArray }) (hi:IntsAre vs ns) (hl:ns.length≤sizeLine) (hr:dW k callerA)
 (F:∀ base:Heap,K.In base→base.Ns mainGlobals mg→kc P w K mg base CX k fa fd [x] sp) (hbind:∀ (s:Shared) (u:Value),BindsTo s fd ⟨[u],[]⟩ [(x,u)])
 (hsp:∀ H:Hp,Only H→SqL K H a (ns.map V.int)→sp [.ref a] H (fun v _=>v = .bl true) fun _ _ _=>False)
 (hCX:∀ H e s',CX [] H s₁ (fun _ _ _=>False) e s'→False) :
 codeAny (model P w) callerA (.call (.ref fa) ⟨[.ref a],[]⟩) (fun r s'=>r = .ok (.ret (.bool true))∧OldK s₁.heap s'.heap∧s'.os=s₁.os∧AllBare s'.gens) s₁:=by
 have rv:=mJ hi;have lenV:=hi.length
 have core:∀ H:Hp,Only H→SqL K H a (ns.map V.int)→HOk P w H s₁.heap→(∀ b,H b≠none→b=a)→(H a≠none→K.lookup a=none) →
  codeAny (model P w) callerA (.call (.ref fa) ⟨[.ref a],[]⟩) (fun r s'=>r = .ok (.ret (.bool true))∧OldK s₁.heap s'.heap∧s'.os=s₁.os∧AllBare s'.gens) s₁:=by
  intro H hO hS hok hA hK
  have base_of:∀ {b:Addr} {o:Obj},s₁.heap.get? b=some o→H b=none→(oU s₁.heap H).get? b=some o:=fun e n=>wY e n
  have noA:∀ {b:Addr} {o:Obj} {es:Array DictEntry} {ep:Nat},s₁.heap.get? b=some o→o.data = .dict es ep→H b=none:=fun {b o es ep} e d=>by
   cases q:H b with
   | none=>rfl
   | some u =>
    have e':b=a:=hA b (by rw [q];simp);subst e';rw [ha] at e;cases e;have d':Data.seq vs.toArray _=Data.dict es ep:=d;cases d'
  have nsK:∀ {b:Addr} {m:Str→Option Value},s₁.heap.Ns b m→(oU s₁.heap H).Ns b m:=fun {b m} ⟨o,es,ep,e,d,r⟩=>⟨o,es,ep,base_of e (noA e d),d,r⟩
  have hKb:K.In (oU s₁.heap H):=fun b o e=>base_of (KX b o e) (by
   cases q:H b with
   | none=>rfl
   | some u =>
    have e':b=a:=hA b (by rw [q];simp);subst e'
    rw [hK (by rw [q];simp)] at e;cases e)
  have hM:Mod K mg (oU s₁.heap H):=⟨hKb,nsK hns,⟨mb,nsK hb,hbb⟩,let ⟨mc,h1,h2⟩:=hlim;⟨mc,nsK h1,h2⟩⟩;have e0:zO P w K mg (oU s₁.heap H) callerA [] s₁ H:=⟨rfl,hM,fun b o e=>zc e,Nat.le_of_eq (uN _ _),trivial,fun b hb=>absurd (show b∈([]:List Addr) from hb) (by simp),hok,.of_eq hg⟩
  refine codeAny_mono ((F _ hKb (nsK hns)).run callerA [] s₁ H ⟨[.ref a],[]⟩ [.ref a] [.ref a] _ _ hr e0 (hbind s₁ (.ref a)) (.cons rfl .nil) (hsp H hO hS)) fun r s' h=> ?_
  cases r with
  | error e=>exact (hCX H e s' h).elim
  | ok fl =>
   cases fl with
   | next=>exact False.elim h
   | brk=>exact False.elim h
   | cont=>exact False.elim h
   | ret u =>
    obtain ⟨v,H',os,bare,un,hok',r',q⟩:=h;have q':v = .bl true:=q;subst q';obtain rfl:u=Value.bool true:=r';refine ⟨rfl,OldK.of_keep fun b o e=> ?_,os,bare⟩
    cases q:H b with
    | none=>exact un.keep b o e q (by intro z;exact absurd (show b∈([]:List Addr) from z) (by simp)) (by simp)
    | some u =>
     rcases hO b with z | ⟨ob,xs,z⟩
     ·rw [q] at z;cases z
     ·have z2:=un.frzs b ob _ z
      obtain ⟨e1,_⟩:=hok b _ z;obtain ⟨e2,_⟩:=hok' b _ z2;rw [e] at e1;cases e1;exact e2
 cases hk:K.lookup a with
 | some o =>
  have e:=KX a o hk;rw [ha] at e;cases e
  refine core (fun _=>none) (fun _=> .inl rfl) (.inr ⟨_,vs.toArray,_,hk,rfl,rfl,rfl,by rw [AF,lenV];exact hl,by simpa using rv⟩) (fun b u z=>by have z':(none:Option HO)=some u:=z;cases z') (fun b z=>absurd rfl z) fun z=>absurd rfl z
 | none =>
  refine core (fun b=>if b=a then some (.frz { cls:= .type "list",data:= .seq vs.toArray } (.lst (ns.map V.int))) else none) (fun b=> ?_) (.inl (.inr ⟨{ cls:= .type "list",data:= .seq vs.toArray },if_pos rfl⟩)) (fun b u z=> ?_) (fun b z=> ?_) fun _=>hk
  ·by_cases hb:b=a
   ·exact .inr ⟨_,_,if_pos hb⟩
   ·exact .inl (if_neg hb)
  ·by_cases hb:b=a
   ·have z':=(if_pos hb).symm.trans z
    cases z';subst hb;exact ⟨ha,by rw [AE];exact hl,vs,_,rv,ha⟩
   ·have z':=(if_neg hb).symm.trans z
    cases z'
  ·by_cases hb:b=a
   ·exact hb
   ·exact absurd (if_neg hb) z
end L2
namespace L2
open PySem PySem.Spec PyProof.Rows
abbrev KOf{K:PySem.W.Frag}{h:Heap}(_:K.In h):PySem.W.Frag:=K
theorem xP{l:PySem.W.OpenLaw}{n k:Nat}{q:Program}{loose:List Str}{XP:(Str→Option Value)→Heap→Prop}{YP:World→Heap→Prop}{d:DefRec}{K:Params→PySem.W.Frag}{CX:World→CXT}{sp:World→Sp}{x:Str}
 (hn:l.most=some n) (hn2:n≤sizeLine) (hdf:d.params.defaults=[]) (hr:dW k callerA)
 (hY:∀ (w:World) (h:Heap),YP w h→(K w.params).In h)
 (F:∀ (w:World) (mg:Str→Option Value) (fa:Addr) (h:Heap),(K w.params).In h→h.Ns mainGlobals mg→mg d.name=some (.ref fa) →
   ∃ fd:FuncData,(∀ (s:Shared) (u:Value),BindsTo s fd ⟨[u],[]⟩ [(x,u)]) ∧
    ∀ base:Heap,(K w.params).In base→base.Ns mainGlobals mg→kc l.prog w (K w.params) mg base (CX w) k fa fd [x] (sp w))
 (hsp:∀ (w:World) (H:Hp) (a:Addr) (ns:List Int),ns.length≤n→Only H→SqL (K w.params) H a (ns.map V.int)→sp w [.ref a] H (fun v _=>v = .bl true) fun _ _ _=>False)
 (hCX:∀ (w:World) (H:Hp) (s:Shared) (e:Value) (s':Shared),CX w [] H s (fun _ _ _=>False) e s'→False) :
 PySem.W.WalkO q loose XP YP l.row.toRowW d [] (fun f vs=>PySem.call f vs):=by
 refine Att.qT hn hdf fun w s₀ s₁ mg mb fa o pm cd doc a vs ns G Y ho hd hcd hmg hobj hints hlen hg=> ?_
 have KX:=hY w _ Y;obtain ⟨fd,hb,hF⟩:=F w mg fa _ KX G.T.g hmg
 exact wO KX G.T.g G.T.b G.T.builtins G.T.nolimit hg hobj hints (BL hlen hn2) hr hF hb (fun H hO hS=>hsp w H a ns hlen hO hS) fun H e s'=>hCX w H s₁ e s'
end L2
namespace L2
open PySem PySem.Spec PyProof.Rows
def fq(s:Stmt):Arguments:=match s with
 | .FunctionDef _ a _ _ _ _ _ _ _ _=>a
 | _=>{ posonlyargs:=[],args:=[],vararg:=none,kwonlyargs:=[],kw_defaults:=[],kwarg:=none,defaults:=[] }
def ci(s:Stmt):List Stmt:=match s with
 | .FunctionDef _ _ b _ _ _ _ _ _ _=>b
 | _=>[]
def ae(s:Stmt):Scope:=match s with
 | .FunctionDef _ _ _ _ _ _ sc _ _ _=>sc
 | _=>{ kind:= .function,names:=[],isGenerator:=false,isCoroutine:=false }
abbrev CX0:CXT:=fun _ _ _ _ _ _=>False
structure Fun(K:PySem.W.Frag)(x qual:Str)(st:Stmt)(f:Addr)(fd:FuncData):Prop where
 ex:∃ (oc:Value) (od:Option Addr) (kV doc pm:Value) (an:Option Addr) (cdv ct:Value) (osl:Array (Option Value)),
  fd=PySem.W.fnOf x qual (fq st) (ci st) (ae st) .none kV doc pm an cdv ct∧K.lookup f=some ⟨oc,od,.func fd,osl⟩∧PySem.W.codeIn K cdv qual=true
 kp:PySem.W.keepIn K (.ref f)=true
section
variable{P:Program}{w:World}{K:PySem.W.Frag}{mg:Str→Option Value}{base:Heap}
theorem Fun.ok{x qual:Str}{st:Stmt}{f:Addr}{fd:FuncData}{N ps:List Str}{k:Nat}{sp:Sp}(F:Fun K x qual st f fd)(S:aq N ps (ae st))(len:∀ vs H Q E,sp vs H Q E→vs.length=ps.length)
 (hbody:∀ (cdv:Value) (A:Around) (outer:List Env) (s:Shared) (H:Hp) (vs:List V) (Q:VK) (E:XK),dW k (A.deeper (envOfC qual (ae st) s.heap.objs.size f cdv))→sp vs H Q E →
   ∃ t,PSs (bO CX0 P w K mg base N qual (ae st) f cdv A outer s H E).nox (ci st) t∧t { nx:=fun _ H'=>Q .non H',rt:=Q } (cK N vs) H):kc P w K mg base CX0 (k+1) f fd ps sp:=by
 obtain ⟨oc,od,kV,doc,pm,an,cdv,ct,osl,rfl,lk,hcd⟩:=F.ex
 refine xl lk hcd S len fun A outer s H vs Q E hr hsp=> ?_
 obtain ⟨t,h,q⟩:=hbody cdv A outer s H vs Q E hr hsp;exact ⟨t,h.nox,q⟩
theorem Fun.binds{x qual:Str}{st:Stmt}{f:Addr}{fd:FuncData}{ps:List Str}(F:Fun K x qual st f fd)
 (h:∀ (kV doc pm:Value) (an:Option Addr) (cdv ct:Value) (us:List Value),us.length=ps.length→bindArgs (PySem.W.fnOf x qual (fq st) (ci st) (ae st) .none kV doc pm an cdv ct) ⟨us,[]⟩=pure (ps.zip us)):jX K fd ps []:=by
 obtain ⟨oc,od,kV,doc,pm,an,cdv,ct,osl,rfl,lk,hcd⟩:=F.ex;exact .all (h kV doc pm an cdv ct)
theorem sf{x qual:Str}{st:Stmt}{f:Addr}{oc:Value}{od an:Option Addr}{osl:Array (Option Value)}{kV doc pm cdv ct:Value}(l:K.lookup f=some ⟨oc,od,.func (PySem.W.fnOf x qual (fq st) (ci st) (ae st) .none kV doc pm an cdv ct),osl⟩)
 (c:PySem.W.codeIn K cdv qual=true) (k:PySem.W.keepIn K (.ref f)=true):Fun K x qual st f (PySem.W.fnOf x qual (fq st) (ci st) (ae st) .none kV doc pm an cdv ct):=⟨⟨oc,od,kV,doc,pm,an,cdv,ct,osl,rfl,l,c⟩,k⟩
end
theorem dj{n:Nat}(h:n≤1000):n < sizeLine:=Nat.lt_of_le_of_lt h (by decide)
section
variable{X:Cx}
theorem pv(i:Nat){x:Str}{pos:Pos}(hN:X.N[i]?=some x:=by rfl)(hv:Vis X.env.scope x:=by first | exact Or.inl rfl | exact Or.inr (Or.inl rfl) | exact Or.inr (Or.inr rfl))(hd:(x == ("__debug__" : Str))=false:=by decide)
 (hcd:(x == ("__classdict__" : Str))=false:=by decide):PE X (.Name x pos) (vH i):=ii hN hv hd hcd
theorem vf:aI X (.builtin "len") (fun xs H Q=>∃ a kvs,xs=[V.ref a]∧H a=some (.dK kvs)∧Q (.int kvs.length) H):=by
 intro pins s σ H xs us Q I r h;obtain ⟨a,kvs,rfl,ha,q⟩:=h;obtain ⟨u,rfl,ru⟩:=b4 r;cases ru
 exact d_len I (.inl ha) fun t s' I'=>⟨.int kvs.length,H,I',⟨t,rfl⟩,q⟩
end
def aj(H H':Hp):Prop:=∀ b o,H b=some o→H' b=some o
theorem aj.refl(H:Hp):aj H H:=fun _ _ h=>h
theorem aj.trans{H H1 H2:Hp}(a:aj H H1)(b:aj H1 H2):aj H H2:=fun c o h=>b c o (a c o h)
theorem aj.free{H H':Hp}(e:aj H H'){l:Addr}(h:H' l=Option.none):H l=Option.none:=by
 cases q:H l with
 | none=>rfl
 | some o =>
  rw [e l o q] at h;cases h
theorem aj.seq{K:PySem.W.Frag}{H H':Hp}{a:Addr}{xs:List V}(e:aj H H')(h:SqL K H a xs):SqL K H' a xs:=by
 rcases h with (h | ⟨o,h⟩) | h
 ·exact .inl (.inl (e _ _ h))
 ·exact .inl (.inr ⟨o,e _ _ h⟩)
 ·exact .inr h
section
variable{κ:Type}[DecidableEq κ]
end
end L2
namespace L2
open PySem PySem.Spec PyProof.Rows
def clF(env:Env):List (Str×NameKind)→List (Str×Addr)→List (Str×Addr)
 | [],acc=>acc
 | (n,k)::r,acc=>clF env r (if k == NameKind.free then (n,(env.cells.lookup n).getD 0)::acc else acc)
theorem lM{env:Env}{scope:Scope}(h:∀ y∈scope.names,y.2 = .free→∃ c,env.cells.lookup y.1=some c):closureFor scope env=pure (clF env scope.names []):=by
 have go:∀ (names:List (Str×NameKind)) (acc:List (Str×Addr)),(∀ y∈names,y.2 = .free→∃ c,env.cells.lookup y.1=some c) →
  (forIn names acc fun (x:Str×NameKind) (r:List (Str×Addr))=>(match x with
    | (name,kind)=>if (kind == NameKind.free)=true then do let a ← cellOf env name;pure (ForInStep.yield ((name,a)::r)) else pure (ForInStep.yield r):Sem (ForInStep (List (Str×Addr)))))=(pure (clF env names acc):Sem (List (Str×Addr))):=by
  intro names
  induction names with
  | nil=>intro acc _;rfl
  | cons x r ih =>
   intro acc hy;obtain ⟨n,k⟩:=x
   have ih':=fun a=>ih a fun y m=>hy y (AN _ m)
   rw [List.forIn_cons]
   cases hk:(k == NameKind.free) with
   | false =>
    dsimp only;rw [hk,if_neg A3,pure_bind]
    show _=pure (clF env r (if (k == NameKind.free)=true then _ else acc))
    rw [hk,if_neg A3];exact ih' acc
   | true =>
    obtain ⟨c,hc⟩:=hy (n,k) AT (by simpa using hk)
    have e:cellOf env n=pure c:=by unfold cellOf;rw [hc]
    dsimp only;rw [hk,if_pos rfl,e,pure_bind,pure_bind]
    show _=pure (clF env r (if (k == NameKind.free)=true then _ else acc))
    rw [hk,if_pos rfl,hc];exact ih' _
 unfold closureFor;have e:=go scope.names [] h
 show (forIn scope.names [] _ >>= _)=_
 refine (congrArg (fun z=>z >>= fun cs=>pure cs) e).trans ?_;rfl
theorem ko{env:Env}:∀ (names:List (Str×NameKind)) (acc:List (Str×Addr)),(∀ y∈names,y.2 = .free→∃ c,env.cells.lookup y.1=some c) →
 (∀ x c,acc.lookup x=some c→env.cells.lookup x=some c)→∀ x c,(clF env names acc).lookup x=some c→env.cells.lookup x=some c
 | [],acc,_,h,x,c,e=>h x c e
 | (n,k)::r,acc,hy,h,x,c,e=>by
  refine ko r _ (fun y m=>hy y (AN _ m)) (fun y d z=> ?_) x c e
  cases hk:(k == NameKind.free) with
  | false=>rw [hk,if_neg A3] at z;exact h y d z
  | true =>
   rw [hk,if_pos rfl] at z;obtain ⟨c',hc⟩:=hy (n,k) AT (by simpa using hk);rw [Ca] at z
   cases q:y == n with
   | true =>
    rw [q] at z
    have q':y=n:=by simpa using q
    subst q';have hc':env.cells.lookup y=some c':=hc;rw [hc'] at z ⊢;exact z
   | false=>rw [q] at z;exact h y d z
theorem oZ{env:Env}:∀ (names:List (Str×NameKind)) (acc:List (Str×Addr)) (x:Str),((x,NameKind.free)∈names∨∃ c,acc.lookup x=some c)→∃ c,(clF env names acc).lookup x=some c
 | [],acc,x,h=>by
  rcases h with h | h
  ·cases h
  ·exact h
 | (n,k)::r,acc,x,h=>by
  refine oZ r _ x ?_
  have keep:(∃ c,acc.lookup x=some c)→∃ c,(if (k == NameKind.free)=true then (n,(env.cells.lookup n).getD 0)::acc else acc).lookup x=some c:=fun hZ=>by
   obtain ⟨c,hc⟩:=hZ
   split
   ·rw [Ca]
    split
    ·exact ⟨_,rfl⟩
    ·exact ⟨c,hc⟩
   ·exact ⟨c,hc⟩
  rcases h with h | h
  ·rcases AQ.mp h with e | e
   ·have e1:x=n:=congrArg Prod.fst e
    have e2:NameKind.free=k:=congrArg Prod.snd e;subst e1 e2;refine .inr ⟨(List.lookup x env.cells).getD 0,?_⟩;rw [if_pos (by rfl),Ca,beq_self_eq_true]
   ·exact .inl e
  ·exact .inr (keep h)
theorem gu{env:Env}:∀ {names:List (Str×NameKind)} {x:Str} {k:NameKind},
 (names.map fun (n,k)=>if (k == NameKind.free&&env.scope.kind == .function&&env.kindOf n == some .cell) then (n,NameKind.cell) else (n,k)).lookup x=some k →
 (names.lookup x=some k)∨(k = .cell∧names.lookup x=some .free)
 | [],_,_,h=>by simp at h
 | (n,k')::r,x,k,h=>by
  have ih := @gu env r x k;have h:List.lookup x ((if (k' == NameKind.free&&env.scope.kind == .function&&env.kindOf n == some .cell)=true then (n,NameKind.cell) else (n,k'))::_)=some k:=h
  by_cases hc:(k' == NameKind.free&&env.scope.kind == .function&&env.kindOf n == some .cell)=true
  ·rw [if_pos hc,Ca] at h
   rw [Ca]
   cases hx:x == n with
   | true =>
    rw [hx] at h;have h':some NameKind.cell=some k:=h;cases h'
    have:k'=NameKind.free:=by
     have:=(AY _ _).mp ((AY _ _).mp hc).1;simpa using this.1
    subst this;exact .inr ⟨rfl,rfl⟩
   | false=>rw [hx] at h;exact ih h
  ·rw [if_neg hc,Ca] at h
   rw [Ca]
   cases hx:x == n with
   | true=>rw [hx] at h;exact .inl h
   | false=>rw [hx] at h;exact ih h
def blk(X:Cx)(sc:Scope)(cl:List (Str×Addr))(C:Addr)(fp:List Addr)(s:Shared)(H:Hp)(N:List Str):Cx :=
 { X with env:=compEnvC sc cl C X.env,N:=N,s₀:=s,H₀:=H,outer:=X.stack,ex:=fp,fn:=fun _=>false,pn:=[],xe:=fun _ _=>False }
structure qV(X:Cx)(sc:Scope)(M tgs:List Str):Prop where
 kind:sc.kind = .function
 names:∀ y∈sc.names,y.2 = .local→sc.names.lookup y.1=some .local
 nocell:∀ y∈sc.names,y.2 ≠ .cell
 free:∀ y∈sc.names,y.2 = .free→X.env.kindOf y.1=some .cell∨X.env.kindOf y.1=some .free
 len:M.length=X.N.length
 same:∀ p∈M.zip X.N,p.1=p.2∨p.1=("" : Str)
 dummy:sc.names.lookup ("" : Str)=none
 hid:∀ x∈M,sc.names.lookup x≠some .local
section
variable{X:Cx}
theorem Inv.blk{pins:List (Addr×Obj)}{σ:St}{H:Hp}{s s4:Shared}{sc:Scope}{M tgs:List Str}{C:Addr}{fp:List Addr}{m:Str→Option Value}(I:Inv X pins σ H s)(B:qV X sc M tgs)(hf:∀ b∈fp,pi X pins H b)(hfl:∀ b∈fp,b < s.heap.objs.size)
 (hC:s.heap.objs.size≤C) (hn:s4.heap.Ns C m) (hk:∀ b o,s.heap.get? b=some o→s4.heap.get? b=some o) (ho:s4.os=s.os) (hg:s4.gens=s.gens) :
 Inv (blk X sc (clF X.env sc.names []) C fp s H (M++tgs)) [] (σ++List.replicate tgs.length none) H s4:=by
 have hfr:∀ y∈sc.names,y.2 = .free→∃ c,X.env.cells.lookup y.1=some c:=fun y hy e=>I.ok.has _ (B.free y hy e)
 have hsub:∀ x c,(clF X.env sc.names []).lookup x=some c→X.env.cells.lookup x=some c:=ko sc.names [] hfr fun _ _ z=>by simp at z
 have hin:∀ x c,(clF X.env sc.names []).lookup x=some c→c < s.heap.objs.size:=fun x c e=>by
  obtain ⟨v,q⟩:=I.cell x c (hsub x c e);exact q.lt
 have hfree:∀ x,((relabel sc X.env).names.lookup x=some .cell∨(relabel sc X.env).names.lookup x=some .free)→sc.names.lookup x=some .free:=fun x hx=>by
  rcases hx with q | q
  ·rcases gu q with z | z
   ·exact absurd rfl (B.nocell _ (BG z))
   ·exact z.2
  ·rcases gu q with z | z
   ·exact z
   ·exact absurd z.1 (by decide)
 refine ⟨⟨I.ok.mod,B.kind,I.ok.glob,I.ok.blt,hC,fun x y c h1 h2=>I.ok.inj x y c (hsub x c h1) (hsub y c h2),fun x hx=> ?_,fun x c z=>absurd z A3,I.ok.hd,I.ok.frames,.inl rfl,fun b hb=>⟨?_,fun x c e=> ?_⟩,I.bs,?_,fun b o e z=> ?_,fun b hb=> ?_,I.stack,I.stkFree⟩,
  ho,?_,Un.kept hk,⟨m,hn,fun i x v h1 h2 h3=> ?_⟩,fun x c e=> ?_,I.hok.fresh hC,fun x c e=>I.freeC x c (hsub x c e),fun p hp=>absurd (show p∈([]:List (Addr×Obj)) from hp) (by simp),I.hok.kept hk,?_⟩
 ·exact oZ sc.names [] x (.inl (BG (hfree x hx)))
 ·exact AZ (Bb (hfl b hb) hC)
 ·exact (hf b hb).2.2.2.2.1 x c (hsub x c e)
 ·exact BL I.ok.bsz I.sz
 ·rcases (hf b z).2.2.2.1 with q | q
  ·exact I.ok.noex b o e q
  ·exact absurd (Bb (AL e) I.ok.bsz) (Nat.not_lt.mpr q)
 ·intro z
  rcases AQ.mp (I.stkSub b z) with q | q
  ·exact (hf b hb).2.1 q
  ·exact (hf b hb).2.2.1 q
 ·rw [hg];exact I.bare
 ·have hl:M.length=σ.length:=B.len.trans I.len.symm
  have hi:i < σ.length:=by
   by_cases hi:i < σ.length
   ·exact hi
   ·rw [Bp (by omega),B7] at h2
    split at h2<;>cases h2
  rw [A5 hi] at h2;have h1:(M++tgs)[i]?=some x:=h1;rw [A5 (by omega)] at h1;have hmem:x∈M:=AR h1
  have hx:sc.names.lookup x=some .free:=by
   rcases h3 with q | q | q
   ·rcases gu q with z | z
    ·exact absurd z (B.hid x hmem)
    ·exact absurd z.1 (by decide)
   ·exact hfree x (.inl q)
   ·exact hfree x (.inr q)
  have hNi:X.N[i]?=some x:=by
   have hi2:i < X.N.length:=by rw [← I.len];exact hi
   have hz:(M.zip X.N)[i]?=some (x,X.N[i]):=by
    rw [CT];exact ⟨h1,AD hi2⟩
   rcases B.same _ (AR hz) with q | q
   ·have q':x=X.N[i]:=q
    rw [AD hi2,q']
   ·have q':x=("" : Str):=q
    rw [q',B.dummy] at hx;cases hx
  have hk2:=B.free (x,.free) (BG hx) rfl;obtain ⟨m0,_,hl0⟩:=I.loc;obtain ⟨u,r,l⟩:=hl0 i x v hNi h2 (.inr hk2);refine ⟨u,r,.inr ?_⟩
  rcases l with ⟨k,_⟩ | ⟨_,c,ec,hcell⟩
  ·have k':X.env.kindOf x=some .local:=k
   rcases hk2 with q | q
   ·have q':X.env.kindOf x=some .cell:=q
    rw [k'] at q';cases q'
   ·have q':X.env.kindOf x=some .free:=q
    rw [k'] at q';cases q'
  ·obtain ⟨c',ec'⟩:=oZ (env:=X.env) sc.names [] x (.inl (BG hx))
   have:c'=c:=by
    have:=hsub x c' ec';rw [ec] at this;exact (Option.some.inj this).symm
   subst this;refine ⟨?_,c',ec',?_⟩
   ·rcases h3 with q | q | q
    ·rcases gu q with z | z
     ·rw [hx] at z;cases z
     ·exact absurd z.1 (by decide)
    ·exact .inl q
    ·exact .inr q
   ·obtain ⟨o,e1,e2⟩:=hcell
    exact ⟨o,hk _ _ e1,e2⟩
 ·obtain ⟨v,o,e1,e2⟩:=I.cell x c (hsub x c e)
  exact ⟨v,o,hk _ _ e1,e2⟩
 ·show (σ++_).length=(M++tgs).length
  rw [AV,AV,Bj,B.len,I.len]
def xM(X:Cx)(ifs:List Expr)(t:TT):Prop :=
 ∀ (pins:List (Addr×Obj)) (s:Shared) (σ:St) (H:Hp) (Q:Bool→Hp→Prop),Inv X pins σ H s→t σ H Q →
  wpAny (model X.prog X.w) X.A (forIn ifs true fun c r=>if r=true then do let ok ← isTrue c X.env (eval c X.env);pure (ForInStep.yield ok) else pure (ForInStep.yield r)) (TP X pins σ Q) X.xe s
def zT:TT:=fun _ H Q=>Q true H
theorem pif0:xM X [] zT:=fun pins s σ H Q I h=>wpAny_tests_nil ⟨H,I,h⟩
theorem pif1{c:Expr}{t:TT}(h:PT X c t):xM X [c] t:=fun pins s σ H Q I hw=>wpAny_tests_one (h pins s σ H Q I hw)
theorem jh{prog:Program}{w:World}{A:Around}{R:Result→Shared→Prop}{s:Shared}{elt target iter:Expr}{ifs:List Expr}{scope:Scope}{pos:Pos}{it acc:Value}{env:Env}(I:Nat→Shared→Prop)
 (turn:∀ n s,I n s→wpAny (model prog w) A (pyNext it) (fun r s₁=>match r with
   | none=>R (.ok .next) s₁
   | some v=>wpAny (model prog w) A (letOwnedTupleGo target it v) (fun _ s₁'=>wpAny (model prog w) A (assign target env v) (fun _ s₂ =>
    wpAny (model prog w) A (forIn ifs true fun c r=>if r=true then do let ok ← isTrue c env (eval c env);pure (ForInStep.yield ok) else pure (ForInStep.yield r)) (fun ok s₃ =>
     if ok=true then wpAny (model prog w) A (eval elt env) (fun x s₄ =>
      wpAny (model prog w) A (call (.builtin "list.append") [acc,x]) (fun _ s₅=>∃ m,m < n∧I m s₅) (fun _ _=>False) s₄) (fun _ _=>False) s₃
     else ∃ m,m < n∧I m s₃) (fun _ _=>False) s₂) (fun _ _=>False) s₁') (fun _ _=>False) s₁) (fun _ _=>False) s)
 (n:Nat) (h:I n s) :
 codeAny (model prog w) A (.compLoop (.ListComp elt [⟨target,iter,ifs,0⟩] scope pos) 0 it acc env) R s:=by
 refine codeAny_loop rfl I (fun n s hI=> ?_) n h
 show wpAny _ A ((compTurn (.ListComp elt [⟨target,iter,ifs,0⟩] scope pos) 0 it acc env).onRaise (fun x=>do noteFrame x env;theTreesLotGoes x)) _ _ s
 refine wpAny_noted ?_;rw [compTurn_list];refine AB (wpAny_standAt (AB (BQ (turn n s hI) (fun r s₁ h₁=> ?_) fun _ _ z=>z.elim)))
 cases r with
 | none=>exact AG h₁
 | some v =>
  refine AB (BQ h₁ (fun _ s₁' h₁'=> ?_) fun _ _ z=>z.elim);refine AB (BQ h₁' (fun _ s₂ h₂=>AB (BQ h₂ (fun ok s₃ h₃=> ?_) fun _ _ z=>z.elim)) fun _ _ z=>z.elim)
  cases ok with
  | false=>exact AG ⟨rfl,h₃⟩
  | true =>
   exact AB (AB (BQ h₃ (fun x s₄ h₄=>AB (BQ h₄ (fun _ s₅ h₅=>AG (AG ⟨rfl,h₅⟩)) fun _ _ z=>z.elim)) fun _ _ z=>z.elim))
def AA(J:It)(k:Nat)(g:TG)(tt:TT)(te:TE)(σ:St)(Q:VK)(H1:Hp):Prop:=∃ W:Nat→Nat→List V→Hp→Prop,(∃ m,W 0 m [] H1)∧∀ i m ys H,W i m ys H→ys.length≤sizeLine ∧
 ((J.stop i H∧∀ l,H l=none→Q (.ref l) (upd H l (.lst ys)))∨(J.go i H∧∀ x H',J.yld i H x H'→g x (σ++List.replicate k none) H' fun σ2 H2=>σ2.take σ.length=σ∧tt σ2 H2 fun b H3 =>
   if b=true then te σ2 H3 fun y H4=>∃ m',m' < m∧W (i+1) m' (ys++[y]) H4 else ∃ m',m' < m∧W (i+1) m' ys H3))
def sR(wi:TI)(k:Nat)(g:TG)(tt:TT)(te:TE):TE:=fun σ H Q=>wi σ H fun J H1=>AA J k g tt te σ Q H1
theorem HOk.track{P:Program}{w:World}{H:Hp}{h:Heap}{a:Addr}{o:HO}(x:HOk P w H h)(hn:H a=none)(new:bP P w (upd H a o) h a o):HOk P w (upd H a o) h:=fun b u e=>by
 by_cases hb:b=a
 ·subst hb
  rw [aD] at e;cases e;exact new
 ·rw [ar hb] at e
  exact (x b u e).stay (fun _ _ _ q=>q) (fun c q=>by rw [ar (au q hn)];exact q) fun c xs q=>by rw [ar (au q hn)];exact q
theorem sT{σ σ':St}{k:Nat}(h:σ'.take σ.length=σ):∀ (i:Nat) v,(σ++List.replicate k (none:Option V))[i]?=some (some v)→σ'[i]?=some (some v):=fun i v e=>by
 by_cases hi:i < σ.length
 ·rw [A5 hi,← h,List.getElem?_take_of_lt hi] at e
  exact e
 ·rw [Bp (by omega),B7] at e
  split at e<;>cases e
theorem yM{elt tg iter:Expr}{ifs:List Expr}{sc:Scope}{M tgs:List Str}{pos:Pos}{wi:TI}{g:TG}{tt:TT}{te:TE}(hc:X.calm=true)(B:qV X sc M tgs)(hi:PI X tg iter wi)
 (hg:∀ cl C fp s H,PG (blk X sc cl C fp s H (M++tgs)) tg g) (ht:∀ cl C fp s H,xM (blk X sc cl C fp s H (M++tgs)) ifs tt) (he:∀ cl C fp s H,PE (blk X sc cl C fp s H (M++tgs)) elt te)
 (hs:∀ x,foldedSetIterable iter X.env x=pure x:=by intro _;rfl):PE X (.ListComp elt [⟨tg,iter,ifs,0⟩] sc pos) (sR wi tgs.length g tt te):=by
 intro pins s σ H Q I h
 have hfr:∀ y∈sc.names,y.2 = .free→∃ c,X.env.cells.lookup y.1=some c:=fun y hy e=>I.ok.has _ (B.free y hy e)
 have hsub:∀ x c,(clF X.env sc.names []).lookup x=some c→X.env.cells.lookup x=some c:=ko sc.names [] hfr fun _ _ z=>by simp at z
 rw [eval_ListComp];refine wpAny_comprehension_free (use:=none) rfl hs (lM hfr) B.kind B.names (thn (hi pins s σ H _ I h) fun xv s₁ h₁=>thn h₁ fun itv s₂ h₂=> ?_);obtain ⟨it,fp,tn,J,H2,rfl,I2,T,st2,f2,W,⟨m0,w0⟩,turn⟩:=h₂
 have hfl:∀ b∈fp,b < s₂.heap.objs.size:=fun b hb=>by
  obtain ⟨o,e,_⟩:=T.obj _ _ st2 b hb;exact AL e
 refine Bf (wpAny_newFunctionEnv B.nocell (by intro y hy;simp at hy) (fun h₁ hns₁ hsb₁=> ?_) B.kind);dsimp only at hns₁ hsb₁ ⊢
 generalize hH2:s₂.heap.push { cls:= .type "list",dict:=none,data:= .seq ([]:List Value).toArray }=HH at hns₁ hsb₁ ⊢
 have hC:HH.objs.size=s₂.heap.objs.size+1:=by rw [← hH2,Be]
 generalize hCC:HH.objs.size=C at hC hns₁ hsb₁ ⊢
 generalize hDD:s₂.heap.objs.size=D at hC ⊢
 have hDC:D≠C:=by omega
 have below:∀ b,b < D→b≠C∧b≠D:=fun b hb=>⟨by omega,by omega⟩
 have old:∀ b o,s₂.heap.get? b=some o→h₁.get? b=some o:=fun b o e=>hsb₁.extBut b o (below b (hDD ▸ AL e)).1 (AC _ (hH2 ▸ AC _ e))
 have hacc:h₁.PlainList D #[]:=⟨_,hsb₁.extBut _ _ hDC (AC _ (by rw [← hH2,← hDD];exact AJ _ rfl))⟩
 have hCs:s₂.heap.objs.size≤C:=by omega
 generalize hS4:({ s₂ with heap:=h₁,toks:=s₂.toks+([]:List (Str×Value)).length }:Shared)=s₄
 have I4:Inv (blk X sc (clF X.env sc.names []) C fp s₂ H2 (M++tgs)) [] (σ++List.replicate tgs.length none) H2 s₄ :=
  I2.blk B f2 hfl hCs (by rw [← hS4];exact hns₁) (by rw [← hS4];exact old) (by rw [← hS4]) (by rw [← hS4])
 have hD4:s₄.heap.PlainList D #[]:=by rw [← hS4];exact hacc
 have st4:tn 0 s₄.heap:=by rw [← hS4];exact T.keep _ _ _ st2 fun b _ o e=>old b o e
 let X':=blk X sc (clF X.env sc.names []) C fp s₂ H2 (M++tgs)
 have nfs:∀ b,s₂.heap.objs.size≤b→b∉frs X.stack:=fun b hb z=>by
  rcases AQ.mp (I2.stkSub b z) with q | q
  ·rw [q] at hb;exact absurd I2.lt (Nat.not_lt.mpr hb)
  ·exact I2.nofs hb q
 have Dpin:∀ {s':Shared} {H':Hp} {its:Array Value} {n:Nat},s'.heap.get? D=some { cls:= .type "list",data:= .seq its n }→H' D=none →
  ∀ p∈[(D,({ cls:= .type "list",data:= .seq its n }:Obj))],s'.heap.get? p.1=some p.2∧H' p.1=none∧p.1≠X'.env.locals∧p.1∉X'.fs∧∀ v,p.2.data ≠ .cell v:=fun {s' H' its n} e hn p hp=>by
  have e1:p=(D,({ cls:= .type "list",data:= .seq its n }:Obj)):=by simpa using hp
  subst e1;exact ⟨e,hn,hDC,nfs D (by omega),fun v z=>by cases z⟩
 have fpk:∀ {pl:List (Addr×Obj)} {H':Hp},(∀ p∈pl,p.1=D)→(∀ b∈fp,H' b=none)→∀ b∈fp,pi X' pl H' b:=fun {pl H'} hpl hn b hb=>by
  refine ⟨hn b hb,(below b (hDD ▸ hfl b hb)).1,fun z=> ?_,.inl hb,fun x c e=>(f2 b hb).2.2.2.2.1 x c (hsub x c e),fun p hp=> ?_⟩
  ·rcases AQ.mp (I2.stkSub b z) with q | q
   ·exact (f2 b hb).2.1 q
   ·exact (f2 b hb).2.2.1 q
  ·have hp':p∈pl:=by simpa [X',blk] using hp
   rw [hpl p hp'];exact Ne.symm (below b (hDD ▸ hfl b hb)).2
 have cellD:∀ x c,X'.env.cells.lookup x=some c→c≠D:=fun x c e z=>by
  obtain ⟨v,q⟩:=I2.cell x c (hsub x c e);have q:=q.lt;rw [z,hDD] at q;exact Ci _ q
 have loop:codeAny (model X.prog X.w) X.A (.compLoop (.ListComp elt [⟨tg,iter,ifs,0⟩] sc pos) 0 (.ref it) (.ref D) (compEnvC sc (clF X.env sc.names []) C X.env))
  (compPost (model X.prog X.w) X.A X.xe none (EP X pins σ Q) (.ref D) C) s₄:=by
  refine jh (fun n s'=>∃ i ys its k H',Inv X' [(D,{ cls:= .type "list",data:= .seq its k })] (σ++List.replicate tgs.length none) H' s'∧aG ys its.toList∧tn i s'.heap∧(∀ b∈fp,H' b=none)∧W i n ys H') ?_ m0 ?_
  ·rintro n s5 ⟨i,ys,its,k,H5,I5,hv,st5,fr5,w5⟩
   obtain ⟨hz,w5⟩:=turn i n ys H5 w5;have hD5:=I5.pin (D,{ cls:= .type "list",data:= .seq its k }) (AH _ (by simp))
   have one:∀ p∈[(D,({ cls:= .type "list",data:= .seq its k }:Obj))],p.1=D:=fun p hp=>by
    have:p=(D,({ cls:= .type "list",data:= .seq its k }:Obj)):=by simpa using hp
    rw [this]
   rcases w5 with ⟨stop,qn⟩ | ⟨go,step⟩
   ·refine thn (T.done X' rfl rfl rfl hc i _ s5 _ H5 _ I5 (fpk one fr5) st5 stop) fun r s6 ⟨hr,I6⟩=> ?_
    subst hr;obtain ⟨m6,hn6,_⟩:=I6.loc;refine ⟨m6,hn6,fun h7 hs7=> ?_⟩;have hs7:Heap.SameBut C s6.heap h7:=hs7;obtain ⟨e6,n6,_⟩:=I6.pin (D,{ cls:= .type "list",data:= .seq its k }) (AH _ (by simp));have hC6:H5 C=none:=I6.free
    have ok7:HOk X.prog X.w H5 h7:=fun b o e=>(I6.hok b o e).stay (fun c w' hc' q=>(hs7.2 c (by
     rintro rfl
     rcases hc' with rfl | hc'
     ·rw [hC6] at e;cases e
     ·rw [hC6] at hc';cases hc')).trans q) (fun _ q=>q) fun _ _ q=>q
    have e7:h7.get? D=some { cls:= .type "list",data:= .seq its k }:=(hs7.2 D hDC).trans e6;have hln:ys.length≤sizeLine:=hz;have ok8:HOk X.prog X.w (upd H5 D (.lst ys)) h7:=ok7.track n6 ⟨hln,its.toList,k,hv,by simpa using e7⟩;have un:Un (frs X.stack) fp H2 H5 s₂.heap s6.heap:=I6.base
    have neC:∀ b o,s₂.heap.get? b=some o→b≠C∧b≠D:=fun b o e=>below b (hDD ▸ AL e)
    have un7:Un (frs X.stack) fp H2 (upd H5 D (.lst ys)) s₂.heap h7:=by
     refine ⟨fun b o e n hb hx=>(hs7.2 b (neC b o e).1).trans (un.keep b o e n hb hx),fun b o e n hb hx=> ?_,fun b o e n hx=> ?_,fun b o e hx=> ?_,fun b xs e=> ?_,fun b o u e=> ?_,fun b ps e=> ?_⟩
     ·obtain ⟨sl,q⟩:=un.slot b o e n hb hx
      exact ⟨sl,(hs7.2 b (neC b o e).1).trans q⟩
     ·rw [ar (neC b o e).2];exact un.free b o e n hx
     ·obtain ⟨o',q⟩:=un.there b o e hx
      exact ⟨o',(hs7.2 b (neC b o e).1).trans q⟩
     ·have q:=un.tups b xs e
      rw [ar (au q n6)];exact q
     ·have q:=un.frzs b o u e
      rw [ar (au q n6)];exact q
     ·obtain ⟨more,q⟩:=un.tbls b ps e
      exact ⟨more,by rw [ar (au q n6)];exact q⟩
    refine ⟨.ref D,upd H5 D (.lst ys),I2.call' (ch:=fp) ?_ un7 ok8 I6.bare (fun b hb=>⟨(f2 b hb).2.2.2.1,(f2 b hb).2.1,(f2 b hb).2.2.2.2.1,(f2 b hb).2.2.2.2.2⟩),rfl,qn D n6⟩;exact I6.os
   ·refine thn (T.item X' rfl rfl rfl hc i _ s5 _ H5 _ I5 (fpk one fr5) st5 go) fun r s6 ⟨u,hr,h6⟩=> ?_
    subst hr
    refine thn h6 fun _ s7 ⟨x,H7,I7,r7,y7,st7,fr7⟩=> ?_
    have I7':=I7.pinned (fpk one fr7) (T.obj _ _ st7)
    refine thn (hg _ _ _ _ _ _ s7 _ H7 x u _ I7' r7 (step x H7 y7)) fun _ s8 ⟨σ8,H8,I8,tk8,q8⟩=> ?_
    refine thn (ht _ _ _ _ _ _ s8 σ8 H8 _ I8 q8) fun b s9 ⟨H9,I9,q9⟩=> ?_
    have weak:∀ {pl:List (Addr×Obj)} {H':Hp} {s':Shared},Inv X' pl σ8 H' s'→Inv X' pl (σ++List.replicate tgs.length none) H' s':=fun {pl H' s'} J=>J.weak (by
     have e1:σ8.length=(M++tgs).length:=J.len
     rw [e1,AV,AV,Bj,B.len,I2.len]) (sT tk8)
    have fin:∀ {H':Hp} {s':Shared},Inv X' ([(D,{ cls:= .type "list",data:= .seq its k })]++jn fp s7.heap) σ8 H' s'→tn (i+1) s'.heap∧∀ b∈fp,H' b=none:=fun {H' s'} J=>by
     refine ⟨T.keep _ _ _ st7 fun b hb o e=>(J.pin (b,o) (AH _ (AH _ (dy hb e)))).1,fun b hb=> ?_⟩;obtain ⟨o,e,d⟩:=T.obj _ _ st7 b hb;exact (J.pin (b,o) (AH _ (AH _ (dy hb e)))).2.1
    cases b with
    | false =>
     rw [if_neg A3] at q9 ⊢;obtain ⟨m',hm,w9⟩:=q9;exact ⟨m',hm,i+1,ys,its,k,H9,weak I9.unpinned,hv,(fin I9).1,(fin I9).2,w9⟩
    | true =>
     rw [if_pos rfl] at q9 ⊢
     refine thn (he _ _ _ _ _ _ s9 σ8 H9 _ I9 q9) fun y s10 ⟨yv,H10,I10,r10,q10⟩=> ?_
     obtain ⟨m',hm,w10⟩:=q10;obtain ⟨e10,n10,_⟩:=I10.pin (D,{ cls:= .type "list",data:= .seq its k }) (AH _ (AK _ (by simp)))
     have hsz:its.size≤sizeLine:=by
      have e1:=hv.length
      have e2:its.toList.length=its.size:=by simp
      omega
     refine wpAny_list_append_plain (hsz:=hsz) ⟨k,e10⟩ fun h11 hl11 hs11=> ?_
     obtain ⟨k',e11⟩:=hl11
     have J0:Inv X' [] σ8 H10 s10:=I10.pins_of fun p hp=>by simp at hp
     have J1:Inv X' [] σ8 H10 { s10 with heap:=h11 }:=J0.turned (t':=s10.toks) (it:=D) (fun b o hb e=>(hs11.2 b hb).trans e) n10 hDC (.inr (by show s₂.heap.objs.size≤D;omega)) cellD (fun p hp=>by
      have hp':p∈([]:List (Addr×Obj)):=by simpa [X',blk] using hp
      simp at hp')
     have J2:Inv X' [(D,{ cls:= .type "list",data:= .seq (its.push y) k' })] σ8 H10 { s10 with heap:=h11 }:=J1.pins_of (Dpin e11 n10);refine ⟨m',hm,i+1,ys++[yv],its.push y,k',H10,weak J2,?_,?_,(fin I10).2,w10⟩
     ·rw [Array.toList_push]
      exact hv.append (.cons r10 .nil)
     ·refine T.keep _ _ _ (fin I10).1 fun b hb o e=>(hs11.2 b ?_).trans e
      exact (below b (hDD ▸ hfl b hb)).2
  ·obtain ⟨k,e⟩:=hD4
   exact ⟨0,[],#[],k,H2,I4.pins_of (Dpin e (I2.hok.fresh (by omega))),.nil,st4,fun b hb=>(f2 b hb).1,w0⟩
 exact codeAny_compStart_list loop (T.self _ _ _ _ _ st4 loop)
end
end L2
namespace HT
open PySem PySem.Spec PyProof.Rows PySem.SeqAt
section
open PySem.SeqAt
open PySem.AutoSeq1 (wpAny_loadPart')
open PySem.MeetsSeq PySem.MeetsSeq2 PySem.MeetsSeq3
end
section
variable{prog:Program}{w:World}{A:Around}{E:Value→Shared→Prop}{s:Shared}
end
end HT
namespace L2
open PySem PySem.Spec PyProof.Rows
section
variable{X:Cx}
def An(K:PySem.W.Frag)(H:Hp)(T:String):V→Prop
 | .non=>T = "NoneType"
 | .bl _=>T = "bool"
 | .int _=>T = "int"
 | .str _=>T = "str"
 | .ref p=>(T = "list" ∧ ∃ xs,SqL K H p xs)∨(T = "tuple" ∧ ∃ xs,SqT K H p xs)∨(T = "dict" ∧ ((∃ kvs,H p=some (.dK kvs))∨∃ kvs,H p=some (.dT kvs)))
 | _=>False
def zj(T C:String):Bool:=T == C||(T == "bool" && C == "int")
def isiC(C:String):Prop:=C = "int" ∨ C = "bool" ∨ C = "tuple" ∨ C = "list" ∨ C = "str"
def rIsi(K:PySem.W.Frag):List V→Hp→VK→Prop:=fun xs H Q=>∃ x T C,xs=[x,.ty C]∧isiC C∧An K H T x∧Q (.bl (zj T C)) H
theorem xC:aI X (.builtin "isinstance") (rIsi X.K):=by
 intro pins s σ H xs us Q I r h;obtain ⟨x,T,C,rfl,hC,hk,q⟩:=h;obtain ⟨u,w',rfl,rx,rc⟩:=pp r;cases rc
 have fin:∀ (b:Bool) (t:Nat),b=zj T C→EP X pins σ Q (.bool b) { s with toks:=t }:=fun b t e=>⟨.bl b,H,I.tok t,rfl,by rw [e];exact q⟩
 have fin0:∀ (b:Bool),b=zj T C→EP X pins σ Q (.bool b) s:=fun b e=>⟨.bl b,H,I,rfl,by rw [e];exact q⟩
 cases x with
 | non =>
  cases rx;cases (show T = "NoneType" from hk)
  rcases hC with rfl | rfl | rfl | rfl | rfl
  ·exact IsiPair.NoneType_int (fin _ _ rfl)
  ·exact IsiPair.NoneType_bool (fin _ _ rfl)
  ·exact IsiPair.NoneType_tuple (fin _ _ rfl)
  ·exact IsiPair.NoneType_list (fin _ _ rfl)
  ·exact IsiPair.NoneType_str (fin _ _ rfl)
 | bl b =>
  cases rx;cases (show T = "bool" from hk)
  rcases hC with rfl | rfl | rfl | rfl | rfl
  ·exact IsiPair.bool_int (fin0 _ rfl)
  ·exact IsiPair.bool_bool (fin0 _ rfl)
  ·exact IsiPair.bool_tuple (fin _ _ rfl)
  ·exact IsiPair.bool_list (fin _ _ rfl)
  ·exact IsiPair.bool_str (fin _ _ rfl)
 | int i =>
  obtain ⟨t,rfl⟩:=rx;cases (show T = "int" from hk)
  rcases hC with rfl | rfl | rfl | rfl | rfl
  ·exact IsiPair.int_int (fin0 _ rfl)
  ·exact IsiPair.int_bool (fin _ _ rfl)
  ·exact IsiPair.int_tuple (fin _ _ rfl)
  ·exact IsiPair.int_list (fin _ _ rfl)
  ·exact IsiPair.int_str (fin _ _ rfl)
 | str z =>
  obtain ⟨t,rfl⟩:=rx;cases (show T = "str" from hk)
  rcases hC with rfl | rfl | rfl | rfl | rfl
  ·exact IsiPair.str_int (fin _ _ rfl)
  ·exact IsiPair.str_bool (fin _ _ rfl)
  ·exact IsiPair.str_tuple (fin _ _ rfl)
  ·exact IsiPair.str_list (fin _ _ rfl)
  ·exact IsiPair.str_str (fin0 _ rfl)
 | ref p =>
  cases rx
  rcases hk with ⟨rfl,xs,hq⟩ | ⟨rfl,xs,hq⟩ | ⟨rfl,hk⟩
  ·obtain ⟨its,_,pl,_⟩:=I.list hq
   obtain ⟨o,n,e,c,hd,_⟩:=pl
   rcases hC with rfl | rfl | rfl | rfl | rfl
   ·exact IsiPair.list_int e c (fin _ _ rfl)
   ·exact IsiPair.list_bool e c (fin _ _ rfl)
   ·exact IsiPair.list_tuple e c (fin _ _ rfl)
   ·exact IsiPair.list_list e c (fin0 _ rfl)
   ·exact IsiPair.list_str e c (fin _ _ rfl)
  ·obtain ⟨its,_,⟨o,e,c,_⟩,_⟩:=I.tuple hq
   rcases hC with rfl | rfl | rfl | rfl | rfl
   ·exact IsiPair.tuple_int e c (fin _ _ rfl)
   ·exact IsiPair.tuple_bool e c (fin _ _ rfl)
   ·exact IsiPair.tuple_tuple e c (fin0 _ rfl)
   ·exact IsiPair.tuple_list e c (fin _ _ rfl)
   ·exact IsiPair.tuple_str e c (fin _ _ rfl)
  ·have z:∃ o,s.heap.get? p=some o∧o.cls = .type "dict" := by
    rcases hk with ⟨kvs,hk⟩ | ⟨kvs,hk⟩
    ·obtain ⟨_,_,_,_,o,_,_,e,ex,_⟩:=I.hok p _ hk
     exact ⟨o,e,ex.1⟩
    ·obtain ⟨_,_,_,_,o,_,_,e,ex,_⟩:=I.hok p _ hk
     exact ⟨o,e,ex.1⟩
   obtain ⟨o,e,c⟩:=z
   rcases hC with rfl | rfl | rfl | rfl | rfl
   ·exact IsiPair.dict_int e c (fin _ _ rfl)
   ·exact IsiPair.dict_bool e c (fin _ _ rfl)
   ·exact IsiPair.dict_tuple e c (fin _ _ rfl)
   ·exact IsiPair.dict_list e c (fin _ _ rfl)
   ·exact IsiPair.dict_str e c (fin _ _ rfl)
 | _=>exact False.elim hk
end
end L2
namespace RawD
open PySem PySem.Spec PyProof.Rows PySem.W
def At(h:Heap)(d:Addr)(es:Array DictEntry)(ep:Nat):Prop:=∃ o,h.get? d=some o∧o.ExactDict∧o.data = .dict es ep
theorem At.keep{h h':Heap}{d:Addr}{es:Array DictEntry}{ep:Nat}(x:At h d es ep)(k:∀ o,h.get? d=some o→h'.get? d=some o):At h' d es ep:=let ⟨o,a,r⟩:=x;⟨o,k o a,r⟩
theorem At.ty{s:Shared}{d:Addr}{es:Array DictEntry}{ep:Nat}(x:At s.heap d es ep):s.TypeIs (.ref d) "dict" := let ⟨o,a,b,_⟩:=x;⟨o,a,b.1⟩
theorem At.lt{h:Heap}{d:Addr}{es:Array DictEntry}{ep:Nat}(x:At h d es ep):d < h.objs.size:=let ⟨_,a,_⟩:=x;AL a
section
variable{prog:Program}{w:World}{A:Around}{E:Value→Shared→Prop}{s:Shared}{d it:Addr}{es:Array DictEntry}{ep i:Nat}
theorem iter{Q:Value→Shared→Prop}(lo:(d == sysModules)=false)(x:At s.heap d es ep)
 (q:Q (.ref s.heap.objs.size) { s with heap:=s.heap.push { cls:= .type "dict_keyiterator",data:= .fields #[.ref d,.int 0 0,.int es.size 0,.int ep 0] } }) :
 wpAny (model prog w) A (pyIter (.ref d)) Q E s:=by
 have ty:=x.ty;obtain ⟨o,a1,a2,a3⟩:=x;refine wpAny_pyIter_slot ty F.slot_dict_iter (Br F.slot_dict_iter ty F.entry_dict_iter ?_ (F.args_dict_iter_1 _));unfold Builtin.«dict.__iter__»;refine AB ?_;unfold Builtin.Dict.dictSlotNone;refine AB (wpAny_notOrdered_dict ty ?_)
 show wpAny _ _ (pure (Value.ref d)) _ _ s
 refine AG ?_
 show wpAny _ _ (Builtin.Dict.showsAll d >>= _) _ _ s
 unfold Builtin.Dict.showsAll;rw [if_neg (by rw [lo];exact A3)];refine AB (AG ?_);refine AB (wpAny_dictEntries a1 a3 (AB (wpAny_dictEpoch a1 a3 ?_)));exact AB (Bf (AG ⟨_,rfl, "dict_keyiterator",_,⟨_,AJ _ rfl,rfl⟩,F.slot_dict_keyiterator_next.lookup,q⟩))
theorem item{Q:Option Value→Shared→Prop}(hit:s.heap.IsKeyIter it d i es.size ep)(x:At s.heap d es ep)(hi:i < es.size)
 (q:∀ h',h'.IsKeyIter it d (i+1) es.size ep→Heap.SameBut it s.heap h'→Q (some es[i].key) { s with heap:=h' }):wpAny (model prog w) A (pyNext (.ref it)) Q E s:=by
 obtain ⟨oi,b1,b2,b3⟩:=id hit;obtain ⟨o,a1,a2,a3⟩:=x;unfold pyNext
 refine AB (wpAny_attempt (Bh (name:=Str.ofString "__next__") hit.typeIs F.slot_dict_keyiterator_next
  (Br F.slot_dict_keyiterator_next hit.typeIs F.entry_dict_keyiterator_next ?_ (F.args_dict_keyiterator_next_1 _))))
 refine AB (AG (AB (AB ?_)))
 first | refine AB (B8 hit.typeIs (AG ?_)) | refine AB (Cs hit.typeIs (AG ?_))
 refine AB (wpAny_fieldsOf b1 b3 ?_)
 have no:Builtin.Dict_items.ownsTuple "dict_keyiterator" = false:=by decide
 simp only [no,CB,if_false]
 show wpAny _ _ (if (Value.ref d == Value.none)=true then _ else _) _ _ s
 rw [if_neg (show ¬ ((Value.ref d == Value.none)=true) from A3)];refine AB (AG (AB (wpAny_dictEntries a1 a3 ?_)));rw [if_neg (by simp)];refine AB (AG (AB (wpAny_dictEpoch a1 a3 ?_)));rw [if_neg (by simp)];refine AG ?_;simp only [show ¬ ((i:Int) < 0) from by omega,if_false,B4,B0 hi];refine AB ?_
 first | refine AB (B8 hit.typeIs (AG ?_)) | refine AB (Cs hit.typeIs (AG ?_))
 refine AB (wpAny_isOneOf_keyiter hit.typeIs ?_)
 show wpAny _ _ (setField (.ref it) 1 (rawInt ((i:Int)+1)) >>= _) _ _ s
 refine AB (BZ b1 b3 (by simp) ?_)
 have on:(s.heap.update it (Obj.mapFields (·.setIfInBounds 1 (rawInt ((i:Int)+1))))).IsKeyIter it d (i+1) es.size ep :=
  ⟨_,BI _ b1 (Obj.isFreed_of_fields (CO b3 _)),(Obj.cls_mapFields ..).trans b2,by rw [CO b3];simp [rawInt]⟩
 refine AB (BS (AB (wpAny_isOneOf_keyiter (s:={ s with heap:=s.heap.update it (Obj.mapFields (·.setIfInBounds 1 (rawInt ((i:Int)+1)))) }) on.typeIs ?_)))
 show wpAny _ _ (pure es[i].key) _ _ _
 exact AG (AG ⟨_,rfl,AG (q _ on (Heap.SameBut.update ..))⟩)
theorem stop{Q:Option Value→Shared→Prop}(hh:A.handled=none)(hit:s.heap.IsKeyIter it d i es.size ep)(x:At s.heap d es ep)(hi:es.size≤i)
 (q:∀ h',Heap.ExtBut it s.heap h'→Q none { s with heap:=h' }):wpAny (model prog w) A (pyNext (.ref it)) Q E s:=by
 obtain ⟨oi,b1,b2,b3⟩:=id hit;obtain ⟨o,a1,a2,a3⟩:=x;unfold pyNext
 refine AB (wpAny_attempt (Bh (name:=Str.ofString "__next__") hit.typeIs F.slot_dict_keyiterator_next
  (Br F.slot_dict_keyiterator_next hit.typeIs F.entry_dict_keyiterator_next ?_ (F.args_dict_keyiterator_next_1 _))))
 refine AB (AG (AB (AB ?_)))
 first | refine AB (B8 hit.typeIs (AG ?_)) | refine AB (Cs hit.typeIs (AG ?_))
 refine AB (wpAny_fieldsOf b1 b3 ?_)
 have no:Builtin.Dict_items.ownsTuple "dict_keyiterator" = false:=by decide
 simp only [no,CB,if_false]
 show wpAny _ _ (if (Value.ref d == Value.none)=true then _ else _) _ _ s
 rw [if_neg (show ¬ ((Value.ref d == Value.none)=true) from A3)];refine AB (AG (AB (wpAny_dictEntries a1 a3 ?_)));rw [if_neg (by simp)];refine AB (AG (AB (wpAny_dictEpoch a1 a3 ?_)));rw [if_neg (by simp)];refine AG ?_;simp only [show ¬ ((i:Int) < 0) from by omega,if_false,B4,Array.getElem?_eq_none hi];refine AB ?_
 first | refine AB (B8 hit.typeIs (AG ?_)) | refine AB (Cs hit.typeIs (AG ?_))
 show wpAny _ _ (setField (.ref it) 0 .none >>= _) _ _ s
 refine AB (BZ b1 b3 (by simp) ?_)
 show wpAny _ _ (newExc (.type "StopIteration") [] >>= _) _ _ _
 refine AB ?_;simp only [newExc,newTuple];refine AB (Bf ?_ (by size_fits));refine AB (m:=firstArgMember _ _) (wpAny_of_eq (a:=Value.none) (by first | rfl | (simp only [firstArgMember];rfl)) ?_);refine Bf ?_ (by size_fits);simp only [raiseNew];refine AB (wpAny_handled ?_);rw [show A.in1.handled=none from hh];refine AB (AG (wpAny_throw ?_));refine AB (wpAny_isInstance (T := "StopIteration") (b:=true) ⟨_,AJ _ rfl,rfl⟩ isSubtype_stop ?_);exact AG (q _ (((Heap.SameBut.update ..).extBut.push _).push _))
theorem walks(hh:A.handled=none)(I d:Addr)(hne:d≠I)(es:Array DictEntry)(ep:Nat) :
 Walks prog w A I [I,d] [I] es.size (fun i v=>∃ h:i < es.size,v=es[i].key) (fun i h=>h.IsKeyIter I d i es.size ep∧At h d es ep) where
 sub:=fun b hb=>by simp at hb;simp [hb]
 frame:=fun _ _ _ st hk=>⟨st.1.at fun o e=>hk I (by simp) o e,st.2.keep fun o e=>hk d (by simp) o e⟩
 item:=fun i s Q E hi st hQ=>item st.1 st.2 hi fun h' a b=>hQ _ h' s.toks ⟨hi,rfl⟩ ⟨a,st.2.keep fun o e=>b.extBut d o hne e⟩ fun b' o hb e=>b.extBut b' o (fun h=>hb (by simp [h])) e
 done:=fun s Q E st hQ=>stop hh st.1 st.2 (AO _) fun h' he'=>hQ h' s.toks fun b o hb e=>he' b o (fun h=>hb (by simp [h])) e
 self:=fun _ _ _ _ st hQ=>wpAny_pyIter_keyiter st.1 hQ
theorem src(lo:(d == sysModules)=false):KdlSrc prog w "dict" d d es.size (fun i v=>∃ h:i < es.size,v=es[i].key) (fun h=>At h d es ep) where
 type:=fun _ x=>x.ty
 there:=fun _ x=>⟨x.lt,x.lt⟩
 keep:=fun _ _ x hk=>x.keep fun o e=>hk d (.inl rfl) o e
 notList:=by decide
 notTuple:=by decide
 hint:=fun _ _ _ _ x q=>kdl_hint_dict x.ty q
 iter:=fun _ _ hh x=>⟨_,_,(fun _ _ q=>iter lo x q),walks hh _ d (AZ x.lt) es ep,⟨⟨_,AJ _ rfl,rfl,rfl⟩,x.keep fun _ e=>AC _ e⟩⟩
end
end RawD
namespace RawD
open PySem PySem.Spec PyProof.Rows PySem.W
section
variable{prog:Program}{w:World}{A:Around}{E:Value→Shared→Prop}{s:Shared}{d:Addr}{es:Array DictEntry}{ep:Nat}
theorem uD(lo:(d == sysModules)=false) :
 MeetsIn prog w (Builtin.«dict.__len__» ⟨[.ref d],[]⟩) (fun _ R s=>∃ es ep,At s.heap d es ep∧R (.ok (.ret (.int es.size s.toks))) { s with toks:=s.toks+1 }) :=
 .of_wp fun A R s hZ=>by
  obtain ⟨es,ep,x,h⟩:=hZ;obtain ⟨o,a1,a2,a3⟩:=x
  show wpAny _ _ (dictSize d >>= _) _ _ s
  unfold dictSize;refine AB (AB (wpAny_dictEntries a1 a3 (AG ?_)))
  show wpAny _ _ (Builtin.Dict.pendingCount d >>= _) _ _ s
  refine AB (wpAny_pendingCount_other lo (wpAny_ret_mkInt ?_));rw [Nat.add_zero];exact h
theorem len{Q:Value→Shared→Prop}(lo:(d == sysModules)=false)(x:At s.heap d es ep)(fit:(es.size:Int) < 2 ^ 63)
 (h:Q (.int es.size (s.toks+1)) { s with toks:=s.toks+1+1 }):wpAny (model prog w) A (call (.builtin "len") [.ref d]) Q E s:=by
 refine Calls.call_function_entry kind_len plain_len entry_len (args_len1 _) ?_;unfold Builtin.«len»;refine AB (m:=oneArg "len" _) (AG ?_)
 refine AB (m:=callSpecial? (.ref d) (Str.ofString "__len__")) (Bh (name:=Str.ofString "__len__") x.ty F.slot_dict_len
  (call_meetsIn F.slot_dict_len x.ty F.entry_dict_len (F.args_dict_len_1 _) (uD lo) ⟨es,ep,x,?_⟩))
 show wpAny _ _ _ _ _ { s with toks:=s.toks+1 }
 refine AB (BS (AG (AB (wpAny_letGo ?_))))
 show wpAny _ _ (if ((es.size:Nat):Int) < 0 then _ else _) _ _ _
 rw [if_neg (by omega)]
 show wpAny _ _ (if ((es.size:Nat):Int)≥2 ^ 63 then _ else _) _ _ _
 rw [if_neg (by omega)];exact AB (wpAny_mkInt (AG ⟨_,rfl,h⟩))
end
end RawD
namespace L2
open PySem PySem.Spec PyProof.Rows
section
variable{X:Cx}
theorem rC{P:Program}{w:World}{H:Hp}{h:Heap}{a:Addr}{kvs:List (List Key×V)}(ok:HOk P w H h)(e:H a=some (.dT kvs)) :
 kvs.length≤sizeLine∧(a == sysModules)=false∧(kvs.map (·.1)).Nodup∧∃ es ep,RawD.At h a es ep∧es.size=kvs.length∧∀ i (hi:i < es.size),∃ b k v,es[i].key = .ref b∧kvs[i]?=some (k,v)∧H b=some (.tup (k.map kV)):=by
 obtain ⟨z,y,xs,r,o,es,ep,h1,h2,h3,h4,h5⟩:=(show bP P w H h a (.dT kvs) from ok a _ e);have hl:=r.length
 have hl2:es.size=xs.length:=by
  have:=congrArg List.length h4;simpa using this
 have keys:∀ {l:List (List Key×V)} {m:List (List Key×Addr×Value)},
  Paired (fun (p:List Key×V) (q:List Key×Addr×Value)=>p.1=q.1∧H q.2.1=some (.tup (p.1.map kV))∧aR p.2 q.2.2) l m→l.map (·.1)=m.map (·.1):=by
  intro l m pr
  induction pr with
  | nil=>rfl
  | cons hd _ ih=>rw [AU,AU,ih,hd.1]
 refine ⟨z,y,by rw [keys r];exact h5,es,ep,⟨o,h1,h2,h3⟩,hl2.trans hl.symm,fun i hi=> ?_⟩
 have hx:i < xs.length:=by omega
 have get:∀ {l:List (List Key×V)} {m:List (List Key×Addr×Value)} {i:Nat} {q:List Key×Addr×Value},
  Paired (fun (p:List Key×V) (q:List Key×Addr×Value)=>p.1=q.1∧H q.2.1=some (.tup (p.1.map kV))∧aR p.2 q.2.2) l m→m[i]?=some q→∃ p,l[i]?=some p∧p.1=q.1∧H q.2.1=some (.tup (p.1.map kV)):=by
  intro l m i q pr
  induction pr generalizing i with
  | nil=>intro e;simp at e
  | cons hd _ ih =>
   intro e
   cases i with
   | zero=>simp at e;subst e;exact ⟨_,rfl,hd.1,hd.2.1⟩
   | succ i=>simp at e;exact ih e
 obtain ⟨p,e1,_,e2⟩:=get (i:=i) r (AD hx);refine ⟨xs[i].2.1,p.1,p.2,?_,e1,e2⟩
 have:es[i]=entryOfKey (tupleKind (bi P w)) xs[i]:=by
  have q:es.toList[i]?=some (entryOfKey (tupleKind (bi P w)) xs[i]):=by rw [h4];simp [hx]
  rw [BY,B0 hi] at q;exact Option.some.inj q
 rw [this];rfl
theorem ve:aI X (.builtin "len") (fun xs H Q=>∃ a kvs,xs=[V.ref a]∧H a=some (.dT kvs)∧Q (.int kvs.length) H):=by
 intro pins s σ H xs us Q I r h;obtain ⟨a,kvs,rfl,ha,q⟩:=h;obtain ⟨u,rfl,ru⟩:=b4 r;cases ru;obtain ⟨z,lo,_,es,ep,x,hl,_⟩:=rC I.hok ha;exact RawD.len lo x (by rw [hl];rw [sizeLine_eq] at z;omega) ⟨.int kvs.length,H,I.tok _,⟨_,by rw [hl]⟩,q⟩
theorem sy(hc:X.calm=true):aI X (.type "list") (fun xs H Q=>∃ a kvs,xs=[V.ref a]∧H a=some (.dT kvs) ∧
 ∀ l bs,H l=none→(kvs.map (·.1)).Nodup→bs.length=kvs.length→(∀ (i:Nat) k v,kvs[i]?=some (k,v)→∃ b,bs[i]?=some (V.ref b)∧H b=some (.tup (k.map kV)))→Q (.ref l) (upd H l (.lst bs))):=by
 intro pins s σ H xs us Q I r h;obtain ⟨a,kvs,rfl,ha,q⟩:=h;obtain ⟨u,rfl,ru⟩:=b4 r;cases ru;obtain ⟨z,lo,nd,es,ep,x,hl,hk⟩:=rC I.hok ha
 refine PySem.W.kdl_call (RawD.src (ep:=ep) (es:=es) lo) (I.ok.hd hc) x (by rw [hl];exact z) fun h' tk acc c keep hD hacc=> ?_
 have hf:H s.heap.objs.size=none:=I.hok.fresh (AO _);have hlen:acc.size=es.size:=hacc.1
 let bs:List V:=acc.toList.map fun u=>match u with | .ref b=>V.ref b | _=>V.non
 have key:∀ i (hi:i < acc.size),∃ b k v,acc[i] = .ref b∧kvs[i]?=some (k,v)∧H b=some (.tup (k.map kV)):=fun i hi=>by
  obtain ⟨hi',e⟩:=hacc.2 i acc[i] (by simp [hi]);obtain ⟨b,k,v,e1,e2,e3⟩:=hk i hi';exact ⟨b,k,v,e.trans e1,e2,e3⟩
 have hv:aG bs acc.toList:=by
  have gen:∀ (l:List Value),(∀ u∈l,∃ b,u = .ref b)→aG (l.map fun u=>match u with | .ref b=>V.ref b | _=>V.non) l:=by
   intro l
   induction l with
   | nil=>intro _;exact .nil
   | cons u l ih =>
    intro h;obtain ⟨b,rfl⟩:=h u AT;exact .cons rfl (ih fun v hv=>h v (AN _ hv))
  refine gen acc.toList fun u hu=> ?_
  obtain ⟨i,hi,e⟩:=B1.mp hu
  have hi':i < acc.size:=by simpa using hi
  obtain ⟨b,k,v,e1,_⟩:=key i hi';exact ⟨b,by rw [← e];simpa using e1⟩
 have hbl:bs.length=kvs.length:=by
  show (acc.toList.map _).length=_
  rw [AE,Bz,hlen,hl]
 refine ⟨.ref s.heap.objs.size,upd H s.heap.objs.size (.lst bs),?_,rfl,q _ bs hf nd hbl fun i k v e=> ?_⟩
 ·exact I.laid (t':=tk) keep (AO _) ⟨by rw [hbl];exact z,acc.toList,c,hv,by simpa using hD⟩
 ·have hi:i < acc.size:=by
   have:=(AM.mp e).1;omega
  obtain ⟨b,k',v',e1,e2,e3⟩:=key i hi;rw [e] at e2;cases e2;refine ⟨b,?_,e3⟩
  show (acc.toList.map _)[i]?=_
  rw [A2,BY,B0 hi,e1];rfl
theorem vq:∀ (bs:List Bool),(List.range bs.length).all (fun i=>bs.getD i false)=bs.all id:=fun bs=>by
 rw [Bool.eq_iff_iff];simp only [AX,BA]
 constructor
 ·intro h b hb
  obtain ⟨i,hi,e⟩:=B1.mp hb;have:=h i hi;rw [A6,AD hi,e] at this;exact this
 ·intro h i hi
  rw [A6,AD hi];exact h _ (BR hi)
theorem xD(hc:X.calm=true):aI X (.builtin "all") (fun xs H Q=>∃ (p:Addr) (bs:List Bool),xs=[V.ref p]∧SqL X.K H p (bs.map V.bl)∧Q (.bl (bs.all id)) H):=by
 intro pins s σ H xs us Q I r h;obtain ⟨p,bs,rfl,hq,q⟩:=h;obtain ⟨u,rfl,ru⟩:=b4 r;cases ru;obtain ⟨its,rv,pl,hz⟩:=I.list hq;have hlen:=rv.length;rw [AE] at hlen
 have hlt:p < s.heap.objs.size:=by
  obtain ⟨o,n,e,_⟩:=pl;exact AL e
 refine call_all_walk (B2 pl.isList ⟨s.heap.objs.size,_,_,its.toArray.size,_,_,fun i=>bs.getD i false,rfl,Walks.list (show X.A.in1.handled=none from I.ok.hd hc) s.heap.objs.size p (AZ hlt) its.toArray,
  ⟨⟨_,AJ _ rfl,rfl,rfl⟩,pl.isList.at fun o e=>AC _ e⟩,fun i v s' Q' E' hP hQ'=> ?_,fun h' tk hk=> ?_⟩)
 ·have hP:its.toArray[i]?=some v:=hP
  have hi:i < bs.length:=by
   have:=(Array.getElem?_eq_some_iff.mp hP).1;rw [AF] at this;omega
  obtain ⟨u,e1,e2⟩:=rv.get (i:=i) (x:=V.bl bs[i]) (by simp [hi])
  have:v = .bool bs[i]:=by
   rw [show its.toArray[i]?=its[i]? by simp,e1] at hP;cases hP;exact e2
  subst this;have hQ':Q' (bs.getD i false) s':=hQ';rw [show bs.getD i false=bs[i] by simp [A6,hi]] at hQ';exact BT hQ'
 ·refine ⟨.bl (bs.all id),H,?_,?_,q⟩
  ·exact I.kept (h':=h') (t':=tk) fun b o e=>hk b o (by have:=AL e;simp;exact AZ this) (AC _ e)
  ·show Value.bool _=Value.bool _
   rw [AF,← hlen,vq]
theorem xB:aI X (.type "range") (fun xs H Q=>(∃ j:Int,xs=[V.int j]∧∀ l,H l=none→Q (.ref l) (upd H l (.rng 0 j)))∨(∃ i j:Int,xs=[V.int i,V.int j]∧∀ l,H l=none→Q (.ref l) (upd H l (.rng i j)))):=by
 intro pins s σ H xs us Q I r h;have hf:H s.heap.objs.size=none:=I.hok.fresh (AO _)
 rcases h with ⟨j,rfl,q⟩ | ⟨i,j,rfl,q⟩
 ·obtain ⟨u,rfl,t,rfl⟩:=b4 r
  exact call_range_1 ⟨.ref s.heap.objs.size,_,I.laid (o:= .rng 0 j) (fun _ _ e=>AC _ e) (AO _) ⟨_,_,_,AJ _ rfl⟩,rfl,q _ hf⟩
 ·obtain ⟨u,w',rfl,⟨t,rfl⟩,⟨t',rfl⟩⟩:=pp r
  exact call_range_2 ⟨.ref s.heap.objs.size,_,I.laid (o:= .rng i j) (fun _ _ e=>AC _ e) (AO _) ⟨_,_,_,AJ _ rfl⟩,rfl,q _ hf⟩
theorem wj(lo hi i:Int):(Builtin.Range.rangePlace? lo hi 1 i).isSome=decide (lo≤i∧i < hi):=by
 unfold Builtin.Range.rangePlace?
 by_cases h:lo≤i∧i < hi
 ·rw [AS h]
  simp [h.1,h.2,Int.emod_one]
 ·rw [Bc h]
  by_cases h1:lo≤i
  ·have h2:¬ i < hi:=fun q=>h ⟨h1,q⟩
   simp [h1,h2]
  ·simp [h1]
section
open PySem.SeqAt
open PySem.AutoSeq1 (wpAny_loadPart')
open PySem.MeetsSeq PySem.MeetsSeq2 PySem.MeetsSeq3
theorem ur(l:Addr)(lo hi i:Int)(a b c t:Tok):Meets (Builtin.«range.__contains__» ⟨[.ref l,.int i t],[]⟩)
 (fun _ R s=>s.heap.get? l=some { cls:= .type "range",data:= .fields #[.int lo a,.int hi b,.int 1 c] }∧R (.ok (.ret (.bool (decide (lo≤i∧i < hi))))) s) :=
 .of_wp fun prog w A R s h=>by
  obtain ⟨hp,g,d,tk,os⟩:=s;obtain ⟨hl,h⟩:=h;rw [← wj] at h
  wp_walk using BJ hl
  exact ⟨_,rfl,h⟩
end
def rInR(neg:Bool):R2:=fun x y H Q=>∃ (l:Addr) (i lo hi:Int),x = .int i∧y = .ref l∧H l=some (.rng lo hi)∧Q (.bl (if neg then !decide (lo≤i∧i < hi) else decide (lo≤i∧i < hi))) H
theorem op_inR:OpR X (compareOp .In) (rInR false):=by
 intro pins s σ H x y v u Q I rx ry h;obtain ⟨l,i,lo,hi,rfl,rfl,hl,q⟩:=h;obtain ⟨t,rfl⟩:=rx;cases ry;obtain ⟨a,b,c,e⟩:=(show bP X.prog X.w H s.heap l (.rng lo hi) from I.hok l _ hl);exact PySem.SeqRoads2.in_meets ⟨_,e,rfl⟩ F.slot_range_contains F.entry_range_contains (F.args_range_contains_2 _ _) (ur l lo hi i a b c t) ⟨e,_,rfl,⟨.bl _,H,I,rfl,q⟩⟩
theorem zE{prog:Program}{w:World}{A:Around}{E:Value→Shared→Prop}{s:Shared}{t b:Addr}{ws:List Value}{Q:Value→Shared→Prop}(ht:IsTup s.heap t #[])(hb:IsTup s.heap b ws.toArray)(h:Q (.ref b) s) :
 wpAny (model prog w) A (binaryOp .Add (.ref t) (.ref b)) Q E s:=by
 obtain ⟨⟨cls,dd,data,sl⟩,ho,hc,n,hd⟩:=id ht;obtain ⟨⟨cls2,dd2,data2,sl2⟩,ho2,hc2,n2,hd2⟩:=id hb;simp only at hc hd hc2 hd2;subst hc hd hc2 hd2
 exact concat_meets ⟨_,ho,rfl⟩ ⟨_,ho2,rfl⟩ noFill_tuple_add seq_tuple_add PySem.F.slot_tuple_add PySem.F.entry_tuple_add (PySem.F.args_tuple_add_2 _ _)
  (tuple_addW0 t b #[] ws.toArray n n2 dd dd2 sl sl2 (by simp)) ⟨ho,ho2,h⟩
end
end L2
namespace HT
open PySem PySem.Spec PyProof.Rows
section
variable{prog:Program}{w:World}{A:Around}{E:Value→Shared→Prop}{s:Shared}
theorem gW{t sl:Addr}{items:Array Value}{vl vu:Value}{lo hi:Option Int}{Q:Value→Shared→Prop}(ht:IsTup s.heap t items)(hs:s.heap.IsSliceOf sl vl vu .none)(pl:IsPart vl lo)(pu:IsPart vu hi)
 (hw:sIx items.size 0 lo=0∧sIx items.size items.size hi=items.size) (h:Q (.ref t) s):wpAny (model prog w) A (getItem (.ref t) (.ref sl)) Q E s:=by
 obtain ⟨os,hos,hcs,hds⟩:=id hs;have hTs:s.TypeIs (.ref sl) "slice" := ⟨os,hos,hcs⟩;unfold getItem
 try with_reducible refine BS ?_
 first | refine AB (AG ?_) | skip
 refine AB (wpAny_sequenceKey ht.typeIs (by decide) ?_)
 refine AB (Bh (name:=Str.ofString "__getitem__") ht.typeIs PyProof.Rows.slot_tuple_getitem
  (Br PyProof.Rows.slot_tuple_getitem ht.typeIs entry_tuple_getitem ?_ (args_tuple_getitem _ _)))
 show wpAny _ _ (Builtin.Tuple.tupleItemsOf (.ref t) >>= _) _ _ s
 refine AB (tupleItemsOf_ ht (AB (wpAny_typeOf hTs ?_)));rw [if_pos (by decide)];refine AB (fE hs pl pu ?_)
 show wpAny _ _ (if (((sIx items.size 0 lo:Nat):Int) == 0&&(1:Int) == 1&&(sIx items.size items.size hi - sIx items.size 0 lo) == items.size)=true then _ else _) _ _ s
 rw [if_pos (by rw [hw.1,hw.2];simp)];unfold Builtin.Tuple.tupleIsExact;refine AB (AB (wpAny_typeOf ht.typeIs (AG ?_)));rw [if_pos (by decide)];exact AB (wpAny_rule (AG ⟨_,rfl,AG h⟩))
end
end HT
namespace L2
open PySem PySem.Spec PyProof.Rows
section
variable{X:Cx}
end
end L2
namespace Srt
open PySem PySem.W PyProof.Rows
def All{α:Type}(n:Nat)(P:α→Prop):KasT α→Prop
 | .ret a=>P a
 | .ask i j k=>i < n∧j < n∧∀ b,All n P (k b)
theorem All.bind{α β:Type}{n:Nat}{P:β→Prop}{f:α→KasT β}:∀ {t:KasT α},All n (fun a=>All n P (f a)) t→All n P (t.bind f)
 | .ret _,h=>h
 | .ask _ _ _,⟨h1,h2,h3⟩=>⟨h1,h2,fun b=>All.bind (h3 b)⟩
theorem All.mono{α:Type}{n:Nat}{P P':α→Prop}(hp:∀ a,P a→P' a):∀ {t:KasT α},All n P t→All n P' t
 | .ret a,h=>hp a h
 | .ask _ _ _,⟨h1,h2,h3⟩=>⟨h1,h2,fun b=>All.mono hp (h3 b)⟩
def dQ(n:Nat)(p:Array Nat):Prop:=0 < n∧p.toList.Perm (List.range n)
theorem dQ.lt{n:Nat}{p:Array Nat}(g:dQ n p)(k:Nat):p.getD k 0 < n:=by
 by_cases h:k < p.size
 ·have e:p.getD k 0=p[k]:=by simp [Array.getD,h]
  rw [e];have m:p[k]∈List.range n:=g.2.mem_iff.mp (by simp);simpa using m
 ·have e:p.getD k 0=0:=by simp [Array.getD,h]
  rw [e];exact g.1
theorem dQ.perm{n:Nat}{p p':Array Nat}(g:dQ n p)(h:p'.Perm p):dQ n p':=⟨g.1,(Array.perm_iff_toList_perm.mp h).trans g.2⟩
theorem dQ.rev{n:Nat}{p:Array Nat}(g:dQ n p)(i j:Nat):dQ n (kas_rev p i j):=g.perm (mirror_perm _ _ _ _)
theorem asc{n:Nat}{p:Array Nat}(g:dQ n p):∀ f k,All n (fun _=>True) (kas_asc p f k)
 | 0,_=>trivial
 | f+1,k=>⟨g.lt _,g.lt _,fun b=>by
  cases b with
  | true=>show All n _ (if true=true then _ else _);rw [if_pos rfl];trivial
  | false=>show All n _ (if false=true then _ else _);rw [if_neg Bool.false_ne_true];exact asc g f (k+1)⟩
theorem zw{n:Nat}:∀ f {p:Array Nat} (k q:Nat),dQ n p→All n (fun r=>dQ n r.1) (kas_desc f p k q)
 | 0,p,_,_,g=>g
 | f+1,p,k,q,g=>⟨g.lt _,g.lt _,fun b=>by
  cases b with
  | true =>
   show All n _ (if true=true then _ else _)
   rw [if_pos rfl]
   by_cases hq:q > 0
   ·rw [if_pos hq];exact zw f _ _ (g.rev _ _)
   ·rw [if_neg hq];exact zw f _ _ g
  | false =>
   show All n _ (if false=true then _ else _)
   rw [if_neg Bool.false_ne_true];refine ⟨g.lt _,g.lt _,fun b=> ?_⟩
   cases b with
   | true=>show All n _ (if true=true then _ else _);rw [if_pos rfl];exact g
   | false=>show All n _ (if false=true then _ else _);rw [if_neg Bool.false_ne_true];exact zw f _ _ g⟩
theorem zR{n:Nat}{p:Array Nat}(g:dQ n p)(k nrem:Nat):All n (fun r:Nat×Array Nat=>dQ n r.2) (kas_tail3 k nrem p):=by
 unfold kas_tail3;exact ((asc (g.rev _ _) _ _).mono fun m _=>(show All n (fun r:Nat×Array Nat=>dQ n r.2) (KasT.ret (m,kas_rev p 0 k)) from g.rev _ _)).bind
theorem qI{n:Nat}{p:Array Nat}(g:dQ n p)(k nrem:Nat):All n (fun r:Nat×Array Nat=>dQ n r.2) (kas_descPart k nrem p):=by
 unfold kas_descPart;refine ((zw _ _ _ g).mono fun r hr=> ?_).bind
 by_cases h:r.2.2 > 0
 ·rw [if_pos h];exact zR (hr.rev _ _) _ _
 ·rw [if_neg h];exact zR hr _ _
theorem count{n:Nat}{p:Array Nat}(g:dQ n p)(nrem:Nat):All n (fun r:Nat×Array Nat=>dQ n r.2) (kas_count nrem p):=by
 unfold kas_count;refine ((asc g _ _).mono fun k _=> ?_).bind
 by_cases h:(k == nrem)=true
 ·rw [if_pos h];exact g
 ·rw [if_neg h]
  by_cases h2:k > 1
  ·rw [if_pos h2]
   refine ⟨g.lt _,g.lt _,fun b=> ?_⟩
   cases b with
   | true=>show All n _ (if true=true then _ else _);rw [if_pos rfl];exact g
   | false=>show All n _ (if false=true then _ else _);rw [if_neg Bool.false_ne_true];exact qI (g.rev _ _) _ _
  ·rw [if_neg h2];exact qI g _ _
theorem wk{n:Nat}{p:Array Nat}(g:dQ n p)(k:Nat):∀ f l r,All n (fun _=>True) (kas_place p k f l r)
 | 0,_,_=>trivial
 | f+1,l,r=>by
  unfold kas_place
  by_cases h:l≥r
  ·rw [if_pos h];trivial
  ·rw [if_neg h]
   refine ⟨g.lt _,g.lt _,fun b=> ?_⟩
   cases b with
   | true=>show All n _ (if true=true then _ else _);rw [if_pos rfl];exact wk g k f _ _
   | false=>show All n _ (if false=true then _ else _);rw [if_neg Bool.false_ne_true];exact wk g k f _ _
theorem bin{n:Nat}:∀ f {p:Array Nat} (k:Nat),dQ n p→All n (dQ n) (kas_bin f p k)
 | 0,_,_,g=>g
 | f+1,p,k,g=>((wk g k k 0 k).mono fun l _=>bin f (k+1) (g.perm (bubble_perm _ _ _))).bind
theorem sort{n:Nat}(h:0 < n):All n (dQ n) (kas_sort n):=by
 unfold kas_sort;have g:dQ n (List.toArray (List.range n)):=⟨h,by simp⟩;refine ((count g n).mono fun r hr=> ?_).bind
 by_cases h:r.1 < n
 ·rw [if_pos h];exact bin _ _ hr
 ·rw [if_neg h];exact hr
section
variable{prog:Program}{w:World}{A:Around}{E:Value→Shared→Prop}{s:Shared}
def Tups(h:Heap)(vs:List Value):Prop:=∀ v∈vs,∃ a items ns,v = .ref a∧IsTup h a items∧IntsAre items.toList ns∧ns≠[]
theorem xn{M:Model}{h:Heap}:∀ {vs:List Value},Tups h vs→∃ fs,fs.length=vs.length∧KatTups h vs fs∧∀ v∈fs,Looks M h (typeOf v) (.type "int")
 | [],_=>⟨[],rfl,.nil,fun v hv=>by cases hv⟩
 | v::vs,t=>by
  obtain ⟨fs,h1,h2,h3⟩:=xn (M:=M) (vs:=vs) fun u hu=>t u (List.mem_cons_of_mem _ hu)
  obtain ⟨a,items,ns,rfl,⟨o,g1,g2,n,g3⟩,i,ne⟩:=t v List.mem_cons_self
  cases hi:items.toList with
  | nil =>
   rw [hi] at i;cases i;exact absurd rfl ne
  | cons f r =>
   rw [hi] at i
   cases i with
   | cons x tk _ =>
    refine ⟨.int x tk::fs,by simp [h1],.cons g1 g2 g3 (by rw [← Array.getElem?_toList,hi];rfl) h2,fun u hu=> ?_⟩
    rcases List.mem_cons.mp hu with rfl | hu
    ·exact .now
    ·exact h3 u hu
end
end Srt
namespace L2
open PySem PySem.Spec PyProof.Rows
def p7:Value→V
 | .ref b=> .ref b
 | _=> .non
theorem ji:∀ {l:List Value},(∀ u∈l,∃ b,u = .ref b)→aG (l.map p7) l
 | [],_=> .nil
 | u::l,h=>by
  obtain ⟨b,rfl⟩:=h u List.mem_cons_self;exact .cons rfl (ji fun v hv=>h v (List.mem_cons_of_mem _ hv))
theorem mX:∀ {bs:List V} {l:List Value},aG bs l→(∀ b∈bs,∃ a,b = .ref a)→bs=l.map p7∧∀ u∈l,∃ b,u = .ref b
 | _,_,.nil,_=>⟨rfl,fun u hu=>by cases hu⟩
 | _,_,.cons r t,h=>by
  obtain ⟨a,rfl⟩:=h _ List.mem_cons_self;cases r
  obtain ⟨e,q⟩:=mX t fun b hb=>h b (List.mem_cons_of_mem _ hb)
  refine ⟨by rw [List.map_cons,← e];rfl,fun u hu=> ?_⟩
  rcases List.mem_cons.mp hu with rfl | hu
  ·exact ⟨a,rfl⟩
  ·exact q u hu
section
variable{X:Cx}
end
end L2
namespace L2
open PySem PySem.Spec PyProof.Rows
inductive Dt where
 | non | bl (b:Bool) | int (i:Int) | str (x:Str) | lst | dct | tup (ds:List Dt)
mutual
def Rep(K:PySem.W.Frag)(H:Hp):Dt→V→Prop
 | .non,v=>v = .non
 | .bl b,v=>v = .bl b
 | .int i,v=>v = .int i
 | .str x,v=>v = .str x
 | .lst,v=>∃ p xs,v = .ref p∧SqL K H p xs
 | .dct,v=>∃ p,v = .ref p∧((∃ kvs,H p=some (.dK kvs))∨∃ kvs,H p=some (.dT kvs))
 | .tup ds,v=>∃ p xs,v = .ref p∧SqT K H p xs∧xL K H ds xs
def xL(K:PySem.W.Frag)(H:Hp):List Dt→List V→Prop
 | [],[]=>True
 | d::ds,x::xs=>Rep K H d x∧xL K H ds xs
 | _,_=>False
end
theorem aj.tup{K:PySem.W.Frag}{H H':Hp}{a:Addr}{xs:List V}(e:aj H H')(h:SqT K H a xs):SqT K H' a xs:=by
 rcases h with (h | ⟨o,h⟩) | h
 ·exact .inl (.inl (e _ _ h))
 ·exact .inl (.inr ⟨o,e _ _ h⟩)
 ·exact .inr h
theorem aj.upd{H:Hp}{p:Addr}{o:HO}(h:H p=none):aj H (L2.upd H p o):=fun b u e=>by rw [ar (au e h)];exact e
mutual
theorem aj.rep{K:PySem.W.Frag}{H H':Hp}(e:aj H H'):∀ {d:Dt} {v:V},Rep K H d v→Rep K H' d v
 | .non,_,h=>h
 | .bl _,_,h=>h
 | .int _,_,h=>h
 | .str _,_,h=>h
 | .lst,_,⟨p,xs,h1,h2⟩=>⟨p,xs,h1,e.seq h2⟩
 | .dct,_,⟨p,h1,h2⟩=>⟨p,h1,h2.elim (fun hZ=>(by obtain ⟨k,q⟩:=hZ;exact .inl ⟨k,e _ _ q⟩)) fun hZ=>(by obtain ⟨k,q⟩:=hZ;exact .inr ⟨k,e _ _ q⟩)⟩
 | .tup _,_,⟨p,xs,h1,h2,h3⟩=>⟨p,xs,h1,e.tup h2,e.repL h3⟩
theorem aj.repL{K:PySem.W.Frag}{H H':Hp}(e:aj H H'):∀ {ds:List Dt} {xs:List V},xL K H ds xs→xL K H' ds xs
 | [],[],_=>trivial
 | _::_,_::_,h=>⟨e.rep h.1,e.repL h.2⟩
 | [],_::_,h=>h.elim
 | _::_,[],h=>h.elim
end
structure Has(K:PySem.W.Frag)(mg:Str→Option Value)(x:Str)(st:Stmt)(ps:List Str):Prop where
 ex:∃ f fd,Fun K x x st f fd∧mg x=some (.ref f)∧jX K fd ps []
structure Ok(P:Program)(w:World)(K:PySem.W.Frag)(mg:Str→Option Value)(base:Heap)(x:Str)(ps:List Str)(k:Nat)(sp:Sp):Prop where
 ex:∃ f fd,mg x=some (.ref f)∧PySem.W.keepIn K (.ref f)=true∧jX K fd ps []∧kc P w K mg base CX0 k f fd ps sp
theorem Has.ok{P:Program}{w:World}{K:PySem.W.Frag}{mg:Str→Option Value}{base:Heap}{x:Str}{st:Stmt}{N ps:List Str}{k:Nat}{sp:Sp}(h:Has K mg x st ps)(S:aq N ps (ae st))(len:∀ vs H Q E,sp vs H Q E→vs.length=ps.length)
 (hbody:∀ (f:Addr) (cdv:Value) (A:Around) (outer:List Env) (s:Shared) (H:Hp) (vs:List V) (Q:VK) (E:XK),dW k (A.deeper (envOfC x (ae st) s.heap.objs.size f cdv))→sp vs H Q E →
   ∃ t,PSs (bO CX0 P w K mg base N x (ae st) f cdv A outer s H E).nox (ci st) t∧t { nx:=fun _ H'=>Q .non H',rt:=Q } (cK N vs) H):Ok P w K mg base x ps (k+1) sp:=by
 obtain ⟨f,fd,F,hm,hb⟩:=h.ex;exact ⟨f,fd,hm,F.kp,hb,F.ok S len (hbody f)⟩
section
variable{X:Cx}{e:Expr}{es:List Expr}{t:TA}{x:Str}{ps:List Str}{k:Nat}{sp:Sp}{p pos:Pos}
end
section
variable{X:Cx}{Pre:St→Hp→Prop}
end
end L2
namespace L2
open PySem PySem.Spec PyProof.Rows
structure gO(osc:Scope)(N:List Str)(sc:Scope)(M tgs:List Str):Prop where
 kind:sc.kind = .function
 names:∀ y∈sc.names,y.2 = .local→sc.names.lookup y.1=some .local
 nocell:∀ y∈sc.names,y.2 ≠ .cell
 free:∀ y∈sc.names,y.2 = .free→osc.names.lookup y.1=some .cell∨osc.names.lookup y.1=some .free
 len:M.length=N.length
 same:∀ p∈M.zip N,p.1=p.2∨p.1=("" : Str)
 dummy:sc.names.lookup ("" : Str)=none
 hid:∀ x∈M,sc.names.lookup x≠some .local
 nd:(M++tgs).Nodup
theorem gO.ok{X:Cx}{osc:Scope}{N:List Str}{sc:Scope}{M tgs:List Str}(b:gO osc N sc M tgs)(h1:X.env.scope=osc:=by rfl)(h2:X.N=N:=by rfl):qV X sc M tgs:=by
 subst h1 h2;exact ⟨b.kind,b.names,b.nocell,b.free,b.len,b.same,b.dummy,b.hid⟩
def Nx(n i:Nat)(Pv:Nat→List V→Hp→Prop)(ys:List V)(H:Hp):Prop:=∃ m',m' < n - i∧(m'=n - (i+1)∧i+1≤n∧Pv (i+1) ys H)
theorem Nx.mk{n i:Nat}{Pv:Nat→List V→Hp→Prop}{ys:List V}{H:Hp}(hi:i < n)(h:Pv (i+1) ys H):Nx n i Pv ys H:=⟨n - (i+1),by omega,rfl,hi,h⟩
theorem so{lo:Int}{n:Nat}{k:Nat}{g:TG}{tt:TT}{te:TE}{σ:St}{H:Hp}{Q:VK}(Pv:Nat→List V→Hp→Prop)(h0:Pv 0 [] H)(hl:∀ i ys H,i≤n→Pv i ys H→ys.length≤sizeLine)
 (hs:∀ i ys H,i < n→Pv i ys H→g (.int (lo+i)) (σ++List.replicate k none) H fun σ2 H2=>σ2.take σ.length=σ∧tt σ2 H2 fun b H3 =>
   if b=true then te σ2 H3 fun y H4=>Nx n i Pv (ys++[y]) H4 else Nx n i Pv ys H3)
 (hd:∀ ys H,Pv n ys H→∀ l,H l=none→Q (.ref l) (upd H l (.lst ys))):AA (Itr lo n) k g tt te σ Q H:=by
 refine ⟨fun i m ys H=>m=n - i∧i≤n∧Pv i ys H,⟨n,by simp,Nat.zero_le _,h0⟩,?_⟩;rintro i m ys H ⟨rfl,hi,p⟩;refine ⟨hl i ys H hi p,?_⟩
 by_cases hlt:i < n
 ·refine .inr ⟨hlt,fun x H' y=> ?_⟩
  obtain ⟨e,y⟩:=y;subst e y;exact hs i ys _ hlt p
 ·have e:i=n:=by omega
  subst e;exact .inl ⟨Nat.le_refl _,hd ys H p⟩
end L2
namespace L2
open PySem PySem.Spec PyProof.Rows
section
variable{κ:Type}[DecidableEq κ]
end
def xK(K:PySem.W.Frag)(H:Hp)(b:V)(t:Int×Int):Prop:=∃ a,b = .ref a∧H a=some (.tup [.int t.1,.int t.2])
structure WebAt(K:PySem.W.Frag)(H:Hp)(w:Addr)(many:Int)(ties:List (Int×Int)):Prop where
 at_:∃ t bs,H w=some (.tup [.int many,.ref t])∧H t=some (.tup bs)∧Paired (xK K H) bs ties
 len:ties.length≤60
 good:∀ t∈ties,0≤t.1∧t.1 < t.2∧t.2 < many
 nd:ties.Nodup
end L2
namespace L2
open PySem PySem.Spec PyProof.Rows
theorem bP.there{P:Program}{w:World}{H:Hp}{h:Heap}{a:Addr}{o:HO}(x:bP P w H h a o):∃ ob,h.get? a=some ob:=by
 cases o with
 | lst xs=>obtain ⟨_,_,_,_,e⟩:=x;exact ⟨_,e⟩
 | tup xs=>obtain ⟨_,_,_,ob,e,_⟩:=x;exact ⟨ob,e⟩
 | dK kvs=>obtain ⟨_,_,_,_,o,_,_,e,_⟩:=x;exact ⟨_,e⟩
 | dT kvs=>obtain ⟨_,_,_,_,o,_,_,e,_⟩:=x;exact ⟨_,e⟩
 | set S n=>obtain ⟨o,_,_,_,e,_⟩:=x;exact ⟨_,e⟩
 | ins C dx fs=>obtain ⟨_,_,_,e,_⟩:=x;exact ⟨_,e⟩
 | own y=>exact x
 | xd fs=>obtain ⟨_,⟨_,_,_,e,_⟩,_⟩:=x;exact ⟨_,e⟩
 | rng lo hi=>obtain ⟨_,_,_,e⟩:=x;exact ⟨_,e⟩
 | frz ob u=>obtain ⟨e,_⟩:=x;exact ⟨_,e⟩
 | tbl ps=>exact ⟨_,(show h.get? a=some _ from x)⟩
 | met f y=>exact ⟨_,(show h.get? a=some _ from x)⟩
 | ext φ=>obtain ⟨_,e,_⟩:=x;exact e
theorem HOk.none_of{P:Program}{w:World}{H:Hp}{h:Heap}{a:Addr}(x:HOk P w H h)(e:h.get? a=none):H a=none:=by
 cases q:H a with
 | none=>rfl
 | some u =>
  obtain ⟨ob,z⟩:=(x a u q).there;rw [e] at z;cases z
structure zM(fs:List Addr)(ea T:Addr)(h h':Heap):Prop where
 keep:∀ b o,h.get? b=some o→b∉fs→b≠ea→b≠T→h'.get? b=some o
 slot:∀ b o,h.get? b=some o→b∈fs→∃ sl,h'.get? b=some { o with slots:=sl }
structure hV(g:Heap)(H:Hp)(ea T:Addr)(cls:Value)(h:Heap):Prop where
 obj:∃ (oe:Obj) (vs:Array Value) (oT:Obj) (ts:Array Value) (a0:Value),h.get? ea=some oe∧(oe.cls=cls∧vs[0]?=some a0)∧oe.data = .fields vs∧vs[1]?=some (.ref T)∧T≠ea∧h.get? T=some oT∧oT.data = .fields ts∧ts[3]?=some .none
 he:H ea=none
 hT:H T=none
 ge:g.get? ea=none
 gT:g.get? T=none
section
variable{P:Program}{w:World}{fs fs' ex:List Addr}{H₀ H:Hp}{g g₀ h h' base:Heap}{ea T:Addr}{cls:Value}{l l':List Env}
theorem hV.older(F:hV g H ea T cls h)(k:∀ b o,g₀.get? b=some o→∃ o',g.get? b=some o'):hV g₀ H ea T cls h:=by
 refine ⟨F.obj,F.he,F.hT,?_,?_⟩
 ·cases q:g₀.get? ea with
  | none=>rfl
  | some o=>obtain ⟨o',z⟩:=k _ _ q;rw [F.ge] at z;cases z
 ·cases q:g₀.get? T with
  | none=>rfl
  | some o=>obtain ⟨o',z⟩:=k _ _ q;rw [F.gT] at z;cases z
theorem hV.flyingW(F:hV g H ea T cls h)(hl:h.FunFrames base l):∃ a0,Heap.FlyingW (PySem.W.hideAll h (ea::T::frs l)) l ea cls a0 h:=by
 obtain ⟨oe,vs,oT,ts,a0,h1,h2,h3,h4,h5,h6,h7,h8⟩:=F.obj;refine ⟨a0,fun b o e=>PySem.W.of_hideAll _ e,PySem.W.hideAll_none _ List.mem_cons_self,PySem.W.funFrames_hide hl (fun env he a hf=> ?_),oe,vs,T,oT,ts,h1,h2,h3,h4,PySem.W.hideAll_none _ (List.mem_cons_of_mem _ List.mem_cons_self),h5,h6,h7,h8⟩;exact List.mem_cons_of_mem _ (List.mem_cons_of_mem _ (List.mem_filterMap.mpr ⟨env,he,hf⟩))
theorem xm(F:hV g H ea T cls h)(hl:h.FunFrames base l)(hok:HOk P w H h)(hg:∀ b o,g.get? b=some o→∃ o',h.get? b=some o'){a0:Value}
 (x:Heap.FlyingW (PySem.W.hideAll h (ea::T::frs l)) l' ea cls a0 h') (up:h.UpToSlots h'):zM (frs l) ea T h h'∧∃ T',hV g H ea T' cls h':=by
 obtain ⟨x1,x2,x3,oe,vs,T',oT,ts,y1,y2,y3,y4,y5,y6,y7,y8,y9⟩:=x
 have slot:∀ b o,h.get? b=some o→b∈frs l→∃ sl,h'.get? b=some { o with slots:=sl }:=fun b o e hb=>by
  obtain ⟨_,o',ho',nf⟩:=hl.mem hb;rw [e] at ho';cases ho';exact up b o e nf
 refine ⟨⟨fun b o e n1 n2 n3=>x1 b o (PySem.W.hideAll_get _ e (by simp [n1,n2,n3])),slot⟩,T',?_⟩
 have fr:H T'=none∧g.get? T'=none:=by
  by_cases q:T'=T
  ·subst q;exact ⟨F.hT,F.gT⟩
  ·have nf:T'∉frs l:=fun hb=>by
    obtain ⟨_,o,ho,nf⟩:=hl.mem hb;obtain ⟨sl,z⟩:=slot T' o ho hb;rw [y7] at z;cases z;exact nf ts y8
   have hn:h.get? T'=none:=by
    cases z:h.get? T' with
    | none=>rfl
    | some o =>
     have:=PySem.W.hideAll_get (ea::T::frs l) z (by simp [nf,q,y6]);rw [y5] at this;cases this
   refine ⟨hok.none_of hn,?_⟩
   cases z:g.get? T' with
   | none=>rfl
   | some o=>obtain ⟨o',z'⟩:=hg _ _ z;rw [hn] at z';cases z'
 exact ⟨⟨oe,vs,oT,ts,a0,y1,y2,y3,y4,y6,y7,y8,y9⟩,F.he,fr.1,F.ge,fr.2⟩
theorem Un.turn(u:Un fs ex H₀ H g h)(t:zM fs' ea T h h')(ge:g.get? ea=none)(gT:g.get? T=none)(h1:∀ b∈fs,b∈fs')(h2:∀ b∈fs',b∉fs→g.get? b=none):Un fs ex H₀ H g h' where
 keep:=fun b o q n hb hx=>t.keep b o (u.keep b o q n hb hx) (fun z=>by rw [h2 b z hb] at q;cases q) (fun z=>by rw [z,ge] at q;cases q) (fun z=>by rw [z,gT] at q;cases q)
 slot:=fun b o q n hb hx=>by
  obtain ⟨sl,e⟩:=u.slot b o q n hb hx;obtain ⟨sl',e'⟩:=t.slot b _ e (h1 b hb);exact ⟨sl',e'⟩
 free:=u.free
 there:=fun b o q hx=>by
  obtain ⟨o',e⟩:=u.there b o q hx
  by_cases hb:b∈fs'
  ·obtain ⟨sl,e'⟩:=t.slot b o' e hb
   exact ⟨_,e'⟩
  ·exact ⟨o',t.keep b o' e hb (fun z=>by rw [z,ge] at q;cases q) (fun z=>by rw [z,gT] at q;cases q)⟩
 tups:=u.tups
 frzs:=u.frzs
 tbls:=u.tbls
theorem HOk.turn(x:HOk P w H h)(t:zM fs ea T h h')(he:H ea=none)(hT:H T=none)(hf:∀ b∈fs,H b=none):HOk P w H h':=fun a o e=>by
 have ne:∀ b,(b=a∨H b=some (.own a))→H b≠none:=fun b hb z=>by
  rcases hb with rfl | hb
  ·rw [z] at e;cases e
  ·rw [z] at hb;cases hb
 exact (x a o e).stay (fun b u hb q=>t.keep b u q (fun z=>ne b hb (hf b z)) (fun z=>ne b hb (z ▸ he)) (fun z=>ne b hb (z ▸ hT))) (fun _ q=>q) fun _ _ q=>q
end
def CXr(P:Program)(w:World):CXT:=fun outer H s E e s'=>∃ ea T cls H',e = .ref ea∧s'.os=s.os∧AllBare s'.gens∧Un (frs outer) [] H H' s.heap s'.heap∧HOk P w H' s'.heap∧hV s.heap H' ea T cls s'.heap∧E cls none H'
section
variable{P:Program}{w:World}{K:PySem.W.Frag}{mg:Str→Option Value}{base:Heap}{N:List Str}{qual:Str}{scope:Scope}{f:Addr}{cd:Value}{A:Around}{outer:List Env}{s:Shared}{H:Hp}{E E':XK}
theorem qC{env:Env}{L:Addr}{l:List Env}(h:env.frame=some L):frs (env::l)=L::frs l:=by unfold frs;rw [List.filterMap_cons,h]
theorem ww(himp:∀ c d H,E' c d H→E c d H):sQ (CXr P w) (bO (CXr P w) P w K mg base N qual scope f cd A outer s H E) E':=by
 intro pins σ H1 s1 e s2 I hx;obtain ⟨ea,T,cls,H2,rfl,os,bare,un,hok,fl,e1⟩:=hx
 have I2:Inv (bO (CXr P w) P w K mg base N qual scope f cd A outer s H E) pins σ H2 s2:=I.call' (ch:=[]) os un hok bare fun b z=>absurd z (by simp)
 have fl:=fl.older (g₀:=s.heap) fun b o q=>I.base.there b o q (by show b∉[];simp)
 obtain ⟨a0,fw⟩:=fl.flyingW I2.stack
 refine wpAny_leaves_onW I2.ok.frames rfl fw fun h' x1 x2=> ?_
 obtain ⟨tn,T',fl'⟩:=xm fl I2.stack hok (fun b o q=>I2.base.there b o q (by show b∉[];simp)) x1 x2;have e2:frs (bO (CXr P w) P w K mg base N qual scope f cd A outer s H E).stack=s.heap.objs.size::frs outer:=qC rfl;refine ⟨ea,T',cls,H2,rfl,I2.os,bare,Un.turn I2.base tn fl.ge fl.gT (fun b hb=> ?_) (fun b hb nb=> ?_),hok.turn tn fl.he fl.hT I2.stkFree,fl',himp _ _ _ e1⟩
 ·rw [e2];exact List.mem_cons_of_mem _ hb
 ·rw [e2] at hb
  rcases List.mem_cons.mp hb with rfl | hb
  ·exact Heap.get?_none_of_le (Nat.le_refl _)
  ·exact absurd hb nb
def tRaise(C:Addr)(E:XK):TS:=fun _ _ H=>E (.ref C) none H
theorem ut{x:Str}{C:Addr}{bm:List Value}{B newId initId:String}{np cpos pos:Pos}(O:OwnCls x C bm newId mg base)(FB:ExcBaseFacts B newId initId bm)(hh:(A.deeper (envOfC qual scope s.heap.objs.size f cd)).handled=none)
 (hg:Gl (bO (CXr P w) P w K mg base N qual scope f cd A outer s H E) x) (hd:(x == ("__debug__" : Str))=false:=by decide):PS (bO (CXr P w) P w K mg base N qual scope f cd A outer s H E) (.Raise (some (.Call (.Name x np) [] [] cpos)) none pos) (tRaise C E):=by
 intro pins s1 σ H1 D I h;obtain ⟨tl,N',nm,q,bs,hdct,sn,sub,ab,col,dd,k0,k1,k2,k3,k5,mN,hC,hN,hni,T⟩:=O.obj
 refine wpAny_Raise_call_subT (C:=C) (nm:=nm) (q:=q) (N:=N') (bs:=bs) (bm:=tl) (hdct:=hdct) (sn:=sn) (sub:=sub) (ab:=ab) (col:=col) (dd:=dd) (k0:=k0) (k1:=k1) (k2:=k2) (k3:=k3) (k5:=k5)
  FB (mN:=mN) (T.hasType FB.hasBase) hh rfl hni (oR I hg O.bound ⟨rfl,?_⟩ hd)
 refine evalArgs_empty ⟨rfl,Nat.zero_le _,I.bk _ _ hC,hN.keeps I.bk,T.keeps I.bk,fun h' e hm=> ?_⟩
 have hin:∀ env∈(bO (CXr P w) P w K mg base N qual scope f cd A outer s H E).stack,∀ b,env.frame=some b→b∈frs (bO (CXr P w) P w K mg base N qual scope f cd A outer s H E).stack:=fun env he b hb=>List.mem_filterMap.mpr ⟨env,he,hb⟩
 refine wpAny_leaves_madeW (base:=PySem.W.hideAll s1.heap (frs (bO (CXr P w) P w K mg base N qual scope f cd A outer s H E).stack)) (h:=s1.heap) I.ok.frames rfl (fun b o q=>PySem.W.of_hideAll _ q) (PySem.W.funFrames_hide I.stack hin) hm fun h'' t x1 x2 x3 x4=> ?_
 obtain ⟨y1,y2,y3,oe,vs,T',oT,ts,z1,z2,z3,z4,z5,z6,z7,z8,z9⟩:=x1
 have tn:zM (frs (bO (CXr P w) P w K mg base N qual scope f cd A outer s H E).stack) e T' s1.heap h'':=by
  refine ⟨fun b o q n1 _ _=>y1 b o (PySem.W.hideAll_get _ q n1),fun b o q hb=> ?_⟩;obtain ⟨_,o',ho',nf⟩:=I.stack.mem hb;rw [q] at ho';cases ho';exact x4 b o (hm.keeps b o q) nf
 have hT:s1.heap.get? T'=none:=by
  have nf:T'∉frs (bO (CXr P w) P w K mg base N qual scope f cd A outer s H E).stack:=fun hb=>by
   obtain ⟨_,o,ho,nf⟩:=I.stack.mem hb;obtain ⟨sl,z⟩:=tn.slot T' o ho hb;rw [z7] at z;cases z;exact nf ts z8
  cases z:s1.heap.get? T' with
  | none=>rfl
  | some o =>
   have:=PySem.W.hideAll_get _ z nf;rw [z5] at this;cases this
 have e2:frs (bO (CXr P w) P w K mg base N qual scope f cd A outer s H E).stack=s.heap.objs.size::frs outer:=qC rfl
 have fl:hV s.heap H1 e T' (.ref C) h'':=by
  refine hV.older (g:=s1.heap) ⟨⟨oe,vs,oT,ts,_,z1,z2,z3,z4,z6,z7,z8,z9⟩,I.hok.none_of hm.new,I.hok.none_of hT,hm.new,hT⟩ fun b o q=>I.base.there b o q (by show b∉[];simp)
 refine ⟨e,T',.ref C,H1,rfl,I.os,I.bare,Un.turn I.base tn fl.ge fl.gT (fun b hb=> ?_) (fun b hb nb=> ?_),I.hok.turn tn fl.he fl.hT I.stkFree,fl,h⟩
 ·rw [e2];exact List.mem_cons_of_mem _ hb
 ·rw [e2] at hb
  rcases List.mem_cons.mp hb with rfl | hb
  ·exact Heap.get?_none_of_le (Nat.le_refl _)
  ·exact absurd hb nb
end
structure OkX(P:Program)(w:World)(K:PySem.W.Frag)(mg:Str→Option Value)(base:Heap)(x:Str)(ps:List Str)(k:Nat)(sp:Sp):Prop where
 ex:∃ f fd,mg x=some (.ref f)∧PySem.W.keepIn K (.ref f)=true∧jX K fd ps []∧kc P w K mg base (CXr P w) k f fd ps sp
theorem Has.okX{P:Program}{w:World}{K:PySem.W.Frag}{mg:Str→Option Value}{base:Heap}{x:Str}{st:Stmt}{N ps:List Str}{k:Nat}{sp:Sp}(h:Has K mg x st ps)(S:aq N ps (ae st))(len:∀ vs H Q E,sp vs H Q E→vs.length=ps.length)
 (hbody:∀ (f:Addr) (cdv:Value) (A:Around) (outer:List Env) (s:Shared) (H:Hp) (vs:List V) (Q:VK) (E:XK),dW k (A.deeper (envOfC x (ae st) s.heap.objs.size f cdv))→sp vs H Q E →
   ∃ t,PSs (bO (CXr P w) P w K mg base N x (ae st) f cdv A outer s H E) (ci st) t∧t { nx:=fun _ H'=>Q .non H',rt:=Q } (cK N vs) H):OkX P w K mg base x ps (k+1) sp:=by
 obtain ⟨f,fd,F,hm,hb⟩:=h.ex;obtain ⟨oc,od,kV,doc,pm,an,cdv,ct,osl,rfl,lk,hcd⟩:=F.ex;exact ⟨f,_,hm,F.kp,hb,xl lk hcd S len fun A outer s H vs Q E hr hsp=>hbody f cdv A outer s H vs Q E hr hsp⟩
section
variable{X:Cx}{e:Expr}{es:List Expr}{t:TA}{x:Str}{ps:List Str}{k:Nat}{sp:Sp}{p pos:Pos}
end
end L2
namespace L2
open PySem PySem.Spec PyProof.Rows
def excO(ea C:Addr):HO:= .ext fun h=>∃ o,h.get? ea=some o∧o.cls = .ref C
end L2
namespace L2
open PySem PySem.Spec PyProof.Rows
section
variable{X:Cx}
end
end L2
namespace EnT
open PySem PySem.Spec PyProof.Rows
open AutoSeq1 (wpAny_loadPart')
theorem jr(l:Addr)(items:Array Value)(n:Nat)(dct:Option Addr)(sl:Array (Option Value)) :
 Meets (Builtin.«enumerate.__new__» ⟨[.type "enumerate",.ref l],[]⟩) (fun _ R s=>s.heap.get? l=some { cls:= .type "tuple",dict:=dct,data:= .seq items n,slots:=sl } ∧
  R (.ok (.ret (.ref (s.heap.push { cls:= .type "tuple_iterator",data:= .fields #[.ref l,.int 0 0] }).objs.size)))
   { s with heap:=(s.heap.push { cls:= .type "tuple_iterator",data:= .fields #[.ref l,.int 0 0] }).push { cls:= .type "enumerate",data:= .fields #[.none,.bool false,.ref s.heap.objs.size,rawInt 0,.none,.none] } }) :=
 .of_wp fun prog w A R s h=>by
  obtain ⟨hp,g,d,tk,os⟩:=s;obtain ⟨hl,h⟩:=h;have hsub:=sub_enumerate;have hL:Heap.IsTuple (Shared.heap ⟨hp,g,d,tk,os⟩) l items:=⟨_,hl,rfl,n,rfl⟩
  wp_walk using wpAny_loadPart' hl
  refine wpAny_stack_any fun st=>wpAny_pure ?_
  split
  ·rename_i c _ _ _ _ _
   cases (c == Value.type "enumerate")
   ·wp_walk using wpAny_loadPart' hl,wpAny_pyIter_tuple hL
    exact ⟨_,rfl,h⟩
   ·wp_walk using wpAny_loadPart' hl,wpAny_pyIter_tuple hL
    exact ⟨_,rfl,h⟩
  ·wp_walk using wpAny_loadPart' hl,wpAny_pyIter_tuple hL
   exact ⟨_,rfl,h⟩
section
variable{prog:Program}{w:World}{A:Around}{E:Value→Shared→Prop}{s:Shared}
theorem lO{l:Addr}{items:Array Value}{Q:Value→Shared→Prop}(hL:s.heap.IsTuple l items)
 (h:∀ h',IsEnum h' (s.heap.objs.size+1) s.heap.objs.size 0 .none→h'.IsTupleIter s.heap.objs.size l 0→h'.objs.size=s.heap.objs.size+2 →
   (∀ b o,s.heap.get? b=some o→h'.get? b=some o)→Q (.ref (s.heap.objs.size+1)) { s with heap:=h' }) :
 wpAny (model prog w) A (call (.type "enumerate") [.ref l]) Q E s:=by
 obtain ⟨⟨c,dct,dt,sl⟩,hl,hc,n,hd⟩:=hL
 replace hc:c = .type "tuple" := hc
 replace hd:dt = .seq items n:=hd
 subst hc hd
 refine callType_new F.called_enumerate (by decide) (F.typeCall_enumerate_1 _) (F.newCall_enumerate_1 _) (fun obj=>F.args_object_init_2 obj _) F.entry_enumerate_new
  (jr l items n dct sl) ⟨hl,?_⟩
 have hz:(s.heap.push { cls:= .type "tuple_iterator",data:= .fields #[.ref l,.int 0 0] }).objs.size=s.heap.objs.size+1:=Heap.size_push ..
 show _∧_
 rw [hz]
 have he:IsEnum ((s.heap.push { cls:= .type "tuple_iterator",data:= .fields #[.ref l,.int 0 0] }).push
  { cls:= .type "enumerate",data:= .fields #[.none,.bool false,.ref s.heap.objs.size,rawInt 0,.none,.none] }) (s.heap.objs.size+1) s.heap.objs.size 0 .none:=by
  have:=Heap.get?_push_size (s.heap.push { cls:= .type "tuple_iterator",data:= .fields #[.ref l,.int 0 0] })
   (o:={ cls:= .type "enumerate",data:= .fields #[.none,.bool false,.ref s.heap.objs.size,rawInt 0,.none,.none] }) rfl
  rw [hz] at this;exact this
 refine ⟨⟨_,he,rfl⟩,h _ he ⟨_,Heap.get?_push_of_some _ (Heap.get?_push_size _ rfl),rfl,rfl⟩ (by rw [Heap.size_push,hz]) fun b o x=>Heap.get?_push_of_some _ (Heap.get?_push_of_some _ x)⟩
theorem fG{it l:Addr}{i:Nat}{items}{x:Value}{Q:Value→Shared→Prop}(hit:s.heap.IsTupleIter it l i)
 (hl:s.heap.IsTuple l items) (hx:items[i]?=some x)
 (hQ:∀ h',h'.IsTupleIter it l (i+1)→Heap.SameBut it s.heap h'→Q x { s with heap:=h' }) :
 wpAny (model prog w) A (Builtin.SmallTypes.nextOf (.ref it)) Q E s:=by
 obtain ⟨o,ho,hc,hd⟩:=id hit;obtain ⟨ol,hol,_,nl,hdl⟩:=hl;unfold Builtin.SmallTypes.nextOf
 refine wpAny_bind (wpAny_callSpecial?_slot (name:=Str.ofString "__next__") hit.typeIs F.slot_tuple_iterator_next
  (wpAny_call_entry F.slot_tuple_iterator_next hit.typeIs F.entry_tuple_iterator_next ?_ (F.args_tuple_iterator_next_1 _)))
 show wpAny _ _ (field (.ref it) 0 >>= _) _ _ s
 refine wpAny_bind (wpAny_field ho hd (x:= .ref l) rfl ?_)
 show wpAny _ _ (if (Value.ref l == Value.none)=true then _ else _) _ _ s
 rw [if_neg (show ¬ ((Value.ref l == Value.none)=true) from Bool.false_ne_true)]
 show wpAny _ _ (field (.ref it) 1 >>= _) _ _ s
 refine wpAny_bind (wpAny_field ho hd (x:= .int i 0) rfl ?_)
 show wpAny _ _ (seqItems? (.ref l) >>= _) _ _ s
 refine wpAny_bind (wpAny_seqItems hol hdl ?_);simp only [Int.toNat_natCast,hx];refine wpAny_bind (wpAny_setField ho hd (by simp) (wpAny_pure ⟨x,rfl,wpAny_pure (hQ _ ?_ (Heap.SameBut.update ..))⟩))
 exact ⟨_,Heap.get?_update_self _ ho (Obj.isFreed_of_fields (Obj.data_mapFields hd _)),(Obj.cls_mapFields ..).trans hc,by
  rw [Obj.data_mapFields hd];simp [rawInt]⟩
theorem gx{it l:Addr}{i:Nat}{items}{Q:Value→Shared→Prop}(hh:A.handled=none)
 (hit:s.heap.IsTupleIter it l i) (hl:s.heap.IsTuple l items) (hx:items[i]?=none)
 (hE:∀ h' e,Heap.ExtBut it s.heap h'→(∃ o,h'.get? e=some o∧o.cls = .type "StopIteration")→E (.ref e) { s with heap:=h' }) :
 wpAny (model prog w) A (Builtin.SmallTypes.nextOf (.ref it)) Q E s:=by
 obtain ⟨o,ho,hc,hd⟩:=id hit;obtain ⟨ol,hol,_,nl,hdl⟩:=hl;unfold Builtin.SmallTypes.nextOf
 refine wpAny_bind (wpAny_callSpecial?_slot (name:=Str.ofString "__next__") hit.typeIs F.slot_tuple_iterator_next
  (wpAny_call_entry F.slot_tuple_iterator_next hit.typeIs F.entry_tuple_iterator_next ?_ (F.args_tuple_iterator_next_1 _)))
 show wpAny _ _ (field (.ref it) 0 >>= _) _ _ s
 refine wpAny_bind (wpAny_field ho hd (x:= .ref l) rfl ?_)
 show wpAny _ _ (if (Value.ref l == Value.none)=true then _ else _) _ _ s
 rw [if_neg (show ¬ ((Value.ref l == Value.none)=true) from Bool.false_ne_true)]
 show wpAny _ _ (field (.ref it) 1 >>= _) _ _ s
 refine wpAny_bind (wpAny_field ho hd (x:= .int i 0) rfl ?_)
 show wpAny _ _ (seqItems? (.ref l) >>= _) _ _ s
 refine wpAny_bind (wpAny_seqItems hol hdl ?_);simp only [Int.toNat_natCast,hx];refine wpAny_bind (wpAny_rule (wpAny_bind (wpAny_setField ho hd (by simp) ?_)))
 show wpAny _ _ (newExc (.type "StopIteration") [] >>= _) _ _ _
 refine wpAny_bind ?_;simp only [newExc,newTuple];refine wpAny_bind (wpAny_newObj_type ?_ (by size_fits));refine wpAny_bind (m:=firstArgMember _ _) (wpAny_of_eq (a:=Value.none) (by first | rfl | (simp only [firstArgMember];rfl)) ?_);refine wpAny_newObj_type ?_ (by size_fits);simp only [raiseNew];refine wpAny_bind (wpAny_handled ?_)
 first | rw [show A.in1.handled=none from hh] | rw [hh]
 refine wpAny_bind (wpAny_pure (wpAny_throw ?_));exact hE _ _ (((Heap.SameBut.update ..).extBut.push _).push _) ⟨_,Heap.get?_push_size _ rfl,rfl⟩
end
end EnT
namespace L2
open PySem PySem.Spec PyProof.Rows
section
variable{X:Cx}
end
end L2
namespace XK
open PySem PySem.W PySem.Spec PySem.Calls PyProof.Rows PySem.Builtin PySem.Builtin.ObjectAttr PySem.Builtin.Getset_descriptor
section
variable{prog:Program}{w:World}{A:Around}{E:Value→Shared→Prop}{h:Heap}{g:Array GenState}{d:Drawn}{t:Nat}{os:OsState}{a:Addr}{o:Obj}{C:Addr}{K:Frag}
end
end XK
namespace L2
open PySem PySem.Spec PyProof.Rows
section
variable{X:Cx}{e:Expr}{te:TE}{x:Str}{p1 p2 pos:Pos}
end
end L2
namespace L2
open PySem PySem.Spec PyProof.Rows
section
variable{X:Cx}
theorem rG{elt tg iter:Expr}{ifs:List Expr}{sc:Scope}{M tgs:List Str}{pos:Pos}{wi:TI}{g:TG}{tt:TT}{te:TE}{j:Nat}{y:Str}{py spos:Pos}(hc:X.calm=true)(B:qV X sc M tgs)(hi:PI X tg iter wi)
 (hg:∀ cl C fp s H,PG (blk X sc cl C fp s H (M++tgs)) tg g) (ht:∀ cl C fp s H,xM (blk X sc cl C fp s H (M++tgs)) ifs tt) (he:∀ cl C fp s H,PE (blk X sc cl C fp s H (M++tgs)) elt te)
 (hN:X.N.Nodup) (hjy:X.N[j]?=some y) (hy:X.env.scope.names.lookup y=some .local) (hsw:swapsWith (.ListComp elt [⟨tg,iter,ifs,0⟩] sc pos) (some (.Name y py)) spos.line X.env=pure true:=by rfl)
 (hs:∀ x,foldedSetIterable iter X.env x=pure x:=by intro _;rfl):PS X (.Assign [.Name y py] (.ListComp elt [⟨tg,iter,ifs,0⟩] sc pos) spos) (tAsg (sR wi tgs.length g tt te) (tQ j)):=by
 intro pins s σ H Dn I h
 let Q:VK:=fun x H1=>Dn.nx (σ.set j (some x)) H1
 have h:sR wi tgs.length g tt te σ H Q:=h
 have hfr:∀ y∈sc.names,y.2 = .free→∃ c,X.env.cells.lookup y.1=some c:=fun y hy e=>I.ok.has _ (B.free y hy e)
 have hsub:∀ x c,(clF X.env sc.names []).lookup x=some c→X.env.cells.lookup x=some c:=ko sc.names [] hfr fun _ _ z=>by simp at z
 rw [exec_Assign_Name_used _ _ _ _ hsw];refine wpAny_bind (wpAny_standAt (wpAny_bind ?_))
 show wpAny _ X.A (do let _ ← comprehension (.ListComp elt [⟨tg,iter,ifs,0⟩] sc pos) sc X.env _ (newList []) false (eval iter X.env) (some (assign (.Name y py) X.env))) _ _ s
 refine wpAny_bind (wpAny_mono (wpAny_comprehension_free (use:=some (assign (.Name y py) X.env)) (Q:=fun _ s'=>SP X pins Dn .next s') rfl hs (lM hfr) B.kind B.names (thn (hi pins s σ H _ I h) fun xv s₁ h₁=>thn h₁ fun itv s₂ h₂=> ?_)) (fun _ s' hq=>wpAny_pure (wpAny_pure hq)) fun _ _ e=>e);obtain ⟨it,fp,tn,J,H2,rfl,I2,T,st2,f2,W,⟨m0,w0⟩,turn⟩:=h₂
 have hfl:∀ b∈fp,b < s₂.heap.objs.size:=fun b hb=>by
  obtain ⟨o,e,_⟩:=T.obj _ _ st2 b hb;exact Heap.lt_size e
 refine wpAny_newObj_type (wpAny_newFunctionEnv B.nocell (by intro y hy;simp at hy) (fun h₁ hns₁ hsb₁=> ?_) B.kind);dsimp only at hns₁ hsb₁ ⊢
 generalize hH2:s₂.heap.push { cls:= .type "list",dict:=none,data:= .seq ([]:List Value).toArray }=HH at hns₁ hsb₁ ⊢
 have hC:HH.objs.size=s₂.heap.objs.size+1:=by rw [← hH2,Heap.size_push]
 generalize hCC:HH.objs.size=C at hC hns₁ hsb₁ ⊢
 generalize hDD:s₂.heap.objs.size=D at hC ⊢
 have hDC:D≠C:=by omega
 have below:∀ b,b < D→b≠C∧b≠D:=fun b hb=>⟨by omega,by omega⟩
 have old:∀ b o,s₂.heap.get? b=some o→h₁.get? b=some o:=fun b o e=>hsb₁.extBut b o (below b (hDD ▸ Heap.lt_size e)).1 (Heap.get?_push_of_some _ (hH2 ▸ Heap.get?_push_of_some _ e))
 have hacc:h₁.PlainList D #[]:=⟨_,hsb₁.extBut _ _ hDC (Heap.get?_push_of_some _ (by rw [← hH2,← hDD];exact Heap.get?_push_size _ rfl))⟩
 have hCs:s₂.heap.objs.size≤C:=by omega
 generalize hS4:({ s₂ with heap:=h₁,toks:=s₂.toks+([]:List (Str×Value)).length }:Shared)=s₄
 have I4:Inv (blk X sc (clF X.env sc.names []) C fp s₂ H2 (M++tgs)) [] (σ++List.replicate tgs.length none) H2 s₄ :=
  I2.blk B f2 hfl hCs (by rw [← hS4];exact hns₁) (by rw [← hS4];exact old) (by rw [← hS4]) (by rw [← hS4])
 have hD4:s₄.heap.PlainList D #[]:=by rw [← hS4];exact hacc
 have st4:tn 0 s₄.heap:=by rw [← hS4];exact T.keep _ _ _ st2 fun b _ o e=>old b o e
 let X':=blk X sc (clF X.env sc.names []) C fp s₂ H2 (M++tgs)
 have nfs:∀ b,s₂.heap.objs.size≤b→b∉frs X.stack:=fun b hb z=>by
  rcases List.mem_cons.mp (I2.stkSub b z) with q | q
  ·rw [q] at hb;exact absurd I2.lt (Nat.not_lt.mpr hb)
  ·exact I2.nofs hb q
 have Dpin:∀ {s':Shared} {H':Hp} {its:Array Value} {n:Nat},s'.heap.get? D=some { cls:= .type "list",data:= .seq its n }→H' D=none →
  ∀ p∈[(D,({ cls:= .type "list",data:= .seq its n }:Obj))],s'.heap.get? p.1=some p.2∧H' p.1=none∧p.1≠X'.env.locals∧p.1∉X'.fs∧∀ v,p.2.data ≠ .cell v:=fun {s' H' its n} e hn p hp=>by
  have e1:p=(D,({ cls:= .type "list",data:= .seq its n }:Obj)):=by simpa using hp
  subst e1;exact ⟨e,hn,hDC,nfs D (by omega),fun v z=>by cases z⟩
 have fpk:∀ {pl:List (Addr×Obj)} {H':Hp},(∀ p∈pl,p.1=D)→(∀ b∈fp,H' b=none)→∀ b∈fp,pi X' pl H' b:=fun {pl H'} hpl hn b hb=>by
  refine ⟨hn b hb,(below b (hDD ▸ hfl b hb)).1,fun z=> ?_,.inl hb,fun x c e=>(f2 b hb).2.2.2.2.1 x c (hsub x c e),fun p hp=> ?_⟩
  ·rcases List.mem_cons.mp (I2.stkSub b z) with q | q
   ·exact (f2 b hb).2.1 q
   ·exact (f2 b hb).2.2.1 q
  ·have hp':p∈pl:=by simpa [X',blk] using hp
   rw [hpl p hp'];exact Ne.symm (below b (hDD ▸ hfl b hb)).2
 have cellD:∀ x c,X'.env.cells.lookup x=some c→c≠D:=fun x c e z=>by
  obtain ⟨v,q⟩:=I2.cell x c (hsub x c e);have q:=q.lt;rw [z,hDD] at q;exact Nat.lt_irrefl _ q
 have loop:codeAny (model X.prog X.w) X.A (.compLoop (.ListComp elt [⟨tg,iter,ifs,0⟩] sc pos) 0 (.ref it) (.ref D) (compEnvC sc (clF X.env sc.names []) C X.env))
  (compPost (model X.prog X.w) X.A X.xe (some (assign (.Name y py) X.env)) (fun _ s'=>SP X pins Dn .next s') (.ref D) C) s₄:=by
  refine jh (fun n s'=>∃ i ys its k H',Inv X' [(D,{ cls:= .type "list",data:= .seq its k })] (σ++List.replicate tgs.length none) H' s'∧aG ys its.toList∧tn i s'.heap∧(∀ b∈fp,H' b=none)∧W i n ys H') ?_ m0 ?_
  ·rintro n s5 ⟨i,ys,its,k,H5,I5,hv,st5,fr5,w5⟩
   obtain ⟨hz,w5⟩:=turn i n ys H5 w5;have hD5:=I5.pin (D,{ cls:= .type "list",data:= .seq its k }) (List.mem_append_right _ (by simp))
   have one:∀ p∈[(D,({ cls:= .type "list",data:= .seq its k }:Obj))],p.1=D:=fun p hp=>by
    have:p=(D,({ cls:= .type "list",data:= .seq its k }:Obj)):=by simpa using hp
    rw [this]
   rcases w5 with ⟨stop,qn⟩ | ⟨go,step⟩
   ·refine thn (T.done X' rfl rfl rfl hc i _ s5 _ H5 _ I5 (fpk one fr5) st5 stop) fun r s6 ⟨hr,I6⟩=> ?_
    subst hr;obtain ⟨m6,hn6,_⟩:=I6.loc;have hn6:s6.heap.Ns C m6:=hn6;obtain ⟨e6,n6,_⟩:=I6.pin (D,{ cls:= .type "list",data:= .seq its k }) (List.mem_append_right _ (by simp));have hC6:H5 C=none:=I6.free;have hln:ys.length≤sizeLine:=hz;have ok8:HOk X.prog X.w (upd H5 D (.lst ys)) s6.heap:=I6.hok.track n6 ⟨hln,its.toList,k,hv,by simpa using e6⟩;have un:Un (frs X.stack) fp H2 H5 s₂.heap s6.heap:=I6.base
    have neC:∀ b o,s₂.heap.get? b=some o→b≠C∧b≠D:=fun b o e=>below b (hDD ▸ Heap.lt_size e)
    have un7:Un (frs X.stack) fp H2 (upd H5 D (.lst ys)) s₂.heap s6.heap:=by
     refine ⟨un.keep,un.slot,fun b o e n hx=> ?_,un.there,fun b xs e=> ?_,fun b o u e=> ?_,fun b ps e=> ?_⟩
     ·rw [ar (neC b o e).2];exact un.free b o e n hx
     ·have q:=un.tups b xs e
      rw [ar (au q n6)];exact q
     ·have q:=un.frzs b o u e
      rw [ar (au q n6)];exact q
     ·obtain ⟨more,q⟩:=un.tbls b ps e
      exact ⟨more,by rw [ar (au q n6)];exact q⟩
    have I8:Inv X pins σ (upd H5 D (.lst ys)) s6:=I2.call' (ch:=fp) I6.os un7 ok8 I6.bare (fun b hb=>⟨(f2 b hb).2.2.2.1,(f2 b hb).2.1,(f2 b hb).2.2.2.2.1,(f2 b hb).2.2.2.2.2⟩);have hLC:X.env.locals < C:=Nat.lt_of_lt_of_le I2.lt hCs
    have hcC:∀ x c,X.env.cells.lookup x=some c→c≠C:=fun x c e z=>by
     obtain ⟨v,q⟩:=I2.cell x c e;have q:=q.lt;rw [z] at q;exact absurd q (Nat.not_lt.mpr hCs)
    show wpAny _ _ (assign (.Name y py) X.env (.ref D)) _ _ _
    refine wpAny_assign_Name (mP I8 hN hjy (.inl hy) (v:= .ref D) rfl (fun s9 I9 hsb=> ?_) (.inr hy));obtain ⟨a,sb,ha⟩:=hsb
    have haC:C≠a:=by
     rcases ha with rfl | ha
     ·exact Nat.ne_of_gt hLC
     ·exact Ne.symm (hcC _ _ ha)
    refine ⟨m6,hn6.sameBut sb haC,fun h' hs'=>⟨_,upd H5 D (.lst ys),I9.turned (t':=s9.toks) (it:=C) (fun b o hb e=>(hs'.2 b hb).trans e) (by rw [ar (Ne.symm hDC)];exact hC6) (Nat.ne_of_gt hLC) (.inr (Nat.le_trans I2.sz hCs)) hcC (fun p hp z=> ?_),qn D n6⟩⟩;have:=Heap.lt_size (I2.pin p hp).1;rw [z] at this;exact absurd this (Nat.not_lt.mpr hCs)
   ·refine thn (T.item X' rfl rfl rfl hc i _ s5 _ H5 _ I5 (fpk one fr5) st5 go) fun r s6 ⟨u,hr,h6⟩=> ?_
    subst hr
    refine thn h6 fun _ s7 ⟨x,H7,I7,r7,y7,st7,fr7⟩=> ?_
    have I7':=I7.pinned (fpk one fr7) (T.obj _ _ st7)
    refine thn (hg _ _ _ _ _ _ s7 _ H7 x u _ I7' r7 (step x H7 y7)) fun _ s8 ⟨σ8,H8,I8,tk8,q8⟩=> ?_
    refine thn (ht _ _ _ _ _ _ s8 σ8 H8 _ I8 q8) fun b s9 ⟨H9,I9,q9⟩=> ?_
    have weak:∀ {pl:List (Addr×Obj)} {H':Hp} {s':Shared},Inv X' pl σ8 H' s'→Inv X' pl (σ++List.replicate tgs.length none) H' s':=fun {pl H' s'} J=>J.weak (by
     have e1:σ8.length=(M++tgs).length:=J.len
     rw [e1,List.length_append,List.length_append,List.length_replicate,B.len,I2.len]) (sT tk8)
    have fin:∀ {H':Hp} {s':Shared},Inv X' ([(D,{ cls:= .type "list",data:= .seq its k })]++jn fp s7.heap) σ8 H' s'→tn (i+1) s'.heap∧∀ b∈fp,H' b=none:=fun {H' s'} J=>by
     refine ⟨T.keep _ _ _ st7 fun b hb o e=>(J.pin (b,o) (List.mem_append_right _ (List.mem_append_right _ (dy hb e)))).1,fun b hb=> ?_⟩;obtain ⟨o,e,d⟩:=T.obj _ _ st7 b hb;exact (J.pin (b,o) (List.mem_append_right _ (List.mem_append_right _ (dy hb e)))).2.1
    cases b with
    | false =>
     rw [if_neg Bool.false_ne_true] at q9 ⊢;obtain ⟨m',hm,w9⟩:=q9;exact ⟨m',hm,i+1,ys,its,k,H9,weak I9.unpinned,hv,(fin I9).1,(fin I9).2,w9⟩
    | true =>
     rw [if_pos rfl] at q9 ⊢
     refine thn (he _ _ _ _ _ _ s9 σ8 H9 _ I9 q9) fun y s10 ⟨yv,H10,I10,r10,q10⟩=> ?_
     obtain ⟨m',hm,w10⟩:=q10;obtain ⟨e10,n10,_⟩:=I10.pin (D,{ cls:= .type "list",data:= .seq its k }) (List.mem_append_right _ (List.mem_append_left _ (by simp)))
     have hsz:its.size≤sizeLine:=by
      have e1:=hv.length
      have e2:its.toList.length=its.size:=by simp
      omega
     refine wpAny_list_append_plain (hsz:=hsz) ⟨k,e10⟩ fun h11 hl11 hs11=> ?_
     obtain ⟨k',e11⟩:=hl11
     have J0:Inv X' [] σ8 H10 s10:=I10.pins_of fun p hp=>by simp at hp
     have J1:Inv X' [] σ8 H10 { s10 with heap:=h11 }:=J0.turned (t':=s10.toks) (it:=D) (fun b o hb e=>(hs11.2 b hb).trans e) n10 hDC (.inr (by show s₂.heap.objs.size≤D;omega)) cellD (fun p hp=>by
      have hp':p∈([]:List (Addr×Obj)):=by simpa [X',blk] using hp
      simp at hp')
     have J2:Inv X' [(D,{ cls:= .type "list",data:= .seq (its.push y) k' })] σ8 H10 { s10 with heap:=h11 }:=J1.pins_of (Dpin e11 n10);refine ⟨m',hm,i+1,ys++[yv],its.push y,k',H10,weak J2,?_,?_,(fin I10).2,w10⟩
     ·rw [Array.toList_push]
      exact hv.append (.cons r10 .nil)
     ·refine T.keep _ _ _ (fin I10).1 fun b hb o e=>(hs11.2 b ?_).trans e
      exact (below b (hDD ▸ hfl b hb)).2
  ·obtain ⟨k,e⟩:=hD4
   exact ⟨0,[],#[],k,H2,I4.pins_of (Dpin e (I2.hok.fresh (by omega))),.nil,st4,fun b hb=>(f2 b hb).1,w0⟩
 exact codeAny_compStart_list loop (T.self _ _ _ _ _ st4 loop)
end
end L2
namespace L2
open PySem PySem.Spec PyProof.Rows
section
variable{X:Cx}
def ie(K:PySem.W.Frag):List V→Hp→(V→Hp→Prop)→Prop:=fun xs H Q=>∃ (p:Addr) (ns:List Int),xs=[V.ref p]∧SqL K H p (ns.map V.int)∧ns.length < 64 ∧
 ∀ l (ms:List Int),H l=none→List.Perm ms ns→ms.Pairwise (·≤ ·)→Q (.ref l) (upd H l (.lst (ms.map V.int)))
theorem jD{us:List Value}{ns:List Int}(h:IntsAre us ns):aG (ns.map V.int) us:=by
 induction h with
 | nil=>exact .nil
 | cons a t _ ih=>exact .cons ⟨t,rfl⟩ ih
theorem o3:aI X (.builtin "sorted") (ie X.K):=by
 intro pins s σ H xs us Q I r h;obtain ⟨p,ns,rfl,hq,h64,q⟩:=h;obtain ⟨u,rfl,ru⟩:=b4 r;cases ru;obtain ⟨its,rv,pl,hz⟩:=I.list hq;have hlen:=rv.length;rw [List.length_map] at hlen
 refine sorted_ints pl.isList (dA rv) (by omega) fun out ms hi hp hs=> ?_
 have hf:H (s.heap.objs.size+1)=none:=I.hok.fresh (Nat.le_succ _);obtain ⟨e,he⟩:=sortedAll_at s.heap its out;refine ⟨.ref (s.heap.objs.size+1),upd H (s.heap.objs.size+1) (.lst (ms.map V.int)),I.laid (t':=s.toks) (fun b o=>sortedAll_old) (Nat.le_succ _) ⟨?_,out.toList,e,jD hi,by simpa using he⟩,rfl,q _ _ hf hp hs⟩;rw [List.length_map,hp.length_eq]
 rwa [List.length_map] at hz
def kU:List V→Hp→(V→Hp→Prop)→Prop:=fun xs H Q=>∃ (p:Addr) (lo hi:Int),xs=[V.ref p]∧H p=some (.rng lo hi) ∧ -(2 ^ 62)≤lo∧lo < 2 ^ 62 ∧ -(2 ^ 62)≤hi∧hi < 2 ^ 62∧(hi - lo).toNat≤1000 ∧
 ∀ l,H l=none→Q (.ref l) (upd H l (.lst ((List.range (hi - lo).toNat).map fun k=>V.int (lo+(k:Nat)))))
theorem gb:∀ {xs:List V} {us:List Value},xs.length=us.length→(∀ (i:Nat) (x:V) (u:Value),xs[i]?=some x→us[i]?=some u→aR x u)→aG xs us
 | [],[],_,_=> .nil
 | x::xs,u::us,h,q=> .cons (q 0 x u rfl rfl) (gb (by simpa using h) fun i x' u' h1 h2=>q (i+1) x' u' (by simpa using h1) (by simpa using h2))
 | [],_::_,h,_=>by simp at h
 | _::_,[],h,_=>by simp at h
theorem sE(hc:X.calm=true):aI X (.type "list") kU:=by
 intro pins s σ H xs us Q I r h;obtain ⟨p,lo,hi,rfl,hp,h1,h2,h3,h4,hn,q⟩:=h;obtain ⟨u,rfl,ru⟩:=b4 r;cases ru;obtain ⟨t,u,v,e⟩:=(show bP X.prog X.w H s.heap p (.rng lo hi) from I.hok p _ hp)
 have hsz:Builtin.Range.rangeSize lo hi 1=((hi - lo).toNat:Nat):=by rw [rangeSize_one];split<;>omega
 refine call_list_range (n:=(hi - lo).toNat) (I.ok.hd hc) (show IsRange s.heap p lo hi 1 t u v from e) (small_one h1 h2 h3 h4) hsz (by omega) fun h' tk acc c hk hS hacc=> ?_
 have hf:H s.heap.objs.size=none:=I.hok.fresh (Nat.le_refl _);refine ⟨.ref s.heap.objs.size,_,I.laid (o:= .lst ((List.range (hi - lo).toNat).map fun k=>V.int (lo+(k:Nat)))) hk (Nat.le_refl _) ⟨?_,acc.toList,c,gb ?_ ?_,by simpa using hS⟩,rfl,q _ hf⟩
 ·rw [List.length_map,List.length_range];exact Nat.le_of_lt (dj hn)
 ·rw [List.length_map,List.length_range,Array.length_toList,hacc.1]
 ·intro i x w hx hw
  rw [List.getElem?_map] at hx;obtain ⟨k,hk',rfl⟩:=Option.map_eq_some_iff.mp hx
  have ek:i=k:=by
   rw [List.getElem?_eq_some_iff] at hk';obtain ⟨z,e⟩:=hk';simpa using e
  subst ek;obtain ⟨t',rfl⟩:=hacc.2 i w (by simpa using hw);refine ⟨t',?_⟩;rw [Int.mul_one]
end
end L2
namespace St2
open PySem PyProof.Rows
abbrev eM(ns:List Int)(k:Nat):List Int:=firstMet (fun j=>ns.getD j 0) k
abbrev gy(led:Bool):Obj:={ cls:= .type "set",dict:=none,data:= .set #[] 0 (.fresh 0 0 led) }
section
variable{prog:Program}{w:World}{A:Around}{E:Value→Shared→Prop}{s:Shared}
theorem uj{a:Addr}{its:Array Value}{ns:List Int}{Q:Value→Shared→Prop}(calm:A.handled=none)(tu:IsTup s.heap a its)(inz:IntsAre its.toList ns)(few:its.size+1 < scanBound)
 (q:∀ (h':Heap) (tk:Nat),h'.SetOf (intKind prog w) s.heap.objs.size (fun x=>(eM ns its.size).any (·== x)) (eM ns its.size).length→(∀ b o,b < s.heap.objs.size→s.heap.get? b=some o→h'.get? b=some o)→Q (.ref s.heap.objs.size) { s with heap:=h',toks:=tk }) :
 wpAny (model prog w) A (call (.type "set") [.ref a]) Q E s:=by
 obtain ⟨c0,tl0,mro0⟩:=F.called_set.mro;have m1:=F.called_set.made;have m2:=F.called_set.sub;have m3:=F.called_set.notType;have m4:=F.called_set.canCreate;have m5:=F.typeCall_set_1 (.ref a);refine wpAny_call (codeAny_of_tree ?_)
 show wpAny _ _ (callAny (.type "set") _) _ _ _
 refine wpAny_pure ⟨Code.quiet_builtin _ (by decide +kernel),codeAny_builtin F.entry_type_call ?_⟩;rw [Around.under_plain (weight_type_call_type "set" [.ref a] []) rfl]
 repeat (any_goals (first | assumption | wp_step))
 refine codeAny_mono (code_set_new_1 (.ref a) (E:=E) (Q₁:=fun ob t1=>∃ led:Bool,ob = .ref s.heap.objs.size∧t1={ s with heap:=s.heap.push (gy led) }) fun led=>⟨led,rfl,rfl⟩) fun res t1 hres=> ?_
 cases res with
 | error x=>exact hres
 | ok fl =>
  cases fl with
  | next=>exact hres.elim
  | brk=>exact hres.elim
  | cont=>exact hres.elim
  | ret ob =>
   obtain ⟨led,rfl,rfl⟩:=hres;have atS:(s.heap.push (gy led)).get? s.heap.objs.size=some (gy led):=Heap.get?_push_size _ rfl;have tyS:Shared.TypeIs { s with heap:=s.heap.push (gy led) } (.ref s.heap.objs.size) "set" := ⟨_,atS,rfl⟩;have i1:=F.called_set.init.lookup;have i2:=F.called_set.init.bind (.ref s.heap.objs.size)
   repeat (any_goals (first | assumption | wp_step))
   refine codeAny_mono (codeAny_call_builtin (R:=wants (fun r t2=>r = .none∧∃ h' tk,t2={ s with heap:=h',toks:=tk }∧h'.SetOf (intKind prog w) s.heap.objs.size (fun x=>(eM ns its.size).any (·== x)) (eM ns its.size).length ∧
    (∀ b o,b < s.heap.objs.size→s.heap.get? b=some o→h'.get? b=some o)) E) F.called_set.init.plain F.entry_set_init (check_set_init_1 tyS ?_)) fun r2 t2 hr2=> ?_
   ·obtain ⟨⟨k1,k2,k3,k4⟩,e0,e1,n0,e2⟩:=id tu
    simp only at e1 e2;subst e1 e2;have e0':(s.heap.push (gy led)).get? a=some ⟨.type "tuple",k2,.seq its n0,k4⟩:=Heap.get?_push_of_some _ e0;have j1:=F.sub_tuple_set;have j2:=F.sub_tuple_frozenset
    have j3:(Value.type "tuple" == Value.type "dict")=false:=by decide
    have tu1:IsTup (s.heap.push (gy led)) a its:=⟨_,e0',rfl,n0,rfl⟩;unfold Builtin.«set.__init__» noKeywords Builtin.Frozenset.updateFrom
    generalize hPy:pyIter=PY
    wp_walk
    subst hPy;refine wpAny_pyIter_tuple (show (s.heap.push (gy led)).IsTuple a its from tu1) ?_;refine wpAny_bind (wpAny_runValue ?_);have lt:a < s.heap.objs.size:=Heap.lt_size e0
    have calm3:A.in1.in1.in1.handled=none:=by simp [calm]
    have ne1:a≠(s.heap.push (gy led)).objs.size:=by rw [Heap.size_push];exact Nat.ne_of_lt (Nat.lt_succ_of_lt lt)
    have out:s.heap.objs.size∉[(s.heap.push (gy led)).objs.size,a]:=by
     rw [Heap.size_push];simp only [List.mem_cons,List.not_mem_nil,or_false,not_or];exact ⟨Nat.ne_of_lt (Nat.lt_succ_self _),Nat.ne_of_gt lt⟩
    refine codeAny_set_update_loopS ((Walks.tuple calm3 _ a ne1 its).toS) s.heap.objs.size out (fun j=>ns.getD j 0) (fun i v hv=>IntsAre.int_at inz i v (by rw [Array.getElem?_toList];exact hv)) few (its.size - 0) 0 _ (by omega) (Nat.zero_le _) ⟨⟨_,Heap.get?_push_size _ rfl,rfl,rfl⟩,?T⟩ ?S ?R
    case T=>exact ⟨_,Heap.get?_push_of_some _ e0',rfl,n0,rfl⟩
    case S=>exact SetOf_congr ((setObjOf_fresh (knd:=intKind prog w) led).setOf (Heap.get?_push_of_some _ atS) (by unfold scanBound;omega)) (fun _=>rfl) rfl
    case R =>
     rintro ⟨h',g',d',tk',os'⟩ mv st;have w1:g'=s.gens:=mv.gens;have w2:d'=s.drawn:=mv.drawn;have w3:os'=s.os:=mv.os;subst w1 w2 w3;refine wpAny_pure ?_
     show wpAny _ _ (ret Value.none) _ _ _
     refine wpAny_pure ⟨rfl,h',tk',rfl,st,fun b o lb e=>mv.heap b o ?_ (Heap.get?_push_of_some _ (Heap.get?_push_of_some _ e))⟩;rw [Heap.size_push];simp only [List.mem_cons,List.not_mem_nil,or_false,not_or];exact ⟨Nat.ne_of_lt lb,Nat.ne_of_lt (Nat.lt_succ_of_lt lb)⟩
   ·cases r2 with
    | error x=>exact hr2
    | ok f2 =>
     cases f2 with
     | ret r =>
      obtain ⟨rfl,h',tk,rfl,st,kp⟩:=hr2
      repeat (any_goals (first | assumption | wp_step))
      exact q _ _ st kp
     | next=>exact hr2.elim
     | brk=>exact hr2.elim
     | cont=>exact hr2.elim
end
end St2
namespace L2
open PySem PySem.Spec PyProof.Rows
section
variable{X:Cx}
def tj:List V→Hp→VK→Prop:=fun xs H Q=>∃ (p:Addr) (S:Int→Bool) (n:Nat),xs=[V.ref p]∧H p=some (.set S n)∧n≤1000∧Q (.int (n:Nat)) H
theorem qO:aI X (.builtin "len") tj:=by
 intro pins s σ H xs us Q I r h;obtain ⟨p,S,n,rfl,hp,hn,q⟩:=h;obtain ⟨u,rfl,ru⟩:=b4 r;cases ru;obtain ⟨o,es,ep,t,ho,ex,hd,_,_,_,hf,rfl⟩:=(show s.heap.SetOf (intKind X.prog X.w) p S n from I.hok p _ hp);exact call_len_set ho ex hd hf (by omega) ⟨.int (es.size:Nat),H,I.tok _,⟨_,rfl⟩,q⟩
end
end L2
namespace St2
open PySem PyProof.Rows
theorem pC(ns:List Int):∀ i,i≤ns.length→(List.range i).map (fun j=>ns.getD j 0)=ns.take i
 | 0,_=>rfl
 | i+1,h=>by
  have hi:i < ns.length:=by omega
  rw [List.range_succ,List.map_append,pC ns i (by omega),List.take_add_one,List.getElem?_eq_getElem hi];simp [hi]
end St2
namespace Tr2
open PySem PyProof.Rows
section
variable{prog:Program}{w:World}{A:Around}{E:Value→Shared→Prop}{s:Shared}
theorem zl{R:Result→Shared→Prop}{r:Addr}{a b:Int}{t u v:Tok}{k:Nat}(calm:A.handled=none)(rg:IsRange s.heap r a b 1 t u v)(sm:Builtin.Range.small a b 1=true)(sz:Builtin.Range.rangeSize a b 1=k)(few:k≤1000)
 (q:∀ (h':Heap) (tk:Nat) (acc:Array Value) (c0:Nat),(∀ x o,s.heap.get? x=some o→h'.get? x=some o)→h'.get? s.heap.objs.size=some { cls:= .type "list",dict:=none,data:= .seq acc c0,slots := #[] }→ItemsOf (fun i v=>∃ t,v = .int (a+i * 1) t) acc k→R (.ok (.ret (.ref s.heap.objs.size))) { s with heap:=h',toks:=tk }) :
 codeAny (model prog w) A (.builtin "proto.collect" ⟨[.ref r],[]⟩) R s:=by
 refine (codeAny_builtin PySem.F.entry_proto_collect ?_);rw [(Around.under_plainId PySem.F.plain_proto_collect _)]
 show wpAny _ A.in1 (newList [] >>= fun l=>again (.builtin "list.__iadd__" ⟨[l,.ref r],[]⟩)) (_) _ s
 refine wpAny_bind (wpAny_newObj_type (wpAny_pure ⟨plainId_quiet PySem.F.plain_list_iadd _,codeAny_builtin PySem.F.entry_list_iadd ?_⟩));rw [(Around.under_plainId PySem.F.plain_list_iadd _)];have at_:(s.heap.push { cls:= .type "list",data:= .seq ([]:List Value).toArray }).get? s.heap.objs.size=some { cls:= .type "list",data:= .seq #[] 0 }:=Heap.get?_push_size _ rfl
 show wpAny _ A.in1 (Builtin.List.listExtendWith (.ref s.heap.objs.size) (.ref r) (.ref s.heap.objs.size)) (_) _ _
 exact wpAny_extend_range (A:=A) (R:=R) (s:={ s with heap:=s.heap.push { cls:= .type "list",data:= .seq ([]:List Value).toArray } }) calm (Heap.get?_push_of_some _ rg) sm sz (by omega) s.heap.objs.size (.ref s.heap.objs.size) 0 at_ fun h' tk acc c0 kp hS it =>
  q h' tk acc c0 (fun x o e=>kp x o (Nat.ne_of_lt (Heap.lt_size e)) (Heap.get?_push_of_some _ e)) hS it
theorem gather{Q:List Value→Shared→Prop}{r:Addr}{a b:Int}{t u v:Tok}{k:Nat}(calm:A.handled=none)(rg:IsRange s.heap r a b 1 t u v)(sm:Builtin.Range.small a b 1=true)(sz:Builtin.Range.rangeSize a b 1=k)(few:k≤1000)
 (q:∀ (h':Heap) (tk:Nat) (acc:Array Value),s.heap.objs.size < h'.objs.size→(∀ x o,s.heap.get? x=some o→h'.get? x=some o)→ItemsOf (fun i v=>∃ t,v = .int (a+i * 1) t) acc k→Q acc.toList { s with heap:=h',toks:=tk }):wpAny (model prog w) A (collect (.ref r)) Q E s:=by
 unfold collect;refine wpAny_bind (wpAny_runValue (zl calm rg sm sz few fun h' tk acc c0 kp hS it=> ?_))
 show wpAny _ A (load s.heap.objs.size >>= _) (_) _ _
 refine wpAny_bind (wpAny_load hS ?_);exact wpAny_pure (q h' tk acc (Heap.lt_size hS) kp it)
theorem made{r:Addr}{a b:Int}{t u v:Tok}{k:Nat}(sm:Builtin.Range.small a b 1=true)(sz:Builtin.Range.rangeSize a b 1=k)(few:k≤1000):Meets (Builtin.«tuple.__new__» ⟨[.type "tuple",.ref r],[]⟩)
 (fun A R s=>A.handled=none∧IsRange s.heap r a b 1 t u v∧∀ (h':Heap) (tk:Nat) (acc:Array Value),s.heap.objs.size < h'.objs.size→(∀ x o,s.heap.get? x=some o→h'.get? x=some o)→ItemsOf (fun i v=>∃ t,v = .int (a+i * 1) t) acc k→R (.ok (.ret (.ref h'.objs.size))) { s with heap:=h'.push { cls:= .type "tuple",data:= .seq acc },toks:=tk }) :=
 .of_wp fun prog w A R s h=>by
  obtain ⟨calm,rg,h⟩:=h;have f1:=sub_tuple_self;have f2:=init_tuple_lookup;have f3:=madeHere_tuple;have ty:s.TypeIs (.ref r) "range" := ⟨_,rg,rfl⟩;have calm1:A.in1.handled=none:=calm
  wp_walk using wpAny_typeOf ty,gather calm1 rg sm sz few
  intro h' tk acc lz kp it
  show wpAny _ _ (Builtin.Tuple.tupleExact acc.toList.toArray >>= fun v=>ret v) (_) _ _
  unfold Builtin.Tuple.tupleExact;refine (wpAny_bind (wpAny_newObj_type ?_ (show acc.toList.toArray.size≤sizeLine by simp only [Array.toArray_toList];rw [it.1,sizeLine_eq];omega)));refine wpAny_pure ⟨_,rfl,?_⟩;rw [show acc.toList.toArray=acc by simp];exact h h' tk acc lz kp it
theorem pB{Q:Value→Shared→Prop}{r:Addr}{a b:Int}{t u v:Tok}{k:Nat}(calm:A.handled=none)(rg:IsRange s.heap r a b 1 t u v)(sm:Builtin.Range.small a b 1=true)(sz:Builtin.Range.rangeSize a b 1=k)(few:k≤1000)
 (q:∀ (h':Heap) (tk:Nat) (acc:Array Value),s.heap.objs.size < h'.objs.size→(∀ x o,s.heap.get? x=some o→h'.get? x=some o)→ItemsOf (fun i v=>∃ t,v = .int (a+i * 1) t) acc k→Q (.ref h'.objs.size) { s with heap:=h'.push { cls:= .type "tuple",data:= .seq acc },toks:=tk }):wpAny (model prog w) A (call (.type "tuple") [.ref r]) Q E s :=
 callType_new PySem.F.called_tuple (by decide) (PySem.F.typeCall_tuple_1 _) (PySem.F.newCall_tuple_1 _) (fun obj=>PySem.F.args_object_init_2 obj _) PySem.F.entry_tuple_new (made sm sz few) ⟨calm,rg,fun h' tk acc lz kp it=>⟨⟨_,Heap.get?_push_size _ rfl,rfl⟩,q h' tk acc lz kp it⟩⟩
end
end Tr2
namespace L2
open PySem PySem.Spec PyProof.Rows
section
variable{X:Cx}
theorem op_isB:OpR X (compareOp .Is) (fun x y H Q=>∃ a b,x = .bl a∧y = .bl b∧Q (.bl (a == b)) H):=by
 intro pins s σ H x y v u Q I rx ry h;obtain ⟨a,b,rfl,rfl,q⟩:=h;cases rx;cases ry;exact is_bool ⟨.bl (a == b),H,I,rfl,q⟩
def v6:List V→Hp→VK→Prop:=fun xs H Q=>∃ (p:Addr) (lo hi:Int),xs=[V.ref p]∧H p=some (.rng lo hi) ∧ -(2 ^ 62)≤lo∧lo < 2 ^ 62 ∧ -(2 ^ 62)≤hi∧hi < 2 ^ 62∧(hi - lo).toNat≤1000 ∧
 ∀ l,H l=none→Q (.ref l) (upd H l (.tup ((List.range (hi - lo).toNat).map fun k=>V.int (lo+(k:Nat)))))
theorem uW(hc:X.calm=true):aI X (.type "tuple") v6:=by
 intro pins s σ H xs us Q I r h;obtain ⟨p,lo,hi,rfl,hp,h1,h2,h3,h4,hn,q⟩:=h;obtain ⟨u,rfl,ru⟩:=b4 r;cases ru;obtain ⟨t,u,v,e⟩:=(show bP X.prog X.w H s.heap p (.rng lo hi) from I.hok p _ hp)
 have hsz:Builtin.Range.rangeSize lo hi 1=((hi - lo).toNat:Nat):=by rw [rangeSize_one];split<;>omega
 refine Tr2.pB (k:=(hi - lo).toNat) (I.ok.hd hc) (show IsRange s.heap p lo hi 1 t u v from e) (small_one h1 h2 h3 h4) hsz hn fun h' tk acc lz kp it=> ?_
 have ge:s.heap.objs.size≤h'.objs.size:=Nat.le_of_lt lz;have hf:H h'.objs.size=none:=I.hok.fresh ge;refine ⟨.ref h'.objs.size,_,I.laid (o:= .tup ((List.range (hi - lo).toNat).map fun k=>V.int (lo+(k:Nat)))) (fun b o z=>Heap.get?_push_of_some _ (kp b o z)) ge ⟨?_,acc.toList,gb ?_ ?_,⟨_,Heap.get?_push_size _ rfl,rfl,_,rfl⟩⟩,rfl,q _ hf⟩
 ·rw [List.length_map,List.length_range];exact Nat.le_of_lt (dj hn)
 ·rw [List.length_map,List.length_range,Array.length_toList,it.1]
 ·intro i x w hx hw
  rw [List.getElem?_map] at hx;obtain ⟨k,hk',rfl⟩:=Option.map_eq_some_iff.mp hx
  have ek:i=k:=by
   rw [List.getElem?_eq_some_iff] at hk';obtain ⟨z,e⟩:=hk';simpa using e
  subst ek;obtain ⟨t',rfl⟩:=it.2 i w (by simpa using hw);refine ⟨t',?_⟩;rw [Int.mul_one]
end
end L2
namespace L2
open PySem PySem.Spec PyProof.Rows
section
variable{X:Cx}
end
end L2
namespace L2
open PySem PySem.Spec PyProof.Rows
section
variable{X:Cx}
end
end L2
namespace L2
open PySem PySem.Spec PyProof.Rows
theorem di:∀ {ns:List Int} {us:List Value},aG (ns.map V.int) us→∃ ps:List (Int×Tok),us=ps.map (fun p=>Value.int p.1 p.2)∧ps.map (·.1)=ns
 | [],_,.nil=>⟨[],rfl,rfl⟩
 | n::ns,_,.cons r1 r2=>by
  obtain ⟨t,rfl⟩:=r1;obtain ⟨ps,rfl,e⟩:=di r2;exact ⟨(n,t)::ps,rfl,by rw [List.map_cons,e]⟩
theorem cF{ps:List (Int×Tok)}{ns:List Int}(e:ps.map (·.1)=ns){i:Nat}(h:i < ns.length):numAt ps.toArray i=ns[i]:=by
 subst e;rw [List.length_map] at h;unfold numAt;simp [h]
section
variable{X:Cx}
def qb(K:PySem.W.Frag):List V→Hp→(V→Hp→Prop)→Prop:=fun xs H Q=>∃ (p:Addr) (ns:List Int),xs=[V.ref p]∧SqL K H p (ns.map V.int)∧ns≠[]∧∀ M,M∈ns→(∀ a∈ns,a≤M)→Q (.int M) H
def qa(K:PySem.W.Frag):List V→Hp→(V→Hp→Prop)→Prop:=fun xs H Q=>∃ (p:Addr) (ns:List Int),xs=[V.ref p]∧SqL K H p (ns.map V.int)∧ns≠[]∧∀ M,M∈ns→(∀ a∈ns,M≤a)→Q (.int M) H
theorem u7(hc:X.calm=true):aI X (.builtin "max") (qb X.K):=by
 intro pins s σ H xs us Q I r h;obtain ⟨p,ns,rfl,hq,ne,q⟩:=h;obtain ⟨u,rfl,ru⟩:=b4 r;cases ru;obtain ⟨its,rv,pl,hz⟩:=I.list hq;obtain ⟨ps,rfl,e⟩:=di rv
 have lp:ps.length=ns.length:=by rw [← e,List.length_map]
 have n0:0 < ns.length:=List.length_pos_iff.mpr ne
 have ei:intItems ps.toArray=(ps.map fun p=>Value.int p.1 p.2).toArray:=by unfold intItems;simp
 obtain ⟨b1,b2⟩:=argBest_gt (numAt ps.toArray) (ps.toArray.size - 1)
 have sz:ps.toArray.size=ns.length:=by simp [lp]
 refine max_intList (xs:=ps.toArray) (I.ok.hd hc) (by rw [ei];exact pl.isList) (by rw [sz];exact n0) fun v h' tk hv k=> ?_
 obtain ⟨t,rfl⟩:=intItems_at hv;rw [sz] at b1 b2 ⊢;refine ⟨.int _,H,I.kept k,⟨t,rfl⟩,q _ ?_ fun a ha=> ?_⟩
 ·rw [cF e (by omega)]
  exact List.getElem_mem _
 ·obtain ⟨j,hj,rfl⟩:=List.getElem_of_mem ha
  have:=b2 j (by omega);rw [cF e hj] at this;exact this
theorem u2(hc:X.calm=true):aI X (.builtin "min") (qa X.K):=by
 intro pins s σ H xs us Q I r h;obtain ⟨p,ns,rfl,hq,ne,q⟩:=h;obtain ⟨u,rfl,ru⟩:=b4 r;cases ru;obtain ⟨its,rv,pl,hz⟩:=I.list hq;obtain ⟨ps,rfl,e⟩:=di rv
 have lp:ps.length=ns.length:=by rw [← e,List.length_map]
 have n0:0 < ns.length:=List.length_pos_iff.mpr ne
 have ei:intItems ps.toArray=(ps.map fun p=>Value.int p.1 p.2).toArray:=by unfold intItems;simp
 obtain ⟨b1,b2⟩:=argBest_lt (numAt ps.toArray) (ps.toArray.size - 1)
 have sz:ps.toArray.size=ns.length:=by simp [lp]
 refine min_intList (xs:=ps.toArray) (I.ok.hd hc) (by rw [ei];exact pl.isList) (by rw [sz];exact n0) fun v h' tk hv k=> ?_
 obtain ⟨t,rfl⟩:=intItems_at hv;rw [sz] at b1 b2 ⊢;refine ⟨.int _,H,I.kept k,⟨t,rfl⟩,q _ ?_ fun a ha=> ?_⟩
 ·rw [cF e (by omega)]
  exact List.getElem_mem _
 ·obtain ⟨j,hj,rfl⟩:=List.getElem_of_mem ha
  have:=b2 j (by omega);rw [cF e hj] at this;exact this
end
end L2
namespace L2
open PySem PySem.Spec PyProof.Rows
section
variable{X:Cx}
end
end L2
namespace ZpT
open PySem PySem.Spec PyProof.Rows
section
variable{prog:Program}{w:World}{A:Around}{E:Value→Shared→Prop}{s:Shared}
end
open AutoSeq1 (wpAny_loadPart')
section
variable{prog:Program}{w:World}{A:Around}{E:Value→Shared→Prop}{s:Shared}
end
end ZpT
namespace L2
open PySem PySem.Spec PyProof.Rows
section
variable{X:Cx}
end
end L2
namespace St2
open PySem PySem.Spec PyProof.Rows
section
variable{prog:Program}{w:World}{A:Around}{E:Value→Shared→Prop}{s:Shared}
theorem kE{a:Addr}{its:Array Value}{ns:List Int}{Q:Value→Shared→Prop}(calm:A.handled=none)(tu:s.heap.IsList a its)(inz:IntsAre its.toList ns)(few:its.size+1 < scanBound)
 (q:∀ (h':Heap) (tk:Nat),h'.SetOf (intKind prog w) s.heap.objs.size (fun x=>(eM ns its.size).any (·== x)) (eM ns its.size).length→(∀ b o,b < s.heap.objs.size→s.heap.get? b=some o→h'.get? b=some o)→Q (.ref s.heap.objs.size) { s with heap:=h',toks:=tk }) :
 wpAny (model prog w) A (call (.type "set") [.ref a]) Q E s:=by
 obtain ⟨c0,tl0,mro0⟩:=F.called_set.mro;have m1:=F.called_set.made;have m2:=F.called_set.sub;have m3:=F.called_set.notType;have m4:=F.called_set.canCreate;have m5:=F.typeCall_set_1 (.ref a);refine wpAny_call (codeAny_of_tree ?_)
 show wpAny _ _ (callAny (.type "set") _) _ _ _
 refine wpAny_pure ⟨Code.quiet_builtin _ (by decide +kernel),codeAny_builtin F.entry_type_call ?_⟩;rw [Around.under_plain (weight_type_call_type "set" [.ref a] []) rfl]
 repeat (any_goals (first | assumption | wp_step))
 refine codeAny_mono (code_set_new_1 (.ref a) (E:=E) (Q₁:=fun ob t1=>∃ led:Bool,ob = .ref s.heap.objs.size∧t1={ s with heap:=s.heap.push (gy led) }) fun led=>⟨led,rfl,rfl⟩) fun res t1 hres=> ?_
 cases res with
 | error x=>exact hres
 | ok fl =>
  cases fl with
  | next=>exact hres.elim
  | brk=>exact hres.elim
  | cont=>exact hres.elim
  | ret ob =>
   obtain ⟨led,rfl,rfl⟩:=hres;have atS:(s.heap.push (gy led)).get? s.heap.objs.size=some (gy led):=Heap.get?_push_size _ rfl;have tyS:Shared.TypeIs { s with heap:=s.heap.push (gy led) } (.ref s.heap.objs.size) "set" := ⟨_,atS,rfl⟩;have i1:=F.called_set.init.lookup;have i2:=F.called_set.init.bind (.ref s.heap.objs.size)
   repeat (any_goals (first | assumption | wp_step))
   refine codeAny_mono (codeAny_call_builtin (R:=wants (fun r t2=>r = .none∧∃ h' tk,t2={ s with heap:=h',toks:=tk }∧h'.SetOf (intKind prog w) s.heap.objs.size (fun x=>(eM ns its.size).any (·== x)) (eM ns its.size).length ∧
    (∀ b o,b < s.heap.objs.size→s.heap.get? b=some o→h'.get? b=some o)) E) F.called_set.init.plain F.entry_set_init (check_set_init_1 tyS ?_)) fun r2 t2 hr2=> ?_
   ·obtain ⟨⟨k1,k2,k3,k4⟩,e0,e1,n0,e2⟩:=id tu
    simp only at e1 e2;subst e1 e2;have e0':(s.heap.push (gy led)).get? a=some ⟨.type "list",k2,.seq its n0,k4⟩:=Heap.get?_push_of_some _ e0;have j1:=F.sub_list_set;have j2:=F.sub_list_frozenset
    have j3:(Value.type "list" == Value.type "dict")=false:=by decide
    have tu1:(s.heap.push (gy led)).IsList a its:=⟨_,e0',rfl,n0,rfl⟩;unfold Builtin.«set.__init__» noKeywords Builtin.Frozenset.updateFrom
    generalize hPy:pyIter=PY
    wp_walk
    subst hPy;refine wpAny_pyIter_list tu1 ?_;refine wpAny_bind (wpAny_runValue ?_);have lt:a < s.heap.objs.size:=Heap.lt_size e0
    have calm3:A.in1.in1.in1.handled=none:=by simp [calm]
    have ne1:a≠(s.heap.push (gy led)).objs.size:=by rw [Heap.size_push];exact Nat.ne_of_lt (Nat.lt_succ_of_lt lt)
    have out:s.heap.objs.size∉[(s.heap.push (gy led)).objs.size,a]:=by
     rw [Heap.size_push];simp only [List.mem_cons,List.not_mem_nil,or_false,not_or];exact ⟨Nat.ne_of_lt (Nat.lt_succ_self _),Nat.ne_of_gt lt⟩
    refine codeAny_set_update_loopS ((Walks.list calm3 _ a ne1 its).toS) s.heap.objs.size out (fun j=>ns.getD j 0) (fun i v hv=>IntsAre.int_at inz i v (by rw [Array.getElem?_toList];exact hv)) few (its.size - 0) 0 _ (by omega) (Nat.zero_le _) ⟨⟨_,Heap.get?_push_size _ rfl,rfl,rfl⟩,?T⟩ ?S ?R
    case T=>exact ⟨_,Heap.get?_push_of_some _ e0',rfl,n0,rfl⟩
    case S=>exact SetOf_congr ((setObjOf_fresh (knd:=intKind prog w) led).setOf (Heap.get?_push_of_some _ atS) (by unfold scanBound;omega)) (fun _=>rfl) rfl
    case R =>
     rintro ⟨h',g',d',tk',os'⟩ mv st;have w1:g'=s.gens:=mv.gens;have w2:d'=s.drawn:=mv.drawn;have w3:os'=s.os:=mv.os;subst w1 w2 w3;refine wpAny_pure ?_
     show wpAny _ _ (ret Value.none) _ _ _
     refine wpAny_pure ⟨rfl,h',tk',rfl,st,fun b o lb e=>mv.heap b o ?_ (Heap.get?_push_of_some _ (Heap.get?_push_of_some _ e))⟩;rw [Heap.size_push];simp only [List.mem_cons,List.not_mem_nil,or_false,not_or];exact ⟨Nat.ne_of_lt lb,Nat.ne_of_lt (Nat.lt_succ_of_lt lb)⟩
   ·cases r2 with
    | error x=>exact hr2
    | ok f2 =>
     cases f2 with
     | ret r =>
      obtain ⟨rfl,h',tk,rfl,st,kp⟩:=hr2
      repeat (any_goals (first | assumption | wp_step))
      exact q _ _ st kp
     | next=>exact hr2.elim
     | brk=>exact hr2.elim
     | cont=>exact hr2.elim
theorem mC{l:Addr}{vs:List Value}{Q:List Value→Shared→Prop}(hl:s.heap.IsTuple l vs.toArray)
 (h:Q vs { s with heap:=(s.heap.push (seqObj "list" #[] 0)).update s.heap.objs.size (Obj.mapSeq (·++ vs.toArray)) }) (hz:vs.length≤sizeLine):wpAny (model prog w) A (collect (.ref l)) Q E s:=by
 unfold collect;refine wpAny_bind (wpAny_runValue (codeAny_builtin F.entry_proto_collect ?_));unfold Builtin.«proto.collect»
 show wpAny _ _ (newList [] >>= _) _ _ _
 refine wpAny_bind (wpAny_newList ?_ (by simp));refine wpAny_pure ⟨Code.quiet_builtin _ (by decide +kernel),codeAny_builtin F.entry_list_iadd ?_⟩;obtain ⟨o,ho,hc,n,hd⟩:=id hl;have ho':(s.heap.push { cls:=Value.type "list",data:=Data.seq #[] }).get? l=some o:=Heap.get?_push_of_some _ ho;have hn:(s.heap.push { cls:=Value.type "list",data:=Data.seq #[] }).get? s.heap.objs.size=some { cls:=Value.type "list",data:=Data.seq #[] }:=Heap.get?_push_size _ rfl;have hT:Shared.TypeIs { s with heap:=s.heap.push { cls:=Value.type "list",data:=Data.seq #[] } } (.ref l) "tuple" := ⟨o,ho',hc⟩
 show wpAny _ _ (Builtin.List.listExtendWith (.ref s.heap.objs.size) (.ref l) (.ref s.heap.objs.size)) _ _ _
 unfold Builtin.List.listExtendWith;refine wpAny_bind (wpAny_typeOf hT ?_)
 have hb:(Builtin.List.listSameRef (.ref s.heap.objs.size) (.ref l)||Value.type "tuple" == Value.type "list" || Value.type "tuple" == Value.type "tuple")=true:=by
  rw [show (Value.type "tuple" == Value.type "tuple")=true by decide,Bool.or_true]
 rw [if_pos hb];refine wpAny_bind (listItems_at ho' hd (wpAny_bind (listItems_at hn rfl ?_)))
 show wpAny _ _ (Builtin.List.listUpdate (.ref s.heap.objs.size) (fun x=>x++vs.toArray) >>= _) _ _ _
 refine wpAny_bind (listUpdate_at hn rfl ?_ (by simp) (by simp;omega));refine wpAny_pure ?_;have e:=Heap.get?_update_self (Obj.mapSeq (·++ vs.toArray)) hn rfl
 show wpAny _ _ (load s.heap.objs.size >>= _) _ _ _
 refine wpAny_bind (wpAny_load e ?_)
 show wpAny _ _ (pure (#[]++vs.toArray).toList) _ _ _
 refine wpAny_pure ?_;simpa using h
end
end St2
namespace L2
open PySem PySem.Spec PyProof.Rows
section
variable{X:Cx}
def ic(K:PySem.W.Frag):List V→Hp→(V→Hp→Prop)→Prop:=fun xs H Q=>∃ (p:Addr) (ns:List Int),xs=[V.ref p]∧SqT K H p (ns.map V.int)∧ns.length < 64 ∧
 ∀ l (ms:List Int),H l=none→List.Perm ms ns→ms.Pairwise (·≤ ·)→Q (.ref l) (upd H l (.lst (ms.map V.int)))
theorem o0:aI X (.builtin "sorted") (ic X.K):=by
 intro pins s σ H xs us Q I r h;obtain ⟨p,ns,rfl,hq,h64,q⟩:=h;obtain ⟨u,rfl,ru⟩:=b4 r;cases ru;obtain ⟨its,rv,pl,hz⟩:=I.tuple hq;have hlen:=rv.length;rw [List.length_map] at hlen;refine Calls.call_function_entry kind_sorted plain_sorted entry_sorted (args_sorted1 _) ?_;unfold Builtin.«sorted»;refine wpAny_bind (m:=checkCount "sorted" 1 1 _) (wpAny_pure ?_);have lsz:sizeLine=16777216:=sizeLine_eq;refine wpAny_bind (St2.mC (show s.heap.IsTuple p its.toArray from pl) (wpAny_bind (wpAny_newList ?_ (by omega))) (by omega))
 generalize hh1:(s.heap.push (seqObj "list" #[] 0)).update s.heap.objs.size (Obj.mapSeq (·++ its.toArray))=h1
 have hsz:h1.objs.size=s.heap.objs.size+1:=by rw [← hh1,Heap.size_update,size_push']
 have k1:∀ b o,s.heap.get? b=some o→h1.get? b=some o:=fun b o q=>by
  rw [← hh1];exact (Heap.get?_update_other _ _ (Ne.symm (Nat.ne_of_lt (Heap.lt_size q)))).trans (Heap.get?_push_of_some _ q)
 show wpAny _ _ _ _ _ { s with heap:=h1.push (seqObj "list" its.toArray 0) }
 have oL:(h1.push (seqObj "list" its.toArray 0)).get? h1.objs.size=some (seqObj "list" its.toArray 0):=Heap.get?_push_size _ rfl;refine wpAny_bind (wpAny_holding (wpAny_call_entry slot_list_sort ⟨_,oL,rfl⟩ entry_list_sort (list_sort_tree oL (dA rv) (by omega) fun out ms hi hp hs=>⟨_,rfl,?_⟩) (args_list_sort _)))
 have hle:s.heap.objs.size≤h1.objs.size:=by rw [hsz];exact Nat.le_succ _
 have hf:H h1.objs.size=none:=I.hok.fresh hle;obtain ⟨e,he⟩:=sortedHeap_at (out:=out) oL;refine wpAny_pure ⟨_,rfl,.ref h1.objs.size,upd H h1.objs.size (.lst (ms.map V.int)),I.laid (t':=s.toks) (fun b o q=> ?_) hle ⟨?_,out.toList,e,jD hi,by simpa using he⟩,rfl,q _ _ hf hp hs⟩
 ·have lb:=Heap.lt_size (k1 b o q)
  rw [sortedHeap_old (Nat.ne_of_lt lb) (by rw [Heap.size_push];exact Nat.lt_succ_of_lt lb)];exact Heap.get?_push_of_some _ (k1 b o q)
 ·rw [List.length_map,hp.length_eq]
  rwa [List.length_map] at hz
end
end L2
namespace L2
open PySem PySem.Spec PyProof.Rows
section
variable{X:Cx}
def v8(K:PySem.W.Frag):List V→Hp→(V→Hp→Prop)→Prop:=fun xs H Q=>∃ (p:Addr) (ns:List Int),xs=[V.ref p]∧SqL K H p (ns.map V.int)∧Q (.int ns.sum) H
theorem uY(hc:X.calm=true):aI X (.builtin "sum") (v8 X.K):=by
 intro pins s σ H xs us Q I r h;obtain ⟨p,ns,rfl,hq,q⟩:=h;obtain ⟨u,rfl,ru⟩:=b4 r;cases ru;obtain ⟨its,rv,pl,hz⟩:=I.list hq;obtain ⟨ps,rfl,e⟩:=di rv
 have ei:intItems ps.toArray=(ps.map fun p=>Value.int p.1 p.2).toArray:=by unfold intItems;simp
 refine sum_intListG (xs:=ps.toArray) (I.ok.hd hc) (by rw [ei];exact pl.isList) fun h' tk t' k=> ?_
 have es:preSum (numAt ps.toArray) ps.toArray.size=ns.sum:=by
  rw [preSum_eq,List.take_of_length_le (by simp),← e]
 rw [es];exact ⟨.int _,H,I.kept k,⟨t',rfl⟩,q⟩
def v7(K:PySem.W.Frag):List V→Hp→(V→Hp→Prop)→Prop:=fun xs H Q=>∃ (p:Addr) (ns:List Int),xs=[V.ref p]∧SqT K H p (ns.map V.int)∧Q (.int ns.sum) H
theorem uX(hc:X.calm=true):aI X (.builtin "sum") (v7 X.K):=by
 intro pins s σ H xs us Q I r h;obtain ⟨p,ns,rfl,hq,q⟩:=h;obtain ⟨u,rfl,ru⟩:=b4 r;cases ru;obtain ⟨its,rv,pl,hz⟩:=I.tuple hq;obtain ⟨ps,rfl,e⟩:=di rv
 have ei:intItems ps.toArray=(ps.map fun p=>Value.int p.1 p.2).toArray:=by unfold intItems;simp
 have ht:s.heap.IsTuple p (intItems ps.toArray):=by rw [ei];exact pl
 have hlt:p < s.heap.objs.size:=by obtain ⟨_,e,_⟩:=ht;exact Heap.lt_size e
 have sz:(intItems ps.toArray).size=ps.toArray.size:=by unfold intItems;simp
 have es:preSum (numAt ps.toArray) (intItems ps.toArray).size=ns.sum:=by
  rw [sz,preSum_eq,List.take_of_length_le (by simp),← e]
 refine call_sum_walkG (wpAny_pyIter_tuple ht ?_);refine ⟨s.heap.objs.size,_,_,_,_,_,numAt ps.toArray,rfl,Walks.tuple (A:=X.A.in1) (I.ok.hd hc) _ p (Nat.ne_of_lt hlt) (intItems ps.toArray),⟨⟨_,Heap.get?_push_size _ rfl,rfl,rfl⟩,ht.push _⟩,fun b hb=> ?_,fun _ _=>intItems_at,fun h' tk t' hk=> ?_⟩
 ·show b < (s.heap.push _).objs.size
  rw [Heap.size_push]
  have hb':b=s.heap.objs.size∨b=p:=by simpa using hb
  rcases hb' with rfl | rfl
  ·exact Nat.lt_succ_self _
  ·exact Nat.lt_succ_of_lt hlt
 ·rw [es]
  exact ⟨.int _,H,I.kept fun b o hb=>hk b o (by have:=Nat.ne_of_lt (Heap.lt_size hb);simpa using this) (Heap.get?_push_of_some _ hb),⟨t',rfl⟩,q⟩
theorem qF(l:Addr)(items:Array Value)(n:Nat)(b:Addr)(items2:Array Value)(n2:Nat)(dd:Option Addr)(ss:Array (Option Value))(hs0:¬(!items.isEmpty&&Builtin.List.listTooLong (items.size+items2.size))=true)(hs1:items.size≤sizeLine)(hs2:items.size+items2.size≤sizeLine+1) :
 Meets (Builtin.«list.extend» ⟨[.ref l,.ref b],[]⟩) (fun _ R s=>s.heap.get? l=some { cls:= .type "list",dict:=none,data:= .seq items n,slots := #[] }∧s.heap.get? b=some { cls:= .type "tuple",dict:=dd,data:= .seq items2 n2,slots:=ss }∧R (.ok (.ret Value.none)) { s with heap:=s.heap.update l (Obj.mapSeq fun x=>x++items2),toks:=s.toks }) :=
 .of_wp fun prog w A R s h=>by
  obtain ⟨hp,g,d,tk,os⟩:=s;obtain ⟨hl,hb,h⟩:=h;have f1:=AutoSeq1.idx_int;have f2:=AutoSeq1.sub_tuple_tuple;have f3:=AutoSeq1.sub_list_list;have f4:=AutoSeq1.sub_tuple_list;have f5:=AutoSeq1.sub_list_tuple;
  have hz':(items++items2).size≤sizeLine+1:=by rw [Array.size_append];exact hs2
  wp_walk using (wpAny_updateSeq hl rfl (hz:=hs1) (_hz':=hz')),AutoSeq1.wpAny_loadPart' hl,AutoSeq1.wpAny_loadPart' hb;exact ⟨_,rfl,h⟩
def qc:V→List V→Hp→VK→Prop:=fun x vs H Q=>∃ l b xs zs,x = .ref l∧vs=[.ref b]∧H l=some (.lst xs)∧H b=some (.tup zs)∧xs.length+zs.length≤sizeLine∧Q .non (upd H l (.lst (xs++zs)))
theorem rN:MtM X "list.extend" qc:=by
 intro pins s σ H x vs v us Q I rx rv h;obtain ⟨l,b,xs,zs,rfl,rfl,hH,hB,hz,q⟩:=h;cases rx;obtain ⟨u,rfl,ru⟩:=rv.one;cases ru;obtain ⟨z,its,n,r,hl,e⟩:=I.lstM hH;obtain ⟨z2,its2,r2,⟨cl,dd,dt,ss⟩,e2,ec,n2,ed⟩:=I.hok b _ hB;dsimp only at ec ed;subst ec ed;have hl2:=r2.length
 have hsz:its.toArray.size+its2.toArray.size≤sizeLine:=by rw [List.size_toArray,List.size_toArray];omega
 have hlong:¬ (!its.toArray.isEmpty&&Builtin.List.listTooLong (its.toArray.size+its2.toArray.size))=true:=by
  rw [lm hsz,Bool.and_false];exact Bool.false_ne_true
 refine call_meets F.slot_list_extend ⟨_,e,rfl⟩ F.entry_list_extend (F.args_list_extend_2 _ _)
  (qF l its.toArray n b its2.toArray n2 dd ss hlong (by rw [List.size_toArray];omega) (by omega)) ⟨e,e2,?_⟩
 refine ⟨.non,_,I.lset (its':=its++its2) hH e (by simp) (r.append r2) ?_,rfl,q⟩;rw [List.length_append];omega
end
end L2
namespace L2
open PySem PySem.Spec PyProof.Rows
section
variable{X:Cx}
end
end L2
namespace L2
open PySem PySem.Spec PyProof.Rows
section
variable{X:Cx}
end
section
variable{X:Cx}{o i:Expr}{pos:Pos}{td ty:TE}
end
end L2
namespace L2
open PySem PySem.Spec PyProof.Rows
section
variable{X:Cx}{Pre:St→Hp→Prop}{R:Hp→V→Prop}
end
section
variable{X:Cx}{Pre:St→Hp→Prop}{R:Hp→V→Prop}
end
end L2
namespace L2
open PySem PySem.Spec PyProof.Rows
section
variable{X:Cx}
end
end L2
namespace L2
open PySem PySem.Spec PyProof.Rows
section
variable{X:Cx}
end
end L2
namespace St2
open PySem PySem.Spec PyProof.Rows
section
variable{prog:Program}{w:World}{A:Around}{E:Value→Shared→Prop}{s:Shared}
end
end St2
namespace L2
open PySem PySem.Spec PyProof.Rows
section
variable{X:Cx}
end
end L2
namespace St3
open PySem PySem.Spec PyProof.Rows PySem.SeqAt PySem.MeetsSeq PySem.MeetsSeq2 PySem.MeetsSeq3
theorem jv(ns:List Int)(x:Int):(St2.eM ns ns.length).any (·== x)=true↔x∈ns:=by
 have e:=firstMet_any (fun j=>ns.getD j 0) ns.length x;rw [show (St2.eM ns ns.length).any (·== x)=(firstMet (fun j=>ns.getD j 0) ns.length).any (·== x) from rfl,e,St2.pC ns ns.length (Nat.le_refl _),List.take_length];simp
end St3
namespace L2
open PySem PySem.Spec PyProof.Rows
section
variable{X:Cx}
def rE(K:PySem.W.Frag):List V→Hp→VK→Prop:=fun xs H Q=>∃ (p:Addr) (ns:List Int),xs=[V.ref p]∧SqL K H p (ns.map V.int)∧ns.length≤1000 ∧
 ∀ l S,H l=none→(∀ x,S x=true↔x∈ns)→Q (.ref l) (upd H l (.set S (St2.eM ns ns.length).length))
theorem sx(hc:X.calm=true):aI X (.type "set") (rE X.K):=by
 intro pins s σ H xs us Q I r h;obtain ⟨p,ns,rfl,hq,hn,q⟩:=h;obtain ⟨u,rfl,ru⟩:=b4 r;cases ru;obtain ⟨its,rv,pt,_⟩:=I.list hq
 have ln:its.length=ns.length:=by rw [← rv.length,List.length_map]
 refine St2.kE (ns:=ns) (I.ok.hd hc) pt.isList (by simpa using dA rv) (by rw [List.size_toArray,ln];unfold scanBound;omega) fun h' tk st kp=> ?_
 have sz:its.toArray.size=ns.length:=by rw [List.size_toArray,ln]
 rw [sz] at st;have hf:H s.heap.objs.size=none:=I.hok.fresh (Nat.le_refl _);exact ⟨.ref s.heap.objs.size,_,I.laid (o:= .set _ _) (fun b o e=>kp b o (Heap.lt_size e) e) (Nat.le_refl _) st,rfl,q _ _ hf (St3.jv ns)⟩
end
end L2
namespace L2
open PySem PySem.Spec PyProof.Rows
section
variable{X:Cx}
end
end L2
namespace L2
open PySem PySem.Spec PyProof.Rows
section
variable{X:Cx}
end
end L2
namespace St4
open PySem PySem.Spec PyProof.Rows PySem.W
section
variable{prog:Program}{w:World}{A:Around}{E:Value→Shared→Prop}{s:Shared}{T:String}{r d:Addr}{n:Nat}{P:Nat→Value→Prop}{OK:Heap→Prop}
end
end St4
namespace L2
open PySem PySem.Spec PyProof.Rows PySem.W
section
variable{X:Cx}
end
end L2
namespace L2
open PySem PySem.Spec PyProof.Rows PySem.W
section
variable{X:Cx}
end
end L2
namespace L2
open PySem PySem.Spec PyProof.Rows
section
variable{X:Cx}
end
end L2
namespace L2
open PySem PySem.Spec PyProof.Rows
section
variable{X:Cx}
end
end L2
namespace L2
open PySem PySem.Spec PyProof.Rows
section
variable{X:Cx}
variable{o e:Expr}{es:List Expr}{to:TE}{t:TA}{name:Str}{apos cpos:Pos}{id:String}{r:V→List V→Hp→VK→Prop}
end
end L2
namespace L2
open PySem PySem.Spec PyProof.Rows
section
variable{X:Cx}{Pre:St→Hp→Prop}{R R':Hp→V→Prop}
end
end L2
namespace L2
open PySem PySem.Spec PyProof.Rows
mutual
def sP(K:PySem.W.Frag)(H:Hp):PyData→V→Prop
 | .none,v=>v = .non
 | .bool b,v=>v = .bl b
 | .int i,v=>v = .int i
 | .str x,v=>v = .str x
 | .list ds,v=>∃ p xs,v = .ref p∧SqL K H p xs∧hU K H ds xs
 | .tuple ds,v=>∃ p xs,v = .ref p∧SqT K H p xs∧hU K H ds xs
 | .dict kvs,v=>kvs=[]∧∃ p,v = .ref p∧(H p=some (.dK [])∨H p=some (.dT []))
def hU(K:PySem.W.Frag)(H:Hp):List PyData→List V→Prop
 | [],[]=>True
 | d::ds,x::xs=>sP K H d x∧hU K H ds xs
 | _,_=>False
end
mutual
theorem aj.repP{K:PySem.W.Frag}{H H':Hp}(e:aj H H'):∀ {d:PyData} {v:V},sP K H d v→sP K H' d v
 | .none,_,h=>h
 | .bool _,_,h=>h
 | .int _,_,h=>h
 | .str _,_,h=>h
 | .list _,_,⟨p,xs,h1,h2,h3⟩=>⟨p,xs,h1,e.seq h2,e.repPL h3⟩
 | .tuple _,_,⟨p,xs,h1,h2,h3⟩=>⟨p,xs,h1,e.tup h2,e.repPL h3⟩
 | .dict _,_,⟨h0,p,h1,h2⟩=>⟨h0,p,h1,h2.elim (fun z=> .inl (e _ _ z)) fun z=> .inr (e _ _ z)⟩
theorem aj.repPL{K:PySem.W.Frag}{H H':Hp}(e:aj H H'):∀ {ds:List PyData} {xs:List V},hU K H ds xs→hU K H' ds xs
 | [],[],_=>trivial
 | _::_,_::_,h=>⟨e.repP h.1,e.repPL h.2⟩
 | [],_::_,h=>h.elim
 | _::_,[],h=>h.elim
end
def mG:PyData→Dt
 | .none=> .non | .bool b=> .bl b | .int i=> .int i | .str x=> .str x | .list _=> .lst | .dict _=> .dct | .tuple ds=> .tup (ds.map mG)
mutual
theorem sP.rep{K:PySem.W.Frag}{H:Hp}:∀ {d:PyData} {v:V},sP K H d v→Rep K H (mG d) v
 | .none,_,h=>by unfold mG;exact h
 | .bool _,_,h=>by unfold mG;exact h
 | .int _,_,h=>by unfold mG;exact h
 | .str _,_,h=>by unfold mG;exact h
 | .list _,_,⟨p,xs,h1,h2,_⟩=>by unfold mG;exact ⟨p,xs,h1,h2⟩
 | .tuple _,_,⟨p,xs,h1,h2,h3⟩=>by unfold mG;exact ⟨p,xs,h1,h2,hU.rep h3⟩
 | .dict _,_,⟨_,p,h1,h2⟩=>by unfold mG;exact ⟨p,h1,h2.elim (fun z=> .inl ⟨_,z⟩) fun z=> .inr ⟨_,z⟩⟩
theorem hU.rep{K:PySem.W.Frag}{H:Hp}:∀ {ds:List PyData} {xs:List V},hU K H ds xs→xL K H (ds.map mG) xs
 | [],[],_=>trivial
 | _::_,_::_,h=>⟨sP.rep h.1,hU.rep h.2⟩
 | [],_::_,h=>h.elim
 | _::_,[],h=>h.elim
end
section
variable{X:Cx}{pins:List (Addr×Obj)}{σ:St}{H:Hp}{s:Shared}
mutual
theorem vU(I:Inv X pins σ H s):∀ {d:PyData} {v:V} {u:Value},sP X.K H d v→aR v u→∃ as,Reads s.heap u d as∧((d = .dict []∨d.hasDict=false)→d.hasDict=true→sysModules∉as)
 | .none,_,_,h,r=>by cases h;cases r;exact ⟨[],.none,fun _ z=>by simp [PyData.hasDict] at z⟩
 | .bool b,_,_,h,r=>by cases h;cases r;exact ⟨[],.bool b,fun _ z=>by simp [PyData.hasDict] at z⟩
 | .int i,_,_,h,r=>by cases h;obtain ⟨t,rfl⟩:=r;exact ⟨[],.int i t,fun _ z=>by simp [PyData.hasDict] at z⟩
 | .str x,_,_,h,r=>by cases h;obtain ⟨t,rfl⟩:=r;exact ⟨[],.str x t,fun _ z=>by simp [PyData.hasDict] at z⟩
 | .list ds,_,_,⟨p,xs,h1,h2,h3⟩,r=>by
  subst h1;cases r;obtain ⟨its,rv,pl,_⟩:=I.list h2;obtain ⟨o,e1,e2,n,e3⟩:=pl.isList;obtain ⟨as,ra⟩:=gv I h3 rv;refine ⟨p::as,.list e1 e2 e3 (by simpa using ra),fun z1 z2=> ?_⟩
  rcases z1 with z1 | z1
  ·cases z1
  ·rw [z2] at z1;cases z1
 | .tuple ds,_,_,⟨p,xs,h1,h2,h3⟩,r=>by
  subst h1;cases r;obtain ⟨its,rv,pl,_⟩:=I.tuple h2;obtain ⟨o,e1,e2,n,e3⟩:=pl;obtain ⟨as,ra⟩:=gv I h3 rv;refine ⟨as,.tuple e1 e2 e3 (by simpa using ra),fun z1 z2=> ?_⟩
  rcases z1 with z1 | z1
  ·cases z1
  ·rw [z2] at z1;cases z1
 | .dict kvs,_,_,⟨h0,p,h1,h2⟩,r=>by
  subst h1 h0;cases r
  have z:∃ o es ep,s.heap.get? p=some o∧o.cls = .type "dict" ∧ o.data = .dict es ep∧es.toList=[]∧(p == sysModules)=false:=by
   rcases h2 with h2 | h2
   ·obtain ⟨_,ne,vs,kv,o,es,ep,e,ex,hd,_,pr,_⟩:=I.hok p _ h2
    cases kv;refine ⟨o,es,ep,e,ex.1,hd,?_,ne⟩
    cases hes:es.toList with
    | nil=>rfl
    | cons a l=>rw [hes] at pr;cases pr
   ·obtain ⟨_,ne,xs,pr,o,es,ep,e,ex,hd,hl,_⟩:=I.hok p _ h2
    cases pr;exact ⟨o,es,ep,e,ex.1,hd,hl,ne⟩
  obtain ⟨o,es,ep,e1,e2,e3,e4,ne⟩:=z;refine ⟨_,.dict (as:=[]) (bs:=[]) e1 e2 e3 (by rw [e4];exact .nil) (by rw [e4];exact .nil),fun _ _ hm=> ?_⟩
  have:sysModules=p:=by simpa using hm
  rw [this] at ne;simp at ne
theorem gv(I:Inv X pins σ H s):∀ {ds:List PyData} {xs:List V} {us:List Value},hU X.K H ds xs→aG xs us→∃ as,ReadsAll s.heap us ds as
 | [],[],_,_,r=>by cases r;exact ⟨[],.nil⟩
 | _::_,_::_,_,h,r=>by
  cases r with
  | cons r t =>
   obtain ⟨a1,r1,_⟩:=vU I h.1 r;obtain ⟨a2,r2⟩:=gv I h.2 t;exact ⟨a1++a2,.cons r1 r2⟩
 | [],_::_,_,h,_=>h.elim
 | _::_,[],_,h,_=>h.elim
end
end
section
variable{X:Cx}
end
end L2
namespace L2
open PySem PySem.Spec PyProof.Rows
section
variable{X:Cx}{a b c d:Expr}{ta tb tc td:TE}{pos:Pos}
end
end L2
namespace L2
open PySem PySem.Spec PyProof.Rows
section
open PySem.SeqAt PySem.MeetsSeq
open AutoSeq1 (wpAny_loadPart')
variable{A:Around}{s:Shared}
end
section
variable{X:Cx}
end
end L2
namespace L2
open PySem PySem.Spec PyProof.Rows
section
variable{X:Cx}{tg:Expr}
end
end L2
namespace ZpA
open PySem PySem.Spec PyProof.Rows
inductive Kd where
 | L | T
def nm:Kd→String
 | .L => "list"
 | .T => "tuple"
def It:Kd→Heap→Addr→Addr→Nat→Prop
 | .L=>fun h it l i=>h.IsListIter it l i
 | .T=>fun h it l i=>h.IsTupleIter it l i
def Sq:Kd→Heap→Addr→Array Value→Prop
 | .L=>fun h l xs=>h.IsList l xs
 | .T=>fun h l xs=>h.IsTuple l xs
def wT:Kd→Addr→Obj
 | .L=>fun l=>{ cls:= .type "list_iterator",data:= .fields #[.ref l,.int 0 0] }
 | .T=>fun l=>{ cls:= .type "tuple_iterator",data:= .fields #[.ref l,.int 0 0] }
theorem It.at{c:Kd}{h h':Heap}{it l:Addr}{i:Nat}(x:It c h it l i)(k:∀ o,h.get? it=some o→h'.get? it=some o):It c h' it l i:=by
 cases c with
 | L=>exact Heap.IsListIter.at (show h.IsListIter it l i from x) k
 | T=>exact Heap.IsTupleIter.at (show h.IsTupleIter it l i from x) k
theorem It.obj{c:Kd}{h:Heap}{it l:Addr}{i:Nat}(x:It c h it l i):∃ o,h.get? it=some o∧(∃ vs,o.data = .fields vs)∧(o.cls = .type "list_iterator" ∨ o.cls = .type "tuple_iterator"):=by
 cases c with
 | L=>obtain ⟨o,ho,hc,hd⟩:=(show h.IsListIter it l i from x);exact ⟨o,ho,⟨_,hd⟩,.inl hc⟩
 | T=>obtain ⟨o,ho,hc,hd⟩:=(show h.IsTupleIter it l i from x);exact ⟨o,ho,⟨_,hd⟩,.inr hc⟩
theorem Sq.at{c:Kd}{h h':Heap}{l:Addr}{xs:Array Value}(x:Sq c h l xs)(k:∀ o,h.get? l=some o→h'.get? l=some o):Sq c h' l xs:=by
 cases c with
 | L=>obtain ⟨o,ho,r⟩:=(show h.IsList l xs from x);exact ⟨o,k o ho,r⟩
 | T=>obtain ⟨o,ho,r⟩:=(show h.IsTuple l xs from x);exact ⟨o,k o ho,r⟩
theorem Sq.obj{c:Kd}{h:Heap}{l:Addr}{xs:Array Value}(x:Sq c h l xs):∃ o,h.get? l=some o∧(o.cls = .type "list" ∨ o.cls = .type "tuple"):=by
 cases c with
 | L=>obtain ⟨o,ho,r,_⟩:=(show h.IsList l xs from x);exact ⟨o,ho,.inl r⟩
 | T=>obtain ⟨o,ho,r,_⟩:=(show h.IsTuple l xs from x);exact ⟨o,ho,.inr r⟩
theorem It.new{c:Kd}{h:Heap}{l:Addr}:It c (h.push (wT c l)) h.objs.size l 0:=by
 cases c with
 | L=>exact ⟨_,Heap.get?_push_size _ rfl,rfl,rfl⟩
 | T=>exact ⟨_,Heap.get?_push_size _ rfl,rfl,rfl⟩
section
variable{prog:Program}{w:World}{A:Around}{E:Value→Shared→Prop}{s:Shared}
theorem fG{c:Kd}{it l:Addr}{i:Nat}{items}{x:Value}{Q:Value→Shared→Prop}(hit:It c s.heap it l i)(hl:Sq c s.heap l items)(hx:items[i]?=some x)
 (hQ:∀ h',It c h' it l (i+1)→Heap.SameBut it s.heap h'→Q x { s with heap:=h' }):wpAny (model prog w) A (Builtin.SmallTypes.nextOf (.ref it)) Q E s:=by
 cases c with
 | L=>exact wpAny_nextOf_list_item (show s.heap.IsListIter it l i from hit) (show s.heap.IsList l items from hl) hx hQ
 | T=>exact EnT.fG (show s.heap.IsTupleIter it l i from hit) (show s.heap.IsTuple l items from hl) hx hQ
theorem gx{c:Kd}{it l:Addr}{i:Nat}{items}{Q:Value→Shared→Prop}(hh:A.handled=none)(hit:It c s.heap it l i)(hl:Sq c s.heap l items)(hx:items[i]?=none)
 (hE:∀ h' e,Heap.ExtBut it s.heap h'→(∃ o,h'.get? e=some o∧o.cls = .type "StopIteration")→E (.ref e) { s with heap:=h' }):wpAny (model prog w) A (Builtin.SmallTypes.nextOf (.ref it)) Q E s:=by
 cases c with
 | L=>exact wpAny_nextOf_list_end hh (show s.heap.IsListIter it l i from hit) (show s.heap.IsList l items from hl) hx hE
 | T=>exact EnT.gx hh (show s.heap.IsTupleIter it l i from hit) (show s.heap.IsTuple l items from hl) hx hE
end
theorem draws{prog:Program}{w:World}{A:Around}{c:Kd}(hh:A.handled=none)(it l:Addr)(hne:l≠it)(items:Array Value) :
 Draws prog w A it [it,l] items.size (fun i v=>items[i]?=some v) (fun i h=>It c h it l i∧Sq c h l items) where
 live:=fun _ _ st=>let ⟨o,ho,_⟩:=st.1.obj;⟨o,ho⟩
 frame:=fun _ _ _ st hk=>⟨st.1.at fun o e=>hk it (by simp) o e,st.2.at fun o e=>hk l (by simp) o e⟩
 item:=fun i s Q E hi st hQ=>by
  refine fG st.1 st.2 (x:=items[i]) (by simp [hi]) fun h' hit' hs'=> ?_
  exact hQ _ h' s.toks (by simp [hi]) ⟨hit',st.2.at fun o e=>hs'.extBut _ _ hne e⟩ hs'
 done:=fun s Q E st hE=>gx hh st.1 st.2 (by simp) hE
section
variable{prog:Program}{w:World}{A:Around}{E:Value→Shared→Prop}{s:Shared}
theorem vw{c1 c2:Kd}{z TI TO i1 i2 l1 l2:Addr}{k:Nat}{xs ys:Array Value}{x y a b:Value}{Q:Option Value→Shared→Prop}(ap:ZipApart z TI TO i1 i2 l1 l2)(hz:IsZip s.heap z TI TO .none)(hTI:IsPair s.heap TI (.ref i1) (.ref i2))(hTO:IsPair s.heap TO a b)
 (h1:It c1 s.heap i1 l1 k) (h2:It c2 s.heap i2 l2 k) (t1:Sq c1 s.heap l1 xs) (t2:Sq c2 s.heap l2 ys) (hx:xs[k]?=some x) (hy:ys[k]?=some y)
 (hQ:∀ h',IsZip h' z TI TO (rawInt s.heap.objs.size)→IsPair h' TO x y→It c1 h' i1 l1 (k+1)→It c2 h' i2 l2 (k+1)→IsPair h' s.heap.objs.size x y→(∀ c o,c≠z→c≠TO→c≠i1→c≠i2→s.heap.get? c=some o→h'.get? c=some o)→Q (some (.ref s.heap.objs.size)) { s with heap:=h' }) :
 wpAny (model prog w) A (pyNext (.ref z)) Q E s:=by
 have hT:s.TypeIs (.ref z) "zip" := ⟨_,hz,rfl⟩;unfold pyNext
 refine wpAny_bind (wpAny_attempt (wpAny_callSpecial?_slot (name:=Str.ofString "__next__") hT F.slot_zip_next
  (wpAny_call_entry F.slot_zip_next hT F.entry_zip_next ?_ (F.args_zip_next_1 _))))
 show wpAny _ _ (field (.ref z) 2 >>= _) _ _ _
 refine wpAny_bind (wpAny_field hz rfl (x:= .bool false) rfl ?_)
 show wpAny _ _ (field (.ref z) 3 >>= _) _ _ _
 refine wpAny_bind (wpAny_field hz rfl (x:= .ref TI) rfl ?_)
 show wpAny _ _ (seqItems? (.ref TI) >>= _) _ _ _
 refine wpAny_bind (wpAny_seqItems hTI rfl ?_)
 show wpAny _ _ (Builtin.SmallTypes.ownedTupleIsFree (.ref z) >>= _) _ _ _
 unfold Builtin.SmallTypes.ownedTupleIsFree;refine wpAny_bind (wpAny_bind (wpAny_field hz rfl (x:= .none) rfl (wpAny_pure ?_)))
 show wpAny _ _ (rule "zip.__next__.owned-tuple-again" >>= _) _ _ _
 refine wpAny_bind (wpAny_rule ?_)
 show wpAny _ _ (field (.ref z) 4 >>= _) _ _ _
 refine wpAny_bind (wpAny_field hz rfl (x:= .ref TO) rfl ?_)
 show wpAny _ _ (setField (.ref z) 0 .ellipsis >>= _) _ _ _
 refine wpAny_bind (wpAny_setField hz rfl (show 0 < 5 by decide) ?_);have zA:IsZip (s.heap.update z (Obj.mapFields fun q=>q.setIfInBounds 0 .ellipsis)) z TI TO .ellipsis:=Heap.get?_update_self _ hz rfl;have sA:Heap.SameBut z s.heap (s.heap.update z (Obj.mapFields fun q=>q.setIfInBounds 0 .ellipsis)):=Heap.SameBut.update ..
 generalize s.heap.update z (Obj.mapFields fun q=>q.setIfInBounds 0 .ellipsis)=hA at zA sA ⊢
 have ksA:∀ c o,c≠z→s.heap.get? c=some o→hA.get? c=some o:=fun c o n q=>(sA.2 c n).trans q
 have toA:IsPair hA TO a b:=ksA _ _ ap.TOz hTO
 have i1A:It c1 hA i1 l1 k:=h1.at fun o q=>ksA i1 o ap.i1z q
 have i2A:It c2 hA i2 l2 k:=h2.at fun o q=>ksA i2 o ap.i2z q
 have t1A:Sq c1 hA l1 xs:=t1.at fun o ho=>ksA l1 o ap.l1z ho
 have t2A:Sq c2 hA l2 ys:=t2.at fun o ho=>ksA l2 o ap.l2z ho
 show wpAny _ _ (forIn [(Value.ref i1,0),(Value.ref i2,1)] ((none:Option Fin),()) _ >>= _) _ _ _
 rw [List.forIn_cons];refine wpAny_bind (wpAny_bind (wpAny_bind (wpAny_onRaise ?_)))
 show wpAny _ _ (Builtin.SmallTypes.nextOf (.ref i1) >>= fun v=>pure (some v)) _ _ _
 refine wpAny_bind (fG (s:={ s with heap:=hA }) i1A t1A hx fun hB i1B sB=>wpAny_pure ?_)
 have ksB:∀ c o,c≠i1→hA.get? c=some o→hB.get? c=some o:=fun c o n q=>(sB.2 c n).trans q
 have toB:IsPair hB TO a b:=ksB _ _ ap.TOi1 toA
 show wpAny _ _ (seqItems? (.ref TO) >>= _) _ _ _
 refine wpAny_bind (wpAny_seqItems toB rfl ?_)
 show wpAny _ _ (updateSeq TO (fun q=>q.setIfInBounds 0 x) >>= _) _ _ _
 refine wpAny_bind (wpAny_updateSeq_pair (s:={ s with heap:=hB }) toB fun hC toC sC=> ?_);refine wpAny_bind (wpAny_letGo (wpAny_pure ?_))
 have ksC:∀ c o,c≠TO→hB.get? c=some o→hC.get? c=some o:=fun c o n q=>(sC.2 c n).trans q
 have i1C:It c1 hC i1 l1 (k+1):=i1B.at fun o q=>ksC i1 o (Ne.symm ap.TOi1) q
 have i2C:It c2 hC i2 l2 k:=(i2A.at fun o q=>ksB i2 o (Ne.symm ap.i12) q).at fun o q=>ksC i2 o (Ne.symm ap.TOi2) q
 have t2C:Sq c2 hC l2 ys:=t2A.at fun o ho=>ksC l2 o ap.l2TO (ksB l2 o ap.l2i1 ho)
 have zC:IsZip hC z TI TO .ellipsis:=ksC _ _ (Ne.symm ap.TOz) (ksB _ _ (Ne.symm ap.i1z) zA);have toC:IsPair hC TO x b:=toC
 show wpAny _ _ (forIn [(Value.ref i2,1)] ((none:Option Fin),()) _) _ _ _
 rw [List.forIn_cons];refine wpAny_bind (wpAny_bind (wpAny_onRaise ?_))
 show wpAny _ _ (Builtin.SmallTypes.nextOf (.ref i2) >>= fun v=>pure (some v)) _ _ _
 refine wpAny_bind (fG (s:={ s with heap:=hC }) i2C t2C hy fun hD i2D sD=>wpAny_pure ?_)
 have ksD:∀ c o,c≠i2→hC.get? c=some o→hD.get? c=some o:=fun c o n q=>(sD.2 c n).trans q
 have toD:IsPair hD TO x b:=ksD _ _ ap.TOi2 toC
 show wpAny _ _ (seqItems? (.ref TO) >>= _) _ _ _
 refine wpAny_bind (wpAny_seqItems toD rfl ?_)
 show wpAny _ _ (updateSeq TO (fun q=>q.setIfInBounds 1 y) >>= _) _ _ _
 refine wpAny_bind (wpAny_updateSeq_pair (s:={ s with heap:=hD }) toD fun hF toF sF=> ?_);refine wpAny_bind (wpAny_letGo (wpAny_pure ?_))
 have ksF:∀ c o,c≠TO→hD.get? c=some o→hF.get? c=some o:=fun c o n q=>(sF.2 c n).trans q
 have toF:IsPair hF TO x y:=toF;have zF:IsZip hF z TI TO .ellipsis:=ksF _ _ (Ne.symm ap.TOz) (ksD _ _ (Ne.symm ap.i2z) zC)
 have i1F:It c1 hF i1 l1 (k+1):=(i1C.at fun o q=>ksD i1 o ap.i12 q).at fun o q=>ksF i1 o (Ne.symm ap.TOi1) q
 have i2F:It c2 hF i2 l2 (k+1):=i2D.at fun o q=>ksF i2 o (Ne.symm ap.TOi2) q
 show wpAny _ _ (forIn ([]:List (Value×Nat)) ((none:Option Fin),()) _) _ _ _
 rw [List.forIn_nil];refine wpAny_pure ?_
 show wpAny _ _ (seqItems? (.ref TO) >>= _) _ _ _
 refine wpAny_bind (wpAny_seqItems toF rfl ?_)
 show wpAny _ _ (newTuple [x,y] >>= _) _ _ _
 unfold newTuple;have sz:hF.objs.size=s.heap.objs.size:=sF.1.trans (sD.1.trans (sC.1.trans (sB.1.trans sA.1)));refine wpAny_bind (wpAny_newObj_type ?_ (by size_fits))
 show wpAny _ _ (Builtin.SmallTypes.ownedTupleHandOut (.ref z) (.ref hF.objs.size) >>= _) _ _ { s with heap:=hF.push { cls:= .type "tuple",data:= .seq #[x,y] } }
 have zG:IsZip (hF.push { cls:= .type "tuple",data:= .seq #[x,y] }) z TI TO .ellipsis:=Heap.get?_push_of_some _ zF;have pG:IsPair (hF.push { cls:= .type "tuple",data:= .seq #[x,y] }) hF.objs.size x y:=Heap.get?_push_size _ rfl
 have ksG:∀ c o,hF.get? c=some o→(hF.push { cls:= .type "tuple",data:= .seq #[x,y] }).get? c=some o:=fun c o q=>Heap.get?_push_of_some _ q
 generalize hF.push { cls:= .type "tuple",data:= .seq #[x,y] }=hG at zG pG ksG ⊢
 unfold Builtin.SmallTypes.ownedTupleHandOut
 show wpAny _ _ ((setField (.ref z) 0 (rawInt hF.objs.size) >>= fun _=>setField (.ref z) 1 (.bool false)) >>= _) _ _ _
 refine wpAny_bind (wpAny_bind (wpAny_setField zG rfl (show 0 < 5 by decide) ?_));have zH:IsZip (hG.update z (Obj.mapFields fun q=>q.setIfInBounds 0 (rawInt hF.objs.size))) z TI TO (rawInt hF.objs.size):=Heap.get?_update_self _ zG rfl;have sH:Heap.SameBut z hG (hG.update z (Obj.mapFields fun q=>q.setIfInBounds 0 (rawInt hF.objs.size))):=Heap.SameBut.update ..
 generalize hG.update z (Obj.mapFields fun q=>q.setIfInBounds 0 (rawInt hF.objs.size))=hH at zH sH ⊢
 refine wpAny_setField zH rfl (show 1 < 5 by decide) ?_;have zJ:IsZip (hH.update z (Obj.mapFields fun q=>q.setIfInBounds 1 (.bool false))) z TI TO (rawInt hF.objs.size):=Heap.get?_update_self _ zH rfl;have sJ:Heap.SameBut z hH (hH.update z (Obj.mapFields fun q=>q.setIfInBounds 1 (.bool false))):=Heap.SameBut.update ..
 generalize hH.update z (Obj.mapFields fun q=>q.setIfInBounds 1 (.bool false))=hJ at zJ sJ ⊢
 have ksJ:∀ c o,c≠z→hF.get? c=some o→hJ.get? c=some o:=fun c o n q=>(sJ.2 c n).trans ((sH.2 c n).trans (ksG c o q))
 have nz:hF.objs.size≠z:=fun e=>absurd (Heap.lt_size zF) (by rw [e];exact Nat.lt_irrefl _)
 have pJ:IsPair hJ hF.objs.size x y:=(sJ.2 _ nz).trans ((sH.2 _ nz).trans pG);refine wpAny_pure ⟨_,rfl,wpAny_pure ?_⟩;rw [sz] at zJ pJ ⊢
 refine hQ hJ zJ (ksJ _ _ ap.TOz toF) (i1F.at fun o q=>ksJ i1 o ap.i1z q) (i2F.at fun o q=>ksJ i2 o ap.i2z q) pJ fun c o n1 n2 n3 n4 q=> ?_
 exact ksJ _ _ n1 (ksF _ _ n2 (ksD _ _ n4 (ksC _ _ n2 (ksB _ _ n3 (ksA _ _ n1 q)))))
theorem xO{c1:Kd}{z TI TO i1 i2 l1 l2:Addr}{k:Nat}{xs:Array Value}{a b:Value}{Q:Option Value→Shared→Prop}(hh:A.handled=none)(ap:ZipApart z TI TO i1 i2 l1 l2)(hz:IsZip s.heap z TI TO .none)(hTI:IsPair s.heap TI (.ref i1) (.ref i2))(hTO:IsPair s.heap TO a b)
 (h1:It c1 s.heap i1 l1 k) (t1:Sq c1 s.heap l1 xs) (hx:xs[k]?=none)
 (hQ:∀ h',(∀ c o,c≠z→c≠i1→s.heap.get? c=some o→h'.get? c=some o)→Q none { s with heap:=h' }) :
 wpAny (model prog w) A (pyNext (.ref z)) Q E s:=by
 have hT:s.TypeIs (.ref z) "zip" := ⟨_,hz,rfl⟩;unfold pyNext
 refine wpAny_bind (wpAny_attempt (wpAny_callSpecial?_slot (name:=Str.ofString "__next__") hT F.slot_zip_next
  (wpAny_call_entry F.slot_zip_next hT F.entry_zip_next ?_ (F.args_zip_next_1 _))))
 show wpAny _ _ (field (.ref z) 2 >>= _) _ _ _
 refine wpAny_bind (wpAny_field hz rfl (x:= .bool false) rfl ?_)
 show wpAny _ _ (field (.ref z) 3 >>= _) _ _ _
 refine wpAny_bind (wpAny_field hz rfl (x:= .ref TI) rfl ?_)
 show wpAny _ _ (seqItems? (.ref TI) >>= _) _ _ _
 refine wpAny_bind (wpAny_seqItems hTI rfl ?_)
 show wpAny _ _ (Builtin.SmallTypes.ownedTupleIsFree (.ref z) >>= _) _ _ _
 unfold Builtin.SmallTypes.ownedTupleIsFree;refine wpAny_bind (wpAny_bind (wpAny_field hz rfl (x:= .none) rfl (wpAny_pure ?_)))
 show wpAny _ _ (rule "zip.__next__.owned-tuple-again" >>= _) _ _ _
 refine wpAny_bind (wpAny_rule ?_)
 show wpAny _ _ (field (.ref z) 4 >>= _) _ _ _
 refine wpAny_bind (wpAny_field hz rfl (x:= .ref TO) rfl ?_)
 show wpAny _ _ (setField (.ref z) 0 .ellipsis >>= _) _ _ _
 refine wpAny_bind (wpAny_setField hz rfl (show 0 < 5 by decide) ?_);have zA:IsZip (s.heap.update z (Obj.mapFields fun q=>q.setIfInBounds 0 .ellipsis)) z TI TO .ellipsis:=Heap.get?_update_self _ hz rfl;have sA:Heap.SameBut z s.heap (s.heap.update z (Obj.mapFields fun q=>q.setIfInBounds 0 .ellipsis)):=Heap.SameBut.update ..
 generalize s.heap.update z (Obj.mapFields fun q=>q.setIfInBounds 0 .ellipsis)=hA at zA sA ⊢
 have ksA:∀ c o,c≠z→s.heap.get? c=some o→hA.get? c=some o:=fun c o n q=>(sA.2 c n).trans q
 have i1A:It c1 hA i1 l1 k:=h1.at fun o q=>ksA i1 o ap.i1z q
 have t1A:Sq c1 hA l1 xs:=t1.at fun o ho=>ksA l1 o ap.l1z ho
 show wpAny _ _ (forIn [(Value.ref i1,0),(Value.ref i2,1)] ((none:Option Fin),()) _ >>= _) _ _ _
 rw [List.forIn_cons];refine wpAny_bind (wpAny_bind (wpAny_bind (wpAny_onRaise ?_)))
 show wpAny _ _ (Builtin.SmallTypes.nextOf (.ref i1) >>= fun v=>pure (some v)) _ _ _
 refine wpAny_bind (gx (s:={ s with heap:=hA }) hh i1A t1A hx fun h' e eb he=> ?_);have zB:IsZip h' z TI TO .ellipsis:=eb _ _ (Ne.symm ap.i1z) zA;refine wpAny_setField zB rfl (show 0 < 5 by decide) ?_;have sC:Heap.SameBut z h' (h'.update z (Obj.mapFields fun q=>q.setIfInBounds 0 .none)):=Heap.SameBut.update ..;obtain ⟨o,ho,hc⟩:=he
 have ez:e≠z:=fun q=>by
  rw [q,zB] at ho;cases ho;exact absurd (show Value.type "zip" = Value.type "StopIteration" from hc) (by decide)
 have ho2:(h'.update z (Obj.mapFields fun q=>q.setIfInBounds 0 .none)).get? e=some o:=(sC.2 e ez).trans ho;refine wpAny_bind (wpAny_isInstance (T := "StopIteration") (b:=true) ⟨o,ho2,hc⟩ isSubtype_stop ?_);refine wpAny_pure (hQ _ fun c o n1 n2 q=>(sC.2 c n1).trans (eb c o n2 (ksA c o n1 q)))
end
abbrev H1(c1:Kd)(h:Heap)(l1:Addr):Heap:=h.push (wT c1 l1)
abbrev H2(c1 c2:Kd)(h:Heap)(l1 l2:Addr):Heap:=(H1 c1 h l1).push (wT c2 l2)
abbrev H3(c1 c2:Kd)(h:Heap)(l1 l2:Addr):Heap:=(H2 c1 c2 h l1 l2).push { cls:= .type "tuple",data:= .seq #[.ref h.objs.size,.ref (H1 c1 h l1).objs.size] }
abbrev H4(c1 c2:Kd)(h:Heap)(l1 l2:Addr):Heap:=(H3 c1 c2 h l1 l2).push { cls:= .type "tuple",data:= .seq #[.none,.none] }
abbrev H5(c1 c2:Kd)(h:Heap)(l1 l2:Addr):Heap:=(H4 c1 c2 h l1 l2).push { cls:= .type "zip",data:= .fields #[.none,.bool false,.bool false,.ref (H2 c1 c2 h l1 l2).objs.size,.ref (H3 c1 c2 h l1 l2).objs.size] }
theorem jr(c1 c2:Kd)(l1 l2:Addr)(xs ys:Array Value) :
 Meets (Builtin.«zip.__new__» ⟨[.type "zip",.ref l1,.ref l2],[]⟩) (fun _ R s=>Sq c1 s.heap l1 xs∧Sq c2 s.heap l2 ys ∧
  R (.ok (.ret (.ref (H4 c1 c2 s.heap l1 l2).objs.size))) { s with heap:=H5 c1 c2 s.heap l1 l2 }):=by
 cases c1 with
 | T =>
  cases c2 with
  | T =>
   refine .of_wp fun prog w A R s h=> ?_
   obtain ⟨hp,g,d,tk,os⟩:=s;obtain ⟨hL1,hL2,h⟩:=h;have hsub:=sub_zip;have hL1:hp.IsTuple l1 xs:=hL1;have hL2':Heap.IsTuple (H1 .T hp l1) l2 ys:=let ⟨o,ho,r⟩:=(show hp.IsTuple l2 ys from hL2);⟨o,Heap.get?_push_of_some _ ho,r⟩
   wp_walk using wpAny_pyIter_tuple hL1,wpAny_pyIter_tuple hL2'
   exact ⟨_,rfl,h⟩
  | L =>
   refine .of_wp fun prog w A R s h=> ?_
   obtain ⟨hp,g,d,tk,os⟩:=s;obtain ⟨hL1,hL2,h⟩:=h;have hsub:=sub_zip;have hL1:hp.IsTuple l1 xs:=hL1;have hL2':Heap.IsList (H1 .T hp l1) l2 ys:=let ⟨o,ho,r⟩:=(show hp.IsList l2 ys from hL2);⟨o,Heap.get?_push_of_some _ ho,r⟩
   wp_walk using wpAny_pyIter_tuple hL1,wpAny_pyIter_list hL2'
   exact ⟨_,rfl,h⟩
 | L =>
  cases c2 with
  | T =>
   refine .of_wp fun prog w A R s h=> ?_
   obtain ⟨hp,g,d,tk,os⟩:=s;obtain ⟨hL1,hL2,h⟩:=h;have hsub:=sub_zip;have hL1:hp.IsList l1 xs:=hL1;have hL2':Heap.IsTuple (H1 .L hp l1) l2 ys:=let ⟨o,ho,r⟩:=(show hp.IsTuple l2 ys from hL2);⟨o,Heap.get?_push_of_some _ ho,r⟩
   wp_walk using wpAny_pyIter_list hL1,wpAny_pyIter_tuple hL2'
   exact ⟨_,rfl,h⟩
  | L =>
   refine .of_wp fun prog w A R s h=> ?_
   obtain ⟨hp,g,d,tk,os⟩:=s;obtain ⟨hL1,hL2,h⟩:=h;have hsub:=sub_zip;have hL1:hp.IsList l1 xs:=hL1;have hL2':Heap.IsList (H1 .L hp l1) l2 ys:=let ⟨o,ho,r⟩:=(show hp.IsList l2 ys from hL2);⟨o,Heap.get?_push_of_some _ ho,r⟩
   wp_walk using wpAny_pyIter_list hL1,wpAny_pyIter_list hL2'
   exact ⟨_,rfl,h⟩
section
variable{prog:Program}{w:World}{A:Around}{E:Value→Shared→Prop}{s:Shared}
theorem lO{c1 c2:Kd}{l1 l2:Addr}{xs ys:Array Value}{Q:Value→Shared→Prop}(h1:Sq c1 s.heap l1 xs)(h2:Sq c2 s.heap l2 ys)
 (h:∀ h',IsZip h' (s.heap.objs.size+4) (s.heap.objs.size+2) (s.heap.objs.size+3) .none→IsPair h' (s.heap.objs.size+2) (.ref s.heap.objs.size) (.ref (s.heap.objs.size+1))→IsPair h' (s.heap.objs.size+3) .none .none →
   It c1 h' s.heap.objs.size l1 0→It c2 h' (s.heap.objs.size+1) l2 0→(∀ b o,s.heap.get? b=some o→h'.get? b=some o)→Q (.ref (s.heap.objs.size+4)) { s with heap:=h' }) :
 wpAny (model prog w) A (call (.type "zip") [.ref l1,.ref l2]) Q E s:=by
 refine callType_new F.called_zip (by decide) (F.typeCall_zip_2 _ _) (F.newCall_zip_2 _ _) (fun obj=>F.args_object_init_3 obj _ _) F.entry_zip_new (jr c1 c2 l1 l2 xs ys) ⟨h1,h2,?_⟩;have z1:(H1 c1 s.heap l1).objs.size=s.heap.objs.size+1:=Heap.size_push ..;have z2:(H2 c1 c2 s.heap l1 l2).objs.size=s.heap.objs.size+2:=(Heap.size_push ..).trans (by rw [z1]);have z3:(H3 c1 c2 s.heap l1 l2).objs.size=s.heap.objs.size+3:=(Heap.size_push ..).trans (by rw [z2]);have z4:(H4 c1 c2 s.heap l1 l2).objs.size=s.heap.objs.size+4:=(Heap.size_push ..).trans (by rw [z3])
 have kz:∀ {h0:Heap} {o:Obj} (b:Addr) (u:Obj),h0.get? b=some u→(h0.push o).get? b=some u:=fun b u q=>Heap.get?_push_of_some _ q
 have hz:IsZip (H5 c1 c2 s.heap l1 l2) (s.heap.objs.size+4) (s.heap.objs.size+2) (s.heap.objs.size+3) .none:=by
  have:=Heap.get?_push_size (H4 c1 c2 s.heap l1 l2) (o:={ cls:= .type "zip",data:= .fields #[.none,.bool false,.bool false,.ref (H2 c1 c2 s.heap l1 l2).objs.size,.ref (H3 c1 c2 s.heap l1 l2).objs.size] }) rfl;rw [z4] at this
  show (H5 c1 c2 s.heap l1 l2).get? _=_
  rw [show H5 c1 c2 s.heap l1 l2=(H4 c1 c2 s.heap l1 l2).push { cls:= .type "zip",data:= .fields #[.none,.bool false,.bool false,.ref (H2 c1 c2 s.heap l1 l2).objs.size,.ref (H3 c1 c2 s.heap l1 l2).objs.size] } from rfl,this,z2,z3]
 have hTO:IsPair (H5 c1 c2 s.heap l1 l2) (s.heap.objs.size+3) .none .none:=by
  have:=Heap.get?_push_size (H3 c1 c2 s.heap l1 l2) (o:={ cls:= .type "tuple",data:= .seq #[.none,.none] }) rfl;rw [z3] at this;exact kz _ _ this
 have hTI:IsPair (H5 c1 c2 s.heap l1 l2) (s.heap.objs.size+2) (.ref s.heap.objs.size) (.ref (s.heap.objs.size+1)):=by
  have:=Heap.get?_push_size (H2 c1 c2 s.heap l1 l2) (o:={ cls:= .type "tuple",data:= .seq #[.ref s.heap.objs.size,.ref (H1 c1 s.heap l1).objs.size] }) rfl;rw [z2,z1] at this;have e:=kz (o:={ cls:= .type "zip",data:= .fields #[.none,.bool false,.bool false,.ref (H2 c1 c2 s.heap l1 l2).objs.size,.ref (H3 c1 c2 s.heap l1 l2).objs.size] }) _ _ (kz (o:={ cls:= .type "tuple",data:= .seq #[.none,.none] }) _ _ this);rw [← z1] at e ⊢;exact e
 have hi2:It c2 (H5 c1 c2 s.heap l1 l2) (s.heap.objs.size+1) l2 0:=by
  have:=It.new (c:=c2) (h:=H1 c1 s.heap l1) (l:=l2);rw [z1] at this
  exact this.at fun o q=>kz _ _ (kz _ _ (kz _ _ q))
 have hi1:It c1 (H5 c1 c2 s.heap l1 l2) s.heap.objs.size l1 0:=(It.new (c:=c1) (h:=s.heap) (l:=l1)).at fun o q=>kz _ _ (kz _ _ (kz _ _ (kz _ _ q)))
 show _∧_
 rw [z4];exact ⟨⟨_,hz,rfl⟩,h _ hz hTI hTO hi1 hi2 fun b o q=>kz _ _ (kz _ _ (kz _ _ (kz _ _ (kz _ _ q))))⟩
end
end ZpA
namespace L2
open PySem PySem.Spec PyProof.Rows ZpA
def SqA:Kd→PySem.W.Frag→Hp→Addr→List V→Prop
 | .L=>SqL
 | .T=>SqT
theorem Inv.seqA{X:Cx}{pins:List (Addr×Obj)}{σ:St}{H:Hp}{s:Shared}{c:Kd}{a:Addr}{xs:List V}(I:Inv X pins σ H s)(h:SqA c X.K H a xs):∃ its:List Value,aG xs its∧Sq c s.heap a its.toArray∧xs.length≤sizeLine:=by
 cases c with
 | L=>obtain ⟨its,r,p,z⟩:=I.list h;exact ⟨its,r,p.isList,z⟩
 | T=>obtain ⟨its,r,p,z⟩:=I.tuple h;exact ⟨its,r,(show s.heap.IsTuple a its.toArray from p),z⟩
theorem Inv.seqA_inj{X:Cx}{pins:List (Addr×Obj)}{σ:St}{H:Hp}{s:Shared}{c:Kd}{a:Addr}{xs ys:List V}(I:Inv X pins σ H s)(h:SqA c X.K H a xs)(h':SqA c X.K H a ys):xs=ys:=by
 cases c with
 | L=>exact I.list_inj h h'
 | T=>exact I.tuple_inj h h'
theorem uS{prog:Program}{w:World}{A:Around}{E:Value→Shared→Prop}{s:Shared}{c:Kd}{e it l:Addr}{i:Nat}{j:Int}{items:Array Value}{old:Value}{Q:Option Value→Shared→Prop}(hh:A.handled=none)
 (he:IsEnum s.heap e it j old) (hit:ZpA.It c s.heap it l i) (hl:Sq c s.heap l items) (hx:items[i]?=none)
 (hQ:∀ h',Heap.ExtBut it s.heap h'→Q none { s with heap:=h' }):wpAny (model prog w) A (pyNext (.ref e)) Q E s:=by
 have hT:s.TypeIs (.ref e) "enumerate" := ⟨_,he,rfl⟩;unfold pyNext
 refine wpAny_bind (wpAny_attempt (wpAny_callSpecial?_slot (name:=Str.ofString "__next__") hT F.slot_enumerate_next
  (wpAny_call_entry F.slot_enumerate_next hT F.entry_enumerate_next ?_ (F.args_enumerate_next_1 _))))
 show wpAny _ _ (field (.ref e) 2 >>= _) _ _ _
 refine wpAny_bind (wpAny_field he rfl (x:= .ref it) rfl ?_);refine wpAny_bind (ZpA.gx hh hit hl hx fun h' x he' hx'=> ?_);obtain ⟨o,ho,hc⟩:=hx';refine wpAny_bind (wpAny_isInstance (T := "StopIteration") (b:=true) ⟨o,ho,hc⟩ isSubtype_stop ?_);exact wpAny_pure (hQ _ he')
theorem xt{prog:Program}{w:World}{A:Around}{E:Value→Shared→Prop}{s:Shared}{c:Kd}{l:Addr}{items:Array Value}{Q:Value→Shared→Prop}(hL:Sq c s.heap l items)
 (h:∀ h',IsEnum h' (s.heap.objs.size+1) s.heap.objs.size 0 .none→ZpA.It c h' s.heap.objs.size l 0→h'.objs.size=s.heap.objs.size+2 →
   (∀ b o,s.heap.get? b=some o→h'.get? b=some o)→Q (.ref (s.heap.objs.size+1)) { s with heap:=h' }) :
 wpAny (model prog w) A (call (.type "enumerate") [.ref l]) Q E s:=by
 cases c with
 | L=>exact call_enumerate_list (show s.heap.IsList l items from hL) h
 | T=>exact EnT.lO (show s.heap.IsTuple l items from hL) h
def IteA(c:Kd)(K:PySem.W.Frag)(a:Addr):L2.It :=
 ⟨fun i H=>∃ xs x,SqA c K H a xs∧xs[i]?=some x,fun i H x H'=>∃ p y,x = .ref p∧H p=none∧H'=upd H p (.tup [.int (i:Nat),y])∧∀ xs,SqA c K H a xs→xs[i]?=some y,fun i H=>∃ xs,SqA c K H a xs∧xs.length≤i⟩
theorem qX{c:Kd}{P:Program}{w:World}{K:PySem.W.Frag}{elts:List Expr}{k}{tpos:Pos}(a e it:Addr)(hei:e≠it):vt P w K (.Tuple elts k tpos) (IteA c K a) [e,it] e (fun i h=>(∃ old,IsEnum h e it (i:Nat) old)∧ZpA.It c h it a i) where
 mem:=by simp
 obj:=fun i h st b hb=>by
  obtain ⟨⟨old,he⟩,hit⟩:=st;obtain ⟨o,ho,⟨vs,hd⟩,hc⟩:=hit.obj
  have hb':b=e∨b=it:=by simpa using hb
  rcases hb' with rfl | rfl
  ·exact ⟨_,he,fun v z=>by
    have z':Data.fields _=Data.cell v:=z
    cases z'⟩
  ·exact ⟨o,ho,fun v z=>by rw [hd] at z;cases z⟩
 keep:=fun i h h' st k=>by
  obtain ⟨⟨old,he⟩,hit⟩:=st;exact ⟨⟨old,k e (by simp) _ he⟩,hit.at fun o x=>k it (by simp) o x⟩
 item:=by
  intro X hP hw hK hc i pins s σ H E I hf st hg;subst hP hw hK;obtain ⟨xs,y,hq,hx⟩:=hg;obtain ⟨its,rv,p,hz⟩:=I.seqA hq;obtain ⟨u,hu,ru⟩:=rv.get hx;obtain ⟨⟨old,he⟩,hit⟩:=st;have pt:=p
  have hea:e≠a:=fun z=>by
   obtain ⟨o,ho,hc⟩:=p.obj;rw [← z,he] at ho;cases ho
   rcases hc with hc | hc
   ·exact absurd (show Value.type "enumerate" = Value.type "list" from hc) (by decide)
   ·exact absurd (show Value.type "enumerate" = Value.type "tuple" from hc) (by decide)
  have hia:a≠it:=fun z=>by
   obtain ⟨o,ho,hc⟩:=p.obj;obtain ⟨o',ho',_,hc'⟩:=hit.obj;rw [z,ho'] at ho;cases ho
   rcases hc with hc | hc<;>rcases hc' with hc' | hc'<;>(rw [hc] at hc';exact absurd hc' (by decide))
  have hil:i < its.toArray.size:=by
   have:=(List.getElem?_eq_some_iff.mp hu).1;simpa using this
  refine wpAny_pyNext_enum_itemD (ZpA.draws (c:=c) (prog:=X.prog) (w:=X.w) (A:=X.A.in1) (I.ok.hd hc) it a hia its.toArray) he ⟨hit,pt⟩ hil hei (by simp [hea,hei]) fun x h' tk hPx ho st' hT hsz hk=> ?_
  have hxu:x=u:=by
   have:its.toArray[i]?=some u:=by simpa using hu
   rw [this] at hPx;exact (Option.some.inj hPx).symm
  subst hxu;refine ⟨_,rfl,wpAny_letOwnedTupleGo_enum ho fun h'' he' hs'=> ?_⟩
  replace hs':Heap.SameBut e h' h'':=hs'
  have hel:e < s.heap.objs.size:=Heap.lt_size he
  have hil':it < s.heap.objs.size:=by obtain ⟨o,ho,_⟩:=hit.obj;exact Heap.lt_size ho
  have kp:∀ b o,b≠e→b≠it→s.heap.get? b=some o→h''.get? b=some o:=fun b o n1 n2 q=>(hs'.2 b n1).trans (hk b o n1 n2 q)
  have hT2:h''.get? s.heap.objs.size=some { cls:= .type "tuple",data:= .seq #[.int (i:Nat) tk,x] }:=(hs'.2 _ (Nat.ne_of_gt hel)).trans hT;have hTn:H s.heap.objs.size=none:=I.hok.fresh (Nat.le_refl _);have fe:=hf e (by simp);have fi:=hf it (by simp)
  have nte:∀ b u,H b=some u→b≠e:=fun b u q z=>by rw [z,fe.1] at q;cases q
  have nti:∀ b u,H b=some u→b≠it:=fun b u q z=>by rw [z,fi.1] at q;cases q
  have hok:HOk X.prog X.w (upd H s.heap.objs.size (.tup [.int (i:Nat),y])) h'':=fun b ob q=>by
   by_cases hb:b=s.heap.objs.size
   ·subst hb
    rw [aD] at q;cases q;exact ⟨by show 2≤sizeLine;decide,[.int (i:Nat) tk,x],.cons ⟨tk,rfl⟩ (.cons ru .nil),⟨_,hT2,rfl,_,rfl⟩⟩
   ·rw [ar hb] at q
    refine (I.hok b ob q).stay (fun c v hc q'=> ?_) (fun c q'=>by rw [ar (au q' hTn)];exact q') fun c xs q'=>by rw [ar (au q' hTn)];exact q'
    rcases hc with rfl | hc
    ·exact kp _ _ (nte _ _ q) (nti _ _ q) q'
    ·exact kp _ _ (nte _ _ hc) (nti _ _ hc) q'
  have mem2:∀ b,b∉[e,it]→b≠e∧b≠it:=fun b hb=>by
   have:=hb;simp at this;exact this
  have I2:Inv X pins σ (upd H s.heap.objs.size (.tup [.int (i:Nat),y])) { s with heap:=h'',toks:=tk+1 } :=
   I.step (g':=s.gens) (d':=s.drawn) (ch:=[e,it]) (fun b hb=>by
    have hb':b=e∨b=it:=by simpa using hb
    rcases hb' with rfl | rfl
    ·exact ⟨fe.2.2.2.1,fe.2.1,fe.2.2.2.2.1,fe.2.2.2.2.2⟩
    ·exact ⟨fi.2.2.2.1,fi.2.1,fi.2.2.2.2.1,fi.2.2.2.2.2⟩)
    (fun b o _ _ hc q _=>kp b o (mem2 b hc).1 (mem2 b hc).2 q) (fun b o _ _ hc q _=>⟨o.slots,kp b o (mem2 b hc).1 (mem2 b hc).2 q⟩)
    (fun b o _ q n=>by rw [ar (Nat.ne_of_lt (Heap.lt_size q))];exact n) (fun b o hc q=>⟨o,kp b o (mem2 b hc).1 (mem2 b hc).2 q⟩)
    (fun b xs q=>by rw [ar (au q hTn)];exact q) (fun b o u q=>by rw [ar (au q hTn)];exact q) (fun b ps q=>⟨#[],by rw [ar (au q hTn),q];simp⟩)
    (fun m hm=>by obtain ⟨o,es,ep,ho,r⟩:=hm;exact ⟨o,es,ep,kp _ o (Ne.symm fe.2.1) (Ne.symm fi.2.1) ho,r⟩) hok I.bare
  refine ⟨.ref s.heap.objs.size,_,I2,rfl,⟨_,y,rfl,hTn,rfl,fun ys hy=>by rw [I.seqA_inj hy hq];exact hx⟩,⟨⟨x,?_⟩,?_⟩,fun b hb=> ?_⟩
  ·have:((i+1:Nat):Int)=(i:Int)+1:=by push_cast;rfl
   rw [this];exact he'
  ·exact st'.1.at fun o q=>(hs'.2 it (Ne.symm hei)).trans q
  ·have hb':b=e∨b=it:=by simpa using hb
   rcases hb' with rfl | rfl
   ·rw [ar (Nat.ne_of_lt hel)];exact fe.1
   ·rw [ar (Nat.ne_of_lt hil')];exact fi.1
 done:=by
  intro X hP hw hK hc i pins s σ H E I hf st hg;subst hP hw hK;obtain ⟨xs,hq,hx⟩:=hg;obtain ⟨its,rv,p,hz⟩:=I.seqA hq;obtain ⟨⟨old,he⟩,hit⟩:=st;obtain ⟨f0,f1,f2,f3,f4,f5⟩:=hf it (by simp);have hl:=rv.length
  have hia:a≠it:=fun z=>by
   obtain ⟨o,ho,hc⟩:=p.obj;obtain ⟨o',ho',_,hc'⟩:=hit.obj;rw [z,ho'] at ho;cases ho
   rcases hc with hc | hc<;>rcases hc' with hc' | hc'<;>(rw [hc] at hc';exact absurd hc' (by decide))
  refine uS (I.ok.hd hc) he hit p (by simp;omega) fun h' eb=>⟨rfl,I.turned (t':=s.toks) (fun b o hb e=>eb b o hb e) f0 f1 f3 f4 f5⟩
 self:=fun _ _ _ _ _ st h=>by
  obtain ⟨⟨old,he⟩,_⟩:=st;exact wpAny_pyIter_enum he h
section
variable{X:Cx}
def iEnumA(K:PySem.W.Frag)(ta:TA):TI:=fun σ H R=>ta σ H fun vs H1=>∃ a c,vs=[.ref a]∧(∃ xs,SqA c K H1 a xs∧(xs.length≤sizeLine→R (IteA c K a) H1))
theorem wm{elts:List Expr}{k}{tpos:Pos}{l:Expr}{ta:TA}{p pos:Pos}(hg:Gl X "enumerate")(hm:X.mg "enumerate" = none)(ha:PA X [l] ta)(hs:starEach [l] X.env=[(false,eval l X.env)]:=by rfl) :
 PI X (.Tuple elts k tpos) (.Call (.Name "enumerate" p) [l] [] pos) (iEnumA X.K ta):=by
 intro pins s σ H R I h;refine Call_ (iu I hg hm boot_enumerate (PyProof.Rows.callWith_type1 (thn (ha pos pins s σ H _ I h) fun us s1 ⟨vs,H1,I1,r1,q1⟩=> ?_) hs rfl));obtain ⟨a,c,e,xs,hq,q⟩:=q1;subst e
 cases r1 with
 | cons r rr =>
  cases rr;cases r;obtain ⟨its,rv,p,hz⟩:=I1.seqA hq
  refine xt p fun h' he hit hsz hk=> ?_
  refine wpAny_pyIter_enum he ?_;refine ⟨s1.heap.objs.size+1,[s1.heap.objs.size+1,s1.heap.objs.size],_,_,H1,rfl,I1.kept (t':=s1.toks) hk,qX a _ s1.heap.objs.size (Nat.ne_of_gt (Nat.lt_succ_self _)),⟨⟨.none,he⟩,hit⟩,fun b hb=> ?_,q hz⟩
  have hb':b=s1.heap.objs.size+1∨b=s1.heap.objs.size:=by simpa using hb
  rcases hb' with rfl | rfl
  ·exact I1.fpOk (by omega) (I1.hok.fresh (by omega))
  ·exact I1.fpOk (Nat.le_refl _) (I1.hok.fresh (Nat.le_refl _))
end
def ItzA(c1 c2:Kd)(K:PySem.W.Frag)(a b:Addr):L2.It :=
 ⟨fun i H=>∃ xs ys x y,SqA c1 K H a xs∧SqA c2 K H b ys∧xs[i]?=some x∧ys[i]?=some y,fun i H x H'=>∃ p y z,x = .ref p∧H p=none∧H'=upd H p (.tup [y,z])∧(∀ xs,SqA c1 K H a xs→xs[i]?=some y)∧∀ ys,SqA c2 K H b ys→ys[i]?=some z,fun i H=>∃ xs,SqA c1 K H a xs∧xs.length≤i⟩
def ZipStA(c1 c2:Kd)(a b z TI TO i1 i2:Addr)(i:Nat)(h:Heap):Prop:=IsZip h z TI TO .none∧IsPair h TI (.ref i1) (.ref i2)∧(∃ x y,IsPair h TO x y)∧ZpA.It c1 h i1 a i∧ZpA.It c2 h i2 b i
theorem ub{c1 c2:Kd}{P:Program}{w:World}{K:PySem.W.Frag}{elts:List Expr}{k}{tpos:Pos}(a b z TI TO i1 i2:Addr)(ap:ZipApart z TI TO i1 i2 a b) :
 vt P w K (.Tuple elts k tpos) (ItzA c1 c2 K a b) [z,TI,TO,i1,i2] z (ZipStA c1 c2 a b z TI TO i1 i2) where
 mem:=by simp
 obj:=fun i h st c hc=>by
  obtain ⟨hz,hTI,⟨x,y,hTO⟩,j1,j2⟩:=st;obtain ⟨o1,ho1,⟨v1,hd1⟩,hc1⟩:=j1.obj;obtain ⟨o2,ho2,⟨v2,hd2⟩,hc2⟩:=j2.obj
  have hc':c=z∨c=TI∨c=TO∨c=i1∨c=i2:=by simpa using hc
  rcases hc' with rfl | rfl | rfl | rfl | rfl
  ·exact ⟨_,hz,fun v q=>by have q':Data.fields _=Data.cell v:=q;cases q'⟩
  ·exact ⟨_,hTI,fun v q=>by have q':Data.seq _ _=Data.cell v:=q;cases q'⟩
  ·exact ⟨_,hTO,fun v q=>by have q':Data.seq _ _=Data.cell v:=q;cases q'⟩
  ·exact ⟨o1,ho1,fun v q=>by rw [hd1] at q;cases q⟩
  ·exact ⟨o2,ho2,fun v q=>by rw [hd2] at q;cases q⟩
 keep:=fun i h h' st k=>by
  obtain ⟨hz,hTI,⟨x,y,hTO⟩,h1,h2⟩:=st;exact ⟨k z (by simp) _ hz,k TI (by simp) _ hTI,⟨x,y,k TO (by simp) _ hTO⟩,h1.at fun o q=>k i1 (by simp) o q,h2.at fun o q=>k i2 (by simp) o q⟩
 item:=by
  intro X hP hw hK hc i pins s σ H E I hf st hg;subst hP hw hK;obtain ⟨xs,ys,y,y',hq,hq',hx,hx'⟩:=hg;obtain ⟨its,rv,p,hz'⟩:=I.seqA hq;obtain ⟨its',rv',p',hz''⟩:=I.seqA hq';obtain ⟨u,hu,ru⟩:=rv.get hx;obtain ⟨u',hu',ru'⟩:=rv'.get hx';obtain ⟨hz,hTI,⟨x0,y0,hTO⟩,h1,h2⟩:=st
  have hn:∀ c,c∈[z,TI,TO,i1,i2]→H c=none:=fun c hc=>(hf c hc).1
  have hTn:H s.heap.objs.size=none:=I.hok.fresh (Nat.le_refl _)
  refine ZpA.vw ap hz hTI hTO h1 h2 p p' (x:=u) (y:=u') (by simpa using hu) (by simpa using hu') fun h' z' to' i1' i2' pT ks=>⟨_,rfl,wpAny_letOwnedTupleGo_zip z' fun h'' zz hs=> ?_⟩
  replace hs:Heap.SameBut z h' h'':=hs
  have lz:z < s.heap.objs.size:=Heap.lt_size hz;have lTI:TI < s.heap.objs.size:=Heap.lt_size hTI;have lTO:TO < s.heap.objs.size:=Heap.lt_size hTO
  have li1:i1 < s.heap.objs.size:=by obtain ⟨o,ho,_⟩:=h1.obj;exact Heap.lt_size ho
  have li2:i2 < s.heap.objs.size:=by obtain ⟨o,ho,_⟩:=h2.obj;exact Heap.lt_size ho
  have kp:∀ c o,c≠z→c≠TO→c≠i1→c≠i2→s.heap.get? c=some o→h''.get? c=some o:=fun c o n1 n2 n3 n4 q=>(hs.2 c n1).trans (ks c o n1 n2 n3 n4 q)
  have hT2:IsPair h'' s.heap.objs.size u u':=(hs.2 _ (Nat.ne_of_gt lz)).trans pT
  have nt:∀ c o,H c=some o→c≠z∧c≠TO∧c≠i1∧c≠i2:=fun c o q=>⟨fun e=>(by rw [e,hn z (by simp)] at q;cases q),fun e=>(by rw [e,hn TO (by simp)] at q;cases q),fun e=>(by rw [e,hn i1 (by simp)] at q;cases q),fun e=>(by rw [e,hn i2 (by simp)] at q;cases q)⟩
  have kp':∀ c o u,H c=some u→s.heap.get? c=some o→h''.get? c=some o:=fun c o u q q'=>by
   obtain ⟨n1,n2,n3,n4⟩:=nt c u q;exact kp c o n1 n2 n3 n4 q'
  have hok:HOk X.prog X.w (upd H s.heap.objs.size (.tup [y,y'])) h'':=fun c ob q=>by
   by_cases hb:c=s.heap.objs.size
   ·subst hb
    rw [aD] at q;cases q;exact ⟨by show 2≤sizeLine;decide,[u,u'],.cons ru (.cons ru' .nil),⟨_,hT2,rfl,_,rfl⟩⟩
   ·rw [ar hb] at q
    refine (I.hok c ob q).stay (fun e v he q'=> ?_) (fun e q'=>by rw [ar (au q' hTn)];exact q') fun e xs q'=>by rw [ar (au q' hTn)];exact q'
    rcases he with rfl | he
    ·exact kp' _ _ _ q q'
    ·exact kp' _ _ _ he q'
  have mem4:∀ c,c∉[z,TO,i1,i2]→c≠z∧c≠TO∧c≠i1∧c≠i2:=fun c hc=>by
   have:=hc;simp at this;exact this
  have I2:Inv X pins σ (upd H s.heap.objs.size (.tup [y,y'])) { s with heap:=h'' } :=
   I.step (g':=s.gens) (d':=s.drawn) (t':=s.toks) (ch:=[z,TO,i1,i2]) (fun c hc=>by
    have hc':c∈[z,TI,TO,i1,i2]:=by simp at hc ⊢;rcases hc with e | e | e | e<;>simp [e]
    have f:=hf c hc'
    exact ⟨f.2.2.2.1,f.2.1,f.2.2.2.2.1,f.2.2.2.2.2⟩)
    (fun c o _ _ hc q _=>by obtain ⟨n1,n2,n3,n4⟩:=mem4 c hc;exact kp c o n1 n2 n3 n4 q) (fun c o _ _ hc q _=>by obtain ⟨n1,n2,n3,n4⟩:=mem4 c hc;exact ⟨o.slots,kp c o n1 n2 n3 n4 q⟩)
    (fun c o _ q n=>by rw [ar (Nat.ne_of_lt (Heap.lt_size q))];exact n) (fun c o hc q=>by obtain ⟨n1,n2,n3,n4⟩:=mem4 c hc;exact ⟨o,kp c o n1 n2 n3 n4 q⟩)
    (fun c xs q=>by rw [ar (au q hTn)];exact q) (fun c o u q=>by rw [ar (au q hTn)];exact q) (fun c ps q=>⟨#[],by rw [ar (au q hTn),q];simp⟩)
    (fun m hm=>by obtain ⟨o,es,ep,ho,r⟩:=hm;exact ⟨o,es,ep,kp _ o (Ne.symm (hf z (by simp)).2.1) (Ne.symm (hf TO (by simp)).2.1) (Ne.symm (hf i1 (by simp)).2.1) (Ne.symm (hf i2 (by simp)).2.1) ho,r⟩) hok I.bare
  refine ⟨.ref s.heap.objs.size,_,I2,rfl,⟨_,y,y',rfl,hTn,rfl,fun zs hy=>by rw [I.seqA_inj hy hq];exact hx,fun zs hy=>by rw [I.seqA_inj hy hq'];exact hx'⟩,⟨zz,?_,⟨u,u',?_⟩,?_,?_⟩,fun c hc=> ?_⟩
  ·exact kp TI _ ap.TIz ap.TITO ap.TIi1 ap.TIi2 hTI
  ·exact (hs.2 TO ap.TOz).trans to'
  ·exact i1'.at fun o q=>(hs.2 i1 ap.i1z).trans q
  ·exact i2'.at fun o q=>(hs.2 i2 ap.i2z).trans q
  ·have hc':c=z∨c=TI∨c=TO∨c=i1∨c=i2:=by simpa using hc
   have lc:c < s.heap.objs.size:=by rcases hc' with rfl | rfl | rfl | rfl | rfl<;>assumption
   rw [ar (Nat.ne_of_lt lc)];exact hn c hc
 done:=by
  intro X hP hw hK hc i pins s σ H E I hf st hg;subst hP hw hK;obtain ⟨xs,hq,hx⟩:=hg;obtain ⟨its,rv,p,hz'⟩:=I.seqA hq;obtain ⟨hz,hTI,⟨x0,y0,hTO⟩,h1,h2⟩:=st;have hl:=rv.length
  have hn:∀ c,c∈[z,TI,TO,i1,i2]→H c=none:=fun c hc=>(hf c hc).1
  refine ZpA.xO (I.ok.hd hc) ap hz hTI hTO h1 p (by simp;omega) fun h' ks=>⟨rfl,?_⟩
  have nt:∀ c o,H c=some o→c≠z∧c≠i1:=fun c o q=>⟨fun e=>(by rw [e,hn z (by simp)] at q;cases q),fun e=>(by rw [e,hn i1 (by simp)] at q;cases q)⟩
  have kp':∀ c o u,H c=some u→s.heap.get? c=some o→h'.get? c=some o:=fun c o u q q'=>by
   obtain ⟨n1,n3⟩:=nt c u q;exact ks c o n1 n3 q'
  have hok:HOk X.prog X.w H h':=fun c ob q=>by
   refine (I.hok c ob q).stay (fun e v he q'=> ?_) (fun e q'=>q') fun e xs q'=>q'
   rcases he with rfl | he
   ·exact kp' _ _ _ q q'
   ·exact kp' _ _ _ he q'
  have mem2:∀ c,c∉[z,i1]→c≠z∧c≠i1:=fun c hc=>by
   have:=hc;simp at this;exact this
  exact I.step (g':=s.gens) (d':=s.drawn) (t':=s.toks) (ch:=[z,i1]) (fun c hc=>by
   have hc':c∈[z,TI,TO,i1,i2]:=by simp at hc ⊢;rcases hc with e | e<;>simp [e]
   have f:=hf c hc'
   exact ⟨f.2.2.2.1,f.2.1,f.2.2.2.2.1,f.2.2.2.2.2⟩)
   (fun c o _ _ hc q _=>by obtain ⟨n1,n3⟩:=mem2 c hc;exact ks c o n1 n3 q) (fun c o _ _ hc q _=>by obtain ⟨n1,n3⟩:=mem2 c hc;exact ⟨o.slots,ks c o n1 n3 q⟩)
   (fun c o _ q n=>n) (fun c o hc q=>by obtain ⟨n1,n3⟩:=mem2 c hc;exact ⟨o,ks c o n1 n3 q⟩)
   (fun c xs q=>q) (fun c o u q=>q) (fun c ps q=>⟨#[],by rw [q];simp⟩)
   (fun m hm=>by obtain ⟨o,es,ep,ho,r⟩:=hm;exact ⟨o,es,ep,ks _ o (Ne.symm (hf z (by simp)).2.1) (Ne.symm (hf i1 (by simp)).2.1) ho,r⟩) hok I.bare
 self:=fun _ _ _ _ _ st h=>wpAny_pyIter_zip st.1 h
section
variable{X:Cx}
def iZipA(K:PySem.W.Frag)(ta:TA):TI:=fun σ H R=>ta σ H fun vs H1=>∃ a b c1 c2,vs=[.ref a,.ref b]∧(∃ xs,SqA c1 K H1 a xs∧(xs.length≤sizeLine→(∃ ys,SqA c2 K H1 b ys)∧R (ItzA c1 c2 K a b) H1))
theorem yJ{elts:List Expr}{k}{tpos:Pos}{l l':Expr}{ta:TA}{p pos:Pos}(hg:Gl X "zip")(hm:X.mg "zip" = none)(ha:PA X [l,l'] ta)(hs:starEach [l,l'] X.env=[(false,eval l X.env),(false,eval l' X.env)]:=by rfl)(hs2:starEach [l'] X.env=[(false,eval l' X.env)]:=by rfl) :
 PI X (.Tuple elts k tpos) (.Call (.Name "zip" p) [l,l'] [] pos) (iZipA X.K ta):=by
 intro pins s σ H R I h;refine Call_ (iu I hg hm boot_zip (PyProof.Rows.callWith_type1 (thn (ha pos pins s σ H _ I h) fun us s1 ⟨vs,H1,I1,r1,q1⟩=> ?_) (by rw [hs,hs2]) (by rw [hs2];rfl)));obtain ⟨a,b,c1,c2,e,xs,hq,q⟩:=q1;subst e;obtain ⟨u,u',rfl,ru,ru'⟩:=pp r1;cases ru;cases ru';obtain ⟨its,rv,p,hz⟩:=I1.seqA hq;obtain ⟨⟨ys,hq'⟩,q⟩:=q hz;obtain ⟨its',rv',p',hz'⟩:=I1.seqA hq'
 have la:a < s1.heap.objs.size:=by obtain ⟨o,ho,_⟩:=p.obj;exact Heap.lt_size ho
 have lb:b < s1.heap.objs.size:=by obtain ⟨o,ho,_⟩:=p'.obj;exact Heap.lt_size ho
 refine ZpA.lO p p' fun h' hz hTI hTO h1 h2 hk=> ?_
 refine wpAny_pyIter_zip hz ?_;refine ⟨s1.heap.objs.size+4,[s1.heap.objs.size+4,s1.heap.objs.size+2,s1.heap.objs.size+3,s1.heap.objs.size,s1.heap.objs.size+1],_,_,H1,rfl,I1.kept (t':=s1.toks) hk,ub a b _ _ _ _ _ (zipApart_new la lb),⟨hz,hTI,⟨_,_,hTO⟩,h1,h2⟩,fun c hc=> ?_,q⟩
 have hc':c=s1.heap.objs.size+4∨c=s1.heap.objs.size+2∨c=s1.heap.objs.size+3∨c=s1.heap.objs.size∨c=s1.heap.objs.size+1:=by simpa using hc
 have lc:s1.heap.objs.size≤c:=by
  rcases hc' with rfl | rfl | rfl | rfl | rfl
  ·exact Nat.le_add_right _ _
  ·exact Nat.le_add_right _ _
  ·exact Nat.le_add_right _ _
  ·exact Nat.le_refl _
  ·exact Nat.le_add_right _ _
 exact I1.fpOk lc (I1.hok.fresh lc)
end
end L2
namespace L2
open PySem PySem.Spec PyProof.Rows
inductive D where
 | non | bl (b:Bool) | int (i:Int) | str (x:Str) | tup (l:List D) | lst (l:List D) | ktup (l:List D) | klst (l:List D)
 | dK (ks:List Key) (vs:List D) | dT (ks:List (List Key)) (vs:List D) | set (l:List Int) | rng (lo hi:Int) | exc (C:Str)
def mD(K:PySem.W.Frag)(nm:Str)(C:Addr):Prop:=PySem.W.nsIn K mainGlobals nm=some (some (.ref C))
mutual
def aH(K:PySem.W.Frag)(H:Hp):D→V→Prop
 | .non,v=>v = .non
 | .bl b,v=>v = .bl b
 | .int i,v=>v = .int i
 | .str x,v=>v = .str x
 | .tup ds,v=>∃ p xs,v = .ref p∧H p=some (.tup xs)∧ao K H ds xs
 | .lst ds,v=>∃ p xs,v = .ref p∧H p=some (.lst xs)∧ao K H ds xs
 | .klst ds,v=>∃ p xs,v = .ref p∧SqL K H p xs∧ao K H ds xs
 | .ktup ds,v=>∃ p xs,v = .ref p∧SqT K (fun _=>none) p xs∧ao K H ds xs
 | .dK ks ds,v=>∃ p xs,v = .ref p∧H p=some (.dK (ks.zip xs))∧ks.length=xs.length∧ao K H ds xs
 | .dT ks ds,v=>∃ p xs,v = .ref p∧H p=some (.dT (ks.zip xs))∧ks.length=xs.length∧ao K H ds xs
 | .set l,v=>∃ p S,v = .ref p∧H p=some (.set S l.length)∧∀ x,S x=true↔x∈l
 | .rng lo hi,v=>∃ p,v = .ref p∧H p=some (.rng lo hi)
 | .exc nm,v=>∃ p C,v = .ref p∧mD K nm C∧H p=some (excO p C)
def ao(K:PySem.W.Frag)(H:Hp):List D→List V→Prop
 | [],[]=>True
 | d::ds,x::xs=>aH K H d x∧ao K H ds xs
 | _,_=>False
end
mutual
theorem aj.repD{K:PySem.W.Frag}{H H':Hp}(e:aj H H'):∀ {d:D} {v:V},aH K H d v→aH K H' d v
 | .non,_,h=>h
 | .bl _,_,h=>h
 | .int _,_,h=>h
 | .str _,_,h=>h
 | .tup _,_,⟨p,xs,h1,h2,h3⟩=>⟨p,xs,h1,e _ _ h2,e.repDs h3⟩
 | .lst _,_,⟨p,xs,h1,h2,h3⟩=>⟨p,xs,h1,e _ _ h2,e.repDs h3⟩
 | .klst _,_,⟨p,xs,h1,h2,h3⟩=>⟨p,xs,h1,e.seq h2,e.repDs h3⟩
 | .ktup _,_,⟨p,xs,h1,h2,h3⟩=>⟨p,xs,h1,h2,e.repDs h3⟩
 | .dK _ _,_,⟨p,xs,h1,h2,h3,h4⟩=>⟨p,xs,h1,e _ _ h2,h3,e.repDs h4⟩
 | .dT _ _,_,⟨p,xs,h1,h2,h3,h4⟩=>⟨p,xs,h1,e _ _ h2,h3,e.repDs h4⟩
 | .set _,_,⟨p,S,h1,h2,h3⟩=>⟨p,S,h1,e _ _ h2,h3⟩
 | .rng _ _,_,⟨p,h1,h2⟩=>⟨p,h1,e _ _ h2⟩
 | .exc _,_,⟨p,C,h1,h2,h3⟩=>⟨p,C,h1,h2,e _ _ h3⟩
theorem aj.repDs{K:PySem.W.Frag}{H H':Hp}(e:aj H H'):∀ {ds:List D} {xs:List V},ao K H ds xs→ao K H' ds xs
 | [],[],_=>trivial
 | _::_,_::_,h=>⟨e.repD h.1,e.repDs h.2⟩
 | [],_::_,h=>h.elim
 | _::_,[],h=>h.elim
end
theorem ao.len{K:PySem.W.Frag}{H:Hp}:∀ {ds:List D} {xs:List V},ao K H ds xs→ds.length=xs.length
 | [],[],_=>rfl
 | _::_,_::_,h=>by rw [List.length_cons,List.length_cons,ao.len h.2]
 | [],_::_,h=>h.elim
 | _::_,[],h=>h.elim
theorem ao.get{K:PySem.W.Frag}{H:Hp}:∀ {ds:List D} {xs:List V} {i:Nat} {d:D},ao K H ds xs→ds[i]?=some d→∃ x,xs[i]?=some x∧aH K H d x
 | _::_,x::_,0,d,h,e=>⟨x,rfl,by have:_=d:=Option.some.inj e;rw [← this];exact h.1⟩
 | _::_,_::_,i+1,d,h,e=>ao.get (i:=i) h.2 (by simpa using e)
 | [],[],_,_,_,e=>by simp at e
 | [],_::_,_,_,h,_=>h.elim
 | _::_,[],_,_,h,_=>h.elim
theorem ao.get'{K:PySem.W.Frag}{H:Hp}{ds:List D}{xs:List V}{i:Nat}{x:V}(h:ao K H ds xs)(e:xs[i]?=some x):∃ d,ds[i]?=some d∧aH K H d x:=by
 have hi:i < ds.length:=by rw [h.len];exact (List.getElem?_eq_some_iff.mp e).1
 obtain ⟨y,e2,r⟩:=h.get (List.getElem?_eq_getElem hi);rw [e] at e2;cases e2;exact ⟨_,List.getElem?_eq_getElem hi,r⟩
theorem ao.app{K:PySem.W.Frag}{H:Hp}:∀ {ds es:List D} {xs ys:List V},ao K H ds xs→ao K H es ys→ao K H (ds++es) (xs++ys)
 | [],_,[],_,_,h=>h
 | _::_,_,_::_,_,g,h=>⟨g.1,ao.app g.2 h⟩
 | [],_,_::_,_,g,_=>g.elim
 | _::_,_,[],_,g,_=>g.elim
theorem ao.take{K:PySem.W.Frag}{H:Hp}:∀ {ds:List D} {xs:List V} (n:Nat),ao K H ds xs→ao K H (ds.take n) (xs.take n)
 | [],[],n,_=>by simp;exact trivial
 | _::_,_::_,0,_=>trivial
 | _::_,_::_,n+1,h=>⟨h.1,ao.take n h.2⟩
 | [],_::_,_,h=>h.elim
 | _::_,[],_,h=>h.elim
theorem ao.drop{K:PySem.W.Frag}{H:Hp}:∀ {ds:List D} {xs:List V} (n:Nat),ao K H ds xs→ao K H (ds.drop n) (xs.drop n)
 | [],[],n,_=>by simp;exact trivial
 | _::_,_::_,0,h=>h
 | _::_,_::_,n+1,h=>ao.drop n h.2
 | [],_::_,_,h=>h.elim
 | _::_,[],_,h=>h.elim
theorem ao.set{K:PySem.W.Frag}{H:Hp}{d:D}{x:V}(r:aH K H d x):∀ {ds:List D} {xs:List V} (n:Nat),ao K H ds xs→ao K H (ds.set n d) (xs.set n x)
 | [],[],n,_=>by simp;exact trivial
 | _::_,_::_,0,h=>⟨r,h.2⟩
 | _::_,_::_,n+1,h=>⟨h.1,ao.set r n h.2⟩
 | [],_::_,_,h=>h.elim
 | _::_,[],_,h=>h.elim
theorem dw{K:PySem.W.Frag}{H:Hp}:∀ (ns:List Int),ao K H (ns.map D.int) (ns.map V.int)
 | []=>trivial
 | _::ns=>⟨rfl,dw ns⟩
theorem bo{K:PySem.W.Frag}{H:Hp}:∀ {ns:List Int} {xs:List V},ao K H (ns.map D.int) xs→xs=ns.map V.int
 | [],[],_=>rfl
 | _::_,_::_,h=>by rw [h.1,bo h.2];rfl
 | [],_::_,h=>h.elim
 | _::_,[],h=>h.elim
theorem nH{K:PySem.W.Frag}{H:Hp}:∀ {ns:List Bool} {xs:List V},ao K H (ns.map D.bl) xs→xs=ns.map V.bl
 | [],[],_=>rfl
 | _::_,_::_,h=>by rw [h.1,nH h.2];rfl
 | [],_::_,h=>h.elim
 | _::_,[],h=>h.elim
def hid(L:List Addr)(H:Hp):Hp:=fun a=>if a∈L then none else H a
theorem ay{L:List Addr}{H:Hp}{b:Addr}{o:HO}(h:hid L H b=some o):b∉L∧H b=some o:=by
 unfold hid at h
 split at h
 ·cases h
 ·exact ⟨‹_›,h⟩
theorem aQ{L:List Addr}{H:Hp}{b:Addr}(h:b∉L):hid L H b=H b:=if_neg h
theorem aY{L L':List Addr}{H H':Hp}(hL:∀ b,b∈L'→b∈L∨H b=none)(h:∀ b o,b∉L→H b=some o→H' b=some o):aj (hid L H) (hid L' H'):=fun b o e=>by
 obtain ⟨h1,h2⟩:=ay e;rw [aQ (fun z=>(hL b z).elim h1 fun n=>by rw [n] at h2;cases h2)];exact h b o h1 h2
theorem aC{L:List Addr}{H:Hp}:aj (hid L H) H:=fun b o e=>(ay e).2
theorem tN{L:List Addr}{H:Hp}{p:Addr}{o:HO}(h:p∈L):hid L (upd H p o)=hid L H:=by
 funext b
 unfold hid
 split
 ·rfl
 ·rw [ar (fun z=>by subst z;exact absurd h ‹_›)]
inductive Md where
 | fz | ow | io
 deriving DecidableEq
abbrev Rho:=List (Option (D×Md))
structure Fx where
 Z:List Addr
 io:Nat→Option Addr
def aT(K:PySem.W.Frag)(H Hh:Hp)(p:Addr):D→Prop
 | .lst ds=>∃ xs,H p=some (.lst xs)∧ao K Hh ds xs
 | .dK ks ds=>∃ xs,H p=some (.dK (ks.zip xs))∧ks.length=xs.length∧ao K Hh ds xs
 | .dT ks ds=>∃ xs,H p=some (.dT (ks.zip xs))∧ks.length=xs.length∧ao K Hh ds xs
 | _=>False
def fC:Option HO→Prop
 | some (.lst _)=>True
 | some (.dK _)=>True
 | some (.dT _)=>True
 | _=>False
theorem aT.mu{K:PySem.W.Frag}{H Hh:Hp}{p:Addr}{d:D}(h:aT K H Hh p d):fC (H p):=by
 cases d<;>first | exact h.elim | (obtain ⟨xs,e,_⟩:=h;rw [e];trivial)
theorem aT.at{K:PySem.W.Frag}{H H' Hh Hh':Hp}{p:Addr}{d:D}(h:aT K H Hh p d)(e:H' p=H p)(s:aj Hh Hh'):aT K H' Hh' p d:=by
 cases d<;>first
  | exact h.elim
  | (obtain ⟨xs,h1,h2,h3⟩:=h;exact ⟨xs,e.trans h1,h2,s.repDs h3⟩)
  | (obtain ⟨xs,h1,h2⟩:=h;exact ⟨xs,e.trans h1,s.repDs h2⟩)
theorem aT.rep{K:PySem.W.Frag}{H Hh Hh':Hp}{p:Addr}{d:D}(h:aT K H Hh p d)(e:Hh' p=H p)(s:aj Hh Hh'):aH K Hh' d (.ref p):=by
 cases d<;>first
  | exact h.elim
  | (obtain ⟨xs,h1,h2,h3⟩:=h;exact ⟨p,xs,rfl,e.trans h1,h2,s.repDs h3⟩)
  | (obtain ⟨xs,h1,h2⟩:=h;exact ⟨p,xs,rfl,e.trans h1,s.repDs h2⟩)
def sO(K:PySem.W.Frag)(F:Fx)(H:Hp)(W:List Addr)(i:Nat)(d:D)(v:V):Md→Prop
 | .fz=>aH K (hid (W++F.Z) H) d v
 | .ow=>∃ p,v = .ref p∧p∈W∧aT K H (hid (W++F.Z) H) p d
 | .io=>∃ p,v = .ref p∧p∈W∧aT K H (hid (W++F.Z) H) p d∧F.io i=some p
structure Rel(K:PySem.W.Frag)(F:Fx)(σ:St)(H:Hp)(ρ:Rho)(W:List Addr):Prop where
 slot:∀ (i:Nat) (d:D) (m:Md),ρ[i]?=some (some (d,m))→∃ v,σ[i]?=some (some v)∧sO K F H W i d v m
 apart:∀ (i j:Nat) (d e:D) (m n:Md) (p:Addr),ρ[i]?=some (some (d,m))→m ≠ .fz→ρ[j]?=some (some (e,n))→n ≠ .fz→σ[i]?=some (some (.ref p))→σ[j]?=some (some (.ref p))→i=j
 wz:∀ p∈W,p∉F.Z
 mt:∀ p∈W++F.Z,fC (H p)
 len:σ.length=ρ.length
structure Fr(W:List Addr)(H H':Hp):Prop where
 keep:∀ b o,b∉W→H b=some o→H' b=some o
 dom:∀ b,H' b=none→H b=none
theorem Fr.refl{W:List Addr}{H:Hp}:Fr W H H:=⟨fun _ _ _ h=>h,fun _ h=>h⟩
theorem aj.fr{W:List Addr}{H H':Hp}(e:aj H H'):Fr W H H':=⟨fun b o _ h=>e b o h,fun b h=>e.free h⟩
theorem Fr.trans{W W1:List Addr}{H H1 H2:Hp}(a:Fr W H H1)(b:Fr W1 H1 H2)(h:∀ p∈W1,p∈W∨H p=none):Fr W H H2 :=
 ⟨fun c o n e=>b.keep c o (fun z=>(h c z).elim n fun q=>by rw [q] at e;cases e) (a.keep c o n e),fun c e=>a.dom c (b.dom c e)⟩
theorem Fr.hid{W W' Z:List Addr}{H H':Hp}(f:Fr W H H')(s:∀ p∈W',p∈W∨H p=none):aj (L2.hid (W++Z) H) (L2.hid (W'++Z) H') :=
 aY (fun b hb=>by
  rcases List.mem_append.mp hb with q | q
  ·exact (s b q).imp (fun z=>List.mem_append_left _ z) id
  ·exact .inl (List.mem_append_right _ q)) fun b o n e=>f.keep b o (fun z=>n (List.mem_append_left _ z)) e
section
variable{K:PySem.W.Frag}{F:Fx}{σ:St}{H H':Hp}{ρ:Rho}{W:List Addr}
theorem fC.some{o:Option HO}(h:fC o):∃ u,o=Option.some u:=by
 cases o with
 | none=>exact h.elim
 | some u=>exact ⟨u,rfl⟩
theorem Rel.same(R:Rel K F σ H ρ W)(e:aj H H'):Rel K F σ H' ρ W:=by
 have eq:∀ p,fC (H p)→H' p=H p:=fun p h=>by obtain ⟨u,q⟩:=h.some;rw [q];exact e _ _ q
 have sh:aj (hid (W++F.Z) H) (hid (W++F.Z) H'):=aY (fun b hb=> .inl hb) fun b o _ q=>e b o q
 refine ⟨fun i d m h=> ?_,R.apart,R.wz,fun p hp=>by rw [eq p (R.mt p hp)];exact R.mt p hp,R.len⟩;obtain ⟨v,h1,h2⟩:=R.slot i d m h;refine ⟨v,h1,?_⟩
 cases m with
 | fz=>exact sh.repD h2
 | ow=>obtain ⟨p,e1,e2,e3⟩:=h2;exact ⟨p,e1,e2,e3.at (eq p e3.mu) sh⟩
 | io=>obtain ⟨p,e1,e2,e3,e4⟩:=h2;exact ⟨p,e1,e2,e3.at (eq p e3.mu) sh,e4⟩
theorem Rel.fresh(R:Rel K F σ H ρ W){p:Addr}(h:H p=none):p∉W++F.Z:=fun z=>by
 have:=R.mt p z;rw [h] at this;exact this
theorem bE{α:Type}{l:List (Option α)}{i j:Nat}{o:Option α}{x:α}(h:(l.set i o)[j]?=some (some x)):(j=i∧o=some x)∨(j≠i∧l[j]?=some (some x)):=by
 by_cases e:j=i
 ·subst e
  rw [List.getElem?_set] at h
  split at h
  ·split at h
   ·exact .inl ⟨rfl,Option.some.inj h⟩
   ·cases h
  ·exact absurd rfl ‹_›
 ·rw [List.getElem?_set_ne (Ne.symm e)] at h
  exact .inr ⟨e,h⟩
theorem Rel.freeze(R:Rel K F σ H ρ W){i:Nat}{d:D}{p:Addr}(h:ρ[i]?=some (some (d,.ow)))(hp:σ[i]?=some (some (.ref p))) :
 Rel K F σ H (ρ.set i (some (d,.fz))) (W.filter fun a=>decide (a≠p))∧aH K (hid ((W.filter fun a=>decide (a≠p))++F.Z) H) d (.ref p):=by
 obtain ⟨v,hv,q,rfl,hq,hO⟩:=R.slot i d .ow h;rw [hp] at hv;cases hv
 have sub:∀ b,b∈W.filter (fun a=>decide (a≠p))→b∈W∧b≠p:=fun b hb=>by
  have:=List.mem_filter.mp hb;exact ⟨this.1,of_decide_eq_true this.2⟩
 have sh:aj (hid (W++F.Z) H) (hid ((W.filter fun a=>decide (a≠p))++F.Z) H):=aY (fun b hb=>by
  rcases List.mem_append.mp hb with q | q
  ·exact .inl (List.mem_append_left _ (sub b q).1)
  ·exact .inl (List.mem_append_right _ q)) fun b o _ e=>e
 have pn:p∉(W.filter fun a=>decide (a≠p))++F.Z:=fun z=>by
  rcases List.mem_append.mp z with q | q
  ·exact (sub p q).2 rfl
  ·exact R.wz p hq q
 have rep:aH K (hid ((W.filter fun a=>decide (a≠p))++F.Z) H) d (.ref p):=hO.rep (aQ pn) sh;refine ⟨⟨fun j e m hj=> ?_,fun j k e f m n r h1 h2 h3 h4 h5 h6=> ?_,fun r hr=>R.wz r (sub r hr).1,fun r hr=> ?_,by rw [List.length_set];exact R.len⟩,rep⟩
 ·rcases bE hj with ⟨rfl,e1⟩ | ⟨ne,e1⟩
  ·cases e1
   exact ⟨_,hp,rep⟩
  ·obtain ⟨v,g1,g2⟩:=R.slot j e m e1
   refine ⟨v,g1,?_⟩
   have other:∀ r,v = .ref r→m ≠ .fz→r≠p:=fun r er hm z=>by
    subst er z;exact ne (R.apart j i _ _ _ _ _ e1 hm h (by decide) g1 hp)
   cases m with
   | fz=>exact sh.repD g2
   | ow=>obtain ⟨r,e2,e3,e4⟩:=g2;exact ⟨r,e2,List.mem_filter.mpr ⟨e3,decide_eq_true (other r e2 (by decide))⟩,e4.at rfl sh⟩
   | io=>obtain ⟨r,e2,e3,e4,e5⟩:=g2;exact ⟨r,e2,List.mem_filter.mpr ⟨e3,decide_eq_true (other r e2 (by decide))⟩,e4.at rfl sh,e5⟩
 ·rcases bE h1 with ⟨rfl,z⟩ | ⟨_,z⟩
  ·cases z;exact absurd rfl h2
  ·rcases bE h3 with ⟨rfl,z'⟩ | ⟨_,z'⟩
   ·cases z';exact absurd rfl h4
   ·exact R.apart j k _ _ _ _ _ z h2 z' h4 h5 h6
 ·rcases List.mem_append.mp hr with q | q
  ·exact R.mt r (List.mem_append_left _ (sub r q).1)
  ·exact R.mt r (List.mem_append_right _ q)
theorem Rel.write(R:Rel K F σ H ρ W){i:Nat}{d d':D}{m:Md}{p:Addr}{o:HO}(h:ρ[i]?=some (some (d,m)))(hm:m ≠ .fz)(hp:σ[i]?=some (some (.ref p)))(new:aT K (upd H p o) (hid (W++F.Z) H) p d') :
 Rel K F σ (upd H p o) (ρ.set i (some (d',m))) W∧Fr W H (upd H p o):=by
 obtain ⟨v,hv,hS⟩:=R.slot i d m h;rw [hp] at hv;cases hv
 have hw:p∈W:=by
  cases m with
  | fz=>exact absurd rfl hm
  | ow=>obtain ⟨r,e2,e3,_⟩:=hS;cases e2;exact e3
  | io=>obtain ⟨r,e2,e3,_⟩:=hS;cases e2;exact e3
 have hh:hid (W++F.Z) (upd H p o)=hid (W++F.Z) H:=tN (List.mem_append_left _ hw);refine ⟨⟨fun j e n hj=> ?_,fun j k e f n n' r h1 h2 h3 h4 h5 h6=> ?_,R.wz,fun r hr=> ?_,by rw [List.length_set];exact R.len⟩,fun b u nb e=> ?_,fun b e=> ?_⟩
 ·rcases bE hj with ⟨rfl,e1⟩ | ⟨ne,e1⟩
  ·cases e1
   refine ⟨_,hp,?_⟩
   cases m with
   | fz=>exact absurd rfl hm
   | ow=>exact ⟨p,rfl,hw,by rw [hh];exact new⟩
   | io=>obtain ⟨r,e2,e3,e4,e5⟩:=hS;cases e2;exact ⟨p,rfl,hw,by rw [hh];exact new,e5⟩
  ·obtain ⟨v,g1,g2⟩:=R.slot j e n e1
   refine ⟨v,g1,?_⟩
   have other:∀ r,v = .ref r→n ≠ .fz→r≠p:=fun r er hn z=>by
    subst er z;exact ne (R.apart j i _ _ _ _ _ e1 hn h hm g1 hp)
   cases n with
   | fz=>show aH K (hid (W++F.Z) (upd H p o)) e v;rw [hh];exact g2
   | ow=>obtain ⟨r,e2,e3,e4⟩:=g2;exact ⟨r,e2,e3,e4.at (ar (other r e2 (by decide))) (by rw [hh];exact aj.refl _)⟩
   | io=>obtain ⟨r,e2,e3,e4,e5⟩:=g2;exact ⟨r,e2,e3,e4.at (ar (other r e2 (by decide))) (by rw [hh];exact aj.refl _),e5⟩
 ·have fnd:∀ {j:Nat} {e:D} {n:Md},(ρ.set i (some (d',m)))[j]?=some (some (e,n))→n ≠ .fz→∃ e',ρ[j]?=some (some (e',n)):=fun {j e n} hj hn=>by
   rcases bE hj with ⟨rfl,e1⟩ | ⟨_,e1⟩
   ·cases e1;exact ⟨d,h⟩
   ·exact ⟨_,e1⟩
  obtain ⟨_,z1⟩:=fnd h1 h2;obtain ⟨_,z2⟩:=fnd h3 h4;exact R.apart j k _ _ _ _ _ z1 h2 z2 h4 h5 h6
 ·by_cases e:r=p
  ·subst e;exact new.mu
  ·rw [ar e];exact R.mt r hr
 ·rw [ar (fun z=>by subst z;exact nb hw)];exact e
 ·by_cases z:b=p
  ·subst z;rw [aD] at e;cases e
  ·rw [ar z] at e;exact e
theorem Rel.put(R:Rel K F σ H ρ W){i:Nat}{d:D}{v:V}(hi:i < σ.length)(r:aH K (hid (W++F.Z) H) d v):Rel K F (σ.set i (some v)) H (ρ.set i (some (d,.fz))) W:=by
 refine ⟨fun j e m hj=> ?_,fun j k e f m n p h1 h2 h3 h4 h5 h6=> ?_,R.wz,R.mt,by rw [List.length_set,List.length_set];exact R.len⟩
 ·rcases bE hj with ⟨rfl,e1⟩ | ⟨ne,e1⟩
  ·cases e1
   exact ⟨v,List.getElem?_set_self hi,r⟩
  ·obtain ⟨v',g1,g2⟩:=R.slot j e m e1
   exact ⟨v',by rw [List.getElem?_set_ne (Ne.symm ne)];exact g1,g2⟩
 ·rcases bE h1 with ⟨rfl,z⟩ | ⟨n1,z⟩
  ·cases z;exact absurd rfl h2
  ·rcases bE h3 with ⟨rfl,z'⟩ | ⟨n2,z'⟩
   ·cases z';exact absurd rfl h4
   ·rw [List.getElem?_set_ne (Ne.symm n1)] at h5
    rw [List.getElem?_set_ne (Ne.symm n2)] at h6;exact R.apart j k _ _ _ _ _ z h2 z' h4 h5 h6
theorem Rel.own{p:Addr}(R:Rel K F σ (hid [p] H) ρ W){i:Nat}{d:D}(hi:i < σ.length)(hp:p∉W++F.Z)(r:aT K H (hid (p::(W++F.Z)) H) p d):Rel K F (σ.set i (some (.ref p))) H (ρ.set i (some (d,.ow))) (p::W):=by
 have hh:hid (W++F.Z) (hid [p] H)=hid ((p::W)++F.Z) H:=by
  funext b
  unfold hid
  by_cases z:b=p
  ·subst z
   rw [if_neg hp];simp
  ·by_cases z2:b∈W++F.Z
   ·rw [if_pos z2,if_pos (by rw [List.cons_append];exact List.mem_cons_of_mem _ z2)]
   ·rw [if_neg z2,if_neg (by simpa using z),if_neg (by rw [List.cons_append];exact fun q=>(List.mem_cons.mp q).elim z z2)]
 have neq:∀ r,r∈W++F.Z→hid [p] H r=H r:=fun r hr=>aQ (by
  intro z
  have z:r=p:=by simpa using z
  subst z;exact hp hr)
 refine ⟨fun j e m hj=> ?_,fun j k e f m n q h1 h2 h3 h4 h5 h6=> ?_,fun q hq=> ?_,fun q hq=> ?_,by rw [List.length_set,List.length_set];exact R.len⟩
 ·rcases bE hj with ⟨rfl,e1⟩ | ⟨ne,e1⟩
  ·cases e1
   exact ⟨_,List.getElem?_set_self hi,p,rfl,List.mem_cons_self,r⟩
  ·obtain ⟨v',g1,g2⟩:=R.slot j e m e1
   refine ⟨v',by rw [List.getElem?_set_ne (Ne.symm ne)];exact g1,?_⟩
   cases m with
   | fz=>show aH K (hid ((p::W)++F.Z) H) e v';rw [← hh];exact g2
   | ow=>obtain ⟨r,e2,e3,e4⟩:=g2;exact ⟨r,e2,List.mem_cons_of_mem _ e3,e4.at (neq r (List.mem_append_left _ e3)).symm (by rw [hh];exact aj.refl _)⟩
   | io=>obtain ⟨r,e2,e3,e4,e5⟩:=g2;exact ⟨r,e2,List.mem_cons_of_mem _ e3,e4.at (neq r (List.mem_append_left _ e3)).symm (by rw [hh];exact aj.refl _),e5⟩
 ·have inW:∀ {j:Nat} {e:D} {m:Md},ρ[j]?=some (some (e,m))→m ≠ .fz→σ[j]?=some (some (.ref p))→False:=fun {j e m} h1 h2 h3=>by
   obtain ⟨v,g1,g2⟩:=R.slot j e m h1;rw [h3] at g1;cases g1
   cases m with
   | fz=>exact h2 rfl
   | ow=>obtain ⟨r,e2,e3,_⟩:=g2;cases e2;exact hp (List.mem_append_left _ e3)
   | io=>obtain ⟨r,e2,e3,_⟩:=g2;cases e2;exact hp (List.mem_append_left _ e3)
  rcases bE h1 with ⟨rfl,z⟩ | ⟨n1,z⟩
  ·rw [List.getElem?_set_self hi] at h5
   cases h5
   rcases bE h3 with ⟨rfl,z'⟩ | ⟨n2,z'⟩
   ·rfl
   ·rw [List.getElem?_set_ne (Ne.symm n2)] at h6
    exact (inW z' h4 h6).elim
  ·rw [List.getElem?_set_ne (Ne.symm n1)] at h5
   rcases bE h3 with ⟨rfl,z'⟩ | ⟨n2,z'⟩
   ·rw [List.getElem?_set_self hi] at h6
    cases h6;exact (inW z h2 h5).elim
   ·rw [List.getElem?_set_ne (Ne.symm n2)] at h6
    exact R.apart j k _ _ _ _ _ z h2 z' h4 h5 h6
 ·rcases List.mem_cons.mp hq with rfl | hq
  ·exact fun z=>hp (List.mem_append_right _ z)
  ·exact R.wz q hq
 ·rcases List.mem_cons.mp (show q∈p::(W++F.Z) from hq) with rfl | hq
  ·exact r.mu
  ·have:=R.mt q hq
   rw [neq q hq] at this;exact this
end
end L2
namespace L2
open PySem PySem.Spec PyProof.Rows
theorem PE.by{X:Cx}{e:Expr}{t t':TE}(h:PE X e t)(hi:∀ σ H Q,t' σ H Q→t σ H Q):PE X e t':=fun pins s σ H Q I hw=>h pins s σ H Q I (hi σ H Q hw)
theorem PT.by{X:Cx}{e:Expr}{t t':TT}(h:PT X e t)(hi:∀ σ H Q,t' σ H Q→t σ H Q):PT X e t':=fun pins s σ H Q I hw=>h pins s σ H Q I (hi σ H Q hw)
inductive Res where
 | ok (d:D) (nw:Bool) | ex (C:Str)
inductive pd where
 | ok (ds:List D) | ex (C:Str)
inductive vv where
 | ok (b:Bool) | ex (C:Str)
abbrev SE:=Rho→Option (Res×Rho)
abbrev ST:=Rho→Option (vv×Rho)
abbrev EXT:=Str→St→Hp→Prop
section
variable(K:PySem.W.Frag)(F:Fx)(EX:EXT)(σ:St)(H:Hp)(W:List Addr)
def f7(H':Hp)(ρ':Rho)(W':List Addr)(d:D):Bool→V→Prop
 | false,v=>aH K (hid (W'++F.Z) H') d v∧Rel K F σ H' ρ' W'
 | true,v=>∃ p,v = .ref p∧H p=none∧p∉W'++F.Z∧aT K H' (hid (p::(W'++F.Z)) H') p d∧Rel K F σ (hid [p] H') ρ' W'
def OkV(o:Option (Res×Rho))(Q:VK):Prop:=match o with
 | some (.ok d nw,ρ')=>∀ v H' W',Fr W H H'→(∀ p∈W',p∈W)→f7 K F σ H H' ρ' W' d nw v→Q v H'
 | some (.ex C,ρ')=>∀ H' W',Fr W H H'→(∀ p∈W',p∈W)→Rel K F σ H' ρ' W'→EX C σ H'
 | none=>False
def OkT(o:Option (vv×Rho))(Q:Bool→Hp→Prop):Prop:=match o with
 | some (.ok b,ρ')=>∀ H' W',Fr W H H'→(∀ p∈W',p∈W)→Rel K F σ H' ρ' W'→Q b H'
 | some (.ex C,ρ')=>∀ H' W',Fr W H H'→(∀ p∈W',p∈W)→Rel K F σ H' ρ' W'→EX C σ H'
 | none=>False
end
def tV(K:PySem.W.Frag)(EX:EXT)(f:SE):TE:=fun σ H Q=>∃ F ρ W,Rel K F σ H ρ W∧OkV K F EX σ H W (f ρ) Q
def tVT(K:PySem.W.Frag)(EX:EXT)(f:ST):TT:=fun σ H Q=>∃ F ρ W,Rel K F σ H ρ W∧OkT K F EX σ H W (f ρ) Q
structure JE(X:Cx)(EX:EXT)(e:Expr)(f:SE):Prop where
 p:PE X e (tV X.K EX f)
structure JT(X:Cx)(EX:EXT)(e:Expr)(f:ST):Prop where
 p:PT X e (tVT X.K EX f)
structure JW(X:Cx)(EX:EXT)(e:Expr)(f:ST):Prop where
 p:PW X e (tVT X.K EX f)
inductive Arg where
 | ex (f:SE) | bor (i:Nat)
def tArg(K:PySem.W.Frag)(EX:EXT):Arg→TE
 | .ex f=>tV K EX f
 | .bor i=>vH i
def tAs(K:PySem.W.Frag)(EX:EXT):List Arg→TA
 | []=>tNil
 | a::as=>zU (tArg K EX a) (tAs K EX as)
structure JB(X:Cx)(EX:EXT)(e:Expr)(a:Arg):Prop where
 p:PE X e (tArg X.K EX a)
structure JA(X:Cx)(EX:EXT)(es:List Expr)(as:List Arg):Prop where
 p:PA X es (tAs X.K EX as)
def evA:List Arg→Rho→Option (pd×Rho)
 | [],ρ=>some (.ok [],ρ)
 | .ex f::as,ρ=>match f ρ with
  | some (.ok d _,ρ1)=>match evA as ρ1 with
   | some (.ok ds,ρ2)=>some (.ok (d::ds),ρ2)
   | some (.ex C,ρ2)=>some (.ex C,ρ2)
   | none=>none
  | some (.ex C,ρ1)=>some (.ex C,ρ1)
  | none=>none
 | .bor i::as,ρ=>match ρ[i]? with
  | some (some _)=>match evA as ρ with
   | some (.ok ds,ρ2)=>match ρ2[i]? with
    | some (some (d,_))=>some (.ok (d::ds),ρ2)
    | _=>none
   | some (.ex C,ρ2)=>some (.ex C,ρ2)
   | none=>none
  | _=>none
def f9(K:PySem.W.Frag)(H Hh:Hp):D→V→Prop
 | .lst ds,v=>∃ p xs,v = .ref p∧H p=some (.lst xs)∧ao K Hh ds xs
 | .dK ks ds,v=>∃ p xs,v = .ref p∧H p=some (.dK (ks.zip xs))∧ks.length=xs.length∧ao K Hh ds xs
 | .dT ks ds,v=>∃ p xs,v = .ref p∧H p=some (.dT (ks.zip xs))∧ks.length=xs.length∧ao K Hh ds xs
 | d,v=>aH K Hh d v
def jW(K:PySem.W.Frag)(H Hh:Hp):List D→List V→Prop
 | [],[]=>True
 | d::ds,x::xs=>f9 K H Hh d x∧jW K H Hh ds xs
 | _,_=>False
section
variable{K:PySem.W.Frag}{F:Fx}{EX:EXT}{σ:St}{H H' Hh Hh':Hp}{ρ ρ':Rho}{W W':List Addr}
theorem aH.b{d:D}{v:V}(r:aH K Hh d v)(s:aj Hh H):f9 K H Hh d v:=by
 cases d<;>first
  | exact r
  | (obtain ⟨p,xs,h1,h2,h3,h4⟩:=r;exact ⟨p,xs,h1,s _ _ h2,h3,h4⟩)
  | (obtain ⟨p,xs,h1,h2,h3⟩:=r;exact ⟨p,xs,h1,s _ _ h2,h3⟩)
theorem aT.b{p:Addr}{d:D}(h:aT K H Hh p d):f9 K H Hh d (.ref p):=by
 cases d<;>first
  | exact h.elim
  | (obtain ⟨xs,h1,h2,h3⟩:=h;exact ⟨p,xs,rfl,h1,h2,h3⟩)
  | (obtain ⟨xs,h1,h2⟩:=h;exact ⟨p,xs,rfl,h1,h2⟩)
theorem f9.d{d:D}{v:V}(r:f9 K H Hh d v)(s:aj Hh H):aH K H d v:=by
 cases d<;>first
  | exact s.repD r
  | (obtain ⟨p,xs,h1,h2,h3,h4⟩:=r;exact ⟨p,xs,h1,h2,h3,s.repDs h4⟩)
  | (obtain ⟨p,xs,h1,h2,h3⟩:=r;exact ⟨p,xs,h1,h2,s.repDs h3⟩)
theorem sO.b{i:Nat}{d:D}{v:V}{m:Md}(h:sO K F H W i d v m):f9 K H (hid (W++F.Z) H) d v:=by
 cases m with
 | fz=>exact aH.b h aC
 | ow=>obtain ⟨p,rfl,_,h⟩:=h;exact h.b
 | io=>obtain ⟨p,rfl,_,h,_⟩:=h;exact h.b
theorem f7.plain{H0:Hp}{d:D}{nw:Bool}{v:V}(h:f7 K F σ H0 H ρ W d nw v):aH K (hid (W++F.Z) H) d v∧Rel K F σ H ρ W:=by
 cases nw with
 | false=>exact h
 | true =>
  obtain ⟨p,rfl,_,hp,hO,R⟩:=h;refine ⟨hO.rep (aQ hp) (aY (fun b hb=> .inl (List.mem_cons_of_mem _ hb)) fun b o _ e=>e),R.same aC⟩
variable(K F EX) in
def OkAs(σ:St)(H:Hp)(W:List Addr)(o:Option (pd×Rho))(Q:List V→Hp→Prop):Prop:=match o with
 | some (.ok ds,ρ')=>∀ vs H' W',Fr W H H'→(∀ p∈W',p∈W)→Rel K F σ H' ρ' W'→jW K H' (hid (W'++F.Z) H') ds vs→Q vs H'
 | some (.ex C,ρ')=>∀ H' W',Fr W H H'→(∀ p∈W',p∈W)→Rel K F σ H' ρ' W'→EX C σ H'
 | none=>False
theorem nP:∀ (as:List Arg) {H:Hp} {ρ:Rho} {W:List Addr} {Q:List V→Hp→Prop},Rel K F σ H ρ W→OkAs K F EX σ H W (evA as ρ) Q→tAs K EX as σ H Q
 | [],H,ρ,W,Q,R,h=>h [] H W .refl (fun _ z=>z) R trivial
 | .ex f::as,H,ρ,W,Q,R,h=>by
  refine ⟨F,ρ,W,R,?_⟩;unfold evA at h
  revert h
  cases f ρ with
  | none=>exact fun h=>h
  | some r =>
   obtain ⟨r,ρ1⟩:=r
   cases r with
   | ex C=>exact fun h=>h
   | ok d nw =>
    intro h v H1 W1 fr sub post;obtain ⟨rd,R1⟩:=post.plain;refine nP as R1 ?_
    revert h
    dsimp only
    cases evA as ρ1 with
    | none=>exact fun h=>h
    | some q =>
     obtain ⟨q,ρ2⟩:=q
     cases q with
     | ex C=>exact fun h H2 W2 fr2 sub2 R2=>h H2 W2 (fr.trans fr2 fun p hp=> .inl (sub p hp)) (fun p hp=>sub p (sub2 p hp)) R2
     | ok ds =>
      intro h vs H2 W2 fr2 sub2 R2 reps;exact h (v::vs) H2 W2 (fr.trans fr2 fun p hp=> .inl (sub p hp)) (fun p hp=>sub p (sub2 p hp)) R2 ⟨aH.b ((fr2.hid fun p hp=> .inl (sub2 p hp)).repD rd) aC,reps⟩
 | .bor i::as,H,ρ,W,Q,R,h=>by
  unfold evA at h
  revert h
  cases e:ρ[i]? with
  | none=>exact fun h=>h.elim
  | some z =>
   cases z with
   | none=>exact fun h=>h.elim
   | some dm =>
    obtain ⟨d0,m0⟩:=dm;obtain ⟨v,hv,_⟩:=R.slot i d0 m0 e;intro h;refine ⟨v,hv,nP as R ?_⟩
    revert h
    dsimp only
    cases evA as ρ with
    | none=>exact fun h=>h
    | some q =>
     obtain ⟨q,ρ2⟩:=q
     cases q with
     | ex C=>exact fun h=>h
     | ok ds =>
      dsimp only
      cases e2:ρ2[i]? with
      | none=>exact fun h=>h.elim
      | some z =>
       cases z with
       | none=>exact fun h=>h.elim
       | some dm =>
        obtain ⟨d,m⟩:=dm;intro h vs H2 W2 fr2 sub2 R2 reps;obtain ⟨v2,hv2,ok2⟩:=R2.slot i d m e2;rw [hv] at hv2;cases hv2;exact h (v::vs) H2 W2 fr2 sub2 R2 ⟨ok2.b,reps⟩
variable(K F EX) in
def OkFs(σ:St)(H:Hp)(W:List Addr)(o:Option (pd×Rho))(Q:List V→Hp→Prop):Prop:=match o with
 | some (.ok ds,ρ')=>∀ vs H' W',Fr W H H'→(∀ p∈W',p∈W)→Rel K F σ H' ρ' W'→ao K (hid (W'++F.Z) H') ds vs→Q vs H'
 | some (.ex C,ρ')=>∀ H' W',Fr W H H'→(∀ p∈W',p∈W)→Rel K F σ H' ρ' W'→EX C σ H'
 | none=>False
theorem nA:∀ (fs:List SE) {H:Hp} {ρ:Rho} {W:List Addr} {Q:List V→Hp→Prop},Rel K F σ H ρ W→OkFs K F EX σ H W (evA (fs.map Arg.ex) ρ) Q→tAs K EX (fs.map Arg.ex) σ H Q
 | [],H,ρ,W,Q,R,h=>h [] H W .refl (fun _ z=>z) R trivial
 | f::fs,H,ρ,W,Q,R,h=>by
  refine ⟨F,ρ,W,R,?_⟩;rw [List.map_cons] at h;unfold evA at h
  revert h
  cases f ρ with
  | none=>exact fun h=>h
  | some r =>
   obtain ⟨r,ρ1⟩:=r
   cases r with
   | ex C=>exact fun h=>h
   | ok d nw =>
    intro h v H1 W1 fr sub post;obtain ⟨rd,R1⟩:=post.plain;refine nA fs R1 ?_
    revert h
    dsimp only
    cases evA (fs.map Arg.ex) ρ1 with
    | none=>exact fun h=>h
    | some q =>
     obtain ⟨q,ρ2⟩:=q
     cases q with
     | ex C=>exact fun h H2 W2 fr2 sub2 R2=>h H2 W2 (fr.trans fr2 fun p hp=> .inl (sub p hp)) (fun p hp=>sub p (sub2 p hp)) R2
     | ok ds =>
      intro h vs H2 W2 fr2 sub2 R2 reps;exact h (v::vs) H2 W2 (fr.trans fr2 fun p hp=> .inl (sub p hp)) (fun p hp=>sub p (sub2 p hp)) R2 ⟨(fr2.hid fun p hp=> .inl (sub2 p hp)).repD rd,reps⟩
end
def gN(K:PySem.W.Frag)(H H':Hp)(L:List Addr)(d:D):Bool→V→Prop
 | false,v=>aH K (hid L H') d v
 | true,v=>∃ p,v = .ref p∧H p=none∧aT K H' (hid (p::L) H') p d
def OpS(K:PySem.W.Frag)(r:List V→Hp→VK→Prop)(g:List D→Option (D×Bool)):Prop :=
 ∀ vs ds H L Q d nw,(∀ p∈L,fC (H p))→jW K H (hid L H) ds vs→g ds=some (d,nw)→(∀ v H',aj H H'→gN K H H' L d nw v→Q v H')→r vs H Q
def sOp(g:List D→Option (D×Bool))(as:List Arg):SE:=fun ρ=>match evA as ρ with
 | some (.ok ds,ρ')=>match g ds with
  | some (d,nw)=>some (.ok d nw,ρ')
  | none=>none
 | some (.ex C,ρ')=>some (.ex C,ρ')
 | none=>none
section
variable{K:PySem.W.Frag}{F:Fx}{EX:EXT}{σ:St}{H H':Hp}{ρ ρ':Rho}{W W':List Addr}{Q:VK}
theorem gN.e{d:D}{nw:Bool}{v:V}(h:gN K H H' (W++F.Z) d nw v)(R:Rel K F σ H ρ W)(s:aj H H'):f7 K F σ H H' ρ W d nw v:=by
 cases nw with
 | false=>exact ⟨h,R.same s⟩
 | true =>
  obtain ⟨p,rfl,hp,hO⟩:=h;refine ⟨p,rfl,hp,R.fresh hp,hO,R.same fun b o e=> ?_⟩
  rw [aQ (by intro z;have z:b=p:=by simpa using z
             subst z;rw [hp] at e;cases e)]
  exact s b o e
theorem f7.back{H0:Hp}{d:D}{nw:Bool}{v:V}(h:f7 K F σ H H' ρ W d nw v)(fr:∀ b,H b=none→H0 b=none):f7 K F σ H0 H' ρ W d nw v:=by
 cases nw with
 | false=>exact h
 | true=>obtain ⟨p,h1,h2,h3⟩:=h;exact ⟨p,h1,fr p h2,h3⟩
theorem dF{r:List V→Hp→VK→Prop}{g:List D→Option (D×Bool)}{as:List Arg}(hs:OpS K r g)(R:Rel K F σ H ρ W)(h:OkV K F EX σ H W (sOp g as ρ) Q):tAs K EX as σ H (fun vs H2=>r vs H2 Q):=by
 refine nP as R ?_;unfold sOp at h
 revert h
 cases evA as ρ with
 | none=>exact fun h=>h
 | some q =>
  obtain ⟨q,ρ2⟩:=q
  cases q with
  | ex C=>exact fun h=>h
  | ok ds =>
   dsimp only
   cases e:g ds with
   | none=>exact fun h=>h.elim
   | some z =>
    obtain ⟨d,nw⟩:=z;intro h vs H2 W2 fr2 sub2 R2 reps
    exact hs vs ds H2 (W2++F.Z) Q d nw R2.mt reps e fun v H3 s3 post=>h v H3 W2 (fr2.trans (s3.fr (W:=W2)) fun p hp=> .inl (sub2 p hp)) sub2 ((post.e R2 s3).back fr2.dom)
end
def r2(r:R2):List V→Hp→VK→Prop
 | [x,y],H,Q=>r x y H Q
 | _,_,_=>False
def r1(r:V→Hp→VK→Prop):List V→Hp→VK→Prop
 | [x],H,Q=>r x H Q
 | _,_,_=>False
section
variable{X:Cx}{EX:EXT}{a b e:Expr}{es:List Expr}{pos:Pos}{x y:Arg}{as:List Arg}
theorem af:JA X EX [] []:=⟨gw⟩
theorem ac(h:JB X EX e x)(t:JA X EX es as)(hs:starEach (e::es) X.env=(false,eval e X.env)::starEach es X.env:=by rfl):JA X EX (e::es) (x::as):=⟨ff h.p t.p hs⟩
theorem aa{f:SE}(h:JE X EX e f):JB X EX e (.ex f):=⟨h.p⟩
theorem cb_var{i:Nat}{n:Str}(hN:X.N[i]?=some n)(hv:Vis X.env.scope n)(hd:(n == ("__debug__" : Str))=false:=by decide)(hcd:(n == ("__classdict__" : Str))=false:=by decide):JB X EX (.Name n pos) (.bor i):=⟨ii hN hv hd hcd⟩
def sC(d:D):SE:=fun ρ=>some (.ok d false,ρ)
theorem mO{v:V}{d:D}(h:∀ H,aH X.K H d v){σ:St}{H:Hp}{Q:VK}(hw:tV X.K EX (sC d) σ H Q):tC v σ H Q:=by
 obtain ⟨F,ρ,W,R,h2⟩:=hw;exact h2 v H W .refl (fun _ z=>z) ⟨h _,R⟩
theorem ag{i:Int}{j pos}:JE X EX (.Constant (.int i) j pos) (sC (.int i)):=⟨rJ.by fun _ _ _=>mO (d:=(.int i)) (v:=(.int i)) fun _=>rfl⟩
theorem kb{i:Bool}{j pos}:JE X EX (.Constant (.bool i) j pos) (sC (.bl i)):=⟨pe_bl.by fun _ _ _=>mO (d:=(.bl i)) (v:=(.bl i)) fun _=>rfl⟩
theorem tY{j pos}:JE X EX (.Constant .none j pos) (sC .non):=⟨pe_non.by fun _ _ _=>mO (d:= .non) (v:= .non) fun _=>rfl⟩
theorem a8{i:Str}{j pos}:JE X EX (.Constant (.str i) j pos) (sC (.str i)):=⟨pe_str.by fun _ _ _=>mO (d:=(.str i)) (v:=(.str i)) fun _=>rfl⟩
theorem jA{n:Str}{i:Int}(hg:Gl X n)(hm:∃ t,X.mg n=some (.int i t))(hd:(n == ("__debug__" : Str))=false:=by decide):JE X EX (.Name n pos) (sC (.int i)):=by
 obtain ⟨t,hm⟩:=hm;exact ⟨(kl (v:= .int i) hg hm ⟨t,rfl⟩ hd).by fun _ _ _=>mO (d:= .int i) (v:= .int i) fun _=>rfl⟩
def bb(i:Nat):SE:=fun ρ=>match ρ[i]? with
 | some (some (d,.fz))=>some (.ok d false,ρ)
 | some (some (d,.ow))=>some (.ok d false,ρ.set i (some (d,.fz)))
 | _=>none
theorem c_var{i:Nat}{n:Str}(hN:X.N[i]?=some n)(hv:Vis X.env.scope n)(hd:(n == ("__debug__" : Str))=false:=by decide)(hcd:(n == ("__classdict__" : Str))=false:=by decide):JE X EX (.Name n pos) (bb i):=by
 refine ⟨(ii hN hv hd hcd).by fun σ H Q hw=> ?_⟩;obtain ⟨F,ρ,W,R,h⟩:=hw;unfold bb at h
 revert h
 cases e:ρ[i]? with
 | none=>exact fun h=>h.elim
 | some z =>
  cases z with
  | none=>exact fun h=>h.elim
  | some z =>
   obtain ⟨d,m⟩:=z;obtain ⟨v,hv,ok⟩:=R.slot i d m e
   cases m with
   | io=>exact fun h=>h.elim
   | fz=>exact fun h=>⟨v,hv,h v H W .refl (fun _ z=>z) ⟨ok,R⟩⟩
   | ow =>
    intro h;obtain ⟨p,rfl,hp,hO⟩:=ok;obtain ⟨R',rp⟩:=R.freeze e hv;exact ⟨_,hv,h _ H _ .refl (fun q hq=>(List.mem_filter.mp hq).1) ⟨rp,R'⟩⟩
theorem vn{op:Operator}{r:R2}{g:List D→Option (D×Bool)}(ho:OpR X (binaryOp op) r)(hs:OpS X.K (r2 r) g)(ha:JB X EX a x)(hb:JB X EX b y):JE X EX (.BinOp a op b pos) (sOp g [x,y]) :=
 ⟨(pe_op ho ha.p hb.p).by fun σ H Q ⟨F,ρ,W,R,h⟩=>dF hs R h⟩
theorem qP{op:CmpOp}{r:R2}{g:List D→Option (D×Bool)}(ho:OpR X (compareOp op) r)(hs:OpS X.K (r2 r) g)(ha:JB X EX a x)(hb:JB X EX b y)(hm:behindInMarks op b=false):JE X EX (.Compare a [op] [b] pos) (sOp g [x,y]) :=
 ⟨(yN ho ha.p hb.p hm).by fun σ H Q ⟨F,ρ,W,R,h⟩=>dF hs R h⟩
theorem c_ix{r:R2}{g:List D→Option (D×Bool)}(ho:IxR X r)(hs:OpS X.K (r2 r) g)(ha:JB X EX a x)(hb:JB X EX b y)(hp:ph b:=by exact fun _ _=>rfl):JE X EX (.Subscript a b pos) (sOp g [x,y]) :=
 ⟨(qf ho ha.p hb.p hp).by fun σ H Q ⟨F,ρ,W,R,h⟩=>dF hs R h⟩
theorem gU{id:String}{n:Str}{p:Pos}{r:List V→Hp→VK→Prop}{g:List D→Option (D×Bool)}(ho:aI X (.builtin id) r)(hs:OpS X.K r g)(hg:Gl X n)(hm:X.mg n=none)(hv:bootBuiltins n=some (.builtin id))(ha:JA X EX (e::es) as)(hn:n ≠ "__name__" := by decide)(hdb:(n == ("__debug__" : Str))=false:=by decide)
 (he:starEach (e::es) X.env=(false,eval e X.env)::starEach es X.env:=by rfl) (hpl:(backTo pos (starEach es X.env)).any (·.1)=false:=by rfl):JE X EX (.Call (.Name n p) (e::es) [] pos) (sOp g as) :=
 ⟨(qg ho hg hm hv ha.p hn hdb he hpl).by fun σ H Q ⟨F,ρ,W,R,h⟩=>dF hs R h⟩
theorem gJ{T:String}{n:Str}{p:Pos}{r:List V→Hp→VK→Prop}{g:List D→Option (D×Bool)}(ho:aI X (.type T) r)(hs:OpS X.K r g)(hg:Gl X n)(hm:X.mg n=none)(hv:bootBuiltins n=some (.type T))(ha:JA X EX (e::es) as)(hn:n ≠ "__name__" := by decide)(hdb:(n == ("__debug__" : Str))=false:=by decide)
 (he:starEach (e::es) X.env=(false,eval e X.env)::starEach es X.env:=by rfl) (hpl:(backTo pos (starEach es X.env)).any (·.1)=false:=by rfl):JE X EX (.Call (.Name n p) (e::es) [] pos) (sOp g as) :=
 ⟨(ux ho hg hm hv ha.p hn hdb he hpl).by fun σ H Q ⟨F,ρ,W,R,h⟩=>dF hs R h⟩
def b5(fs:List SE):SE:=fun ρ=>match evA (fs.map Arg.ex) ρ with
 | some (.ok ds,ρ')=>some (.ok (.tup ds) false,ρ')
 | some (.ex C,ρ')=>some (.ex C,ρ')
 | none=>none
def eh(fs:List SE):SE:=fun ρ=>match evA (fs.map Arg.ex) ρ with
 | some (.ok ds,ρ')=>some (.ok (.lst ds) true,ρ')
 | some (.ex C,ρ')=>some (.ex C,ρ')
 | none=>none
inductive JF(X:Cx)(EX:EXT):List Expr→List SE→Prop where
 | nil:JF X EX [] []
 | cons {e:Expr} {es:List Expr} {f:SE} {fs:List SE} (h:JE X EX e f) (t:JF X EX es fs) (hs:starEach (e::es) X.env=(false,eval e X.env)::starEach es X.env:=by rfl):JF X EX (e::es) (f::fs)
theorem JF.p{fs:List SE}(h:JF X EX es fs):PA X es (tAs X.K EX (fs.map Arg.ex)):=by
 induction h with
 | nil=>exact gw
 | cons h t hs ih=>exact ff h.p ih hs
theorem oY:∀ {fs:List SE} {ρ ρ':Rho} {ds:List D},evA (fs.map Arg.ex) ρ=some (.ok ds,ρ')→ds.length=fs.length
 | [],ρ,ρ',ds,h=>by
  have h:some (pd.ok [],ρ)=some (.ok ds,ρ'):=h;cases h;rfl
 | f::fs,ρ,ρ',ds,h=>by
  rw [List.map_cons] at h;unfold evA at h
  revert h
  cases f ρ with
  | none=>intro h;cases h
  | some r =>
   obtain ⟨r,ρ1⟩:=r
   cases r with
   | ex C=>intro h;cases h
   | ok d nw =>
    dsimp only
    cases e:evA (fs.map Arg.ex) ρ1 with
    | none=>intro h;cases h
    | some q =>
     obtain ⟨q,ρ2⟩:=q
     cases q with
     | ex C=>intro h;cases h
     | ok ds2=>intro h;cases h;rw [List.length_cons,List.length_cons,oY e]
theorem b9{fs:List SE}{x1}(h:JF X EX es fs)(hl:fs.length≤1000:=by decide):JE X EX (.Tuple es x1 pos) (b5 fs) :=
 ⟨(pe_tup h.p).by fun σ H Q ⟨F,ρ,W,R,h⟩=>by
   refine nA fs R ?_;unfold b5 at h
   revert h
   cases e:evA (fs.map Arg.ex) ρ with
   | none=>exact fun h=>h
   | some q =>
    obtain ⟨q,ρ2⟩:=q
    cases q with
    | ex C=>exact fun h=>h
    | ok ds =>
     intro h vs H2 W2 fr2 sub2 R2 reps
     have lv:vs.length≤1000:=by rw [← reps.len,oY e];exact hl
     refine ⟨Nat.le_of_lt (dj lv),fun p hp=>h _ _ W2 (fr2.trans ((aj.upd hp).fr (W:=W2)) fun p hp=> .inl (sub2 p hp)) sub2 ⟨⟨p,vs,rfl,?_,?_⟩,R2.same (aj.upd hp)⟩⟩
     ·rw [aQ (R2.fresh hp)];exact aD
     ·exact (aY (fun b hb=> .inl hb) fun b o _ e=>aj.upd hp b o e:aj (hid (W2++F.Z) H2) _).repDs reps⟩
theorem ft{fs:List SE}(h:JF X EX es fs)(hl:fs.length≤1000:=by decide):JE X EX (.List es pos) (eh fs) :=
 ⟨(wq h.p).by fun σ H Q ⟨F,ρ,W,R,h⟩=>by
   refine nA fs R ?_;unfold eh at h
   revert h
   cases e:evA (fs.map Arg.ex) ρ with
   | none=>exact fun h=>h
   | some q =>
    obtain ⟨q,ρ2⟩:=q
    cases q with
    | ex C=>exact fun h=>h
    | ok ds =>
     intro h vs H2 W2 fr2 sub2 R2 reps
     have lv:vs.length≤1000:=by rw [← reps.len,oY e];exact hl
     refine ⟨Nat.le_of_lt (dj lv),fun p hp=>h _ _ W2 (fr2.trans ((aj.upd hp).fr (W:=W2)) fun p hp=> .inl (sub2 p hp)) sub2 ?_⟩;refine f7.back (gN.e (nw:=true) ⟨p,rfl,hp,vs,aD,?_⟩ R2 (aj.upd hp)) fr2.dom
     exact (aY (fun b hb=>(List.mem_cons.mp hb).elim (fun z=> .inr (by rw [z];exact hp)) .inl) fun b o _ e=>aj.upd hp b o e:aj (hid (W2++F.Z) H2) _).repDs reps⟩
end
end L2
namespace L2
open PySem PySem.Spec PyProof.Rows
section
variable{K:PySem.W.Frag}{F:Fx}{EX:EXT}{σ:St}{H H1:Hp}{ρ ρ':Rho}{W W1:List Addr}{Q:VK}
theorem OkV.go{o:Option (Res×Rho)}(h:OkV K F EX σ H W o Q)(fr:Fr W H H1)(sub:∀ p∈W1,p∈W):OkV K F EX σ H1 W1 o Q:=by
 cases o with
 | none=>exact h
 | some r =>
  obtain ⟨r,ρ1⟩:=r
  cases r with
  | ex C=>exact fun H2 W2 f2 s2 R2=>h H2 W2 (fr.trans f2 fun p hp=> .inl (sub p hp)) (fun p hp=>sub p (s2 p hp)) R2
  | ok d nw=>exact fun v H2 W2 f2 s2 P2=>h v H2 W2 (fr.trans f2 fun p hp=> .inl (sub p hp)) (fun p hp=>sub p (s2 p hp)) (P2.back fr.dom)
theorem OkT.go{o:Option (vv×Rho)}{Q:Bool→Hp→Prop}(h:OkT K F EX σ H W o Q)(fr:Fr W H H1)(sub:∀ p∈W1,p∈W):OkT K F EX σ H1 W1 o Q:=by
 cases o with
 | none=>exact h
 | some r =>
  obtain ⟨r,ρ1⟩:=r
  cases r with
  | ex C=>exact fun H2 W2 f2 s2 R2=>h H2 W2 (fr.trans f2 fun p hp=> .inl (sub p hp)) (fun p hp=>sub p (s2 p hp)) R2
  | ok d=>exact fun H2 W2 f2 s2 P2=>h H2 W2 (fr.trans f2 fun p hp=> .inl (sub p hp)) (fun p hp=>sub p (s2 p hp)) P2
end
def aX(g:List D→Option (D×Bool))(as:List Arg):ST:=fun ρ=>match sOp g as ρ with
 | some (.ok (.bl b) _,ρ')=>some (.ok b,ρ')
 | some (.ok _ _,_)=>none
 | some (.ex C,ρ')=>some (.ex C,ρ')
 | none=>none
theorem Aw {K:PySem.W.Frag} {F:Fx} {EX:EXT} {σ:St} {H:Hp} {ρ:Rho} {W:List Addr} {f:SE} {Q:Bool→Hp→Prop} (h:OkT K F EX σ H W (match f ρ with
 | some (.ok (.bl b) _,ρ')=>some (.ok b,ρ')
 | some (.ok _ _,_)=>none
 | some (.ex C,ρ')=>some (.ex C,ρ')
 | none=>none) Q):OkV K F EX σ H W (f ρ) fun x H'=>∃ k,x = .bl k∧Q k H':=by
 revert h
 cases f ρ with
 | none=>exact fun h=>h
 | some r =>
  obtain ⟨r,ρ1⟩:=r
  cases r with
  | ex C=>exact fun h=>h
  | ok d nw =>
   cases d<;>first
    | exact fun h=>h.elim
    | exact fun h v H' W' fr sub post=>⟨_,post.plain.1,h H' W' fr sub post.plain.2⟩
def sBl(f:SE):ST:=fun ρ=>match f ρ with
 | some (.ok (.bl b) _,ρ')=>some (.ok b,ρ')
 | some (.ok _ _,_)=>none
 | some (.ex C,ρ')=>some (.ex C,ρ')
 | none=>none
def ku:D→Option Bool
 | .non=>some false
 | .bl b=>some b
 | .int i=>some (i != 0)
 | .lst ds=>some (!ds.isEmpty)
 | .tup ds=>some (!ds.isEmpty)
 | .dK ks _=>some (!ks.isEmpty)
 | _=>none
def dq(a:Arg):ST:=fun ρ=>match evA [a] ρ with
 | some (.ok [d],ρ')=>match ku d with
  | some b=>some (.ok b,ρ')
  | none=>none
 | some (.ok _,_)=>none
 | some (.ex C,ρ')=>some (.ex C,ρ')
 | none=>none
def iV(f g:ST):ST:=fun ρ=>match f ρ with
 | some (.ok true,ρ1)=>g ρ1
 | some (.ok false,ρ1)=>some (.ok false,ρ1)
 | some (.ex C,ρ')=>some (.ex C,ρ')
 | none=>none
def sOr(f g:ST):ST:=fun ρ=>match f ρ with
 | some (.ok false,ρ1)=>g ρ1
 | some (.ok true,ρ1)=>some (.ok true,ρ1)
 | some (.ex C,ρ')=>some (.ex C,ρ')
 | none=>none
def dZ(f:ST):ST:=fun ρ=>match f ρ with
 | some (.ok b,ρ1)=>some (.ok (!b),ρ1)
 | some (.ex C,ρ')=>some (.ex C,ρ')
 | none=>none
def sIf(c:ST)(f g:SE):SE:=fun ρ=>match c ρ with
 | some (.ok true,ρ1)=>f ρ1
 | some (.ok false,ρ1)=>g ρ1
 | some (.ex C,ρ')=>some (.ex C,ρ')
 | none=>none
def cf(f g:SE):SE:=fun ρ=>match f ρ with
 | some (.ok (.bl true) _,ρ1)=>g ρ1
 | some (.ok (.bl false) _,ρ1)=>some (.ok (.bl false) false,ρ1)
 | some (.ok _ _,_)=>none
 | some (.ex C,ρ')=>some (.ex C,ρ')
 | none=>none
def iU(f g:SE):SE:=fun ρ=>match f ρ with
 | some (.ok (.bl false) _,ρ1)=>g ρ1
 | some (.ok (.bl true) _,ρ1)=>some (.ok (.bl true) false,ρ1)
 | some (.ok _ _,_)=>none
 | some (.ex C,ρ')=>some (.ex C,ρ')
 | none=>none
def fW(f:SE):SE:=fun ρ=>match f ρ with
 | some (.ok (.bl b) _,ρ1)=>some (.ok (.bl (!b)) false,ρ1)
 | some (.ok _ _,_)=>none
 | some (.ex C,ρ')=>some (.ex C,ρ')
 | none=>none
section
variable{X:Cx}{EX:EXT}{a b c e:Expr}{rest es:List Expr}{pos:Pos}{x y z:Arg}{as:List Arg}
theorem lw{op:CmpOp}{r:R2}{g:List D→Option (D×Bool)}(ho:OpR X (compareOp op) r)(hs:OpS X.K (r2 r) g)(ha:JB X EX a x)(hb:JB X EX b y)(hm:behindInMarks op b=false):JT X EX (.Compare a [op] [b] pos) (aX g [x,y]) :=
 ⟨(yE ho ha.p hb.p hm).by fun σ H Q ⟨F,ρ,W,R,h⟩=>dF hs R (Aw h)⟩
theorem tru_of{K:PySem.W.Frag}{H Hh:Hp}{d:D}{v:V}{k:Bool}(r:f9 K H Hh d v)(s:aj Hh H)(e:ku d=some k):zN K v H k:=by
 cases d<;>simp only [ku] at e<;>first
  | cases e;done
  | (cases e;cases r;first | rfl | trivial)
  | skip
 ·obtain ⟨p,xs,rfl,h1,h2⟩:=r
  cases e;exact .inr (.inl ⟨xs,.inl (.inl (s _ _ h1)),by have:=h2.len;cases xs<;>cases ‹List D› <;> simp_all⟩)
 ·obtain ⟨p,xs,rfl,h1,h2⟩:=r
  cases e;exact .inl ⟨xs,.inl (.inl h1),by have:=h2.len;cases xs<;>cases ‹List D› <;> simp_all⟩
 ·obtain ⟨p,xs,rfl,h1,h2,h3⟩:=r
  cases e;refine .inr (.inr ⟨_,h1,?_⟩);rename_i ks vs;cases ks<;>cases xs<;>simp_all
theorem dL(ha:JB X EX e x)(he:∀ whole,isTrue e X.env whole=(do let v ← whole;standAt e.pos;holding [v] (truthy v)):=by intro _;rfl):JT X EX e (dq x) :=
 ⟨(we ha.p he).by fun σ H Q ⟨F,ρ,W,R,h⟩=>by
   have z:tAs X.K EX [x] σ H (fun vs H2=>match vs with | [v]=>∃ k,zN X.K v H2 k∧Q k H2 | _=>False):=by
    refine nP [x] R ?_;unfold dq at h
    revert h
    cases evA [x] ρ with
    | none=>exact fun h=>h
    | some q =>
     obtain ⟨q,ρ2⟩:=q
     cases q with
     | ex C=>exact fun h=>h
     | ok ds =>
      match ds with
      | []=>exact fun h=>h.elim
      | _::_::_=>exact fun h=>h.elim
      | [d] =>
       dsimp only
       cases e:ku d with
       | none=>exact fun h=>h.elim
       | some k =>
        intro h vs H2 W2 fr2 sub2 R2 reps
        match vs,reps with
        | [v],reps=>exact ⟨k,tru_of reps.1 aC e,h H2 W2 fr2 sub2 R2⟩
   exact z⟩
theorem JW.t{f:ST}(h:JW X EX e f):JT X EX e f:=⟨h.p.pt⟩
theorem vx{f:ST}(h:JT X EX a f):JW X EX (.BoolOp .And [a] pos) f:=⟨yA h.p⟩
theorem fD{f:ST}(h:JT X EX a f):JW X EX (.BoolOp .Or [a] pos) f:=⟨pw_or1 h.p⟩
theorem zP{f g:ST}(ha:JT X EX a f)(hb:JW X EX (.BoolOp .And (b::rest) pos) g):JW X EX (.BoolOp .And (a::b::rest) pos) (iV f g) :=
 ⟨fun wh pins s σ H Q I ⟨F,ρ,W,R,h⟩=>pw_and ha.p hb.p wh pins s σ H Q I ⟨F,ρ,W,R,by
  unfold iV at h
  revert h
  cases f ρ with
  | none=>exact fun h=>h
  | some q =>
   obtain ⟨q,ρ2⟩:=q
   cases q with
   | ex C=>exact fun h=>h
   | ok k =>
    cases k with
    | true=>exact fun h H2 W2 fr2 sub2 R2=>⟨F,ρ2,W2,R2,OkT.go h fr2 sub2⟩
    | false=>exact fun h=>h⟩⟩
theorem f8{f g:ST}(ha:JT X EX a f)(hb:JW X EX (.BoolOp .Or (b::rest) pos) g):JW X EX (.BoolOp .Or (a::b::rest) pos) (sOr f g) :=
 ⟨fun wh pins s σ H Q I ⟨F,ρ,W,R,h⟩=>pw_or ha.p hb.p wh pins s σ H Q I ⟨F,ρ,W,R,by
  unfold sOr at h
  revert h
  cases f ρ with
  | none=>exact fun h=>h
  | some q =>
   obtain ⟨q,ρ2⟩:=q
   cases q with
   | ex C=>exact fun h=>h
   | ok k =>
    cases k with
    | false=>exact fun h H2 W2 fr2 sub2 R2=>⟨F,ρ2,W2,R2,OkT.go h fr2 sub2⟩
    | true=>exact fun h=>h⟩⟩
theorem fj{f:ST}(h:JT X EX a f):JT X EX (.UnaryOp .Not a pos) (dZ f) :=
 ⟨(pt_not h.p).by fun σ H Q ⟨F,ρ,W,R,h⟩=>⟨F,ρ,W,R,by
   unfold dZ at h
   revert h
   cases f ρ with
   | none=>exact fun h=>h
   | some q =>
    obtain ⟨q,ρ2⟩:=q
    cases q with
    | ex C=>exact fun h=>h
    | ok k=>exact fun h=>h⟩⟩
theorem c_if{t:ST}{f g:SE}(hc:JT X EX c t)(ha:JE X EX a f)(hb:JE X EX b g):JE X EX (.IfExp c a b pos) (sIf t f g) :=
 ⟨(wr hc.p ha.p hb.p).by fun σ H Q ⟨F,ρ,W,R,h⟩=>⟨F,ρ,W,R,by
   unfold sIf at h
   revert h
   cases t ρ with
   | none=>exact fun h=>h
   | some q =>
    obtain ⟨q,ρ2⟩:=q
    cases q with
    | ex C=>exact fun h=>h
    | ok k =>
     cases k with
     | true=>exact fun h H2 W2 fr2 sub2 R2=>⟨F,ρ2,W2,R2,OkV.go h fr2 sub2⟩
     | false=>exact fun h H2 W2 fr2 sub2 R2=>⟨F,ρ2,W2,R2,OkV.go h fr2 sub2⟩⟩⟩
theorem fZ{op}{f:SE}(h:JE X EX a f):JE X EX (.BoolOp op [a] pos) f:=⟨pe_one h.p⟩
theorem f6{f g:SE}(ha:JE X EX a f)(hb:JE X EX (.BoolOp .And (b::rest) pos) g):JE X EX (.BoolOp .And (a::b::rest) pos) (cf f g) :=
 ⟨(pe_and ha.p hb.p).by fun σ H Q ⟨F,ρ,W,R,h⟩=>⟨F,ρ,W,R,by
   unfold cf at h
   revert h
   cases f ρ with
   | none=>exact fun h=>h
   | some q =>
    obtain ⟨q,ρ2⟩:=q
    cases q with
    | ex C=>exact fun h=>h
    | ok d nw =>
     cases d<;>first | exact fun h=>h.elim | skip
     rename_i k
     cases k with
     | true=>exact fun h v H2 W2 fr2 sub2 P2=>⟨true,P2.plain.1,F,ρ2,W2,P2.plain.2,OkV.go h fr2 sub2⟩
     | false=>exact fun h v H2 W2 fr2 sub2 P2=>⟨false,P2.plain.1,h (.bl false) H2 W2 fr2 sub2 ⟨rfl,P2.plain.2⟩⟩⟩⟩
theorem c_or{f g:SE}(ha:JE X EX a f)(hb:JE X EX (.BoolOp .Or (b::rest) pos) g):JE X EX (.BoolOp .Or (a::b::rest) pos) (iU f g) :=
 ⟨(pe_or ha.p hb.p).by fun σ H Q ⟨F,ρ,W,R,h⟩=>⟨F,ρ,W,R,by
   unfold iU at h
   revert h
   cases f ρ with
   | none=>exact fun h=>h
   | some q =>
    obtain ⟨q,ρ2⟩:=q
    cases q with
    | ex C=>exact fun h=>h
    | ok d nw =>
     cases d<;>first | exact fun h=>h.elim | skip
     rename_i k
     cases k with
     | false=>exact fun h v H2 W2 fr2 sub2 P2=>⟨false,P2.plain.1,F,ρ2,W2,P2.plain.2,OkV.go h fr2 sub2⟩
     | true=>exact fun h v H2 W2 fr2 sub2 P2=>⟨true,P2.plain.1,h (.bl true) H2 W2 fr2 sub2 ⟨rfl,P2.plain.2⟩⟩⟩⟩
theorem As{f:SE}(ha:JE X EX a f):JE X EX (.UnaryOp .Not a pos) (fW f) :=
 ⟨(pe_not ha.p).by fun σ H Q ⟨F,ρ,W,R,h⟩=>⟨F,ρ,W,R,by
   unfold fW at h
   revert h
   cases f ρ with
   | none=>exact fun h=>h
   | some q =>
    obtain ⟨q,ρ2⟩:=q
    cases q with
    | ex C=>exact fun h=>h
    | ok d nw =>
     cases d<;>first | exact fun h=>h.elim | skip
     exact fun h v H2 W2 fr2 sub2 P2=>⟨_,P2.plain.1,h _ H2 W2 fr2 sub2 ⟨rfl,P2.plain.2⟩⟩⟩⟩
abbrev RSl:=V→Option Int→Option Int→Hp→VK→Prop
def rS10(r:RSl):List V→Hp→VK→Prop
 | [x,y],H,Q=>∃ i,y = .int i∧r x (some i) none H Q
 | _,_,_=>False
theorem c_sl10{p2:Pos}{r:RSl}{g:List D→Option (D×Bool)}(ho:SlR X r)(hs:OpS X.K (rS10 r) g)(ha:JB X EX a x)(hb:JB X EX b y):JE X EX (.Subscript a (.Slice (some b) none none p2) pos) (sOp g [x,y]) :=
 ⟨(wp ho ha.p (yH hb.p) yI).by fun σ H Q ⟨F,ρ,W,R,h⟩=>dF hs R h⟩
end
end L2
namespace L2
open PySem PySem.Spec PyProof.Rows
theorem PS.by{X:Cx}{e:Stmt}{t t':TS}(h:PS X e t)(hi:∀ D σ H,t' D σ H→t D σ H):PS X e t':=fun pins s σ H D I hw=>h pins s σ H D I (hi D σ H hw)
theorem PSs.by{X:Cx}{e:List Stmt}{t t':TS}(h:PSs X e t)(hi:∀ D σ H,t' D σ H→t D σ H):PSs X e t':=fun pins s σ H D I hw=>h pins s σ H D I (hi D σ H hw)
inductive Out where
 | nx | rt (d:D) (nw:Bool) | ex (C:Str) | bk | ct
abbrev SS:=Rho→Option (Out×Rho)
section
variable(K:PySem.W.Frag)(F:Fx)(EX:EXT)(σ:St)(H:Hp)(W:List Addr)
def qU(σ':St)(H':Hp)(ρ':Rho)(W':List Addr)(d:D):Bool→V→Prop
 | false,v=>aH K (hid (W'++F.Z) H') d v∧Rel K F σ' H' ρ' W'
 | true,v=>∃ p,v = .ref p∧(p∈W∨H p=none)∧p∉W'++F.Z∧aT K H' (hid (p::(W'++F.Z)) H') p d∧Rel K F σ' (hid [p] H') ρ' W'
def OkS(o:Option (Out×Rho))(D:lV):Prop:=match o with
 | some (.nx,ρ')=>∀ σ' H' W',Fr W H H'→(∀ p∈W',p∈W∨H p=none)→Rel K F σ' H' ρ' W'→D.nx σ' H'
 | some (.bk,ρ')=>∀ σ' H' W',Fr W H H'→(∀ p∈W',p∈W∨H p=none)→Rel K F σ' H' ρ' W'→D.bk σ' H'
 | some (.ct,ρ')=>∀ σ' H' W',Fr W H H'→(∀ p∈W',p∈W∨H p=none)→Rel K F σ' H' ρ' W'→D.ct σ' H'
 | some (.ex C,ρ')=>∀ σ' H' W',Fr W H H'→(∀ p∈W',p∈W∨H p=none)→Rel K F σ' H' ρ' W'→EX C σ' H'
 | some (.rt d nw,ρ')=>∀ σ' v H' W',Fr W H H'→(∀ p∈W',p∈W∨H p=none)→qU K F H W σ' H' ρ' W' d nw v→D.rt v H'
 | none=>False
end
def tVS(K:PySem.W.Frag)(EX:EXT)(f:SS):TS:=fun D σ H=>∃ F ρ W,Rel K F σ H ρ W∧OkS K F EX H W (f ρ) D
structure JS(X:Cx)(EX:EXT)(e:Stmt)(f:SS):Prop where
 p:PS X e (tVS X.K EX f)
structure JSs(X:Cx)(EX:EXT)(e:List Stmt)(f:SS):Prop where
 p:PSs X e (tVS X.K EX f)
section
variable{K:PySem.W.Frag}{F:Fx}{EX:EXT}{σ σ1:St}{H H1:Hp}{ρ ρ':Rho}{W W1:List Addr}{D:lV}
theorem qU.back{σ':St}{H':Hp}{ρ':Rho}{W':List Addr}{d:L2.D}{nw:Bool}{v:V}(h:qU K F H1 W1 σ' H' ρ' W' d nw v)(fr:∀ b,H1 b=none→H b=none)(sub:∀ p∈W1,p∈W∨H p=none):qU K F H W σ' H' ρ' W' d nw v:=by
 cases nw with
 | false=>exact h
 | true=>obtain ⟨p,h1,h2,h3⟩:=h;exact ⟨p,h1,h2.elim (sub p) fun z=> .inr (fr p z),h3⟩
theorem OkS.go{o:Option (Out×Rho)}(h:OkS K F EX H W o D)(fr:Fr W H H1)(sub:∀ p∈W1,p∈W∨H p=none):OkS K F EX H1 W1 o D:=by
 have sub2:∀ {W2:List Addr},(∀ p∈W2,p∈W1∨H1 p=none)→∀ p∈W2,p∈W∨H p=none:=fun {W2} s2 p hp=>(s2 p hp).elim (sub p) fun z=> .inr (fr.dom p z)
 cases o with
 | none=>exact h
 | some r =>
  obtain ⟨r,ρ1⟩:=r
  cases r with
  | ex C=>exact fun σ2 H2 W2 f2 s2 R2=>h σ2 H2 W2 (fr.trans f2 sub) (sub2 s2) R2
  | nx=>exact fun σ2 H2 W2 f2 s2 R2=>h σ2 H2 W2 (fr.trans f2 sub) (sub2 s2) R2
  | bk=>exact fun σ2 H2 W2 f2 s2 R2=>h σ2 H2 W2 (fr.trans f2 sub) (sub2 s2) R2
  | ct=>exact fun σ2 H2 W2 f2 s2 R2=>h σ2 H2 W2 (fr.trans f2 sub) (sub2 s2) R2
  | rt d nw=>exact fun σ2 v H2 W2 f2 s2 P2=>h σ2 v H2 W2 (fr.trans f2 sub) (sub2 s2) (P2.back fr.dom sub)
theorem f7.r{H':Hp}{ρ':Rho}{W':List Addr}{d:L2.D}{nw:Bool}{v:V}(h:f7 K F σ H H' ρ' W' d nw v):qU K F H W σ H' ρ' W' d nw v:=by
 cases nw with
 | false=>exact h
 | true=>obtain ⟨p,h1,h2,h3⟩:=h;exact ⟨p,h1,.inr h2,h3⟩
end
def bA:SS:=fun ρ=>some (.nx,ρ)
def az(f g:SS):SS:=fun ρ=>match f ρ with
 | some (.nx,ρ1)=>g ρ1
 | r=>r
def bF(i:Nat)(f:SE):SS:=fun ρ=>match f ρ with
 | some (.ok d nw,ρ')=>match ρ'[i]? with
  | some _=>some (.nx,ρ'.set i (some (d,if nw then .ow else .fz)))
  | none=>none
 | some (.ex C,ρ')=>some (.ex C,ρ')
 | none=>none
def aK(f:SE):SS:=fun ρ=>match f ρ with
 | some (.ok d nw,ρ')=>some (.rt d nw,ρ')
 | some (.ex C,ρ')=>some (.ex C,ρ')
 | none=>none
def mS:SS:=fun ρ=>some (.rt .non false,ρ)
def cv(f:SE):SS:=fun ρ=>match f ρ with
 | some (.ok _ _,ρ')=>some (.nx,ρ')
 | some (.ex C,ρ')=>some (.ex C,ρ')
 | none=>none
def bn(c:ST)(f g:SS):SS:=fun ρ=>match c ρ with
 | some (.ok true,ρ1)=>f ρ1
 | some (.ok false,ρ1)=>g ρ1
 | some (.ex C,ρ')=>some (.ex C,ρ')
 | none=>none
def dI(i:Nat):SS:=fun ρ=>match ρ[i]? with
 | some (some (d,.fz))=>some (.rt d false,ρ)
 | some (some (d,.ow))=>some (.rt d true,ρ.set i none)
 | _=>none
theorem Rel.move{K:PySem.W.Frag}{F:Fx}{σ:St}{H:Hp}{ρ:Rho}{W:List Addr}(R:Rel K F σ H ρ W){i:Nat}{d:D}{p:Addr}(h:ρ[i]?=some (some (d,.ow)))(hp:σ[i]?=some (some (.ref p))) :
 Rel K F σ (hid [p] H) (ρ.set i none) (W.filter fun a=>decide (a≠p))∧p∈W∧p∉(W.filter fun a=>decide (a≠p))++F.Z∧aT K H (hid (p::((W.filter fun a=>decide (a≠p))++F.Z)) H) p d:=by
 obtain ⟨v,hv,q,rfl,hq,hO⟩:=R.slot i d .ow h;rw [hp] at hv;cases hv
 have sub:∀ b,b∈W.filter (fun a=>decide (a≠p))→b∈W∧b≠p:=fun b hb=>by
  have:=List.mem_filter.mp hb;exact ⟨this.1,of_decide_eq_true this.2⟩
 have pn:p∉(W.filter fun a=>decide (a≠p))++F.Z:=fun z=>by
  rcases List.mem_append.mp z with q | q
  ·exact (sub p q).2 rfl
  ·exact R.wz p hq q
 have sh:aj (hid (W++F.Z) H) (hid ((W.filter fun a=>decide (a≠p))++F.Z) (hid [p] H)):=fun b o e=>by
  obtain ⟨h1,h2⟩:=ay e
  have bp:b≠p:=fun z=>h1 (List.mem_append_left _ (z ▸ hq))
  rw [aQ (fun z=>h1 (by
   rcases List.mem_append.mp z with q | q
   ·exact List.mem_append_left _ (sub b q).1
   ·exact List.mem_append_right _ q)),aQ (by simpa using bp)]
  exact h2
 have sh2:aj (hid (W++F.Z) H) (hid (p::((W.filter fun a=>decide (a≠p))++F.Z)) H):=fun b o e=>by
  obtain ⟨h1,h2⟩:=ay e
  have bp:b≠p:=fun z=>h1 (List.mem_append_left _ (z ▸ hq))
  rw [aQ (fun z=>by
   rcases List.mem_cons.mp z with q | q
   ·exact bp q
   ·rcases List.mem_append.mp q with q | q
    ·exact h1 (List.mem_append_left _ (sub b q).1)
    ·exact h1 (List.mem_append_right _ q))]
  exact h2
 have neq:∀ r,r≠p→hid [p] H r=H r:=fun r hr=>aQ (by simpa using hr)
 refine ⟨⟨fun j e m hj=> ?_,fun j k e f m n r h1 h2 h3 h4 h5 h6=> ?_,fun r hr=>R.wz r (sub r hr).1,fun r hr=> ?_,by rw [List.length_set];exact R.len⟩,hq,pn,hO.at rfl sh2⟩
 ·rcases bE hj with ⟨rfl,e1⟩ | ⟨ne,e1⟩
  ·cases e1
  ·obtain ⟨v,g1,g2⟩:=R.slot j e m e1
   refine ⟨v,g1,?_⟩
   have other:∀ r,v = .ref r→m ≠ .fz→r≠p:=fun r er hm z=>by
    subst er z;exact ne (R.apart j i _ _ _ _ _ e1 hm h (by decide) g1 hp)
   cases m with
   | fz=>exact sh.repD g2
   | ow=>obtain ⟨r,e2,e3,e4⟩:=g2;exact ⟨r,e2,List.mem_filter.mpr ⟨e3,decide_eq_true (other r e2 (by decide))⟩,e4.at (neq r (other r e2 (by decide))) sh⟩
   | io=>obtain ⟨r,e2,e3,e4,e5⟩:=g2;exact ⟨r,e2,List.mem_filter.mpr ⟨e3,decide_eq_true (other r e2 (by decide))⟩,e4.at (neq r (other r e2 (by decide))) sh,e5⟩
 ·rcases bE h1 with ⟨rfl,z⟩ | ⟨_,z⟩
  ·cases z
  ·rcases bE h3 with ⟨rfl,z'⟩ | ⟨_,z'⟩
   ·cases z'
   ·exact R.apart j k _ _ _ _ _ z h2 z' h4 h5 h6
 ·have rp:r≠p:=fun z=>by subst z;exact pn hr
  rw [neq r rp]
  rcases List.mem_append.mp hr with q | q
  ·exact R.mt r (List.mem_append_left _ (sub r q).1)
  ·exact R.mt r (List.mem_append_right _ q)
inductive Tg where
 | nm (i:Nat) | tp (ts:List Tg)
mutual
def bZ:Tg→D→Rho→Option Rho
 | .nm i,d,ρ=>match ρ[i]? with
  | some _=>some (ρ.set i (some (d,.fz)))
  | none=>none
 | .tp ts,.tup ds,ρ=>cI ts ds ρ
 | .tp ts,.ktup ds,ρ=>cI ts ds ρ
 | .tp _,_,_=>none
def cI:List Tg→List D→Rho→Option Rho
 | [],[],ρ=>some ρ
 | t::ts,d::ds,ρ=>match bZ t d ρ with
  | some ρ1=>cI ts ds ρ1
  | none=>none
 | _,_,_=>none
end
mutual
def gT(K:PySem.W.Frag):Tg→TG
 | .nm i=>tQ i
 | .tp ts=>gTup K ts.length (gTs K ts)
def gTs(K:PySem.W.Frag):List Tg→TGs
 | []=>gNil
 | t::ts=>Ap (gT K t) (gTs K ts)
end
mutual
def Tg.ge(n:Nat):Tg→Bool
 | .nm i=>decide (n≤i)
 | .tp ts=>Tg.geL n ts
def Tg.geL(n:Nat):List Tg→Bool
 | []=>true
 | t::ts=>Tg.ge n t&&Tg.geL n ts
end
section
variable{K:PySem.W.Frag}{F:Fx}{EX:EXT}{H:Hp}{W:List Addr}{Q:St→Hp→Prop}{n:Nat}
theorem fh{H:Hp}{p:Addr}{xs:List V}(h:SqT K (fun _=>none) p xs):SqT K H p xs:=by
 rcases h with (h | ⟨o,h⟩) | h
 ·cases h
 ·cases h
 ·exact .inr h
theorem nO:∀ {ts:List Tg} {ds:List D} {ρ ρ':Rho},cI ts ds ρ=some ρ'→ds.length=ts.length
 | [],[],_,_,_=>rfl
 | [],_::_,_,_,h=>by unfold cI at h;cases h
 | _::_,[],_,_,h=>by unfold cI at h;cases h
 | t::ts,d::ds,ρ,ρ',h=>by
  unfold cI at h
  cases e:bZ t d ρ with
  | none=>rw [e] at h;cases h
  | some ρ1=>rw [e] at h;rw [List.length_cons,List.length_cons,nO h]
mutual
theorem tP:∀ (T:Tg) {d:D} {v:V} {σ:St} {ρ ρ':Rho} {Q:St→Hp→Prop},Rel K F σ H ρ W→aH K (hid (W++F.Z) H) d v→bZ T d ρ=some ρ'→(∀ σ',(Tg.ge n T=true→σ'.take n=σ.take n)→Rel K F σ' H ρ' W→Q σ' H)→gT K T v σ H Q
 | .nm i,d,v,σ,ρ,ρ',Q,R,r,e,q=>by
  unfold bZ at e;unfold gT
  cases h:ρ[i]? with
  | none=>rw [h] at e;cases e
  | some z =>
   rw [h] at e;cases e
   have hi:i < σ.length:=by rw [R.len];exact (List.getElem?_eq_some_iff.mp h).1
   refine q _ (fun hg=> ?_) (R.put hi r);unfold Tg.ge at hg;exact List.take_set_of_le (of_decide_eq_true hg)
 | .tp ts,d,v,σ,ρ,ρ',Q,R,r,e,q=>by
  unfold gT
  have two:∀ ds p xs,v = .ref p→SqT K H p xs→ao K (hid (W++F.Z) H) ds xs→cI ts ds ρ=some ρ'→gTup K ts.length (gTs K ts) v σ H Q:=fun ds p xs e1 e2 e3 e4 =>
   ⟨p,xs,e1,e2,by rw [← e3.len];exact nO e4,xa ts R e3 e4 fun σ' h1 h2=>q σ' (fun hg=>h1 (by unfold Tg.ge at hg;exact hg)) h2⟩
  cases d<;>first
   | (unfold bZ at e;cases e;done)
   | (obtain ⟨p,xs,e1,e2,e3⟩:=r;unfold bZ at e;exact two _ p xs e1 (.inl (.inl (ay e2).2)) e3 e)
   | (obtain ⟨p,xs,e1,e2,e3⟩:=r;unfold bZ at e;exact two _ p xs e1 (fh e2) e3 e)
theorem xa:∀ (ts:List Tg) {ds:List D} {vs:List V} {σ:St} {ρ ρ':Rho} {Q:St→Hp→Prop},Rel K F σ H ρ W→ao K (hid (W++F.Z) H) ds vs→cI ts ds ρ=some ρ'→(∀ σ',(Tg.geL n ts=true→σ'.take n=σ.take n)→Rel K F σ' H ρ' W→Q σ' H)→gTs K ts vs σ H Q
 | [],ds,vs,σ,ρ,ρ',Q,R,r,e,q=>by
  unfold gTs
  cases ds with
  | cons _ _=>unfold cI at e;cases e
  | nil =>
   unfold cI at e;cases e
   cases vs with
   | cons _ _=>exact r.elim
   | nil=>exact ⟨rfl,q σ (fun _=>rfl) R⟩
 | t::ts,ds,vs,σ,ρ,ρ',Q,R,r,e,q=>by
  unfold gTs
  cases ds with
  | nil=>unfold cI at e;cases e
  | cons d ds =>
   cases vs with
   | nil=>exact r.elim
   | cons v vs =>
    unfold cI at e
    cases h:bZ t d ρ with
    | none=>rw [h] at e;cases e
    | some ρ1 =>
     rw [h] at e;refine ⟨v,vs,rfl,tP t R r.1 h fun σ1 h1 R1=>xa ts R1 r.2 e fun σ2 h2 R2=>q σ2 (fun hg=> ?_) R2⟩;unfold Tg.geL at hg;have:=(Bool.and_eq_true _ _).mp hg;exact (h2 this.2).trans (h1 this.1)
end
end
structure JG(X:Cx)(e:Expr)(T:Tg):Prop where
 p:PG X e (gT X.K T)
structure JGs(X:Cx)(es:List Expr)(ts:List Tg):Prop where
 p:PGs X es (gTs X.K ts)
def j5(T:Tg)(f:SE):SS:=fun ρ=>match f ρ with
 | some (.ok d _,ρ')=>match bZ T d ρ' with
  | some ρ2=>some (.nx,ρ2)
  | none=>none
 | some (.ex C,ρ')=>some (.ex C,ρ')
 | none=>none
def ia(i:Nat)(op:Int→Int→Int)(f:SE):SS:=fun ρ=>match ρ[i]? with
 | some (some (.int a,.fz))=>match f ρ with
  | some (.ok (.int b) _,ρ')=>match ρ'[i]? with
   | some _=>some (.nx,ρ'.set i (some (.int (op a b),.fz)))
   | none=>none
  | some (.ok _ _,_)=>none
  | some (.ex C,ρ')=>some (.ex C,ρ')
  | none=>none
 | _=>none
section
variable{X:Cx}{EX:EXT}{a b c e:Expr}{es:List Expr}{st:Stmt}{rest:List Stmt}{pos:Pos}
theorem a9:JSs X EX [] bA:=⟨yF.by fun D σ H ⟨F,ρ,W,R,h⟩=>h σ H W .refl (fun _ z=> .inl z) R⟩
theorem ah{f g:SS}(h1:JS X EX st f)(h2:JSs X EX rest g):JSs X EX (st::rest) (az f g) :=
 ⟨(iY h1.p h2.p).by fun D σ H ⟨F,ρ,W,R,h⟩=>⟨F,ρ,W,R,by
   unfold az at h
   revert h
   cases f ρ with
   | none=>exact fun h=>h
   | some q =>
    obtain ⟨q,ρ2⟩:=q
    cases q with
    | nx=>exact fun h σ2 H2 W2 fr2 sub2 R2=>⟨F,ρ2,W2,R2,OkS.go h fr2 sub2⟩
    | _=>exact fun h=>h⟩⟩
theorem am{f:SS}(h:JS X EX st f):JSs X EX [st] f:=⟨oC h.p⟩
theorem set_ok{K:PySem.W.Frag}{F:Fx}{σ:St}{H H':Hp}{ρ':Rho}{W':List Addr}{d:D}{nw:Bool}{v:V}{i:Nat}(P:f7 K F σ H H' ρ' W' d nw v)(hi:i < ρ'.length) :
 ∃ W2,(∀ p∈W2,p∈W'∨H p=none)∧Rel K F (σ.set i (some v)) H' (ρ'.set i (some (d,if nw then .ow else .fz))) W2:=by
 cases nw with
 | false=>exact ⟨W',fun p hp=> .inl hp,P.2.put (by rw [P.2.len];exact hi) P.1⟩
 | true =>
  obtain ⟨p,rfl,hp,hn,hO,R⟩:=P;exact ⟨p::W',fun q hq=>(List.mem_cons.mp hq).elim (fun z=> .inr (by rw [z];exact hp)) .inl,R.own (by rw [R.len];exact hi) hn hO⟩
theorem asg_of{i:Nat}{f:SE}{D:lV}{σ:St}{H:Hp}(h:tVS X.K EX (bF i f) D σ H):tV X.K EX f σ H fun x H1=>D.nx (σ.set i (some x)) H1:=by
 obtain ⟨F,ρ,W,R,h⟩:=h;refine ⟨F,ρ,W,R,?_⟩;unfold bF at h
 revert h
 cases f ρ with
 | none=>exact fun h=>h
 | some q =>
  obtain ⟨q,ρ2⟩:=q
  cases q with
  | ex C=>exact fun h H2 W2 fr2 sub2 R2=>h σ H2 W2 fr2 (fun p hp=> .inl (sub2 p hp)) R2
  | ok d nw =>
   dsimp only
   cases e:ρ2[i]? with
   | none=>exact fun h=>h.elim
   | some z =>
    intro h v H2 W2 fr2 sub2 P2;obtain ⟨W3,s3,R3⟩:=set_ok P2 (List.getElem?_eq_some_iff.mp e).1;exact h _ H2 W3 fr2 (fun p hp=>(s3 p hp).imp (sub2 p) id) R3
theorem br{i:Nat}{x:Str}{f:SE}{pos':Pos}(hN:X.N.Nodup)(hi:X.N[i]?=some x)(hx:Loc X.env.scope x)(he:JE X EX e f)(hs:swapsWith e (some (.Name x pos')) pos.line X.env=pure false:=by rfl)(hf:X.fn x=true∨X.env.scope.names.lookup x=some .local:=by first | exact .inl rfl | exact .inr rfl | assumption) :
 JS X EX (.Assign [.Name x pos'] e pos) (bF i f):=⟨(ps_set hN hi hx he.p hs hf).by fun D σ H h=>asg_of h⟩
theorem aM{i:Nat}{x:Str}(hN:X.N.Nodup)(hi:X.N[i]?=some x)(hx:Loc X.env.scope x)(hf:X.fn x=true∨X.env.scope.names.lookup x=some .local:=by first | exact .inl rfl | exact .inr rfl | assumption):JG X (.Name x pos) (.nm i):=⟨by unfold gT;exact kj hN hi hx hf⟩
theorem lD:JGs X [] []:=⟨by unfold gTs;exact tz⟩
theorem cV{T:Tg}{ts:List Tg}(h1:JG X e T)(h2:JGs X es ts)(hs:(assignEach (e::es) X.env).map (·.2)=assign e X.env::(assignEach es X.env).map (·.2):=by rfl):JGs X (e::es) (T::ts):=⟨by unfold gTs;exact k6 h1.p h2.p hs⟩
theorem lC{k:Nat}{ts:List Tg}(hc:X.calm=true)(h:JGs X es ts)(hn:(assignEach es X.env).length=ts.length:=by rfl)(hst:(assignEach es X.env).findIdx? (·.1)=none:=by rfl):JG X (.Tuple es k pos) (.tp ts):=⟨by unfold gT;exact wn hc h.p hn hst⟩
theorem zY{f:SE}{T:Tg}(he:JE X EX e f)(hg:JG X a T)(hs:swapsWithSole [a] e pos.line X.env=pure false:=by rfl)(hw:swappedStores [a] e X.env=pure none:=by rfl)
 (h1:(assignEach [a] X.env).map (·.2)=[assign a X.env]:=by rfl):JS X EX (.Assign [a] e pos) (j5 T f) :=
 ⟨(wg he.p hg.p hs hw h1).by fun D σ H ⟨F,ρ,W,R,h⟩=>⟨F,ρ,W,R,by
   unfold j5 at h
   revert h
   cases f ρ with
   | none=>exact fun h=>h
   | some q =>
    obtain ⟨q,ρ2⟩:=q
    cases q with
    | ex C=>exact fun h H2 W2 fr2 sub2 R2=>h σ H2 W2 fr2 (fun p hp=> .inl (sub2 p hp)) R2
    | ok d nw =>
     dsimp only
     cases e:bZ T d ρ2 with
     | none=>exact fun h=>h.elim
     | some ρ3 =>
      intro h v H2 W2 fr2 sub2 P2
      exact tP (n:=0) T P2.plain.2 P2.plain.1 e fun σ' _ R'=>h σ' H2 W2 fr2 (fun p hp=> .inl (sub2 p hp)) R'⟩⟩
theorem pW{i:Nat}{x:Str}{f:SE}{op:Operator}{fn:Int→Int→Int}{pos':Pos}(ho:PIp X op (ipI fn))(hN:X.N.Nodup)(hi:X.N[i]?=some x)(hx:Loc X.env.scope x)(he:JE X EX e f)(hf:X.fn x=true∨X.env.scope.names.lookup x=some .local:=by first | exact .inl rfl | exact .inr rfl | assumption) :
 JS X EX (.AugAssign (.Name x pos') op e pos) (ia i fn f) :=
 ⟨(ps_aug hN hi hx he.p ho hf).by fun D σ H ⟨F,ρ,W,R,h⟩=>by
   unfold ia at h
   revert h
   split
   ·rename_i a0 e0
    obtain ⟨v0,hv0,hr0⟩:=R.slot i _ _ e0;have hr0:v0 = .int a0:=hr0;subst hr0;intro h;refine ⟨_,hv0,F,ρ,W,R,?_⟩
    revert h
    cases f ρ with
    | none=>exact fun h=>h
    | some q =>
     obtain ⟨q,ρ2⟩:=q
     cases q with
     | ex C=>exact fun h H2 W2 fr2 sub2 R2=>h σ H2 W2 fr2 (fun p hp=> .inl (sub2 p hp)) R2
     | ok d nw =>
      cases d<;>first | exact fun h=>h.elim | skip
      rename_i b0;dsimp only
      cases e:ρ2[i]? with
      | none=>exact fun h=>h.elim
      | some z =>
       intro h v H2 W2 fr2 sub2 P2;have hv:v = .int b0:=P2.plain.1;exact ⟨a0,b0,rfl,hv,h _ H2 W2 fr2 (fun p hp=> .inl (sub2 p hp)) (P2.plain.2.put (by rw [P2.plain.2.len];exact (List.getElem?_eq_some_iff.mp e).1) rfl)⟩
   ·exact fun h=>h.elim⟩
theorem aA{f:SE}(he:JE X EX e f):JS X EX (.Return (some e) pos) (aK f) :=
 ⟨(rF he.p).by fun D σ H ⟨F,ρ,W,R,h⟩=>⟨F,ρ,W,R,by
   unfold aK at h
   revert h
   cases f ρ with
   | none=>exact fun h=>h
   | some q =>
    obtain ⟨q,ρ2⟩:=q
    cases q with
    | ex C=>exact fun h H2 W2 fr2 sub2 R2=>h σ H2 W2 fr2 (fun p hp=> .inl (sub2 p hp)) R2
    | ok d nw=>exact fun h v H2 W2 fr2 sub2 P2=>h σ v H2 W2 fr2 (fun p hp=> .inl (sub2 p hp)) P2.r⟩⟩
theorem kO{i:Nat}{n:Str}{p2:Pos}(hN:X.N[i]?=some n)(hv:Vis X.env.scope n)(hd:(n == ("__debug__" : Str))=false:=by decide)(hcd:(n == ("__classdict__" : Str))=false:=by decide):JS X EX (.Return (some (.Name n p2)) pos) (dI i) :=
 ⟨(rF (ii hN hv hd hcd)).by fun D σ H ⟨F,ρ,W,R,h⟩=>by
   unfold dI at h
   revert h
   cases e:ρ[i]? with
   | none=>exact fun h=>h.elim
   | some z =>
    cases z with
    | none=>exact fun h=>h.elim
    | some z =>
     obtain ⟨d,m⟩:=z;obtain ⟨v,hv,ok⟩:=R.slot i d m e
     cases m with
     | io=>exact fun h=>h.elim
     | fz=>exact fun h=>⟨v,hv,h σ v H W .refl (fun _ z=> .inl z) ⟨ok,R⟩⟩
     | ow =>
      intro h;obtain ⟨p,rfl,hp,hO⟩:=ok;obtain ⟨R',m1,m2,m3⟩:=R.move e hv
      exact ⟨_,hv,h σ _ H _ .refl (fun q hq=> .inl (List.mem_filter.mp hq).1) ⟨p,rfl,.inl m1,m2,m3,R'⟩⟩⟩
theorem dR{f:SE}(he:JE X EX e f)(hs:swapsWith e none pos.line X.env=pure false:=by rfl):JS X EX (.Expr e pos) (cv f) :=
 ⟨(oD he.p hs).by fun D σ H ⟨F,ρ,W,R,h⟩=>⟨F,ρ,W,R,by
   unfold cv at h
   revert h
   cases f ρ with
   | none=>exact fun h=>h
   | some q =>
    obtain ⟨q,ρ2⟩:=q
    cases q with
    | ex C=>exact fun h H2 W2 fr2 sub2 R2=>h σ H2 W2 fr2 (fun p hp=> .inl (sub2 p hp)) R2
    | ok d nw=>exact fun h v H2 W2 fr2 sub2 P2=>h σ H2 W2 fr2 (fun p hp=> .inl (sub2 p hp)) P2.plain.2⟩⟩
theorem bV{t:ST}{f g:SS}{as bs:List Stmt}(hc:JT X EX c t)(ha:JSs X EX as f)(hb:JSs X EX bs g):JS X EX (.If c as bs pos) (bn t f g) :=
 ⟨(ps_if hc.p ha.p hb.p).by fun D σ H ⟨F,ρ,W,R,h⟩=>⟨F,ρ,W,R,by
   unfold bn at h
   revert h
   cases t ρ with
   | none=>exact fun h=>h
   | some q =>
    obtain ⟨q,ρ2⟩:=q
    cases q with
    | ex C=>exact fun h H2 W2 fr2 sub2 R2=>h σ H2 W2 fr2 (fun p hp=> .inl (sub2 p hp)) R2
    | ok k =>
     cases k with
     | true=>exact fun h H2 W2 fr2 sub2 R2=>⟨F,ρ2,W2,R2,OkS.go h fr2 fun p hp=> .inl (sub2 p hp)⟩
     | false=>exact fun h H2 W2 fr2 sub2 R2=>⟨F,ρ2,W2,R2,OkS.go h fr2 fun p hp=> .inl (sub2 p hp)⟩⟩⟩
end
end L2
namespace L2
open PySem PySem.Spec PyProof.Rows
mutual
def eN:D→Bool
 | .lst _=>false
 | .klst _=>false
 | .dK _ _=>false
 | .dT _ _=>false
 | .tup ds=>cW ds
 | .ktup ds=>cW ds
 | _=>true
def cW:List D→Bool
 | []=>true
 | d::ds=>eN d&&cW ds
end
def cD:D→Bool
 | .lst ds=>cW ds
 | .dK _ ds=>cW ds
 | .dT _ ds=>cW ds
 | _=>false
section
variable{K:PySem.W.Frag}{H:Hp}{L1 L2:List Addr}
theorem i9{p:Addr}{o:HO}(h:hid L1 H p=some o)(hm:∀ p∈L2,fC (H p))(no:¬ fC (some o)):hid L2 H p=some o:=by
 have e:=(ay h).2;rw [aQ fun z=>no (by have:=hm p z;rw [e] at this;exact this)];exact e
mutual
theorem aH.flat(hm:∀ p∈L2,fC (H p)):∀ {d:D} {v:V},eN d=true→aH K (hid L1 H) d v→aH K (hid L2 H) d v
 | .non,_,_,h=>h
 | .bl _,_,_,h=>h
 | .int _,_,_,h=>h
 | .str _,_,_,h=>h
 | .tup _,_,f,⟨p,xs,h1,h2,h3⟩=>⟨p,xs,h1,i9 h2 hm (fun z=>z),ao.flat hm (by unfold eN at f;exact f) h3⟩
 | .ktup _,_,f,⟨p,xs,h1,h2,h3⟩=>⟨p,xs,h1,h2,ao.flat hm (by unfold eN at f;exact f) h3⟩
 | .lst _,_,f,_=>by unfold eN at f;cases f
 | .klst _,_,f,_=>by unfold eN at f;cases f
 | .dK _ _,_,f,_=>by unfold eN at f;cases f
 | .dT _ _,_,f,_=>by unfold eN at f;cases f
 | .set _,_,_,⟨p,S,h1,h2,h3⟩=>⟨p,S,h1,i9 h2 hm (fun z=>z),h3⟩
 | .rng _ _,_,_,⟨p,h1,h2⟩=>⟨p,h1,i9 h2 hm (fun z=>z)⟩
 | .exc _,_,_,⟨p,C,h1,h2,h3⟩=>⟨p,C,h1,h2,i9 h3 hm (fun z=>z)⟩
theorem ao.flat(hm:∀ p∈L2,fC (H p)):∀ {ds:List D} {xs:List V},cW ds=true→ao K (hid L1 H) ds xs→ao K (hid L2 H) ds xs
 | [],[],_,_=>trivial
 | _::_,_::_,f,h=>by
  unfold cW at f;have f:=(Bool.and_eq_true _ _).mp f;exact ⟨aH.flat hm f.1 h.1,ao.flat hm f.2 h.2⟩
 | [],_::_,_,h=>h.elim
 | _::_,[],_,h=>h.elim
end
theorem aT.flat{H':Hp}{p:Addr}{d:D}(hm:∀ p∈L2,fC (H p))(f:cD d=true)(h:aT K H' (hid L1 H) p d):aT K H' (hid L2 H) p d:=by
 cases d<;>first
  | exact h.elim
  | (obtain ⟨xs,h1,h2,h3⟩:=h;exact ⟨xs,h1,h2,ao.flat hm f h3⟩)
  | (obtain ⟨xs,h1,h2⟩:=h;exact ⟨xs,h1,ao.flat hm f h2⟩)
end
abbrev FS:=List D→Option (Res×D)
def spF(K:PySem.W.Frag)(io:Option Nat)(run:FS):Sp:=fun vs H Q E=>∃ (Z W:List Addr) (ds:List D),
 vs.length=ds.length∧(∀ p∈W,p∉Z)∧(∀ p∈W++Z,fC (H p)) ∧
 (∀ (j:Nat) (d:D) (v:V),io≠some j→ds[j]?=some d→vs[j]?=some v→aH K (hid (W++Z) H) d v) ∧
 (∀ k,io=some k→∃ p d,vs[k]?=some (V.ref p)∧ds[k]?=some d∧W=[p]∧aT K H (hid (W++Z) H) p d) ∧
 (io=none→W=[]) ∧
 match run ds with
 | some (.ok d false,dio)=>∀ v H',Fr W H H'→aH K (hid (W++Z) H') d v→(∀ p,W=[p]→aT K H' (hid (W++Z) H') p dio)→Q v H'
 | some (.ok d true,dio)=>∀ q H',Fr W H H'→H q=none→aT K H' (hid (q::(W++Z)) H') q d→(∀ p,W=[p]→aT K H' (hid (q::(W++Z)) H') p dio)→Q (.ref q) H'
 | some (.ex C,dio)=>∀ H',Fr W H H'→(∀ p,W=[p]→aT K H' (hid (W++Z) H') p dio)→∀ a,mD K C a→∀ x,E (.ref a) x H'
 | none=>False
def iB(io:Option Nat):Nat→List D→Rho
 | _,[]=>[]
 | j,d::ds=>some (d,if io=some j then .io else .fz)::iB io (j+1) ds
def ini(n:Nat)(io:Option Nat)(ds:List D):Rho:=iB io 0 ds++List.replicate (n - ds.length) none
def ioD(io:Option Nat)(ρ:Rho):Option D:=match io with
 | none=>some .non
 | some k=>match ρ[k]? with
  | some (some (d,.io))=>some d
  | _=>none
def aB(np n:Nat)(io:Option Nat)(body:SS):FS:=fun ds=>if ds.length=np then
 match body (ini n io ds) with
 | some (.rt d nw,ρ')=>match ioD io ρ' with
  | some x=>some (.ok d nw,x)
  | none=>none
 | some (.nx,ρ')=>match ioD io ρ' with
  | some x=>some (.ok .non false,x)
  | none=>none
 | some (.ex C,ρ')=>match ioD io ρ' with
  | some x=>some (.ex C,x)
  | none=>none
 | _=>none else none
theorem gE{io:Option Nat}:∀ {j:Nat} {ds:List D},(iB io j ds).length=ds.length
 | _,[]=>rfl
 | j,_::ds=>by unfold iB;rw [List.length_cons,List.length_cons,gE]
theorem qx{io:Option Nat}:∀ {j i:Nat} {ds:List D} {d:D} {m:Md},(iB io j ds)[i]?=some (some (d,m))→ds[i]?=some d∧m=if io=some (j+i) then .io else .fz
 | j,i,[],d,m,h=>by unfold iB at h;simp at h
 | j,0,x::ds,d,m,h=>by
  unfold iB at h;simp only [List.getElem?_cons_zero,Option.some.injEq,Prod.mk.injEq] at h;exact ⟨by rw [← h.1];rfl,by rw [← h.2];rfl⟩
 | j,i+1,x::ds,d,m,h=>by
  unfold iB at h;simp only [List.getElem?_cons_succ] at h;obtain ⟨h1,h2⟩:=qx h;exact ⟨by simpa using h1,by rw [h2,show j+1+i=j+(i+1) by omega]⟩
theorem gS{n:Nat}{io:Option Nat}{i:Nat}{ds:List D}{d:D}{m:Md}(h:(ini n io ds)[i]?=some (some (d,m))):ds[i]?=some d∧m=if io=some i then .io else .fz:=by
 unfold ini at h
 by_cases hi:i < ds.length
 ·rw [List.getElem?_append_left (by rw [gE];exact hi)] at h
  have:=qx h;rw [Nat.zero_add] at this;exact this
 ·rw [List.getElem?_append_right (by rw [gE];omega),List.getElem?_replicate] at h
  split at h<;>cases h
def EXf(K:PySem.W.Frag)(E:XK):EXT:=fun nm _ H=>∀ C,mD K nm C→∀ x,E (.ref C) x H
theorem a6{P:Program}{w:World}{K:PySem.W.Frag}{mg:Str→Option Value}{base:Heap}{x:Str}{st:Stmt}{N ps:List Str}{k:Nat}{io:Option Nat}{body:SS}(h:Has K mg x st ps)(S:aq N ps (ae st))
 (hb:∀ (f:Addr) (cdv:Value) (A:Around) (outer:List Env) (s:Shared) (H:Hp) (E:XK),dW k (A.deeper (envOfC x (ae st) s.heap.objs.size f cdv)) →
   JSs (bO (CXr P w) P w K mg base N x (ae st) f cdv A outer s H E) (EXf K E) (ci st) body) (hps:ps.length≤N.length:=by decide):OkX P w K mg base x ps (k+1) (spF K io (aB ps.length N.length io body)):=by
 have run_len:∀ {ds:List D} {r:Res×D},aB ps.length N.length io body ds=some r→ds.length=ps.length:=fun {ds r} e=>by
  unfold aB at e
  split at e
  ·assumption
  ·cases e
 refine h.okX S (fun vs H Q E hs=> ?_) (fun f cdv A outer s H vs Q E hr hs=> ?_)
 ·obtain ⟨Z,W,ds,h1,_,_,_,_,_,hm⟩:=hs
  cases e:aB ps.length N.length io body ds with
  | none=>rw [e] at hm;exact hm.elim
  | some r=>rw [h1];exact run_len e
 ·obtain ⟨Z,W,ds,h1,hwz,hmt,hfz,hio,hno,hm⟩:=hs
  refine ⟨_,(hb f cdv A outer s H E hr).p,?_⟩
  have hlen:ds.length=ps.length:=by
   cases e:aB ps.length N.length io body ds with
   | none=>rw [e] at hm;exact hm.elim
   | some r=>exact run_len e
  let F:Fx:=⟨Z,fun j=>if io=some j then W.head? else none⟩
  have st_get:∀ {j:Nat} {v:V},vs[j]?=some v→(cK N vs)[j]?=some (some v):=fun {j v} e=>by
   unfold cK;rw [List.getElem?_append_left (by rw [List.length_map];exact (List.getElem?_eq_some_iff.mp e).1),List.getElem?_map,e];rfl
  have R0:Rel K F (cK N vs) H (ini N.length io ds) W:=by
   refine ⟨fun i d m hi=> ?_,fun i j d e m n p g1 g2 g3 g4 _ _=> ?_,hwz,hmt,?_⟩
   ·obtain ⟨hd,rfl⟩:=gS hi
    have hv:i < vs.length:=by rw [h1];exact (List.getElem?_eq_some_iff.mp hd).1
    refine ⟨vs[i],st_get (List.getElem?_eq_getElem hv),?_⟩
    by_cases e:io=some i
    ·rw [if_pos e]
     obtain ⟨p,d',q1,q2,q3,q4⟩:=hio i e;rw [List.getElem?_eq_getElem hv] at q1;rw [hd] at q2;cases q2;refine ⟨p,Option.some.inj q1,by rw [q3];exact List.mem_cons_self,q4,?_⟩
     show (if io=some i then W.head? else none)=some p
     rw [if_pos e,q3];rfl
    ·rw [if_neg e]
     exact hfz i d _ e hd (List.getElem?_eq_getElem hv)
   ·obtain ⟨_,e1⟩:=gS g1
    obtain ⟨_,e2⟩:=gS g3
    by_cases z1:io=some i
    ·by_cases z2:io=some j
     ·rw [z1] at z2;exact Option.some.inj z2
     ·rw [if_neg z2] at e2;exact absurd e2 g4
    ·rw [if_neg z1] at e1;exact absurd e1 g2
   ·unfold cK ini
    rw [List.length_append,List.length_append,List.length_map,List.length_replicate,List.length_replicate,gE,h1]
  refine ⟨F,_,W,R0,?_⟩
  have ioR:∀ {σ':St} {H':Hp} {ρ':Rho} {W':List Addr} {x:D} {p:Addr},Rel K F σ' H' ρ' W'→ioD io ρ'=some x→W=[p]→p∈W'∧aT K H' (hid (W'++Z) H') p x:=fun {σ' H' ρ' W' x p} R e hW=>by
   cases hk:io with
   | none=>rw [hno hk] at hW;cases hW
   | some k =>
    unfold ioD at e;rw [hk] at e;dsimp only at e
    split at e
    ·rename_i d0 e0
     cases e;obtain ⟨v,g1,q,g2,g3,g4,g5⟩:=R.slot k _ _ e0;have g5:(if io=some k then W.head? else none)=some q:=g5;rw [if_pos hk,hW] at g5;have:p=q:=Option.some.inj g5;subst this;exact ⟨g3,g4⟩
    ·cases e
  have wsub:∀ {σ':St} {H':Hp} {ρ':Rho} {W':List Addr} {x:D},Rel K F σ' H' ρ' W'→ioD io ρ'=some x→∀ b,b∈W++Z→b∈W'++Z:=fun {σ' H' ρ' W' x} R e b hb=>by
   rcases List.mem_append.mp hb with z | z
   ·cases hk:io with
    | none=>rw [hno hk] at z;cases z
    | some k =>
     obtain ⟨p,d,_,_,q3,_⟩:=hio k hk;rw [q3] at z;rw [List.mem_singleton.mp z];exact List.mem_append_left _ (ioR R e q3).1
   ·exact List.mem_append_right _ z
  have toW:∀ {σ':St} {H' H2:Hp} {ρ':Rho} {W':List Addr} {x:D},Rel K F σ' H2 ρ' W'→ioD io ρ'=some x→aj (hid (W'++Z) H') (hid (W++Z) H'):=fun R e=>aY (fun b hb=> .inl (wsub R e b hb)) fun b o _ z=>z
  revert hm
  unfold aB;rw [if_pos hlen]
  cases body (ini N.length io ds) with
  | none=>exact fun h=>h.elim
  | some r =>
   obtain ⟨r,ρ'⟩:=r
   cases r with
   | bk=>exact fun h=>h.elim
   | ct=>exact fun h=>h.elim
   | nx =>
    dsimp only
    cases e:ioD io ρ' with
    | none=>exact fun h=>h.elim
    | some x =>
     intro hm σ' H' W' fr sub R
     exact hm .non H' fr rfl fun p hp=>(ioR R e hp).2.at rfl (toW R e)
   | ex C =>
    dsimp only
    cases e:ioD io ρ' with
    | none=>exact fun h=>h.elim
    | some x =>
     intro hm σ' H' W' fr sub R
     exact hm H' fr fun p hp=>(ioR R e hp).2.at rfl (toW R e)
   | rt d nw =>
    dsimp only
    cases e:ioD io ρ' with
    | none=>exact fun h=>h.elim
    | some x =>
     cases nw with
     | false =>
      intro hm σ' v H' W' fr sub P
      exact hm v H' fr ((toW P.2 e).repD P.1) fun p hp=>(ioR P.2 e hp).2.at rfl (toW P.2 e)
     | true =>
      intro hm σ' v H' W' fr sub P;obtain ⟨q,rfl,hq,hn,hO,R⟩:=P
      have hq0:H q=none:=by
       rcases hq with z | z
       ·cases hk:io with
        | none=>rw [hno hk] at z;cases z
        | some k =>
         obtain ⟨p,d',_,_,q3,_⟩:=hio k hk;rw [q3] at z;have:q=p:=List.mem_singleton.mp z;subst this;exact absurd (List.mem_append_left _ (ioR R e q3).1) hn
       ·exact z
      have cs:aj (hid (q::(W'++Z)) H') (hid (q::(W++Z)) H'):=aY (fun b hb=> .inl (by
       rcases List.mem_cons.mp hb with z | z
       ·rw [z];exact List.mem_cons_self
       ·exact List.mem_cons_of_mem _ (wsub R e b z))) fun b o _ z=>z
      refine hm q H' fr hq0 (hO.at rfl cs) fun p hp=> ?_
      obtain ⟨m1,m2⟩:=ioR R e hp
      have pq:p≠q:=fun z=>by subst z;exact hn (List.mem_append_left _ m1)
      refine m2.at (aQ (by simpa using pq)).symm fun b o z=> ?_
      obtain ⟨z1,z2⟩:=ay z;obtain ⟨z3,z4⟩:=ay z2
      rw [aQ (fun y=>by
       rcases List.mem_cons.mp y with y | y
       ·exact z3 (by simpa using y)
       ·exact z1 (wsub R e b y))]
      exact z4
end L2
namespace L2
open PySem PySem.Spec PyProof.Rows
section
variable{K:PySem.W.Frag}{F:Fx}{EX:EXT}{σ:St}{H H2:Hp}{ρ:Rho}{W:List Addr}
theorem Rel.wrote(R:Rel K F σ H ρ W){i:Nat}{d d':D}{m:Md}{p:Addr}(h:ρ[i]?=some (some (d,m)))(hm:m ≠ .fz)(hp:σ[i]?=some (some (.ref p)))(fr:Fr [p] H H2)(new:aT K H2 (hid (W++F.Z) H2) p d') :
 Rel K F σ H2 (ρ.set i (some (d',m))) W:=by
 obtain ⟨v,hv,hS⟩:=R.slot i d m h;rw [hp] at hv;cases hv
 have hw:p∈W:=by
  cases m with
  | fz=>exact absurd rfl hm
  | ow=>obtain ⟨r,e2,e3,_⟩:=hS;cases e2;exact e3
  | io=>obtain ⟨r,e2,e3,_⟩:=hS;cases e2;exact e3
 have sh:aj (hid (W++F.Z) H) (hid (W++F.Z) H2):=aY (fun b hb=> .inl hb) fun b o n e=>fr.keep b o (fun z=>n (by rw [List.mem_singleton.mp z];exact List.mem_append_left _ hw)) e
 have eq:∀ r,r≠p→fC (H r)→H2 r=H r:=fun r hr hM=>by
  obtain ⟨u,q⟩:=hM.some;rw [q];exact fr.keep r u (by simpa using hr) q
 refine ⟨fun j e n hj=> ?_,fun j k e f n n' r h1 h2 h3 h4 h5 h6=> ?_,R.wz,fun r hr=> ?_,by rw [List.length_set];exact R.len⟩
 ·rcases bE hj with ⟨rfl,e1⟩ | ⟨ne,e1⟩
  ·cases e1
   refine ⟨_,hp,?_⟩
   cases m with
   | fz=>exact absurd rfl hm
   | ow=>exact ⟨p,rfl,hw,new⟩
   | io=>obtain ⟨r,e2,e3,e4,e5⟩:=hS;cases e2;exact ⟨p,rfl,hw,new,e5⟩
  ·obtain ⟨v,g1,g2⟩:=R.slot j e n e1
   refine ⟨v,g1,?_⟩
   have other:∀ r,v = .ref r→n ≠ .fz→r≠p:=fun r er hn z=>by
    subst er z;exact ne (R.apart j i _ _ _ _ _ e1 hn h hm g1 hp)
   cases n with
   | fz=>exact sh.repD g2
   | ow=>obtain ⟨r,e2,e3,e4⟩:=g2;exact ⟨r,e2,e3,e4.at (eq r (other r e2 (by decide)) e4.mu) sh⟩
   | io=>obtain ⟨r,e2,e3,e4,e5⟩:=g2;exact ⟨r,e2,e3,e4.at (eq r (other r e2 (by decide)) e4.mu) sh,e5⟩
 ·have fnd:∀ {j:Nat} {e:D} {n:Md},(ρ.set i (some (d',m)))[j]?=some (some (e,n))→n ≠ .fz→∃ e',ρ[j]?=some (some (e',n)):=fun {j e n} hj hn=>by
   rcases bE hj with ⟨rfl,e1⟩ | ⟨_,e1⟩
   ·cases e1;exact ⟨d,h⟩
   ·exact ⟨_,e1⟩
  obtain ⟨_,z1⟩:=fnd h1 h2;obtain ⟨_,z2⟩:=fnd h3 h4;exact R.apart j k _ _ _ _ _ z1 h2 z2 h4 h5 h6
 ·by_cases e:r=p
  ·subst e;exact new.mu
  ·rw [eq r e (R.mt r hr)];exact R.mt r hr
variable(K F σ H ρ W) in
def ArgR:Arg→D→V→Prop
 | .ex _,d,v=>aH K (hid (W++F.Z) H) d v
 | .bor i,d,v=>σ[i]?=some (some v)∧∃ m,ρ[i]?=some (some (d,m))
variable(K F σ H ρ W) in
def fK:List Arg→List D→List V→Prop
 | [],[],[]=>True
 | a::as,d::ds,v::vs=>ArgR K F σ H ρ W a d v∧fK as ds vs
 | _,_,_=>False
theorem fK.len:∀ {as:List Arg} {ds:List D} {vs:List V},fK K F σ H ρ W as ds vs→vs.length=ds.length
 | [],[],[],_=>rfl
 | _::_,_::_,_::_,h=>by rw [List.length_cons,List.length_cons,fK.len h.2]
 | [],_::_,_,h=>h.elim
 | [],[],_::_,h=>h.elim
 | _::_,[],_,h=>h.elim
 | _::_,_::_,[],h=>h.elim
theorem fK.get:∀ {as:List Arg} {ds:List D} {vs:List V} {j:Nat} {d:D} {v:V},fK K F σ H ρ W as ds vs→ds[j]?=some d→vs[j]?=some v→∃ a,as[j]?=some a∧ArgR K F σ H ρ W a d v
 | a::_,_::_,_::_,0,d,v,h,e1,e2=>by
  simp only [List.getElem?_cons_zero,Option.some.injEq] at e1 e2;subst e1 e2;exact ⟨a,rfl,h.1⟩
 | _::_,_::_,_::_,j+1,d,v,h,e1,e2=>by
  simp only [List.getElem?_cons_succ] at e1 e2 ⊢;exact fK.get h.2 e1 e2
 | [],[],[],_,_,_,_,e,_=>by simp at e
 | [],_::_,_,_,_,_,h,_,_=>h.elim
 | [],[],_::_,_,_,_,h,_,_=>h.elim
 | _::_,[],_,_,_,_,h,_,_=>h.elim
 | _::_,_::_,[],_,_,_,h,_,_=>h.elim
theorem fK.at:∀ {as:List Arg} {ds:List D} {vs:List V} {j:Nat} {a:Arg},fK K F σ H ρ W as ds vs→as[j]?=some a→∃ d v,ds[j]?=some d∧vs[j]?=some v∧ArgR K F σ H ρ W a d v
 | a::_,d::_,v::_,0,b,h,e1=>by
  simp only [List.getElem?_cons_zero,Option.some.injEq] at e1;subst e1;exact ⟨d,v,rfl,rfl,h.1⟩
 | _::_,_::_,_::_,j+1,a,h,e1=>by
  simp only [List.getElem?_cons_succ] at e1 ⊢;exact fK.at h.2 e1
 | [],[],[],_,_,_,e=>by simp at e
 | [],_::_,_,_,_,h,_=>h.elim
 | [],[],_::_,_,_,h,_=>h.elim
 | _::_,[],_,_,_,h,_=>h.elim
 | _::_,_::_,[],_,_,h,_=>h.elim
variable(K F EX) in
def OkA2(σ:St)(H:Hp)(W:List Addr)(as:List Arg)(o:Option (pd×Rho))(Q:List V→Hp→Prop):Prop:=match o with
 | some (.ok ds,ρ')=>∀ vs H' W',Fr W H H'→(∀ p∈W',p∈W)→Rel K F σ H' ρ' W'→fK K F σ H' ρ' W' as ds vs→Q vs H'
 | some (.ex C,ρ')=>∀ H' W',Fr W H H'→(∀ p∈W',p∈W)→Rel K F σ H' ρ' W'→EX C σ H'
 | none=>False
theorem sM:∀ (as:List Arg) {H:Hp} {ρ:Rho} {W:List Addr} {Q:List V→Hp→Prop},Rel K F σ H ρ W→OkA2 K F EX σ H W as (evA as ρ) Q→tAs K EX as σ H Q
 | [],H,ρ,W,Q,R,h=>h [] H W .refl (fun _ z=>z) R trivial
 | .ex f::as,H,ρ,W,Q,R,h=>by
  refine ⟨F,ρ,W,R,?_⟩;unfold evA at h
  revert h
  cases f ρ with
  | none=>exact fun h=>h
  | some r =>
   obtain ⟨r,ρ1⟩:=r
   cases r with
   | ex C=>exact fun h=>h
   | ok d nw =>
    intro h v H1 W1 fr sub post;obtain ⟨rd,R1⟩:=post.plain;refine sM as R1 ?_
    revert h
    dsimp only
    cases evA as ρ1 with
    | none=>exact fun h=>h
    | some q =>
     obtain ⟨q,ρ2⟩:=q
     cases q with
     | ex C=>exact fun h H2 W2 fr2 sub2 R2=>h H2 W2 (fr.trans fr2 fun p hp=> .inl (sub p hp)) (fun p hp=>sub p (sub2 p hp)) R2
     | ok ds =>
      intro h vs H2 W2 fr2 sub2 R2 reps;exact h (v::vs) H2 W2 (fr.trans fr2 fun p hp=> .inl (sub p hp)) (fun p hp=>sub p (sub2 p hp)) R2 ⟨(fr2.hid fun p hp=> .inl (sub2 p hp)).repD rd,reps⟩
 | .bor i::as,H,ρ,W,Q,R,h=>by
  unfold evA at h
  revert h
  cases e:ρ[i]? with
  | none=>exact fun h=>h.elim
  | some z =>
   cases z with
   | none=>exact fun h=>h.elim
   | some dm =>
    obtain ⟨d0,m0⟩:=dm;obtain ⟨v,hv,_⟩:=R.slot i d0 m0 e;intro h;refine ⟨v,hv,sM as R ?_⟩
    revert h
    dsimp only
    cases evA as ρ with
    | none=>exact fun h=>h
    | some q =>
     obtain ⟨q,ρ2⟩:=q
     cases q with
     | ex C=>exact fun h=>h
     | ok ds =>
      dsimp only
      cases e2:ρ2[i]? with
      | none=>exact fun h=>h.elim
      | some z =>
       cases z with
       | none=>exact fun h=>h.elim
       | some dm =>
        obtain ⟨d,m⟩:=dm;intro h vs H2 W2 fr2 sub2 R2 reps;exact h (v::vs) H2 W2 fr2 sub2 R2 ⟨⟨hv,m,e2⟩,reps⟩
end
structure lW(X:Cx)(EX:EXT):Prop where
 call:∀ {x:Str} {ps:List Str} {k:Nat} {sp:Sp} {e:Expr} {es:List Expr} {t:TA} {p pos:Pos} (h:OkX X.prog X.w X.K X.mg X.base x ps k sp) (hr:dW k X.A) (hg:Gl X x) (ha:PA X (e::es) t) (hdb:(x == ("__debug__" : Str))=false)
  (he:starEach (e::es) X.env=(false,eval e X.env)::starEach es X.env) (hpl:(backTo pos (starEach es X.env)).any (·.1)=false),PE X (.Call (.Name x p) (e::es) [] pos) (fun σ H Q=>t σ H fun vs H1=>sp vs H1 Q fun c _ H'=>∃ nm C,c = .ref C∧mD X.K nm C∧EX nm σ H')
def EXn:EXT:=fun _ _ _=>False
theorem lS{sp:Sp}{Q:VK}{E:XK}:(fun (vs:List V) H1=>sp (vs++[]) H1 Q E)=fun vs H1=>sp vs H1 Q E:=by
 funext vs H1
 rw [List.append_nil]
theorem aV{X:Cx}:lW X EXn:=⟨fun {x ps k sp e es t p pos} h hr hg ha hdb he hpl=>by
 obtain ⟨f,fd,hm,hk,hb,F⟩:=h.ex
 refine (tE F hr hg hm hk hb .nil (E:=fun c _ H'=>∃ nm C,c=Value.ref C∧mD X.K nm C∧False) (fun _ _ _ _ _ _ _ hZ=>(by obtain ⟨_,_,_,_,_,_,_,_,_,_,_,_,_,_,z⟩:=hZ;exact z.elim)) ha hdb he hpl).by fun σ H Q h=> ?_
 unfold vJ;rw [lS]
 exact h⟩
theorem ai{P:Program}{w:World}{K:PySem.W.Frag}{mg:Str→Option Value}{base:Heap}{N:List Str}{qual:Str}{scope:Scope}{f:Addr}{cd:Value}{A:Around}{outer:List Env}{s:Shared}{H:Hp}{E:XK} :
 lW (bO (CXr P w) P w K mg base N qual scope f cd A outer s H E) (EXf K E):=⟨fun {x ps k sp e es t p pos} h hr hg ha hdb he hpl=>by
 obtain ⟨f',fd,hm,hk,hb,F⟩:=h.ex
 refine (tE (X:=bO (CXr P w) P w K mg base N qual scope f cd A outer s H E) F hr hg hm hk hb .nil (E:=fun c _ H'=>∃ nm C,c=Value.ref C∧mD K nm C∧∀ C',mD K nm C'→∀ x,E (.ref C') x H') (ww fun c d H' z=>by obtain ⟨nm,C,rfl,hc,z⟩:=z;exact z C hc d) ha hdb he hpl).by fun σ H Q h=> ?_
 unfold vJ;rw [lS]
 exact h⟩
def cx(io:Option Nat):Nat→List Arg→Rho→Bool
 | _,[],_=>true
 | j,.ex _::as,ρ=>cx io (j+1) as ρ
 | j,.bor i::as,ρ=>(if io=some j then true else match ρ[i]? with
  | some (some (_,.fz))=>true
  | _=>false)&&cx io (j+1) as ρ
def gL(i k:Nat):Nat→List Arg→Bool
 | _,[]=>true
 | j,.ex _::as=>gL i k (j+1) as
 | j,.bor i'::as=>(decide (j=k)||decide (i'≠i))&&gL i k (j+1) as
def ioOk(io:Option Nat)(as:List Arg)(slot:Option Nat):Bool:=match io,slot with
 | none,none=>true
 | some k,some i=>(match as[k]? with
  | some (.bor i')=>decide (i'=i)
  | _=>false)&&gL i k 0 as
 | _,_=>false
def eJ(slot:Option Nat)(dio:D)(ρ:Rho):Option Rho:=match slot with
 | none=>some ρ
 | some i=>match ρ[i]? with
  | some (some (_,.ow))=>some (ρ.set i (some (dio,.ow)))
  | some (some (_,.io))=>some (ρ.set i (some (dio,.io)))
  | _=>none
def g7(d:D)(nw:Bool):Bool:=if nw then cD d else eN d
def aw(io slot:Option Nat)(run:FS)(as:List Arg):SE:=fun ρ=>match evA as ρ with
 | some (.ok ds,ρ1)=>match run ds with
  | some (.ok d nw,dio)=>if (cx io 0 as ρ1||(g7 d nw&&(io.isNone||cD dio)))=true then
   match eJ slot dio ρ1 with
   | some ρ2=>some (.ok d nw,ρ2)
   | none=>none
   else none
  | some (.ex C,dio)=>if (cx io 0 as ρ1||(io.isNone||cD dio))=true then
   match eJ slot dio ρ1 with
   | some ρ2=>some (.ex C,ρ2)
   | none=>none
   else none
  | none=>none
 | some (.ex C,ρ')=>some (.ex C,ρ')
 | none=>none
theorem gR{io:Option Nat}{ρ:Rho}:∀ {as:List Arg} {j n:Nat} {i:Nat},cx io n as ρ=true→as[j]?=some (.bor i)→io≠some (n+j)→∃ d,ρ[i]?=some (some (d,.fz))
 | [],j,n,i,h,e,_=>by simp at e
 | .ex _::as,0,n,i,h,e,_=>by simp at e
 | .bor i'::as,0,n,i,h,e,ne=>by
  simp only [List.getElem?_cons_zero,Option.some.injEq,Arg.bor.injEq] at e;subst e;unfold cx at h;have h:=((Bool.and_eq_true _ _).mp h).1;rw [if_neg (by simpa using ne)] at h
  split at h
  ·exact ⟨_,by assumption⟩
  ·cases h
 | .ex _::as,j+1,n,i,h,e,ne=>by
  unfold cx at h;exact gR (j:=j) (n:=n+1) h (by simpa using e) (by rw [show n+1+j=n+(j+1) by omega];exact ne)
 | .bor _::as,j+1,n,i,h,e,ne=>by
  unfold cx at h;exact gR (j:=j) (n:=n+1) ((Bool.and_eq_true _ _).mp h).2 (by simpa using e) (by rw [show n+1+j=n+(j+1) by omega];exact ne)
theorem iE{i k:Nat}:∀ {as:List Arg} {j n:Nat} {i':Nat},gL i k n as=true→as[j]?=some (.bor i')→n+j≠k→i'≠i
 | [],j,n,i',h,e,_=>by simp at e
 | .ex _::as,0,n,i',h,e,_=>by simp at e
 | .bor i2::as,0,n,i',h,e,ne=>by
  simp only [List.getElem?_cons_zero,Option.some.injEq,Arg.bor.injEq] at e;subst e;unfold gL at h;have h:=((Bool.and_eq_true _ _).mp h).1
  rcases (Bool.or_eq_true _ _).mp h with z | z
  ·exact absurd (by simpa using of_decide_eq_true z) ne
  ·exact of_decide_eq_true z
 | .ex _::as,j+1,n,i',h,e,ne=>by
  unfold gL at h;exact iE (j:=j) (n:=n+1) h (by simpa using e) (by omega)
 | .bor _::as,j+1,n,i',h,e,ne=>by
  unfold gL at h;exact iE (j:=j) (n:=n+1) ((Bool.and_eq_true _ _).mp h).2 (by simpa using e) (by omega)
section
variable{K:PySem.W.Frag}{F:Fx}{σ:St}{H:Hp}{ρ:Rho}{W:List Addr}
theorem zI{io slot:Option Nat}{as:List Arg}{ds:List D}{vs:List V}{dio:D}{ρ2:Rho}(R:Rel K F σ H ρ W)(A:fK K F σ H ρ W as ds vs)(hio:ioOk io as slot=true)(hput:eJ slot dio ρ=some ρ2) :
 ∃ Wc Zc,(∀ p∈Wc,p∉Zc)∧(∀ b,b∈Wc++Zc→b∈W++F.Z)∧(∀ p∈Wc,p∈W)∧(cx io 0 as ρ=true→∀ b,b∈W++F.Z→b∈Wc++Zc) ∧
  (∀ (j:Nat) (d:D) (v:V),io≠some j→ds[j]?=some d→vs[j]?=some v→aH K (hid (Wc++Zc) H) d v) ∧
  (∀ k,io=some k→∃ p d,vs[k]?=some (V.ref p)∧ds[k]?=some d∧Wc=[p]∧aT K H (hid (Wc++Zc) H) p d)∧(io=none→Wc=[]) ∧
  ∀ H2,Fr Wc H H2→(∀ p,Wc=[p]→aT K H2 (hid (W++F.Z) H2) p dio)→Rel K F σ H2 ρ2 W:=by
 cases io with
 | none =>
  cases slot with
  | some i=>cases hio
  | none =>
   cases hput
   have fin:∀ H2,Fr [] H H2→Rel K F σ H2 ρ W:=fun H2 fr=>R.same fun b o e=>fr.keep b o (by simp) e
   by_cases hn:cx none 0 as ρ=true
   ·refine ⟨[],W++F.Z,fun p hp=>by simp at hp,fun b hb=>by simpa using hb,fun p hp=>by simp at hp,fun _ b hb=>by simpa using hb,fun j d v _ e1 e2=> ?_,fun k z=>(by cases z),fun _=>rfl,fun H2 fr _=>fin H2 fr⟩
    obtain ⟨a,ea,ra⟩:=A.get e1 e2
    cases a with
    | ex f=>exact ra
    | bor i =>
     obtain ⟨d',hd'⟩:=gR hn ea (by simp);obtain ⟨q1,m,q2⟩:=ra;rw [hd'] at q2;cases q2;obtain ⟨v',q3,q4⟩:=R.slot i _ _ hd';rw [q1] at q3;cases q3;exact q4
   ·refine ⟨[],F.Z,fun p hp=>by simp at hp,fun b hb=>List.mem_append_right _ (by simpa using hb),fun p hp=>by simp at hp,fun z=>absurd z hn,fun j d v _ e1 e2=> ?_,fun k z=>(by cases z),fun _=>rfl,fun H2 fr _=>fin H2 fr⟩
    have sh:aj (hid (W++F.Z) H) (hid ([]++F.Z) H):=aY (fun b hb=> .inl (List.mem_append_right _ (by simpa using hb))) fun b o _ e=>e
    obtain ⟨a,ea,ra⟩:=A.get e1 e2
    cases a with
    | ex f=>exact sh.repD ra
    | bor i =>
     obtain ⟨q1,m,q2⟩:=ra;obtain ⟨v',q3,q4⟩:=R.slot i _ _ q2;rw [q1] at q3;cases q3
     cases m with
     | fz=>exact sh.repD q4
     | ow=>obtain ⟨p,rfl,hp,hO⟩:=q4;exact hO.rep (aQ (by simpa using R.wz p hp)) sh
     | io=>obtain ⟨p,rfl,hp,hO,_⟩:=q4;exact hO.rep (aQ (by simpa using R.wz p hp)) sh
 | some k =>
  cases slot with
  | none=>cases hio
  | some i =>
   have hio:((match as[k]? with
    | some (.bor i')=>decide (i'=i)
    | _=>false)&&gL i k 0 as)=true:=hio
   obtain ⟨h1,hap⟩:=(Bool.and_eq_true _ _).mp hio
   have hk:as[k]?=some (.bor i):=by
    split at h1
    ·rename_i i' e
     rw [e,of_decide_eq_true h1]
    ·cases h1
   have hm:∃ d0 m,ρ[i]?=some (some (d0,m))∧m ≠ .fz∧ρ2=ρ.set i (some (dio,m)):=by
    unfold eJ at hput;dsimp only at hput
    split at hput
    ·rename_i d0 e;cases hput;exact ⟨d0,_,e,by decide,rfl⟩
    ·rename_i d0 e;cases hput;exact ⟨d0,_,e,by decide,rfl⟩
    ·cases hput
   obtain ⟨d0,m,e0,hmf,rfl⟩:=hm;obtain ⟨v0,g1,g2⟩:=R.slot i d0 m e0
   have own:∃ p,v0 = .ref p∧p∈W∧aT K H (hid (W++F.Z) H) p d0:=by
    cases m with
    | fz=>exact absurd rfl hmf
    | ow=>exact g2
    | io=>obtain ⟨p,z1,z2,z3,_⟩:=g2;exact ⟨p,z1,z2,z3⟩
   obtain ⟨p,rfl,hpW,hO⟩:=own;obtain ⟨dk,vk,f1,f2,f3,mk,f4⟩:=A.at hk;rw [g1] at f3;cases f3;rw [e0] at f4;cases f4
   have fin:∀ H2,Fr [p] H H2→(∀ q,[p]=[q]→aT K H2 (hid (W++F.Z) H2) q dio)→Rel K F σ H2 (ρ.set i (some (dio,m))) W:=fun H2 fr new=>R.wrote e0 hmf g1 fr (new p rfl)
   have oth:∀ (j:Nat) (i':Nat) (d:D) (v:V) (m':Md),some k≠some j→as[j]?=some (.bor i')→σ[i']?=some (some v)→ρ[i']?=some (some (d,m'))→m' ≠ .fz→v ≠ .ref p:=fun j i' d v m' ne ea q1 q2 hm' z=>by
    have ni:i'≠i:=iE hap ea (fun z=>ne (by rw [← z,Nat.zero_add]));subst z;exact ni (R.apart i' i _ _ _ _ _ q2 hm' e0 hmf q1 g1)
   by_cases hn:cx (some k) 0 as ρ=true
   ·have m1:∀ b,b∈[p]++(W.filter (fun a=>decide (a≠p))++F.Z)→b∈W++F.Z:=fun b hb=>by
     rcases List.mem_append.mp hb with z | z
     ·rw [List.mem_singleton.mp z];exact List.mem_append_left _ hpW
     ·rcases List.mem_append.mp z with z | z
      ·exact List.mem_append_left _ (List.mem_filter.mp z).1
      ·exact List.mem_append_right _ z
    have m2:∀ b,b∈W++F.Z→b∈[p]++(W.filter (fun a=>decide (a≠p))++F.Z):=fun b hb=>by
     by_cases z:b=p
     ·rw [z];exact List.mem_append_left _ (List.mem_singleton.mpr rfl)
     ·refine List.mem_append_right _ ?_
      rcases List.mem_append.mp hb with y | y
      ·exact List.mem_append_left _ (List.mem_filter.mpr ⟨y,decide_eq_true z⟩)
      ·exact List.mem_append_right _ y
    have sh:aj (hid (W++F.Z) H) (hid ([p]++(W.filter (fun a=>decide (a≠p))++F.Z)) H):=aY (fun b hb=> .inl (m1 b hb)) fun b o _ e=>e
    refine ⟨[p],W.filter (fun a=>decide (a≠p))++F.Z,fun q hq z=> ?_,m1,fun q hq=>by rw [List.mem_singleton.mp hq];exact hpW,fun _=>m2,fun j d v ne e1 e2=> ?_,fun k' z=> ?_,fun z=>(by cases z),fin⟩
    ·rw [List.mem_singleton.mp hq] at z
     rcases List.mem_append.mp z with y | y
     ·exact absurd rfl (of_decide_eq_true (List.mem_filter.mp y).2)
     ·exact R.wz p hpW y
    ·obtain ⟨a,ea,ra⟩:=A.get e1 e2
     cases a with
     | ex f=>exact sh.repD ra
     | bor i' =>
      obtain ⟨d',hd'⟩:=gR hn ea (by rw [Nat.zero_add];exact ne);obtain ⟨q1,m',q2⟩:=ra;rw [hd'] at q2;cases q2;obtain ⟨v',q3,q4⟩:=R.slot i' _ _ hd';rw [q1] at q3;cases q3;exact sh.repD q4
    ·cases z
     exact ⟨p,_,f2,f1,rfl,hO.at rfl sh⟩
   ·have m1:∀ b,b∈[p]++F.Z→b∈W++F.Z:=fun b hb=>by
     rcases List.mem_append.mp hb with z | z
     ·rw [List.mem_singleton.mp z];exact List.mem_append_left _ hpW
     ·exact List.mem_append_right _ z
    have sh:aj (hid (W++F.Z) H) (hid ([p]++F.Z) H):=aY (fun b hb=> .inl (m1 b hb)) fun b o _ e=>e
    refine ⟨[p],F.Z,fun q hq z=>by rw [List.mem_singleton.mp hq] at z;exact R.wz p hpW z,m1,fun q hq=>by rw [List.mem_singleton.mp hq];exact hpW,fun z=>absurd z hn,fun j d v ne e1 e2=> ?_,fun k' z=> ?_,fun z=>(by cases z),fin⟩
    ·obtain ⟨a,ea,ra⟩:=A.get e1 e2
     cases a with
     | ex f=>exact sh.repD ra
     | bor i' =>
      obtain ⟨q1,m',q2⟩:=ra;obtain ⟨v',q3,q4⟩:=R.slot i' _ _ q2;rw [q1] at q3;cases q3
      have out:∀ r,v = .ref r→m' ≠ .fz→r∈W→r∉[p]++F.Z:=fun r er hm' hr z=>by
       rcases List.mem_append.mp z with y | y
       ·rw [List.mem_singleton.mp y] at er
        exact oth j i' _ _ _ ne ea q1 q2 hm' er
       ·exact R.wz r hr y
      cases m' with
      | fz=>exact sh.repD q4
      | ow=>obtain ⟨r,rfl,hr,hO'⟩:=q4;exact hO'.rep (aQ (out r rfl (by decide) hr)) sh
      | io=>obtain ⟨r,rfl,hr,hO',_⟩:=q4;exact hO'.rep (aQ (out r rfl (by decide) hr)) sh
    ·cases z
     exact ⟨p,_,f2,f1,rfl,hO.at rfl sh⟩
end
section
variable{X:Cx}{EX:EXT}{e:Expr}{es:List Expr}{as:List Arg}
theorem kJ{L L':List Addr}{H:Hp}(h:∀ b,b∈L'→b∈L):aj (hid L H) (hid L' H):=aY (fun b hb=> .inl (h b hb)) fun b o _ e=>e
theorem av{x:Str}{ps:List Str}{k k':Nat}{io slot:Option Nat}{run:FS}{p pos:Pos}(C:lW X EX)(h:OkX X.prog X.w X.K X.mg X.base x ps k (spF X.K io run))(hr:dW k' X.A)(hk:k≤k')(hg:Gl X x)(ha:JA X EX (e::es) as)
 (hio:ioOk io as slot=true:=by rfl) (hdb:(x == ("__debug__" : Str))=false:=by decide) (he:starEach (e::es) X.env=(false,eval e X.env)::starEach es X.env:=by rfl) (hpl:(backTo pos (starEach es X.env)).any (·.1)=false:=by rfl) :
 JE X EX (.Call (.Name x p) (e::es) [] pos) (aw io slot run as) :=
 ⟨(C.call h (hr.mono hk) hg ha.p hdb he hpl).by fun σ H Q ⟨F,ρ,W,R,h⟩=>by
   refine sM as R ?_;unfold aw at h
   revert h
   cases evA as ρ with
   | none=>exact fun h=>h
   | some q =>
    obtain ⟨q,ρ1⟩:=q
    cases q with
    | ex C=>exact fun h=>h
    | ok ds =>
     dsimp only
     cases er:run ds with
     | none=>exact fun h=>h.elim
     | some r =>
      obtain ⟨r,dio⟩:=r
      have key:∀ {ρ2:Rho} {vs:List V} {H1:Hp} {W1:List Addr} (b:Bool),Rel X.K F σ H1 ρ1 W1→fK X.K F σ H1 ρ1 W1 as ds vs→eJ slot dio ρ1=some ρ2→(cx io 0 as ρ1||(b&&(io.isNone||cD dio)))=true →
       ∃ Wc Zc,(∀ p∈Wc,p∉Zc)∧(∀ p∈Wc++Zc,fC (H1 p))∧(∀ p∈Wc,p∈W1) ∧
        (∀ (j:Nat) (d:D) (v:V),io≠some j→ds[j]?=some d→vs[j]?=some v→aH X.K (hid (Wc++Zc) H1) d v) ∧
        (∀ k,io=some k→∃ p d,vs[k]?=some (V.ref p)∧ds[k]?=some d∧Wc=[p]∧aT X.K H1 (hid (Wc++Zc) H1) p d)∧(io=none→Wc=[]) ∧
        ∀ H2 Q',Fr Wc H1 H2→(∀ b,b∈Q'→H1 b=none)→(∀ p,Wc=[p]→aT X.K H2 (hid (Q'++(Wc++Zc)) H2) p dio) →
         Rel X.K F σ (hid Q' H2) ρ2 W1∧(∀ p∈W1++F.Z,fC (H2 p))∧((∀ b,b∈W1++F.Z→b∈Wc++Zc)∨b=true):=fun {ρ2 vs H1 W1} b R1 A1 hput hc=>by
       obtain ⟨Wc,Zc,c1,c2,c3,c4,c5,c6,c7,c8⟩:=zI R1 A1 hio hput;refine ⟨Wc,Zc,c1,fun p hp=>R1.mt p (c2 p hp),c3,c5,c6,c7,fun H2 Q' fr hQ own=> ?_⟩
       have wc1:∀ p∈Wc,Wc=[p]:=fun p hp=>by
        cases hz:io with
        | none=>rw [c7 hz] at hp;cases hp
        | some k =>
         obtain ⟨p',_,_,_,e,_⟩:=c6 k hz;rw [e] at hp ⊢;rw [List.mem_singleton.mp hp]
       have mt2:∀ p∈W1++F.Z,fC (H2 p):=fun p hp=>by
        by_cases z:p∈Wc
        ·exact (own p (wc1 p z)).mu
        ·obtain ⟨u,q⟩:=(R1.mt p hp).some
         rw [fr.keep p u z q,← q];exact R1.mt p hp
       have qn:∀ p∈W1++F.Z,p∉Q':=fun p hp z=>by
        have:=R1.mt p hp;rw [hQ p z] at this;exact this
       have fr2:Fr Wc H1 (hid Q' H2):=⟨fun b o n e=>by
        rw [aQ (fun z=>by rw [hQ b z] at e;cases e)]
        exact fr.keep b o n e,fun b e=>by
        by_cases z:b∈Q'
        ·exact hQ b z
        ·rw [aQ z] at e;exact fr.dom b e⟩
       have or1:(∀ b,b∈W1++F.Z→b∈Wc++Zc)∨(b=true∧(io.isNone||cD dio)=true):=by
        rcases (Bool.or_eq_true _ _).mp hc with z | z
        ·exact .inl (c4 z)
        ·exact .inr ((Bool.and_eq_true _ _).mp z)
       refine ⟨c8 _ fr2 fun p hp=> ?_,mt2,or1.imp id (·.1)⟩;have hpW:p∈W1++F.Z:=List.mem_append_left _ (c3 p (by rw [hp];exact List.mem_singleton.mpr rfl));have o1:=own p hp
       have sg:aj (hid (Q'++(W1++F.Z)) H2) (hid (W1++F.Z) (hid Q' H2)):=fun b o e=>by
        obtain ⟨z1,z2⟩:=ay e;rw [aQ (fun z=>z1 (List.mem_append_right _ z)),aQ (fun z=>z1 (List.mem_append_left _ z))];exact z2
       rcases or1 with z | ⟨_,z⟩
       ·refine o1.at (aQ (qn p hpW)) (aj.trans (kJ fun b hb=> ?_) sg)
        rcases List.mem_append.mp hb with y | y
        ·exact List.mem_append_left _ y
        ·exact List.mem_append_right _ (z b y)
       ·have hf:cD dio=true:=by
         cases hz:io with
         | none=>rw [c7 hz] at hp;cases hp
         | some k=>rw [hz] at z;exact z
        have hnf:aT X.K H2 (hid (W1++F.Z) H2) p dio:=o1.flat mt2 hf
        have o2:aT X.K (hid Q' H2) (hid (Wc++Zc) (hid Q' H2)) p dio:=o1.at (aQ (qn p hpW)) fun b o e=>by
         obtain ⟨z1,z2⟩:=ay e;rw [aQ (fun z=>z1 (List.mem_append_right _ z)),aQ (fun z=>z1 (List.mem_append_left _ z))];exact z2
        exact o2.flat (fun p hp=>by rw [aQ (qn p hp)];exact mt2 p hp) hf
      cases r with
      | ex C =>
       dsimp only
       split
       ·rename_i hc
        cases ep:eJ slot dio ρ1 with
        | none=>exact fun h=>h.elim
        | some ρ2 =>
         intro h vs H1 W1 fr1 sub1 R1 A1;obtain ⟨Wc,Zc,c1,c2,c3,c5,c6,c7,c8⟩:=key true R1 A1 ep (by simpa using hc);refine ⟨Zc,Wc,ds,A1.len,c1,c2,c5,c6,c7,?_⟩;rw [er];intro H2 fr2 own ca hca x;obtain ⟨R2,_,_⟩:=c8 H2 [] fr2 (fun b hb=>by simp at hb) own;exact ⟨C,ca,rfl,hca,h H2 W1 (fr1.trans fr2 fun p hp=> .inl (sub1 p (c3 p hp))) sub1 (R2.same aC)⟩
       ·exact fun h=>h.elim
      | ok d nw =>
       dsimp only
       split
       ·rename_i hc
        cases ep:eJ slot dio ρ1 with
        | none=>exact fun h=>h.elim
        | some ρ2 =>
         intro h vs H1 W1 fr1 sub1 R1 A1;obtain ⟨Wc,Zc,c1,c2,c3,c5,c6,c7,c8⟩:=key (g7 d nw) R1 A1 ep hc;refine ⟨Zc,Wc,ds,A1.len,c1,c2,c5,c6,c7,?_⟩;rw [er]
         cases nw with
         | false =>
          intro v H2 fr2 rep own;obtain ⟨R2,mt2,z⟩:=c8 H2 [] fr2 (fun b hb=>by simp at hb) own;refine h v H2 W1 (fr1.trans fr2 fun p hp=> .inl (sub1 p (c3 p hp))) sub1 ⟨?_,R2.same aC⟩
          rcases z with z | z
          ·exact (kJ z).repD rep
          ·exact aH.flat mt2 z rep
         | true =>
          intro q H2 fr2 hq hO own;obtain ⟨R2,mt2,z⟩:=c8 H2 [q] fr2 (fun b hb=>by rw [List.mem_singleton.mp hb];exact hq) own;refine h (.ref q) H2 W1 (fr1.trans fr2 fun p hp=> .inl (sub1 p (c3 p hp))) sub1 ⟨q,rfl,fr1.dom q hq,R1.fresh hq,?_,R2⟩
          rcases z with z | z
          ·refine hO.at rfl (kJ fun b hb=> ?_)
           rcases List.mem_cons.mp hb with y | y
           ·rw [y];exact List.mem_cons_self
           ·exact List.mem_cons_of_mem _ (z b y)
          ·refine hO.flat (fun p hp=> ?_) z
           rcases List.mem_cons.mp hp with y | y
           ·rw [y];exact hO.mu
           ·exact mt2 p y
       ·exact fun h=>h.elim⟩
end
end L2
namespace L2
open PySem PySem.Spec PyProof.Rows
theorem PS.nox{X:Cx}{st:Stmt}{t:TS}(h:PS X.nox st t):PS X st t:=fun pins s σ H D I hw =>
 wpAny_mono (h pins s σ H D (I.wish _) hw) (fun _ _ q=>q.unwish) fun _ _ z=>False.elim z
abbrev SI:=Rho→Option (pd×Rho)
structure ItOk(K:PySem.W.Frag)(L0:List Addr)(ds:List D)(J:It)(H0:Hp):Prop where
 go:∀ (H:Hp) (L:List Addr) (i:Nat) (d:D),aj (hid L0 H0) (hid L H)→(∀ p∈L,fC (H p))→ds[i]?=some d→J.go i H∧∀ x H',J.yld i H x H'→aj H H'∧aH K (hid L H') d x
 stop:∀ H,aj (hid L0 H0) H→J.stop ds.length H
 few:ds.length≤sizeLine
section
variable(K:PySem.W.Frag)(F:Fx)(EX:EXT)(σ:St)(H:Hp)(W:List Addr)
def OkI(o:Option (pd×Rho))(R:It→Hp→Prop):Prop:=match o with
 | some (.ok ds,ρ')=>∀ J H' W',Fr W H H'→(∀ p∈W',p∈W)→Rel K F σ H' ρ' W'→ItOk K (W'++F.Z) ds J H'→R J H'
 | some (.ex C,ρ')=>∀ H' W',Fr W H H'→(∀ p∈W',p∈W)→Rel K F σ H' ρ' W'→EX C σ H'
 | none=>False
end
def tI(K:PySem.W.Frag)(EX:EXT)(f:SI):TI:=fun σ H R=>∃ F ρ W,Rel K F σ H ρ W∧OkI K F EX σ H W (f ρ) R
structure JI(X:Cx)(EX:EXT)(tg iter:Expr)(f:SI):Prop where
 p:PI X tg iter (tI X.K EX f)
def bR(T:Tg)(f:SS):List D→Rho→Option (Out×Rho)
 | [],ρ=>some (.nx,ρ)
 | d::ds,ρ=>match bZ T d ρ with
  | none=>none
  | some ρ1=>match f ρ1 with
   | some (.nx,ρ2)=>bR T f ds ρ2
   | some (.ct,ρ2)=>bR T f ds ρ2
   | some (.bk,ρ2)=>some (.nx,ρ2)
   | some (.rt d nw,ρ2)=>some (.rt d nw,ρ2)
   | some (.ex _,_)=>none
   | none=>none
def em(it:SI)(T:Tg)(f:SS):SS:=fun ρ=>match it ρ with
 | some (.ok ds,ρ1)=>bR T f ds ρ1
 | some (.ex _,_)=>none
 | none=>none
section
variable{X:Cx}{EX:EXT}{tg iter c:Expr}{body:List Stmt}{pos:Pos}
theorem eY{it:SI}{T:Tg}{f:SS}(hc:X.calm=true)(hi:JI X.nox EXn tg iter it)(hg:JG X.nox tg T)(hb:JSs X.nox EXn body f)(hs:∀ x,foldedSetIterable iter X.env x=pure x:=by intro _;rfl):JS X EX (.For tg iter body [] pos) (em it T f) :=
 ⟨(PS.nox (wf (X:=X.nox) PassesOwn.never hc hi.p hg.p hb.p hs)).by fun D σ H ⟨F,ρ,W,R,h⟩=>⟨F,ρ,W,R,by
   unfold em at h
   revert h
   cases it ρ with
   | none=>exact fun h=>h
   | some q =>
    obtain ⟨q,ρ1⟩:=q
    cases q with
    | ex C=>exact fun h=>h.elim
    | ok ds =>
     intro h J H1 W1 fr1 sub1 R1 ok;have h:OkS X.K F EX H W (bR T f ds ρ1) D:=h
     refine ⟨fun i m σ H2=>m=ds.length - i∧i≤ds.length∧∃ ρ2 W2,Rel X.K F σ H2 ρ2 W2∧Fr W1 H1 H2∧(∀ p∈W2,p∈W1∨H1 p=none)∧OkS X.K F EX H2 W2 (bR T f (ds.drop i) ρ2) D,
      ⟨ds.length,by simp,Nat.zero_le _,ρ1,W1,R1,.refl,fun _ z=> .inl z,OkS.go h fr1 fun p hp=> .inl (sub1 p hp)⟩,?_⟩
     rintro i m σ2 H2 ⟨rfl,hi,ρ2,W2,R2,fr2,sub2,h2⟩
     by_cases hlt:i < ds.length
     ·have hd:ds.drop i=ds[i]::ds.drop (i+1):=List.drop_eq_getElem_cons hlt
      rw [hd] at h2;unfold bR at h2;obtain ⟨g1,g2⟩:=ok.go H2 (W2++F.Z) i ds[i] (fr2.hid sub2) R2.mt (List.getElem?_eq_getElem hlt);refine .inr ⟨g1,fun σ3 H3=>ds.length - (i+1)=ds.length - (i+1)∧i+1≤ds.length∧∃ ρ3 W3,Rel X.K F σ3 H3 ρ3 W3∧Fr W1 H1 H3∧(∀ p∈W3,p∈W1∨H1 p=none)∧OkS X.K F EX H3 W3 (bR T f (ds.drop (i+1)) ρ3) D,fun σ3 H3 z=>⟨_,by omega,z⟩,fun x H3 y=> ?_⟩;obtain ⟨s3,rx⟩:=g2 x H3 y
      revert h2
      cases ea:bZ T ds[i] ρ2 with
      | none=>exact fun h=>h.elim
      | some ρ3 =>
       intro h2
       refine tP (n:=0) T (R2.same s3) rx ea fun σ4 _ R4=>⟨F,ρ3,W2,R4,?_⟩
       have fr3:Fr W1 H1 H3:=fr2.trans (s3.fr (W:=W2)) sub2
       have h3:OkS X.K F EX H3 W2 _ D:=OkS.go h2 (s3.fr (W:=W2)) fun p hp=> .inl hp
       have sub3:∀ {W4:List Addr},(∀ p∈W4,p∈W2∨H3 p=none)→∀ p∈W4,p∈W1∨H1 p=none:=fun {W4} s p hp=>(s p hp).elim (sub2 p) fun z=> .inr (fr3.dom p z)
       revert h3
       dsimp only
       cases f ρ3 with
       | none=>exact fun h=>h
       | some q =>
        obtain ⟨q,ρ4⟩:=q
        cases q with
        | nx=>exact fun h3 σ5 H5 W5 fr5 sub5 R5=>⟨rfl,hlt,ρ4,W5,R5,fr3.trans fr5 sub2,sub3 sub5,OkS.go h3 fr5 sub5⟩
        | ct=>exact fun h3 σ5 H5 W5 fr5 sub5 R5=>⟨rfl,hlt,ρ4,W5,R5,fr3.trans fr5 sub2,sub3 sub5,OkS.go h3 fr5 sub5⟩
        | bk=>exact fun h3=>h3
        | ex C=>exact fun h3=>h3.elim
        | rt d nw=>exact fun h3=>h3
     ·have e:i=ds.length:=by omega
      subst e;rw [List.drop_length] at h2
      exact .inl ⟨ok.stop H2 ((fr2.hid sub2).trans aC),h2 σ2 H2 W2 .refl (fun _ z=> .inl z) R2⟩⟩⟩
end
def evC(c:Option ST)(ρ:Rho):Option (vv×Rho):=match c with
 | none=>some (.ok true,ρ)
 | some c=>c ρ
def bW(k:Nat)(T:Tg)(c:Option ST)(f:SE):List D→Rho→Option (List D×Rho)
 | [],ρ=>some ([],ρ)
 | d::ds,ρ=>match bZ T d (ρ++List.replicate k none) with
  | none=>none
  | some ρ1=>match evC c ρ1 with
   | some (.ok true,ρ2)=>match f ρ2 with
    | some (.ok y _,ρ3)=>match bW k T c f ds (ρ3.take ρ.length) with
     | some (ys,ρ4)=>some (y::ys,ρ4)
     | none=>none
    | some (.ex _,_)=>none
    | none=>none
   | some (.ok false,ρ2)=>bW k T c f ds (ρ2.take ρ.length)
   | some (.ex _,_)=>none
   | none=>none
def b8(k:Nat)(it:SI)(T:Tg)(c:Option ST)(f:SE):SE:=fun ρ=>match it ρ with
 | some (.ok ds,ρ1)=>if Tg.ge ρ1.length T=true then
  match bW k T c f ds ρ1 with
  | some (ys,ρ2)=>some (.ok (.lst ys) true,ρ2)
  | none=>none
  else none
 | some (.ex C,ρ1)=>some (.ex C,ρ1)
 | none=>none
def tIfC(K:PySem.W.Frag)(c:Option ST):TT:=match c with
 | none=>zT
 | some c=>tVT K EXn c
section
variable{K:PySem.W.Frag}{F:Fx}{EX:EXT}{σ:St}{H:Hp}{ρ:Rho}{W:List Addr}
theorem Rel.ext(R:Rel K F σ H ρ W)(k:Nat):Rel K F (σ++List.replicate k none) H (ρ++List.replicate k none) W:=by
 have old:∀ {i:Nat} {d:D} {m:Md},(ρ++List.replicate k none)[i]?=some (some (d,m))→ρ[i]?=some (some (d,m))∧i < ρ.length:=fun {i d m} h=>by
  by_cases hi:i < ρ.length
  ·rw [List.getElem?_append_left hi] at h
   exact ⟨h,hi⟩
  ·rw [List.getElem?_append_right (by omega),List.getElem?_replicate] at h
   split at h<;>cases h
 refine ⟨fun i d m h=> ?_,fun i j d e m n p h1 h2 h3 h4 h5 h6=> ?_,R.wz,R.mt,by rw [List.length_append,List.length_append,List.length_replicate,List.length_replicate,R.len]⟩
 ·obtain ⟨h,hi⟩:=old h
  obtain ⟨v,g1,g2⟩:=R.slot i d m h;exact ⟨v,by rw [List.getElem?_append_left (by rw [R.len];exact hi)];exact g1,g2⟩
 ·obtain ⟨h1,i1⟩:=old h1
  obtain ⟨h3,i3⟩:=old h3;rw [List.getElem?_append_left (by rw [R.len];exact i1)] at h5;rw [List.getElem?_append_left (by rw [R.len];exact i3)] at h6;exact R.apart i j _ _ _ _ _ h1 h2 h3 h4 h5 h6
theorem Rel.cut{σ2:St}(R:Rel K F σ2 H ρ W)(h:σ2.take σ.length=σ)(hl:σ.length≤σ2.length):Rel K F σ H (ρ.take σ.length) W:=by
 have old:∀ {i:Nat} {d:D} {m:Md},(ρ.take σ.length)[i]?=some (some (d,m))→ρ[i]?=some (some (d,m))∧i < σ.length:=fun {i d m} h=>by
  rw [List.getElem?_take] at h
  split at h
  ·exact ⟨h,by assumption⟩
  ·cases h
 have eq:∀ {i:Nat},i < σ.length→σ2[i]?=σ[i]?:=fun {i} hi=>by
  have e:=List.getElem?_take_of_lt (l:=σ2) hi;rw [h] at e;exact e.symm
 refine ⟨fun i d m h=> ?_,fun i j d e m n p h1 h2 h3 h4 h5 h6=> ?_,R.wz,R.mt,by rw [List.length_take,← R.len];omega⟩
 ·obtain ⟨h,hi⟩:=old h
  obtain ⟨v,g1,g2⟩:=R.slot i d m h;exact ⟨v,by rw [← eq hi];exact g1,g2⟩
 ·obtain ⟨h1,i1⟩:=old h1
  obtain ⟨h3,i3⟩:=old h3;rw [← eq i1] at h5;rw [← eq i3] at h6;exact R.apart i j _ _ _ _ _ h1 h2 h3 h4 h5 h6
theorem zx{k:Nat}{it:SI}{T:Tg}{c:Option ST}{f:SE}{Q:VK}(hw:tV K EX (b8 k it T c f) σ H Q):sR (tI K EX it) k (gT K T) (tIfC K c) (tV K EXn f) σ H Q:=by
 obtain ⟨F,ρ,W,R,h⟩:=hw;refine ⟨F,ρ,W,R,?_⟩;unfold b8 at h
 revert h
 cases it ρ with
 | none=>exact fun h=>h
 | some q =>
  obtain ⟨q,ρ1⟩:=q
  cases q with
  | ex C=>exact fun h=>h
  | ok ds =>
   dsimp only
   split
   ·rename_i hge
    cases es:bW k T c f ds ρ1 with
    | none=>exact fun h=>h.elim
    | some z =>
     obtain ⟨tot,ρe⟩:=z;intro h J H1 W1 fr1 sub1 R1 ok
     refine ⟨fun i m ys H2=>m=ds.length - i∧i≤ds.length∧∃ ρ2 W2 acc rest,Rel K F σ H2 ρ2 W2∧Fr W1 H1 H2∧(∀ p∈W2,p∈W1)∧ao K (hid (W2++F.Z) H2) acc ys∧acc.length≤i∧bW k T c f (ds.drop i) ρ2=some (rest,ρe)∧acc++rest=tot,
      ⟨ds.length,by simp,Nat.zero_le _,ρ1,W1,[],tot,R1,.refl,fun _ z=>z,trivial,Nat.zero_le _,es,rfl⟩,?_⟩
     rintro i m ys H2 ⟨rfl,hi,ρ2,W2,acc,rest,R2,fr2,sub2,rp,la,e2,et⟩
     have sub2':∀ p∈W2,p∈W1∨H1 p=none:=fun p hp=> .inl (sub2 p hp)
     have few:=ok.few;have ly:=rp.len;refine ⟨by omega,?_⟩
     by_cases hlt:i < ds.length
     ·have hd:ds.drop i=ds[i]::ds.drop (i+1):=List.drop_eq_getElem_cons hlt
      rw [hd] at e2;unfold bW at e2;obtain ⟨g1,g2⟩:=ok.go H2 (W2++F.Z) i ds[i] (fr2.hid sub2') R2.mt (List.getElem?_eq_getElem hlt);refine .inr ⟨g1,fun x H3 y=> ?_⟩;obtain ⟨s3,rx⟩:=g2 x H3 y
      cases ea:bZ T ds[i] (ρ2++List.replicate k none) with
      | none=>rw [ea] at e2;cases e2
      | some ρ3 =>
       rw [ea] at e2;dsimp only at e2;have lenσ:σ.length=ρ1.length:=R1.len;have lenσ2:σ.length=ρ2.length:=R2.len
       refine tP (n:=σ.length) T ((R2.same s3).ext k) rx ea fun σ4 tk R4=> ?_
       have tk:=tk (by rw [lenσ];exact hge);rw [List.take_left] at tk
       have l4:σ.length≤σ4.length:=by
        have:=congrArg List.length tk;rw [List.length_take] at this;omega
       refine ⟨tk,?_⟩;have fr3:Fr W1 H1 H3:=fr2.trans (s3.fr (W:=W2)) sub2'
       have rest:∀ b ρ4,evC c ρ3=some (.ok b,ρ4)→∀ H4 W4,Fr W2 H3 H4→(∀ p∈W4,p∈W2)→Rel K F σ4 H4 ρ4 W4 →
        (if b=true then tV K EXn f σ4 H4 fun y H5=>∃ m',m' < ds.length - i∧(m'=ds.length - (i+1)∧i+1≤ds.length∧∃ ρ2 W2 acc rest,Rel K F σ H5 ρ2 W2∧Fr W1 H1 H5∧(∀ p∈W2,p∈W1)∧ao K (hid (W2++F.Z) H5) acc (ys++[y])∧acc.length≤i+1∧bW k T c f (ds.drop (i+1)) ρ2=some (rest,ρe)∧acc++rest=tot)
        else ∃ m',m' < ds.length - i∧(m'=ds.length - (i+1)∧i+1≤ds.length∧∃ ρ2 W2 acc rest,Rel K F σ H4 ρ2 W2∧Fr W1 H1 H4∧(∀ p∈W2,p∈W1)∧ao K (hid (W2++F.Z) H4) acc ys∧acc.length≤i+1∧bW k T c f (ds.drop (i+1)) ρ2=some (rest,ρe)∧acc++rest=tot)):=fun b ρ4 ec H4 W4 fr4 sub4 R4=>by
        rw [ec] at e2;have frA:Fr W1 H1 H4:=fr3.trans fr4 sub2';have sA:aj (hid (W2++F.Z) H2) (hid (W4++F.Z) H4):=aj.trans (aY (fun b hb=> .inl hb) fun b o _ e=>s3 b o e:aj (hid (W2++F.Z) H2) (hid (W2++F.Z) H3)) (fr4.hid fun p hp=> .inl (sub4 p hp))
        cases b with
        | false =>
         dsimp only at e2;rw [if_neg Bool.false_ne_true];exact ⟨_,by omega,rfl,hlt,ρ4.take σ.length,W4,acc,_,R4.cut tk l4,frA,fun p hp=>sub2 p (sub4 p hp),sA.repDs rp,by omega,by rw [lenσ2];exact e2,et⟩
        | true =>
         dsimp only at e2;rw [if_pos rfl];refine ⟨F,ρ4,W4,R4,?_⟩
         cases ef:f ρ4 with
         | none=>rw [ef] at e2;cases e2
         | some q =>
          obtain ⟨q,ρ5⟩:=q;rw [ef] at e2
          cases q with
          | ex C=>cases e2
          | ok y nw =>
           dsimp only at e2
           cases e3:bW k T c f (ds.drop (i+1)) (ρ5.take ρ2.length) with
           | none=>rw [e3] at e2;cases e2
           | some z =>
            obtain ⟨rest',ρe'⟩:=z;rw [e3] at e2;cases e2;intro v H5 W5 fr5 sub5 P5;obtain ⟨rv,R5⟩:=P5.plain;refine ⟨_,by omega,rfl,hlt,ρ5.take σ.length,W5,acc++[y],rest',R5.cut tk l4,frA.trans fr5 fun p hp=> .inl (sub2 p (sub4 p hp)),fun p hp=>sub2 p (sub4 p (sub5 p hp)),ao.app ((fr5.hid fun p hp=> .inl (sub5 p hp)).repDs (sA.repDs rp)) ⟨rv,trivial⟩,?_,by rw [lenσ2];exact e3,?_⟩
            ·rw [List.length_append];simp;omega
            ·rw [← et,List.append_assoc];rfl
       cases c with
       | none=>exact rest true ρ3 rfl H3 W2 .refl (fun _ z=>z) R4
       | some c =>
        refine ⟨F,ρ3,W2,R4,?_⟩;have e2':=e2;unfold evC at e2';dsimp only at e2'
        cases ec:c ρ3 with
        | none=>rw [ec] at e2';cases e2'
        | some q =>
         obtain ⟨q,ρ4⟩:=q
         cases q with
         | ex C=>rw [ec] at e2';cases e2'
         | ok b=>exact fun H4 W4 fr4 sub4 R4=>rest b ρ4 ec H4 W4 fr4 sub4 R4
     ·have e:i=ds.length:=by omega
      subst e;rw [List.drop_length] at e2;have e2:some (([]:List D),ρ2)=some (rest,ρe):=e2;cases e2;rw [List.append_nil] at et;subst et;refine .inl ⟨ok.stop H2 ((fr2.hid sub2').trans aC),fun l hl=> ?_⟩;refine h (.ref l) _ W2 ((fr1.trans fr2 fun p hp=> .inl (sub1 p hp)).trans ((aj.upd hl).fr (W:=W2)) fun p hp=> .inl (sub1 p (sub2 p hp))) (fun p hp=>sub1 p (sub2 p hp)) ?_
      refine f7.back (gN.e (nw:=true) ⟨l,rfl,hl,ys,aD,?_⟩ R2 (aj.upd hl)) fun b hb=>fr1.dom b (fr2.dom b hb)
      exact (aY (fun b hb=>(List.mem_cons.mp hb).elim (fun z=> .inr (by rw [z];exact hl)) .inl) fun b o _ e=>aj.upd hl b o e:aj (hid (W2++F.Z) H2) _).repDs rp
   ·exact fun h=>h.elim
end
inductive JC(X:Cx):List Expr→Option ST→Prop where
 | no:JC X [] none
 | one {c:Expr} {t:ST} (h:JT X EXn c t):JC X [c] (some t)
theorem JC.p{X:Cx}{ifs:List Expr}{c:Option ST}(h:JC X ifs c):xM X ifs (tIfC X.K c):=by
 cases h with
 | no=>exact pif0
 | one h=>exact pif1 h.p
section
variable{X:Cx}{EX:EXT}{elt tg iter:Expr}{ifs:List Expr}{sc:Scope}{M tgs:List Str}{pos:Pos}{it:SI}{T:Tg}{c:Option ST}{f:SE}
theorem df(hc:X.calm=true)(B:qV X sc M tgs)(hi:JI X EX tg iter it)(hg:∀ cl C fp s H,JG (blk X sc cl C fp s H (M++tgs)) tg T)(ht:∀ cl C fp s H,JC (blk X sc cl C fp s H (M++tgs)) ifs c)(he:∀ cl C fp s H,JE (blk X sc cl C fp s H (M++tgs)) EXn elt f)
 (hs:∀ x,foldedSetIterable iter X.env x=pure x:=by intro _;rfl):JE X EX (.ListComp elt [⟨tg,iter,ifs,0⟩] sc pos) (b8 tgs.length it T c f) :=
 ⟨(yM hc B hi.p (fun cl C fp s H=>(hg cl C fp s H).p) (fun cl C fp s H=>(ht cl C fp s H).p) (fun cl C fp s H=>(he cl C fp s H).p) hs).by fun σ H Q h=>zx h⟩
end
end L2
namespace L2
open PySem PySem.Spec PyProof.Rows
mutual
def nrm:D→D
 | .ktup ds=> .tup (cw ds)
 | .tup ds=> .tup (cw ds)
 | .klst ds=> .lst (cw ds)
 | .lst ds=> .lst (cw ds)
 | d=>d
def cw:List D→List D
 | []=>[]
 | d::ds=>nrm d::cw ds
end
mutual
def eqN:D→D→Bool
 | .non,.non=>true
 | .bl a,.bl b=>a == b
 | .bl a,.int b=>(if a then 1 else 0) == b
 | .int a,.bl b=>a == (if b then 1 else 0)
 | .int a,.int b=>a == b
 | .str a,.str b=>a == b
 | .tup a,.tup b=>fV a b
 | .lst a,.lst b=>fV a b
 | _,_=>false
def fV:List D→List D→Bool
 | [],[]=>true
 | a::as,b::bs=>eqN a b&&fV as bs
 | _,_=>false
end
def eqD(d e:D):Bool:=eqN (nrm d) (nrm e)
def ak:Nat→D→Bool
 | _,.non=>true
 | _,.bl _=>true
 | _,.int _=>true
 | _,.str _=>true
 | n+1,.tup ds=>ds.all (ak n)
 | n+1,.ktup ds=>ds.all (ak n)
 | n+1,.lst ds=>ds.all (ak n)
 | n+1,.klst ds=>ds.all (ak n)
 | _,_=>false
theorem lh:∀ {ds:List D},(cw ds).length=ds.length
 | []=>rfl
 | _::ds=>by unfold cw;rw [List.length_cons,List.length_cons,lh]
theorem eK:∀ {ds:List D} {j:Nat},(cw ds)[j]?=ds[j]?.map nrm
 | [],j=>by unfold cw;simp
 | d::ds,0=>by unfold cw;simp
 | d::ds,j+1=>by unfold cw;simp;exact eK
theorem lI:∀ {as bs:List D},fV as bs=((List.range (min as.length bs.length)).all (fun j=>match as[j]?,bs[j]? with | some a,some b=>eqN a b | _,_=>true)&&as.length == bs.length)
 | [],[]=>rfl
 | [],b::bs=>by unfold fV;simp
 | a::as,[]=>by unfold fV;simp
 | a::as,b::bs=>by
  unfold fV;rw [lI (as:=as) (bs:=bs)]
  have e1:min (a::as).length (b::bs).length=min as.length bs.length+1:=by simp only [List.length_cons];omega
  have e2:((a::as).length == (b::bs).length)=(as.length == bs.length):=by simp
  rw [e1,e2,List.range_succ_eq_map,List.all_cons,List.all_map,Bool.and_assoc]
  congr 1
mutual
theorem lJ:∀ (n:Nat) {d:D},ak n d=true→eqN (nrm d) (nrm d)=true
 | n,.non,_=>rfl
 | n,.bl _,_=>by unfold nrm eqN;simp
 | n,.int _,_=>by unfold nrm eqN;simp
 | n,.str _,_=>by unfold nrm eqN;simp
 | n+1,.tup ds,h=>by unfold nrm eqN;exact fJ n (by unfold ak at h;exact h)
 | n+1,.ktup ds,h=>by unfold nrm eqN;exact fJ n (by unfold ak at h;exact h)
 | n+1,.lst ds,h=>by unfold nrm eqN;exact fJ n (by unfold ak at h;exact h)
 | n+1,.klst ds,h=>by unfold nrm eqN;exact fJ n (by unfold ak at h;exact h)
 | 0,.tup _,h=>by unfold ak at h;cases h
 | 0,.ktup _,h=>by unfold ak at h;cases h
 | 0,.lst _,h=>by unfold ak at h;cases h
 | 0,.klst _,h=>by unfold ak at h;cases h
 | _,.dK _ _,h=>by unfold ak at h;cases h
 | _,.dT _ _,h=>by unfold ak at h;cases h
 | _,.set _,h=>by unfold ak at h;cases h
 | _,.rng _ _,h=>by unfold ak at h;cases h
 | _,.exc _,h=>by unfold ak at h;cases h
theorem fJ:∀ (n:Nat) {ds:List D},ds.all (ak n)=true→fV (cw ds) (cw ds)=true
 | n,[],_=>rfl
 | n,d::ds,h=>by
  rw [List.all_cons] at h;have h:=(Bool.and_eq_true _ _).mp h;unfold cw fV;rw [lJ n h.1,fJ n h.2];rfl
end
section
variable{X:Cx}{pins:List (Addr×Obj)}{σ:St}{H:Hp}{s:Shared}
inductive Vw(K:PySem.W.Frag)(H:Hp)(s:Shared):Nat→D→V→Value→Prop where
 | non {n}:Vw K H s n .non .non .none
 | bl {n} (b:Bool):Vw K H s n (.bl b) (.bl b) (.bool b)
 | int {n} (i:Int) (t:Tok):Vw K H s n (.int i) (.int i) (.int i t)
 | str {n} (x:Str) (t:Tok):Vw K H s n (.str x) (.str x) (.str x t)
 | tu {n} {d:D} {ds:List D} {p:Addr} {xs:List V} {its:List Value} (hd:nrm d = .tup (cw ds)) (ht:s.heap.IsTuple p its.toArray) (hv:aG xs its) (hr:ao K H ds xs) (he:ds.all (ak n)=true):Vw K H s (n+1) d (.ref p) (.ref p)
 | li {n} {d:D} {ds:List D} {p:Addr} {xs:List V} {its:List Value} (hd:nrm d = .lst (cw ds)) (ht:s.heap.IsList p its.toArray) (hv:aG xs its) (hr:ao K H ds xs) (he:ds.all (ak n)=true):Vw K H s (n+1) d (.ref p) (.ref p)
theorem jC(I:Inv X pins σ H s){n:Nat}{d:D}{v:V}{u:Value}(he:ak n d=true)(r:aH X.K H d v)(ru:aR v u):Vw X.K H s n d v u:=by
 have z0:n=0∨∃ m,n=m+1:=by cases n with | zero=>exact .inl rfl | succ m=>exact .inr ⟨m,rfl⟩
 cases d with
 | non=>cases r;cases ru;exact .non
 | bl b=>cases r;cases ru;exact .bl b
 | int i=>cases r;obtain ⟨t,rfl⟩:=ru;exact .int i t
 | str x=>cases r;obtain ⟨t,rfl⟩:=ru;exact .str x t
 | tup ds =>
  obtain ⟨p,xs,rfl,h1,h2⟩:=r;cases ru
  rcases z0 with rfl | ⟨m,rfl⟩
  ·unfold ak at he;cases he
  ·obtain ⟨its,rv,pl,_⟩:=I.tuple (X:=X) (.inl (.inl h1))
   exact .tu (by unfold nrm;rfl) pl rv h2 (by unfold ak at he;exact he)
 | ktup ds =>
  obtain ⟨p,xs,rfl,h1,h2⟩:=r;cases ru
  rcases z0 with rfl | ⟨m,rfl⟩
  ·unfold ak at he;cases he
  ·obtain ⟨its,rv,pl,_⟩:=I.tuple (X:=X) (fh h1)
   exact .tu (by unfold nrm;rfl) pl rv h2 (by unfold ak at he;exact he)
 | lst ds =>
  obtain ⟨p,xs,rfl,h1,h2⟩:=r;cases ru
  rcases z0 with rfl | ⟨m,rfl⟩
  ·unfold ak at he;cases he
  ·obtain ⟨its,rv,pl,_⟩:=I.list (X:=X) (.inl (.inl h1))
   exact .li (by unfold nrm;rfl) pl.isList rv h2 (by unfold ak at he;exact he)
 | klst ds =>
  obtain ⟨p,xs,rfl,h1,h2⟩:=r;cases ru
  rcases z0 with rfl | ⟨m,rfl⟩
  ·unfold ak at he;cases he
  ·obtain ⟨its,rv,pl,_⟩:=I.list h1
   exact .li (by unfold nrm;rfl) pl.isList rv h2 (by unfold ak at he;exact he)
 | dK _ _=>unfold ak at he;cases he
 | dT _ _=>unfold ak at he;cases he
 | set _=>unfold ak at he;cases he
 | rng _ _=>unfold ak at he;cases he
 | exc _=>unfold ak at he;cases he
theorem qw{p:Addr}{a b:List Value}(h1:s.heap.IsTuple p a.toArray)(h2:s.heap.IsTuple p b.toArray):a=b:=by
 obtain ⟨o,e1,_,n,d1⟩:=h1;obtain ⟨o2,e2,_,n2,d2⟩:=h2;rw [e1] at e2;cases e2;rw [d1] at d2;have:=(Data.seq.inj d2).1;simpa using congrArg Array.toList this
theorem rV{p:Addr}{a b:List Value}(h1:s.heap.IsList p a.toArray)(h2:s.heap.IsList p b.toArray):a=b:=by
 obtain ⟨o,e1,_,n,d1⟩:=h1;obtain ⟨o2,e2,_,n2,d2⟩:=h2;rw [e1] at e2;cases e2;rw [d1] at d2;have:=(Data.seq.inj d2).1;simpa using congrArg Array.toList this
theorem bq{xs:List V}{its:List Value}(r:aG xs its){j:Nat}(h:j < its.length):∃ x,xs[j]?=some x∧aR x its[j]:=by
 have hx:j < xs.length:=by rw [r.length];exact h
 obtain ⟨u,e,ru⟩:=r.get (List.getElem?_eq_getElem hx);rw [List.getElem?_eq_getElem h] at e;cases e;exact ⟨_,List.getElem?_eq_getElem hx,ru⟩
theorem gt(I:Inv X pins σ H s):∀ (n m:Nat) {d e:D} {v:V} {u:Value},ak n d=true→ak m e=true→aH X.K H d v→aH X.K H e v→aR v u→nrm d=nrm e
 | n,m,d,e,v,u,h1,h2,r1,r2,ru=>by
  have v1:=jC I h1 r1 ru;have v2:=jC I h2 r2 ru
  cases v1 with
  | non=>cases v2;rfl
  | bl b=>cases v2;rfl
  | int i t=>cases v2;rfl
  | str x t=>cases v2;rfl
  | @tu n _ ds p xs its hd ht hv hr he =>
   cases v2 with
   | @tu m _ es _ ys jts hd2 ht2 hv2 hr2 he2 =>
    have:=qw ht ht2;subst this;have exy:xs=ys:=hv.inj hv2;subst exy;rw [hd,hd2]
    congr 1
    apply List.ext_getElem?;intro j;rw [eK,eK];have l1:=hr.len;have l2:=hr2.len
    by_cases hj:j < xs.length
    ·obtain ⟨d',e1,q1⟩:=hr.get' (List.getElem?_eq_getElem hj)
     obtain ⟨e',e2,q2⟩:=hr2.get' (List.getElem?_eq_getElem hj);rw [e1,e2]
     have hji:j < its.length:=by rw [← hv.length];exact hj
     obtain ⟨x,ex,rx⟩:=bq hv hji;rw [List.getElem?_eq_getElem hj] at ex;cases ex;exact congrArg some (gt I n m (List.all_eq_true.mp he _ (List.mem_of_getElem? e1)) (List.all_eq_true.mp he2 _ (List.mem_of_getElem? e2)) q1 q2 rx)
    ·rw [List.getElem?_eq_none (by omega),List.getElem?_eq_none (by omega)]
   | li hd2 ht2 hv2 hr2 he2=>exact absurd rfl (SeqAt.ne_of_list_tuple ht2 ht)
  | @li n _ ds p xs its hd ht hv hr he =>
   cases v2 with
   | tu hd2 ht2 hv2 hr2 he2=>exact absurd rfl (SeqAt.ne_of_list_tuple ht ht2)
   | @li m _ es _ ys jts hd2 ht2 hv2 hr2 he2 =>
    have:=rV ht ht2;subst this;have exy:xs=ys:=hv.inj hv2;subst exy;rw [hd,hd2]
    congr 1
    apply List.ext_getElem?;intro j;rw [eK,eK];have l1:=hr.len;have l2:=hr2.len
    by_cases hj:j < xs.length
    ·obtain ⟨d',e1,q1⟩:=hr.get' (List.getElem?_eq_getElem hj)
     obtain ⟨e',e2,q2⟩:=hr2.get' (List.getElem?_eq_getElem hj);rw [e1,e2]
     have hji:j < its.length:=by rw [← hv.length];exact hj
     obtain ⟨x,ex,rx⟩:=bq hv hji;rw [List.getElem?_eq_getElem hj] at ex;cases ex;exact congrArg some (gt I n m (List.all_eq_true.mp he _ (List.mem_of_getElem? e1)) (List.all_eq_true.mp he2 _ (List.mem_of_getElem? e2)) q1 q2 rx)
    ·rw [List.getElem?_eq_none (by omega),List.getElem?_eq_none (by omega)]
 termination_by n=>n
theorem j6{n:Nat}{f g:Nat→Bool}(h:∀ j,j < n→f j=g j):(List.range n).all f=(List.range n).all g:=by
 rw [Bool.eq_iff_iff,List.all_eq_true,List.all_eq_true]
 constructor
 ·intro z x hx;rw [← h x (List.mem_range.mp hx)];exact z x hx
 ·intro z x hx;rw [h x (List.mem_range.mp hx)];exact z x hx
def bT(ds es:List D)(j:Nat):Bool:=match ds[j]?,es[j]? with
 | some a,some b=>eqD a b
 | _,_=>true
theorem dY{ds es:List D}:fV (cw ds) (cw es)=((List.range (min ds.length es.length)).all (bT ds es)&&ds.length == es.length):=by
 rw [lI,lh,lh]
 congr 1
 refine j6 fun j hj=> ?_
 have h1:j < ds.length:=by omega
 have h2:j < es.length:=by omega
 rw [eK,eK];unfold bT eqD;rw [List.getElem?_eq_getElem h1,List.getElem?_eq_getElem h2];rfl
theorem sk(I:Inv X pins σ H s):∀ (n:Nat) {A:Around} {d e:D} {v v':V} {u w:Value},A.units+n < cLine→ak n d=true→ak n e=true→aH X.K H d v→aH X.K H e v'→aR v u→aR v' w→SeqAt.EqAt A s u w (eqD d e)
 | n,A,d,e,v,v',u,w,hu0,h1,h2,r1,r2,ru,rw'=>by
  have hu:A.units < cLine:=by omega
  have v1:=jC I h1 r1 ru;have v2:=jC I h2 r2 rw';unfold eqD
  cases v1 with
  | non =>
   cases v2 with
   | non=>exact SeqAt.EqAt.same _
   | bl b2=>exact SeqAt.EqAt.none_bool b2
   | int i2 t2=>exact SeqAt.EqAt.none_int i2 t2
   | str x2 t2=>exact SeqAt.EqAt.none_str x2 t2
   | tu hd2 ht2 hv2 hr2 he2=>rw [hd2];exact SeqAt.EqAt.none_tuple ht2 hu
   | li hd2 ht2 hv2 hr2 he2=>rw [hd2];exact SeqAt.EqAt.none_list ht2 hu
  | bl b1 =>
   cases v2 with
   | non=>exact SeqAt.EqAt.bool_none b1
   | bl b2=>exact SeqAt.EqAt.bool_bool b1 b2
   | int i2 t2=>exact SeqAt.EqAt.bool_int b1 i2 t2
   | str x2 t2=>exact SeqAt.EqAt.bool_str b1 x2 t2
   | tu hd2 ht2 hv2 hr2 he2=>rw [hd2];exact SeqAt.EqAt.bool_tuple b1 ht2 hu
   | li hd2 ht2 hv2 hr2 he2=>rw [hd2];exact SeqAt.EqAt.bool_list b1 ht2 hu
  | int i1 t1 =>
   cases v2 with
   | non=>exact SeqAt.EqAt.int_none i1 t1
   | bl b2=>exact SeqAt.EqAt.int_bool i1 t1 b2
   | int i2 t2=>exact SeqAt.EqAt.int_int i1 t1 i2 t2
   | str x2 t2=>exact SeqAt.EqAt.int_str i1 t1 x2 t2
   | tu hd2 ht2 hv2 hr2 he2=>rw [hd2];exact SeqAt.EqAt.int_tuple i1 t1 ht2 hu
   | li hd2 ht2 hv2 hr2 he2=>rw [hd2];exact SeqAt.EqAt.int_list i1 t1 ht2 hu
  | str x1 t1 =>
   cases v2 with
   | non=>exact SeqAt.EqAt.str_none x1 t1
   | bl b2=>exact SeqAt.EqAt.str_bool x1 t1 b2
   | int i2 t2=>exact SeqAt.EqAt.str_int x1 t1 i2 t2
   | str x2 t2=>exact SeqAt.EqAt.str_str x1 t1 x2 t2
   | tu hd2 ht2 hv2 hr2 he2=>rw [hd2];exact SeqAt.EqAt.str_tuple x1 t1 ht2 hu
   | li hd2 ht2 hv2 hr2 he2=>rw [hd2];exact SeqAt.EqAt.str_list x1 t1 ht2 hu
  | @tu n _ ds p xs its hd ht hv hr he =>
   cases v2 with
   | non=>rw [hd];exact SeqAt.EqAt.tuple_none ht hu
   | bl b2=>rw [hd];exact SeqAt.EqAt.tuple_bool b2 ht hu
   | int i2 t2=>rw [hd];exact SeqAt.EqAt.tuple_int i2 t2 ht hu
   | str x2 t2=>rw [hd];exact SeqAt.EqAt.tuple_str x2 t2 ht hu
   | @tu _ _ es q ys jts hd2 ht2 hv2 hr2 he2 =>
    by_cases epq:p=q
    ·subst epq
     have z:nrm d=nrm e:=gt I (n+1) (n+1) h1 h2 r1 r2 rfl;rw [← z,lJ (n+1) h1];exact SeqAt.EqAt.same _
    ·refine SeqAt.EqAt.of_refs epq ?_
     have hhe:∀ j (h1:j < its.toArray.size) (h2:j < jts.toArray.size),SeqAt.EqAt A.in1 s its.toArray[j] jts.toArray[j] (bT ds es j):=fun j h1 h2=>by
      have h1':j < its.length:=by simpa using h1
      have h2':j < jts.length:=by simpa using h2
      obtain ⟨x,ex,rx⟩:=bq hv h1';obtain ⟨y,ey,ry⟩:=bq hv2 h2';obtain ⟨d',e1,q1⟩:=hr.get' ex;obtain ⟨e',e2,q2⟩:=hr2.get' ey;have z:=sk I n (A:=A.in1) (by show A.units+1+n < cLine;omega) (List.all_eq_true.mp he _ (List.mem_of_getElem? e1)) (List.all_eq_true.mp he2 _ (List.mem_of_getElem? e2)) q1 q2 rx ry
      have e3:bT ds es j=eqD d' e':=by unfold bT;rw [e1,e2]
      rw [e3];simpa using z
     have l1:its.toArray.size=ds.length:=by rw [List.size_toArray,← hv.length,← hr.len]
     have l2:jts.toArray.size=es.length:=by rw [List.size_toArray,← hv2.length,← hr2.len]
     have z:=SeqAt.RcAt.tuples ht ht2 hu hhe;rw [l1,l2] at z;rw [hd,hd2]
     show SeqAt.RcAt A s (.ref p) (.ref q) ((fV (cw ds) (cw es)))
     rw [dY];exact z
   | li hd2 ht2 hv2 hr2 he2=>rw [hd,hd2];exact SeqAt.EqAt.tuple_list ht ht2 hu
  | @li n _ ds p xs its hd ht hv hr he =>
   cases v2 with
   | non=>rw [hd];exact SeqAt.EqAt.list_none ht hu
   | bl b2=>rw [hd];exact SeqAt.EqAt.list_bool b2 ht hu
   | int i2 t2=>rw [hd];exact SeqAt.EqAt.list_int i2 t2 ht hu
   | str x2 t2=>rw [hd];exact SeqAt.EqAt.list_str x2 t2 ht hu
   | tu hd2 ht2 hv2 hr2 he2=>rw [hd,hd2];exact SeqAt.EqAt.list_tuple ht ht2 hu
   | @li _ _ es q ys jts hd2 ht2 hv2 hr2 he2 =>
    by_cases epq:p=q
    ·subst epq
     have z:nrm d=nrm e:=gt I (n+1) (n+1) h1 h2 r1 r2 rfl;rw [← z,lJ (n+1) h1];exact SeqAt.EqAt.same _
    ·refine SeqAt.EqAt.of_refs epq ?_
     have hhe:∀ j (h1:j < its.toArray.size) (h2:j < jts.toArray.size),SeqAt.EqAt A.in1 s its.toArray[j] jts.toArray[j] (bT ds es j):=fun j h1 h2=>by
      have h1':j < its.length:=by simpa using h1
      have h2':j < jts.length:=by simpa using h2
      obtain ⟨x,ex,rx⟩:=bq hv h1';obtain ⟨y,ey,ry⟩:=bq hv2 h2';obtain ⟨d',e1,q1⟩:=hr.get' ex;obtain ⟨e',e2,q2⟩:=hr2.get' ey;have z:=sk I n (A:=A.in1) (by show A.units+1+n < cLine;omega) (List.all_eq_true.mp he _ (List.mem_of_getElem? e1)) (List.all_eq_true.mp he2 _ (List.mem_of_getElem? e2)) q1 q2 rx ry
      have e3:bT ds es j=eqD d' e':=by unfold bT;rw [e1,e2]
      rw [e3];simpa using z
     have l1:its.toArray.size=ds.length:=by rw [List.size_toArray,← hv.length,← hr.len]
     have l2:jts.toArray.size=es.length:=by rw [List.size_toArray,← hv2.length,← hr2.len]
     rw [hd,hd2]
     show SeqAt.RcAt A s (.ref p) (.ref q) ((fV (cw ds) (cw es)))
     by_cases hl:ds.length=es.length
     ·have z:=SeqAt.RcAt.lists ht ht2 (by rw [l1,l2];exact hl) hu hhe
      rw [l1] at z;rw [dY,← hl,Nat.min_self,beq_self_eq_true,Bool.and_true];exact z
     ·have z:=SeqAt.RcAt.lists_lengths ht ht2 (by rw [l1,l2];simpa using hl) hu
      rw [dY,beq_eq_false_iff_ne.mpr hl,Bool.and_false];exact z
 termination_by n=>n
theorem rcAt(I:Inv X pins σ H s)(n:Nat){A:Around}{d e:D}{v v':V}{u w:Value}(hu0:A.units+n < cLine)(h1:ak n d=true)(h2:ak n e=true)(r1:aH X.K H d v)(r2:aH X.K H e v')(ru:aR v u)(rw':aR v' w):SeqAt.RcAt A s u w (eqD d e):=by
 have hu:A.units < cLine:=by omega
 have v1:=jC I h1 r1 ru;have v2:=jC I h2 r2 rw';unfold eqD
 cases v1 with
 | non =>
  cases v2 with
  | non=>exact SeqAt.RcAt.none_none
  | bl b2=>exact SeqAt.RcAt.none_bool b2
  | int i2 t2=>exact SeqAt.RcAt.none_int i2 t2
  | str x2 t2=>exact SeqAt.RcAt.none_str x2 t2
  | tu hd2 ht2 hv2 hr2 he2=>rw [hd2];exact SeqAt.RcAt.none_tuple ht2 hu
  | li hd2 ht2 hv2 hr2 he2=>rw [hd2];exact SeqAt.RcAt.none_list ht2 hu
 | bl b1 =>
  cases v2 with
  | non=>exact SeqAt.RcAt.bool_none b1
  | bl b2=>exact SeqAt.RcAt.bool_bool b1 b2
  | int i2 t2=>exact SeqAt.RcAt.bool_int b1 i2 t2
  | str x2 t2=>exact SeqAt.RcAt.bool_str b1 x2 t2
  | tu hd2 ht2 hv2 hr2 he2=>rw [hd2];exact SeqAt.RcAt.bool_tuple b1 ht2 hu
  | li hd2 ht2 hv2 hr2 he2=>rw [hd2];exact SeqAt.RcAt.bool_list b1 ht2 hu
 | int i1 t1 =>
  cases v2 with
  | non=>exact SeqAt.RcAt.int_none i1 t1
  | bl b2=>exact SeqAt.RcAt.int_bool i1 t1 b2
  | int i2 t2=>exact SeqAt.RcAt.int_int i1 t1 i2 t2
  | str x2 t2=>exact SeqAt.RcAt.int_str i1 t1 x2 t2
  | tu hd2 ht2 hv2 hr2 he2=>rw [hd2];exact SeqAt.RcAt.int_tuple i1 t1 ht2 hu
  | li hd2 ht2 hv2 hr2 he2=>rw [hd2];exact SeqAt.RcAt.int_list i1 t1 ht2 hu
 | str x1 t1 =>
  cases v2 with
  | non=>exact SeqAt.RcAt.str_none x1 t1
  | bl b2=>exact SeqAt.RcAt.str_bool x1 t1 b2
  | int i2 t2=>exact SeqAt.RcAt.str_int x1 t1 i2 t2
  | str x2 t2=>exact SeqAt.RcAt.str_str x1 t1 x2 t2
  | tu hd2 ht2 hv2 hr2 he2=>rw [hd2];exact SeqAt.RcAt.str_tuple x1 t1 ht2 hu
  | li hd2 ht2 hv2 hr2 he2=>rw [hd2];exact SeqAt.RcAt.str_list x1 t1 ht2 hu
 | @tu n _ ds p xs its hd ht hv hr he =>
  cases v2 with
  | non=>rw [hd];exact SeqAt.RcAt.tuple_none ht hu
  | bl b2=>rw [hd];exact SeqAt.RcAt.tuple_bool b2 ht hu
  | int i2 t2=>rw [hd];exact SeqAt.RcAt.tuple_int i2 t2 ht hu
  | str x2 t2=>rw [hd];exact SeqAt.RcAt.tuple_str x2 t2 ht hu
  | @tu _ _ es q ys jts hd2 ht2 hv2 hr2 he2 =>
   have hhe:∀ j (h1:j < its.toArray.size) (h2:j < jts.toArray.size),SeqAt.EqAt A.in1 s its.toArray[j] jts.toArray[j] (bT ds es j):=fun j h1 h2=>by
    have h1':j < its.length:=by simpa using h1
    have h2':j < jts.length:=by simpa using h2
    obtain ⟨x,ex,rx⟩:=bq hv h1';obtain ⟨y,ey,ry⟩:=bq hv2 h2';obtain ⟨d',e1,q1⟩:=hr.get' ex;obtain ⟨e',e2,q2⟩:=hr2.get' ey;have z:=sk I n (A:=A.in1) (by show A.units+1+n < cLine;omega) (List.all_eq_true.mp he _ (List.mem_of_getElem? e1)) (List.all_eq_true.mp he2 _ (List.mem_of_getElem? e2)) q1 q2 rx ry
    have e3:bT ds es j=eqD d' e':=by unfold bT;rw [e1,e2]
    rw [e3];simpa using z
   have l1:its.toArray.size=ds.length:=by rw [List.size_toArray,← hv.length,← hr.len]
   have l2:jts.toArray.size=es.length:=by rw [List.size_toArray,← hv2.length,← hr2.len]
   have z:=SeqAt.RcAt.tuples ht ht2 hu hhe;rw [l1,l2] at z;rw [hd,hd2]
   show SeqAt.RcAt A s (.ref p) (.ref q) ((fV (cw ds) (cw es)))
   rw [dY];exact z
  | li hd2 ht2 hv2 hr2 he2=>rw [hd,hd2];exact SeqAt.RcAt.tuple_list ht ht2 hu
 | @li n _ ds p xs its hd ht hv hr he =>
  cases v2 with
  | non=>rw [hd];exact SeqAt.RcAt.list_none ht hu
  | bl b2=>rw [hd];exact SeqAt.RcAt.list_bool b2 ht hu
  | int i2 t2=>rw [hd];exact SeqAt.RcAt.list_int i2 t2 ht hu
  | str x2 t2=>rw [hd];exact SeqAt.RcAt.list_str x2 t2 ht hu
  | tu hd2 ht2 hv2 hr2 he2=>rw [hd,hd2];exact SeqAt.RcAt.list_tuple ht ht2 hu
  | @li _ _ es q ys jts hd2 ht2 hv2 hr2 he2 =>
   have hhe:∀ j (h1:j < its.toArray.size) (h2:j < jts.toArray.size),SeqAt.EqAt A.in1 s its.toArray[j] jts.toArray[j] (bT ds es j):=fun j h1 h2=>by
    have h1':j < its.length:=by simpa using h1
    have h2':j < jts.length:=by simpa using h2
    obtain ⟨x,ex,rx⟩:=bq hv h1';obtain ⟨y,ey,ry⟩:=bq hv2 h2';obtain ⟨d',e1,q1⟩:=hr.get' ex;obtain ⟨e',e2,q2⟩:=hr2.get' ey;have z:=sk I n (A:=A.in1) (by show A.units+1+n < cLine;omega) (List.all_eq_true.mp he _ (List.mem_of_getElem? e1)) (List.all_eq_true.mp he2 _ (List.mem_of_getElem? e2)) q1 q2 rx ry
    have e3:bT ds es j=eqD d' e':=by unfold bT;rw [e1,e2]
    rw [e3];simpa using z
   have l1:its.toArray.size=ds.length:=by rw [List.size_toArray,← hv.length,← hr.len]
   have l2:jts.toArray.size=es.length:=by rw [List.size_toArray,← hv2.length,← hr2.len]
   rw [hd,hd2]
   show SeqAt.RcAt A s (.ref p) (.ref q) ((fV (cw ds) (cw es)))
   by_cases hl:ds.length=es.length
   ·have z:=SeqAt.RcAt.lists ht ht2 (by rw [l1,l2];exact hl) hu hhe
    rw [l1] at z;rw [dY,← hl,Nat.min_self,beq_self_eq_true,Bool.and_true];exact z
   ·have z:=SeqAt.RcAt.lists_lengths ht ht2 (by rw [l1,l2];simpa using hl) hu
    rw [dY,beq_eq_false_iff_ne.mpr hl,Bool.and_false];exact z
theorem neAt(I:Inv X pins σ H s)(n:Nat){A:Around}{d e:D}{v v':V}{u w:Value}(hu0:A.units+n < cLine)(h1:ak n d=true)(h2:ak n e=true)(r1:aH X.K H d v)(r2:aH X.K H e v')(ru:aR v u)(rw':aR v' w):SeqAt.RcNeAt A s u w (!(eqD d e)):=by
 have hu:A.units < cLine:=by omega
 have v1:=jC I h1 r1 ru;have v2:=jC I h2 r2 rw';unfold eqD
 cases v1 with
 | non =>
  cases v2 with
  | non=>exact SeqAt.RcNeAt.none_none
  | bl b2=>exact SeqAt.RcNeAt.none_bool b2
  | int i2 t2=>exact SeqAt.RcNeAt.none_int i2 t2
  | str x2 t2=>exact SeqAt.RcNeAt.none_str x2 t2
  | tu hd2 ht2 hv2 hr2 he2=>rw [hd2];exact SeqAt.RcNeAt.none_tuple ht2 hu
  | li hd2 ht2 hv2 hr2 he2=>rw [hd2];exact SeqAt.RcNeAt.none_list ht2 hu
 | bl b1 =>
  cases v2 with
  | non=>exact SeqAt.RcNeAt.bool_none b1
  | bl b2=>exact SeqAt.RcNeAt.bool_bool b1 b2
  | int i2 t2=>exact SeqAt.RcNeAt.bool_int b1 i2 t2
  | str x2 t2=>exact SeqAt.RcNeAt.bool_str b1 x2 t2
  | tu hd2 ht2 hv2 hr2 he2=>rw [hd2];exact SeqAt.RcNeAt.bool_tuple b1 ht2 hu
  | li hd2 ht2 hv2 hr2 he2=>rw [hd2];exact SeqAt.RcNeAt.bool_list b1 ht2 hu
 | int i1 t1 =>
  cases v2 with
  | non=>exact SeqAt.RcNeAt.int_none i1 t1
  | bl b2=>exact SeqAt.RcNeAt.int_bool i1 t1 b2
  | int i2 t2=>exact SeqAt.RcNeAt.int_int i1 t1 i2 t2
  | str x2 t2=>exact SeqAt.RcNeAt.int_str i1 t1 x2 t2
  | tu hd2 ht2 hv2 hr2 he2=>rw [hd2];exact SeqAt.RcNeAt.int_tuple i1 t1 ht2 hu
  | li hd2 ht2 hv2 hr2 he2=>rw [hd2];exact SeqAt.RcNeAt.int_list i1 t1 ht2 hu
 | str x1 t1 =>
  cases v2 with
  | non=>exact SeqAt.RcNeAt.str_none x1 t1
  | bl b2=>exact SeqAt.RcNeAt.str_bool x1 t1 b2
  | int i2 t2=>exact SeqAt.RcNeAt.str_int x1 t1 i2 t2
  | str x2 t2=>exact SeqAt.RcNeAt.str_str x1 t1 x2 t2
  | tu hd2 ht2 hv2 hr2 he2=>rw [hd2];exact SeqAt.RcNeAt.str_tuple x1 t1 ht2 hu
  | li hd2 ht2 hv2 hr2 he2=>rw [hd2];exact SeqAt.RcNeAt.str_list x1 t1 ht2 hu
 | @tu n _ ds p xs its hd ht hv hr he =>
  cases v2 with
  | non=>rw [hd];exact SeqAt.RcNeAt.tuple_none ht hu
  | bl b2=>rw [hd];exact SeqAt.RcNeAt.tuple_bool b2 ht hu
  | int i2 t2=>rw [hd];exact SeqAt.RcNeAt.tuple_int i2 t2 ht hu
  | str x2 t2=>rw [hd];exact SeqAt.RcNeAt.tuple_str x2 t2 ht hu
  | @tu _ _ es q ys jts hd2 ht2 hv2 hr2 he2 =>
   have hhe:∀ j (h1:j < its.toArray.size) (h2:j < jts.toArray.size),SeqAt.EqAt A.in1 s its.toArray[j] jts.toArray[j] (bT ds es j):=fun j h1 h2=>by
    have h1':j < its.length:=by simpa using h1
    have h2':j < jts.length:=by simpa using h2
    obtain ⟨x,ex,rx⟩:=bq hv h1';obtain ⟨y,ey,ry⟩:=bq hv2 h2';obtain ⟨d',e1,q1⟩:=hr.get' ex;obtain ⟨e',e2,q2⟩:=hr2.get' ey;have z:=sk I n (A:=A.in1) (by show A.units+1+n < cLine;omega) (List.all_eq_true.mp he _ (List.mem_of_getElem? e1)) (List.all_eq_true.mp he2 _ (List.mem_of_getElem? e2)) q1 q2 rx ry
    have e3:bT ds es j=eqD d' e':=by unfold bT;rw [e1,e2]
    rw [e3];simpa using z
   have l1:its.toArray.size=ds.length:=by rw [List.size_toArray,← hv.length,← hr.len]
   have l2:jts.toArray.size=es.length:=by rw [List.size_toArray,← hv2.length,← hr2.len]
   have z:=SeqAt.RcNeAt.tuples ht ht2 hu hhe;rw [l1,l2] at z;rw [hd,hd2]
   show SeqAt.RcNeAt A s (.ref p) (.ref q) (!(fV (cw ds) (cw es)))
   rw [dY];exact z
  | li hd2 ht2 hv2 hr2 he2=>rw [hd,hd2];exact SeqAt.RcNeAt.tuple_list ht ht2 hu
 | @li n _ ds p xs its hd ht hv hr he =>
  cases v2 with
  | non=>rw [hd];exact SeqAt.RcNeAt.list_none ht hu
  | bl b2=>rw [hd];exact SeqAt.RcNeAt.list_bool b2 ht hu
  | int i2 t2=>rw [hd];exact SeqAt.RcNeAt.list_int i2 t2 ht hu
  | str x2 t2=>rw [hd];exact SeqAt.RcNeAt.list_str x2 t2 ht hu
  | tu hd2 ht2 hv2 hr2 he2=>rw [hd,hd2];exact SeqAt.RcNeAt.list_tuple ht ht2 hu
  | @li _ _ es q ys jts hd2 ht2 hv2 hr2 he2 =>
   have hhe:∀ j (h1:j < its.toArray.size) (h2:j < jts.toArray.size),SeqAt.EqAt A.in1 s its.toArray[j] jts.toArray[j] (bT ds es j):=fun j h1 h2=>by
    have h1':j < its.length:=by simpa using h1
    have h2':j < jts.length:=by simpa using h2
    obtain ⟨x,ex,rx⟩:=bq hv h1';obtain ⟨y,ey,ry⟩:=bq hv2 h2';obtain ⟨d',e1,q1⟩:=hr.get' ex;obtain ⟨e',e2,q2⟩:=hr2.get' ey;have z:=sk I n (A:=A.in1) (by show A.units+1+n < cLine;omega) (List.all_eq_true.mp he _ (List.mem_of_getElem? e1)) (List.all_eq_true.mp he2 _ (List.mem_of_getElem? e2)) q1 q2 rx ry
    have e3:bT ds es j=eqD d' e':=by unfold bT;rw [e1,e2]
    rw [e3];simpa using z
   have l1:its.toArray.size=ds.length:=by rw [List.size_toArray,← hv.length,← hr.len]
   have l2:jts.toArray.size=es.length:=by rw [List.size_toArray,← hv2.length,← hr2.len]
   rw [hd,hd2]
   show SeqAt.RcNeAt A s (.ref p) (.ref q) (!(fV (cw ds) (cw es)))
   by_cases hl:ds.length=es.length
   ·have z:=SeqAt.RcNeAt.lists ht ht2 (by rw [l1,l2];exact hl) hu hhe
    rw [l1] at z;rw [dY,← hl,Nat.min_self,beq_self_eq_true,Bool.and_true];exact z
   ·have z:=SeqAt.RcNeAt.lists_lengths ht ht2 (by rw [l1,l2];simpa using hl) hu
    rw [dY,beq_eq_false_iff_ne.mpr hl,Bool.and_false];exact z
end
def gEq:List D→Option (D×Bool)
 | [d,e]=>if (ak 9 d&&ak 9 e)=true then some (.bl (eqD d e),false) else none
 | _=>none
def gNe:List D→Option (D×Bool)
 | [d,e]=>if (ak 9 d&&ak 9 e)=true then some (.bl (!(eqD d e)),false) else none
 | _=>none
def rEqD(K:PySem.W.Frag):R2:=fun x y H Q=>∃ d e,ak 9 d=true∧ak 9 e=true∧aH K H d x∧aH K H e y∧Q (.bl (eqD d e)) H
def rNeD(K:PySem.W.Frag):R2:=fun x y H Q=>∃ d e,ak 9 d=true∧ak 9 e=true∧aH K H d x∧aH K H e y∧Q (.bl (!(eqD d e))) H
section
variable{X:Cx}
theorem wH(hu:X.A.units+9 < cLine):OpR X (compareOp .Eq) (rEqD X.K):=by
 intro pins s σ H x y v u Q I rx ry h;obtain ⟨d,e,h1,h2,r1,r2,q⟩:=h;exact rcAt I 9 hu h1 h2 r1 r2 rx ry _ _ _ _ ⟨.bl _,H,I,rfl,q⟩
theorem op_neD(hu:X.A.units+9 < cLine):OpR X (compareOp .NotEq) (rNeD X.K):=by
 intro pins s σ H x y v u Q I rx ry h;obtain ⟨d,e,h1,h2,r1,r2,q⟩:=h;exact neAt I 9 hu h1 h2 r1 r2 rx ry _ _ _ _ ⟨.bl _,H,I,rfl,q⟩
end
theorem bc{K:PySem.W.Frag}{H Hh:Hp}{a b:D}{vs:List V}(h:jW K H Hh [a,b] vs):∃ x y,vs=[x,y]∧f9 K H Hh a x∧f9 K H Hh b y:=by
 match vs,h with
 | [x,y],h=>exact ⟨x,y,rfl,h.1,h.2.1⟩
theorem aO{K:PySem.W.Frag}{H Hh:Hp}{a:D}{vs:List V}(h:jW K H Hh [a] vs):∃ x,vs=[x]∧f9 K H Hh a x:=by
 match vs,h with
 | [x],h=>exact ⟨x,rfl,h.1⟩
theorem Ak{K:PySem.W.Frag}:OpS K (r2 (rEqD K)) gEq:=by
 intro vs ds H L Q d nw hm r e q
 match ds,e with
 | [a,b],e =>
  obtain ⟨x,y,rfl,ra,rb⟩:=bc r;have e:(if (ak 9 a&&ak 9 b)=true then some (D.bl (eqD a b),false) else none)=some (d,nw):=e
  split at e
  ·rename_i hc
   have hc:=(Bool.and_eq_true _ _).mp hc;cases e;exact ⟨a,b,hc.1,hc.2,ra.d aC,rb.d aC,q _ H (aj.refl _) rfl⟩
  ·cases e
theorem os_ne{K:PySem.W.Frag}:OpS K (r2 (rNeD K)) gNe:=by
 intro vs ds H L Q d nw hm r e q
 match ds,e with
 | [a,b],e =>
  obtain ⟨x,y,rfl,ra,rb⟩:=bc r;have e:(if (ak 9 a&&ak 9 b)=true then some (D.bl (!(eqD a b)),false) else none)=some (d,nw):=e
  split at e
  ·rename_i hc
   have hc:=(Bool.and_eq_true _ _).mp hc;cases e;exact ⟨a,b,hc.1,hc.2,ra.d aC,rb.d aC,q _ H (aj.refl _) rfl⟩
  ·cases e
end L2
namespace L2
open PySem PySem.Spec PyProof.Rows
section
variable{X:Cx}
def wd:R2:=fun x y H Q=>∃ a b xs ys,x = .ref a∧y = .ref b∧H a=some (.tup xs)∧H b=some (.tup ys)∧xs.length+ys.length≤sizeLine ∧
 ∀ p H',H' p=some (.tup (xs++ys))→aj H H'→Q (.ref p) H'
theorem yX:OpR X (binaryOp .Add) wd:=by
 intro pins s σ H x y v u Q I rx ry h;obtain ⟨a,b,xs,ys,rfl,rfl,ha,hb,hz,q⟩:=h
 by_cases hx:xs=[]
 ·subst hx
  cases rx;cases ry;obtain ⟨its,r1,p1,_⟩:=I.tuple (X:=X) (.inl (.inl ha));obtain ⟨its2,r2,p2,_⟩:=I.tuple (X:=X) (.inl (.inl hb));cases r1;exact zE p1 p2 ⟨.ref b,H,I,rfl,q b H hb (aj.refl H)⟩
 ·refine yW pins s σ H _ _ v u Q I rx ry ⟨a,b,xs,ys,rfl,rfl,.inl (.inl ha),.inl (.inl hb),hx,hz,fun e=> ?_,fun e p hp=> ?_⟩
  ·subst e
   exact q a H (by rw [List.append_nil];exact ha) (aj.refl H)
  ·exact q p _ aD fun c o e'=>by rw [ar (au e' hp)];exact e'
def rSlD:RSl:=fun x lo hi H Q=>∃ a xs,x = .ref a∧H a=some (.tup xs)∧∀ p H',H' p=some (.tup (lK xs lo hi))→aj H H'→Q (.ref p) H'
theorem yb:SlR X rSlD:=by
 intro pins s σ H x v vl vu lo hi sl Q I rx hs pl pu h;obtain ⟨a,xs,rfl,hx,q⟩:=h
 by_cases hw:HT.sIx xs.length 0 lo=0∧HT.sIx xs.length xs.length hi=xs.length
 ·cases rx
  obtain ⟨its,r,ht,hz⟩:=I.tuple (X:=X) (.inl (.inl hx))
  have hlen:its.toArray.size=xs.length:=by rw [List.size_toArray];exact r.length.symm
  refine ⟨"tuple",_,PyProof.Rows.slot_tuple_getitem.lookup,ht.typeIs,?_⟩;refine HT.gW ht hs pl pu (by rw [hlen];exact hw) ⟨.ref a,H,I,rfl,q a H ?_ (aj.refl H)⟩
  have:lK xs lo hi=xs:=by
   unfold lK;rw [hw.1,hw.2,List.drop_zero,Nat.sub_zero,List.take_length]
  rw [this];exact hx
 ·exact sl_tup pins s σ H _ v vl vu lo hi sl Q I rx hs pl pu ⟨a,xs,rfl,.inl (.inl hx),hw,fun p hp=>q p _ aD (aj.upd hp)⟩
end
def small(n:Nat):Bool:=decide (n≤1000000)
theorem gh{n:Nat}(h:small n=true):n≤sizeLine:=Nat.le_trans (of_decide_eq_true h) (by decide)
theorem kC{n:Nat}(h:small n=true):n < sizeLine:=Nat.lt_of_le_of_lt (of_decide_eq_true h) (by decide)
def xy(xs:List D)(lo hi:Option Int):List D:=(xs.drop (HT.sIx xs.length 0 lo)).take (HT.sIx xs.length xs.length hi - HT.sIx xs.length 0 lo)
theorem ao.cut{K:PySem.W.Frag}{H:Hp}{ds:List D}{xs:List V}(h:ao K H ds xs)(lo hi:Option Int):ao K H (xy ds lo hi) (lK xs lo hi):=by
 unfold xy lK;rw [h.len];exact (h.drop _).take _
def m7(a b:Int):Bool:=decide (-(2 ^ 64) < a∧a < 2 ^ 64)||decide (-(2 ^ 64) < b∧b < 2 ^ 64)
def bt:List D→Option (D×Bool)
 | [.int a,.int b]=>some (.int (a+b),false)
 | [.lst a,.lst b]=>if small (a.length+b.length)=true then some (.lst (a++b),true) else none
 | [.tup a,.tup b]=>if small (a.length+b.length)=true then some (.tup (a++b),false) else none
 | _=>none
def bU:List D→Option (D×Bool)
 | [.int a,.int b]=>some (.int (a - b),false)
 | _=>none
def repL(n:Nat)(l:List D):List D:=(List.replicate n l).flatten
def iD:List D→Option (D×Bool)
 | [.int a,.int b]=>if m7 a b=true then some (.int (a * b),false) else none
 | [.lst a,.int k]=>if (decide (-1000000≤k∧k≤1000000)&&small (a.length * k.toNat))=true then some (.lst (repL k.toNat a),true) else none
 | _=>none
def fo:List D→Option (D×Bool)
 | [.int a,.int b]=>if decide (0 < b∧b < 1073741824)=true then some (.int (a / b),false) else none
 | _=>none
def eA:List D→Option (D×Bool)
 | [.int a,.int b]=>if decide (0 < b)=true then some (.int (a % b),false) else none
 | _=>none
def xc:List D→Option (D×Bool)
 | [.int a,.int b]=>if decide (0≤b∧b≤1000000∧a.natAbs < 2 ^ 64)=true then some (.int (a ^ b.toNat),false) else none
 | _=>none
def be:List D→Option (List Int)
 | []=>some []
 | .int i::ds=>match be ds with
  | some l=>some (i::l)
  | none=>none
 | _=>none
def g8:List D→Option (List Bool)
 | []=>some []
 | .bl i::ds=>match g8 ds with
  | some l=>some (i::l)
  | none=>none
 | _=>none
theorem bB:∀ {ds:List D} {l:List Int},be ds=some l→ds=l.map D.int
 | [],l,h=>by unfold be at h;cases h;rfl
 | d::ds,l,h=>by
  cases d<;>first | (unfold be at h;cases h;done) | skip
  unfold be at h
  cases e:be ds with
  | none=>rw [e] at h;cases h
  | some l'=>rw [e] at h;cases h;rw [bB e];rfl
theorem dz(l:List Int):be (l.map D.int)=some l:=by
 induction l with
 | nil=>rfl
 | cons i l ih=>rw [List.map_cons];unfold be;rw [ih]
theorem qQ:∀ {ds:List D} {l:List Bool},g8 ds=some l→ds=l.map D.bl
 | [],l,h=>by unfold g8 at h;cases h;rfl
 | d::ds,l,h=>by
  cases d<;>first | (unfold g8 at h;cases h;done) | skip
  unfold g8 at h
  cases e:g8 ds with
  | none=>rw [e] at h;cases h
  | some l'=>rw [e] at h;cases h;rw [qQ e];rfl
theorem vo(l:List Bool):g8 (l.map D.bl)=some l:=by
 induction l with
 | nil=>rfl
 | cons i l ih=>rw [List.map_cons];unfold g8;rw [ih]
def gLt:List D→Option (D×Bool)
 | [.int a,.int b]=>some (.bl (decide (a < b)),false)
 | _=>none
def gLe:List D→Option (D×Bool)
 | [.int a,.int b]=>some (.bl (decide (a≤b)),false)
 | _=>none
def gGt:List D→Option (D×Bool)
 | [.int a,.int b]=>some (.bl (decide (b < a)),false)
 | _=>none
def gGe:List D→Option (D×Bool)
 | [.int a,.int b]=>some (.bl (decide (b≤a)),false)
 | _=>none
def Ao:D→Bool
 | .non=>true
 | _=>false
def gIs:List D→Option (D×Bool)
 | [d,.non]=>some (.bl (Ao d),false)
 | [.bl a,.bl b]=>some (.bl (a == b),false)
 | _=>none
def rIsD:R2:=fun x y H Q=>(y = .non∧Q (.bl (decide (x = .non))) H)∨∃ a b,x = .bl a∧y = .bl b∧Q (.bl (a == b)) H
section
variable{K:PySem.W.Frag}
theorem wU{H Hh:Hp}{d:D}{v:V}(r:f9 K H Hh d v):decide (v = .non)=Ao d:=by
 cases d<;>first
  | (have r:v=_:=r;subst r;rfl)
  | (obtain ⟨p,xs,rfl,_⟩:=r;rfl)
  | (obtain ⟨p,rfl,_⟩:=r;rfl)
theorem cj{H Hh:Hp}{i:Int}{v:V}(r:f9 K H Hh (.int i) v):v = .int i:=r
theorem yl{H Hh:Hp}{i:Bool}{v:V}(r:f9 K H Hh (.bl i) v):v = .bl i:=r
theorem cB{H:Hp}{L:List Addr}{ds:List D}{xs:List V}(r:ao K (hid L H) ds xs){p:Addr}(hp:H p=none):gN K H (upd H p (.lst xs)) L (.lst ds) true (.ref p) :=
 ⟨p,rfl,hp,xs,aD,(aY (fun b hb=>(List.mem_cons.mp hb).elim (fun z=> .inr (by rw [z];exact hp)) .inl) fun b o _ e=>aj.upd hp b o e:aj (hid L H) _).repDs r⟩
theorem i4{H H':Hp}{L:List Addr}{ds:List D}{xs:List V}(hm:∀ p∈L,fC (H p))(r:ao K (hid L H) ds xs){p:Addr}(s:aj H H')(hp:H' p=some (.tup xs)):gN K H H' L (.tup ds) false (.ref p):=by
 refine ⟨p,xs,rfl,?_,(aY (fun b hb=> .inl hb) fun b o _ e=>s b o e:aj (hid L H) _).repDs r⟩;rw [aQ (fun z=> ?_)]
 ·exact hp
 ·obtain ⟨u,q⟩:=(hm p z).some
  have e:=s p u q;rw [hp] at e;cases e;have:=hm p z;rw [q] at this;exact this
theorem os_add:OpS K (r2 fun x y H Q=>rI0 (fun i j=> .int (i+j)) x y H Q∨rCat x y H Q∨wd x y H Q) bt:=by
 intro vs ds H L Q d nw hm r e q;unfold bt at e
 split at e
 ·obtain ⟨x,y,rfl,ra,rb⟩:=bc r
  cases e;exact .inl ⟨_,_,ra,rb,q _ H (aj.refl _) rfl⟩
 ·obtain ⟨x,y,rfl,⟨p,xs,rfl,h1,h2⟩,⟨p',ys,rfl,h3,h4⟩⟩:=bc r
  split at e
  ·rename_i hs
   cases e;refine .inr (.inl ⟨p,p',xs,ys,rfl,rfl,h1,h3,gh (by rw [← h2.len,← h4.len];exact hs),fun l hl=>q _ _ (aj.upd hl) (cB (h2.app h4) hl)⟩)
  ·cases e
 ·obtain ⟨x,y,rfl,⟨p,xs,rfl,h1,h2⟩,⟨p',ys,rfl,h3,h4⟩⟩:=bc r
  split at e
  ·rename_i hs
   cases e;exact .inr (.inr ⟨p,p',xs,ys,rfl,rfl,(ay h1).2,(ay h3).2,gh (by rw [← h2.len,← h4.len];exact hs),fun l H' hl s=>q _ _ s (i4 hm (h2.app h4) s hl)⟩)
  ·cases e
 ·cases e
theorem os_sub:OpS K (r2 (rI0 fun i j=> .int (i - j))) bU:=by
 intro vs ds H L Q d nw hm r e q;unfold bU at e
 split at e
 ·obtain ⟨x,y,rfl,ra,rb⟩:=bc r
  cases e;exact ⟨_,_,ra,rb,q _ H (aj.refl _) rfl⟩
 ·cases e
theorem p5:∀ {H:Hp} {ds:List D} {xs:List V} (n:Nat),ao K H ds xs→ao K H (repL n ds) (List.replicate n xs).flatten
 | _,_,_,0,_=>trivial
 | _,_,_,n+1,h=>by
  unfold repL;rw [List.replicate_succ,List.replicate_succ,List.flatten_cons,List.flatten_cons];exact h.app (p5 n h)
theorem os_mul:OpS K (r2 fun x y H Q=>rI xN (fun i j=> .int (i * j)) x y H Q∨rRep x y H Q) iD:=by
 intro vs ds H L Q d nw hm r e q;unfold iD at e
 split at e
 ·obtain ⟨x,y,rfl,ra,rb⟩:=bc r
  split at e
  ·rename_i hs
   cases e;refine .inl ⟨_,_,ra,rb,?_,q _ H (aj.refl _) rfl⟩
   rcases (Bool.or_eq_true _ _).mp hs with z | z
   ·exact .inl (of_decide_eq_true z)
   ·exact .inr (of_decide_eq_true z)
  ·cases e
 ·rename_i a k
  obtain ⟨x,y,rfl,⟨p,xs,rfl,h1,h2⟩,rb⟩:=bc r
  split at e
  ·rename_i hs
   cases e;have hs:=(Bool.and_eq_true _ _).mp hs;have hb:=of_decide_eq_true hs.1;refine .inr ⟨p,k,xs,rfl,rb,h1,by omega,by omega,?_,fun l hl=>q _ _ (aj.upd hl) (cB (p5 k.toNat h2) hl)⟩;rw [← h2.len];exact gh hs.2
  ·cases e
 ·cases e
theorem yS:OpS K (r2 (rI CDiv fun i j=> .int (i / j))) fo:=by
 intro vs ds H L Q d nw hm r e q;unfold fo at e
 split at e
 ·obtain ⟨x,y,rfl,ra,rb⟩:=bc r
  split at e
  ·rename_i hs
   cases e;exact ⟨_,_,ra,rb,(by have z:=of_decide_eq_true hs;exact z),q _ H (aj.refl _) rfl⟩
  ·cases e
 ·cases e
theorem os_mod:OpS K (r2 (rI (fun _ j=>0 < j) fun i j=> .int (i % j))) eA:=by
 intro vs ds H L Q d nw hm r e q;unfold eA at e
 split at e
 ·obtain ⟨x,y,rfl,ra,rb⟩:=bc r
  split at e
  ·rename_i hs
   cases e;exact ⟨_,_,ra,rb,of_decide_eq_true hs,q _ H (aj.refl _) rfl⟩
  ·cases e
 ·cases e
theorem os_pow:OpS K (r2 (rI CPow fun i j=> .int (i ^ j.toNat))) xc:=by
 intro vs ds H L Q d nw hm r e q;unfold xc at e
 split at e
 ·obtain ⟨x,y,rfl,ra,rb⟩:=bc r
  split at e
  ·rename_i hs
   cases e;exact ⟨_,_,ra,rb,(by have z:=of_decide_eq_true hs;exact z),q _ H (aj.refl _) rfl⟩
  ·cases e
 ·cases e
theorem os_lt:OpS K (r2 (rI0 fun i j=> .bl (decide (i < j)))) gLt:=by
 intro vs ds H L Q d nw hm r e q;unfold gLt at e
 split at e
 ·obtain ⟨x,y,rfl,ra,rb⟩:=bc r
  cases e;exact ⟨_,_,ra,rb,q _ H (aj.refl _) rfl⟩
 ·cases e
theorem wE:OpS K (r2 (rI0 fun i j=> .bl (decide (i≤j)))) gLe:=by
 intro vs ds H L Q d nw hm r e q;unfold gLe at e
 split at e
 ·obtain ⟨x,y,rfl,ra,rb⟩:=bc r
  cases e;exact ⟨_,_,ra,rb,q _ H (aj.refl _) rfl⟩
 ·cases e
theorem Ai:OpS K (r2 (rI0 fun i j=> .bl (decide (j < i)))) gGt:=by
 intro vs ds H L Q d nw hm r e q;unfold gGt at e
 split at e
 ·obtain ⟨x,y,rfl,ra,rb⟩:=bc r
  cases e;exact ⟨_,_,ra,rb,q _ H (aj.refl _) rfl⟩
 ·cases e
theorem Aj:OpS K (r2 (rI0 fun i j=> .bl (decide (j≤i)))) gGe:=by
 intro vs ds H L Q d nw hm r e q;unfold gGe at e
 split at e
 ·obtain ⟨x,y,rfl,ra,rb⟩:=bc r
  cases e;exact ⟨_,_,ra,rb,q _ H (aj.refl _) rfl⟩
 ·cases e
theorem os_is:OpS K (r2 rIsD) gIs:=by
 intro vs ds H L Q d nw hm r e q;unfold gIs at e
 split at e
 ·obtain ⟨x,y,rfl,ra,rb⟩:=bc r
  cases e;refine .inl ⟨rb,?_⟩;rw [wU ra];exact q _ H (aj.refl _) rfl
 ·obtain ⟨x,y,rfl,ra,rb⟩:=bc r
  cases e;exact .inr ⟨_,_,ra,rb,q _ H (aj.refl _) rfl⟩
 ·cases e
end
def gIx:List D→Option (D×Bool)
 | [.lst ds,.int i]=>match atI ds i with
  | some d=>some (d,false)
  | none=>none
 | [.klst ds,.int i]=>match atI ds i with
  | some d=>some (d,false)
  | none=>none
 | [.tup ds,.int i]=>match atI ds i with
  | some d=>some (d,false)
  | none=>none
 | [.ktup ds,.int i]=>match atI ds i with
  | some d=>some (d,false)
  | none=>none
 | _=>none
def gSl(lo hi:Option Int):D→Option (D×Bool)
 | .lst ds=>some (.lst (xy ds lo hi),true)
 | .klst ds=>some (.lst (xy ds lo hi),true)
 | .tup ds=>some (.tup (xy ds lo hi),false)
 | _=>none
def xb:List D→Option (D×Bool)
 | [d,.int i]=>gSl (some i) none d
 | _=>none
def rSlA(K:PySem.W.Frag):RSl:=fun x lo hi H Q=>rSlL K x lo hi H Q∨rSlD x lo hi H Q
section
variable{K:PySem.W.Frag}
theorem pb{H:Hp}{ds:List D}{xs:List V}{i:Int}{d:D}(r:ao K H ds xs)(e:atI ds i=some d):∃ v,atI xs i=some v∧aH K H d v:=by
 unfold atI at e ⊢;rw [← r.len]
 cases h:ixN ds.length i with
 | none=>rw [h] at e;cases e
 | some j =>
  rw [h] at e;obtain ⟨x,e1,e2⟩:=r.get (show ds[j]?=some d from e);exact ⟨x,e1,e2⟩
theorem os_ix:OpS K (r2 (rIx K)) gIx:=by
 intro vs ds H L Q d nw hm r e q;unfold gIx at e
 split at e
 ·rename_i es i
  obtain ⟨x,y,rfl,⟨p,xs,rfl,h1,h2⟩,rb⟩:=bc r
  cases ea:atI es i with
  | none=>rw [ea] at e;cases e
  | some d' =>
   rw [ea] at e;cases e;obtain ⟨v,e1,e2⟩:=pb h2 ea;exact .inl ⟨p,xs,i,v,rfl,rb,.inl (.inl h1),e1,q v H (aj.refl _) e2⟩
 ·rename_i es i
  obtain ⟨x,y,rfl,⟨p,xs,rfl,h1,h2⟩,rb⟩:=bc r
  cases ea:atI es i with
  | none=>rw [ea] at e;cases e
  | some d' =>
   rw [ea] at e;cases e;obtain ⟨v,e1,e2⟩:=pb h2 ea;exact .inl ⟨p,xs,i,v,rfl,rb,aC.seq h1,e1,q v H (aj.refl _) e2⟩
 ·rename_i es i
  obtain ⟨x,y,rfl,⟨p,xs,rfl,h1,h2⟩,rb⟩:=bc r
  cases ea:atI es i with
  | none=>rw [ea] at e;cases e
  | some d' =>
   rw [ea] at e;cases e;obtain ⟨v,e1,e2⟩:=pb h2 ea;exact .inr (.inl ⟨p,xs,i,v,rfl,rb,.inl (.inl (ay h1).2),e1,q v H (aj.refl _) e2⟩)
 ·rename_i es i
  obtain ⟨x,y,rfl,⟨p,xs,rfl,h1,h2⟩,rb⟩:=bc r
  cases ea:atI es i with
  | none=>rw [ea] at e;cases e
  | some d' =>
   rw [ea] at e;cases e;obtain ⟨v,e1,e2⟩:=pb h2 ea;exact .inr (.inl ⟨p,xs,i,v,rfl,rb,fh h1,e1,q v H (aj.refl _) e2⟩)
 ·cases e
theorem sl_of{H:Hp}{L:List Addr}{lo hi:Option Int}{x:V}{c d:D}{nw:Bool}{Q:VK}(hm:∀ p∈L,fC (H p))(r:f9 K H (hid L H) c x)(e:gSl lo hi c=some (d,nw))(q:∀ v H',aj H H'→gN K H H' L d nw v→Q v H'):rSlA K x lo hi H Q:=by
 unfold gSl at e
 split at e
 ·obtain ⟨p,xs,rfl,h1,h2⟩:=r
  cases e;exact .inl ⟨p,xs,rfl,.inl (.inl h1),fun l hl=>q _ _ (aj.upd hl) (cB (h2.cut lo hi) hl)⟩
 ·obtain ⟨p,xs,rfl,h1,h2⟩:=r
  cases e;exact .inl ⟨p,xs,rfl,aC.seq h1,fun l hl=>q _ _ (aj.upd hl) (cB (h2.cut lo hi) hl)⟩
 ·obtain ⟨p,xs,rfl,h1,h2⟩:=r
  cases e;exact .inr ⟨p,xs,rfl,(ay h1).2,fun l H' hl s=>q _ _ s (i4 hm (h2.cut lo hi) s hl)⟩
 ·cases e
theorem os_s10:OpS K (rS10 (rSlA K)) xb:=by
 intro vs ds H L Q d nw hm r e q;unfold xb at e
 split at e
 ·obtain ⟨x,y,rfl,ra,rb⟩:=bc r
  exact ⟨_,rb,sl_of hm ra e q⟩
 ·cases e
end
section
variable{X:Cx}
theorem yY:OpR X (binaryOp .Add) (fun x y H Q=>rI0 (fun i j=> .int (i+j)) x y H Q∨rCat x y H Q∨wd x y H Q):=op_add.or (op_cat.or yX)
theorem yT:OpR X (binaryOp .Mult) (fun x y H Q=>rI xN (fun i j=> .int (i * j)) x y H Q∨rRep x y H Q):=op_mul.or op_rep
theorem sl_any:SlR X (rSlA X.K):=yc.or yb
theorem op_isD:OpR X (compareOp .Is) rIsD:=op_isN.or op_isB
end
end L2
namespace L2
open PySem PySem.Spec PyProof.Rows
def ins(x:Int):List Int→List Int
 | []=>[x]
 | y::l=>if x≤y then x::y::l else y::ins x l
def fk:List Int→List Int
 | []=>[]
 | x::l=>ins x (fk l)
theorem lB(x:Int):∀ l:List Int,(ins x l).Perm (x::l)
 | []=> .refl _
 | y::l=>by
  unfold ins
  split
  ·exact .refl _
  ·exact ((lB x l).cons y).trans (.swap x y l)
theorem iA:∀ l:List Int,(fk l).Perm l
 | []=> .refl _
 | x::l=>(lB x _).trans ((iA l).cons x)
theorem lA(x:Int):∀ {l:List Int},l.Pairwise (·≤ ·)→(ins x l).Pairwise (·≤ ·)
 | [],_=>by unfold ins;simp
 | y::l,h=>by
  unfold ins;have hy:=List.pairwise_cons.mp h
  split
  ·rename_i hxy
   exact List.pairwise_cons.mpr ⟨fun z hz=>(List.mem_cons.mp hz).elim (fun e=>e ▸ hxy) fun hz=>Int.le_trans hxy (hy.1 z hz),h⟩
  ·rename_i hxy
   refine List.pairwise_cons.mpr ⟨fun z hz=> ?_,lA x hy.2⟩
   rcases List.mem_cons.mp ((lB x l).mem_iff.mp hz) with e | hz
   ·rw [e];omega
   ·exact hy.1 z hz
theorem fS:∀ l:List Int,(fk l).Pairwise (·≤ ·)
 | []=> .nil
 | x::l=>lA x (fS l)
theorem bL:∀ {a b:List Int},a.Pairwise (·≤ ·)→b.Pairwise (·≤ ·)→a.Perm b→a=b
 | [],b,_,_,h=>(h.symm.eq_nil).symm ▸ rfl
 | x::a,[],_,_,h=>absurd h.eq_nil (by simp)
 | x::a,y::b,h1,h2,h=>by
  have g1:=List.pairwise_cons.mp h1;have g2:=List.pairwise_cons.mp h2
  have e:x=y:=by
   have m1:x∈y::b:=h.mem_iff.mp List.mem_cons_self;have m2:y∈x::a:=h.mem_iff.mpr List.mem_cons_self;have l1:y≤x:=(List.mem_cons.mp m1).elim (fun e=>e ▸ Int.le_refl _) (g2.1 x);have l2:x≤y:=(List.mem_cons.mp m2).elim (fun e=>e ▸ Int.le_refl _) (g1.1 y);omega
  subst e;rw [bL g1.2 g2.2 h.cons_inv]
def i7:List Int→Int
 | []=>0
 | [x]=>x
 | x::y::l=>if i7 (y::l)≤x then x else i7 (y::l)
def jq:List Int→Int
 | []=>0
 | [x]=>x
 | x::y::l=>if x≤jq (y::l) then x else jq (y::l)
theorem i6:∀ {l:List Int},l≠[]→i7 l∈l∧∀ a∈l,a≤i7 l
 | [],h=>absurd rfl h
 | [x],_=>by unfold i7;simp
 | x::y::l,_=>by
  obtain ⟨h1,h2⟩:=i6 (l:=y::l) (by simp);unfold i7
  split
  ·rename_i hx
   exact ⟨List.mem_cons_self,fun a ha=>(List.mem_cons.mp ha).elim (fun e=>e ▸ Int.le_refl _) fun ha=>Int.le_trans (h2 a ha) hx⟩
  ·rename_i hx
   exact ⟨List.mem_cons_of_mem _ h1,fun a ha=>(List.mem_cons.mp ha).elim (fun e=>by rw [e];omega) (h2 a)⟩
theorem i5:∀ {l:List Int},l≠[]→jq l∈l∧∀ a∈l,jq l≤a
 | [],h=>absurd rfl h
 | [x],_=>by unfold jq;simp
 | x::y::l,_=>by
  obtain ⟨h1,h2⟩:=i5 (l:=y::l) (by simp);unfold jq
  split
  ·rename_i hx
   exact ⟨List.mem_cons_self,fun a ha=>(List.mem_cons.mp ha).elim (fun e=>e ▸ Int.le_refl _) fun ha=>Int.le_trans hx (h2 a ha)⟩
  ·rename_i hx
   exact ⟨List.mem_cons_of_mem _ h1,fun a ha=>(List.mem_cons.mp ha).elim (fun e=>by rw [e];omega) (h2 a)⟩
def dd(ns:List Int):List Int:=ns.foldl step_dedup []
theorem qt(ns:List Int):St2.eM ns ns.length=dd ns:=by
 unfold St2.eM firstMet dd
 congr 1
 apply List.ext_getElem
 ·simp
 ·intro i h1 h2
  simp [h2]
theorem dd_any(ns:List Int)(x:Int):(dd ns).any (·== x)=true↔x∈ns:=by rw [← qt];exact St3.jv ns x
theorem dd_mem(ns:List Int)(x:Int):x∈dd ns↔x∈ns:=by
 rw [← dd_any ns x];simp
section
variable{X:Cx}
def rD(K:PySem.W.Frag):List V→Hp→VK→Prop:=fun xs H Q=>∃ (p:Addr) (ns:List Int),xs=[V.ref p]∧SqT K H p (ns.map V.int)∧ns.length≤1000 ∧
 ∀ l S,H l=none→(∀ x,S x=true↔x∈ns)→Q (.ref l) (upd H l (.set S (St2.eM ns ns.length).length))
theorem sw(hc:X.calm=true):aI X (.type "set") (rD X.K):=by
 intro pins s σ H xs us Q I r h;obtain ⟨p,ns,rfl,hq,hn,q⟩:=h;obtain ⟨u,rfl,ru⟩:=b4 r;cases ru;obtain ⟨its,rv,pt,_⟩:=I.tuple hq
 have ln:its.length=ns.length:=by rw [← rv.length,List.length_map]
 refine St2.uj (ns:=ns) (I.ok.hd hc) pt (by simpa using dA rv) (by rw [List.size_toArray,ln];unfold scanBound;omega) fun h' tk st kp=> ?_
 have sz:its.toArray.size=ns.length:=by rw [List.size_toArray,ln]
 rw [sz] at st;have hf:H s.heap.objs.size=none:=I.hok.fresh (Nat.le_refl _);exact ⟨.ref s.heap.objs.size,_,I.laid (o:= .set _ _) (fun b o e=>kp b o (Heap.lt_size e) e) (Nat.le_refl _) st,rfl,q _ _ hf (St3.jv ns)⟩
end
def cm:List D→Option (D×Bool)
 | [.lst ds]=>some (.int ds.length,false)
 | [.klst ds]=>some (.int ds.length,false)
 | [.tup ds]=>some (.int ds.length,false)
 | [.ktup ds]=>some (.int ds.length,false)
 | [.dK ks _]=>some (.int ks.length,false)
 | [.dT ks _]=>some (.int ks.length,false)
 | [.set l]=>if decide (l.length≤1000)=true then some (.int l.length,false) else none
 | _=>none
def Ad(X:Cx):List V→Hp→VK→Prop:=fun xs H Q=>(∃ p ys,xs=[V.ref p]∧(SqL X.K H p ys∨SqT X.K H p ys)∧Q (.int ys.length) H)∨(∃ a kvs,xs=[V.ref a]∧H a=some (.dK kvs)∧Q (.int kvs.length) H)∨(∃ a kvs,xs=[V.ref a]∧H a=some (.dT kvs)∧Q (.int kvs.length) H)∨tj xs H Q
theorem vg{X:Cx}:aI X (.builtin "len") (Ad X):=o8.or (vf.or (ve.or qO))
theorem os_len{X:Cx}:OpS X.K (Ad X) cm:=by
 intro vs ds H L Q d nw hm r e q;unfold cm at e
 split at e
 ·obtain ⟨x,rfl,⟨p,xs,rfl,h1,h2⟩⟩:=aO r
  cases e;exact .inl ⟨p,xs,rfl,.inl (.inl (.inl h1)),by rw [← h2.len];exact q _ H (aj.refl _) rfl⟩
 ·obtain ⟨x,rfl,⟨p,xs,rfl,h1,h2⟩⟩:=aO r
  cases e;exact .inl ⟨p,xs,rfl,.inl (aC.seq h1),by rw [← h2.len];exact q _ H (aj.refl _) rfl⟩
 ·obtain ⟨x,rfl,⟨p,xs,rfl,h1,h2⟩⟩:=aO r
  cases e;exact .inl ⟨p,xs,rfl,.inr (.inl (.inl (ay h1).2)),by rw [← h2.len];exact q _ H (aj.refl _) rfl⟩
 ·obtain ⟨x,rfl,⟨p,xs,rfl,h1,h2⟩⟩:=aO r
  cases e;exact .inl ⟨p,xs,rfl,.inr (fh h1),by rw [← h2.len];exact q _ H (aj.refl _) rfl⟩
 ·rename_i ks vs'
  obtain ⟨x,rfl,⟨p,xs,rfl,h1,h2,h3⟩⟩:=aO r;cases e;exact .inr (.inl ⟨p,_,rfl,h1,by rw [List.length_zip,← h2,Nat.min_self];exact q _ H (aj.refl _) rfl⟩)
 ·rename_i ks vs'
  obtain ⟨x,rfl,⟨p,xs,rfl,h1,h2,h3⟩⟩:=aO r;cases e;exact .inr (.inr (.inl ⟨p,_,rfl,h1,by rw [List.length_zip,← h2,Nat.min_self];exact q _ H (aj.refl _) rfl⟩))
 ·obtain ⟨x,rfl,⟨p,S,rfl,h1,h2⟩⟩:=aO r
  split at e
  ·rename_i hl
   cases e;exact .inr (.inr (.inr ⟨p,S,_,rfl,(ay h1).2,of_decide_eq_true hl,q _ H (aj.refl _) rfl⟩))
  ·cases e
 ·cases e
def oV:List D→Option (D×Bool)
 | [.lst ds]=>match be ds with
  | some ns=>some (.int ns.sum,false)
  | none=>none
 | [.tup ds]=>match be ds with
  | some ns=>some (.int ns.sum,false)
  | none=>none
 | _=>none
theorem uZ{X:Cx}(hc:X.calm=true):aI X (.builtin "sum") (fun xs H Q=>v8 X.K xs H Q∨v7 X.K xs H Q):=(uY hc).or (uX hc)
theorem os_sum{K:PySem.W.Frag}:OpS K (fun xs H Q=>v8 K xs H Q∨v7 K xs H Q) oV:=by
 intro vs ds H L Q d nw hm r e q;unfold oV at e
 split at e
 ·rename_i es
  obtain ⟨x,rfl,⟨p,xs,rfl,h1,h2⟩⟩:=aO r
  cases en:be es with
  | none=>rw [en] at e;cases e
  | some ns =>
   rw [en] at e;cases e;rw [bB en] at h2;rw [bo h2] at h1;exact .inl ⟨p,ns,rfl,.inl (.inl h1),q _ H (aj.refl _) rfl⟩
 ·rename_i es
  obtain ⟨x,rfl,⟨p,xs,rfl,h1,h2⟩⟩:=aO r
  cases en:be es with
  | none=>rw [en] at e;cases e
  | some ns =>
   rw [en] at e;cases e;rw [bB en] at h2;rw [bo h2] at h1;exact .inr ⟨p,ns,rfl,.inl (.inl (ay h1).2),q _ H (aj.refl _) rfl⟩
 ·cases e
def jx:List D→Option (D×Bool)
 | [.lst ds]=>match g8 ds with
  | some bs=>some (.bl (bs.all id),false)
  | none=>none
 | _=>none
def Ag(K:PySem.W.Frag):List V→Hp→VK→Prop:=fun xs H Q=>∃ (p:Addr) (bs:List Bool),xs=[V.ref p]∧SqL K H p (bs.map V.bl)∧Q (.bl (bs.all id)) H
theorem vm{X:Cx}(hc:X.calm=true):aI X (.builtin "all") (Ag X.K):=xD hc
theorem os_all{K:PySem.W.Frag}:OpS K (Ag K) jx:=by
 intro vs ds H L Q d nw hm r e q;unfold jx at e
 split at e
 ·rename_i es
  obtain ⟨x,rfl,⟨p,xs,rfl,h1,h2⟩⟩:=aO r
  cases en:g8 es with
  | none=>rw [en] at e;cases e
  | some ns =>
   rw [en] at e;cases e;rw [qQ en] at h2;rw [nH h2] at h1;exact ⟨p,ns,rfl,.inl (.inl h1),q _ H (aj.refl _) rfl⟩
 ·cases e
def tyD:D→Option String
 | .non=>some "NoneType"
 | .bl _=>some "bool"
 | .int _=>some "int"
 | .str _=>some "str"
 | .lst _=>some "list"
 | .klst _=>some "list"
 | .tup _=>some "tuple"
 | .ktup _=>some "tuple"
 | .dK _ _=>some "dict"
 | .dT _ _=>some "dict"
 | _=>none
def gX(C:String):List D→Option (D×Bool)
 | [d]=>match tyD d with
  | some T=>some (.bl (zj T C),false)
  | none=>none
 | _=>none
theorem vz{K:PySem.W.Frag}{H Hh:Hp}{d:D}{v:V}{T:String}(r:f9 K H Hh d v)(s:aj Hh H)(e:tyD d=some T):An K H T v:=by
 cases d<;>first
  | (unfold tyD at e;cases e;done)
  | (unfold tyD at e;cases e;have r:v=_:=r;subst r;rfl)
  | (unfold tyD at e;cases e;obtain ⟨p,xs,rfl,h1,h2,h3⟩:=r;exact .inr (.inr ⟨rfl,.inl ⟨_,h1⟩⟩))
  | (unfold tyD at e;cases e;obtain ⟨p,xs,rfl,h1,h2,h3⟩:=r;exact .inr (.inr ⟨rfl,.inr ⟨_,h1⟩⟩))
  | (unfold tyD at e;cases e;obtain ⟨p,xs,rfl,h1,h2⟩:=r;exact .inr (.inl ⟨rfl,xs,.inl (.inl (s _ _ h1))⟩))
  | (unfold tyD at e;cases e;obtain ⟨p,xs,rfl,h1,h2⟩:=r;exact .inr (.inl ⟨rfl,xs,fh h1⟩))
  | (unfold tyD at e;cases e;obtain ⟨p,xs,rfl,h1,h2⟩:=r;exact .inl ⟨rfl,xs,.inl (.inl h1)⟩)
  | (unfold tyD at e;cases e;obtain ⟨p,xs,rfl,h1,h2⟩:=r;exact .inl ⟨rfl,xs,s.seq h1⟩)
def rIsiC(K:PySem.W.Frag)(C:String):List V→Hp→VK→Prop
 | [x],H,Q=>rIsi K [x,.ty C] H Q
 | _,_,_=>False
theorem os_isi{K:PySem.W.Frag}{C:String}(hC:isiC C):OpS K (rIsiC K C) (gX C):=by
 intro vs ds H L Q d nw hm r e q;unfold gX at e
 split at e
 ·rename_i c
  obtain ⟨x,rfl,ra⟩:=aO r
  cases et:tyD c with
  | none=>rw [et] at e;cases e
  | some T =>
   rw [et] at e;cases e;exact ⟨x,T,C,rfl,hC,vz ra aC et,q _ H (aj.refl _) rfl⟩
 ·cases e
theorem tZ{X:Cx}{EX:EXT}{e:Expr}{a:Arg}{C:String}{nC:Str}{p1 p2 pos:Pos}(hC:isiC C)(he:JB X EX e a)(g1:Gl X "isinstance")(m1:X.mg "isinstance" = none)(g2:Gl X nC)(m2:X.mg nC=none)(b2:bootBuiltins nC=some (.type C))
 (hn:nC ≠ "__name__" := by decide) (hdb:(nC == ("__debug__" : Str))=false:=by decide)
 (hs:starEach [e,.Name nC p1] X.env=(false,eval e X.env)::starEach [.Name nC p1] X.env:=by rfl):JE X EX (.Call (.Name "isinstance" p2) [e,.Name nC p1] [] pos) (sOp (gX C) [a]) :=
 ⟨(qg xC g1 m1 boot_isinstance (ff he.p (ff (yO (v:= .ty C) g2 m2 b2 rfl hn hdb) gw) hs) (he:=hs)).by fun σ H Q ⟨F,ρ,W,R,h⟩=>dF (os_isi hC) R h⟩
def zp:List D→Option (D×Bool)
 | [.int a,.int b]=>some (.int (if b > a then b else a),false)
 | [.lst ds]=>match be ds with
  | some (n::ns)=>some (.int (i7 (n::ns)),false)
  | _=>none
 | _=>none
def gMin:List D→Option (D×Bool)
 | [.int a,.int b]=>some (.int (if b < a then b else a),false)
 | [.lst ds]=>match be ds with
  | some (n::ns)=>some (.int (jq (n::ns)),false)
  | _=>none
 | _=>none
def tf:List V→Hp→VK→Prop:=fun xs H Q=>∃ i j,xs=[.int i,.int j]∧Q (.int (if j > i then j else i)) H
def sZ:List V→Hp→VK→Prop:=fun xs H Q=>∃ i j,xs=[.int i,.int j]∧Q (.int (if j < i then j else i)) H
theorem u9{X:Cx}(hc:X.calm=true):aI X (.builtin "max") (fun xs H Q=>tf xs H Q∨qb X.K xs H Q):=(vc hc).or (u7 hc)
theorem u4{X:Cx}(hc:X.calm=true):aI X (.builtin "min") (fun xs H Q=>sZ xs H Q∨qa X.K xs H Q):=(u5 hc).or (u2 hc)
theorem lQ{M N:Int}{l:List Int}(h1:M∈l)(h2:∀ a∈l,a≤M)(h3:N∈l)(h4:∀ a∈l,a≤N):M=N:=by have:=h2 N h3;have:=h4 M h1;omega
theorem lr{M N:Int}{l:List Int}(h1:M∈l)(h2:∀ a∈l,M≤a)(h3:N∈l)(h4:∀ a∈l,N≤a):M=N:=by have:=h2 N h3;have:=h4 M h1;omega
theorem os_max{K:PySem.W.Frag}:OpS K (fun xs H Q=>tf xs H Q∨qb K xs H Q) zp:=by
 intro vs ds H L Q d nw hm r e q;unfold zp at e
 split at e
 ·obtain ⟨x,y,rfl,ra,rb⟩:=bc r
  cases e;exact .inl ⟨_,_,by rw [cj ra,cj rb],q _ H (aj.refl _) rfl⟩
 ·rename_i es
  obtain ⟨x,rfl,⟨p,xs,rfl,h1,h2⟩⟩:=aO r
  split at e
  ·rename_i n ns en
   cases e;rw [bB en] at h2;rw [bo h2] at h1;refine .inr ⟨p,n::ns,rfl,.inl (.inl h1),by simp,fun M m1 m2=> ?_⟩;obtain ⟨z1,z2⟩:=i6 (l:=n::ns) (by simp);rw [lQ m1 m2 z1 z2];exact q _ H (aj.refl _) rfl
  ·cases e
 ·cases e
theorem os_min{K:PySem.W.Frag}:OpS K (fun xs H Q=>sZ xs H Q∨qa K xs H Q) gMin:=by
 intro vs ds H L Q d nw hm r e q;unfold gMin at e
 split at e
 ·obtain ⟨x,y,rfl,ra,rb⟩:=bc r
  cases e;exact .inl ⟨_,_,by rw [cj ra,cj rb],q _ H (aj.refl _) rfl⟩
 ·rename_i es
  obtain ⟨x,rfl,⟨p,xs,rfl,h1,h2⟩⟩:=aO r
  split at e
  ·rename_i n ns en
   cases e;rw [bB en] at h2;rw [bo h2] at h1;refine .inr ⟨p,n::ns,rfl,.inl (.inl h1),by simp,fun M m1 m2=> ?_⟩;obtain ⟨z1,z2⟩:=i5 (l:=n::ns) (by simp);rw [lr m1 m2 z1 z2];exact q _ H (aj.refl _) rfl
  ·cases e
 ·cases e
def fT:List D→Option (D×Bool)
 | [.lst ds]=>match be ds with
  | some ns=>if decide (ns.length < 64)=true then some (.lst ((fk ns).map D.int),true) else none
  | none=>none
 | [.tup ds]=>match be ds with
  | some ns=>if decide (ns.length < 64)=true then some (.lst ((fk ns).map D.int),true) else none
  | none=>none
 | _=>none
theorem o5{X:Cx}:aI X (.builtin "sorted") (fun xs H Q=>ie X.K xs H Q∨ic X.K xs H Q):=o3.or o0
theorem uz{K:PySem.W.Frag}:OpS K (fun xs H Q=>ie K xs H Q∨ic K xs H Q) fT:=by
 intro vs ds H L Q d nw hm r e q;unfold fT at e
 have fin:∀ (ns:List Int) l (ms:List Int),H l=none→List.Perm ms ns→ms.Pairwise (·≤ ·)→(∀ v H',aj H H'→gN K H H' L (.lst ((fk ns).map D.int)) true v→Q v H')→Q (.ref l) (upd H l (.lst (ms.map V.int))):=fun ns l ms hl hp hs q=>by
  have:ms=fk ns:=bL hs (fS ns) (hp.trans (iA ns).symm);subst this;exact q _ _ (aj.upd hl) (cB (dw _) hl)
 split at e
 ·rename_i es
  obtain ⟨x,rfl,⟨p,xs,rfl,h1,h2⟩⟩:=aO r
  cases en:be es with
  | none=>rw [en] at e;cases e
  | some ns =>
   rw [en] at e;dsimp only at e
   split at e
   ·rename_i hl
    cases e;rw [bB en] at h2;rw [bo h2] at h1;exact .inl ⟨p,ns,rfl,.inl (.inl h1),of_decide_eq_true hl,fun l ms a b c=>fin ns l ms a b c q⟩
   ·cases e
 ·rename_i es
  obtain ⟨x,rfl,⟨p,xs,rfl,h1,h2⟩⟩:=aO r
  cases en:be es with
  | none=>rw [en] at e;cases e
  | some ns =>
   rw [en] at e;dsimp only at e
   split at e
   ·rename_i hl
    cases e;rw [bB en] at h2;rw [bo h2] at h1;exact .inr ⟨p,ns,rfl,.inl (.inl (ay h1).2),of_decide_eq_true hl,fun l ms a b c=>fin ns l ms a b c q⟩
   ·cases e
 ·cases e
def gq(lo:Int)(n:Nat):List D:=(List.range n).map fun k=> .int (lo+(k:Nat))
def rngV(lo:Int)(n:Nat):List V:=(List.range n).map fun k=> .int (lo+(k:Nat))
theorem pY{K:PySem.W.Frag}{H:Hp}(lo:Int)(n:Nat):ao K H (gq lo n) (rngV lo n):=by
 have:=dw (K:=K) (H:=H) ((List.range n).map fun k=>lo+((k:Nat):Int));rw [List.map_map,List.map_map] at this;exact this
def pX(lo hi:Int):Bool:=decide (-1000000000≤lo∧lo≤1000000000 ∧ -1000000000≤hi∧hi≤1000000000∧(hi - lo).toNat≤1000)
def xg:List D→Option (D×Bool)
 | [.lst ds]=>some (.lst ds,true)
 | [.tup ds]=>some (.lst ds,true)
 | [.ktup ds]=>some (.lst ds,true)
 | [.rng lo hi]=>if pX lo hi=true then some (.lst (gq lo (hi - lo).toNat),true) else none
 | _=>none
def dC:List D→Option (D×Bool)
 | [.lst ds]=>some (.tup ds,false)
 | [.tup ds]=>some (.tup ds,false)
 | [.rng lo hi]=>if pX lo hi=true then some (.tup (gq lo (hi - lo).toNat),false) else none
 | _=>none
def ki(K:PySem.W.Frag):List V→Hp→VK→Prop:=fun xs H Q=>∃ p ys,xs=[.ref p]∧(SqL K H p ys∨SqT K H p ys)∧∀ l,H l=none→Q (.ref l) (upd H l (.lst ys))
def p9(K:PySem.W.Frag):List V→Hp→VK→Prop:=fun xs H Q=>∃ p ys,xs=[.ref p]∧((SqL K H p ys∧∀ l,H l=none→Q (.ref l) (upd H l (.tup ys)))∨(SqT K H p ys∧Q (.ref p) H))
theorem sG{X:Cx}(hc:X.calm=true):aI X (.type "list") (fun xs H Q=>ki X.K xs H Q∨kU xs H Q):=o7.or (sE hc)
theorem qL{X:Cx}(hc:X.calm=true):aI X (.type "tuple") (fun xs H Q=>p9 X.K xs H Q∨v6 xs H Q):=mE.or (uW hc)
theorem yR{K:PySem.W.Frag}:OpS K (fun xs H Q=>ki K xs H Q∨kU xs H Q) xg:=by
 intro vs ds H L Q d nw hm r e q;unfold xg at e
 split at e
 ·obtain ⟨x,rfl,⟨p,xs,rfl,h1,h2⟩⟩:=aO r
  cases e;exact .inl ⟨p,xs,rfl,.inl (.inl (.inl h1)),fun l hl=>q _ _ (aj.upd hl) (cB h2 hl)⟩
 ·obtain ⟨x,rfl,⟨p,xs,rfl,h1,h2⟩⟩:=aO r
  cases e;exact .inl ⟨p,xs,rfl,.inr (.inl (.inl (ay h1).2)),fun l hl=>q _ _ (aj.upd hl) (cB h2 hl)⟩
 ·obtain ⟨x,rfl,⟨p,xs,rfl,h1,h2⟩⟩:=aO r
  cases e;exact .inl ⟨p,xs,rfl,.inr (fh h1),fun l hl=>q _ _ (aj.upd hl) (cB h2 hl)⟩
 ·rename_i lo hi
  obtain ⟨x,rfl,⟨p,rfl,h1⟩⟩:=aO r
  split at e
  ·rename_i hk
   cases e;have hk:=of_decide_eq_true hk;exact .inr ⟨p,lo,hi,rfl,(ay h1).2,by omega,by omega,by omega,by omega,hk.2.2.2.2,fun l hl=>q _ _ (aj.upd hl) (cB (pY _ _) hl)⟩
  ·cases e
 ·cases e
theorem wx{K:PySem.W.Frag}:OpS K (fun xs H Q=>p9 K xs H Q∨v6 xs H Q) dC:=by
 intro vs ds H L Q d nw hm r e q;unfold dC at e
 split at e
 ·obtain ⟨x,rfl,⟨p,xs,rfl,h1,h2⟩⟩:=aO r
  cases e;exact .inl ⟨p,xs,rfl,.inl ⟨.inl (.inl h1),fun l hl=>q _ _ (aj.upd hl) (i4 hm h2 (aj.upd hl) aD)⟩⟩
 ·obtain ⟨x,rfl,⟨p,xs,rfl,h1,h2⟩⟩:=aO r
  cases e;exact .inl ⟨p,xs,rfl,.inr ⟨.inl (.inl (ay h1).2),q _ _ (aj.refl _) ⟨p,xs,rfl,h1,h2⟩⟩⟩
 ·rename_i lo hi
  obtain ⟨x,rfl,⟨p,rfl,h1⟩⟩:=aO r
  split at e
  ·rename_i hk
   cases e;have hk:=of_decide_eq_true hk;exact .inr ⟨p,lo,hi,rfl,(ay h1).2,by omega,by omega,by omega,by omega,hk.2.2.2.2,fun l hl=>q _ _ (aj.upd hl) (i4 hm (pY _ _) (aj.upd hl) aD)⟩
  ·cases e
 ·cases e
def uP:List D→Option (D×Bool)
 | [.lst ds]=>match be ds with
  | some ns=>if decide (ns.length≤1000)=true then some (.set (dd ns),false) else none
  | none=>none
 | [.tup ds]=>match be ds with
  | some ns=>if decide (ns.length≤1000)=true then some (.set (dd ns),false) else none
  | none=>none
 | _=>none
theorem u0{X:Cx}(hc:X.calm=true):aI X (.type "set") (fun xs H Q=>rE X.K xs H Q∨rD X.K xs H Q):=(sx hc).or (sw hc)
theorem ip{K:PySem.W.Frag}{H:Hp}{L:List Addr}{p:Addr}{o:HO}(hm:∀ p∈L,fC (H p))(hp:H p=none):hid L (upd H p o) p=some o:=by
 rw [aQ (fun z=>by have:=hm p z;rw [hp] at this;exact this)];exact aD
theorem os_set{K:PySem.W.Frag}:OpS K (fun xs H Q=>rE K xs H Q∨rD K xs H Q) uP:=by
 intro vs ds H L Q d nw hm r e q;unfold uP at e
 have fin:∀ (ns:List Int) l (S:Int→Bool),H l=none→(∀ x,S x=true↔x∈ns)→(∀ v H',aj H H'→gN K H H' L (.set (dd ns)) false v→Q v H')→Q (.ref l) (upd H l (.set S (St2.eM ns ns.length).length)):=fun ns l S hl hS q=>by
  rw [qt];exact q _ _ (aj.upd hl) ⟨l,S,rfl,ip (K:=K) hm hl,fun x=>(hS x).trans (dd_mem ns x).symm⟩
 split at e
 ·rename_i es
  obtain ⟨x,rfl,⟨p,xs,rfl,h1,h2⟩⟩:=aO r
  cases en:be es with
  | none=>rw [en] at e;cases e
  | some ns =>
   rw [en] at e;dsimp only at e
   split at e
   ·rename_i hl
    cases e;rw [bB en] at h2;rw [bo h2] at h1;exact .inl ⟨p,ns,rfl,.inl (.inl h1),of_decide_eq_true hl,fun l S a b=>fin ns l S a b q⟩
   ·cases e
 ·rename_i es
  obtain ⟨x,rfl,⟨p,xs,rfl,h1,h2⟩⟩:=aO r
  cases en:be es with
  | none=>rw [en] at e;cases e
  | some ns =>
   rw [en] at e;dsimp only at e
   split at e
   ·rename_i hl
    cases e;rw [bB en] at h2;rw [bo h2] at h1;exact .inr ⟨p,ns,rfl,.inl (.inl (ay h1).2),of_decide_eq_true hl,fun l S a b=>fin ns l S a b q⟩
   ·cases e
 ·cases e
def mB:List D→Option (D×Bool)
 | [.int i]=>some (.int i,false)
 | [.bl b]=>some (.int (if b then 1 else 0),false)
 | _=>none
def Ae:List V→Hp→VK→Prop:=fun xs H Q=>(∃ i,xs=[.int i]∧Q (.int i) H)∨∃ k,xs=[.bl k]∧Q (.int (if k then 1 else 0)) H
theorem vh{X:Cx}:aI X (.type "int") Ae:=vj
theorem os_int{K:PySem.W.Frag}:OpS K Ae mB:=by
 intro vs ds H L Q d nw hm r e q;unfold mB at e
 split at e
 ·obtain ⟨x,rfl,ra⟩:=aO r
  cases e;exact .inl ⟨_,by rw [cj ra],q _ H (aj.refl _) rfl⟩
 ·obtain ⟨x,rfl,ra⟩:=aO r
  cases e;exact .inr ⟨_,by rw [yl ra],q _ H (aj.refl _) rfl⟩
 ·cases e
def lF:List D→Option (D×Bool)
 | [.int j]=>some (.rng 0 j,false)
 | [.int i,.int j]=>some (.rng i j,false)
 | _=>none
def Ac:List V→Hp→VK→Prop:=fun xs H Q=>(∃ j:Int,xs=[V.int j]∧∀ l,H l=none→Q (.ref l) (upd H l (.rng 0 j)))∨(∃ i j:Int,xs=[V.int i,V.int j]∧∀ l,H l=none→Q (.ref l) (upd H l (.rng i j)))
theorem qM{X:Cx}:aI X (.type "range") Ac:=xB
theorem wC{K:PySem.W.Frag}:OpS K Ac lF:=by
 intro vs ds H L Q d nw hm r e q;unfold lF at e
 split at e
 ·obtain ⟨x,rfl,ra⟩:=aO r
  cases e;exact .inl ⟨_,by rw [cj ra],fun l hl=>q _ _ (aj.upd hl) ⟨l,rfl,ip (K:=K) hm hl⟩⟩
 ·obtain ⟨x,y,rfl,ra,rb⟩:=bc r
  cases e;exact .inr ⟨_,_,by rw [cj ra,cj rb],fun l hl=>q _ _ (aj.upd hl) ⟨l,rfl,ip (K:=K) hm hl⟩⟩
 ·cases e
end L2
namespace L2
open PySem PySem.Spec PyProof.Rows
def fX:D→Option Key
 | .int i=>some (.inl i)
 | .str x=>some (.inr x)
 | _=>none
def iz:List D→Option (List Key)
 | []=>some []
 | d::ds=>match fX d,iz ds with
  | some k,some l=>some (k::l)
  | _,_=>none
theorem jw{K:PySem.W.Frag}{H:Hp}{d:D}{v:V}{k:Key}(e:fX d=some k)(r:aH K H d v):v=kV k:=by
 cases d<;>first | (unfold fX at e;cases e;done) | (unfold fX at e;cases e;exact r)
theorem iw{K:PySem.W.Frag}{H:Hp}:∀ {ds:List D} {xs:List V} {k:List Key},iz ds=some k→ao K H ds xs→xs=k.map kV
 | [],[],k,e,_=>by unfold iz at e;cases e;rfl
 | d::ds,x::xs,k,e,h=>by
  unfold iz at e
  cases e1:fX d with
  | none=>rw [e1] at e;cases e
  | some k1 =>
   cases e2:iz ds with
   | none=>rw [e1,e2] at e;cases e
   | some l =>
    rw [e1,e2] at e;cases e;rw [jw e1 h.1,iw e2 h.2];rfl
 | [],_::_,_,_,h=>h.elim
 | _::_,[],_,_,h=>h.elim
section
variable{κ:Type}[DecidableEq κ]
def cg:List κ→List D→κ→Option D
 | k::ks,d::ds,x=>if k=x then some d else cg ks ds x
 | _,_,_=>none
def jm:List κ→List D→κ→D→List κ×List D
 | k::ks,d::ds,x,y=>if k=x then (k::ks,y::ds) else ((k::(jm ks ds x y).1),d::(jm ks ds x y).2)
 | _,_,x,y=>([x],[y])
theorem fH{K:PySem.W.Frag}{H:Hp}:∀ {ks:List κ} {ds:List D} {xs:List V} {x:κ},ks.length=xs.length→ao K H ds xs →
 (∀ d,cg ks ds x=some d→∃ v,eC (ks.zip xs) x=some v∧aH K H d v)∧(cg ks ds x=none→eC (ks.zip xs) x=none)
 | [],[],[],_,_,_=>⟨fun d h=>(by unfold cg at h;cases h),fun _=>rfl⟩
 | k::ks,d::ds,y::xs,x,hl,h=>by
  obtain ⟨i1,i2⟩:=fH (x:=x) (Nat.succ.inj hl) h.2;have hl:ks.length=xs.length:=Nat.succ.inj hl;rw [List.zip_cons_cons]
  by_cases e:k=x
  ·rw [iG (p:=(k,y)) e]
   refine ⟨fun d' hd=> ?_,fun hd=> ?_⟩
   ·unfold cg at hd;rw [if_pos e] at hd;cases hd;exact ⟨y,rfl,h.1⟩
   ·unfold cg at hd;rw [if_pos e] at hd;cases hd
  ·rw [iH (p:=(k,y)) e]
   refine ⟨fun d' hd=> ?_,fun hd=> ?_⟩
   ·unfold cg at hd;rw [if_neg e] at hd;exact i1 d' hd
   ·unfold cg at hd;rw [if_neg e] at hd;exact i2 hd
 | [],_::_,[],_,_,h=>h.elim
 | [],[],_::_,_,_,h=>h.elim
 | [],_::_,_::_,_,hl,_=>by simp at hl
 | _::_,[],[],_,hl,_=>by simp at hl
 | _::_,[],_::_,_,_,h=>h.elim
 | _::_,_::_,[],_,_,h=>h.elim
def iX:List κ→List V→κ→V→List κ×List V
 | k::ks,d::ds,x,y=>if k=x then (k::ks,y::ds) else ((k::(iX ks ds x y).1),d::(iX ks ds x y).2)
 | _,_,x,y=>([x],[y])
theorem kX{K:PySem.W.Frag}{H:Hp}{d:D}{v:V}(r:aH K H d v):∀ {ks:List κ} {ds:List D} {xs:List V} {x:κ},ks.length=xs.length→ao K H ds xs →
 (iX ks xs x v).1=(jm ks ds x d).1∧ao K H (jm ks ds x d).2 (iX ks xs x v).2∧(iX ks xs x v).1.length=(iX ks xs x v).2.length
 | [],[],[],_,_,_=>⟨rfl,⟨r,trivial⟩,rfl⟩
 | k::ks,e::ds,y::xs,x,hl,h=>by
  obtain ⟨i1,i2,i3⟩:=kX (x:=x) r (Nat.succ.inj hl) h.2;unfold iX jm;have hl:ks.length=xs.length:=Nat.succ.inj hl
  by_cases z:k=x
  ·rw [if_pos z,if_pos z]
   exact ⟨rfl,⟨r,h.2⟩,by simp [hl]⟩
  ·rw [if_neg z,if_neg z]
   exact ⟨by show k::_=k::_;rw [i1],⟨h.1,i2⟩,by show (k::_).length=(y::_).length;rw [List.length_cons,List.length_cons,i3]⟩
 | [],_::_,[],_,_,h=>h.elim
 | [],[],_::_,_,_,h=>h.elim
 | [],_::_,_::_,_,hl,_=>by simp at hl
 | _::_,[],[],_,hl,_=>by simp at hl
 | _::_,[],_::_,_,_,h=>h.elim
 | _::_,_::_,[],_,_,h=>h.elim
theorem kW{v:V}:∀ {ks:List κ} {xs:List V} {x:κ},ks.length=xs.length→ks.Nodup→(iX ks xs x v).1.zip (iX ks xs x v).2=ig (ks.zip xs) x v
 | [],[],x,_,_=>rfl
 | k::ks,y::xs,x,hl,nd=>by
  have hl:ks.length=xs.length:=Nat.succ.inj hl;have nd:=List.nodup_cons.mp nd;have ih:=kW (v:=v) (x:=x) hl nd.2;unfold iX;rw [List.zip_cons_cons]
  by_cases z:k=x
  ·rw [if_pos z,List.zip_cons_cons]
   unfold ig;rw [if_pos (by simp [z]),List.map_cons,if_pos z]
   congr 1
   symm
   have:∀ p∈ks.zip xs,(if p.1=x then (p.1,v) else p)=p:=fun p hp=>by
    rw [if_neg (fun e=>nd.1 (by rw [z,← e];exact (List.of_mem_zip (show (p.1,p.2)∈_ from hp)).1))]
   exact (List.map_congr_left this).trans (List.map_id' _)
  ·rw [if_neg z]
   show ((k,y)::(iX ks xs x v).1.zip (iX ks xs x v).2)=_
   rw [ih];unfold ig
   have:(((k,y)::ks.zip xs).any fun kv=>decide (kv.1=x))=(ks.zip xs).any fun kv=>decide (kv.1=x):=by rw [List.any_cons];simp [z]
   rw [this]
   split
   ·rw [List.map_cons,if_neg z]
   ·rfl
 | [],_::_,_,hl,_=>by simp at hl
 | _::_,[],_,hl,_=>by simp at hl
end
def jV(ds:List D)(d:D):Bool:=ds.any fun e=>eqD e d
def gInD:D→D→Option Bool
 | d,.lst ds=>if (ak 9 d&&ds.all (ak 9))=true then some (jV ds d) else none
 | d,.tup ds=>if (ak 9 d&&ds.all (ak 9))=true then some (jV ds d) else none
 | d,.ktup ds=>if (ak 9 d&&ds.all (ak 9))=true then some (jV ds d) else none
 | .int i,.rng lo hi=>some (decide (lo≤i∧i < hi))
 | d,.dK ks vs=>match fX d with
  | some k=>some (cg ks vs k).isSome
  | none=>none
 | .tup ds,.dT ks vs=>match iz ds with
  | some k=>some (cg ks vs k).isSome
  | none=>none
 | _,_=>none
def gIn:List D→Option (D×Bool)
 | [d,c]=>match gInD d c with
  | some b=>some (.bl b,false)
  | none=>none
 | _=>none
def rInS(K:PySem.W.Frag)(neg:Bool):R2:=fun x y H Q=>∃ (d:D) (p:Addr) (xs:List V) (ds:List D),y = .ref p∧(SqL K H p xs∨SqT K H p xs)∧ao K H ds xs∧ds.all (ak 9)=true∧aH K H d x∧ak 9 d=true∧Q (.bl (if neg then !jV ds d else jV ds d)) H
def Af(neg:Bool):R2:=fun y x H Q=>∃ a o,x = .ref a∧mH H a y o∧Q (.bl (if neg then !o.isSome else o.isSome)) H
def yy(K:PySem.W.Frag)(neg:Bool):R2:=fun x y H Q=>rInS K neg x y H Q∨rInR neg x y H Q∨Af neg x y H Q
section
variable{X:Cx}
open Classical in
theorem qy{pins:List (Addr×Obj)}{σ:St}{H:Hp}{s:Shared}(I:Inv X pins σ H s)(hu:X.A.units+10 < cLine){d:D}{ds:List D}{x:V}{u:Value}{xs:List V}{its:List Value}(rd:ao X.K H ds xs)(rv:aG xs its)(hds:ds.all (ak 9)=true)(r:aH X.K H d x)(hd:ak 9 d=true)(ru:aR x u) :
 ∃ e:Value→Bool,(∀ y,y∈its.toArray→SeqAt.EqAt X.A.in1 s y u (e y))∧its.toArray.any e=jV ds d:=by
 refine ⟨fun y=>decide (∃ (j:Nat) (d':D),ds[j]?=some d'∧its[j]?=some y∧eqD d' d=true),fun y hy=> ?_,?_⟩
 ·have hy:y∈its:=by simpa using hy
  obtain ⟨j,hj,rfl⟩:=List.mem_iff_getElem.mp hy;obtain ⟨v,ev,rv1⟩:=bq rv hj;obtain ⟨d',e1,q1⟩:=rd.get' ev;have hd':=List.all_eq_true.mp hds _ (List.mem_of_getElem? e1);have z:=sk I 9 (A:=X.A.in1) (by show X.A.units+1+9 < cLine;omega) hd' hd q1 r rv1 ru
  have e:decide (∃ (j':Nat) (d':D),ds[j']?=some d'∧its[j']?=some its[j]∧eqD d' d=true)=eqD d' d:=by
   cases hq:eqD d' d with
   | true=>exact decide_eq_true ⟨j,d',e1,List.getElem?_eq_getElem hj,hq⟩
   | false =>
    refine decide_eq_false fun hZ=> ?_
    obtain ⟨j2,d2,g1,g2,g3⟩:=hZ;obtain ⟨hj2,g2'⟩:=List.getElem?_eq_some_iff.mp g2;obtain ⟨v2,ev2,rv2⟩:=bq rv hj2;rw [g2'] at rv2;have:v2=v:=rv2.inj rv1;subst this;obtain ⟨d3,e3,q3⟩:=rd.get' ev2;rw [g1] at e3;cases e3;have hn:=gt I 9 9 (List.all_eq_true.mp hds _ (List.mem_of_getElem? g1)) hd' q3 q1 rv1;unfold eqD at g3 hq;rw [hn,hq] at g3;cases g3
  dsimp only;rw [e];exact z
 ·rw [Bool.eq_iff_iff]
  unfold jV;simp only [List.any_toArray,List.any_eq_true]
  constructor
  ·rintro ⟨y,hy,hq⟩
   obtain ⟨j,d',g1,g2,g3⟩:=of_decide_eq_true hq;exact ⟨d',List.mem_of_getElem? g1,g3⟩
  ·rintro ⟨d',hd',hq⟩
   obtain ⟨j,hj,rfl⟩:=List.mem_iff_getElem.mp hd'
   have hji:j < its.length:=by rw [← rv.length,← rd.len];exact hj
   exact ⟨its[j],List.getElem_mem hji,decide_eq_true ⟨j,_,List.getElem?_eq_getElem hj,List.getElem?_eq_getElem hji,hq⟩⟩
theorem op_inS(hu:X.A.units+10 < cLine):OpR X (compareOp .In) (rInS X.K false):=by
 intro pins s σ H x y v u Q I rx ry h;obtain ⟨d,p,xs,ds,rfl,hq,rd,hds,r,hd,q⟩:=h;cases ry
 rcases hq with hq | hq
 ·obtain ⟨its,rv,pl,_⟩:=I.list hq
  obtain ⟨e,he,ee⟩:=qy I hu rd rv hds r hd rx;refine SeqAt.in_listAt e pl.isList he ⟨.bl _,H,I,rfl,?_⟩;rw [ee];exact q
 ·obtain ⟨its,rv,pl,_⟩:=I.tuple hq
  obtain ⟨e,he,ee⟩:=qy I hu rd rv hds r hd rx;refine SeqAt.in_tupleAt e (show s.heap.IsTuple p its.toArray from pl) he ⟨.bl _,H,I,rfl,?_⟩;rw [ee];exact q
theorem yU(hu:X.A.units+1 < cLine):OpR X (compareOp .In) (Af false):=by
 intro pins s σ H y x u v Q I ry rx h;obtain ⟨a,o,rfl,g,q⟩:=h;cases rx
 exact d_in hu I g ry fun s3 I3=>⟨.bl o.isSome,H,I3,rfl,q⟩
theorem wG(hu:X.A.units+10 < cLine):OpR X (compareOp .In) (yy X.K false):=(op_inS hu).or (op_inR.or (yU (by omega)))
end
section
variable{K:PySem.W.Frag}
theorem dget_k{H Hh:Hp}{p:Addr}{ks:List Key}{ds:List D}{xs:List V}{k:Key}{y:V}(h1:H p=some (.dK (ks.zip xs)))(hl:ks.length=xs.length)(h2:ao K Hh ds xs)(hy:y=kV k) :
 ∃ o,mH H p y o∧o.isSome=(cg ks ds k).isSome∧∀ d,cg ks ds k=some d→∃ v,o=some v∧aH K Hh d v:=by
 subst hy;obtain ⟨i1,i2⟩:=fH (x:=k) hl h2;refine ⟨_,mH.k (k:=k) h1,?_,fun d hd=>i1 d hd⟩
 cases e:cg ks ds k with
 | none=>rw [i2 e];rfl
 | some d=>obtain ⟨v,e1,_⟩:=i1 d e;rw [e1];rfl
theorem dget_t{H Hh:Hp}{p b:Addr}{ks:List (List Key)}{ds:List D}{xs:List V}{k:List Key}(h1:H p=some (.dT (ks.zip xs)))(hl:ks.length=xs.length)(h2:ao K Hh ds xs)(hb:H b=some (.tup (k.map kV))) :
 ∃ o,mH H p (.ref b) o∧o.isSome=(cg ks ds k).isSome∧∀ d,cg ks ds k=some d→∃ v,o=some v∧aH K Hh d v:=by
 obtain ⟨i1,i2⟩:=fH (x:=k) hl h2;refine ⟨_,mH.t (k:=k) h1 hb,?_,fun d hd=>i1 d hd⟩
 cases e:cg ks ds k with
 | none=>rw [i2 e];rfl
 | some d=>obtain ⟨v,e1,_⟩:=i1 d e;rw [e1];rfl
theorem in_of{H:Hp}{L:List Addr}{d c:D}{x y:V}{b neg:Bool}{Q:VK}(ra:f9 K H (hid L H) d x)(rb:f9 K H (hid L H) c y)(e:gInD d c=some b)(q:Q (.bl (if neg then !b else b)) H):yy K neg x y H Q:=by
 have seq:∀ (p:Addr) (xs:List V) (ds:List D),y = .ref p→(SqL K H p xs∨SqT K H p xs)→ao K (hid L H) ds xs→(if (ak 9 d&&ds.all (ak 9))=true then some (jV ds d) else none)=some b→yy K neg x y H Q:=fun p xs ds hy hs hr e=>by
  split at e
  ·rename_i hc
   have hc:=(Bool.and_eq_true _ _).mp hc;cases e;exact .inl ⟨d,p,xs,ds,hy,hs,aC.repDs hr,hc.2,ra.d aC,hc.1,q⟩
  ·cases e
 unfold gInD at e
 split at e
 ·obtain ⟨p,xs,rfl,h1,h2⟩:=rb
  exact seq p xs _ rfl (.inl (.inl (.inl h1))) h2 e
 ·obtain ⟨p,xs,rfl,h1,h2⟩:=rb
  exact seq p xs _ rfl (.inr (.inl (.inl (ay h1).2))) h2 e
 ·obtain ⟨p,xs,rfl,h1,h2⟩:=rb
  exact seq p xs _ rfl (.inr (fh h1)) h2 e
 ·obtain ⟨p,rfl,h1⟩:=rb
  cases e;exact .inr (.inl ⟨p,_,_,_,ra,rfl,(ay h1).2,q⟩)
 ·obtain ⟨p,xs,rfl,h1,h2,h3⟩:=rb
  split at e
  ·rename_i k ek
   cases e;obtain ⟨o,g1,g2,_⟩:=dget_k (k:=k) h1 h2 h3 (jw ek (ra.d aC));exact .inr (.inr ⟨p,o,rfl,g1,by rw [g2];exact q⟩)
  ·cases e
 ·obtain ⟨p,xs,rfl,h1,h2,h3⟩:=rb
  obtain ⟨b',ys,rfl,h4,h5⟩:=ra
  split at e
  ·rename_i k ek
   cases e;have h4:=(ay h4).2;rw [iw ek h5] at h4;obtain ⟨o,g1,g2,_⟩:=dget_t (k:=k) h1 h2 h3 h4;exact .inr (.inr ⟨p,o,rfl,g1,by rw [g2];exact q⟩)
  ·cases e
 ·cases e
theorem Ah:OpS K (r2 (yy K false)) gIn:=by
 intro vs ds H L Q d nw hm r e q;unfold gIn at e
 split at e
 ·obtain ⟨x,y,rfl,ra,rb⟩:=bc r
  split at e
  ·rename_i b eb
   cases e;exact in_of ra rb eb (q _ H (aj.refl _) rfl)
  ·cases e
 ·cases e
end
end L2
namespace L2
open PySem PySem.Spec PyProof.Rows
def b7(j:Nat)(u:D→List D→Option (D×D))(fs:List SE):SE:=fun ρ=>match ρ[j]? with
 | some (some (_,.fz))=>none
 | some (some (.lst _,_))=>match evA (fs.map Arg.ex) ρ with
  | some (.ok ds,ρ1)=>match ρ1[j]? with
   | some (some (c,.ow))=>match u c ds with
    | some (c',d)=>some (.ok d false,ρ1.set j (some (c',.ow)))
    | none=>none
   | some (some (c,.io))=>match u c ds with
    | some (c',d)=>some (.ok d false,ρ1.set j (some (c',.io)))
    | none=>none
   | _=>none
  | some (.ex C,ρ1)=>some (.ex C,ρ1)
  | none=>none
 | _=>none
def MeS(K:PySem.W.Frag)(r:V→List V→Hp→VK→Prop)(u:D→List D→Option (D×D)):Prop :=
 ∀ (H:Hp) (L:List Addr) (p:Addr) (c:D) (ds:List D) (vs:List V) (c' d:D) (Q:VK),aT K H (hid L H) p c→p∈L→ao K (hid L H) ds vs→u c ds=some (c',d) →
  (∀ v o,aT K (upd H p o) (hid L H) p c'→aH K (hid L H) d v→Q v (upd H p o))→r (.ref p) vs H Q
section
variable{K:PySem.W.Frag}{EX:EXT}{σ:St}{H:Hp}{Q:VK}
theorem zd{j:Nat}{u:D→List D→Option (D×D)}{fs:List SE}{r:V→List V→Hp→VK→Prop}(hs:MeS K r u)(hw:tV K EX (b7 j u fs) σ H Q):tBM K "list" r (vH j) (tAs K EX (fs.map Arg.ex)) σ H Q:=by
 obtain ⟨F,ρ,W,R,h⟩:=hw;unfold b7 at h
 revert h
 cases e0:ρ[j]? with
 | none=>exact fun h=>h.elim
 | some z =>
  cases z with
  | none=>exact fun h=>h.elim
  | some z =>
   obtain ⟨c0,m0⟩:=z
   have go:m0 ≠ .fz→∀ es,c0 = .lst es→OkV K F EX σ H W (match evA (fs.map Arg.ex) ρ with
    | some (.ok ds,ρ1)=>match ρ1[j]? with
     | some (some (c,.ow))=>match u c ds with
      | some (c',d)=>some (.ok d false,ρ1.set j (some (c',.ow)))
      | none=>none
     | some (some (c,.io))=>match u c ds with
      | some (c',d)=>some (.ok d false,ρ1.set j (some (c',.io)))
      | none=>none
     | _=>none
    | some (.ex C,ρ1)=>some (.ex C,ρ1)
    | none=>none) Q→tBM K "list" r (vH j) (tAs K EX (fs.map Arg.ex)) σ H Q:=fun hm0 es hc0 h=>by
    subst hc0;obtain ⟨v,hv,ok0⟩:=R.slot j _ _ e0
    have own0:∃ p,v = .ref p∧p∈W∧aT K H (hid (W++F.Z) H) p (.lst es):=by
     cases m0 with
     | fz=>exact absurd rfl hm0
     | ow=>exact ok0
     | io=>obtain ⟨p,a,b,c,_⟩:=ok0;exact ⟨p,a,b,c⟩
    obtain ⟨p,rfl,hp,xs,hx,_⟩:=own0;refine ⟨_,hv,.inl ⟨rfl,xs,.inl (.inl hx)⟩,nA fs R ?_⟩
    revert h
    cases evA (fs.map Arg.ex) ρ with
    | none=>exact fun h=>h
    | some q =>
     obtain ⟨q,ρ1⟩:=q
     cases q with
     | ex C=>exact fun h=>h
     | ok ds =>
      dsimp only;intro h vs H1 W1 fr1 sub1 R1 reps
      have step:∀ (c:D) (m:Md),m ≠ .fz→ρ1[j]?=some (some (c,m))→∀ c' d,u c ds=some (c',d)→OkV K F EX σ H W (some (.ok d false,ρ1.set j (some (c',m)))) Q→r (.ref p) vs H1 Q:=fun c m hm e1 c' d eu h=>by
       obtain ⟨v1,hv1,ok1⟩:=R1.slot j c m e1;rw [hv] at hv1;cases hv1
       have own1:p∈W1∧aT K H1 (hid (W1++F.Z) H1) p c:=by
        cases m with
        | fz=>exact absurd rfl hm
        | ow=>obtain ⟨p',a,b,c⟩:=ok1;cases a;exact ⟨b,c⟩
        | io=>obtain ⟨p',a,b,c,_⟩:=ok1;cases a;exact ⟨b,c⟩
       refine hs H1 (W1++F.Z) p c ds vs c' d Q own1.2 (List.mem_append_left _ own1.1) reps eu fun v2 o new rd=> ?_
       obtain ⟨R2,fr2⟩:=R1.write e1 hm hv new;refine h v2 _ W1 (fr1.trans fr2 fun q hq=> .inl (sub1 q hq)) sub1 ⟨?_,R2⟩;rw [tN (List.mem_append_left _ own1.1)];exact rd
      revert h
      split
      ·rename_i c e1
       split
       ·rename_i c' d eu
        exact fun h=>step c .ow (by decide) e1 c' d eu h
       ·exact fun h=>h.elim
      ·rename_i c e1
       split
       ·rename_i c' d eu
        exact fun h=>step c .io (by decide) e1 c' d eu h
       ·exact fun h=>h.elim
      ·exact fun h=>h.elim
   cases m0 with
   | fz=>exact fun h=>h.elim
   | ow=>cases c0<;>first | exact fun h=>h.elim | exact fun h=>go (by decide) _ rfl h
   | io=>cases c0<;>first | exact fun h=>h.elim | exact fun h=>go (by decide) _ rfl h
end
def cq:D→List D→Option (D×D)
 | .lst ds,[d]=>if small ds.length=true then some (.lst (ds++[d]),.non) else none
 | _,_=>none
def cn:D→List D→Option (D×D)
 | .lst ds,[.lst es]=>if small (ds.length+es.length)=true then some (.lst (ds++es),.non) else none
 | .lst ds,[.tup es]=>if small (ds.length+es.length)=true then some (.lst (ds++es),.non) else none
 | _,_=>none
def uPop:D→List D→Option (D×D)
 | .lst ds,[]=>match ds[ds.length - 1]? with
  | some d=>some (.lst ds.dropLast,d)
  | none=>none
 | _,_=>none
def uPopAt:D→List D→Option (D×D)
 | .lst ds,[.int i]=>if (decide (-1000000000≤i∧i≤1000000000))=true then match seqIndex? i ds.length with
  | some k=>match ds[k]? with
   | some d=>some (.lst (ds.eraseIdx k),d)
   | none=>none
  | none=>none
  else none
 | _,_=>none
section
variable{K:PySem.W.Frag}
theorem uF:MeS K tw cq:=by
 intro H L p c ds vs c' d Q hO hp hr e q;unfold cq at e
 split at e
 ·obtain ⟨xs,h1,h2⟩:=hO
  split at e
  ·rename_i hs
   cases e
   match vs,hr with
   | [v],hr =>
    refine ⟨p,xs,v,rfl,rfl,h1,kC (by rw [← h2.len];exact hs),q _ _ ⟨_,aD,h2.app ⟨hr.1,trivial⟩⟩ rfl⟩
  ·cases e
 ·cases e
def qd(K:PySem.W.Frag):V→List V→Hp→VK→Prop:=fun x vs H Q=>tq x vs H Q∨qc x vs H Q
theorem rO{X:Cx}:MtM X "list.extend" (qd X.K):=by
 intro pins s σ H x xs v us Q I rx r h
 rcases h with h | h
 ·exact uC pins s σ H x xs v us Q I rx r h
 ·exact rN pins s σ H x xs v us Q I rx r h
theorem uE:MeS K (qd K) cn:=by
 intro H L p c ds vs c' d Q hO hp hr e q;unfold cn at e
 split at e
 ·obtain ⟨xs,h1,h2⟩:=hO
  split at e
  ·rename_i hs
   cases e
   match vs,hr with
   | [v],hr =>
    obtain ⟨b,ys,rfl,h3,h4⟩:=hr.1;exact .inl ⟨p,b,xs,ys,rfl,rfl,h1,(ay h3).2,gh (by rw [← h2.len,← h4.len];exact hs),q _ _ ⟨_,aD,h2.app h4⟩ rfl⟩
  ·cases e
 ·obtain ⟨xs,h1,h2⟩:=hO
  split at e
  ·rename_i hs
   cases e
   match vs,hr with
   | [v],hr =>
    obtain ⟨b,ys,rfl,h3,h4⟩:=hr.1;exact .inr ⟨p,b,xs,ys,rfl,rfl,h1,(ay h3).2,gh (by rw [← h2.len,← h4.len];exact hs),q _ _ ⟨_,aD,h2.app h4⟩ rfl⟩
  ·cases e
 ·cases e
end
section
variable{X:Cx}{EX:EXT}{e:Expr}{es:List Expr}{pos p1 apos cpos:Pos}{n:Str}{j:Nat}
theorem xE{name:Str}{id:String}{u:D→List D→Option (D×D)}{fs:List SE}{r:V→List V→Hp→VK→Prop}(hs:MeS X.K r u)(hm:MtM X id r)(slot:Slot "list" name id)(hty:typeOf (.builtin id)=pure (.type "method_descriptor"))(hN:X.N[j]?=some n)(hv:Vis X.env.scope n)(ha:JF X EX (e::es) fs)
 (hbase:attributeBase (.Name n p1) name X.env (eval (.Name n p1) X.env)=eval (.Name n p1) X.env:=by rfl)
 (hfew:((backTo cpos (starEach (e::es) X.env)).all (fun x => !x.1)&&(backToKw cpos (keywordEach [] X.env)).all (fun x=>x.1.isSome)
   && decide ((e::es).length+([]:List Keyword).length+(if ([]:List Keyword).isEmpty then 0 else 1) < 30))=true:=by rfl)
 (hline:(apos.endLine == cpos.line)=true:=by rfl) (hst:starEach (e::es) X.env=(false,eval e X.env)::starEach es X.env:=by rfl) (hplain:(backTo cpos (starEach es X.env)).any (·.1)=false:=by rfl)
 (hd:(n == ("__debug__" : Str))=false:=by decide) (hcd:(n == ("__classdict__" : Str))=false:=by decide):JE X EX (.Call (.Attribute (.Name n p1) name apos) (e::es) [] cpos) (b7 j u fs) :=
 ⟨(wv PySem.F.plainAttrs_list slot hty hm (ii hN hv hd hcd) ha.p hbase hfew hline hst hplain).by fun σ H Q h=>zd hs h⟩
end
def dX(u:D→D→D→Option D)(j:Nat)(f fi:SE):SS:=fun ρ=>match f ρ with
 | some (.ok d _,ρ1)=>match ρ1[j]? with
  | some (some _)=>match fi ρ1 with
   | some (.ok i _,ρ2)=>match ρ2[j]? with
    | some (some (c,.ow))=>match u c i d with
     | some c'=>some (.nx,ρ2.set j (some (c',.ow)))
     | none=>none
    | some (some (c,.io))=>match u c i d with
     | some c'=>some (.nx,ρ2.set j (some (c',.io)))
     | none=>none
    | _=>none
   | some (.ex C,ρ2)=>some (.ex C,ρ2)
   | none=>none
  | _=>none
 | some (.ex C,ρ1)=>some (.ex C,ρ1)
 | none=>none
def PuS(K:PySem.W.Frag)(r:V→V→V→Hp→(Hp→Prop)→Prop)(u:D→D→D→Option D):Prop :=
 ∀ (H:Hp) (L:List Addr) (p:Addr) (c i d c':D) (vi vd:V) (Q:Hp→Prop),aT K H (hid L H) p c→p∈L→aH K (hid L H) i vi→aH K (hid L H) d vd→u c i d=some c' →
  (∀ o,aT K (upd H p o) (hid L H) p c'→Q (upd H p o))→r (.ref p) vi vd H Q
theorem tM{K:PySem.W.Frag}{EX:EXT}{u:D→D→D→Option D}{r:V→V→V→Hp→(Hp→Prop)→Prop}{j:Nat}{f fi:SE}{E:lV}{σ:St}{H:Hp}(hs:PuS K r u)(h:tVS K EX (dX u j f fi) E σ H) :
 tV K EX f σ H fun v H1=>∃ o,σ[j]?=some (some o)∧tV K EX fi σ H1 fun i H2=>r o i v H2 fun H3=>E.nx σ H3:=by
 obtain ⟨F,ρ,W,R,h⟩:=h;refine ⟨F,ρ,W,R,?_⟩;unfold dX at h
 revert h
 cases f ρ with
 | none=>exact fun h=>h
 | some q =>
  obtain ⟨q,ρ1⟩:=q
  cases q with
  | ex C=>exact fun h H2 W2 fr2 sub2 R2=>h σ H2 W2 fr2 (fun p hp=> .inl (sub2 p hp)) R2
  | ok d nw =>
   dsimp only
   cases e1:ρ1[j]? with
   | none=>exact fun h=>h.elim
   | some z =>
    cases z with
    | none=>exact fun h=>h.elim
    | some z =>
     obtain ⟨c1,m1⟩:=z;intro h v H1 W1 fr1 sub1 P1;obtain ⟨rd,R1⟩:=P1.plain;obtain ⟨o,ho,_⟩:=R1.slot j _ _ e1;refine ⟨o,ho,F,ρ1,W1,R1,?_⟩
     revert h
     dsimp only
     cases fi ρ1 with
     | none=>exact fun h=>h
     | some q =>
      obtain ⟨q,ρ2⟩:=q
      cases q with
      | ex C=>exact fun h H2 W2 fr2 sub2 R2=>h σ H2 W2 (fr1.trans fr2 fun p hp=> .inl (sub1 p hp)) (fun p hp=> .inl (sub1 p (sub2 p hp))) R2
      | ok i nw2 =>
       dsimp only;intro h vi H2 W2 fr2 sub2 P2;obtain ⟨ri,R2⟩:=P2.plain
       have step:∀ (c:D) (m:Md),m ≠ .fz→ρ2[j]?=some (some (c,m))→∀ c',u c i d=some c'→OkS K F EX H W (some (.nx,ρ2.set j (some (c',m)))) E→r o vi v H2 fun H3=>E.nx σ H3:=fun c m hm e2 c' eu h=>by
        obtain ⟨v1,hv1,ok1⟩:=R2.slot j c m e2;rw [ho] at hv1;cases hv1
        have own1:∃ p,o = .ref p∧p∈W2∧aT K H2 (hid (W2++F.Z) H2) p c:=by
         cases m with
         | fz=>exact absurd rfl hm
         | ow=>exact ok1
         | io=>obtain ⟨p',a,b,c,_⟩:=ok1;exact ⟨p',a,b,c⟩
        obtain ⟨p,rfl,hp,hO⟩:=own1
        refine hs H2 (W2++F.Z) p c i d c' vi v _ hO (List.mem_append_left _ hp) ri ((fr2.hid fun p hp=> .inl (sub2 p hp)).repD rd) eu fun o' new=> ?_
        obtain ⟨R3,fr3⟩:=R2.write e2 hm ho new;exact h σ _ W2 ((fr1.trans fr2 fun p hp=> .inl (sub1 p hp)).trans fr3 fun p hp=> .inl (sub1 p (sub2 p hp))) (fun p hp=> .inl (sub1 p (sub2 p hp))) R3
       revert h
       split
       ·rename_i c e2
        split
        ·rename_i c' eu
         exact fun h=>step c .ow (by decide) e2 c' eu h
        ·exact fun h=>h.elim
       ·rename_i c e2
        split
        ·rename_i c' eu
         exact fun h=>step c .io (by decide) e2 c' eu h
        ·exact fun h=>h.elim
       ·exact fun h=>h.elim
def gY:D→D→D→Option D
 | .lst ds,.int k,d=>match ixN ds.length k with
  | some n=>some (.lst (ds.set n d))
  | none=>none
 | _,_,_=>none
theorem yC{K:PySem.W.Frag}:PuS K Ab gY:=by
 intro H L p c i d c' vi vd Q hO hp ri rd e q;unfold gY at e
 split at e
 ·rename_i ds k
  obtain ⟨xs,h1,h2⟩:=hO
  split at e
  ·rename_i n en
   cases e;exact ⟨p,xs,k,n,rfl,ri,h1,by rw [← h2.len];exact en,q _ ⟨_,aD,h2.set rd n⟩⟩
  ·cases e
 ·cases e
section
variable{X:Cx}{EX:EXT}{e i:Expr}{pos pos' p1:Pos}{n:Str}{j:Nat}{f fi:SE}
theorem rj(he:JE X EX e f)(hi:JE X EX i fi)(hN:X.N[j]?=some n)(hv:Vis X.env.scope n)(hs:swapsWithSole [.Subscript (.Name n p1) i pos'] e pos.line X.env=pure false:=by rfl)(hw:swappedStores [.Subscript (.Name n p1) i pos'] e X.env=pure none:=by rfl)
 (h1:(assignEach [.Subscript (.Name n p1) i pos'] X.env).map (·.2)=[assign (.Subscript (.Name n p1) i pos') X.env]:=by rfl)
 (ha:∀ v,assign (.Subscript (.Name n p1) i pos') X.env v=(do
   let ov ← holding [v] (eval (.Name n p1) X.env)
   let iv ← holding [v,ov] (eval i X.env)
   standAt pos'
   holding [v,ov,iv] (setItem ov iv v)
   release [v,ov,iv] []):=by intro _;rfl)
 (hd:(n == ("__debug__" : Str))=false:=by decide) (hcd:(n == ("__classdict__" : Str))=false:=by decide):JS X EX (.Assign [.Subscript (.Name n p1) i pos'] e pos) (dX gY j f fi) :=
 ⟨(wg he.p (pg_sub (ii hN hv hd hcd) hi.p kE ha) hs hw h1).by fun D σ H h=>tM yC h⟩
end
def px:D→D→D→Option D
 | .dK ks vs,k,d=>match fX k with
  | some k=>if (small ks.length&&decide ks.Nodup)=true then some (.dK (jm ks vs k d).1 (jm ks vs k d).2) else none
  | none=>none
 | .dT ks vs,.tup l,d=>match iz l with
  | some k=>if (small ks.length&&decide ks.Nodup)=true then some (.dT (jm ks vs k d).1 (jm ks vs k d).2) else none
  | none=>none
 | _,_,_=>none
def rPutD:V→V→V→Hp→(Hp→Prop)→Prop:=fun x y v H Q=>∃ a H',x = .ref a∧pj H a y v H'∧Q H'
theorem yD{K:PySem.W.Frag}:PuS K rPutD px:=by
 intro H L p c i d c' vi vd Q hO hp ri rd e q;unfold px at e
 split at e
 ·rename_i ks vs
  obtain ⟨xs,h1,h2,h3⟩:=hO
  split at e
  ·rename_i k ek
   split at e
   ·rename_i hsn
    have hsn:=(Bool.and_eq_true _ _).mp hsn;cases e;obtain ⟨i1,i2,i3⟩:=kX (x:=k) rd h2 h3;refine ⟨p,_,rfl,by rw [jw ek ri];exact pj.k (k:=k) h1 (by rw [List.length_zip,← h2,Nat.min_self];exact kC hsn.1),q _ ⟨(iX ks xs k vd).2,?_,?_,i2⟩⟩
    ·rw [← i1,kW h2 (of_decide_eq_true hsn.2)]
     exact aD
    ·rw [← i1];exact i3
   ·cases e
  ·cases e
 ·rename_i ks vs l
  obtain ⟨xs,h1,h2,h3⟩:=hO;obtain ⟨b,ys,rfl,h4,h5⟩:=ri
  split at e
  ·rename_i k ek
   split at e
   ·rename_i hsn
    have hsn:=(Bool.and_eq_true _ _).mp hsn;cases e;obtain ⟨i1,i2,i3⟩:=kX (x:=k) rd h2 h3;have h4:=(ay h4).2;rw [iw ek h5] at h4;refine ⟨p,_,rfl,pj.t (k:=k) h1 h4 (by rw [List.length_zip,← h2,Nat.min_self];exact kC hsn.1),q _ ⟨(iX ks xs k vd).2,?_,?_,i2⟩⟩
    ·rw [← i1,kW h2 (of_decide_eq_true hsn.2)]
     exact aD
    ·rw [← i1];exact i3
   ·cases e
  ·cases e
 ·cases e
section
variable{X:Cx}{EX:EXT}{e i:Expr}{pos pos' p1:Pos}{n:Str}{j:Nat}{f fi:SE}
theorem s_dput(hu:X.A.units+1 < cLine)(he:JE X EX e f)(hi:JE X EX i fi)(hN:X.N[j]?=some n)(hv:Vis X.env.scope n)(hs:swapsWith e (some (.Subscript (.Name n p1) i pos')) pos.line X.env=pure false:=by rfl)
 (hd:(n == ("__debug__" : Str))=false:=by decide) (hcd:(n == ("__classdict__" : Str))=false:=by decide):JS X EX (.Assign [.Subscript (.Name n p1) i pos'] e pos) (dX px j f fi) :=
 ⟨(yG hu (ii hN hv hd hcd) hi.p he.p hs).by fun D σ H h=>tM yD h⟩
def vO(d:D):SE:=fun ρ=>some (.ok d true,ρ)
theorem zK:JE X EX (.Dict [] [] pos) (vO (.dT [] [])):=⟨wt.by fun σ H Q ⟨F,ρ,W,R,h⟩ p hp=>h _ _ W ((aj.upd hp).fr) (fun _ z=>z) (gN.e (nw:=true) ⟨p,rfl,hp,[],aD,rfl,trivial⟩ R (aj.upd hp))⟩
end
end L2
namespace L2
open PySem PySem.Spec PyProof.Rows ZpA
def cu:D→Option (List D)
 | .lst ds=>some ds
 | .klst ds=>some ds
 | .tup ds=>some ds
 | .ktup ds=>some ds
 | _=>none
def ItsA:Kd→PySem.W.Frag→Addr→L2.It
 | .L=>Itl
 | .T=>Itt
theorem SqA.same{c:Kd}{K:PySem.W.Frag}{H H':Hp}{a:Addr}{xs:List V}(e:aj H H')(h:SqA c K H a xs):SqA c K H' a xs:=by
 cases c with
 | L=>exact e.seq h
 | T=>exact e.tup h
theorem ke{K:PySem.W.Frag}{H:Hp}{d:D}{v:V}{ds:List D}(e:cu d=some ds)(r:aH K H d v):∃ a c xs,v = .ref a∧SqA c K H a xs∧ao K H ds xs:=by
 cases d<;>first
  | (unfold cu at e;cases e;done)
  | (unfold cu at e;cases e;obtain ⟨p,xs,h1,h2,h3⟩:=r;exact ⟨p,.L,xs,h1,.inl (.inl h2),h3⟩)
  | (unfold cu at e;cases e;obtain ⟨p,xs,h1,h2,h3⟩:=r;exact ⟨p,.T,xs,h1,.inl (.inl h2),h3⟩)
  | (unfold cu at e;cases e;obtain ⟨p,xs,h1,h2,h3⟩:=r;exact ⟨p,.L,xs,h1,h2,h3⟩)
  | (unfold cu at e;cases e;obtain ⟨p,xs,h1,h2,h3⟩:=r;exact ⟨p,.T,xs,h1,fh h2,h3⟩)
def iSeqA(K:PySem.W.Frag)(tl:TE):TI:=fun σ H R=>tl σ H fun x H1=>∃ a c,x = .ref a∧∃ xs,SqA c K H1 a xs∧(xs.length≤sizeLine→R (ItsA c K a) H1)
section
variable{X:Cx}{EX:EXT}{tg l:Expr}
theorem yK{tl:TE}(hl:PE X l tl):PI X tg l (iSeqA X.K tl):=by
 intro pins s σ H R I h
 refine thn (hl pins s σ H _ I h) fun v s1 ⟨x,H1,I1,r1,q1⟩=> ?_
 obtain ⟨a,c,e,xs,hq,q⟩:=q1;subst e;cases r1
 cases c with
 | L =>
  obtain ⟨its,rv,p,hz⟩:=I1.list hq;refine wpAny_pyIter_list p.isList ?_;refine ⟨s1.heap.objs.size,[s1.heap.objs.size],_,_,H1,rfl,I1.kept (t':=s1.toks) fun b o e=>Heap.get?_push_of_some _ e,uc a _,⟨_,Heap.get?_push_size _ rfl,rfl,rfl⟩,fun b hb=> ?_,q hz⟩
  have e:b=s1.heap.objs.size:=by simpa using hb
  subst e;exact I1.fpOk (Nat.le_refl _) (I1.hok.fresh (Nat.le_refl _))
 | T =>
  obtain ⟨its,rv,p,hz⟩:=I1.tuple hq;refine wpAny_pyIter_tuple (show s1.heap.IsTuple a its.toArray from p) ?_;refine ⟨s1.heap.objs.size,[s1.heap.objs.size],_,_,H1,rfl,I1.kept (t':=s1.toks) fun b o e=>Heap.get?_push_of_some _ e,kt a _,⟨_,Heap.get?_push_size _ rfl,rfl,rfl⟩,fun b hb=> ?_,q hz⟩
  have e:b=s1.heap.objs.size:=by simpa using hb
  subst e;exact I1.fpOk (Nat.le_refl _) (I1.hok.fresh (Nat.le_refl _))
theorem wS{K:PySem.W.Frag}{L0:List Addr}{H0:Hp}{ds:List D}{xs:List V}{a:Addr}{c:Kd}(hs:SqA c K (hid L0 H0) a xs)(hr:ao K (hid L0 H0) ds xs)(hf:xs.length≤sizeLine):ItOk K L0 ds (ItsA c K a) H0 where
 go:=fun H L i d sm hm hd=>by
  obtain ⟨x0,e0,r0⟩:=hr.get hd;have sq:SqA c K H a xs:=hs.same (sm.trans aC)
  cases c with
  | L=>exact ⟨⟨xs,x0,sq,e0⟩,fun x H' y=>by obtain ⟨rfl,y⟩:=y;have e:=y xs sq;rw [e0] at e;cases e;exact ⟨aj.refl _,sm.repD r0⟩⟩
  | T=>exact ⟨⟨xs,x0,sq,e0⟩,fun x H' y=>by obtain ⟨rfl,y⟩:=y;have e:=y xs sq;rw [e0] at e;cases e;exact ⟨aj.refl _,sm.repD r0⟩⟩
 stop:=fun H sm=>by
  have sq:SqA c K H a xs:=hs.same sm
  cases c with
  | L=>exact ⟨xs,sq,by rw [hr.len];exact Nat.le_refl _⟩
  | T=>exact ⟨xs,sq,by rw [hr.len];exact Nat.le_refl _⟩
 few:=by rw [hr.len];exact hf
def dh(f:SE):SI:=fun ρ=>match f ρ with
 | some (.ok d _,ρ')=>match cu d with
  | some ds=>some (.ok ds,ρ')
  | none=>none
 | some (.ex C,ρ')=>some (.ex C,ρ')
 | none=>none
theorem jR{f:SE}(h:JE X EX l f):JI X EX tg l (dh f) :=
 ⟨fun pins s σ H R I hw=>yK h.p pins s σ H R I (by
  obtain ⟨F,ρ,W,R0,h⟩:=hw;refine ⟨F,ρ,W,R0,?_⟩;unfold dh at h
  revert h
  cases f ρ with
  | none=>exact fun h=>h
  | some q =>
   obtain ⟨q,ρ1⟩:=q
   cases q with
   | ex C=>exact fun h=>h
   | ok d nw =>
    dsimp only
    cases e:cu d with
    | none=>exact fun h=>h.elim
    | some ds =>
     intro h v H1 W1 fr1 sub1 P1;obtain ⟨rd,R1⟩:=P1.plain;obtain ⟨a,c,xs,rfl,hs,hr⟩:=ke e rd
     exact ⟨a,c,rfl,xs,hs.same aC,fun hf=>h _ H1 W1 fr1 sub1 R1 (wS hs hr hf)⟩)⟩
def okR(lo hi:Int):Bool:=decide (-1000000000≤lo∧lo≤1000000000 ∧ -1000000000≤hi∧hi≤1000000000∧(hi - lo).toNat≤1000000)
def mz:List D→Option Int
 | [.int j]=>some j
 | _=>none
def my:List D→Option (Int×Int)
 | [.int i,.int j]=>some (i,j)
 | _=>none
theorem wX{K:PySem.W.Frag}{H Hh:Hp}{ds:List D}{vs:List V}{j:Int}(e:mz ds=some j)(r:jW K H Hh ds vs):vs=[.int j]:=by
 unfold mz at e
 split at e
 ·cases e
  obtain ⟨y,rfl,ry⟩:=aO r;rw [cj ry]
 ·cases e
theorem wW{K:PySem.W.Frag}{H Hh:Hp}{ds:List D}{vs:List V}{i j:Int}(e:my ds=some (i,j))(r:jW K H Hh ds vs):vs=[.int i,.int j]:=by
 unfold my at e
 split at e
 ·cases e
  obtain ⟨y,z,rfl,ry,rz⟩:=bc r;rw [cj ry,cj rz]
 ·cases e
def b6(x:Arg):SI:=fun ρ=>match evA [x] ρ with
 | some (.ok ds,ρ')=>match mz ds with
  | some j=>if okR 0 j=true then some (.ok (gq 0 j.toNat),ρ') else none
  | none=>none
 | some (.ex C,ρ')=>some (.ex C,ρ')
 | none=>none
def e9(x y:Arg):SI:=fun ρ=>match evA [x,y] ρ with
 | some (.ok ds,ρ')=>match my ds with
  | some (i,j)=>if okR i j=true then some (.ok (gq i (j - i).toNat),ρ') else none
  | none=>none
 | some (.ex C,ρ')=>some (.ex C,ρ')
 | none=>none
theorem pZ{lo:Int}{n:Nat}:(gq lo n).length=n:=by unfold gq;simp
theorem vQ{lo:Int}{n i:Nat}{d:D}(h:(gq lo n)[i]?=some d):i < n∧d = .int (lo+(i:Nat)):=by
 unfold gq at h;rw [List.getElem?_map] at h;obtain ⟨k,hk,rfl⟩:=Option.map_eq_some_iff.mp h;obtain ⟨h1,h2⟩:=List.getElem?_eq_some_iff.mp hk;simp at h1 h2;subst h2;exact ⟨h1,rfl⟩
theorem qv{K:PySem.W.Frag}{L0:List Addr}{H0:Hp}{lo:Int}{n:Nat}(hf:n≤1000000):ItOk K L0 (gq lo n) (Itr lo n) H0 where
 go:=fun H L i d sm hm hd=>by
  obtain ⟨h1,rfl⟩:=vQ hd;exact ⟨h1,fun x H' y=>by obtain ⟨rfl,rfl⟩:=y;exact ⟨aj.refl _,rfl⟩⟩
 stop:=fun H sm=>by rw [pZ];exact Nat.le_refl n
 few:=by rw [pZ];exact Nat.le_trans hf (by decide)
theorem dB{a:Expr}{x:Arg}{p pos:Pos}(hg:Gl X "range")(hm:X.mg "range" = none)(ha:JA X EX [a] [x])(hs:starEach [a] X.env=[(false,eval a X.env)]:=by rfl):JI X EX tg (.Call (.Name "range" p) [a] [] pos) (b6 x) :=
 ⟨fun pins s σ H R I hw=>mY hg hm ha.p hs pins s σ H R I (by
  obtain ⟨F,ρ,W,R0,h⟩:=hw;refine nP [x] R0 ?_;unfold b6 at h
  revert h
  cases evA [x] ρ with
  | none=>exact fun h=>h
  | some q =>
   obtain ⟨q,ρ1⟩:=q
   cases q with
   | ex C=>exact fun h=>h
   | ok ds =>
    dsimp only
    cases e:mz ds with
    | none=>exact fun h=>h.elim
    | some j =>
     dsimp only
     split
     ·rename_i hj
      have hj:=of_decide_eq_true hj;intro h vs H1 W1 fr1 sub1 R1 reps;exact ⟨j,wX e reps,by omega,by omega,h _ H1 W1 fr1 sub1 R1 (qv (by have:=hj.2.2.2.2;omega))⟩
     ·exact fun h=>h.elim)⟩
theorem rY{a b:Expr}{x y:Arg}{p pos:Pos}(hg:Gl X "range")(hm:X.mg "range" = none)(ha:JA X EX [a,b] [x,y])(hs:starEach [a,b] X.env=[(false,eval a X.env),(false,eval b X.env)]:=by rfl)(hs2:starEach [b] X.env=[(false,eval b X.env)]:=by rfl):JI X EX tg (.Call (.Name "range" p) [a,b] [] pos) (e9 x y) :=
 ⟨fun pins s σ H R I hw=>uv hg hm ha.p hs hs2 pins s σ H R I (by
  obtain ⟨F,ρ,W,R0,h⟩:=hw;refine nP [x,y] R0 ?_;unfold e9 at h
  revert h
  cases evA [x,y] ρ with
  | none=>exact fun h=>h
  | some q =>
   obtain ⟨q,ρ1⟩:=q
   cases q with
   | ex C=>exact fun h=>h
   | ok ds =>
    dsimp only
    cases e:my ds with
    | none=>exact fun h=>h.elim
    | some ij =>
     obtain ⟨i,j⟩:=ij;dsimp only
     split
     ·rename_i hj
      have hj:=of_decide_eq_true hj;intro h vs H1 W1 fr1 sub1 R1 reps;exact ⟨i,j,wW e reps,⟨by omega,by omega,by omega,by omega⟩,h _ H1 W1 fr1 sub1 R1 (qv hj.2.2.2.2)⟩
     ·exact fun h=>h.elim)⟩
def gI:Nat→List D→List D
 | _,[]=>[]
 | i,d::ds=> .tup [.int (i:Nat),d]::gI (i+1) ds
theorem jz:∀ {i:Nat} {ds:List D},(gI i ds).length=ds.length
 | _,[]=>rfl
 | i,d::ds=>by unfold gI;rw [List.length_cons,List.length_cons,jz]
theorem nF:∀ {i j:Nat} {ds:List D} {e:D},(gI i ds)[j]?=some e→∃ d,ds[j]?=some d∧e = .tup [.int ((i+j:Nat)),d]
 | i,j,[],e,h=>by unfold gI at h;simp at h
 | i,0,d::ds,e,h=>by
  unfold gI at h;simp only [List.getElem?_cons_zero,Option.some.injEq] at h;exact ⟨d,rfl,h.symm⟩
 | i,j+1,d::ds,e,h=>by
  unfold gI at h;simp only [List.getElem?_cons_succ] at h ⊢;obtain ⟨d',h1,h2⟩:=nF h;exact ⟨d',h1,by rw [h2,show i+1+j=i+(j+1) by omega]⟩
def iF:List D→List D→List D
 | a::as,b::bs=> .tup [a,b]::iF as bs
 | _,_=>[]
theorem kr:∀ {as bs:List D},as.length≤bs.length→(iF as bs).length=as.length
 | [],_,_=>by unfold iF;rfl
 | a::as,b::bs,h=>by unfold iF;rw [List.length_cons,List.length_cons,kr (by simpa using h)]
 | _::_,[],h=>by simp at h
theorem pk:∀ {as bs:List D} {j:Nat} {e:D},(iF as bs)[j]?=some e→∃ a b,as[j]?=some a∧bs[j]?=some b∧e = .tup [a,b]
 | [],_,j,e,h=>by unfold iF at h;simp at h
 | _::_,[],j,e,h=>by unfold iF at h;simp at h
 | a::as,b::bs,0,e,h=>by
  unfold iF at h;simp only [List.getElem?_cons_zero,Option.some.injEq] at h;exact ⟨a,b,rfl,rfl,h.symm⟩
 | a::as,b::bs,j+1,e,h=>by
  unfold iF at h;simp only [List.getElem?_cons_succ] at h ⊢;exact pk h
def fb(f:SE):SI:=fun ρ=>match f ρ with
 | some (.ok d _,ρ')=>match cu d with
  | some ds=>some (.ok (gI 0 ds),ρ')
  | none=>none
 | some (.ex C,ρ')=>some (.ex C,ρ')
 | none=>none
theorem qh{K:PySem.W.Frag}{H:Hp}{L:List Addr}{p:Addr}{a b:D}{x y:V}(hm:∀ p∈L,fC (H p))(hp:H p=none)(ra:aH K (hid L H) a x)(rb:aH K (hid L H) b y):aH K (hid L (upd H p (.tup [x,y]))) (.tup [a,b]) (.ref p) :=
 i4 hm (show ao K (hid L H) [a,b] [x,y] from ⟨ra,rb,trivial⟩) (aj.upd hp) aD
theorem rZ{elts:List Expr}{k}{tpos:Pos}{f:SE}{p pos:Pos}(hg:Gl X "enumerate")(hm:X.mg "enumerate" = none)(h:JE X EX l f)(hs:starEach [l] X.env=[(false,eval l X.env)]:=by rfl):JI X EX (.Tuple elts k tpos) (.Call (.Name "enumerate" p) [l] [] pos) (fb f) :=
 ⟨fun pins s σ H R I hw=>wm hg hm (ff h.p gw hs) hs pins s σ H R I (by
  obtain ⟨F,ρ,W,R0,h⟩:=hw;refine ⟨F,ρ,W,R0,?_⟩;unfold fb at h
  revert h
  cases f ρ with
  | none=>exact fun h=>h
  | some q =>
   obtain ⟨q,ρ1⟩:=q
   cases q with
   | ex C=>exact fun h=>h
   | ok d nw =>
    dsimp only
    cases e:cu d with
    | none=>exact fun h=>h.elim
    | some ds =>
     intro h v H1 W1 fr1 sub1 P1;obtain ⟨rd,R1⟩:=P1.plain;obtain ⟨a,c,xs,rfl,hq,hr⟩:=ke e rd;refine ⟨a,c,rfl,xs,hq.same aC,fun hf=>h _ H1 W1 fr1 sub1 R1 ⟨fun H L i d sm hm hd=> ?_,fun H sm=> ?_,?_⟩⟩
     ·obtain ⟨d0,e0,rfl⟩:=nF hd
      obtain ⟨x0,ex,r0⟩:=hr.get e0;have sq:SqA c X.K H a xs:=hq.same (sm.trans aC);refine ⟨⟨xs,x0,sq,ex⟩,fun x H' y=> ?_⟩;obtain ⟨p,y,rfl,hp,rfl,hy⟩:=y;have e1:=hy xs sq;rw [ex] at e1;cases e1;refine ⟨aj.upd hp,?_⟩;have:=qh (K:=X.K) (a:= .int ((i:Nat):Int)) (x:= .int (i:Nat)) hm hp rfl (sm.repD r0);rw [Nat.zero_add];exact this
     ·rw [jz,hr.len]
      exact ⟨xs,hq.same sm,Nat.le_refl _⟩
     ·rw [jz,hr.len];exact hf)⟩
def vM:List D→Option (List D×List D)
 | [a,b]=>match cu a,cu b with
  | some x,some y=>some (x,y)
  | _,_=>none
 | _=>none
def j4(fs:List SE):SI:=fun ρ=>match evA (fs.map Arg.ex) ρ with
 | some (.ok ds,ρ')=>match vM ds with
  | some (a,b)=>if decide (a.length≤b.length)=true then some (.ok (iF a b),ρ') else none
  | none=>none
 | some (.ex C,ρ')=>some (.ex C,ρ')
 | none=>none
theorem i_zip{elts:List Expr}{k}{tpos:Pos}{l l':Expr}{fs:List SE}{p pos:Pos}(hg:Gl X "zip")(hm:X.mg "zip" = none)(h:JF X EX [l,l'] fs)(hs:starEach [l,l'] X.env=[(false,eval l X.env),(false,eval l' X.env)]:=by rfl)(hs2:starEach [l'] X.env=[(false,eval l' X.env)]:=by rfl) :
 JI X EX (.Tuple elts k tpos) (.Call (.Name "zip" p) [l,l'] [] pos) (j4 fs) :=
 ⟨fun pins s σ H R I hw=>yJ hg hm h.p hs hs2 pins s σ H R I (by
  obtain ⟨F,ρ,W,R0,h⟩:=hw;refine nA fs R0 ?_;unfold j4 at h
  revert h
  cases evA (fs.map Arg.ex) ρ with
  | none=>exact fun h=>h
  | some q =>
   obtain ⟨q,ρ1⟩:=q
   cases q with
   | ex C=>exact fun h=>h
   | ok ds =>
    dsimp only
    cases e:vM ds with
    | none=>exact fun h=>h.elim
    | some ab =>
     obtain ⟨as,bs⟩:=ab;dsimp only
     split
     ·rename_i hl
      have hl:=of_decide_eq_true hl;intro h vs H1 W1 fr1 sub1 R1 reps;unfold vM at e
      split at e
      ·rename_i da db
       split at e
       ·rename_i x y ea eb
        cases e
        match vs,reps with
        | [va,vb],reps =>
         obtain ⟨a,c1,xs,rfl,hq,hr⟩:=ke ea reps.1;obtain ⟨b,c2,ys,rfl,hq2,hr2⟩:=ke eb reps.2.1;refine ⟨a,b,c1,c2,rfl,xs,hq.same aC,fun hf=>⟨⟨ys,hq2.same aC⟩,h _ H1 W1 fr1 sub1 R1 ⟨fun H L i d sm hm hd=> ?_,fun H sm=> ?_,?_⟩⟩⟩
         ·obtain ⟨d1,d2,e1,e2,rfl⟩:=pk hd
          obtain ⟨x0,ex,r0⟩:=hr.get e1;obtain ⟨y0,ey,r1⟩:=hr2.get e2;have sq:SqA c1 X.K H a xs:=hq.same (sm.trans aC);have sq2:SqA c2 X.K H b ys:=hq2.same (sm.trans aC);refine ⟨⟨xs,ys,x0,y0,sq,sq2,ex,ey⟩,fun x H' y=> ?_⟩;obtain ⟨p,y,z,rfl,hp,rfl,hy,hz⟩:=y;have e3:=hy xs sq;have e4:=hz ys sq2;rw [ex] at e3;rw [ey] at e4;cases e3;cases e4;exact ⟨aj.upd hp,qh hm hp (sm.repD r0) (sm.repD r1)⟩
         ·rw [kr hl,hr.len]
          exact ⟨xs,hq.same sm,Nat.le_refl _⟩
         ·rw [kr hl,hr.len];exact hf
       ·cases e
      ·cases e
     ·exact fun h=>h.elim)⟩
end
def dS(g g':List D→Option (D×Bool))(f1 f2 f3:SE):SE:=fun ρ=>match evA [.ex f1,.ex f2] ρ with
 | some (.ok [a,b],ρ1)=>match g [a,b] with
  | some (.bl true,false)=>match f3 ρ1 with
   | some (.ok c _,ρ2)=>match g' [b,c] with
    | some (d,false)=>some (.ok d false,ρ2)
    | _=>none
   | some (.ex C,ρ2)=>some (.ex C,ρ2)
   | none=>none
  | some (.bl false,false)=>some (.ok (.bl false) false,ρ1)
  | _=>none
 | some (.ok _,_)=>none
 | some (.ex C,ρ')=>some (.ex C,ρ')
 | none=>none
theorem xA{K:PySem.W.Frag}{EX:EXT}{σ:St}{H:Hp}{Q:VK}{r r':R2}{g g':List D→Option (D×Bool)}{f1 f2 f3:SE}(hs:OpS K (r2 r) g)(hs':OpS K (r2 r') g')(hw:tV K EX (dS g g' f1 f2 f3) σ H Q):vI r r' (tV K EX f1) (tV K EX f2) (tV K EX f3) σ H Q:=by
 obtain ⟨F,ρ,W,R,h⟩:=hw
 have z:tAs K EX (([f1,f2]:List SE).map Arg.ex) σ H (fun vs H2=>match vs with
  | [x,y]=>r x y H2 fun z H3=>∃ k,z = .bl k∧(if k=true then tV K EX f3 σ H3 fun w' H4=>r' y w' H4 Q else Q (.bl false) H3)
  | _=>False):=by
  refine nA [f1,f2] R ?_;unfold dS at h
  revert h
  show OkV K F EX σ H W (match evA (([f1,f2]:List SE).map Arg.ex) ρ with
   | some (.ok [a,b],ρ1)=>match g [a,b] with
    | some (.bl true,false)=>match f3 ρ1 with
     | some (.ok c _,ρ2)=>match g' [b,c] with
      | some (d,false)=>some (.ok d false,ρ2)
      | _=>none
     | some (.ex C,ρ2)=>some (.ex C,ρ2)
     | none=>none
    | some (.bl false,false)=>some (.ok (.bl false) false,ρ1)
    | _=>none
   | some (.ok _,_)=>none
   | some (.ex C,ρ')=>some (.ex C,ρ')
   | none=>none) Q→_
  cases evA (([f1,f2]:List SE).map Arg.ex) ρ with
  | none=>exact fun h=>h
  | some q =>
   obtain ⟨q,ρ1⟩:=q
   cases q with
   | ex C=>exact fun h=>h
   | ok ds =>
    match ds with
    | []=>exact fun h=>h.elim
    | [_]=>exact fun h=>h.elim
    | _::_::_::_=>exact fun h=>h.elim
    | [a,b] =>
     dsimp only;intro h vs H1 W1 fr1 sub1 R1 reps
     match vs,reps with
     | [x,y],reps =>
      have rb:jW K H1 (hid (W1++F.Z) H1) [a,b] [x,y]:=⟨aH.b reps.1 aC,aH.b reps.2.1 aC,trivial⟩
      cases eg:g [a,b] with
      | none=>rw [eg] at h;exact h.elim
      | some dn =>
       obtain ⟨d,nw⟩:=dn;rw [eg] at h
       refine hs [x,y] [a,b] H1 (W1++F.Z) _ d nw R1.mt rb eg fun z H2 s2 p2=> ?_
       have fr2:Fr W H H2:=fr1.trans (s2.fr (W:=W1)) fun p hp=> .inl (sub1 p hp)
       cases d<;>first | (exact h.elim) | skip
       rename_i k
       cases nw with
       | true=>cases k<;>exact h.elim
       | false =>
        have hz:z = .bl k:=p2;refine ⟨k,hz,?_⟩;have R2:=R1.same s2
        cases k with
        | false =>
         rw [if_neg Bool.false_ne_true];exact h _ H2 W1 fr2 sub1 ⟨rfl,R2⟩
        | true =>
         rw [if_pos rfl];refine ⟨F,ρ1,W1,R2,?_⟩
         revert h
         dsimp only
         cases f3 ρ1 with
         | none=>exact fun h=>h
         | some q =>
          obtain ⟨q,ρ2⟩:=q
          cases q with
          | ex C=>exact fun h H3 W3 fr3 sub3 R3=>h H3 W3 (fr2.trans fr3 fun p hp=> .inl (sub1 p hp)) (fun p hp=>sub1 p (sub3 p hp)) R3
          | ok c nw2 =>
           dsimp only;intro h w' H3 W3 fr3 sub3 P3;obtain ⟨rc,R3⟩:=P3.plain;have ry:aH K (hid (W3++F.Z) H3) b y:=(fr3.hid fun p hp=> .inl (sub3 p hp)).repD ((aY (fun b hb=> .inl hb) fun b o _ e=>s2 b o e:aj (hid (W1++F.Z) H1) (hid (W1++F.Z) H2)).repD reps.2.1)
           cases eg2:g' [b,c] with
           | none=>rw [eg2] at h;exact h.elim
           | some dn =>
            obtain ⟨d2,nw3⟩:=dn;rw [eg2] at h
            cases nw3 with
            | true=>exact h.elim
            | false =>
             refine hs' [y,w'] [b,c] H3 (W3++F.Z) _ d2 false R3.mt ⟨aH.b ry aC,aH.b rc aC,trivial⟩ eg2 fun v H4 s4 p4=> ?_
             exact h v H4 W3 ((fr2.trans fr3 fun p hp=> .inl (sub1 p hp)).trans (s4.fr (W:=W3)) fun p hp=> .inl (sub1 p (sub3 p hp))) (fun p hp=>sub1 p (sub3 p hp)) ⟨p4,R3.same s4⟩
 exact z
section
variable{X:Cx}{EX:EXT}{a b c:Expr}{pos:Pos}
theorem zL{op op':CmpOp}{r r':R2}{g g':List D→Option (D×Bool)}{f1 f2 f3:SE}(ho:OpR X (compareOp op) r)(ho':OpR X (compareOp op') r')(hs:OpS X.K (r2 r) g)(hs':OpS X.K (r2 r') g')(ha:JE X EX a f1)(hb:JE X EX b f2)(hc:JE X EX c f3)
 (hm:lastMarks [op,op'] [b,c]=false:=by with_unfolding_all rfl):JE X EX (.Compare a [op,op'] [b,c] pos) (dS g g' f1 f2 f3) :=
 ⟨(wu ho ho' ha.p hb.p hc.p hm).by fun σ H Q h=>xA hs hs' h⟩
end
end L2
namespace L2
open PySem PySem.Spec PyProof.Rows
section
variable{X:Cx}
def wa(K:PySem.W.Frag):List V→Hp→(V→Hp→Prop)→Prop:=fun xs H Q=>∃ (p:Addr) (ns:List Int),xs=[V.ref p]∧SqT K H p (ns.map V.int)∧ns≠[]∧∀ M,M∈ns→(∀ a∈ns,a≤M)→Q (.int M) H
def v9(K:PySem.W.Frag):List V→Hp→(V→Hp→Prop)→Prop:=fun xs H Q=>∃ (p:Addr) (ns:List Int),xs=[V.ref p]∧SqT K H p (ns.map V.int)∧ns≠[]∧∀ M,M∈ns→(∀ a∈ns,M≤a)→Q (.int M) H
theorem u6(hc:X.calm=true):aI X (.builtin "max") (wa X.K):=by
 intro pins s σ H xs us Q I r h;obtain ⟨p,ns,rfl,hq,ne,q⟩:=h;obtain ⟨u,rfl,ru⟩:=b4 r;cases ru;obtain ⟨its,rv,pl,hz⟩:=I.tuple hq;obtain ⟨ps,rfl,e⟩:=di rv
 have lp:ps.length=ns.length:=by rw [← e,List.length_map]
 have n0:0 < ns.length:=List.length_pos_iff.mpr ne
 have ei:intItems ps.toArray=(ps.map fun p=>Value.int p.1 p.2).toArray:=by unfold intItems;simp
 have ht:s.heap.IsTuple p (intItems ps.toArray):=by rw [ei];exact pl
 have hlt:p < s.heap.objs.size:=by obtain ⟨_,e,_⟩:=ht;exact Heap.lt_size e
 have sz:ps.toArray.size=ns.length:=by simp [lp]
 obtain ⟨b1,b2⟩:=argBest_gt (numAt ps.toArray) (ps.toArray.size - 1);refine call_max_walk (wpAny_pyIter_tuple ht ⟨s.heap.objs.size,_,_,_,_,_,_,rfl,Walks.tuple (A:=X.A.in1) (I.ok.hd hc) _ p (Nat.ne_of_lt hlt) (intItems ps.toArray),⟨⟨_,Heap.get?_push_size _ rfl,rfl,rfl⟩,ht.push _⟩,fun c hcm=> ?_,by simpa [intItems,lp] using n0,CmpOf.ints_gt (numAt ps.toArray) (fun _ _=>intItems_at),fun v h' tk hP hk=> ?_⟩)
 ·have e1:c=s.heap.objs.size∨c=p:=by simpa using hcm
  show c < (s.heap.push _).objs.size
  rw [Heap.size_push]
  rcases e1 with e1 | e1
  ·rw [e1];exact Nat.lt_succ_self _
  ·rw [e1];exact Nat.lt_succ_of_lt hlt
 ·have hv:(intItems ps.toArray)[argBest (fun i j=>decide (numAt ps.toArray i > numAt ps.toArray j)) (ps.toArray.size - 1)]?=some v:=by simpa [intItems] using hP
  obtain ⟨t,rfl⟩:=intItems_at hv;rw [sz] at b1 b2 ⊢;refine ⟨.int _,H,I.kept (h':=h') (t':=tk) fun b' o e=>hk b' o (by have:=Heap.lt_size e;simp;exact Nat.ne_of_lt this) (Heap.get?_push_of_some _ e),⟨t,rfl⟩,q _ ?_ fun a ha=> ?_⟩
  ·rw [cF e (by omega)]
   exact List.getElem_mem _
  ·obtain ⟨j,hj,rfl⟩:=List.getElem_of_mem ha
   have:=b2 j (by omega);rw [cF e hj] at this;exact this
theorem u1(hc:X.calm=true):aI X (.builtin "min") (v9 X.K):=by
 intro pins s σ H xs us Q I r h;obtain ⟨p,ns,rfl,hq,ne,q⟩:=h;obtain ⟨u,rfl,ru⟩:=b4 r;cases ru;obtain ⟨its,rv,pl,hz⟩:=I.tuple hq;obtain ⟨ps,rfl,e⟩:=di rv
 have lp:ps.length=ns.length:=by rw [← e,List.length_map]
 have n0:0 < ns.length:=List.length_pos_iff.mpr ne
 have ei:intItems ps.toArray=(ps.map fun p=>Value.int p.1 p.2).toArray:=by unfold intItems;simp
 have ht:s.heap.IsTuple p (intItems ps.toArray):=by rw [ei];exact pl
 have hlt:p < s.heap.objs.size:=by obtain ⟨_,e,_⟩:=ht;exact Heap.lt_size e
 have sz:ps.toArray.size=ns.length:=by simp [lp]
 obtain ⟨b1,b2⟩:=argBest_lt (numAt ps.toArray) (ps.toArray.size - 1);refine call_min_walk (wpAny_pyIter_tuple ht ⟨s.heap.objs.size,_,_,_,_,_,_,rfl,Walks.tuple (A:=X.A.in1) (I.ok.hd hc) _ p (Nat.ne_of_lt hlt) (intItems ps.toArray),⟨⟨_,Heap.get?_push_size _ rfl,rfl,rfl⟩,ht.push _⟩,fun c hcm=> ?_,by simpa [intItems,lp] using n0,CmpOf.ints_lt (numAt ps.toArray) (fun _ _=>intItems_at),fun v h' tk hP hk=> ?_⟩)
 ·have e1:c=s.heap.objs.size∨c=p:=by simpa using hcm
  show c < (s.heap.push _).objs.size
  rw [Heap.size_push]
  rcases e1 with e1 | e1
  ·rw [e1];exact Nat.lt_succ_self _
  ·rw [e1];exact Nat.lt_succ_of_lt hlt
 ·have hv:(intItems ps.toArray)[argBest (fun i j=>decide (numAt ps.toArray i < numAt ps.toArray j)) (ps.toArray.size - 1)]?=some v:=by simpa [intItems] using hP
  obtain ⟨t,rfl⟩:=intItems_at hv;rw [sz] at b1 b2 ⊢;refine ⟨.int _,H,I.kept (h':=h') (t':=tk) fun b' o e=>hk b' o (by have:=Heap.lt_size e;simp;exact Nat.ne_of_lt this) (Heap.get?_push_of_some _ e),⟨t,rfl⟩,q _ ?_ fun a ha=> ?_⟩
  ·rw [cF e (by omega)]
   exact List.getElem_mem _
  ·obtain ⟨j,hj,rfl⟩:=List.getElem_of_mem ha
   have:=b2 j (by omega);rw [cF e hj] at this;exact this
end
def fm:List D→Option (D×Bool)
 | [.tup ds]=>match be ds with
  | some (n::ns)=>some (.int (i7 (n::ns)),false)
  | _=>none
 | ds=>zp ds
def fY:List D→Option (D×Bool)
 | [.tup ds]=>match be ds with
  | some (n::ns)=>some (.int (jq (n::ns)),false)
  | _=>none
 | ds=>gMin ds
theorem u8{X:Cx}(hc:X.calm=true):aI X (.builtin "max") (fun xs H Q=>(tf xs H Q∨qb X.K xs H Q)∨wa X.K xs H Q):=(u9 hc).or (u6 hc)
theorem u3{X:Cx}(hc:X.calm=true):aI X (.builtin "min") (fun xs H Q=>(sZ xs H Q∨qa X.K xs H Q)∨v9 X.K xs H Q):=(u4 hc).or (u1 hc)
theorem yQ{K:PySem.W.Frag}:OpS K (fun xs H Q=>(tf xs H Q∨qb K xs H Q)∨wa K xs H Q) fm:=by
 intro vs ds H L Q d nw hm r e q;unfold fm at e
 split at e
 ·rename_i es
  obtain ⟨x,rfl,⟨p,xs,rfl,h1,h2⟩⟩:=aO r
  split at e
  ·rename_i n ns en
   cases e;rw [bB en] at h2;rw [bo h2] at h1;refine .inr ⟨p,n::ns,rfl,.inl (.inl (ay h1).2),by simp,fun M m1 m2=> ?_⟩;obtain ⟨z1,z2⟩:=i6 (l:=n::ns) (by simp);rw [lQ m1 m2 z1 z2];exact q _ H (aj.refl _) rfl
  ·cases e
 ·exact .inl (os_max vs _ H L Q d nw hm r e q)
theorem yP{K:PySem.W.Frag}:OpS K (fun xs H Q=>(sZ xs H Q∨qa K xs H Q)∨v9 K xs H Q) fY:=by
 intro vs ds H L Q d nw hm r e q;unfold fY at e
 split at e
 ·rename_i es
  obtain ⟨x,rfl,⟨p,xs,rfl,h1,h2⟩⟩:=aO r
  split at e
  ·rename_i n ns en
   cases e;rw [bB en] at h2;rw [bo h2] at h1;refine .inr ⟨p,n::ns,rfl,.inl (.inl (ay h1).2),by simp,fun M m1 m2=> ?_⟩;obtain ⟨z1,z2⟩:=i5 (l:=n::ns) (by simp);rw [lr m1 m2 z1 z2];exact q _ H (aj.refl _) rfl
  ·cases e
 ·exact .inl (os_min vs _ H L Q d nw hm r e q)
def rl(nm:Str):SS:=fun ρ=>some (.ex nm,ρ)
theorem sV{P:Program}{w:World}{K:PySem.W.Frag}{mg:Str→Option Value}{base:Heap}{N:List Str}{qual:Str}{scope:Scope}{f:Addr}{cd:Value}{A:Around}{outer:List Env}{s:Shared}{H:Hp}{E:XK}{x:Str}{C:Addr}{bm:List Value}{B newId initId:String}{np cpos pos:Pos}{k:Nat}
 (O:OwnCls x C bm newId mg base) (FB:ExcBaseFacts B newId initId bm) (hc:mD K x C) (hr:dW k (A.deeper (envOfC qual scope s.heap.objs.size f cd)))
 (hg:Gl (bO (CXr P w) P w K mg base N qual scope f cd A outer s H E) x) (hd:(x == ("__debug__" : Str))=false:=by decide):JS (bO (CXr P w) P w K mg base N qual scope f cd A outer s H E) (EXf K E) (.Raise (some (.Call (.Name x np) [] [] cpos)) none pos) (rl x) :=
 ⟨(ut O FB hr.hd hg hd).by fun D σ H ⟨F,ρ,W,R,h⟩=>h σ H W .refl (fun _ z=> .inl z) R C hc none⟩
theorem Ok.x{P:Program}{w:World}{K:PySem.W.Frag}{mg:Str→Option Value}{base:Heap}{x:Str}{ps:List Str}{k:Nat}{sp sp':Sp}(h:Ok P w K mg base x ps k sp)(hi:∀ vs H Q E,sp' vs H Q E→sp vs H Q E):OkX P w K mg base x ps k sp':=by
 obtain ⟨f,fd,h1,h2,h3,F⟩:=h.ex;refine ⟨f,fd,h1,h2,h3,⟨fun vs H Q E q=>F.len vs H Q E (hi _ _ _ _ q),fun A outer s H args us vs Q E hr he hb hv hs=> ?_⟩⟩
 refine codeAny_mono (F.run A outer s H args us vs Q E hr he hb hv (hi _ _ _ _ hs)) fun r s' q=> ?_
 cases r with
 | ok f=>cases f<;>exact q
 | error e=>exact q.elim
theorem x8{K:PySem.W.Frag}{run:FS}{H:Hp}{a:Addr}{ns:List Int}(hrun:∃ x,run [.klst (ns.map D.int)]=some (.ok (.bl true) false,x))(hS:SqL K H a (ns.map V.int)):spF K none run [.ref a] H (fun v _=>v = .bl true) fun _ _ _=>False:=by
 obtain ⟨x,hx⟩:=hrun;refine ⟨[],[],[.klst (ns.map D.int)],rfl,(fun p hp=>by cases hp),(fun p hp=>by cases hp),fun j d v _ h1 h2=> ?_,(fun k z=>by cases z),fun _=>rfl,?_⟩
 ·have hh:hid ([]++[]) H=H:=by funext b;unfold hid;simp
  rw [hh]
  match j,h1,h2 with
  | 0,h1,h2 =>
   simp only [List.getElem?_cons_zero,Option.some.injEq] at h1 h2;subst h1 h2;exact ⟨a,_,rfl,hS,dw ns⟩
  | j+1,h1,h2=>simp at h1
 ·rw [hx]
  exact fun v H' _ rv _=>rv
theorem uU{P:Program}{w:World}{H:Hp}{s:Shared}{e:Value}{s':Shared}(h:CXr P w [] H s (fun _ _ _=>False) e s'):False:=by
 obtain ⟨_,_,_,_,_,_,_,_,_,_,z⟩:=h;exact z
end L2
namespace L2
open PySem PySem.Spec PyProof.Rows
section
variable{X:Cx}{EX:EXT}{a b e:Expr}{es:List Expr}{pos p:Pos}{x y:Arg}{as:List Arg}
theorem c_gk{n:Str}{d:D}(hg:Gl X n)(hm:∃ a,X.mg n=some (.ref a)∧∀ H,aH X.K H d (.ref a))(hd:(n == ("__debug__" : Str))=false:=by decide):JE X EX (.Name n pos) (sC d):=by
 obtain ⟨a,hm,hr⟩:=hm;exact ⟨(kl (v:= .ref a) hg hm rfl hd).by fun _ _ _=>mO hr⟩
theorem v(i:Nat){n:Str}(hN:X.N[i]?=some n:=by rfl)(hv:Vis X.env.scope n:=by first | exact Or.inl rfl | exact Or.inr (Or.inl rfl) | exact Or.inr (Or.inr rfl))(hd:(n == ("__debug__" : Str))=false:=by decide)(hcd:(n == ("__classdict__" : Str))=false:=by decide):JE X EX (.Name n pos) (bb i):=c_var hN hv hd hcd
theorem vb(i:Nat){n:Str}(hN:X.N[i]?=some n:=by rfl)(hv:Vis X.env.scope n:=by first | exact Or.inl rfl | exact Or.inr (Or.inl rfl) | exact Or.inr (Or.inr rfl))(hd:(n == ("__debug__" : Str))=false:=by decide)(hcd:(n == ("__classdict__" : Str))=false:=by decide):JB X EX (.Name n pos) (.bor i):=cb_var hN hv hd hcd
theorem bh(ha:JB X EX a x)(hb:JB X EX b y):JE X EX (.BinOp a .Add b pos) (sOp bt [x,y]):=vn yY os_add ha hb
theorem dg(ha:JB X EX a x)(hb:JB X EX b y):JE X EX (.BinOp a .Sub b pos) (sOp bU [x,y]):=vn op_sub os_sub ha hb
theorem nM(ha:JB X EX a x)(hb:JB X EX b y):JE X EX (.BinOp a .Mult b pos) (sOp iD [x,y]):=vn yT os_mul ha hb
theorem gK(ha:JB X EX a x)(hb:JB X EX b y):JE X EX (.BinOp a .FloorDiv b pos) (sOp fo [x,y]):=vn yV yS ha hb
theorem eS(ha:JB X EX a x)(hb:JB X EX b y):JE X EX (.BinOp a .Mod b pos) (sOp eA [x,y]):=vn op_mod os_mod ha hb
theorem b_pow(ha:JB X EX a x)(hb:JB X EX b y):JE X EX (.BinOp a .Pow b pos) (sOp xc [x,y]):=vn op_pow os_pow ha hb
theorem aW(ha:JB X EX a x)(hb:JB X EX b y)(hp:ph b:=by exact fun _ _=>rfl):JE X EX (.Subscript a b pos) (sOp gIx [x,y]):=c_ix ix_seq os_ix ha hb hp
theorem jl(hu:X.A.units+10 < cLine)(ha:JB X EX a x)(hb:JB X EX b y):JE X EX (.Compare a [.Eq] [b] pos) (sOp gEq [x,y]):=qP (wH (by omega)) Ak ha hb (fB _)
theorem q_le(ha:JB X EX a x)(hb:JB X EX b y):JE X EX (.Compare a [.LtE] [b] pos) (sOp gLe [x,y]):=qP wF wE ha hb (fB _)
theorem yz(ha:JB X EX a x)(hb:JB X EX b y):JE X EX (.Compare a [.Gt] [b] pos) (sOp gGt [x,y]):=qP Al Ai ha hb (fB _)
theorem q_ge(ha:JB X EX a x)(hb:JB X EX b y):JE X EX (.Compare a [.GtE] [b] pos) (sOp gGe [x,y]):=qP Am Aj ha hb (fB _)
theorem q_in(hu:X.A.units+10 < cLine)(ha:JB X EX a x)(hb:JB X EX b y)(hm:behindInMarks .In b=false:=by with_unfolding_all rfl):JE X EX (.Compare a [.In] [b] pos) (sOp gIn [x,y]):=qP (wG hu) Ah ha hb hm
theorem cJ(hu:X.A.units+10 < cLine)(ha:JB X EX a x)(hb:JB X EX b y):JT X EX (.Compare a [.Eq] [b] pos) (aX gEq [x,y]):=lw (wH (by omega)) Ak ha hb (fB _)
theorem xX(hu:X.A.units+10 < cLine)(ha:JB X EX a x)(hb:JB X EX b y):JT X EX (.Compare a [.NotEq] [b] pos) (aX gNe [x,y]):=lw (op_neD (by omega)) os_ne ha hb (fB _)
theorem t_lt(ha:JB X EX a x)(hb:JB X EX b y):JT X EX (.Compare a [.Lt] [b] pos) (aX gLt [x,y]):=lw op_lt os_lt ha hb (fB _)
theorem t_gt(ha:JB X EX a x)(hb:JB X EX b y):JT X EX (.Compare a [.Gt] [b] pos) (aX gGt [x,y]):=lw Al Ai ha hb (fB _)
theorem t_ge(ha:JB X EX a x)(hb:JB X EX b y):JT X EX (.Compare a [.GtE] [b] pos) (aX gGe [x,y]):=lw Am Aj ha hb (fB _)
theorem t_is(ha:JB X EX a x)(hb:JB X EX b y):JT X EX (.Compare a [.Is] [b] pos) (aX gIs [x,y]):=lw op_isD os_is ha hb (fB _)
theorem t_in(hu:X.A.units+10 < cLine)(ha:JB X EX a x)(hb:JB X EX b y)(hm:behindInMarks .In b=false:=by with_unfolding_all rfl):JT X EX (.Compare a [.In] [b] pos) (aX gIn [x,y]):=lw (wG hu) Ah ha hb hm
variable(he:starEach (e::es) X.env=(false,eval e X.env)::starEach es X.env:=by rfl)(hpl:(backTo pos (starEach es X.env)).any (·.1)=false:=by rfl)
include he hpl
theorem cH(m:X.mg "len" = none)(ha:JA X EX (e::es) as)(hg:Gl X "len" := by rfl):JE X EX (.Call (.Name "len" p) (e::es) [] pos) (sOp cm as):=gU vg os_len hg m PySem.boot_len ha (by decide) (by decide) he hpl
theorem Ax(m:X.mg "sum" = none)(ha:JA X EX (e::es) as)(hg:Gl X "sum" := by rfl)(hc:X.calm=true:=by rfl):JE X EX (.Call (.Name "sum" p) (e::es) [] pos) (sOp oV as):=gU (uZ hc) os_sum hg m PyProof.Rows.boot_sum ha (by decide) (by decide) he hpl
theorem qS(m:X.mg "all" = none)(ha:JA X EX (e::es) as)(hg:Gl X "all" := by rfl)(hc:X.calm=true:=by rfl):JE X EX (.Call (.Name "all" p) (e::es) [] pos) (sOp jx as):=gU (vm hc) os_all hg m PyProof.Rows.boot_all ha (by decide) (by decide) he hpl
theorem t7(m:X.mg "max" = none)(ha:JA X EX (e::es) as)(hg:Gl X "max" := by rfl)(hc:X.calm=true:=by rfl):JE X EX (.Call (.Name "max" p) (e::es) [] pos) (sOp fm as):=gU (u8 hc) yQ hg m PyProof.Rows.boot_max ha (by decide) (by decide) he hpl
theorem t5(m:X.mg "min" = none)(ha:JA X EX (e::es) as)(hg:Gl X "min" := by rfl)(hc:X.calm=true:=by rfl):JE X EX (.Call (.Name "min" p) (e::es) [] pos) (sOp fY as):=gU (u3 hc) yP hg m PyProof.Rows.boot_min ha (by decide) (by decide) he hpl
theorem dH(m:X.mg "tuple" = none)(ha:JA X EX (e::es) as)(hg:Gl X "tuple" := by rfl)(hc:X.calm=true:=by rfl):JE X EX (.Call (.Name "tuple" p) (e::es) [] pos) (sOp dC as):=gJ (qL hc) wx hg m PyProof.Rows.boot_tuple ha (by decide) (by decide) he hpl
theorem b_set(m:X.mg "set" = none)(ha:JA X EX (e::es) as)(hg:Gl X "set" := by rfl)(hc:X.calm=true:=by rfl):JE X EX (.Call (.Name "set" p) (e::es) [] pos) (sOp uP as):=gJ (u0 hc) os_set hg m PyProof.Rows.boot_set ha (by decide) (by decide) he hpl
theorem qR(m:X.mg "int" = none)(ha:JA X EX (e::es) as)(hg:Gl X "int" := by rfl):JE X EX (.Call (.Name "int" p) (e::es) [] pos) (sOp mB as):=gJ vh os_int hg m PyProof.Rows.boot_int ha (by decide) (by decide) he hpl
theorem t4(m:X.mg "range" = none)(ha:JA X EX (e::es) as)(hg:Gl X "range" := by rfl):JE X EX (.Call (.Name "range" p) (e::es) [] pos) (sOp lF as):=gJ qM wC hg m PyProof.Rows.boot_range ha (by decide) (by decide) he hpl
end
section
variable{X:Cx}{EX:EXT}{e:Expr}{a:Arg}{p1 p2 pos:Pos}
theorem nN(he:JB X EX e a)(m1:X.mg "isinstance" = none)(m2:X.mg "int" = none)(g1:Gl X "isinstance" := by rfl)(g2:Gl X "int" := by rfl)(hs:starEach [e,.Name "int" p1] X.env=(false,eval e X.env)::starEach [.Name "int" p1] X.env:=by rfl):JE X EX (.Call (.Name "isinstance" p2) [e,.Name "int" p1] [] pos) (sOp (gX "int") [a]):=tZ (.inl rfl) he g1 m1 g2 m2 PyProof.Rows.boot_int (by decide) (by decide) hs
theorem lR(he:JB X EX e a)(m1:X.mg "isinstance" = none)(m2:X.mg "bool" = none)(g1:Gl X "isinstance" := by rfl)(g2:Gl X "bool" := by rfl)(hs:starEach [e,.Name "bool" p1] X.env=(false,eval e X.env)::starEach [.Name "bool" p1] X.env:=by rfl):JE X EX (.Call (.Name "isinstance" p2) [e,.Name "bool" p1] [] pos) (sOp (gX "bool") [a]):=tZ (.inr (.inl rfl)) he g1 m1 g2 m2 PyProof.Rows.boot_bool (by decide) (by decide) hs
theorem fu(he:JB X EX e a)(m1:X.mg "isinstance" = none)(m2:X.mg "tuple" = none)(g1:Gl X "isinstance" := by rfl)(g2:Gl X "tuple" := by rfl)(hs:starEach [e,.Name "tuple" p1] X.env=(false,eval e X.env)::starEach [.Name "tuple" p1] X.env:=by rfl):JE X EX (.Call (.Name "isinstance" p2) [e,.Name "tuple" p1] [] pos) (sOp (gX "tuple") [a]):=tZ (.inr (.inr (.inl rfl))) he g1 m1 g2 m2 PyProof.Rows.boot_tuple (by decide) (by decide) hs
theorem vp(he:JB X EX e a)(m1:X.mg "isinstance" = none)(m2:X.mg "str" = none)(g1:Gl X "isinstance" := by rfl)(g2:Gl X "str" := by rfl)(hs:starEach [e,.Name "str" p1] X.env=(false,eval e X.env)::starEach [.Name "str" p1] X.env:=by rfl):JE X EX (.Call (.Name "isinstance" p2) [e,.Name "str" p1] [] pos) (sOp (gX "str") [a]):=tZ (.inr (.inr (.inr (.inr rfl)))) he g1 m1 g2 m2 PyProof.Rows.boot_str (by decide) (by decide) hs
end
section
variable{X:Cx}{EX:EXT}{e:Expr}{pos p1 apos cpos:Pos}{n:Str}{f:SE}
theorem eL(j:Nat)(h:JE X EX e f)(hN:X.N[j]?=some n:=by rfl)(hv:Vis X.env.scope n:=by first | exact Or.inl rfl | exact Or.inr (Or.inl rfl) | exact Or.inr (Or.inr rfl))(hst:starEach [e] X.env=(false,eval e X.env)::starEach [] X.env:=by rfl)
 (hbase:attributeBase (.Name n p1) "append" X.env (eval (.Name n p1) X.env)=eval (.Name n p1) X.env:=by rfl) (hfew:((backTo cpos (starEach [e] X.env)).all (fun x => !x.1)&&(backToKw cpos (keywordEach [] X.env)).all (fun x=>x.1.isSome)&&decide ([e].length+([]:List Keyword).length+(if ([]:List Keyword).isEmpty then 0 else 1) < 30))=true:=by rfl)
 (hline:(apos.endLine == cpos.line)=true:=by rfl) (hplain:(backTo cpos (starEach [] X.env)).any (·.1)=false:=by rfl) (hd:(n == ("__debug__" : Str))=false:=by decide) (hcd:(n == ("__classdict__" : Str))=false:=by decide) :
 JE X EX (.Call (.Attribute (.Name n p1) "append" apos) [e] [] cpos) (b7 j cq [f]):=xE uF jp PySem.F.slot_list_append PySem.F.type_list_append hN hv (.cons h .nil hst) hbase hfew hline hst hplain hd hcd
theorem gz(j:Nat)(h:JE X EX e f)(hN:X.N[j]?=some n:=by rfl)(hv:Vis X.env.scope n:=by first | exact Or.inl rfl | exact Or.inr (Or.inl rfl) | exact Or.inr (Or.inr rfl))(hst:starEach [e] X.env=(false,eval e X.env)::starEach [] X.env:=by rfl)
 (hbase:attributeBase (.Name n p1) "extend" X.env (eval (.Name n p1) X.env)=eval (.Name n p1) X.env:=by rfl) (hfew:((backTo cpos (starEach [e] X.env)).all (fun x => !x.1)&&(backToKw cpos (keywordEach [] X.env)).all (fun x=>x.1.isSome)&&decide ([e].length+([]:List Keyword).length+(if ([]:List Keyword).isEmpty then 0 else 1) < 30))=true:=by rfl)
 (hline:(apos.endLine == cpos.line)=true:=by rfl) (hplain:(backTo cpos (starEach [] X.env)).any (·.1)=false:=by rfl) (hd:(n == ("__debug__" : Str))=false:=by decide) (hcd:(n == ("__classdict__" : Str))=false:=by decide) :
 JE X EX (.Call (.Attribute (.Name n p1) "extend" apos) [e] [] cpos) (b7 j cn [f]):=xE uE rO PySem.F.slot_list_extend PySem.F.type_list_extend hN hv (.cons h .nil hst) hbase hfew hline hst hplain hd hcd
end
end L2
namespace L2
namespace Td
open PySem L2 PyProof.Rows
def nb(j:Int):List (Int×Int)→List Int
 | []=>[]
 | t::r=>(if j=t.1 then [t.2] else if j=t.2 then [t.1] else [])++nb j r
theorem m8(j:Int):∀ (a b:List (Int×Int)),nb j (a++b)=nb j a++nb j b
 | [],b=>rfl
 | t::r,b=>by
  show _++nb j (r++b)=_
  rw [m8 j r b]
  show _=(_++nb j r)++nb j b
  rw [List.append_assoc]
theorem wL(j:Int):∀ (a:List (Int×Int)),(nb j a).length≤a.length
 | []=>Nat.le_refl _
 | t::r=>by
  have:=wL j r
  show (_++nb j r).length≤r.length+1
  rw [List.length_append]
  split
  ·simp;omega
  ·split
   ·simp;omega
   ·simp;omega
structure Adj(H:Hp)(p:Addr)(ls:List Addr)(done:List (Int×Int))(H':Hp):Prop where
 same:aj H H'
 at_:H' p=some (.lst (ls.map V.ref))
 nd:ls.Nodup
 np:p∉ls
 pn:H p=none
 ln:∀ l∈ls,H l=none
 lst:∀ (j:Nat) (l:Addr),ls[j]?=some l→H' l=some (.lst ((nb j done).map V.int))
theorem Adj.inj{H:Hp}{p:Addr}{ls:List Addr}{done:List (Int×Int)}{H':Hp}(A:Adj H p ls done H'){i j:Nat}{l:Addr}(h1:ls[i]?=some l)(h2:ls[j]?=some l):i=j:=by
 obtain ⟨a1,e1⟩:=List.getElem?_eq_some_iff.mp h1;obtain ⟨a2,e2⟩:=List.getElem?_eq_some_iff.mp h2;exact (List.getElem_inj A.nd).mp (e1.trans e2.symm)
theorem Adj.step{H:Hp}{p:Addr}{ls:List Addr}{done:List (Int×Int)}{H1:Hp}(A:Adj H p ls done H1){a b:Nat}{la lb:Addr}(ha:ls[a]?=some la)(hb:ls[b]?=some lb)(hab:a≠b) :
 Adj H p ls (done++[((a:Int),(b:Int))]) (upd (upd H1 la (.lst ((nb a done++[(b:Int)]).map V.int))) lb (.lst ((nb b done++[(a:Int)]).map V.int))):=by
 have nab:la≠lb:=fun z=>hab (A.inj ha (z ▸ hb))
 have ma:la∈ls:=List.mem_of_getElem? ha;have mb:lb∈ls:=List.mem_of_getElem? hb;refine ⟨fun c o q=> ?_,?_,A.nd,A.np,A.pn,A.ln,fun j l hj=> ?_⟩
 ·rw [ar (au q (A.ln lb mb)),ar (au q (A.ln la ma))]
  exact A.same c o q
 ·rw [ar (fun z:p=lb=>A.np (by rw [z];exact mb)),ar (fun z:p=la=>A.np (by rw [z];exact ma))]
  exact A.at_
 ·rw [m8]
  by_cases e1:l=lb
  ·subst e1
   have:j=b:=A.inj hj hb;subst this;rw [aD]
   have:nb (j:Int) [((a:Int),(j:Int))]=[(a:Int)]:=by
    show (if (j:Int)=(a:Int) then _ else if (j:Int)=(j:Int) then _ else _)++_=_
    rw [if_neg (by omega),if_pos rfl];rfl
   rw [this]
  ·rw [ar e1]
   by_cases e2:l=la
   ·subst e2
    have:j=a:=A.inj hj ha;subst this;rw [aD]
    have:nb (j:Int) [((j:Int),(b:Int))]=[(b:Int)]:=by
     show (if (j:Int)=(j:Int) then _ else _)++_=_
     rw [if_pos rfl];rfl
    rw [this]
   ·rw [ar e2,A.lst j l hj]
    have:nb (j:Int) [((a:Int),(b:Int))]=[]:=by
     have n1:j≠a:=fun z=>by subst z;rw [hj] at ha;exact e2 (Option.some.inj ha)
     have n2:j≠b:=fun z=>by subst z;rw [hj] at hb;exact e1 (Option.some.inj hb)
     show (if (j:Int)=(a:Int) then _ else if (j:Int)=(b:Int) then _ else _)++_=_
     rw [if_neg (by omega),if_neg (by omega)];rfl
    rw [this,List.append_nil]
theorem Paired.get{α β:Type}{R:α→β→Prop}:∀ {l1:List α} {l2:List β} {i:Nat} {a:α},Paired R l1 l2→l1[i]?=some a→∃ b,l2[i]?=some b∧R a b
 | _,_,_,_,.nil,e=>by simp at e
 | _,_,0,_,.cons r _,e=>by simp at e;subst e;exact ⟨_,rfl,r⟩
 | _,_,i+1,a,.cons _ t,e=>by
  obtain ⟨u,h1,h2⟩:=Paired.get (i:=i) (a:=a) t (by simpa using e);exact ⟨u,by simpa using h1,h2⟩
def vL(K:PySem.W.Frag):Sp:=fun vs H Q _=>∃ wb many ties,vs=[.ref wb]∧WebAt K H wb many ties∧1≤many∧many≤40∧∀ p ls H',ls.length=many.toNat→Adj H p ls ties H'→Q (.ref p) H'
def tF:D→Option (Int×Int)
 | .tup [.int a,.int b]=>some (a,b)
 | _=>none
def ik:List D→Option (List (Int×Int))
 | []=>some []
 | d::r=>match tF d,ik r with
  | some p,some ps=>some (p::ps)
  | _,_=>none
def qz(many:Int)(ts:List (Int×Int)):Bool:=decide (1≤many)&&decide (many≤40)&&decide (ts.length≤60)&&ts.all (fun t=>decide (0≤t.1)&&decide (t.1 < t.2)&&decide (t.2 < many))&&decide ts.Nodup
def adjD(many:Int)(ts:List (Int×Int)):D:= .lst ((List.range many.toNat).map fun j=> .lst ((nb (j:Nat) ts).map D.int))
def lH:FS:=fun ds=>match ds with
 | [.tup [.int many,.tup ties]]=>match ik ties with
  | some ts=>if qz many ts then some (.ok (adjD many ts) false,.non) else none
  | none=>none
 | _=>none
theorem uy{K:PySem.W.Frag}{H:Hp}{d:D}{t:Int×Int}(h:tF d=some t){v:V}(r:aH K H d v):xK K H v t:=by
 unfold tF at h
 split at h
 ·cases h
  obtain ⟨p,xs,rfl,h2,h3⟩:=r;refine ⟨p,rfl,?_⟩
  match xs,h3 with
  | [x,y],⟨r1,r2,_⟩=>rw [h2,show x=_ from r1,show y=_ from r2]
  | [],h3=>exact h3.elim
  | [_],⟨_,h3⟩=>exact h3.elim
  | _::_::_::_,⟨_,_,h3⟩=>exact h3.elim
 ·cases h
theorem k7{K:PySem.W.Frag}{H:Hp}:∀ {ds:List D} {ts:List (Int×Int)} {xs:List V},ik ds=some ts→ao K H ds xs→Paired (xK K H) xs ts
 | [],ts,[],h,_=>by cases h;exact .nil
 | d::ds,ts,x::xs,h,r=>by
  unfold ik at h
  split at h
  ·rename_i p ps h1 h2
   cases h;exact .cons (uy h1 r.1) (k7 h2 r.2)
  ·cases h
 | [],_,_::_,_,r=>r.elim
 | _::_,_,[],_,r=>r.elim
theorem sW{K:PySem.W.Frag}{H:Hp}{ls:List Addr}{g:Nat→List Int}:∀ (n:Nat) (k:Nat),ls.length=n→(∀ (j:Nat) (l:Addr),ls[j]?=some l→H l=some (.lst ((g (k+j)).map V.int)))→ao K H ((List.range' k n).map fun j=> .lst ((g j).map D.int)) (ls.map V.ref)
 | 0,k,hl,h=>by
  have:ls=[]:=List.length_eq_zero_iff.mp hl;subst this;exact trivial
 | n+1,k,hl,h=>by
  cases ls with
  | nil=>cases hl
  | cons l ls =>
   refine ⟨⟨l,_,rfl,h 0 l rfl,dw _⟩,?_⟩
   exact sW n (k+1) (by simpa using hl) fun j l' e=>by
    have:=h (j+1) l' (by simpa using e);rw [show k+1+j=k+(j+1) by omega];exact this
theorem sj{ds:List D}{r:Res×D}(h:lH ds=some r):∃ many ties ts,ds=[.tup [.int many,.tup ties]]∧ik ties=some ts∧qz many ts=true∧r=(.ok (adjD many ts) false,.non):=by
 unfold lH at h
 split at h
 ·split at h
  ·split at h
   ·cases h;exact ⟨_,_,_,rfl,‹_›,‹_›,rfl⟩
   ·cases h
  ·cases h
 ·cases h
theorem two{K:PySem.W.Frag}{H:Hp}{a b:D}{xs:List V}(h:ao K H [a,b] xs):∃ x y,xs=[x,y]∧aH K H a x∧aH K H b y:=by
 match xs,h with
 | [x,y],⟨r1,r2,_⟩=>exact ⟨x,y,rfl,r1,r2⟩
 | [],h3=>exact h3.elim
 | [_],⟨_,h3⟩=>exact h3.elim
 | _::_::_::_,⟨_,_,h3⟩=>exact h3.elim
theorem tied_x{P:Program}{w:World}{K:PySem.W.Frag}{mg:Str→Option Value}{base:Heap}(h:Ok P w K mg base "tied_places" ["web"] 1 (vL K)):OkX P w K mg base "tied_places" ["web"] 1 (spF K none lH) :=
 Ok.x h fun vs H Q E q=>by
  obtain ⟨Z,W,ds,hlen,_,hmt,hf,_,hW,hm⟩:=q;have hW:=hW rfl;subst hW
  cases e:lH ds with
  | none=>rw [e] at hm;exact hm.elim
  | some r =>
   obtain ⟨many,ties,ts,rfl,e1,hg,rfl⟩:=sj e;rw [e] at hm;have hm:∀ v H',Fr [] H H'→aH K (hid ([]++Z) H') (adjD many ts) v→(∀ p,([]:List Addr)=[p]→aT K H' (hid ([]++Z) H') p .non)→Q v H':=hm
   obtain ⟨v,rfl⟩:∃ v,vs=[v]:=by
    match vs,hlen with
    | [v],_=>exact ⟨v,rfl⟩
   obtain ⟨wb,xs,rfl,h2,h3⟩:=hf 0 _ _ (by intro z;cases z) rfl rfl;obtain ⟨x,y,rfl,r1,r2⟩:=two h3;have r1:x = .int many:=r1;subst r1;obtain ⟨t,bs,rfl,h4,h5⟩:=r2;unfold qz at hg;simp only [Bool.and_eq_true,decide_eq_true_eq,List.all_eq_true] at hg;obtain ⟨⟨⟨⟨g1,g2⟩,g3⟩,g4⟩,g5⟩:=hg;refine ⟨wb,many,ts,rfl,⟨⟨t,bs,aC _ _ h2,aC _ _ h4,k7 e1 (aj.repDs aC h5)⟩,g3,fun t ht=> ?_,g5⟩,g1,g2,fun p ls H' el A=> ?_⟩
   ·have:=g4 t ht
    exact ⟨this.1.1,this.1.2,this.2⟩
   ·have nz:∀ b,H b=none→b∉[]++Z:=fun b e z=>by
     have:=hmt b z;rw [e] at this;exact this
    refine hm (.ref p) H' A.same.fr ⟨p,_,rfl,(aQ (nz p A.pn)).trans A.at_,?_⟩ fun p z=>by cases z
    have:=sW (K:=K) (H:=hid ([]++Z) H') (ls:=ls) (g:=fun j=>nb (j:Nat) ts) many.toNat 0 el fun j l e=>by
     rw [aQ (nz l (A.ln l (List.mem_of_getElem? e))),Nat.zero_add];exact A.lst j l e
    rw [← List.range_eq_range'] at this;exact this
end Td
end L2
namespace L2
open PySem
def eI:SS:=(az (bn (aX gLt [.bor 1,.ex (sOp cm [.bor 0])]) (aK (sOp gIx [.bor 0,.bor 1])) bA) (aK (sC (.int 0))))
def bg:FS:=aB 2 2 none eI
def jL:SS:=(az (bF 0 (sOp eA [.ex (sOp bt [.bor 0,.ex (sC (.int 7919))]),.ex (sC (.int 2147483647))])) (aK (sOp eA [.ex (sOp bt [.ex (sOp bt [.ex (sOp iD [.bor 0,.bor 0]),.ex (sOp iD [.ex (sC (.int 48271)),.bor 0])]),.ex (sC (.int 12345))]),.ex (sC (.int 2147483629))])))
def cG:FS:=aB 1 1 none jL
def g6:SS:=(az (bF 1 (sOp fm [.bor 0,.ex (sOp bU [.ex (sC (.int 0)),.bor 0])])) (aK (eh [(bb 1),(sOp mB [.ex (sOp gGe [.bor 1,.ex (sOp xc [.ex (sC (.int 10)),.ex (sC (.int 18))])])]),(sOp eA [.bor 1,.ex (sC (.int 1000003))])])))
def bN:FS:=aB 1 2 none g6
def gp:SS:=(az (bn (aX gEq [.ex (sOp gIx [.bor 0,.ex (sC (.int 1))]),.ex (sC (.int 1))]) (az (bF 2 (sOp eA [.ex (sOp gIx [.bor 0,.ex (sC (.int 0))]),.bor 1])) (az (dX gY 0 (sOp fo [.ex (sOp gIx [.bor 0,.ex (sC (.int 0))]),.bor 1]) (sC (.int 0))) (dI 2))) bA) (az (dX gY 0 (aw none none cG [.ex (sOp bt [.ex (aw none none cG [.ex (sOp gIx [.bor 0,.ex (sC (.int 2))])]),.ex (sC (.int 7))])]) (sC (.int 2))) (aK (sOp eA [.ex (sOp fo [.ex (sOp gIx [.bor 0,.ex (sC (.int 2))]),.ex (sC (.int 64))]),.bor 1]))))
def bf:FS:=aB 2 3 (some 0) gp
theorem oQ{a b:Int}(h1 : -(2 ^ 64) < a)(h2:a < 2 ^ 64):m7 a b=true:=by unfold m7;rw [decide_eq_true ⟨h1,h2⟩];rfl
def qq(s:Int):Int:=(((s+7919) % 2147483647) * ((s+7919) % 2147483647)+48271 * ((s+7919) % 2147483647)+12345) % 2147483629
theorem xo(s:Int):cG [.int s]=some (.ok (.int (qq s)) false,.non):=by
 have m1:m7 ((s+7919) % 2147483647) ((s+7919) % 2147483647)=true:=oQ (by omega) (by omega);have m2:m7 48271 ((s+7919) % 2147483647)=true:=oQ (by omega) (by omega);unfold cG jL;simp only [aB,ini,iB,ioD,bA,az,bF,aK,mS,dI,cv,bn,j5,ia,dX,b7,aw,sOp,aX,sC,bb,b5,eh,evA,List.map_cons,List.map_nil,dq,ku,dZ,sIf,iV,sOr,cf,iU,fW,sBl,bZ,cI,eJ,cx,g7,cD,eN,cW,dS,em,b8,dh,b6,e9,fb,j4,cu,mz,my,Tg.ge,List.length_cons,List.length_nil,List.getElem?_cons_zero,List.getElem?_cons_succ,List.set_cons_zero,List.set_cons_succ,List.cons_append,List.nil_append,List.replicate,Nat.sub_self,Nat.reduceSub,Nat.reduceAdd,Nat.zero_add,Option.isNone,if_true,reduceIte,decide_true,Bool.true_and,Bool.and_true,Bool.true_or,Bool.or_true,Bool.false_or,Bool.or_false,Bool.false_and,Bool.and_false,reduceCtorEq,eA,bt,iD,Int.reduceLT,m1,m2];rfl
theorem tK{n i:Nat}(h:i < n):ixN n (i:Int)=some i:=by
 unfold ixN;rw [if_pos (by omega),if_pos (by omega)];rfl
theorem jB{α:Type}{l:List α}{i:Nat}{x:α}(h:l[i]?=some x):atI l (i:Int)=some x:=by
 unfold atI;rw [tK (List.getElem?_eq_some_iff.mp h).1];exact h
section
variable{α:Type}{a b c d:α}{l:List α}
theorem Az:atI (a::l) 0=some a:=jB (i:=0) rfl
theorem Ay:atI (a::b::l) 1=some b:=jB (i:=1) rfl
theorem atI_2:atI (a::b::c::l) 2=some c:=jB (i:=2) rfl
end
theorem jb{ds:List D}{i:Int}{d:D}(h:atI ds i=some d):gIx [.lst ds,.int i]=some (d,false):=by unfold gIx;simp only [h]
theorem xi{ds:List D}{i:Int}{d:D}(h:atI ds i=some d):gIx [.klst ds,.int i]=some (d,false):=by unfold gIx;simp only [h]
theorem oX{ds:List D}{i:Int}{d:D}(h:atI ds i=some d):gIx [.tup ds,.int i]=some (d,false):=by unfold gIx;simp only [h]
theorem jc(a b:Int):gEq [.int a,.int b]=some (.bl (decide (a=b)),false):=by
 unfold gEq;simp only [ak,Bool.and_self,if_true,eqD,nrm,eqN];rw [show (a == b)=decide (a=b) from rfl]
theorem zn(a b:Int):gNe [.int a,.int b]=some (.bl (!decide (a=b)),false):=by
 unfold gNe;simp only [ak,Bool.and_self,if_true,eqD,nrm,eqN];rw [show (a == b)=decide (a=b) from rfl]
theorem oW{a b:Int}(h:0 < b):eA [.int a,.int b]=some (.int (a % b),false):=by unfold eA;simp only [h,decide_true,if_true]
theorem lG{a b:Int}(h:0 < b)(h2:b < 1073741824):fo [.int a,.int b]=some (.int (a / b),false):=by unfold fo;simp only [h,h2,and_self,decide_true,if_true]
theorem zm:xc [.int 10,.int 18]=some (.int 1000000000000000000,false):=rfl
def uw(a f s:Int):D:= .lst [.int a,.int f,.int s]
theorem zt(c:Int):∃ a f s,bN [.int c]=some (.ok (uw a f s) true,.non):=by
 refine ⟨if 0 - c > c then 0 - c else c,if decide (1000000000000000000≤(if 0 - c > c then 0 - c else c)) then 1 else 0,(if 0 - c > c then 0 - c else c) % 1000003,?_⟩;unfold bN g6;simp only [aB,ini,iB,ioD,bA,az,bF,aK,mS,dI,cv,bn,j5,ia,dX,b7,aw,sOp,aX,sC,bb,b5,eh,evA,List.map_cons,List.map_nil,dq,ku,dZ,sIf,iV,sOr,cf,iU,fW,sBl,bZ,cI,eJ,cx,g7,cD,eN,cW,dS,em,b8,dh,b6,e9,fb,j4,cu,mz,my,Tg.ge,List.length_cons,List.length_nil,List.getElem?_cons_zero,List.getElem?_cons_succ,List.set_cons_zero,List.set_cons_succ,List.cons_append,List.nil_append,List.replicate,Nat.sub_self,Nat.reduceSub,Nat.reduceAdd,Nat.zero_add,Option.isNone,if_true,reduceIte,decide_true,Bool.true_and,Bool.and_true,Bool.true_or,Bool.or_true,Bool.false_or,Bool.or_false,Bool.false_and,Bool.and_false,reduceCtorEq,fm,zp,bU,mB,gGe,zm,eA,Int.reduceLT];rfl
theorem qE(ns:List Int)(k:Nat):∃ c:Int,bg [.klst (ns.map D.int),.int k]=some (.ok (.int c) false,.non):=by
 by_cases h:k < ns.length
 ·refine ⟨ns[k],?_⟩
  have e:atI (ns.map D.int) (k:Int)=some (.int ns[k]):=jB (by rw [List.getElem?_map,List.getElem?_eq_getElem h];rfl)
  have h':(k:Int) < ((ns.map D.int).length:Nat):=by rw [List.length_map];omega
  unfold bg eI;simp only [aB,ini,iB,ioD,bA,az,bF,aK,mS,dI,cv,bn,j5,ia,dX,b7,aw,sOp,aX,sC,bb,b5,eh,evA,List.map_cons,List.map_nil,dq,ku,dZ,sIf,iV,sOr,cf,iU,fW,sBl,bZ,cI,eJ,cx,g7,cD,eN,cW,dS,em,b8,dh,b6,e9,fb,j4,cu,mz,my,Tg.ge,List.length_cons,List.length_nil,List.getElem?_cons_zero,List.getElem?_cons_succ,List.set_cons_zero,List.set_cons_succ,List.cons_append,List.nil_append,List.replicate,Nat.sub_self,Nat.reduceSub,Nat.reduceAdd,Nat.zero_add,Option.isNone,if_true,reduceIte,decide_true,Bool.true_and,Bool.and_true,Bool.true_or,Bool.or_true,Bool.false_or,Bool.or_false,Bool.false_and,Bool.and_false,reduceCtorEq,cm,gLt,xi e,h']
 ·refine ⟨0,?_⟩
  have h':¬ (k:Int) < ((ns.map D.int).length:Nat):=by rw [List.length_map];omega
  unfold bg eI;simp only [aB,ini,iB,ioD,bA,az,bF,aK,mS,dI,cv,bn,j5,ia,dX,b7,aw,sOp,aX,sC,bb,b5,eh,evA,List.map_cons,List.map_nil,dq,ku,dZ,sIf,iV,sOr,cf,iU,fW,sBl,bZ,cI,eJ,cx,g7,cD,eN,cW,dS,em,b8,dh,b6,e9,fb,j4,cu,mz,my,Tg.ge,List.length_cons,List.length_nil,List.getElem?_cons_zero,List.getElem?_cons_succ,List.set_cons_zero,List.set_cons_succ,List.cons_append,List.nil_append,List.replicate,Nat.sub_self,Nat.reduceSub,Nat.reduceAdd,Nat.zero_add,Option.isNone,if_true,reduceIte,decide_true,Bool.true_and,Bool.and_true,Bool.true_or,Bool.or_true,Bool.false_or,Bool.or_false,Bool.false_and,Bool.and_false,reduceCtorEq,cm,gLt,h',decide_false]
theorem xR{a b c d:D}:gY (.lst [a,b,c]) (.int 0) d=some (.lst [d,b,c]):=rfl
theorem xQ{a b c d:D}:gY (.lst [a,b,c]) (.int 2) d=some (.lst [a,b,d]):=rfl
theorem xp(a f s m:Int)(h:0 < m)(h2:m < 1073741824):∃ r a' f' s':Int,bf [uw a f s,.int m]=some (.ok (.int r) false,uw a' f' s')∧0≤r∧r < m:=by
 by_cases hf:f=1
 ·refine ⟨a % m,a / m,f,s,?_,Int.emod_nonneg _ (by omega),Int.emod_lt_of_pos _ h⟩
  unfold bf gp uw;simp only [aB,ini,iB,ioD,bA,az,bF,aK,mS,dI,cv,bn,j5,ia,dX,b7,aw,sOp,aX,sC,bb,b5,eh,evA,List.map_cons,List.map_nil,dq,ku,dZ,sIf,iV,sOr,cf,iU,fW,sBl,bZ,cI,eJ,cx,g7,cD,eN,cW,dS,em,b8,dh,b6,e9,fb,j4,cu,mz,my,Tg.ge,List.length_cons,List.length_nil,List.getElem?_cons_zero,List.getElem?_cons_succ,List.set_cons_zero,List.set_cons_succ,List.cons_append,List.nil_append,List.replicate,Nat.sub_self,Nat.reduceSub,Nat.reduceAdd,Nat.zero_add,Option.isNone,if_true,reduceIte,decide_true,Bool.true_and,Bool.and_true,Bool.true_or,Bool.or_true,Bool.false_or,Bool.or_false,Bool.false_and,Bool.and_false,reduceCtorEq,jc,jb Az,jb Ay,oW h,lG h h2,xR,hf]
 ·refine ⟨qq (qq s+7) / 64 % m,a,f,qq (qq s+7),?_,Int.emod_nonneg _ (by omega),Int.emod_lt_of_pos _ h⟩
  unfold bf gp uw;simp only [aB,ini,iB,ioD,bA,az,bF,aK,mS,dI,cv,bn,j5,ia,dX,b7,aw,sOp,aX,sC,bb,b5,eh,evA,List.map_cons,List.map_nil,dq,ku,dZ,sIf,iV,sOr,cf,iU,fW,sBl,bZ,cI,eJ,cx,g7,cD,eN,cW,dS,em,b8,dh,b6,e9,fb,j4,cu,mz,my,Tg.ge,List.length_cons,List.length_nil,List.getElem?_cons_zero,List.getElem?_cons_succ,List.set_cons_zero,List.set_cons_succ,List.cons_append,List.nil_append,List.replicate,Nat.sub_self,Nat.reduceSub,Nat.reduceAdd,Nat.zero_add,Option.isNone,if_true,reduceIte,decide_true,Bool.true_and,Bool.and_true,Bool.true_or,Bool.or_true,Bool.false_or,Bool.or_false,Bool.false_and,Bool.and_false,reduceCtorEq,jc,jb Az,jb Ay,jb atI_2,oW h,lG (show (0:Int) < 64 by decide) (by decide),bt,xQ,hf,decide_false,xo]
theorem mT{T:Tg}{f:SS}(I:Nat→Rho→Prop):∀ (ds:List D) (k:Nat) (ρ:Rho),I k ρ→(∀ i d ρ,ds[i]?=some d→I (k+i) ρ→∃ ρ1 ρ2,bZ T d ρ=some ρ1∧f ρ1=some (.nx,ρ2)∧I (k+i+1) ρ2)→∃ ρ',bR T f ds ρ=some (.nx,ρ')∧I (k+ds.length) ρ'
 | [],k,ρ,h,_=>⟨ρ,rfl,h⟩
 | d::ds,k,ρ,h,hs=>by
  obtain ⟨ρ1,ρ2,e1,e2,h2⟩:=hs 0 d ρ rfl h
  obtain ⟨ρ',e3,h3⟩:=mT I ds (k+1) ρ2 h2 fun i d ρ e hi=>by
   have:=hs (i+1) d ρ (by simpa using e) (by rw [show k+(i+1)=k+1+i by omega];exact hi);rw [show k+(i+1)+1=k+1+i+1 by omega] at this;exact this
  refine ⟨ρ',?_,by rw [List.length_cons,show k+(ds.length+1)=k+1+ds.length by omega];exact h3⟩;unfold bR;simp only [e1,e2,e3]
end L2
namespace L2
open PySem PySem.Spec PyProof.Rows
section
variable{ρ ρ1 ρ2:Rho}{d c c' i:D}{ds:List D}{nw b:Bool}{f g:SE}{p q:ST}{s t:SS}{C:Str}
theorem r_set{j:Nat}{x:Option (D×Md)}(h:f ρ=some (.ok d nw,ρ1))(hx:ρ1[j]?=some x)(hn:ρ1.set j (some (d,if nw then .ow else .fz))=ρ2):bF j f ρ=some (.nx,ρ2):=by subst hn;unfold bF;rw [h];show (match ρ1[j]? with | some _=>_ | none=>_)=_;rw [hx]
theorem r_ret(h:f ρ=some (.ok d nw,ρ1)):aK f ρ=some (.rt d nw,ρ1):=by unfold aK;rw [h]
theorem r_expr(h:f ρ=some (.ok d nw,ρ1)):cv f ρ=some (.nx,ρ1):=by unfold cv;rw [h]
theorem r_seq{r:Option (Out×Rho)}(h:s ρ=some (.nx,ρ1))(h2:t ρ1=r):az s t ρ=r:=by unfold az;rw [h];exact h2
theorem r_seqR(h:s ρ=some (.rt d nw,ρ1)):az s t ρ=some (.rt d nw,ρ1):=by unfold az;rw [h]
theorem r_ifT{r:Option (Out×Rho)}(h:p ρ=some (.ok b,ρ1))(hb:b=true)(h2:s ρ1=r):bn p s t ρ=r:=by unfold bn;subst hb;rw [h];exact h2
theorem r_ifF{r:Option (Out×Rho)}(h:p ρ=some (.ok b,ρ1))(hb:b=false)(h2:t ρ1=r):bn p s t ρ=r:=by unfold bn;subst hb;rw [h];exact h2
theorem r_nil:bA ρ=some (.nx,ρ):=rfl
theorem r_asg{T:Tg}(h:f ρ=some (.ok d nw,ρ1))(h2:bZ T d ρ1=some ρ2):j5 T f ρ=some (.nx,ρ2):=by unfold j5;rw [h];show (match bZ T d ρ1 with | some ρ2=>_ | none=>_)=_;rw [h2]
theorem r_aug{j:Nat}{op:Int→Int→Int}{a k:Int}{x:Option (D×Md)}(h0:ρ[j]?=some (some (.int a,.fz)))(h:f ρ=some (.ok (.int k) nw,ρ1))(hx:ρ1[j]?=some x)(hn:ρ1.set j (some (.int (op a k),.fz))=ρ2):ia j op f ρ=some (.nx,ρ2):=by
 subst hn;unfold ia;rw [h0];show (match f ρ with | some (.ok (.int b) _,ρ')=>_ | some (.ok _ _,_)=>_ | some (.ex C,ρ')=>_ | none=>_)=_;rw [h];show (match ρ1[j]? with | some _=>_ | none=>_)=_;rw [hx]
theorem sY{u:D→D→D→Option D}{j:Nat}{x:D×Md}{nw2:Bool}(h:f ρ=some (.ok d nw,ρ1))(h1:ρ1[j]?=some (some x))(h2:g ρ1=some (.ok i nw2,ρ2))(h3:ρ2[j]?=some (some (c,.ow)))(h4:u c i d=some c'){ρ3:Rho}(hn:ρ2.set j (some (c',.ow))=ρ3):dX u j f g ρ=some (.nx,ρ3):=by subst hn;unfold dX;simp only [h,h1,h2,h3,h4]
theorem r_for{it:SI}{T:Tg}{r:Option (Out×Rho)}(h:it ρ=some (.ok ds,ρ1))(h2:bR T s ds ρ1=r):em it T s ρ=r:=by unfold em;rw [h];exact h2
theorem yo{j:Nat}{u:D→List D→Option (D×D)}{fs:List SE}{l:List D}(h0:ρ[j]?=some (some (.lst l,.ow)))(h1:evA (fs.map Arg.ex) ρ=some (.ok ds,ρ1))(h2:ρ1[j]?=some (some (c,.ow)))(h3:u c ds=some (c',d))(hn:ρ1.set j (some (c',.ow))=ρ2):b7 j u fs ρ=some (.ok d false,ρ2):=by subst hn;unfold b7;simp only [h0,h1,h2,h3]
theorem r_nilA:evA [] ρ=some (.ok [],ρ):=rfl
theorem Aa{as:List Arg}(h:f ρ=some (.ok d nw,ρ1))(h2:evA as ρ1=some (.ok ds,ρ2)):evA (.ex f::as) ρ=some (.ok (d::ds),ρ2):=by unfold evA;simp only [h,h2]
theorem r_nilM:evA (List.map Arg.ex []) ρ=some (.ok [],ρ):=rfl
theorem r_exM{fs:List SE}(h:f ρ=some (.ok d nw,ρ1))(h2:evA (List.map Arg.ex fs) ρ1=some (.ok ds,ρ2)):evA (List.map Arg.ex (f::fs)) ρ=some (.ok (d::ds),ρ2):=Aa h h2
theorem r_borA{as:List Arg}{j:Nat}{x:D×Md}{m:Md}(h:ρ[j]?=some (some x))(h2:evA as ρ=some (.ok ds,ρ2))(h3:ρ2[j]?=some (some (d,m))):evA (.bor j::as) ρ=some (.ok (d::ds),ρ2):=by unfold evA;simp only [h,h2,h3]
theorem r_op{o:List D→Option (D×Bool)}{as:List Arg}(h:evA as ρ=some (.ok ds,ρ1))(h2:o ds=some (d,nw)):sOp o as ρ=some (.ok d nw,ρ1):=by unfold sOp;simp only [h,h2]
theorem r_opT{o:List D→Option (D×Bool)}{as:List Arg}(h:evA as ρ=some (.ok ds,ρ1))(h2:o ds=some (.bl b,nw)):aX o as ρ=some (.ok b,ρ1):=by unfold aX;rw [r_op h h2]
theorem r_tru{a:Arg}(h:evA [a] ρ=some (.ok [d],ρ1))(h2:ku d=some b):dq a ρ=some (.ok b,ρ1):=by unfold dq;simp only [h,h2]
theorem r_not(h:p ρ=some (.ok b,ρ1)):dZ p ρ=some (.ok (!b),ρ1):=by unfold dZ;rw [h]
theorem v5{r:Option (vv×Rho)}(h:p ρ=some (.ok b,ρ1))(hb:b=true)(h2:q ρ1=r):iV p q ρ=r:=by unfold iV;subst hb;rw [h];exact h2
theorem r_andF(h:p ρ=some (.ok b,ρ1))(hb:b=false):iV p q ρ=some (.ok false,ρ1):=by unfold iV;subst hb;rw [h]
theorem r_orF{r:Option (vv×Rho)}(h:p ρ=some (.ok b,ρ1))(hb:b=false)(h2:q ρ1=r):sOr p q ρ=r:=by unfold sOr;subst hb;rw [h];exact h2
theorem vY(h:p ρ=some (.ok b,ρ1))(hb:b=true):sOr p q ρ=some (.ok true,ρ1):=by unfold sOr;subst hb;rw [h]
theorem r_c:sC d ρ=some (.ok d false,ρ):=rfl
theorem r_varF{j:Nat}(h:ρ[j]?=some (some (d,.fz))):bb j ρ=some (.ok d false,ρ):=by unfold bb;rw [h]
theorem vW{j:Nat}(h:ρ[j]?=some (some (d,.ow)))(hn:ρ.set j (some (d,.fz))=ρ1):bb j ρ=some (.ok d false,ρ1):=by subst hn;unfold bb;rw [h]
theorem r_retF{j:Nat}(h:ρ[j]?=some (some (d,.fz))):dI j ρ=some (.rt d false,ρ):=by unfold dI;rw [h]
theorem vX{j:Nat}(h:ρ[j]?=some (some (d,.ow)))(hn:ρ.set j none=ρ1):dI j ρ=some (.rt d true,ρ1):=by subst hn;unfold dI;rw [h]
theorem r_tup{fs:List SE}(h:evA (fs.map Arg.ex) ρ=some (.ok ds,ρ1)):b5 fs ρ=some (.ok (.tup ds) false,ρ1):=by unfold b5;rw [h]
theorem r_lst{fs:List SE}(h:evA (fs.map Arg.ex) ρ=some (.ok ds,ρ1)):eh fs ρ=some (.ok (.lst ds) true,ρ1):=by unfold eh;rw [h]
theorem r_seqI{l:List D}(h:f ρ=some (.ok d nw,ρ1))(h2:cu d=some l):dh f ρ=some (.ok l,ρ1):=by unfold dh;simp only [h,h2]
theorem r_enum{l:List D}(h:f ρ=some (.ok d nw,ρ1))(h2:cu d=some l):fb f ρ=some (.ok (gI 0 l),ρ1):=by unfold fb;simp only [h,h2]
theorem r_zip{fs:List SE}{l l':List D}(h:evA (fs.map Arg.ex) ρ=some (.ok ds,ρ1))(h2:vM ds=some (l,l'))(h3:l.length≤l'.length):j4 fs ρ=some (.ok (iF l l'),ρ1):=by unfold j4;simp only [h,h2,h3,decide_true,if_true]
theorem r_rng1{x:Arg}{j:Int}(h:evA [x] ρ=some (.ok [.int j],ρ1))(o:okR 0 j=true):b6 x ρ=some (.ok (gq 0 j.toNat),ρ1):=by
 unfold b6;rw [h];show (if okR 0 j=true then some (pd.ok (gq 0 j.toNat),ρ1) else none)=_;rw [if_pos o]
theorem r_rng2{x y:Arg}{j k:Int}(h:evA [x,y] ρ=some (.ok [.int j,.int k],ρ1))(o:okR j k=true):e9 x y ρ=some (.ok (gq j (k - j).toNat),ρ1):=by
 unfold e9;rw [h];show (if okR j k=true then some (pd.ok (gq j (k - j).toNat),ρ1) else none)=_;rw [if_pos o]
theorem r_comp{k:Nat}{it:SI}{T:Tg}{e:Option ST}{ys:List D}(h1:it ρ=some (.ok ds,ρ1))(h2:Tg.ge ρ1.length T=true)(h3:bW k T e f ds ρ1=some (ys,ρ2)):b8 k it T e f ρ=some (.ok (.lst ys) true,ρ2):=by
 unfold b8;rw [h1];show (if Tg.ge ρ1.length T=true then _ else none)=_;rw [if_pos h2,h3]
theorem r_call{as:List Arg}{run:FS}{x:D}(h:evA as ρ=some (.ok ds,ρ1))(h2:run ds=some (.ok d nw,x))(h3:(cx none 0 as ρ1||(g7 d nw&&((none:Option Nat).isNone||cD x)))=true):aw none none run as ρ=some (.ok d nw,ρ1):=by
 unfold aw;simp only [h,h2];rw [if_pos h3];rfl
theorem v4{k j:Nat}{as:List Arg}{run:FS}{x:D}(h:evA as ρ=some (.ok ds,ρ1))(h2:run ds=some (.ok d nw,x))(h3:(cx (some k) 0 as ρ1||(g7 d nw&&((some k).isNone||cD x)))=true)(h4:eJ (some j) x ρ1=some ρ2):aw (some k) (some j) run as ρ=some (.ok d nw,ρ2):=by
 unfold aw;simp only [h,h2];rw [if_pos h3,h4]
theorem yu{o o':List D→Option (D×Bool)}{f3:SE}{x y z:D}{b2:Bool}(h:evA [.ex f,.ex g] ρ=some (.ok [x,y],ρ1))(h1:o [x,y]=some (.bl b,false))(h2:f3 ρ1=some (.ok z nw,ρ1))(h3:o' [y,z]=some (.bl b2,false)):dS o o' f g f3 ρ=some (.ok (.bl (b&&b2)) false,ρ1):=by
 unfold dS;simp only [h,h1]
 cases b with
 | true=>simp only [h2,h3,Bool.true_and]
 | false=>rfl
theorem yw{r:Option (Res×Rho)}(h:f ρ=some (.ok (.bl b) nw,ρ1))(hb:b=true)(h2:g ρ1=r):cf f g ρ=r:=by unfold cf;subst hb;rw [h];exact h2
theorem yx(h:f ρ=some (.ok (.bl b) nw,ρ1))(hb:b=false):cf f g ρ=some (.ok (.bl false) false,ρ1):=by unfold cf;subst hb;rw [h]
theorem r_orVF{r:Option (Res×Rho)}(h:f ρ=some (.ok (.bl b) nw,ρ1))(hb:b=false)(h2:g ρ1=r):iU f g ρ=r:=by unfold iU;subst hb;rw [h];exact h2
theorem r_orV{b2:Bool}(h:f ρ=some (.ok (.bl b) nw,ρ1))(h2:g ρ1=some (.ok (.bl b2) false,ρ1)):iU f g ρ=some (.ok (.bl (b||b2)) false,ρ1):=by
 unfold iU;rw [h]
 cases b with
 | true=>rfl
 | false=>exact h2
theorem vZ(h:f ρ=some (.ok (.bl b) nw,ρ1)):fW f ρ=some (.ok (.bl (!b)) false,ρ1):=by unfold fW;rw [h]
section
variable{np n:Nat}{body:SS}{io:Option Nat}{x:D}
theorem r_fn(hi:ini n io ds=ρ)(h:body ρ=some (.rt d nw,ρ1))(hx:ioD io ρ1=some x)(hl:ds.length=np):aB np n io body ds=some (.ok d nw,x):=by subst hi;unfold aB;rw [if_pos hl,h];show (match ioD io ρ1 with | some x=>_ | none=>_)=_;rw [hx]
end
end
theorem gQ{α:Type}{k:Nat}{T:Tg}{f:SE}{ρ:Rho}{inj g:α→D}:∀ (xs:List α),(∀ x∈xs,∃ ρ1 ρ3 nw,bZ T (inj x) (ρ++List.replicate k none)=some ρ1∧f ρ1=some (.ok (g x) nw,ρ3)∧ρ3.take ρ.length=ρ)→bW k T none f (xs.map inj) ρ=some (xs.map g,ρ)
 | [],_=>rfl
 | x::xs,h=>by
  obtain ⟨ρ1,ρ3,nw,e1,e2,e3⟩:=h x List.mem_cons_self;rw [List.map_cons];unfold bW;simp only [e1,evC,e2,e3,gQ xs fun d hd=>h d (List.mem_cons_of_mem _ hd),List.map_cons]
theorem xk(bs:List Bool):jx [.lst (bs.map D.bl)]=some (.bl (bs.all id),false):=by unfold jx;simp only [vo]
theorem uO(ns:List Int)(h:ns.length≤1000):uP [.tup (ns.map D.int)]=some (.set (dd ns),false):=by unfold uP;simp only [dz,h,decide_true,if_true]
theorem dd_len(ns:List Int):(dd ns).length≤ns.length:=by
 unfold dd
 have:∀ (l acc:List Int),(l.foldl step_dedup acc).length≤acc.length+l.length:=by
  intro l
  induction l with
  | nil=>intro acc;simp
  | cons x l ih =>
   intro acc
   have h1:(step_dedup acc x).length≤acc.length+1:=by
    unfold step_dedup
    split<;>simp
   have:=ih (step_dedup acc x);rw [List.foldl_cons,List.length_cons];omega
 have:=this ns [];simpa using this
theorem xh(ns:List Int)(h:ns.length≤1000):cm [.set (dd ns)]=some (.int (dd ns).length,false):=by
 have:=dd_len ns;unfold cm;simp only [show (dd ns).length≤1000 by omega,decide_true,if_true]
theorem uQ(ns:List Int)(h:ns≠[]):fm [.tup (ns.map D.int)]=some (.int (i7 ns),false):=by
 unfold fm
 cases ns with
 | nil=>exact absurd rfl h
 | cons n ns=>simp only [dz]
theorem xJ{ns:List Int}{i:Int}(h0:0≤i)(h1:i < ns.length):atI (ns.map D.int) i=some (.int (ns.getD i.toNat 0)):=by
 obtain ⟨k,rfl⟩:∃ k:Nat,i=k:=⟨i.toNat,by omega⟩
 have hk:k < ns.length:=by omega
 refine jB ?_;rw [List.getElem?_map,List.getElem?_eq_getElem hk];simp [hk]
theorem gg{n:Nat}(h:n≤1000):small n=true:=by unfold small;exact decide_eq_true (by omega)
theorem wJ{lo hi:Int}(h1 : -1000000≤lo)(h2:lo≤1000000)(h3 : -1000000≤hi)(h4:hi≤1000000)(h5:hi - lo≤1000000):okR lo hi=true:=by
 unfold okR
 refine decide_eq_true ⟨?_,?_,?_,?_,?_⟩<;>omega
theorem el_mk{k:Nat}{T:Tg}{f:SE}{ρ ρ1 ρ3:Rho}{d y y':D}{nw:Bool}(h1:bZ T d (ρ++List.replicate k none)=some ρ1)(h2:f ρ1=some (.ok y' nw,ρ3))(h3:ρ3.take ρ.length=ρ)(hy:y'=y):∃ ρ1 ρ3 nw,bZ T d (ρ++List.replicate k none)=some ρ1∧f ρ1=some (.ok y nw,ρ3)∧ρ3.take ρ.length=ρ:=⟨ρ1,ρ3,nw,h1,by rw [← hy];exact h2,h3⟩
theorem lp_mk{T:Tg}{f:SS}{ρ ρ1 ρ2:Rho}{d:D}{I:Rho→Prop}(h1:bZ T d ρ=some ρ1)(h2:f ρ1=some (.nx,ρ2))(h3:I ρ2):∃ ρ1 ρ2,bZ T d ρ=some ρ1∧f ρ1=some (.nx,ρ2)∧I ρ2:=⟨ρ1,ρ2,h1,h2,h3⟩
end L2
namespace L2
open PySem PySem.Spec PyProof.Rows
theorem Fun.okX{P:Program}{w:World}{K:PySem.W.Frag}{mg:Str→Option Value}{base:Heap}{x:Str}{st:Stmt}{N ps:List Str}{k:Nat}{sp:Sp}{f:Addr}{fd:FuncData}(F:Fun K x x st f fd)(S:aq N ps (ae st))(len:∀ vs H Q E,sp vs H Q E→vs.length=ps.length)
 (hbody:∀ (f:Addr) (cdv:Value) (A:Around) (outer:List Env) (s:Shared) (H:Hp) (vs:List V) (Q:VK) (E:XK),dW k (A.deeper (envOfC x (ae st) s.heap.objs.size f cdv))→sp vs H Q E →
   ∃ t,PSs (bO (CXr P w) P w K mg base N x (ae st) f cdv A outer s H E) (ci st) t∧t { nx:=fun _ H'=>Q .non H',rt:=Q } (cK N vs) H):kc P w K mg base (CXr P w) (k+1) f fd ps sp:=by
 obtain ⟨oc,od,kV,doc,pm,an,cdv,ct,osl,rfl,lk,hcd⟩:=F.ex
 exact xl lk hcd S len fun A outer s H vs Q E hr hsp=>hbody f cdv A outer s H vs Q E hr hsp
theorem fn_okF{f0:Addr}{fd0:FuncData}{P:Program}{w:World}{K:PySem.W.Frag}{mg:Str→Option Value}{base:Heap}{x:Str}{st:Stmt}{N ps:List Str}{k:Nat}{io:Option Nat}{body:SS}(h:Fun K x x st f0 fd0)(S:aq N ps (ae st))
 (hb:∀ (f:Addr) (cdv:Value) (A:Around) (outer:List Env) (s:Shared) (H:Hp) (E:XK),dW k (A.deeper (envOfC x (ae st) s.heap.objs.size f cdv)) →
   JSs (bO (CXr P w) P w K mg base N x (ae st) f cdv A outer s H E) (EXf K E) (ci st) body) (hps:ps.length≤N.length:=by decide):kc P w K mg base (CXr P w) (k+1) f0 fd0 ps (spF K io (aB ps.length N.length io body)):=by
 have run_len:∀ {ds:List D} {r:Res×D},aB ps.length N.length io body ds=some r→ds.length=ps.length:=fun {ds r} e=>by
  unfold aB at e
  split at e
  ·assumption
  ·cases e
 refine Fun.okX h S (fun vs H Q E hs=> ?_) (fun f cdv A outer s H vs Q E hr hs=> ?_)
 ·obtain ⟨Z,W,ds,h1,_,_,_,_,_,hm⟩:=hs
  cases e:aB ps.length N.length io body ds with
  | none=>rw [e] at hm;exact hm.elim
  | some r=>rw [h1];exact run_len e
 ·obtain ⟨Z,W,ds,h1,hwz,hmt,hfz,hio,hno,hm⟩:=hs
  refine ⟨_,(hb f cdv A outer s H E hr).p,?_⟩
  have hlen:ds.length=ps.length:=by
   cases e:aB ps.length N.length io body ds with
   | none=>rw [e] at hm;exact hm.elim
   | some r=>exact run_len e
  let F:Fx:=⟨Z,fun j=>if io=some j then W.head? else none⟩
  have st_get:∀ {j:Nat} {v:V},vs[j]?=some v→(cK N vs)[j]?=some (some v):=fun {j v} e=>by
   unfold cK;rw [List.getElem?_append_left (by rw [List.length_map];exact (List.getElem?_eq_some_iff.mp e).1),List.getElem?_map,e];rfl
  have R0:Rel K F (cK N vs) H (ini N.length io ds) W:=by
   refine ⟨fun i d m hi=> ?_,fun i j d e m n p g1 g2 g3 g4 _ _=> ?_,hwz,hmt,?_⟩
   ·obtain ⟨hd,rfl⟩:=gS hi
    have hv:i < vs.length:=by rw [h1];exact (List.getElem?_eq_some_iff.mp hd).1
    refine ⟨vs[i],st_get (List.getElem?_eq_getElem hv),?_⟩
    by_cases e:io=some i
    ·rw [if_pos e]
     obtain ⟨p,d',q1,q2,q3,q4⟩:=hio i e;rw [List.getElem?_eq_getElem hv] at q1;rw [hd] at q2;cases q2;refine ⟨p,Option.some.inj q1,by rw [q3];exact List.mem_cons_self,q4,?_⟩
     show (if io=some i then W.head? else none)=some p
     rw [if_pos e,q3];rfl
    ·rw [if_neg e]
     exact hfz i d _ e hd (List.getElem?_eq_getElem hv)
   ·obtain ⟨_,e1⟩:=gS g1
    obtain ⟨_,e2⟩:=gS g3
    by_cases z1:io=some i
    ·by_cases z2:io=some j
     ·rw [z1] at z2;exact Option.some.inj z2
     ·rw [if_neg z2] at e2;exact absurd e2 g4
    ·rw [if_neg z1] at e1;exact absurd e1 g2
   ·unfold cK ini
    rw [List.length_append,List.length_append,List.length_map,List.length_replicate,List.length_replicate,gE,h1]
  refine ⟨F,_,W,R0,?_⟩
  have ioR:∀ {σ':St} {H':Hp} {ρ':Rho} {W':List Addr} {x:D} {p:Addr},Rel K F σ' H' ρ' W'→ioD io ρ'=some x→W=[p]→p∈W'∧aT K H' (hid (W'++Z) H') p x:=fun {σ' H' ρ' W' x p} R e hW=>by
   cases hk:io with
   | none=>rw [hno hk] at hW;cases hW
   | some k =>
    unfold ioD at e;rw [hk] at e;dsimp only at e
    split at e
    ·rename_i d0 e0
     cases e;obtain ⟨v,g1,q,g2,g3,g4,g5⟩:=R.slot k _ _ e0;have g5:(if io=some k then W.head? else none)=some q:=g5;rw [if_pos hk,hW] at g5;have:p=q:=Option.some.inj g5;subst this;exact ⟨g3,g4⟩
    ·cases e
  have wsub:∀ {σ':St} {H':Hp} {ρ':Rho} {W':List Addr} {x:D},Rel K F σ' H' ρ' W'→ioD io ρ'=some x→∀ b,b∈W++Z→b∈W'++Z:=fun {σ' H' ρ' W' x} R e b hb=>by
   rcases List.mem_append.mp hb with z | z
   ·cases hk:io with
    | none=>rw [hno hk] at z;cases z
    | some k =>
     obtain ⟨p,d,_,_,q3,_⟩:=hio k hk;rw [q3] at z;rw [List.mem_singleton.mp z];exact List.mem_append_left _ (ioR R e q3).1
   ·exact List.mem_append_right _ z
  have toW:∀ {σ':St} {H' H2:Hp} {ρ':Rho} {W':List Addr} {x:D},Rel K F σ' H2 ρ' W'→ioD io ρ'=some x→aj (hid (W'++Z) H') (hid (W++Z) H'):=fun R e=>aY (fun b hb=> .inl (wsub R e b hb)) fun b o _ z=>z
  revert hm
  unfold aB;rw [if_pos hlen]
  cases body (ini N.length io ds) with
  | none=>exact fun h=>h.elim
  | some r =>
   obtain ⟨r,ρ'⟩:=r
   cases r with
   | bk=>exact fun h=>h.elim
   | ct=>exact fun h=>h.elim
   | nx =>
    dsimp only
    cases e:ioD io ρ' with
    | none=>exact fun h=>h.elim
    | some x =>
     intro hm σ' H' W' fr sub R
     exact hm .non H' fr rfl fun p hp=>(ioR R e hp).2.at rfl (toW R e)
   | ex C =>
    dsimp only
    cases e:ioD io ρ' with
    | none=>exact fun h=>h.elim
    | some x =>
     intro hm σ' H' W' fr sub R
     exact hm H' fr fun p hp=>(ioR R e hp).2.at rfl (toW R e)
   | rt d nw =>
    dsimp only
    cases e:ioD io ρ' with
    | none=>exact fun h=>h.elim
    | some x =>
     cases nw with
     | false =>
      intro hm σ' v H' W' fr sub P
      exact hm v H' fr ((toW P.2 e).repD P.1) fun p hp=>(ioR P.2 e hp).2.at rfl (toW P.2 e)
     | true =>
      intro hm σ' v H' W' fr sub P;obtain ⟨q,rfl,hq,hn,hO,R⟩:=P
      have hq0:H q=none:=by
       rcases hq with z | z
       ·cases hk:io with
        | none=>rw [hno hk] at z;cases z
        | some k =>
         obtain ⟨p,d',_,_,q3,_⟩:=hio k hk;rw [q3] at z;have:q=p:=List.mem_singleton.mp z;subst this;exact absurd (List.mem_append_left _ (ioR R e q3).1) hn
       ·exact z
      have cs:aj (hid (q::(W'++Z)) H') (hid (q::(W++Z)) H'):=aY (fun b hb=> .inl (by
       rcases List.mem_cons.mp hb with z | z
       ·rw [z];exact List.mem_cons_self
       ·exact List.mem_cons_of_mem _ (wsub R e b z))) fun b o _ z=>z
      refine hm q H' fr hq0 (hO.at rfl cs) fun p hp=> ?_
      obtain ⟨m1,m2⟩:=ioR R e hp
      have pq:p≠q:=fun z=>by subst z;exact hn (List.mem_append_left _ m1)
      refine m2.at (aQ (by simpa using pq)).symm fun b o z=> ?_
      obtain ⟨z1,z2⟩:=ay z;obtain ⟨z3,z4⟩:=ay z2
      rw [aQ (fun y=>by
       rcases List.mem_cons.mp y with y | y
       ·exact z3 (by simpa using y)
       ·exact z1 (wsub R e b y))]
      exact z4
end L2
namespace Srt
open PySem PySem.W PyProof.Rows
def Tru{α:Type}(lt:Nat→Nat→Bool)(P:α→Prop):KasT α→Prop
 | .ret a=>P a
 | .ask i j k=>Tru lt P (k (lt i j))
theorem Tru.bind{α β:Type}{lt:Nat→Nat→Bool}{P:β→Prop}{f:α→KasT β}:∀ {t:KasT α},Tru lt (fun a=>Tru lt P (f a)) t→Tru lt P (t.bind f)
 | .ret _,h=>h
 | .ask i j k,h=>Tru.bind (t:=k (lt i j)) h
theorem Tru.mono{α:Type}{lt:Nat→Nat→Bool}{P P':α→Prop}(hp:∀ a,P a→P' a):∀ {t:KasT α},Tru lt P t→Tru lt P' t
 | .ret a,h=>hp a h
 | .ask i j k,h=>Tru.mono hp (t:=k (lt i j)) h
theorem both{α:Type}{n:Nat}{lt:Nat→Nat→Bool}{P P':α→Prop}{cmp:Nat→Nat→(Bool→Shared→Prop)→Shared→Prop}{Q:α→Shared→Prop}{s:Shared}
 (hc:∀ i j C,i < n→j < n→C (lt i j) s→cmp i j C s) (hq:∀ a,P a→P' a→Q a s):∀ {t:KasT α},All n P t→Tru lt P' t→t.kasWp cmp Q s
 | .ret a,h,g=>hq a h g
 | .ask i j k,⟨h1,h2,h3⟩,g=>hc i j _ h1 h2 (both hc hq (h3 _) g)
structure Ord(lt:Nat→Nat→Bool):Prop where
 asym:∀ a b,lt a b=true→lt b a=false
 trans:∀ a b c,lt b a=false→lt c b=false→lt c a=false
section
variable{lt:Nat→Nat→Bool}(O:Ord lt)
theorem Ord.refl(O:Ord lt)(a:Nat):lt a a=false:=by
 cases h:lt a a with
 | false=>rfl
 | true=>exact absurd (O.asym a a h) (by rw [h];decide)
abbrev Le(lt:Nat→Nat→Bool)(a b:Nat):Prop:=lt b a=false
abbrev at_(p:Array Nat)(i:Nat):Nat:=p.getD i 0
def Asc(lt:Nat→Nat→Bool)(p:Array Nat)(m:Nat):Prop:=∀ i j,i≤j→j < m→Le lt (at_ p i) (at_ p j)
def Des(lt:Nat→Nat→Bool)(p:Array Nat)(m:Nat):Prop:=∀ i j,i≤j→j < m→Le lt (at_ p j) (at_ p i)
def Eqv(lt:Nat→Nat→Bool)(p:Array Nat)(a b:Nat):Prop:=∀ i j,a≤i→i < b→a≤j→j < b→Le lt (at_ p i) (at_ p j)
theorem o9{p:Array Nat}{i j:Nat}(hj:j≤p.size)(k:Nat):at_ (kas_rev p i j) k=if i≤k∧k < j then at_ p (i+j - 1 - k) else at_ p k:=by
 have h:=getElem?_mirror_all (xs:=p) (i:=i) hj k
 show (kas_rev p i j).getD k 0=_
 unfold kas_rev at_;rw [Array.getD_eq_getD_getElem?,h]
 split<;>rw [Array.getD_eq_getD_getElem?]
theorem at_bub{p:Array Nat}{k l:Nat}(hk:k < p.size)(hl:l≤k)(t:Nat):at_ (bubble p k (k - l)) t=if t=l then at_ p k else if l < t∧t≤k then at_ p (t - 1) else at_ p t:=by
 have h:=getElem?_bubble (xs:=p) hk (k - l) (by omega) t;rw [show k - (k - l)=l by omega] at h
 show (bubble p k (k - l)).getD t 0=_
 rw [Array.getD_eq_getD_getElem?,h]
 by_cases h1:t=l
 ·rw [if_pos h1,if_pos h1,← Array.getD_eq_getD_getElem?]
 ·rw [if_neg h1,if_neg h1]
  by_cases h2:l < t∧t≤k
  ·rw [if_pos h2,if_pos h2,← Array.getD_eq_getD_getElem?]
  ·rw [if_neg h2,if_neg h2,← Array.getD_eq_getD_getElem?]
include O
theorem Asc.snoc{p:Array Nat}{n:Nat}(h:Asc lt p n)(h1:1≤n)(hn:Le lt (at_ p (n - 1)) (at_ p n)):Asc lt p (n+1):=fun i j hij hj=>by
 by_cases e:j=n
 ·subst e
  by_cases e2:i=j
  ·subst e2;exact O.refl _
  ·exact O.trans _ _ _ (h i (j - 1) (by omega) (by omega)) hn
 ·exact h i j hij (by omega)
theorem Des.snoc{p:Array Nat}{n:Nat}(h:Des lt p n)(h1:1≤n)(hn:Le lt (at_ p n) (at_ p (n - 1))):Des lt p (n+1):=fun i j hij hj=>by
 by_cases e:j=n
 ·subst e
  by_cases e2:i=j
  ·subst e2;exact O.refl _
  ·exact O.trans _ _ _ hn (h i (j - 1) (by omega) (by omega))
 ·exact h i j hij (by omega)
theorem sL{p:Array Nat}:∀ f n,1≤n→Asc lt p n→Tru lt (fun m=>n≤m∧m≤n+f∧Asc lt p m∧(m=n+f∨lt (at_ p m) (at_ p (m - 1))=true)) (kas_asc p f n)
 | 0,n,h1,h=>⟨Nat.le_refl _,Nat.le_refl _,h,.inl rfl⟩
 | f+1,n,h1,h=>by
  show Tru lt _ (if lt (at_ p n) (at_ p (n - 1))=true then KasT.ret n else kas_asc p f (n+1))
  by_cases c:lt (at_ p n) (at_ p (n - 1))=true
  ·rw [if_pos c]
   exact ⟨Nat.le_refl _,by omega,h,.inr c⟩
  ·rw [if_neg c]
   exact (sL f (n+1) (by omega) (h.snoc O h1 (by simpa using c))).mono fun m ⟨a,b,c,d⟩=>⟨by omega,by omega,c,d.imp (fun z=>by omega) id⟩
theorem kn:∀ f (p:Array Nat) n q,1≤n→q+1≤n→n+f≤p.size→Des lt p n→Eqv lt p (n - (q+1)) n →
 Tru lt (fun r=>n≤r.2.1∧r.2.1≤n+f∧r.2.2+1≤r.2.1∧r.1.size=p.size∧Des lt r.1 r.2.1∧Eqv lt r.1 (r.2.1 - (r.2.2+1)) r.2.1) (kas_desc f p n q)
 | 0,p,n,q,h1,hq,hs,hd,he=>⟨Nat.le_refl _,Nat.le_refl _,hq,rfl,hd,he⟩
 | f+1,p,n,q,h1,hq,hs,hd,he=>by
  have one:∀ (p':Array Nat),Eqv lt p' (n+1 - (0+1)) (n+1):=fun p' i j a b c d=>by
   have:i=j:=by omega
   subst this;exact O.refl _
  show Tru lt _ (if lt (at_ p n) (at_ p (n - 1))=true then (if q > 0 then kas_desc f (kas_rev p (n - (q+1)) n) (n+1) 0 else kas_desc f p (n+1) 0)
   else KasT.ask (at_ p (n - 1)) (at_ p n) fun d=>if d=true then .ret (p,n,q) else kas_desc f p (n+1) (q+1))
  by_cases c:lt (at_ p n) (at_ p (n - 1))=true
  ·rw [if_pos c]
   have hle:Le lt (at_ p n) (at_ p (n - 1)):=O.asym _ _ c
   by_cases q0:q > 0
   ·rw [if_pos q0]
    have hn:n≤p.size:=by omega
    have sz:(kas_rev p (n - (q+1)) n).size=p.size:=mirror_size _ _ _ _;have R:=o9 (p:=p) (i:=n - (q+1)) hn
    have D:Des lt (kas_rev p (n - (q+1)) n) (n+1):=fun i j hij hj=>by
     rw [R i,R j]
     by_cases ej:j=n
     ·subst ej
      rw [if_neg (by omega:¬ (j - (q+1)≤j∧j < j))]
      split
      ·exact O.trans _ _ _ hle (hd _ (j - 1) (by omega) (by omega))
      ·by_cases ei:i=j
       ·subst ei;exact O.refl _
       ·exact O.trans _ _ _ hle (hd _ (j - 1) (by omega) (by omega))
     ·by_cases si:n - (q+1)≤i∧i < n
      ·rw [if_pos si,if_pos (by omega:n - (q+1)≤j∧j < n)]
       exact he _ _ (by omega) (by omega) (by omega) (by omega)
      ·rw [if_neg si]
       split
       ·exact hd _ _ (by omega) (by omega)
       ·exact hd _ _ hij (by omega)
    exact (kn f _ (n+1) 0 (by omega) (by omega) (by rw [sz];omega) D (one _)).mono fun r ⟨a,b,c,d,e,g⟩=>⟨by omega,by omega,c,d.trans sz,e,g⟩
   ·rw [if_neg q0]
    exact (kn f p (n+1) 0 (by omega) (by omega) (by omega) (hd.snoc O h1 hle) (one _)).mono fun r ⟨a,b,c,d,e,g⟩=>⟨by omega,by omega,c,d,e,g⟩
  ·rw [if_neg c]
   have c:lt (at_ p n) (at_ p (n - 1))=false:=by simpa using c
   show Tru lt _ (if lt (at_ p (n - 1)) (at_ p n)=true then KasT.ret (p,n,q) else kas_desc f p (n+1) (q+1))
   by_cases d:lt (at_ p (n - 1)) (at_ p n)=true
   ·rw [if_pos d]
    exact ⟨Nat.le_refl _,Nat.le_add_right _ _,hq,rfl,hd,he⟩
   ·rw [if_neg d]
    have d:lt (at_ p (n - 1)) (at_ p n)=false:=by simpa using d
    have E:Eqv lt p (n+1 - (q+1+1)) (n+1):=fun i j a b a2 b2=>by
     by_cases ei:i=n
     ·by_cases ej:j=n
      ·rw [ei,ej];exact O.refl _
      ·rw [ei]
       exact O.trans _ _ _ d (he (n - 1) j (by omega) (by omega) (by omega) (by omega))
     ·by_cases ej:j=n
      ·rw [ej]
       exact O.trans _ _ _ (he i (n - 1) (by omega) (by omega) (by omega) (by omega)) c
      ·exact he i j (by omega) (by omega) (by omega) (by omega)
    exact (kn f p (n+1) (q+1) (by omega) (by omega) (by omega) (hd.snoc O h1 d) E).mono fun r ⟨a,b,c,d,e,g⟩=>⟨by omega,by omega,c,d,e,g⟩
theorem pE{p:Array Nat}{n N:Nat}(h1:1≤n)(hn:n≤N)(hs:p.size=N)(hd:Des lt p n):Tru lt (fun r:Nat×Array Nat=>1≤r.1∧r.1≤N∧r.2.size=N∧Asc lt r.2 r.1) (kas_tail3 n N p):=by
 unfold kas_tail3;have sz:(kas_rev p 0 n).size=p.size:=mirror_size _ _ _ _;have R:=o9 (p:=p) (i:=0) (j:=n) (by omega)
 have A:Asc lt (kas_rev p 0 n) n:=fun i j hij hj=>by
  rw [R i,R j,if_pos (by omega),if_pos (by omega)];exact hd _ _ (by omega) (by omega)
 exact ((sL O (N - n) n h1 A).mono fun m ⟨a,b,c,_⟩=>(show 1≤m∧m≤N∧(kas_rev p 0 n).size=N∧Asc lt (kas_rev p 0 n) m from ⟨by omega,by omega,sz.trans hs,c⟩)).bind
theorem jS{p:Array Nat}{n N:Nat}(h1:1≤n)(hn:n+1≤N)(hs:p.size=N)(hd:Des lt p (n+1)):Tru lt (fun r:Nat×Array Nat=>1≤r.1∧r.1≤N∧r.2.size=N∧Asc lt r.2 r.1) (kas_descPart n N p):=by
 unfold kas_descPart
 refine ((kn O (N - (n+1)) p (n+1) 0 (by omega) (by omega) (by omega) hd (fun i j a b c d=>by
  have:i=j:=by omega
  subst this
  exact O.refl _)).mono fun r ⟨a,b,c,d,e,g⟩=> ?_).bind
 by_cases q:r.2.2 > 0
 ·rw [if_pos q]
  have hz:r.2.1≤r.1.size:=by omega
  have R:=o9 (p:=r.1) (i:=r.2.1 - (r.2.2+1)) (j:=r.2.1) hz
  refine pE O (by omega) (by omega) ((mirror_size _ _ _ _).trans (d.trans hs)) fun i j hij hj=> ?_
  rw [R i,R j]
  by_cases si:r.2.1 - (r.2.2+1)≤i∧i < r.2.1
  ·rw [if_pos si,if_pos (by omega)]
   exact g _ _ (by omega) (by omega) (by omega) (by omega)
  ·rw [if_neg si]
   split
   ·exact e _ _ (by omega) (by omega)
   ·exact e _ _ hij hj
 ·rw [if_neg q]
  exact pE O (by omega) (by omega) (d.trans hs) e
theorem xz{p:Array Nat}{N:Nat}(hN:1≤N)(hs:p.size=N):Tru lt (fun r:Nat×Array Nat=>1≤r.1∧r.1≤N∧r.2.size=N∧Asc lt r.2 r.1) (kas_count N p):=by
 unfold kas_count
 refine ((sL O (p:=p) (N - 1) 1 (Nat.le_refl _) (fun i j a b=>by
  have:i=j:=by omega
  subst this
  exact O.refl _)).mono fun n ⟨a,b,c,d⟩=> ?_).bind
 by_cases e:(n == N)=true
 ·rw [if_pos e]
  exact ⟨a,by omega,hs,c⟩
 ·rw [if_neg e]
  have ne:n≠N:=by simpa using e
  have hl:lt (at_ p n) (at_ p (n - 1))=true:=d.resolve_left (by omega)
  by_cases n1:n > 1
  ·rw [if_pos n1]
   show Tru lt _ (if lt (at_ p 0) (at_ p (n - 1))=true then _ else _)
   by_cases z:lt (at_ p 0) (at_ p (n - 1))=true
   ·rw [if_pos z]
    exact ⟨a,by omega,hs,c⟩
   ·rw [if_neg z]
    have z:lt (at_ p 0) (at_ p (n - 1))=false:=by simpa using z
    have R:=o9 (p:=p) (i:=0) (j:=n) (by omega)
    have ev:∀ i j,i < n→j < n→Le lt (at_ p i) (at_ p j):=fun i j hi hj =>
     O.trans _ _ _ (c i (n - 1) (by omega) (by omega)) (O.trans _ _ _ z (c 0 j (by omega) hj))
    refine jS O (by omega) (by omega) ((mirror_size _ _ _ _).trans hs) fun i j hij hj=> ?_
    rw [R i,R j]
    by_cases ej:j=n
    ·subst ej
     rw [if_neg (by omega:¬ (0≤j∧j < j))]
     split
     ·exact O.trans _ _ _ (O.asym _ _ hl) (ev _ _ (by omega) (by omega))
     ·have:i=j:=by omega
      subst this;exact O.refl _
    ·rw [if_pos (by omega:0≤i∧i < n),if_pos (by omega:0≤j∧j < n)]
     exact ev _ _ (by omega) (by omega)
  ·rw [if_neg n1]
   have:n=1:=by omega
   subst this
   refine jS O (by omega) (by omega) hs fun i j hij hj=> ?_
   by_cases e:i=j
   ·subst e;exact O.refl _
   ·have hi:i=0:=by omega
    have hj:j=1:=by omega
    subst hi hj;exact O.asym _ _ hl
theorem kZ{p:Array Nat}{k:Nat}(h:Asc lt p k):∀ f l r,l≤r→r≤k→r≤l+f→(∀ i,i < l→Le lt (at_ p i) (at_ p k))→(∀ i,r≤i→i < k→Le lt (at_ p k) (at_ p i)) →
 Tru lt (fun m=>m≤k∧(∀ i,i < m→Le lt (at_ p i) (at_ p k))∧∀ i,m≤i→i < k→Le lt (at_ p k) (at_ p i)) (kas_place p k f l r)
 | 0,l,r,h1,h2,h3,h4,h5=>⟨by omega,h4,fun i a b=>h5 i (by omega) b⟩
 | f+1,l,r,h1,h2,h3,h4,h5=>by
  unfold kas_place
  by_cases g:l≥r
  ·rw [if_pos g]
   exact ⟨by omega,h4,fun i a b=>h5 i (by omega) b⟩
  ·rw [if_neg g]
   show Tru lt _ (if lt (at_ p k) (at_ p ((l+r) / 2))=true then _ else _)
   by_cases c:lt (at_ p k) (at_ p ((l+r) / 2))=true
   ·rw [if_pos c]
    exact kZ h f l ((l+r) / 2) (by omega) (by omega) (by omega) h4 fun i a b=>O.trans _ _ _ (O.asym _ _ c) (h _ i a b)
   ·rw [if_neg c]
    have c:lt (at_ p k) (at_ p ((l+r) / 2))=false:=by simpa using c
    exact kZ h f ((l+r) / 2+1) r (by omega) h2 (by omega) (fun i a=>O.trans _ _ _ (h i _ (by omega) (by omega)) c) h5
theorem xI{N:Nat}:∀ f (p:Array Nat) k,1≤k→k+f=N→p.size=N→Asc lt p k→Tru lt (fun r:Array Nat=>r.size=N∧Asc lt r N) (kas_bin f p k)
 | 0,p,k,h1,h2,hs,h=>⟨hs,by rw [← h2];exact h⟩
 | f+1,p,k,h1,h2,hs,h=>by
  unfold kas_bin;refine ((kZ O h k 0 k (by omega) (Nat.le_refl _) (by omega) (fun i z=>by omega) (fun i a b=>by omega)).mono fun l ⟨a,b,c⟩=> ?_).bind;have B:=at_bub (p:=p) (k:=k) (l:=l) (by omega) a
  refine xI f _ (k+1) (by omega) (by omega) ((bubble_size _ _ _).trans hs) fun i j hij hj=> ?_
  rw [B i,B j]
  by_cases ei:i=l
  ·rw [if_pos ei]
   by_cases ej:j=l
   ·rw [if_pos ej];exact O.refl _
   ·rw [if_neg ej,if_pos (by omega)]
    exact c _ (by omega) (by omega)
  ·rw [if_neg ei]
   by_cases ej:j=l
   ·rw [if_pos ej,if_neg (by omega)]
    exact b i (by omega)
   ·rw [if_neg ej]
    split
    ·rw [if_pos (by omega)]
     exact h _ _ (by omega) (by omega)
    ·split
     ·exact h _ _ (by omega) (by omega)
     ·exact h _ _ hij (by omega)
theorem ya{n:Nat}(h:1≤n):Tru lt (fun r:Array Nat=>r.size=n∧Asc lt r n) (kas_sort n):=by
 unfold kas_sort;refine ((xz O h (by simp)).mono fun r ⟨a,b,c,d⟩=> ?_).bind
 by_cases e:r.1 < n
 ·rw [if_pos e,show max r.1 1=r.1 by omega]
  exact xI O _ _ _ a (by omega) c d
 ·rw [if_neg e]
  have:r.1=n:=by omega
  exact ⟨c,by rw [← this];exact d⟩
end
end Srt
namespace Srt
open PySem PySem.W PyProof.Rows
def dJ:List Int→List Int→Bool
 | [],[]=>false
 | [],_::_=>true
 | _::_,[]=>false
 | a::as,b::bs=>if a=b then dJ as bs else decide (a < b)
theorem ir:∀ a b:List Int,dJ a b=true→dJ b a=false
 | [],[],h=>by cases h
 | [],_::_,_=>rfl
 | _::_,[],h=>by cases h
 | a::as,b::bs,h=>by
  unfold dJ at h ⊢
  by_cases e:a=b
  ·rw [if_pos e] at h
   rw [if_pos e.symm];exact ir as bs h
  ·rw [if_neg e] at h
   rw [if_neg (Ne.symm e)];have:=of_decide_eq_true h;exact decide_eq_false (by omega)
theorem lq:∀ a b:List Int,dJ a b=false→dJ b a=false→a=b
 | [],[],_,_=>rfl
 | [],_::_,h,_=>by cases h
 | _::_,[],_,h=>by cases h
 | a::as,b::bs,h,g=>by
  unfold dJ at h g
  by_cases e:a=b
  ·rw [if_pos e] at h
   rw [if_pos e.symm] at g;rw [e,lq as bs h g]
  ·rw [if_neg e] at h
   rw [if_neg (Ne.symm e)] at g;have h:=of_decide_eq_false h;have g:=of_decide_eq_false g;omega
theorem gC:∀ a b c:List Int,dJ b a=false→dJ c b=false→dJ c a=false
 | [],_,[],_,_=>rfl
 | [],[],_::_,_,_=>rfl
 | [],_::_,_::_,_,_=>rfl
 | _::_,[],_,h,_=>by cases h
 | _::_,_::_,[],_,h=>by cases h
 | a::as,b::bs,c::cs,h,g=>by
  unfold dJ at h g ⊢
  by_cases e1:b=a
  ·rw [if_pos e1] at h
   by_cases e2:c=b
   ·rw [if_pos e2] at g
    rw [if_pos (e2.trans e1)];exact gC as bs cs h g
   ·rw [if_neg e2] at g
    have g:=of_decide_eq_false g;rw [if_neg (fun z=>e2 (z.trans e1.symm))];exact decide_eq_false (by omega)
  ·rw [if_neg e1] at h
   have h:=of_decide_eq_false h
   by_cases e2:c=b
   ·rw [if_neg (fun z=>e1 (e2.symm.trans z))]
    exact decide_eq_false (by omega)
   ·rw [if_neg e2] at g
    have g:=of_decide_eq_false g;rw [if_neg (by omega)];exact decide_eq_false (by omega)
def uI(x:List Int):List (List Int)→List (List Int)
 | []=>[x]
 | y::l=>if dJ y x=true then y::uI x l else x::y::l
def gB:List (List Int)→List (List Int)
 | []=>[]
 | x::l=>uI x (gB l)
theorem js(x:List Int):∀ l,(uI x l).Perm (x::l)
 | []=> .refl _
 | y::l=>by
  unfold uI
  split
  ·exact ((js x l).cons y).trans (.swap _ _ _)
  ·exact .refl _
theorem ck:∀ l,(gB l).Perm l
 | []=> .refl _
 | x::l=>(js x _).trans ((ck l).cons x)
abbrev LeL(a b:List Int):Prop:=dJ b a=false
theorem jP(x:List Int):∀ l:List (List Int),l.Pairwise LeL→(uI x l).Pairwise LeL
 | [],_=>List.pairwise_singleton _ _
 | y::l,h=>by
  have hc:=List.pairwise_cons.mp h;unfold uI
  split
  ·rename_i hl
   refine List.pairwise_cons.mpr ⟨fun z hz=> ?_,jP x l hc.2⟩
   rcases List.mem_cons.mp ((js x l).mem_iff.mp hz) with rfl | hz
   ·exact ir _ _ hl
   ·exact hc.1 z hz
  ·rename_i hl
   have hl:dJ y x=false:=by simpa using hl
   refine List.pairwise_cons.mpr ⟨fun z hz=> ?_,h⟩
   rcases List.mem_cons.mp hz with rfl | hz
   ·exact hl
   ·exact gC _ _ _ hl (hc.1 z hz)
theorem cU:∀ l,(gB l).Pairwise LeL
 | []=> .nil
 | x::l=>jP x _ (cU l)
theorem bL:∀ {a b:List (List Int)},a.Pairwise LeL→b.Pairwise LeL→a.Perm b→a=b
 | [],b,_,_,p=>by rw [p.nil_eq]
 | x::a,[],_,_,p=>absurd p.symm.nil_eq (by simp)
 | x::a,y::b,ha,hb,p=>by
  have ha':=List.pairwise_cons.mp ha;have hb':=List.pairwise_cons.mp hb
  have exy:x=y:=by
   have hx:x∈y::b:=p.mem_iff.mp List.mem_cons_self;have hy:y∈x::a:=p.mem_iff.mpr List.mem_cons_self
   rcases List.mem_cons.mp hx with e | hx
   ·exact e
   ·rcases List.mem_cons.mp hy with e | hy
    ·exact e.symm
    ·exact lq _ _ (hb'.1 x hx) (ha'.1 y hy)
  subst exy;rw [bL ha'.2 hb'.2 (List.Perm.cons_inv p)]
theorem lexE{prog:Program}{w:World}{A:Around}{fin:Bool}{C:Bool→Shared→Prop}{s:Shared}:∀ {vs ws:List Value} {ns ms:List Int} (i:Nat),IntsAre vs ns→IntsAre ws ms→fin=decide (ns.length < ms.length)→C (dJ ns ms) s→KatLex prog w A true fin C (vs.zip ws) i s
 | [],[],_,_,i,.nil,.nil,hf,hC=>kat_nil (by subst hf;exact hC)
 | [],_::_,_,_,i,.nil,.cons _ _ _,hf,hC=>kat_nil (by subst hf;rw [decide_eq_true (by simp)];exact hC)
 | _::_,[],_,_,i,.cons _ _ _,.nil,hf,hC=>kat_nil (by subst hf;rw [decide_eq_false (by simp)];exact hC)
 | _::vs,_::ws,_::ns,_::ms,i,.cons a t h1,.cons c u h2,hf,hC=>by
  rw [List.zip_cons_cons];refine kat_cons ?_;obtain ⟨e,he,h3⟩:=HT.xr A s a t c u;refine he prog w _ _ ?_;unfold dJ at hC
  cases e with
  | true =>
   rw [if_pos (h3.mp rfl)] at hC;exact kat_yes (lexE (i+1) h1 h2 (by rw [hf];simp) hC)
  | false =>
   rw [if_neg (fun z=>by cases h3.mpr z)] at hC;refine kat_no ?_
   cases i with
   | zero=>exact oneLt_int hC
   | succ i=>exact kat_one _ _ (lt_int hC)
section
variable{prog:Program}{w:World}{A:Around}{E:Value→Shared→Prop}{s:Shared}
def g9(h:Heap)(vs:List Value)(ks:List (List Int)):Prop:=vs.length=ks.length∧∀ (i:Nat) (hi:i < vs.length),∃ a items,vs[i] = .ref a∧IsTup h a items∧IntsAre items.toList (ks.getD i [])∧ks.getD i []≠[]
theorem g9.tups{h:Heap}{vs:List Value}{ks:List (List Int)}(t:g9 h vs ks):Tups h vs:=fun v hv=>by
 obtain ⟨i,hi,rfl⟩:=List.mem_iff_getElem.mp hv;obtain ⟨a,items,h1,h2,h3,h4⟩:=t.2 i hi;exact ⟨a,items,_,h1,h2,h3,h4⟩
theorem g9.keep{h h':Heap}{vs:List Value}{ks:List (List Int)}(t:g9 h vs ks)(k:∀ b o,h.get? b=some o→o.cls = .type "tuple" → h'.get? b=some o):g9 h' vs ks:=⟨t.1,fun i hi=>by
 obtain ⟨a,items,e,⟨o,h1,h2,n,h3⟩,i,ne⟩:=t.2 i hi
 exact ⟨a,items,e,⟨o,k a o h1 h2,h2,n,h3⟩,i,ne⟩⟩
abbrev klt(ks:List (List Int))(i j:Nat):Bool:=dJ (ks.getD i []) (ks.getD j [])
theorem zg(ks:List (List Int)):Ord (klt ks):=⟨fun _ _ h=>ir _ _ h,fun _ _ _ h g=>gC _ _ _ h g⟩
theorem asc_pw{lt:Nat→Nat→Bool}{p:Array Nat}(h:Asc lt p p.size):p.toList.Pairwise (Le lt):=by
 rw [List.pairwise_iff_getElem];intro i j hi hj hij;have:=h i j (Nat.le_of_lt hij) (by simpa using hj);unfold Le at_ at this
 have gi:i < p.size:=by simpa using hi
 have gj:j < p.size:=by simpa using hj
 rw [Array.getD_eq_getD_getElem?,Array.getD_eq_getD_getElem?,Array.getElem?_eq_getElem gi,Array.getElem?_eq_getElem gj] at this;simpa using this
end
end Srt
namespace Srt
open PySem PySem.W PyProof.Rows
section
variable{prog:Program}{w:World}{A:Around}{E:Value→Shared→Prop}{s:Shared}
theorem _root_.L2.IntsAre_len{vs:List Value}{ns:List Int}(h:IntsAre vs ns):vs.length=ns.length:=by
 induction h with
 | nil=>rfl
 | cons _ _ _ ih=>rw [List.length_cons,List.length_cons,ih]
theorem zQ{a:Addr}{vs:List Value}{ks:List (List Int)}{n:Nat}{P:PySem.Fin→Shared→Prop}(ho:s.heap.get? a=some (seqObj "list" vs.toArray n))(ht:g9 s.heap vs ks)(h64:vs.length < 64)
 (h:∀ p:List Nat,p.Perm (List.range vs.length)→p.Pairwise (Le (klt ks))→P (.done (.ret .none)) { s with heap:=sortedHeap s.heap a vs (p.map fun i=>vs.getD i Value.none).toArray }):wpAny (model prog w) A (Builtin.«list.sort» ⟨[.ref a],[]⟩) P E s:=by
 rw [list_sort_plain];have ha:a < s.heap.objs.size:=Heap.lt_size ho;refine wpAny_bind (listItems_at ho rfl (wpAny_bind (listUpdate_at ho rfl ?_)));obtain ⟨e1,o1⟩:∃ e1,(s.heap.update a (Obj.mapSeq fun _ => #[])).get? a=some (seqObj "list" #[] e1):=⟨_,get?_update_seq ho (fun _ => #[])⟩;refine wpAny_bind (seqEpoch_at o1 rfl (wpAny_bind (wpAny_newTuple (wpAny_bind (wpAny_newList ?_)))));refine wpAny_holding ?_;have o6:(((s.heap.update a (Obj.mapSeq fun _ => #[])).push (seqObj "tuple" vs.toArray 0)).push (seqObj "list" #[] 0)).get? a=some (seqObj "list" #[] e1):=Heap.get?_push_of_some _ (Heap.get?_push_of_some _ o1)
 show wpAny (model prog w) A _ P E { s with heap:=((s.heap.update a (Obj.mapSeq fun _ => #[])).push (seqObj "tuple" vs.toArray 0)).push (seqObj "list" #[] 0) }
 dsimp only
 have hsz:vs.toArray.size=vs.length:=by simp
 have t6:g9 (((s.heap.update a (Obj.mapSeq fun _ => #[])).push (seqObj "tuple" vs.toArray 0)).push (seqObj "list" #[] 0)) vs ks:=ht.keep fun b o e c=>by
  refine Heap.get?_push_of_some _ (Heap.get?_push_of_some _ ((Heap.get?_update_other _ _ ?_).trans e));rintro rfl;rw [ho] at e;cases e;exact absurd c (by simp [seqObj])
 by_cases h2:vs.toArray.size < 2
 ·rw [if_pos h2,if_pos h2]
  refine wpAny_bind (wpAny_pure ?_);rw [StateT.run_pure];refine wpAny_bind (wpAny_pure ?_);dsimp only;refine wpAny_bind (seqEpoch_at o6 rfl (wpAny_bind (listUpdate_at o6 rfl ?_ (hsz2:=by rw [Array.size_map];show (pairsOf vs).size≤_;rw [pairsOf_size,sizeLine_eq];omega))));simp only [bne_self_eq_false,Bool.false_eq_true,if_false];refine wpAny_pure ?_
  have e:((vs.toArray.zip vs.toArray).map (·.2))=vs.toArray:=by
   apply Array.toList_inj.mp;rw [Array.toList_map,Array.toList_zip];exact List.map_snd_zip (Nat.le_refl _)
  have q:=h (List.range vs.length) (List.Perm.refl _) (List.pairwise_iff_getElem.mpr fun i j hi hj hij=>by
   rw [List.length_range] at hi hj
   omega)
  rw [show ((List.range vs.length).map fun i=>vs.getD i Value.none)=vs by
   apply List.ext_getElem
   ·simp
   ·intro i h1 h2
    simp [h2]] at q
  rw [← e] at q;exact q
 ·rw [if_neg h2,if_neg h2]
  have h2':2≤vs.length:=by omega
  obtain ⟨fs,f1,f2,f3⟩:=xn (M:=model prog w) t6.tups;refine wpAny_bind (kat_kind (T:= .type "int") f2 (by omega) f3 (by decide) ?_);rw [show ((Value.type "int" != Value.type "tuple")=true) from by decide]
  refine wpAny_bind (wpAny_mono (kat_run (Q:=fun st' s'=>∃ p:Array Nat,(dQ vs.length p∧p.size=vs.length∧Asc (klt ks) p vs.length)∧arrOf st'=p.map (kas_item (vs.toArray.zip vs.toArray))∧failedOf st'=none∧s'=_) (G:=fun p s'=>(dQ vs.length p∧p.size=vs.length∧Asc (klt ks) p vs.length)∧s'=_) (ks:=vs) rfl h2' h64
   (fun p st' s' _ a2 a3 a4=>⟨p,a4.1,a2,a3,a4.2⟩) (both (lt:=klt ks) (P:=dQ vs.length) (P':=fun p:Array Nat=>p.size=vs.length∧Asc (klt ks) p vs.length) (fun i j C hi hj hC=> ?_) (fun p hp hp2=>⟨⟨hp,hp2⟩,rfl⟩) (sort (by omega)) (ya (zg ks) (by omega)))) ?_ fun _ _ x=>x)
  ·show wpAny (model prog w) A (keyLt' (tuples' true) (vs.getD i Value.none) (vs.getD j Value.none)) C (fun _ _=>False) _
   have gi:vs.getD i Value.none=vs[i]:=by simp [hi]
   have gj:vs.getD j Value.none=vs[j]:=by simp [hj]
   rw [gi,gj];obtain ⟨x,xs,ex,⟨ox,x1,x2,nx,x3⟩,ix,_⟩:=t6.2 i hi;obtain ⟨y,ys,ey,⟨oy,y1,y2,ny,y3⟩,iy,_⟩:=t6.2 j hj;rw [ex,ey];refine kat_lt x1 x3 y1 y3 (lexE 0 ix iy ?_ hC);rw [← Array.length_toList,← Array.length_toList,L2.IntsAre_len ix,L2.IntsAre_len iy]
  ·rintro ⟨⟨⟩,st'⟩ s' ⟨p,⟨hp,hpz,hpa⟩,har,hf,rfl⟩
   dsimp only;have hout:=kat_snds (vs:=vs) (ks:=vs) rfl har
   have hperm:(p.toList.map fun i=>vs.getD i Value.none).Perm vs:=by
    have e:=hp.2.map fun i=>vs.getD i Value.none
    refine e.trans (List.Perm.of_eq ?_);apply List.ext_getElem
    ·simp
    ·intro i h1 h2
     simp [h2]
   rw [hout];refine wpAny_bind (seqEpoch_at o6 rfl (wpAny_bind (listUpdate_at o6 rfl ?_ (hsz2:=by rw [List.size_toArray,hperm.length_eq,sizeLine_eq];omega))));rw [hf];simp only [bne_self_eq_false,Bool.false_eq_true,if_false];exact wpAny_pure (h p.toList hp.2 (asc_pw (by rw [hpz];exact hpa)))
theorem x9{l:Addr}{vs:List Value}{ks:List (List Int)}{Q:Value→Shared→Prop}(hl:s.heap.IsList l vs.toArray)(ht:g9 s.heap vs ks)(h64:vs.length < 64)
 (h:∀ p:List Nat,p.Perm (List.range vs.length)→p.Pairwise (Le (klt ks))→Q (.ref (s.heap.objs.size+1)) { s with heap:=sortedAll s.heap vs (p.map fun i=>vs.getD i Value.none).toArray }):wpAny (model prog w) A (call (.builtin "sorted") [.ref l]) Q E s:=by
 refine Calls.call_function_entry kind_sorted plain_sorted entry_sorted (args_sorted1 _) ?_;unfold Builtin.«sorted»;refine wpAny_bind (m:=checkCount "sorted" 1 1 _) (wpAny_pure ?_);refine wpAny_bind (collect_list hl (wpAny_bind (wpAny_newList ?_)))
 have hsz:((s.heap.push (seqObj "list" #[] 0)).update s.heap.objs.size (Obj.mapSeq (·++ vs.toArray))).objs.size=s.heap.objs.size+1:=by
  rw [Heap.size_update,size_push']
 have oL:(((s.heap.push (seqObj "list" #[] 0)).update s.heap.objs.size (Obj.mapSeq (·++ vs.toArray))).push (seqObj "list" vs.toArray 0)).get? (s.heap.objs.size+1)=some (seqObj "list" vs.toArray 0):=by
  rw [← hsz];exact Heap.get?_push_size _ rfl
 show wpAny _ _ _ _ _ { s with heap:=((s.heap.push (seqObj "list" #[] 0)).update s.heap.objs.size (Obj.mapSeq (·++ vs.toArray))).push (seqObj "list" vs.toArray 0) }
 rw [hsz]
 have tL:g9 (((s.heap.push (seqObj "list" #[] 0)).update s.heap.objs.size (Obj.mapSeq (·++ vs.toArray))).push (seqObj "list" vs.toArray 0)) vs ks:=ht.keep fun b o e _ =>
  Heap.get?_push_of_some _ ((Heap.get?_update_other _ _ (Ne.symm (Nat.ne_of_lt (Heap.lt_size e)))).trans (Heap.get?_push_of_some _ e))
 refine wpAny_bind (wpAny_holding (wpAny_call_entry slot_list_sort ⟨_,oL,rfl⟩ entry_list_sort (zQ oL tL h64 fun p hp hs=>⟨_,rfl,?_⟩) (args_list_sort _)));exact wpAny_pure ⟨_,rfl,h p hp hs⟩
end
end Srt
namespace L2
open PySem PySem.Spec PyProof.Rows
section
variable{X:Cx}
def jk(K:PySem.W.Frag):List V→Hp→VK→Prop:=fun xs H Q=>∃ (p:Addr) (bs:List V) (ks:List (List Int)),xs=[V.ref p]∧SqL K H p bs∧bs.length < 64∧bs.length=ks.length∧(∀ (i:Nat) (k:List Int),ks[i]?=some k→∃ a:Addr,bs[i]?=some (.ref a)∧SqT K H a (k.map V.int)∧k≠[]) ∧
 ∀ l (q:List Nat),H l=none→q.Perm (List.range bs.length)→q.map (fun i=>ks.getD i [])=Srt.gB ks→Q (.ref l) (upd H l (.lst (q.map fun i=>bs.getD i .non)))
theorem o4:aI X (.builtin "sorted") (jk X.K):=by
 intro pins s σ H xs us Q I r h;obtain ⟨p,bs,ks,rfl,hq,h64,hlk,ht,q⟩:=h;obtain ⟨u,rfl,ru⟩:=b4 r;cases ru;obtain ⟨its,rv,pl,hz⟩:=I.list hq;have hlen:=rv.length
 have isref:∀ b∈bs,∃ a,b = .ref a:=fun b hb=>by
  obtain ⟨i,hi,rfl⟩:=List.mem_iff_getElem.mp hb;obtain ⟨a,e,_⟩:=ht i _ (List.getElem?_eq_getElem (by omega));rw [List.getElem?_eq_getElem hi] at e;exact ⟨a,Option.some.inj e⟩
 obtain ⟨eb,refs⟩:=mX rv isref
 refine Srt.x9 (ks:=ks) pl.isList ⟨by omega,fun i hi=> ?_⟩ (by omega) fun p hp hs=> ?_
 ·obtain ⟨a,e,hS,ne⟩:=ht i _ (List.getElem?_eq_getElem (by omega))
  have hv:its[i] = .ref a:=by
   obtain ⟨b,hb⟩:=refs its[i] (List.getElem_mem hi)
   have:(its.map p7)[i]?=some (.ref a):=by rw [← eb];exact e
   rw [List.getElem?_map,List.getElem?_eq_getElem hi,hb] at this;rw [hb];have:=Option.some.inj this;cases this;rfl
  obtain ⟨items,ri,pt,_⟩:=I.tuple hS
  have hk:ks.getD i []=ks[i]'(by omega):=by simp [List.getD_eq_getElem?_getD,List.getElem?_eq_getElem (show i < ks.length by omega)]
  rw [hk];exact ⟨a,items.toArray,hv,pt,dA ri,ne⟩
 ·have hf:H (s.heap.objs.size+1)=none:=I.hok.fresh (Nat.le_succ _)
  have perm:(p.map fun i=>its.getD i Value.none).Perm its:=by
   refine (hp.map _).trans (List.Perm.of_eq ?_);apply List.ext_getElem
   ·simp
   ·intro i h1 h2
    simp [h2]
  have ro:∀ u∈(p.map fun i=>its.getD i Value.none),∃ b,u = .ref b:=fun u hu=>refs u (perm.mem_iff.mp hu)
  have eo:(p.map fun i=>its.getD i Value.none).map p7=p.map fun i=>bs.getD i .non:=by
   rw [List.map_map];apply List.map_congr_left;intro i hi
   have hi':i < its.length:=by
    have:=hp.mem_iff.mp hi;simpa using this
   show p7 (its.getD i Value.none)=_
   rw [eb];simp [List.getD_eq_getElem?_getD,hi']
  have es:p.map (fun i=>ks.getD i [])=Srt.gB ks:=by
   refine Srt.bL ?_ (Srt.cU ks) (((hp.map _).trans (List.Perm.of_eq ?_)).trans (Srt.ck ks).symm)
   ·rw [List.pairwise_map]
    exact hs.imp fun h=>h
   ·rw [hlen.symm.trans hlk]
    apply List.ext_getElem
    ·simp
    ·intro i h1 h2
     simp [h2]
  obtain ⟨e,he⟩:=sortedAll_at s.heap its (p.map fun i=>its.getD i Value.none).toArray;refine ⟨.ref (s.heap.objs.size+1),upd H (s.heap.objs.size+1) (.lst (p.map fun i=>bs.getD i .non)),I.laid (t':=s.toks) (fun b o=>sortedAll_old) (Nat.le_succ _) ⟨?_,_,e,by rw [← eo];exact ji ro,he⟩,rfl,q _ p hf (by rw [hlen];exact hp) es⟩;rw [List.length_map,hp.length_eq,List.length_range,← hlen];exact hz
end
end L2
namespace L2
open PySem PySem.Spec PyProof.Rows
def xT:D→Option (List Int)
 | .tup ds=>match be ds with
  | some (n::ns)=>some (n::ns)
  | _=>none
 | _=>none
def jE:List D→Option (List (List Int))
 | []=>some []
 | d::ds=>match xT d,jE ds with
  | some k,some ks=>some (k::ks)
  | _,_=>none
abbrev nQ(k:List Int):D:= .tup (k.map D.int)
theorem xS{d:D}{k:List Int}(h:xT d=some k):d=nQ k∧k≠[]:=by
 unfold xT at h
 split at h
 ·rename_i ds
  split at h
  ·rename_i n ns e
   cases h;exact ⟨by rw [bB e],by simp⟩
  ·cases h
 ·cases h
theorem pA:∀ {ds:List D} {ks:List (List Int)},jE ds=some ks→ds=ks.map nQ∧∀ k∈ks,k≠[]
 | [],_,h=>by cases h;exact ⟨rfl,fun k hk=>by cases hk⟩
 | d::ds,ks,h=>by
  unfold jE at h
  split at h
  ·rename_i k ks' h1 h2
   cases h;obtain ⟨e1,n1⟩:=xS h1;obtain ⟨e2,n2⟩:=pA h2;exact ⟨by rw [e1,e2];rfl,fun k hk=>(List.mem_cons.mp hk).elim (fun e=>e ▸ n1) (n2 k)⟩
  ·cases h
def lE:List D→Option (D×Bool)
 | [.lst ds]=>match jE ds with
  | some ks=>if decide (ks.length < 64)=true then some (.lst ((Srt.gB ks).map nQ),true) else none
  | none=>none
 | _=>none
theorem mW{K:PySem.W.Frag}{H:Hp}{ds:List D}{xs:List V}(h:ao K H ds xs):∀ (q:List Nat),(∀ i∈q,i < ds.length)→ao K H (q.map fun i=>ds.getD i .non) (q.map fun i=>xs.getD i .non)
 | [],_=>trivial
 | i::q,hq=>by
  have hi:=hq i List.mem_cons_self;obtain ⟨x,hx,r⟩:=h.get (List.getElem?_eq_getElem hi);refine ⟨?_,mW h q fun j hj=>hq j (List.mem_cons_of_mem _ hj)⟩
  show aH K H (ds.getD i .non) (xs.getD i .non)
  rw [List.getD_eq_getElem?_getD,List.getD_eq_getElem?_getD,hx,List.getElem?_eq_getElem hi];exact r
theorem wy{K:PySem.W.Frag}:OpS K (jk K) lE:=by
 intro vs ds H L Q d nw hm r e q;unfold lE at e
 split at e
 ·rename_i es
  obtain ⟨x,rfl,⟨p,xs,rfl,h1,h2⟩⟩:=aO r
  cases ek:jE es with
  | none=>rw [ek] at e;cases e
  | some ks =>
   rw [ek] at e;simp only at e
   split at e
   ·rename_i hk
    cases e;have hk:=of_decide_eq_true hk;obtain ⟨ee,hne⟩:=pA ek
    have hl:ks.length=xs.length:=by rw [← h2.len,ee,List.length_map]
    refine ⟨p,xs,ks,rfl,.inl (.inl h1),by omega,hl.symm,fun i k hi=> ?_,fun l p' hl' hp hs=>q _ _ (aj.upd hl') (cB ?_ hl')⟩
    ·obtain ⟨v,hv,a,ys,rfl,g1,g2⟩:=h2.get (i:=i) (d:=nQ k) (by rw [ee,List.getElem?_map,hi];rfl)
     exact ⟨a,hv,.inl (.inl (by rw [(ay g1).2,bo g2])),hne k (List.mem_of_getElem? hi)⟩
    ·have:=mW h2 p' fun i hi=>by
      have:=hp.mem_iff.mp hi;rw [List.mem_range,← h2.len] at this;exact this
     rw [← hs,List.map_map]
     have e2:(p'.map fun i=>es.getD i .non)=p'.map (nQ ∘ fun i=>ks.getD i []):=by
      apply List.map_congr_left;intro i hi
      have hi':i < ks.length:=by
       have:=hp.mem_iff.mp hi;rw [List.mem_range] at this;omega
      rw [ee];simp [List.getD_eq_getElem?_getD,hi']
     rw [← e2];exact this
   ·cases e
 ·cases e
def iC(ds:List D):Option (D×Bool):=match fT ds with
 | some r=>some r
 | none=>lE ds
theorem wB{K:PySem.W.Frag}:OpS K (fun xs H Q=>(ie K xs H Q∨ic K xs H Q)∨jk K xs H Q) iC:=by
 intro vs ds H L Q d nw hm r e q;unfold iC at e
 cases es:fT ds with
 | some z =>
  rw [es] at e;cases e;exact .inl (uz vs ds H L Q d nw hm r es q)
 | none =>
  rw [es] at e;exact .inr (wy vs ds H L Q d nw hm r e q)
theorem sv{X:Cx}:aI X (.builtin "sorted") (fun xs H Q=>(ie X.K xs H Q∨ic X.K xs H Q)∨jk X.K xs H Q):=o5.or o4
section
variable{X:Cx}{EX:EXT}{e:Expr}{es:List Expr}{pos p:Pos}{as:List Arg}
end
end L2
namespace L2
open PySem PySem.Spec PyProof.Rows
section
variable{K:PySem.W.Frag}{F:Fx}{EX:EXT}{σ:St}{H:Hp}{ρ:Rho}{W:List Addr}
end
end L2
namespace L2
theorem vN{X:Cx}{EX:EXT}{s:PySem.Stmt}:JS X EX s (fun _=>none):=⟨fun pins s σ H D I ⟨_,_,_,_,h⟩=>h.elim⟩
namespace Kd
open PySem L2 PyProof.Rows
def words:List Str:=["web", "place", "kind", "share", "square", "number", "text", "row", "great"]
section
variable{X:Cx}{e:Expr}{te:TE}{pos p1 p2:Pos}
end
def names:List Str:=["NoWeb", "NoPlace", "NoKind", "NoShare", "NoSquare", "NoNumber", "NoText", "NoRow", "TooGreat"]
end Kd
end L2
namespace L2
open PySem PySem.Spec PyProof.Rows
def keyD:Key→D
 | .inl i=> .int i
 | .inr x=> .str x
theorem wQ{K:PySem.W.Frag}{H:Hp}:∀ (k:Key),aH K H (keyD k) (kV k)
 | .inl _=>rfl
 | .inr _=>rfl
theorem ng{K:PySem.W.Frag}{H:Hp}:∀ (k:List Key),ao K H (k.map keyD) (k.map kV)
 | []=>trivial
 | k::ks=>⟨wQ k,ng ks⟩
def gF(ds:List D):Option (D×Bool):=match ds with
 | [.dT ks _]=>some (.lst (ks.map fun k=> .tup (k.map keyD)),true)
 | ds=>xg ds
def wc:List V→Hp→VK→Prop:=fun xs H Q=>∃ a kvs,xs=[V.ref a]∧H a=some (.dT kvs) ∧
 ∀ l bs,H l=none→(kvs.map (·.1)).Nodup→bs.length=kvs.length→(∀ (i:Nat) k v,kvs[i]?=some (k,v)→∃ b,bs[i]?=some (V.ref b)∧H b=some (.tup (k.map kV)))→Q (.ref l) (upd H l (.lst bs))
theorem oz{K:PySem.W.Frag}{H:Hp}:∀ {ds:List D} {xs:List V},ds.length=xs.length→(∀ (i:Nat) (d:D),ds[i]?=some d→∃ x,xs[i]?=some x∧aH K H d x)→ao K H ds xs
 | [],[],_,_=>trivial
 | d::ds,x::xs,hl,h=>by
  obtain ⟨y,e,r⟩:=h 0 d rfl;cases e
  exact ⟨r,oz (by simpa using hl) fun i d' hd=>by
   obtain ⟨y,e,r⟩:=h (i+1) d' (by simpa using hd)
   exact ⟨y,by simpa using e,r⟩⟩
 | [],_::_,hl,_=>by simp at hl
 | _::_,[],hl,_=>by simp at hl
theorem wD{K:PySem.W.Frag}:OpS K (fun xs H Q=>(ki K xs H Q∨kU xs H Q)∨wc xs H Q) gF:=by
 intro vs ds H L Q d nw hm r e q;unfold gF at e
 split at e
 ·rename_i ks es
  cases e;obtain ⟨x,rfl,⟨p,xs,rfl,h1,hl,h2⟩⟩:=aO r;refine .inr ⟨p,_,rfl,h1,fun l bs hf _ hb hk=>q _ _ (aj.upd hf) (cB (oz ?_ fun i d hd=> ?_) hf)⟩
  ·rw [List.length_map,hb,List.length_zip,hl,Nat.min_self]
  ·rw [List.getElem?_map] at hd
   obtain ⟨k,hk1,rfl⟩:=Option.map_eq_some_iff.mp hd
   have hi:i < xs.length:=by rw [← hl];exact (List.getElem?_eq_some_iff.mp hk1).1
   obtain ⟨b,e1,e2⟩:=hk i k xs[i] (by rw [List.getElem?_zip_eq_some];exact ⟨hk1,List.getElem?_eq_getElem hi⟩);refine ⟨_,e1,b,_,rfl,?_,ng k⟩;rw [aQ fun z=>by have:=hm b z;rw [e2] at this;exact this];exact e2
 ·exact .inl (yR vs ds H L Q d nw hm r e q)
theorem qN{X:Cx}(hc:X.calm=true):aI X (.type "list") (fun xs H Q=>(ki X.K xs H Q∨kU xs H Q)∨wc xs H Q):=(sG hc).or (sy hc)
section
variable{X:Cx}{EX:EXT}{e:Expr}{es:List Expr}{pos p:Pos}{as:List Arg}
theorem t8(he:starEach (e::es) X.env=(false,eval e X.env)::starEach es X.env:=by rfl)(hpl:(backTo pos (starEach es X.env)).any (·.1)=false:=by rfl)(m:X.mg "list" = none)(ha:JA X EX (e::es) as)(hg:Gl X "list" := by rfl)(hc:X.calm=true:=by rfl):JE X EX (.Call (.Name "list" p) (e::es) [] pos) (sOp gF as):=gJ (qN hc) wD hg m PyProof.Rows.boot_list ha (by decide) (by decide) he hpl
end
end L2
namespace St2
open PySem PySem.Spec PyProof.Rows
section
variable{prog:Program}{w:World}{A:Around}{E:Value→Shared→Prop}{s:Shared}
theorem qJ{T:String}{d:Addr}{n:Nat}{P:Nat→Value→Prop}{OK:Heap→Prop}{Q:List Value→Shared→Prop}(K:PySem.W.KdlSrc prog w T d d n P OK)(hh:A.handled=none)(hd:OK s.heap)(hz:n≤sizeLine)
 (h:∀ h' tk (acc:Array Value) c,(∀ b o,s.heap.get? b=some o→h'.get? b=some o)→h'.get? s.heap.objs.size=some { cls:= .type "list",dict:=none,data:= .seq acc c,slots := #[] }→ItemsOf P acc n→Q acc.toList { s with heap:=h',toks:=tk }) :
 wpAny (model prog w) A (collect (.ref d)) Q E s:=by
 unfold collect;refine wpAny_bind (wpAny_runValue (codeAny_builtin F.entry_proto_collect ?_));unfold Builtin.«proto.collect»
 show wpAny _ _ (newList [] >>= _) _ _ _
 refine wpAny_bind (wpAny_newList ?_ (by simp));refine wpAny_pure ⟨Code.quiet_builtin _ (by decide +kernel),codeAny_builtin F.entry_list_iadd ?_⟩;have hn:(s.heap.push { cls:=Value.type "list",data:=Data.seq #[] }).get? s.heap.objs.size=some { cls:=Value.type "list",data:=Data.seq #[] }:=Heap.get?_push_size _ rfl
 show wpAny _ _ (Builtin.List.listExtendWith (.ref s.heap.objs.size) (.ref d) (.ref s.heap.objs.size)) _ _ _
 have nd:s.heap.objs.size≠d:=Nat.ne_of_gt (K.there _ hd).1
 have key:=PySem.W.kdl_extend (A:=A) (s:={ s with heap:=s.heap.push { cls:=Value.type "list",data:=Data.seq #[] } }) (R:=fun r s'=>∃ h' tk acc c,r = .ok (.ret (.ref s.heap.objs.size))∧s'={ s with heap:=h',toks:=tk }∧(∀ b o,s.heap.get? b=some o→h'.get? b=some o)∧h'.get? s.heap.objs.size=some { cls:= .type "list",dict:=none,data:= .seq acc c,slots := #[] }∧ItemsOf P acc n)
  K hh (K.keep _ _ hd fun b _ o e=>Heap.get?_push_of_some _ e) _ nd nd (.ref s.heap.objs.size) 0 hn (fun h' tk acc c keep hS items=>⟨h',tk,acc,c,rfl,rfl,fun b o e=>keep b o (Nat.ne_of_lt (Heap.lt_size e)) (Heap.get?_push_of_some _ e),hS,items⟩) hz
 refine wpAny_mono key (fun f s' hf=> ?_) (fun e s' he=> ?_)
 ·cases f with
  | done f =>
   obtain ⟨h',tk,acc,c,e1,rfl,keep,hS,items⟩:=hf;cases e1
   show wpAny _ _ (load s.heap.objs.size >>= _) _ _ _
   refine wpAny_bind (wpAny_load hS ?_)
   show wpAny _ _ (pure acc.toList) _ _ _
   exact wpAny_pure (h h' tk acc c keep hS items)
  | again c' =>
   refine ⟨hf.1,codeAny_mono hf.2 fun r s' z=> ?_⟩;obtain ⟨h',tk,acc,c,e1,rfl,keep,hS,items⟩:=z;cases e1
   show wpAny _ _ (load s.heap.objs.size >>= _) _ _ _
   refine wpAny_bind (wpAny_load hS ?_)
   show wpAny _ _ (pure acc.toList) _ _ _
   exact wpAny_pure (h h' tk acc c keep hS items)
 ·obtain ⟨_,_,_,_,e1,_⟩:=he
  cases e1
end
end St2
namespace L2
open PySem PySem.Spec PyProof.Rows
section
variable{X:Cx}
def oB:List V→Hp→VK→Prop:=fun xs H Q=>∃ (a:Addr) (ks:List (List Int)) (vs:List V),xs=[V.ref a]∧H a=some (.dT ((ks.map fun k=>k.map Sum.inl).zip vs))∧ks.length=vs.length∧ks.length < 64∧(∀ k∈ks,k≠[]) ∧
 ∀ l (bs:List V),H l=none→bs.length=ks.length→(∀ (i:Nat) k,(Srt.gB ks)[i]?=some k→∃ b,bs[i]?=some (V.ref b)∧H b=some (.tup (k.map V.int)))→Q (.ref l) (upd H l (.lst bs))
theorem inl_kV(k:List Int):(k.map (Sum.inl:Int→Key)).map kV=k.map V.int:=by rw [List.map_map];rfl
theorem mF(hc:X.calm=true):aI X (.builtin "sorted") oB:=by
 intro pins s σ H xs us Q I r h;obtain ⟨a,ks,vs,rfl,ha,hlv,h64,hne,q⟩:=h;obtain ⟨u,rfl,ru⟩:=b4 r;cases ru;obtain ⟨z,lo,nd,es,ep,x,hl,hk⟩:=rC I.hok ha;have lsz:sizeLine=16777216:=sizeLine_eq
 have hlz:((ks.map fun k=>k.map (Sum.inl:Int→Key)).zip vs).length=ks.length:=by rw [List.length_zip,List.length_map,hlv,Nat.min_self]
 have hes:es.size=ks.length:=hl.trans hlz;refine Calls.call_function_entry kind_sorted plain_sorted entry_sorted (args_sorted1 _) ?_;unfold Builtin.«sorted»;refine wpAny_bind (m:=checkCount "sorted" 1 1 _) (wpAny_pure ?_);refine wpAny_bind (St2.qJ (RawD.src (ep:=ep) (es:=es) lo) (I.ok.hd hc) x (by omega) fun h1 tk acc c keep hS items=>wpAny_bind (wpAny_newList ?_ (by rw [Array.length_toList,items.1];omega)));have hsz:s.heap.objs.size+1≤h1.objs.size:=Heap.lt_size hS
 have lacc:acc.toList.length=ks.length:=by rw [Array.length_toList,items.1,hes]
 have at_:∀ (i:Nat) (hi:i < acc.toList.length),∃ b,acc.toList[i] = .ref b∧H b=some (.tup ((ks.getD i []).map V.int))∧ks.getD i []≠[]:=fun i hi=>by
  obtain ⟨hi',e⟩:=items.2 i acc.toList[i] (by rw [← Array.getElem?_toList];exact List.getElem?_eq_getElem hi);obtain ⟨b,k,v,e1,e2,e3⟩:=hk i hi'
  have hi2:i < ks.length:=by omega
  have ek:k=(ks.getD i []).map Sum.inl:=by
   rw [List.getElem?_zip_eq_some] at e2;have:=e2.1;rw [List.getElem?_map,List.getElem?_eq_getElem hi2] at this;have this:ks[i].map Sum.inl=k:=Option.some.inj this;rw [← this];simp [List.getD_eq_getElem?_getD,hi2]
  refine ⟨b,e.trans e1,by rw [e3,ek,inl_kV],hne _ ?_⟩;rw [List.getD_eq_getElem?_getD,List.getElem?_eq_getElem hi2];exact List.getElem_mem _
 show wpAny _ _ _ _ _ { s with heap:=h1.push (seqObj "list" acc.toList.toArray 0),toks:=tk }
 have oL:(h1.push (seqObj "list" acc.toList.toArray 0)).get? h1.objs.size=some (seqObj "list" acc.toList.toArray 0):=Heap.get?_push_size _ rfl
 have tk1:Srt.g9 (h1.push (seqObj "list" acc.toList.toArray 0)) acc.toList ks:=⟨lacc,fun i hi=>by
  obtain ⟨b,e1,e2,e3⟩:=at_ i hi;obtain ⟨items',ri,⟨o,g1,g2,n,g3⟩,_⟩:=I.tuple (X:=X) (.inl (.inl e2))
  exact ⟨b,items'.toArray,e1,⟨o,Heap.get?_push_of_some _ (keep b o g1),g2,n,g3⟩,dA ri,e3⟩⟩
 refine wpAny_bind (wpAny_holding (wpAny_call_entry slot_list_sort ⟨_,oL,rfl⟩ entry_list_sort (Srt.zQ oL tk1 (by omega) fun p hp hs=>⟨_,rfl,?_⟩) (args_list_sort _)))
 have hle:s.heap.objs.size≤h1.objs.size:=by omega
 have hf:H h1.objs.size=none:=I.hok.fresh hle
 have hin:∀ i∈p,i < acc.toList.length:=fun i hi=>by
  have:=hp.mem_iff.mp hi
  rwa [List.mem_range] at this
 have refs:∀ u∈(p.map fun i=>acc.toList.getD i Value.none),∃ b,u = .ref b:=fun u hu=>by
  obtain ⟨i,hi,rfl⟩:=List.mem_map.mp hu;obtain ⟨b,e1,_⟩:=at_ i (hin i hi);exact ⟨b,by rw [List.getD_eq_getElem?_getD,List.getElem?_eq_getElem (hin i hi)];exact e1⟩
 have es':p.map (fun i=>ks.getD i [])=Srt.gB ks:=by
  refine Srt.bL ?_ (Srt.cU ks) (((hp.map _).trans (List.Perm.of_eq ?_)).trans (Srt.ck ks).symm)
  ·rw [List.pairwise_map]
   exact hs.imp fun h=>h
  ·rw [lacc]
   apply List.ext_getElem
   ·simp
   ·intro i h1 h2
    simp [h2]
 obtain ⟨e,he⟩:=sortedHeap_at (out:=(p.map fun i=>acc.toList.getD i Value.none).toArray) oL
 have lp:p.length=ks.length:=by rw [hp.length_eq,List.length_range,lacc]
 refine wpAny_pure ⟨_,rfl,.ref h1.objs.size,upd H h1.objs.size (.lst ((p.map fun i=>acc.toList.getD i Value.none).map p7)),I.laid (t':=tk) (fun b o q=> ?_) hle ⟨?_,_,e,ji refs,by simpa using he⟩,rfl,q _ _ hf (by rw [List.length_map,List.length_map,lp]) fun i k hik=> ?_⟩
 ·have lb:=Heap.lt_size (keep b o q)
  rw [sortedHeap_old (Nat.ne_of_lt lb) (by rw [Heap.size_push];exact Nat.lt_succ_of_lt lb)];exact Heap.get?_push_of_some _ (keep b o q)
 ·rw [List.length_map,List.length_map,lp]
  omega
 ·rw [← es',List.getElem?_map] at hik
  obtain ⟨j,hj,rfl⟩:=Option.map_eq_some_iff.mp hik;have hj':=hin j (List.mem_of_getElem? hj);obtain ⟨b,e1,e2,_⟩:=at_ j hj';refine ⟨b,?_,e2⟩;rw [List.getElem?_map,List.getElem?_map,hj]
  show some (p7 (acc.toList.getD j Value.none))=_
  rw [List.getD_eq_getElem?_getD,List.getElem?_eq_getElem hj']
  show some (p7 acc.toList[j])=_
  rw [e1];rfl
end
end L2
namespace L2
open PySem PySem.Spec PyProof.Rows
def zi:List Key→Option (List Int)
 | []=>some []
 | .inl i::ks=>match zi ks with
  | some l=>some (i::l)
  | none=>none
 | .inr _::_=>none
def nc:List (List Key)→Option (List (List Int))
 | []=>some []
 | k::ks=>match zi k,nc ks with
  | some (i::l),some r=>some ((i::l)::r)
  | _,_=>none
theorem tH:∀ {k:List Key} {l:List Int},zi k=some l→k=l.map Sum.inl
 | [],_,h=>by cases h;rfl
 | .inl i::ks,l,h=>by
  unfold zi at h
  split at h
  ·rename_i l' e
   cases h;rw [tH e];rfl
  ·cases h
 | .inr _::_,_,h=>by cases h
theorem qu:∀ {ks:List (List Key)} {r:List (List Int)},nc ks=some r→ks=(r.map fun k=>k.map Sum.inl)∧∀ k∈r,k≠[]
 | [],_,h=>by cases h;exact ⟨rfl,fun k hk=>by cases hk⟩
 | k::ks,r,h=>by
  unfold nc at h
  split at h
  ·rename_i i l r' e1 e2
   cases h;obtain ⟨g1,g2⟩:=qu e2;exact ⟨by rw [g1,tH e1];rfl,fun k hk=>(List.mem_cons.mp hk).elim (fun e=>by rw [e];simp) (g2 k)⟩
  ·cases h
def dU(ds:List D):Option (D×Bool):=match ds with
 | [.dT ks _]=>match nc ks with
  | some r=>if decide (r.length < 64)=true then some (.lst ((Srt.gB r).map nQ),true) else none
  | none=>none
 | ds=>iC ds
theorem wA{K:PySem.W.Frag}:OpS K (fun xs H Q=>((ie K xs H Q∨ic K xs H Q)∨jk K xs H Q)∨oB xs H Q) dU:=by
 intro vs ds H L Q d nw hm r e q;unfold dU at e
 split at e
 ·rename_i ks es
  split at e
  ·rename_i ns hk
   split at e
   ·rename_i h64
    cases e;have h64:=of_decide_eq_true h64;obtain ⟨g1,g2⟩:=qu hk;obtain ⟨x,rfl,⟨p,xs,rfl,h1,hl,h2⟩⟩:=aO r
    have ll:ns.length=xs.length:=by rw [← hl,g1,List.length_map]
    refine .inr ⟨p,ns,xs,rfl,by rw [← g1];exact h1,ll,h64,g2,fun l bs hf hb hk'=>q _ _ (aj.upd hf) (cB (oz ?_ fun i d hd=> ?_) hf)⟩
    ·rw [List.length_map,hb,(Srt.ck ns).length_eq]
    ·rw [List.getElem?_map] at hd
     obtain ⟨k,hk1,rfl⟩:=Option.map_eq_some_iff.mp hd;obtain ⟨b,e1,e2⟩:=hk' i k hk1;refine ⟨_,e1,b,_,rfl,?_,dw k⟩;rw [aQ fun z=>by have:=hm b z;rw [e2] at this;exact this];exact e2
   ·cases e
  ·cases e
 ·exact .inl (wB vs ds H L Q d nw hm r e q)
theorem su{X:Cx}(hc:X.calm=true):aI X (.builtin "sorted") (fun xs H Q=>((ie X.K xs H Q∨ic X.K xs H Q)∨jk X.K xs H Q)∨oB xs H Q):=sv.or (mF hc)
section
variable{X:Cx}{EX:EXT}{e:Expr}{es:List Expr}{pos p:Pos}{as:List Arg}
theorem kq(he:starEach (e::es) X.env=(false,eval e X.env)::starEach es X.env:=by rfl)(hpl:(backTo pos (starEach es X.env)).any (·.1)=false:=by rfl)(m:X.mg "sorted" = none)(ha:JA X EX (e::es) as)(hg:Gl X "sorted" := by rfl)(hc:X.calm=true:=by rfl):JE X EX (.Call (.Name "sorted" p) (e::es) [] pos) (sOp dU as):=gU (su hc) wA hg m PyProof.Rows.boot_sorted ha (by decide) (by decide) he hpl
end
end L2
namespace L2
open PySem PySem.Spec PyProof.Rows
end L2
namespace L2
open PySem
section
variable{ρ ρ1 ρ2 ρ3:Rho}{d:D}{nw b:Bool}{f g:SE}{s t:SS}{C:Str}{nms:List Str}{i:Nat}
theorem r_dnew:vO d ρ=some (.ok d true,ρ):=rfl
end
end L2
namespace L2
open PySem
abbrev nD(l:List Int):List D:=l.map D.int
abbrev bD(l:List Bool):List D:=l.map D.bl
abbrev vA(t:Int×Int):D:= .tup [.int t.1,.int t.2]
abbrev tD(ts:List (Int×Int)):List D:=ts.map vA
abbrev hX(n:Int)(ts:List (Int×Int)):D:= .tup [.int n,.tup (tD ts)]
def rgI(lo:Int)(n:Nat):List Int:=(List.range n).map fun k=>lo+(k:Nat)
theorem aJ(lo:Int)(n:Nat):(rgI lo n).length=n:=by unfold rgI;simp
theorem bG{lo:Int}{n:Nat}{x:Int}:x∈rgI lo n↔lo≤x∧x < lo+n:=by
 unfold rgI;rw [List.mem_map]
 constructor
 ·rintro ⟨k,hk,rfl⟩
  have:=List.mem_range.mp hk;omega
 ·rintro ⟨a,b⟩
  exact ⟨(x - lo).toNat,List.mem_range.mpr (by omega),by omega⟩
theorem yk{lo:Int}{n i:Nat}{x:Int}(h:(rgI lo n)[i]?=some x):i < n∧x=lo+i:=by
 unfold rgI at h;rw [List.getElem?_map] at h;obtain ⟨k,hk,rfl⟩:=Option.map_eq_some_iff.mp h;obtain ⟨a,b⟩:=List.getElem?_eq_some_iff.mp hk;simp at a b;subst b;exact ⟨a,rfl⟩
theorem rgI_at{lo:Int}{n i:Nat}(h:i < n):(rgI lo n)[i]?=some (lo+(i:Nat)):=by
 unfold rgI;rw [List.getElem?_map,List.getElem?_range h];rfl
theorem bS(lo:Int)(n:Nat):rgI lo (n+1)=rgI lo n++[lo+(n:Nat)]:=by unfold rgI;rw [List.range_succ,List.map_append];rfl
theorem gs(lo:Int)(n:Nat):rgI lo (n+1)=lo::rgI (lo+1) n:=by
 unfold rgI;rw [List.range_succ_eq_map,List.map_cons,List.map_map]
 congr 1
 ·simp
 ·refine List.map_congr_left fun k _=> ?_
  show lo+((k+1:Nat):Int)=lo+1+(k:Nat)
  omega
theorem ot(lo:Int)(n:Nat):gq lo n=nD (rgI lo n):=by unfold gq rgI;rw [nD,List.map_map];rfl
theorem nE{α:Type}{inj:α→D}:∀ (xs:List α) (k:Nat),gI k (xs.map inj)=(xs.zipIdx k).map fun p=> .tup [.int (p.2:Nat),inj p.1]
 | [],_=>rfl
 | x::xs,k=>by rw [List.map_cons,List.zipIdx_cons,List.map_cons];show _::gI (k+1) _=_;rw [nE xs (k+1)]
section
variable{ρ ρ1 ρ2 ρ3 ρ4:Rho}{d y:D}{ds ys:List D}{nw b:Bool}{f g:SE}{p:ST}{s:SS}{T:Tg}{k:Nat}
theorem sX{x:Arg}{j:Int}(h:evA [x] ρ=some (.ok [.int j],ρ1))(h1 : -1000000≤j)(h2:j≤1000000):b6 x ρ=some (.ok (nD (rgI 0 j.toNat)),ρ1):=by rw [r_rng1 h (wJ (by omega) (by omega) h1 h2 (by omega)),ot]
theorem yn{x:Arg}{n:Nat}(h:evA [x] ρ=some (.ok [.int (n:Nat)],ρ1))(h2:n≤1000000):b6 x ρ=some (.ok (nD (rgI 0 n)),ρ1):=by rw [sX h (by omega) (by omega),Int.toNat_natCast]
theorem ym{x z:Arg}{i j:Int}(h:evA [x,z] ρ=some (.ok [.int i,.int j],ρ1))(h0 : -1000000≤i)(h0':i≤1000000)(h1 : -1000000≤j)(h2:j≤1000000)(h3:j - i≤1000000):e9 x z ρ=some (.ok (nD (rgI i (j - i).toNat)),ρ1):=by rw [r_rng2 h (wJ h0 h0' h1 h2 h3),ot]
theorem yq{α:Type}{inj:α→D}{xs:List α}(h:f ρ=some (.ok d nw,ρ1))(hs:cu d=some (xs.map inj)):fb f ρ=some (.ok (xs.zipIdx.map fun p=> .tup [.int (p.2:Nat),inj p.1]),ρ1):=by
 rw [r_enum h hs,nE]
theorem r_ieI{x z:Int}(h:p ρ=some (.ok b,ρ1))(h1:f ρ1=some (.ok (.int x) false,ρ1))(h2:g ρ1=some (.ok (.int z) false,ρ1)):sIf p f g ρ=some (.ok (.int (if b=true then x else z)) false,ρ1):=by
 unfold sIf;rw [h]
 cases b with
 | true=>exact h1
 | false=>exact h2
theorem yr{e:Option ST}:bW k T e f [] ρ=some ([],ρ):=rfl
theorem yt(h1:bZ T d (ρ++List.replicate k none)=some ρ1)(h2:f ρ1=some (.ok y nw,ρ2))(h3:ρ2.take ρ.length=ρ3)(h4:bW k T none f ds ρ3=some (ys,ρ4)):bW k T none f (d::ds) ρ=some (y::ys,ρ4):=by
 subst h3;unfold bW;simp only [h1,evC,h2,h4]
theorem oA{r:Option (Out×Rho)}(h1:bZ T d ρ=some ρ1)(h2:s ρ1=some (.nx,ρ2))(h3:bR T s ds ρ2=r):bR T s (d::ds) ρ=r:=by
 unfold bR;simp only [h1,h2];exact h3
theorem yp{x:D}(h1:bZ T d ρ=some ρ1)(h2:s ρ1=some (.rt x nw,ρ2)):bR T s (d::ds) ρ=some (.rt x nw,ρ2):=by
 unfold bR;simp only [h1,h2]
end
section
variable{α:Type}{k:Nat}{T:Tg}{f:SE}{c:ST}{ρ:Rho}{inj:α→D}{q:α→Bool}
theorem rn{g:α→Int}(xs:List α)(h:∀ x∈xs,∃ ρ1 ρ3 nw,bZ T (inj x) (ρ++List.replicate k none)=some ρ1∧f ρ1=some (.ok (.int (g x)) nw,ρ3)∧ρ3.take ρ.length=ρ):bW k T none f (xs.map inj) ρ=some (nD (xs.map g),ρ):=by
 rw [gQ (g:=fun x=>D.int (g x)) xs h,nD,List.map_map];rfl
theorem rq{g:α→Bool}(xs:List α)(h:∀ x∈xs,∃ ρ1 ρ3 nw,bZ T (inj x) (ρ++List.replicate k none)=some ρ1∧f ρ1=some (.ok (.bl (g x)) nw,ρ3)∧ρ3.take ρ.length=ρ):bW k T none f (xs.map inj) ρ=some (bD (xs.map g),ρ):=by
 rw [gQ (g:=fun x=>D.bl (g x)) xs h,bD,List.map_map];rfl
theorem rm{g1 g2:α→Int}(xs:List α)(h:∀ x∈xs,∃ ρ1 ρ3 nw,bZ T (inj x) (ρ++List.replicate k none)=some ρ1∧f ρ1=some (.ok (.tup [.int (g1 x),.int (g2 x)]) nw,ρ3)∧ρ3.take ρ.length=ρ):bW k T none f (xs.map inj) ρ=some (tD (xs.map fun x=>(g1 x,g2 x)),ρ):=by
 rw [gQ (g:=fun x=> .tup [.int (g1 x),.int (g2 x)]) xs h,tD,List.map_map];rfl
end
section
variable{α σ:Type}{T:Tg}{f:SS}{inj:α→D}
theorem jN(R:σ→Rho→Prop)(step:σ→α→σ):∀ (xs:List α) (s:σ) (ρ:Rho),R s ρ→(∀ x∈xs,∀ s ρ,R s ρ→∃ ρ1 ρ2,bZ T (inj x) ρ=some ρ1∧f ρ1=some (.nx,ρ2)∧R (step s x) ρ2)→∃ ρ',bR T f (xs.map inj) ρ=some (.nx,ρ')∧R (xs.foldl step s) ρ'
 | [],s,ρ,h,_=>⟨ρ,rfl,h⟩
 | x::xs,s,ρ,h,hs=>by
  obtain ⟨ρ1,ρ2,e1,e2,h2⟩:=hs x List.mem_cons_self s ρ h
  obtain ⟨ρ',e3,h3⟩:=jN R step xs _ ρ2 h2 fun x hx=>hs x (List.mem_cons_of_mem _ hx)
  exact ⟨ρ',oA e1 e2 e3,h3⟩
theorem um{lo:Int}(I:Nat→Rho→Prop)(n:Nat)(ρ:Rho)(h0:I 0 ρ)(hs:∀ i,i < n→∀ ρ,I i ρ→∃ ρ1 ρ2,bZ T (.int (lo+(i:Nat))) ρ=some ρ1∧f ρ1=some (.nx,ρ2)∧I (i+1) ρ2):∃ ρ',bR T f (nD (rgI lo n)) ρ=some (.nx,ρ')∧I n ρ':=by
 obtain ⟨ρ',e,h⟩:=mT (T:=T) (f:=f) I (nD (rgI lo n)) 0 ρ h0 fun i d ρ hd hI=>by
  rw [nD,List.getElem?_map] at hd;obtain ⟨x,hx,rfl⟩:=Option.map_eq_some_iff.mp hd;obtain ⟨h1,rfl⟩:=yk hx;rw [Nat.zero_add] at hI ⊢;exact hs i h1 ρ hI
 rw [List.length_map,aJ,Nat.zero_add] at h;exact ⟨ρ',e,h⟩
theorem cC(I:Nat→Rho→Prop)(n:Nat)(ρ:Rho)(h0:I 0 ρ)(hs:∀ i,i < n→∀ ρ,I i ρ→∃ ρ1 ρ2,bZ T (.int (i:Nat)) ρ=some ρ1∧f ρ1=some (.nx,ρ2)∧I (i+1) ρ2):∃ ρ',bR T f (nD (rgI 0 n)) ρ=some (.nx,ρ')∧I n ρ' :=
 um I n ρ h0 fun i hi ρ hI=>by rw [Int.zero_add];exact hs i hi ρ hI
theorem jM(R:Nat→σ→Rho→Prop)(step:σ→α→σ):∀ (xs:List α) (n:Nat) (s:σ) (ρ:Rho),R n s ρ→(∀ i x,xs[i]?=some x→∀ s ρ,R (n+i) s ρ→∃ ρ1 ρ2,bZ T (inj x) ρ=some ρ1∧f ρ1=some (.nx,ρ2)∧R (n+i+1) (step s x) ρ2)→∃ ρ',bR T f (xs.map inj) ρ=some (.nx,ρ')∧R (n+xs.length) (xs.foldl step s) ρ'
 | [],n,s,ρ,h,_=>⟨ρ,rfl,h⟩
 | x::xs,n,s,ρ,h,hs=>by
  obtain ⟨ρ1,ρ2,e1,e2,h2⟩:=hs 0 x rfl s ρ h
  obtain ⟨ρ',e3,h3⟩:=jM R step xs (n+1) _ ρ2 h2 fun i x hx s ρ hR=>by
   have:=hs (i+1) x (by simpa using hx) s ρ (by rw [show n+(i+1)=n+1+i by omega];exact hR);rw [show n+(i+1)+1=n+1+i+1 by omega] at this;exact this
  refine ⟨ρ',oA e1 e2 e3,?_⟩;rw [List.length_cons,show n+(xs.length+1)=n+1+xs.length by omega];exact h3
end
section
variable{α:Type}{inj:α→D}{xs ys:List α}{ns ms:List Int}{i a b:Int}
theorem nu:cm [.lst (xs.map inj)]=some (.int (xs.length:Nat),false):=by show some (D.int ((xs.map inj).length:Nat),false)=_;rw [List.length_map]
theorem eB:cm [.tup (xs.map inj)]=some (.int (xs.length:Nat),false):=by show some (D.int ((xs.map inj).length:Nat),false)=_;rw [List.length_map]
theorem qB(h0:0≤i)(h1:i < ns.length):gIx [.tup (nD ns),.int i]=some (.int (ns.getD i.toNat 0),false):=oX (xJ h0 h1)
theorem nn:oV [.tup (nD ns)]=some (.int ns.sum,false):=by unfold oV;simp only [dz]
theorem r9(h:ns≠[]):fm [.tup (nD ns)]=some (.int (i7 ns),false):=uQ ns h
theorem r8(h:ns≠[]):fY [.tup (nD ns)]=some (.int (jq ns),false):=by
 unfold fY
 cases ns with
 | nil=>exact absurd rfl h
 | cons n ns=>simp only [dz]
theorem zo:fm [.int a,.int b]=some (.int (max a b),false):=by
 show some (D.int (if b > a then b else a),false)=_
 congr 3
 rw [Int.max_def]
 split<;>split<;>omega
theorem tR:fY [.int a,.int b]=some (.int (min a b),false):=by
 show some (D.int (if b < a then b else a),false)=_
 congr 3
 rw [Int.min_def]
 split<;>split<;>omega
theorem vP(h : -1000000≤a)(h2:b≤1000000)(h3:a≤1000000)(h4 : -1000000≤b)(h5:b - a≤1000):pX a b=true:=by
 unfold pX
 refine decide_eq_true ⟨?_,?_,?_,?_,?_⟩<;>omega
theorem nr(h : -1000000≤a)(h2:b≤1000000)(h3:a≤1000000)(h4 : -1000000≤b)(h5:b - a≤1000):gF [.rng a b]=some (.lst (nD (rgI a (b - a).toNat)),true):=by
 show (if pX a b=true then some (D.lst (gq a (b - a).toNat),true) else none)=_
 rw [if_pos (vP h h2 h3 h4 h5),ot]
theorem se{n:Nat}(h:n≤1000):gF [.rng 0 (n:Nat)]=some (.lst (nD (rgI 0 n)),true):=by rw [nr (by omega) (by omega) (by omega) (by omega) (by omega),show ((n:Int) - 0).toNat=n by omega]
theorem sd{n:Nat}(h:n≤1000):gF [.rng 1 ((n:Nat)+1)]=some (.lst (nD (rgI 1 n)),true):=by rw [nr (by omega) (by omega) (by omega) (by omega) (by omega),show ((n:Int)+1 - 1).toNat=n by omega]
theorem qA(h:ns.length < 64):dU [.lst (nD ns)]=some (.lst (nD (fk ns)),true):=by
 have:fT [.lst (nD ns)]=some (.lst (nD (fk ns)),true):=by unfold fT;simp only [dz,h,decide_true,if_true]
 show iC _=_
 unfold iC;rw [this]
def cE(ts:List (Int×Int)):List (Int×Int):=(Srt.gB (ts.map fun t=>[t.1,t.2])).map fun k=>(k.getD 0 0,k.getD 1 0)
theorem fQ(ts:List (Int×Int)):(cE ts).Perm ts:=by
 unfold cE;refine ((Srt.ck _).map _).trans ?_;rw [List.map_map];refine List.Perm.of_eq ?_;exact (List.map_congr_left (fun t _=>rfl)).trans (List.map_id' _)
theorem kY(ts:List (Int×Int)):(cE ts).map (fun t=>[t.1,t.2])=Srt.gB (ts.map fun t=>[t.1,t.2]):=by
 unfold cE;rw [List.map_map];refine (List.map_congr_left fun k hk=> ?_).trans (List.map_id' _);obtain ⟨t,_,rfl⟩:=List.mem_map.mp ((Srt.ck _).mem_iff.mp hk);rfl
theorem q5(ts:List (Int×Int)):tD ts=(ts.map fun t=>[t.1,t.2]).map nQ:=by rw [tD,List.map_map];rfl
theorem mL:∀ (ks:List (List Int)),(∀ k∈ks,k≠[])→jE (ks.map nQ)=some ks
 | [],_=>rfl
 | k::ks,h=>by
  have e:xT (nQ k)=some k:=by
   cases k with
   | nil=>exact absurd rfl (h _ List.mem_cons_self)
   | cons n ns=>show (match be ((n::ns).map D.int) with | some (n::ns)=>some (n::ns) | _=>none)=_;rw [dz]
  rw [List.map_cons];unfold jE;rw [e,mL ks fun k hk=>h k (List.mem_cons_of_mem _ hk)]
theorem nq{ts:List (Int×Int)}(h:ts.length < 64):dU [.lst (tD ts)]=some (.lst (tD (cE ts)),true):=by
 cases hts:ts with
 | nil=>rfl
 | cons t r =>
  rw [← hts]
  have e0:fT [.lst (tD ts)]=none:=by rw [hts];rfl
  have e1:jE (tD ts)=some (ts.map fun t=>[t.1,t.2]):=by
   rw [q5]
   refine mL _ fun k hk=> ?_
   obtain ⟨t,_,rfl⟩:=List.mem_map.mp hk
   exact fun z=>nomatch z
  show iC _=_
  unfold iC;rw [e0]
  show lE _=_
  unfold lE;simp only [e1,List.length_map,h,decide_true,if_true];rw [← kY,q5]
theorem qH:∀ (a b:List Int),fV (a.map D.int) (b.map D.int)=decide (a=b)
 | [],[]=>rfl
 | [],_::_=>rfl
 | _::_,[]=>rfl
 | x::a,y::b=>by
  show ((x == y)&&fV (a.map D.int) (b.map D.int))=_
  rw [qH a b,Bool.eq_iff_iff];simp
theorem lj:∀ (a:List Int),cw (a.map D.int)=a.map D.int
 | []=>rfl
 | x::a=>by show nrm (.int x)::cw (a.map D.int)=_;rw [lj a];rfl
theorem gM(n:Nat):∀ (a:List Int),(a.map D.int).all (ak n)=true
 | []=>rfl
 | x::a=>by rw [List.map_cons,List.all_cons,gM n a];unfold ak;rfl
theorem qG(n:Nat)(a:List Int):ak (n+1) (.lst (nD a))=true:=by unfold ak;exact gM n a
theorem xq(a b:List Int):eqD (.lst (nD a)) (.lst (nD b))=decide (a=b):=by unfold eqD nrm;rw [lj,lj];show fV _ _=_;exact qH a b
theorem xj:gEq [.lst (nD ns),.lst (nD ms)]=some (.bl (decide (ns=ms)),false):=by unfold gEq;simp only [qG,Bool.and_self,if_true,xq]
theorem jy(h:xs.length+ys.length≤1000):bt [.lst (xs.map inj),.lst (ys.map inj)]=some (.lst ((xs++ys).map inj),true):=by
 unfold bt;simp only [gg (show (xs.map inj).length+(ys.map inj).length≤1000 by rw [List.length_map,List.length_map];exact h),if_true,List.map_append]
theorem uR{ts:List (Int×Int)}(h:ts.length≤999):bt [.lst (tD ts),.lst [.tup [.int a,.int b]]]=some (.lst (tD (ts++[(a,b)])),true):=jy (inj:=vA) (xs:=ts) (ys:=[(a,b)]) (by simp;omega)
theorem vy(h:ns.length≤1000):cq (.lst (nD ns)) [.int a]=some (.lst (nD (ns++[a])),.non):=by
 show (if small (nD ns).length=true then some (D.lst (nD ns++[.int a]),D.non) else none)=_
 rw [if_pos (gg (by rw [List.length_map];exact h)),nD,nD,List.map_append];rfl
theorem pz{ts:List (Int×Int)}(h:ts.length≤1000):cq (.lst (tD ts)) [.tup [.int a,.int b]]=some (.lst (tD (ts++[(a,b)])),.non):=by
 show (if small (tD ts).length=true then some (D.lst (tD ts++[.tup [.int a,.int b]]),D.non) else none)=_
 rw [if_pos (gg (by rw [List.length_map];exact h)),tD,tD,List.map_append];rfl
theorem iI(h:xs.length+ys.length≤1000):cn (.lst (xs.map inj)) [.lst (ys.map inj)]=some (.lst ((xs++ys).map inj),.non):=by
 show (if small ((xs.map inj).length+(ys.map inj).length)=true then some (D.lst (xs.map inj++ys.map inj),D.non) else none)=_
 rw [if_pos (gg (by rw [List.length_map,List.length_map];exact h)),List.map_append]
theorem uSetI(h0:0≤i)(h1:i < ns.length):gY (.lst (nD ns)) (.int i) (.int a)=some (.lst (nD (ns.set i.toNat a))):=by
 obtain ⟨k,rfl⟩:∃ k:Nat,i=k:=⟨i.toNat,by omega⟩
 show (match ixN (nD ns).length (k:Int) with | some n=>some (D.lst ((nD ns).set n (.int a))) | none=>none)=_
 rw [tK (by rw [List.length_map];omega)];simp [nD,List.map_set]
theorem r6(h1 : -(2 ^ 64) < a)(h2:a < 2 ^ 64):iD [.int a,.int b]=some (.int (a * b),false):=by
 show (if m7 a b=true then some (D.int (a * b),false) else none)=_
 rw [if_pos (oQ h1 h2)]
theorem p6(d:D):∀ n,repL n [d]=List.replicate n d
 | 0=>rfl
 | n+1=>by
  have:=p6 d n;unfold repL at this ⊢;rw [List.replicate_succ,List.flatten_cons,this];rfl
theorem xf(h1 : -1000000≤b)(h2:b≤1000000):iD [.lst [.int a],.int b]=some (.lst (nD (List.replicate b.toNat a)),true):=by
 show (if (decide (-1000000≤b∧b≤1000000)&&small ([D.int a].length * b.toNat))=true then some (D.lst (repL b.toNat [.int a]),true) else none)=_
 have:small ([D.int a].length * b.toNat)=true:=decide_eq_true (by simp;omega);rw [if_pos (by rw [this,decide_eq_true ⟨h1,h2⟩];rfl),p6,nD,List.map_replicate]
end
structure Pn where
 a:Int
 f:Int
 s:Int
abbrev pD(P:Pn):D:=uw P.a P.f P.s
theorem km(P:Pn)(m:Int):∃ q:Int×Pn,(0 < m→m < 1073741824→bf [pD P,.int m]=some (.ok (.int q.1) false,pD q.2))∧(0 < m→m < 1073741824→0≤q.1∧q.1 < m):=by
 by_cases h:0 < m∧m < 1073741824
 ·obtain ⟨r,a,f,s,e,h1,h2⟩:=xp P.a P.f P.s m h.1 h.2
  exact ⟨(r,⟨a,f,s⟩),fun _ _=>e,fun _ _=>⟨h1,h2⟩⟩
 ·exact ⟨(0,P),fun a b=>absurd ⟨a,b⟩ h,fun a b=>absurd ⟨a,b⟩ h⟩
noncomputable def dr(P:Pn)(m:Int):Int:=(Classical.choose (km P m)).1
noncomputable def nx(P:Pn)(m:Int):Pn:=(Classical.choose (km P m)).2
theorem tDraw{P:Pn}{m:Int}(h:0 < m)(h2:m < 1073741824):bf [pD P,.int m]=some (.ok (.int (dr P m)) false,pD (nx P m)):=(Classical.choose_spec (km P m)).1 h h2
theorem tS(P:Pn){m:Int}(h:0 < m)(h2:m < 1073741824):0≤dr P m∧dr P m < m:=(Classical.choose_spec (km P m)).2 h h2
theorem wo(c:Int):∃ P:Pn,bN [.int c]=some (.ok (pD P) true,.non):=by
 obtain ⟨a,f,s,e⟩:=zt c;exact ⟨⟨a,f,s⟩,e⟩
noncomputable def pen0(c:Int):Pn:=Classical.choose (wo c)
theorem tPen{c:Int}:bN [.int c]=some (.ok (pD (pen0 c)) true,.non):=Classical.choose_spec (wo c)
noncomputable def tX(ns:List Int)(k:Nat):Int:=Classical.choose (qE ns k)
theorem tCell{ns:List Int}{k:Nat}:bg [.klst (nD ns),.int k]=some (.ok (.int (tX ns k)) false,.non):=Classical.choose_spec (qE ns k)
theorem tCell0{ns:List Int}:bg [.klst (nD ns),.int 0]=some (.ok (.int (tX ns 0)) false,.non):=tCell (k:=0)
end L2
namespace L2
open PySem PySem.Spec PyProof.Rows
section
variable{K:PySem.W.Frag}{F:Fx}{σ:St}{H H1 H2:Hp}{ρ:Rho}{W:List Addr}{p:Addr}
end
def sCallT(run:FS)(f:SE)(as:List Arg):SE:=fun ρ=>match f ρ with
 | some (.ok d true,ρ1)=>match evA as ρ1 with
  | some (.ok ds,ρ2)=>if cx none 0 as ρ2=true then
   match run (d::ds) with
   | some (.ok r nw,_)=>some (.ok r nw,ρ2)
   | some (.ex C,_)=>some (.ex C,ρ2)
   | none=>none
   else none
  | _=>none
 | some (.ok _ false,_)=>none
 | some (.ex C,ρ1)=>some (.ex C,ρ1)
 | none=>none
section
variable{X:Cx}{EX:EXT}{e:Expr}{es:List Expr}{as:List Arg}
end
def constK:Key→Const
 | .inl i=> .int i
 | .inr x=> .str x
inductive JP(X:Cx)(EX:EXT)(pos:Pos):List (Option Expr)→List Expr→List Key→List SE→Prop where
 | nil:JP X EX pos [] [] [] []
 | cons {k:Key} {j:Nat} {p:Pos} {e:Expr} {f:SE} {es:List (Option Expr)} {vs:List Expr} {ks:List Key} {fs:List SE} (h:JE X EX e f) (t:JP X EX pos es vs ks fs):JP X EX pos (some (.Constant (constK k) j p)::es) (e::vs) (k::ks) (f::fs)
def prT(K:PySem.W.Frag)(EX:EXT):List Key→List SE→List (TE×TE)
 | k::ks,f::fs=>(tC (kV k),tV K EX f)::prT K EX ks fs
 | _,_=>[]
def FzM(P:Program)(w:World)(K:PySem.W.Frag)(a:Addr)(kvs:List (Key×V)):Prop :=
 (a == sysModules)=false∧∃ (o:Obj) (es:Array DictEntry) (ep:Nat) (vs:List (Key×Value)),K.lookup a=some o∧o.ExactDict∧o.data = .dict es ep ∧
   KeysOf (bi P w) es∧Pairs (bi P w) es.toList vs∧(vs.map (·.1)).Nodup∧KV kvs vs
structure ua(w:World)(K:PySem.W.Frag)(mg:Str→Option Value)(n:Str)(ks:List Key)(ds:List D):Prop where
 ex:∃ a xs,mg n=some (.ref a)∧ks.length=xs.length∧(∀ P,FzM P w K a (ks.zip xs))∧∀ H,ao K H ds xs
def nv(ks:List Key)(ds:List D):List D→Option (D×Bool)
 | [d]=>match fX d with
  | some k=>match cg ks ds k with
   | some d=>some (d,false)
   | none=>none
  | none=>none
 | _=>none
def zq(ks:List Key)(ds:List D)(neg:Bool):List D→Option (D×Bool)
 | [d]=>match fX d with
  | some k=>some (.bl (if neg then !(cg ks ds k).isSome else (cg ks ds k).isSome),false)
  | none=>none
 | _=>none
section
variable{X:Cx}{EX:EXT}{i:Expr}{pos p:Pos}{y:Arg}{n:Str}{ks:List Key}{ds:List D}
theorem FzM.dict{pins:List (Addr×Obj)}{σ:St}{H:Hp}{s:Shared}{a:Addr}{kvs:List (Key×V)}(h:FzM X.prog X.w X.K a kvs)(I:Inv X pins σ H s):∃ vs,KV kvs vs∧s.heap.DictOf (bi X.prog X.w) a vs:=by
 obtain ⟨_,ob,es,ep,vs,h1,h2,h3,h4,h5,h6,h7⟩:=h;exact ⟨vs,h7,ob,es,ep,I.kIn a ob h1,h2,h3,h4,h5,h6⟩
def tMGet(X:Cx)(td ty:TE):TE:=fun σ H Q=>td σ H fun x H1=>ty σ H1 fun y H2=>∃ a kvs k v,x = .ref a∧y=kV k∧FzM X.prog X.w X.K a kvs∧eC kvs k=some v∧Q v H2
def tMIn(X:Cx)(neg:Bool)(ty td:TE):TE:=fun σ H Q=>ty σ H fun y H1=>td σ H1 fun x H2=>∃ a kvs k,x = .ref a∧y=kV k∧FzM X.prog X.w X.K a kvs∧Q (.bl (if neg then !(eC kvs k).isSome else (eC kvs k).isSome)) H2
theorem yL{o:Expr}{td ty:TE}(ho:PE X o td)(hi:PE X i ty)(hs:NoSl i):PE X (.Subscript o i pos) (tMGet X td ty):=by
 intro pins s σ H Q I h;refine xZ PySem.F.slot_dict_getitem.lookup hs (thn (ho pins s σ H _ I h) fun u s1 ⟨x,H1,I1,rx,q1⟩=>thn (hi pins s1 σ H1 _ I1 q1) fun iv s2 ⟨y,H2,I2,ry,a,kvs,j,v,ex,ey,g,e,q2⟩=> ?_);subst ex;subst ey;obtain rfl:u=Value.ref a:=rx;obtain ⟨vs,rel,dd⟩:=g.dict I2;obtain ⟨w',hw,rw'⟩:=pf.some_of (v:=v) (o:=valueAt vs j) (by rw [← e];exact rel.val j);exact ⟨dd.typeIs,wpAny_getItem_of (nj ry) dd.mapOf hw ⟨v,H2,I2.tok _,rw',q2⟩⟩
theorem pc_min{neg:Bool}{o:Expr}{td ty:TE}(hi:PE X i ty)(ho:PE X o td):PC X (if neg then .NotIn else .In) i o (tMIn X neg ty td):=by
 intro pins s σ H Q I h
 refine thn (hi pins s σ H _ I h) fun iv s1 ⟨y,H1,I1,ry,q1⟩=>thn (ho pins s1 σ H1 _ I1 q1) fun u s2 ⟨x,H2,I2,rx,a,kvs,k,ex,ey,g,q2⟩=> ?_
 subst ex;subst ey;obtain rfl:u=Value.ref a:=rx;obtain ⟨vs,rel,dd⟩:=g.dict I2
 cases neg with
 | false =>
  refine wpAny_in_of (nj ry) g.1 dd.mapOf ⟨.bl (eC kvs k).isSome,H2,I2.tok _,?_,q2⟩;rw [(rel.val k).isSome_eq];rfl
 | true =>
  refine wpAny_notIn_of (nj ry) g.1 dd.mapOf ⟨.bl (!(eC kvs k).isSome),H2,I2.tok _,?_,q2⟩;rw [(rel.val k).isSome_eq];rfl
theorem lu{K:PySem.W.Frag}{H Hh:Hp}{d:D}{v:V}{k:Key}(e:fX d=some k)(r:f9 K H Hh d v):v=kV k:=by
 cases d<;>first | (unfold fX at e;cases e;done) | (unfold fX at e;cases e;exact r)
theorem c_kget(M:ua X.w X.K X.mg n ks ds)(hg:Gl X n)(hi:JB X EX i y)(hd:(n == ("__debug__" : Str))=false:=by decide)(hs:NoSl i:=by exact fun _ _=>rfl):JE X EX (.Subscript (.Name n p) i pos) (sOp (nv ks ds) [y]):=by
 obtain ⟨a,xs,hm,hl,fz,rep⟩:=M.ex;refine ⟨(yL (kl (v:= .ref a) hg hm rfl hd) hi.p hs).by fun σ H Q ⟨F,ρ,W,R,h⟩=> ?_⟩
 have os:OpS X.K (r1 fun yv H2 Q=>∃ a' kvs k v,V.ref a = .ref a'∧yv=kV k∧FzM X.prog X.w X.K a' kvs∧eC kvs k=some v∧Q v H2) (nv ks ds):=by
  intro vs ds' H L Q d nw hm r e q;unfold nv at e
  split at e
  ·obtain ⟨v,rfl,rb⟩:=aO r
   split at e
   ·rename_i k ek
    split at e
    ·rename_i d' ed
     cases e;obtain ⟨v',h1,h2⟩:=(fH (x:=k) hl (rep (hid L H))).1 _ ed;exact ⟨a,_,k,v',rfl,lu ek rb,fz _,h1,q v' H (aj.refl _) h2⟩
    ·cases e
   ·cases e
  ·cases e
 exact dF os R h
theorem zh{neg:Bool}{a:Addr}{xs:List V}(hl:ks.length=xs.length)(fz:∀ P,FzM P X.w X.K a (ks.zip xs))(rep:∀ H,ao X.K H ds xs):OpS X.K (r1 fun yv H2 Q=>∃ a' kvs k,V.ref a = .ref a'∧yv=kV k∧FzM X.prog X.w X.K a' kvs∧Q (.bl (if neg then !(eC kvs k).isSome else (eC kvs k).isSome)) H2) (zq ks ds neg):=by
 intro vs ds' H L Q d nw hm r e q;unfold zq at e
 split at e
 ·obtain ⟨v,rfl,rb⟩:=aO r
  split at e
  ·rename_i k ek
   cases e;refine ⟨a,_,k,rfl,lu ek rb,fz _,q _ H (aj.refl _) ?_⟩;have l:=fH (x:=k) hl (rep (hid L H))
   have e2:(eC (ks.zip xs) k).isSome=(cg ks ds k).isSome:=by
    cases h:cg ks ds k with
    | none=>rw [l.2 h];rfl
    | some d=>obtain ⟨v',h1,_⟩:=l.1 d h;rw [h1];rfl
   show V.bl _ = .bl _
   rw [e2]
  ·cases e
 ·cases e
theorem t_kin{neg:Bool}(M:ua X.w X.K X.mg n ks ds)(hg:Gl X n)(hi:JB X EX i y)(hm2:behindInMarks (if neg then .NotIn else .In) (.Name n p)=false)(hd:(n == ("__debug__" : Str))=false:=by decide):JT X EX (.Compare i [if neg then .NotIn else .In] [.Name n p] pos) (aX (zq ks ds neg) [y]):=by
 obtain ⟨a,xs,hm,hl,fz,rep⟩:=M.ex;exact ⟨(pt_cmp (pc_min (neg:=neg) hi.p (kl (v:= .ref a) hg hm rfl hd)) hm2).by fun σ H Q ⟨F,ρ,W,R,h⟩=>dF (zh hl fz rep) R (Aw h)⟩
end
theorem fzM_of{w:World}{K:PySem.W.Frag}{a:Addr}{ep:Nat}(xs:List (Str×Tok×Addr))(nd:(a == sysModules)=false)(l:K.lookup a=some ⟨.type "dict",none,.dict (xs.map fun x=>(⟨PyData.keyHash w.params x.1,.str x.1 x.2.1,.ref x.2.2⟩:DictEntry)).toArray ep,#[]⟩)(ndp:(xs.map (·.1)).Nodup):∀ P,FzM P w K a (xs.map fun x=>(Sum.inr x.1,V.ref x.2.2)):=by
 intro P;refine ⟨nd,_,_,ep,xs.map fun x=>(Sum.inr x.1,Value.ref x.2.2),l,⟨rfl,rfl,rfl⟩,rfl,fun e he=> ?_,?_,?_,?_⟩
 ·have he:e∈xs.map fun x=>(⟨PyData.keyHash w.params x.1,.str x.1 x.2.1,.ref x.2.2⟩:DictEntry):=by simpa using he
  obtain ⟨x,_,rfl⟩:=List.mem_map.mp he;exact ⟨.inr x.1,fg _ _ x.1 x.2.1,rfl⟩
 ·rw [List.toList_toArray]
  induction xs with
  | nil=>exact .nil
  | cons x xs ih =>
   rw [List.map_cons,List.map_cons];refine .cons (fg _ _ x.1 x.2.1) rfl ?_;clear ih l
   have:∀ ys:List (Str×Tok×Addr),Pairs (bi P w) (ys.map fun x=>(⟨PyData.keyHash w.params x.1,.str x.1 x.2.1,.ref x.2.2⟩:DictEntry)) (ys.map fun x=>(Sum.inr x.1,Value.ref x.2.2)):=by
    intro ys
    induction ys with
    | nil=>exact .nil
    | cons y ys ih=>exact .cons (fg _ _ y.1 y.2.1) rfl ih
   exact this xs
 ·rw [List.map_map]
  have:(xs.map ((fun x:Key×Value=>x.1) ∘ fun x:Str×Tok×Addr=>((Sum.inr x.1:Key),Value.ref x.2.2)))=(xs.map (·.1)).map Sum.inr:=by rw [List.map_map];rfl
  rw [this];refine List.Pairwise.map _ (fun a b h z=>h (Sum.inr.inj z)) ndp
 ·clear l ndp
  induction xs with
  | nil=>exact .nil
  | cons x xs ih=>exact .cons ⟨rfl,rfl⟩ ih
theorem vV{ρ ρ1:Rho}{ds a b zs:List D}{fs:List SE}(h:evA (fs.map Arg.ex) ρ=some (.ok ds,ρ1))(hs:vM ds=some (a,b))(hl:a.length≤b.length)(hz:iF a b=zs):j4 fs ρ=some (.ok zs,ρ1):=by rw [r_zip h hs hl,hz]
section
variable{s t:SS}{p:ST}{ρ ρ1:Rho}{Q:D→Bool→Rho→Prop}{b:Bool}
end
def isT1:Option (Res×D)→Bool
 | some (.ok (.bl true) false,.non)=>true
 | _=>false
theorem zk{o:Option (Res×D)}(h:isT1 o=true):o=some (.ok (.bl true) false,.non):=by
 unfold isT1 at h
 split at h
 ·rfl
 ·cases h
theorem mK{ts:List (Int×Int)}{a b:Int}(h:ts.length≤1000000):cq (.lst (tD ts)) [.tup [.int a,.int b]]=some (.lst (tD (ts++[(a,b)])),.non):=by
 show (if small (tD ts).length=true then some (D.lst (tD ts++[.tup [.int a,.int b]]),D.non) else none)=_
 rw [if_pos (by unfold small;rw [List.length_map];exact decide_eq_true h),tD,tD,List.map_append];rfl
end L2
namespace L2
open PySem PySem.Spec PyProof.Rows
section
variable{X:Cx}{EX:EXT}{a b:Expr}{x y:Arg}{pos:Pos}{K:PySem.W.Frag}
end
end L2
namespace L2
open PyProof.Rows
theorem gf:∀ {a b:List Int},a.Pairwise (·≤ ·)→b.Pairwise (·≤ ·)→a.Perm b→a=b
 | [],b,_,_,p=>by rw [p.nil_eq]
 | x::a,[],_,_,p=>absurd p.symm.nil_eq (by simp)
 | x::a,y::b,ha,hb,p=>by
  have ha':=List.pairwise_cons.mp ha;have hb':=List.pairwise_cons.mp hb
  have e:x=y:=by
   have h1:x∈y::b:=p.mem_iff.mp List.mem_cons_self;have h2:y∈x::a:=p.mem_iff.mpr List.mem_cons_self
   rcases List.mem_cons.mp h1 with h | h
   ·exact h
   ·rcases List.mem_cons.mp h2 with g | g
    ·exact g.symm
    ·have:=hb'.1 x h
     have:=ha'.1 y g;omega
  subst e;rw [gf ha'.2 hb'.2 (List.Perm.cons_inv p)]
theorem kR(lo:Int):∀ n,(rgI lo n).Pairwise (·≤ ·)
 | 0=>List.Pairwise.nil
 | n+1=>by
  rw [bS,List.pairwise_append];refine ⟨kR lo n,List.pairwise_singleton _ _,fun a ha b hb=> ?_⟩;rw [List.mem_singleton.mp hb];have:=bG.mp ha;omega
theorem dv(lo:Int):∀ n,(rgI lo n).Nodup
 | 0=>List.nodup_nil
 | n+1=>by
  rw [bS,List.nodup_append];refine ⟨dv lo n,List.pairwise_singleton _ _,fun a ha b hb=> ?_⟩;rw [List.mem_singleton.mp hb];have:=bG.mp ha;omega
theorem kg(lo:Int)(m:Nat):∀ n,rgI lo (m+n)=rgI lo m++rgI (lo+(m:Nat)) n
 | 0=>by simp [rgI]
 | n+1=>by
  rw [← Nat.add_assoc,bS,kg lo m n,bS,List.append_assoc]
  congr 3
  omega
theorem mw{l m:List Int}(h:l.Perm m)(hm:m.Pairwise (·≤ ·)):fk l=m:=gf (fS l) hm ((iA l).trans h)
theorem uL{l:List Int}{lo:Int}{n:Nat}(h:l.Perm (rgI lo n)):fk l=rgI lo n:=mw h (kR lo n)
theorem jT:∀ (l acc:List Int),(l++acc).Nodup→(l.foldl step_dedup acc).length=acc.length+l.length
 | [],acc,_=>rfl
 | x::l,acc,h=>by
  have h':=List.nodup_cons.mp h
  have e:(step_dedup acc x).length=acc.length+1∧(step_dedup acc x).Perm (x::acc):=by
   unfold step_dedup;rw [if_neg]
   ·exact ⟨by simp,by first | exact List.Perm.refl _ | exact List.perm_append_singleton x acc⟩
   ·intro z
    refine h'.1 (List.mem_append_right _ ?_)
    first
     | (obtain ⟨y,hy,e⟩:=List.any_eq_true.mp z;rw [← eq_of_beq e];exact hy)
     | simpa using z
  have nd:(l++step_dedup acc x).Nodup:=by
   refine ((List.Perm.append_left l e.2).trans ?_).nodup_iff.mpr h;exact List.perm_middle
  rw [List.foldl_cons,jT l _ nd,e.1,List.length_cons];omega
theorem jg{l:List Int}(h:l.Nodup):(dd l).length=l.length:=by
 have:=jT l [] (by simpa using h);unfold dd;simpa using this
end L2
namespace L2
def dnI(hi:Int)(n:Nat):List Int:=(List.range n).map fun k=>hi - (k:Nat)
theorem jf(hi:Int)(n:Nat):(dnI hi n).length=n:=by unfold dnI;simp
theorem xw(hi:Int)(n:Nat):dnI hi (n+1)=hi::dnI (hi - 1) n:=by
 unfold dnI;rw [List.range_succ_eq_map,List.map_cons,List.map_map]
 congr 1
 ·simp
 ·refine List.map_congr_left fun k _=> ?_
  show hi - ((k+1:Nat):Int)=hi - 1 - (k:Nat)
  omega
theorem jd(hi:Int)(n:Nat):dnI hi (n+1)=dnI hi n++[hi - (n:Nat)]:=by unfold dnI;rw [List.range_succ,List.map_append];rfl
theorem tT(hi:Int)(m:Nat):∀ n,dnI hi (m+n)=dnI hi m++dnI (hi - (m:Nat)) n
 | 0=>by simp [dnI]
 | n+1=>by
  rw [← Nat.add_assoc,jd,tT hi m n,jd,List.append_assoc]
  congr 3
  omega
theorem je(hi:Int):∀ n:Nat,(dnI hi n).Perm (rgI (hi - (n:Nat)+1) n)
 | 0=>List.Perm.refl _
 | n+1=>by
  rw [jd,gs];refine (List.perm_append_singleton _ _).trans ?_
  have e:hi - ((n+1:Nat):Int)+1=hi - (n:Nat):=by omega
  rw [e];exact (je hi n).cons _
theorem dnI_at{hi:Int}{n i:Nat}(h:i < n):(dnI hi n)[i]?=some (hi - (i:Nat)):=by
 unfold dnI;rw [List.getElem?_map,List.getElem?_range h];rfl
def rem(legs:List Nat):Nat:=legs.sum+legs.length - 1
def cS(b:Bool)(lo hi:Int):List Nat→List Int
 | []=>[]
 | l::r=>if r=[] then [] else if b then (hi - l)::cS false lo (hi - l - 1) r else (lo+l)::cS true (lo+l+1) hi r
def cL(b:Bool)(lo hi:Int):List Nat→List Int
 | []=>[]
 | l::r=>if b then dnI hi l++cL false lo (hi - l - 1) r else rgI lo l++cL true (lo+l+1) hi r
def cP(b:Bool)(lo hi:Int):List Nat→Int
 | []=>lo - 1
 | l::r=>if r=[] then (if b then lo - 1 else lo+l - 1) else if b then cP false lo (hi - l - 1) r else cP true (lo+l+1) hi r
def cT(k fr:Int):List Nat→List (Int×Int)
 | []=>[]
 | l::r=>(rgI fr l).map (fun x=>(k,x))++(if r=[] then [] else (k,k+1)::cT (k+1) (fr+l) r)
theorem kS{l:Nat}{r:List Nat}(h:r≠[]):rem (l::r)=l+1+rem r:=by
 unfold rem;have:=List.length_pos_iff.mpr h;rw [List.sum_cons,List.length_cons];omega
theorem kh{l:Nat}:rem [l]=l:=by unfold rem;simp
theorem lP:∀ (legs:List Nat) (b:Bool) (lo hi:Int),(cS b lo hi legs).length=legs.length - 1
 | [],_,_,_=>rfl
 | l::r,b,lo,hi=>by
  unfold cS
  split
  ·rename_i h;rw [h];rfl
  ·rename_i h
   have:=List.length_pos_iff.mpr h
   split
   ·rw [List.length_cons,lP r,List.length_cons];omega
   ·rw [List.length_cons,lP r,List.length_cons];omega
theorem lN:∀ (legs:List Nat) (b:Bool) (lo hi:Int),legs≠[]→hi - lo+1=(rem legs:Nat)→(cS b lo hi legs++cL b lo hi legs).Perm (rgI lo (rem legs))
 | [],_,_,_,h,_=>absurd rfl h
 | l::r,b,lo,hi,_,e=>by
  by_cases hr:r=[]
  ·subst hr
   rw [kh] at e ⊢;unfold cS cL;rw [if_pos rfl,List.nil_append]
   show (if b=true then dnI hi l++[] else rgI lo l++[]).Perm _
   split
   ·rw [List.append_nil]
    have:=je hi l;rw [show hi - (l:Nat)+1=lo by omega] at this;exact this
   ·rw [List.append_nil]
  ·rw [kS hr] at e ⊢
   unfold cS cL;rw [if_neg hr]
   cases b with
   | true =>
    have ih:=lN r false lo (hi - l - 1) hr (by omega)
    show (((hi - l)::cS false lo (hi - l - 1) r)++(dnI hi l++cL false lo (hi - l - 1) r)).Perm _
    have p1:(((hi - l)::cS false lo (hi - l - 1) r)++(dnI hi l++cL false lo (hi - l - 1) r)).Perm ((dnI hi l++[hi - l])++(cS false lo (hi - l - 1) r++cL false lo (hi - l - 1) r)):=by
     rw [List.perm_iff_count];intro a;simp only [List.count_append,List.count_cons,List.count_nil];omega
    refine p1.trans ?_;rw [show l+1+rem r=rem r+(l+1) by omega,kg,← jd];have p2:=je hi (l+1);rw [show hi - ((l+1:Nat):Int)+1=lo+(rem r:Nat) by omega] at p2;exact (List.Perm.append p2 ih).trans List.perm_append_comm
   | false =>
    have ih:=lN r true (lo+l+1) hi hr (by omega)
    show (((lo+l)::cS true (lo+l+1) hi r)++(rgI lo l++cL true (lo+l+1) hi r)).Perm _
    have p1:(((lo+l)::cS true (lo+l+1) hi r)++(rgI lo l++cL true (lo+l+1) hi r)).Perm ((rgI lo l++[lo+l])++(cS true (lo+l+1) hi r++cL true (lo+l+1) hi r)):=by
     rw [List.perm_iff_count];intro a;simp only [List.count_append,List.count_cons,List.count_nil];omega
    refine p1.trans ?_;rw [kg,← bS,show lo+((l+1:Nat):Int)=lo+l+1 by omega];exact List.Perm.append_left _ ih
theorem t0:∀ (legs:List Nat) (b:Bool) (lo hi:Int),legs≠[]→hi - lo+1=(rem legs:Nat)→lo - 1≤cP b lo hi legs∧cP b lo hi legs≤hi
 | [],_,_,_,h,_=>absurd rfl h
 | l::r,b,lo,hi,_,e=>by
  by_cases hr:r=[]
  ·subst hr
   rw [kh] at e;unfold cP;rw [if_pos rfl]
   split<;>omega
  ·rw [kS hr] at e
   unfold cP;rw [if_neg hr]
   split
   ·have:=t0 r false lo (hi - l - 1) hr (by omega)
    omega
   ·have:=t0 r true (lo+l+1) hi hr (by omega)
    omega
theorem nG(N:Int→Int):∀ (legs:List Nat) (b:Bool) (lo hi k fr:Int),legs≠[]→hi - lo+1=(rem legs:Nat)→N k=(if b then lo - 1 else hi+1) →
 (∀ (j:Nat) x,(cS b lo hi legs)[j]?=some x→N (k+1+j)=x)→(∀ (j:Nat) x,(cL b lo hi legs)[j]?=some x→N (fr+j)=x) →
 (cT k fr legs).map (fun t=>((N t.1 - N t.2).natAbs:Int))=dnI (rem legs:Nat) (rem legs)∧∀ t∈cT k fr legs,min (N t.1) (N t.2)≤cP b lo hi legs∧cP b lo hi legs < max (N t.1) (N t.2)
 | [],_,_,_,_,_,h,_,_,_,_=>absurd rfl h
 | l::r,b,lo,hi,k,fr,_,e,hk,hs,hl=>by
  have legN:∀ j:Nat,j < l→N (fr+j)=if b then hi - j else lo+j:=fun j hj=>by
   refine hl j _ ?_;unfold cL
   cases b with
   | true=>show (dnI hi l++_)[j]?=_;rw [List.getElem?_append_left (by rw [jf];exact hj),dnI_at hj];rfl
   | false=>show (rgI lo l++_)[j]?=_;rw [List.getElem?_append_left (by rw [aJ];exact hj),rgI_at hj];rfl
  have here:((rgI fr l).map (fun x=>(k,x))).map (fun t=>((N t.1 - N t.2).natAbs:Int))=dnI (rem (l::r):Nat) l:=by
   unfold rgI dnI;rw [List.map_map,List.map_map]
   refine List.map_congr_left fun j hj=> ?_
   have hj:=List.mem_range.mp hj
   show ((N k - N (fr+(j:Nat))).natAbs:Int)=_
   rw [hk,legN j hj]
   have:l≤rem (l::r):=by unfold rem;rw [List.sum_cons,List.length_cons];omega
   split<;>omega
  have bnd:=t0 (l::r) b lo hi (by simp) e
  by_cases hr:r=[]
  ·subst hr
   refine ⟨?_,?_⟩
   ·unfold cT
    rw [if_pos rfl,List.append_nil,here,kh]
   ·intro t ht
    unfold cT at ht;rw [if_pos rfl,List.append_nil] at ht;obtain ⟨x,hx,rfl⟩:=List.mem_map.mp ht;obtain ⟨h1,h2⟩:=bG.mp hx;have hx2:=legN (x - fr).toNat (by omega);rw [show fr+((x - fr).toNat:Nat)=x by omega] at hx2;rw [kh] at e
    show min (N k) (N x)≤_∧_ < max (N k) (N x)
    rw [hk,hx2];unfold cP;rw [if_pos rfl]
    split<;>omega
  ·have er:=kS (l:=l) hr
   have nxt:N (k+1)=if b then hi - l else lo+l:=by
    have:=hs 0 (if b then hi - l else lo+l) (by
     unfold cS;rw [if_neg hr]
     cases b<;>rfl)
    simpa using this
   have ih:=nG N r (!b) (if b then lo else lo+l+1) (if b then hi - l - 1 else hi) (k+1) (fr+l) hr (by rw [er] at e;cases b<;>simp<;>omega) (by rw [nxt];cases b<;>simp<;>omega)
    (fun j x hx=>by
      have:=hs (j+1) x (by
       unfold cS;rw [if_neg hr]
       cases b<;>simpa using hx)
      rw [← this]
      congr 1
      omega)
    (fun j x hx=>by
      have:=hl (l+j) x (by
       unfold cL
       cases b with
       | true=>show (dnI hi l++_)[l+j]?=_;rw [List.getElem?_append_right (by rw [jf];omega),jf,Nat.add_sub_cancel_left];simpa using hx
       | false=>show (rgI lo l++_)[l+j]?=_;rw [List.getElem?_append_right (by rw [aJ];omega),aJ,Nat.add_sub_cancel_left];simpa using hx)
      rw [← this]
      congr 1
      omega)
   have cp:cP b lo hi (l::r)=cP (!b) (if b then lo else lo+l+1) (if b then hi - l - 1 else hi) r:=by
    conv=>lhs;unfold cP
    rw [if_neg hr];cases b<;>rfl
   refine ⟨?_,?_⟩
   ·unfold cT
    rw [if_neg hr,List.map_append,here,List.map_cons,ih.1]
    show _++((N k - N (k+1)).natAbs:Int)::_=_
    rw [hk,nxt,er,show l+1+rem r=l+(rem r+1) by omega,tT,xw]
    congr 2
    ·rw [er] at e
     split<;>omega
    ·congr 1
     omega
   ·intro t ht
    unfold cT at ht;rw [if_neg hr] at ht;have bnd2:=t0 r (!b) (if b then lo else lo+l+1) (if b then hi - l - 1 else hi) hr (by rw [er] at e;cases b<;>simp<;>omega);rw [cp];rw [er] at e
    rcases List.mem_append.mp ht with ht | ht
    ·obtain ⟨x,hx,rfl⟩:=List.mem_map.mp ht
     obtain ⟨h1,h2⟩:=bG.mp hx;have hx2:=legN (x - fr).toNat (by omega);rw [show fr+((x - fr).toNat:Nat)=x by omega] at hx2
     show min (N k) (N x)≤_∧_ < max (N k) (N x)
     rw [hk,hx2]
     cases b<;>simp at bnd2 ⊢ <;> omega
    ·rcases List.mem_cons.mp ht with rfl | ht
     ·show min (N k) (N (k+1))≤_∧_ < max (N k) (N (k+1))
      rw [hk,nxt]
      cases b<;>simp at bnd2 ⊢ <;> omega
     ·exact ih.2 t ht
theorem sI:∀ (legs:List Nat) (k fr:Int),legs≠[]→((cT k fr legs).map Prod.snd).Perm (rgI (k+1) (legs.length - 1)++rgI fr legs.sum)
 | [],_,_,h=>absurd rfl h
 | l::r,k,fr,_=>by
  have e0:((rgI fr l).map (fun x=>(k,x))).map Prod.snd=rgI fr l:=by rw [List.map_map];exact (List.map_congr_left fun x _=>rfl).trans (List.map_id' _)
  unfold cT
  by_cases hr:r=[]
  ·subst hr
   rw [if_pos rfl,List.append_nil,e0];simp [rgI]
  ·have:=List.length_pos_iff.mpr hr
   rw [if_neg hr,List.map_append,e0,List.map_cons,List.length_cons,List.sum_cons,kg,show r.length+1 - 1=(r.length - 1)+1 by omega,gs];have ih:=sI r (k+1) (fr+l) hr
   show (rgI fr l++(k+1)::(cT (k+1) (fr+l) r).map Prod.snd).Perm ((k+1)::rgI (k+1+1) (r.length - 1)++(rgI fr l++rgI (fr+(l:Nat)) r.sum))
   rw [List.perm_iff_count];intro a;have:=List.perm_iff_count.mp ih a;simp only [List.count_append,List.count_cons] at this ⊢;omega
theorem xF{legs:List Nat}(h:legs≠[])(k fr:Int):(cT k fr legs).length=rem legs:=by
 have:=(sI legs k fr h).length_eq;rw [List.length_map,List.length_append,aJ,aJ] at this;have:=List.length_pos_iff.mpr h;unfold rem;omega
theorem sK:∀ (legs:List Nat) (k fr:Int),k+legs.length≤fr→∀ t∈cT k fr legs,k≤t.1∧t.1 < k+legs.length∧t.1 < t.2∧t.2 < fr+legs.sum
 | [],_,_,_,t,ht=>by unfold cT at ht;exact absurd ht List.not_mem_nil
 | l::r,k,fr,hf,t,ht=>by
  rw [List.length_cons] at hf ⊢;rw [List.sum_cons];unfold cT at ht
  rcases List.mem_append.mp ht with ht | ht
  ·obtain ⟨x,hx,rfl⟩:=List.mem_map.mp ht
   obtain ⟨h1,h2⟩:=bG.mp hx
   show k≤k∧k < _∧k < x∧x < _
   omega
  ·split at ht
   ·exact absurd ht List.not_mem_nil
   ·rename_i hr
    have:=List.length_pos_iff.mpr hr
    rcases List.mem_cons.mp ht with rfl | ht
    ·show k≤k∧k < _∧k < k+1∧k+1 < _
     omega
    ·have:=sK r (k+1) (fr+l) (by omega) t ht
     omega
def cN(legs:List Nat):List Int:=(0::cS true 1 (rem legs:Nat) legs)++cL true 1 (rem legs:Nat) legs
theorem t3{legs:List Nat}(h:legs≠[]):(cN legs).Perm (rgI 0 (rem legs+1)):=by
 unfold cN;rw [gs,List.cons_append];exact (lN legs true 1 _ h (by omega)).cons 0
theorem cN_len{legs:List Nat}(h:legs≠[]):(cN legs).length=rem legs+1:=by rw [(t3 h).length_eq,aJ]
theorem tO{l:List Int}{i:Nat}{x:Int}(h:l[i]?=some x):l.getD i 0=x:=by rw [List.getD_eq_getElem?_getD,h];rfl
theorem xG{legs:List Nat}(h:legs≠[]):(cT 0 (legs.length:Nat) legs).map (fun t=>(((cN legs).getD t.1.toNat 0 - (cN legs).getD t.2.toNat 0).natAbs:Int))=dnI (rem legs:Nat) (rem legs)∧∀ t∈cT 0 (legs.length:Nat) legs,min ((cN legs).getD t.1.toNat 0) ((cN legs).getD t.2.toNat 0)≤cP true 1 (rem legs:Nat) legs∧cP true 1 (rem legs:Nat) legs < max ((cN legs).getD t.1.toNat 0) ((cN legs).getD t.2.toNat 0):=by
 have hl:=List.length_pos_iff.mpr h;refine nG (fun i=>(cN legs).getD i.toNat 0) legs true 1 (rem legs:Nat) 0 (legs.length:Nat) h (by omega) rfl (fun j x hx=> ?_) (fun j x hx=> ?_)
 ·refine tO ?_
  rw [show ((0:Int)+1+(j:Nat)).toNat=j+1 by omega];unfold cN;rw [List.getElem?_append_left (by rw [List.length_cons,lP];have:=(List.getElem?_eq_some_iff.mp hx).1;rw [lP] at this;omega),List.getElem?_cons_succ];exact hx
 ·refine tO ?_
  rw [show ((legs.length:Int)+(j:Nat)).toNat=legs.length+j by omega];unfold cN
  have e:(0::cS true 1 (rem legs:Nat) legs).length=legs.length:=by rw [List.length_cons,lP];omega
  rw [List.getElem?_append_right (by rw [e];omega),e,Nat.add_sub_cancel_left];exact hx
def rS(b:Bool)(lo hi:Int)(r:List Nat):List Int:=if r=[] then [] else if b then lo::cS true (lo+1) hi r else hi::cS false lo (hi - 1) r
def rL(b:Bool)(lo hi:Int)(r:List Nat):List Int:=if b then cL true (lo+1) hi r else cL false lo (hi - 1) r
theorem rS_t(lo hi:Int)(l:Nat)(r:List Nat):rS true lo hi (l::r)=lo::rS false (lo+1) (hi - (l:Nat)) r:=by
 unfold rS;rw [if_neg (by simp)]
 by_cases hr:r=[]
 ·subst hr;rfl
 ·rw [if_neg hr]
  show lo::cS true (lo+1) hi (l::r)=lo::((hi - (l:Nat))::cS false (lo+1) (hi - (l:Nat) - 1) r)
  rw [cS,if_neg hr];rfl
theorem rS_f(lo hi:Int)(l:Nat)(r:List Nat):rS false lo hi (l::r)=hi::rS true (lo+(l:Nat)) (hi - 1) r:=by
 unfold rS;rw [if_neg (by simp)]
 by_cases hr:r=[]
 ·subst hr;rfl
 ·rw [if_neg hr]
  show hi::cS false lo (hi - 1) (l::r)=hi::((lo+(l:Nat))::cS true (lo+(l:Nat)+1) (hi - 1) r)
  rw [cS,if_neg hr];rfl
theorem rL_t(lo hi:Int)(l:Nat)(r:List Nat):rL true lo hi (l::r)=dnI hi l++rL false (lo+1) (hi - (l:Nat)) r:=rfl
theorem rL_f(lo hi:Int)(l:Nat)(r:List Nat):rL false lo hi (l::r)=rgI lo l++rL true (lo+(l:Nat)) (hi - 1) r:=rfl
theorem Av{legs:List Nat}(h:legs≠[]):rS true 0 (rem legs:Nat) legs++rL true 0 (rem legs:Nat) legs=cN legs:=by
 unfold rS rL cN;rw [if_neg h];rfl
end L2
namespace L2
theorem fR{α β:Type}{f:α→β}:∀ {l:List α},l.Nodup→(∀ x∈l,∀ y∈l,f x=f y→x=y)→(l.map f).Nodup
 | [],_,_=>List.nodup_nil
 | x::l,nd,h=>by
  have nd:=List.nodup_cons.mp nd;rw [List.map_cons,List.nodup_cons];refine ⟨fun z=> ?_,fR nd.2 fun a ha b hb=>h a (List.mem_cons_of_mem _ ha) b (List.mem_cons_of_mem _ hb)⟩;obtain ⟨y,hy,e⟩:=List.mem_map.mp z;have:=h y (List.mem_cons_of_mem _ hy) x List.mem_cons_self e;subst this;exact nd.1 hy
abbrev stG(ps:List Int)(t:Int×Int):Int:=((ps.getD t.1.toNat 0 - ps.getD t.2.toNat 0).natAbs:Nat)
structure Prt(ts:List (Int×Int))(q:Nat)(ps:List Int)(P:Int):Prop where
 p:ps.Perm (rgI 0 (q+1))
 s:(ts.map (stG ps)).Perm (rgI 1 q)
 m:∀ t∈ts,min (ps.getD t.1.toNat 0) (ps.getD t.2.toNat 0)≤P∧P < max (ps.getD t.1.toNat 0) (ps.getD t.2.toNat 0)
 r:∀ t∈ts,0≤t.1∧t.1 < (q:Int)+1∧0≤t.2∧t.2 < (q:Int)+1
 q0:0 < q
theorem Prt.len{ts:List (Int×Int)}{q:Nat}{ps:List Int}{P:Int}(h:Prt ts q ps P):ps.length=q+1:=by rw [h.p.length_eq,aJ]
theorem Prt.tlen{ts:List (Int×Int)}{q:Nat}{ps:List Int}{P:Int}(h:Prt ts q ps P):ts.length=q:=by have:=h.s.length_eq;rwa [List.length_map,aJ] at this
theorem zD{legs:List Nat}(h0:0 < rem legs)(h:legs≠[]):Prt (cE (cT 0 (legs.length:Nat) legs)) (rem legs) (cN legs) (cP true 1 (rem legs:Nat) legs):=by
 obtain ⟨s1,s2⟩:=xG h;have pm:=fQ (cT 0 (legs.length:Nat) legs);refine ⟨t3 h,(pm.map _).trans ?_,fun t ht=>s2 t (pm.mem_iff.mp ht),fun t ht=> ?_,h0⟩
 ·refine (List.Perm.of_eq s1).trans ?_
  have:=je (rem legs:Nat) (rem legs);rw [show ((rem legs:Nat):Int) - (rem legs:Nat)+1=1 by omega] at this;exact this
 ·have:=sK legs 0 (legs.length:Nat) (by omega) t (pm.mem_iff.mp ht)
  unfold rem;have:=List.length_pos_iff.mpr h;omega
end L2
namespace L2
theorem qe{a b:List (Int×Int)}(h:a.Perm b):cE a=cE b:=by
 unfold cE;rw [Srt.bL (Srt.cU _) (Srt.cU _) ((Srt.ck _).trans ((h.map _).trans (Srt.ck _).symm))]
abbrev iL(legs:List Nat):List Int:=legs.map fun (n:Nat)=>(n:Int)
theorem re:∀ legs:List Nat,(iL legs).sum=((legs.sum:Nat):Int)
 | []=>rfl
 | l::r=>by show ((l:Nat):Int)+(iL r).sum=_;rw [re r,List.sum_cons];omega
def stT(k fr:Int):List Nat→List (Int×Int)
 | []=>[]
 | l::r=>(rgI fr l).map (fun x=>(k,x))++stT (k+1) (fr+l) r
def ib(a:Int)(n:Nat):List (Int×Int):=(rgI a n).map fun p=>(p,p+1)
theorem Au:∀ (legs:List Nat) (k fr:Int),legs≠[]→(ib k (legs.length - 1)++stT k fr legs).Perm (cT k fr legs)
 | [],_,_,h=>absurd rfl h
 | l::r,k,fr,_=>by
  unfold cT stT
  by_cases hr:r=[]
  ·subst hr
   rw [if_pos rfl,List.append_nil];simp [ib,stT,rgI]
  ·have:=List.length_pos_iff.mpr hr
   rw [if_neg hr,List.length_cons,show r.length+1 - 1=(r.length - 1)+1 by omega];have ih:=Au r (k+1) (fr+l) hr
   have e:ib k ((r.length - 1)+1)=(k,k+1)::ib (k+1) (r.length - 1):=by unfold ib;rw [gs,List.map_cons]
   rw [e];rw [List.perm_iff_count];intro a;have:=List.perm_iff_count.mp ih a;simp only [List.count_append,List.count_cons] at this ⊢;omega
def spT(legs:List Nat):List (Int×Int):=ib 0 (legs.length - 1)++stT 0 (legs.length:Nat) legs
theorem kB{legs:List Nat}(h:legs≠[]):(spT legs).Perm (cT 0 (legs.length:Nat) legs):=Au legs 0 _ h
def iW(n:Nat):List (Int×Int):=ib 0 (n - 1)++[(0,(n:Int) - 1)]
def gk(m n:Nat):List (Int×Int):=(rgI 0 m).flatMap fun p=>(rgI (m:Nat) n).map fun x=>(p,x)
structure cc(n:Nat)(ts:List (Int×Int)):Prop where
 r:∀ t∈ts,0≤t.1∧t.1 < t.2∧t.2 < n
 d:ts.Nodup
 l:ts.length≤60
 n0:1≤n
 n:n≤40
theorem i0{α β:Type}{f:α→β}:∀ {l:List α},(l.map f).Nodup→l.Nodup
 | [],_=>List.nodup_nil
 | x::l,h=>by
  rw [List.map_cons] at h;have h:=List.nodup_cons.mp h;exact List.nodup_cons.mpr ⟨fun z=>h.1 (List.mem_map.mpr ⟨x,z,rfl⟩),i0 h.2⟩
theorem cc.perm{n:Nat}{a b:List (Int×Int)}(h:cc n a)(p:a.Perm b):cc n b:=⟨fun t ht=>h.r t (p.mem_iff.mpr ht),p.nodup_iff.mp h.d,by rw [← p.length_eq];exact h.l,h.n0,h.n⟩
theorem sp_ok{legs:List Nat}(h:legs≠[])(m:legs.length+legs.sum≤40):cc (legs.length+legs.sum) (spT legs):=by
 have hl:=List.length_pos_iff.mpr h;refine cc.perm ⟨fun t ht=> ?_,?_,?_,by omega,m⟩ (kB h).symm
 ·have:=sK legs 0 (legs.length:Nat) (by omega) t ht
  omega
 ·refine i0 (f:=Prod.snd) ((sI legs 0 _ h).nodup_iff.mpr ?_)
  rw [List.nodup_append];refine ⟨dv _ _,dv _ _,fun a ha b hb=> ?_⟩;have:=bG.mp ha;have:=bG.mp hb;omega
 ·rw [xF h];unfold rem;omega
def kd(n:Nat)(ts:List (Int×Int)):Bool:=ts.all (fun t=>decide (0≤t.1)&&decide (t.1 < t.2)&&decide (t.2 < (n:Int)))&&decide ts.Nodup&&decide (ts.length≤60)&&decide (1≤n)&&decide (n≤40)
theorem mM{n:Nat}{ts:List (Int×Int)}(h:kd n ts=true):cc n ts:=by
 unfold kd at h;simp only [Bool.and_eq_true,decide_eq_true_eq,List.all_eq_true] at h;obtain ⟨⟨⟨⟨h1,h2⟩,h3⟩,h4⟩,h5⟩:=h;exact ⟨fun t ht=>⟨(h1 t ht).1.1,(h1 t ht).1.2,(h1 t ht).2⟩,h2,h3,h4,h5⟩
theorem rf(m n:Nat):(gk m n).length=m * n:=by
 have:∀ i:Nat,((rgI 0 i).flatMap fun p=>(rgI (m:Nat) n).map fun x=>(p,x)).length=i * n:=by
  intro i
  induction i with
  | zero=>simp [rgI]
  | succ i ih=>rw [bS,List.flatMap_append,List.length_append,ih];simp [aJ,Nat.add_mul]
 exact this m
theorem wN:∀ {legs:List Nat} {m:Nat},legs.sum≤m→∀ l∈legs,l≤m
 | [],_,_,_,h=>absurd h List.not_mem_nil
 | x::r,m,hs,l,h=>by
  rw [List.sum_cons] at hs
  rcases List.mem_cons.mp h with rfl | h
  ·omega
  ·exact wN (legs:=r) (by omega) l h
end L2
namespace L2
def ju(m n:Nat):List (Int×Int):=(rgI 0 (m * n)).map fun k=>(k / (n:Nat),(m:Int)+k % (n:Nat))
def sdN(m n:Nat):List Int:=rgI 0 m++(rgI 0 n).map fun k=>(m:Int) * (k+1)
def sdB(m n:Nat):Bool:=decide (cE (gk m n)=ju m n)&&decide (fk ((ju m n).map fun t=>max ((sdN m n).getD t.1.toNat 0) ((sdN m n).getD t.2.toNat 0) - min ((sdN m n).getD t.1.toNat 0) ((sdN m n).getD t.2.toNat 0))=rgI 1 (m * n))&&decide (i7 ((ju m n).map fun t=>min ((sdN m n).getD t.1.toNat 0) ((sdN m n).getD t.2.toNat 0)) < jq ((ju m n).map fun t=>max ((sdN m n).getD t.1.toNat 0) ((sdN m n).getD t.2.toNat 0)))
def zW:Bool:=(List.range 40).all fun m=>(List.range 40).all fun n=>(decide (m=0)||decide (n=0)||decide (40 < m+n)||decide (60 < m * n))||sdB m n
theorem sd_all:zW=true:=by decide +kernel
theorem zV{m n:Nat}(h1:1≤m)(h2:1≤n)(h3:m+n≤40)(h4:m * n≤60):sdB m n=true:=by
 have h:=sd_all;unfold zW at h;have h:=List.all_eq_true.mp h m (List.mem_range.mpr (by omega));have h:=List.all_eq_true.mp h n (List.mem_range.mpr (by omega))
 rcases (Bool.or_eq_true _ _).mp h with h | h
 ·simp only [Bool.or_eq_true,decide_eq_true_eq] at h
  omega
 ·exact h
theorem tG{m n:Nat}(h2:1≤n):∀ t∈ju m n,0≤t.1∧t.1 < m∧(m:Int)≤t.2∧t.2 < (m:Int)+n:=fun t ht=>by
 obtain ⟨k,hk,rfl⟩:=List.mem_map.mp ht;have hk:=bG.mp hk;have e:((m * n:Nat):Int)=(m:Int) * n:=Int.natCast_mul m n;have h1:k / (n:Int) < m:=Int.ediv_lt_of_lt_mul (by omega) (by omega);have h3:=Int.emod_nonneg k (b:=(n:Int)) (by omega);have h4:=Int.emod_lt_of_pos k (b:=(n:Int)) (by omega);have h5:0≤k / (n:Int):=Int.ediv_nonneg (by omega) (by omega);exact ⟨h5,h1,by show (m:Int)≤m+k % n;omega,by show (m:Int)+k % n < _;omega⟩
theorem rQ{m n:Nat}(h2:1≤n):(ju m n).Nodup:=by
 refine fR (dv _ _) fun x _ y _ e=> ?_
 injection e with e1 e2
 have h1:=Int.mul_ediv_add_emod x n;have h2:=Int.mul_ediv_add_emod y n;rw [e1] at h1;omega
theorem i8(m n:Nat):(ju m n).length=m * n:=by unfold ju;rw [List.length_map,aJ]
theorem yd{m n:Nat}(h1:1≤m)(h2:1≤n)(h3:m+n≤40)(h4:m * n≤60):cE (gk m n)=ju m n∧cc (m+n) (gk m n):=by
 have h:=zV h1 h2 h3 h4;unfold sdB at h;simp only [Bool.and_eq_true,decide_eq_true_eq] at h;refine ⟨h.1.1,cc.perm ⟨fun t ht=> ?_,rQ h2,by rw [i8];exact h4,by omega,h3⟩ (by rw [← h.1.1];exact fQ _)⟩;have:=tG h2 t ht;omega
end L2
namespace L2
structure Nm(n:Nat)(ts:List (Int×Int))(ps:List Int):Prop where
 r:∀ t∈ts,0≤t.1∧t.1 < n∧0≤t.2∧t.2 < n
 l:ts.length < 62
 nl:n≤40
 n0:0 < n
 pl:ps.length=n
 d:(dd ps).length=n
 lo:0≤jq ps
 hi:i7 ps≤ts.length
 s:fk (ts.map fun t=>max (ps.getD t.1.toNat 0) (ps.getD t.2.toNat 0) - min (ps.getD t.1.toNat 0) (ps.getD t.2.toNat 0))=rgI 1 ts.length
theorem Prt.nm{ts:List (Int×Int)}{q:Nat}{ps:List Int}{P:Int}(h:Prt ts q ps P)(hq:q+1≤40):Nm (q+1) ts ps:=by
 have tl:=h.tlen;have ne:ps≠[]:=List.ne_nil_of_length_pos (by rw [h.len];omega);refine ⟨fun t ht=> ?_,by omega,hq,by omega,h.len,by rw [jg (h.p.nodup_iff.mpr (dv _ _)),h.len],?_,?_,?_⟩
 ·have:=h.r t ht
  omega
 ·have:=bG.mp (h.p.mem_iff.mp (i5 ne).1)
  omega
 ·have:=bG.mp (h.p.mem_iff.mp (i6 ne).1)
  omega
 ·rw [tl]
  refine uL (List.Perm.trans (List.Perm.of_eq (List.map_congr_left fun t ht=> ?_)) h.s)
  show _=(((ps.getD t.1.toNat 0 - ps.getD t.2.toNat 0).natAbs:Nat):Int)
  omega
theorem n8(m n:Nat):(sdN m n).length=m+n:=by unfold sdN;rw [List.length_append,List.length_map,aJ,aJ]
theorem sU{m n:Nat}{x:Int}(hx:x∈sdN m n)(h1:1≤m)(h2:1≤n):0≤x∧x≤((m * n:Nat):Int):=by
 unfold sdN at hx;have e:((m * n:Nat):Int)=(m:Int) * n:=Int.natCast_mul m n
 rcases List.mem_append.mp hx with hx | hx
 ·have:=bG.mp hx
  have:(m:Int) * 1≤(m:Int) * n:=Int.mul_le_mul_of_nonneg_left (by omega) (by omega);omega
 ·obtain ⟨k,hk,rfl⟩:=List.mem_map.mp hx
  have hk:=bG.mp hk;have h3:(m:Int) * (k+1)≤(m:Int) * n:=Int.mul_le_mul_of_nonneg_left (by omega) (by omega);have h4:0≤(m:Int) * (k+1):=Int.mul_nonneg (by omega) (by omega);omega
theorem uk{m n:Nat}(h1:1≤m):(sdN m n).Nodup:=by
 unfold sdN;rw [List.nodup_append];refine ⟨dv _ _,fR (dv _ _) fun x _ y _ e=> ?_,fun a ha b hb=> ?_⟩
 ·have:=Int.eq_of_mul_eq_mul_left (by omega:(m:Int)≠0) e
  omega
 ·obtain ⟨k,hk,rfl⟩:=List.mem_map.mp hb
  have hk:=bG.mp hk;have ha:=bG.mp ha;have:(m:Int) * 1≤(m:Int) * (k+1):=Int.mul_le_mul_of_nonneg_left (by omega) (by omega);omega
theorem sd_nm{m n:Nat}(h1:1≤m)(h2:1≤n)(h3:m+n≤40)(h4:m * n≤60):Nm (m+n) (ju m n) (sdN m n)∧i7 ((ju m n).map fun t=>min ((sdN m n).getD t.1.toNat 0) ((sdN m n).getD t.2.toNat 0)) < jq ((ju m n).map fun t=>max ((sdN m n).getD t.1.toNat 0) ((sdN m n).getD t.2.toNat 0)):=by
 have h:=zV h1 h2 h3 h4;unfold sdB at h;simp only [Bool.and_eq_true,decide_eq_true_eq] at h;have ne:sdN m n≠[]:=List.ne_nil_of_length_pos (by rw [n8];omega);refine ⟨⟨fun t ht=> ?_,by rw [i8];omega,h3,by omega,n8 m n,by rw [jg (uk h1),n8],(sU (i5 ne).1 h1 h2).1,by rw [i8];exact (sU (i6 ne).1 h1 h2).2,by rw [i8];exact h.1.2⟩,h.2⟩;have:=tG h2 t ht;omega
def yh:Bool:=(List.range 38).all fun n=>kd (n+3) (iW (n+3))
theorem vS:yh=true:=by decide +kernel
theorem mU{n:Nat}(h1:3≤n)(h2:n≤40):kd n (iW n)=true:=by
 have:=List.all_eq_true.mp vS (n - 3) (List.mem_range.mpr (by omega));rw [show n - 3+3=n by omega] at this;exact this
end L2
namespace L2
def gr(n:Nat):List Int:=(rgI 0 n).map fun p=>if decide (p % 2=0)=true then p / 2+(if decide ((n:Int) % 4=3)=true then (if decide ((n:Int) / 2≤p)=true then 1 else 0) else 0) else (n:Int) - p / 2 - (if decide ((n:Int) % 4=0)=true then (if decide ((n:Int) / 2≤p)=true then 1 else 0) else 0)
def lawR(n:Nat):List (Int×Int):=(rgI 0 n).flatMap fun one=>((rgI 0 one.toNat).filter fun other=>decide (other+1=one)||decide (one - other=(n:Int) - 1)).map fun other=>(other,one)
def uV(n:Nat)(ts:List (Int×Int)):List Int:=(List.range n).map fun j=>((Td.nb (j:Nat) ts).length:Int)
def bX(n:Nat):List (Int×Int):=(0,1)::(0,(n:Int) - 1)::ib 1 (n - 2)
def p0(n:Nat):Bool :=
 decide (cE (iW n)=bX n)&&decide (cE (lawR n)=bX n) &&
 (if n % 4=0∨n % 4=3 then
   decide ((dd (gr n)).length=n)&&decide (0≤jq (gr n))&&decide (i7 (gr n)≤n)&&decide (fk ((bX n).map fun t=>max ((gr n).getD t.1.toNat 0) ((gr n).getD t.2.toNat 0) - min ((gr n).getD t.1.toNat 0) ((gr n).getD t.2.toNat 0))=rgI 1 n)
 else (uV n (bX n)).all (fun c=>decide (c % 2=0))&&decide ((n:Int) * ((n:Int)+1) / 2 % 2=1))
def ringGo:Bool:=(List.range 38).all fun n=>p0 (n+3)
theorem yg:ringGo=true:=by decide +kernel
theorem ou{n:Nat}(h1:3≤n)(h2:n≤40):p0 n=true:=by
 have:=List.all_eq_true.mp yg (n - 3) (List.mem_range.mpr (by omega));rw [show n - 3+3=n by omega] at this;exact this
theorem du{n:Nat}(h:3≤n):(bX n).length=n:=by unfold bX ib;simp [aJ];omega
theorem uo{n:Nat}(h:3≤n):∀ t∈bX n,0≤t.1∧t.1 < t.2∧t.2 < (n:Int):=fun t ht=>by
 unfold bX ib at ht
 rcases List.mem_cons.mp ht with rfl | ht
 ·show (0:Int)≤0∧(0:Int) < 1∧(1:Int) < n;omega
 ·rcases List.mem_cons.mp ht with rfl | ht
  ·show (0:Int)≤0∧(0:Int) < (n:Int) - 1∧(n:Int) - 1 < n;omega
  ·obtain ⟨p,hp,rfl⟩:=List.mem_map.mp ht
   have:=bG.mp hp
   show 0≤p∧p < p+1∧p+1 < (n:Int)
   omega
theorem rA{n:Nat}(h1:3≤n)(h2:n≤40):cE (iW n)=bX n∧cE (lawR n)=bX n:=by
 have h:=ou h1 h2;unfold p0 at h;simp only [Bool.and_eq_true,decide_eq_true_eq] at h;exact h.1
theorem yf{n:Nat}(h1:3≤n)(h2:n≤40)(h3:n % 4=0∨n % 4=3):Nm n (bX n) (gr n):=by
 have h:=ou h1 h2;unfold p0 at h;rw [if_pos h3] at h;simp only [Bool.and_eq_true,decide_eq_true_eq] at h;obtain ⟨_,⟨⟨a,b⟩,c⟩,d⟩:=h;refine ⟨fun t ht=> ?_,by rw [du h1];omega,h2,by omega,by unfold gr;rw [List.length_map,aJ],a,b,by rw [du h1];exact c,by rw [du h1];exact d⟩;have:=uo h1 t ht;omega
theorem vR{n:Nat}(h1:3≤n)(h2:n≤40)(h3:¬ (n % 4=0∨n % 4=3)):(uV n (bX n)).all (fun c=>decide (c % 2=0))=true∧(n:Int) * ((n:Int)+1) / 2 % 2=1:=by
 have h:=ou h1 h2;unfold p0 at h;rw [if_neg h3] at h;simp only [Bool.and_eq_true,decide_eq_true_eq] at h;exact h.2
theorem mZ:∀ ts:List (Int×Int),Td.ik (tD ts)=some ts
 | []=>rfl
 | t::ts=>by
  show (match Td.tF (vA t),Td.ik (tD ts) with | some p,some ps=>some (p::ps) | _,_=>none)=_
  rw [mZ ts];rfl
theorem wZ{n:Nat}{ts:List (Int×Int)}(O:cc n ts):Td.qz (n:Nat) ts=true:=by
 unfold Td.qz;have a:=O.n0;have b:=O.n;rw [decide_eq_true (show (1:Int)≤(n:Nat) by omega),decide_eq_true (show ((n:Nat):Int)≤40 by omega),decide_eq_true O.l,decide_eq_true O.d];simp only [Bool.true_and,Bool.and_true,List.all_eq_true];intro t ht;have:=O.r t ht;rw [decide_eq_true this.1,decide_eq_true this.2.1,decide_eq_true this.2.2];rfl
theorem xU{n:Nat}{ts:List (Int×Int)}(O:cc n ts):Td.lH [hX (n:Nat) ts]=some (.ok (.lst ((List.range n).map fun j=> .lst (nD (Td.nb (j:Nat) ts)))) false,.non):=by
 unfold Td.lH;simp only [mZ,wZ O,if_true];rfl
end L2
namespace K18
open PySem L2 PyProof.Rows
def top(i:Nat):Stmt:=PySem.Challenge.pw_tienumbers_k18_steps_for_each_size.main.body.getD i (.Pass ⟨0,0,0,0⟩)
def gD:D:= .ktup [.ktup [.str "places"],.ktup [.str "even"]]
def bw:List Key:=[.inr "ring",.inr "sides",.inr "full",.inr "wheel",.inr "fan"]
def bx:List D:=[.ktup [.int 3],.ktup [.int 1,.int 1],.ktup [.int 1],.ktup [.int 3],.ktup [.int 1]]
structure Txt(K:PySem.W.Frag)(mg:Str→Option Value):Prop where
 all:mg "all" = none
 bool:mg "bool" = none
 enumerate:mg "enumerate" = none
 int:mg "int" = none
 isi:mg "isinstance" = none
 len:mg "len" = none
 list:mg "list" = none
 max:mg "max" = none
 min:mg "min" = none
 range:mg "range" = none
 set:mg "set" = none
 sorted:mg "sorted" = none
 str:mg "str" = none
 sum:mg "sum" = none
 tuple:mg "tuple" = none
 zip:mg "zip" = none
 MOST_PLACES:∃ t,mg "MOST_PLACES" = some (.int 40 t)
 MOST_TIES:∃ t,mg "MOST_TIES" = some (.int 60 t)
 STEP_BARS:∃ a,mg "STEP_BARS" = some (.ref a)∧∀ H,aH K H gD (.ref a)
section
variable{P:Program}{w:World}{K:PySem.W.Frag}{mg:Str→Option Value}{base:Heap}
def kP:SS:=(aK (cf (sOp (gX "int") [.bor 0]) (fW (sOp (gX "bool") [.bor 0]))))
def eQ:FS:=aB 1 1 none kP
theorem pP:aq ["thing"] ["thing"] (ae (top 5)):=⟨rfl,rfl,rfl,by decide +kernel,rfl,by decide +kernel,by decide +kernel⟩
theorem ql(h:Has K mg "is_whole" (top 5) ["thing"])(T:Txt K mg):OkX P w K mg base "is_whole" ["thing"] 1 (spF K none eQ):=by
 refine a6 h pP (fun f cdv A outer s H E hr=> ?_);exact (am (aA (f6 (nN (vb 0) T.isi T.int) (fZ (As (lR (vb 0) T.isi T.bool))))))
open L2.Td in
theorem oj:aq ["web", "tied", "a", "b"] ["web"] (ae (top 15)):=⟨rfl,rfl,rfl,by decide +kernel,rfl,by decide +kernel,by decide +kernel⟩
open L2.Td in
def ye:Scope:={ kind:= .function,names:=[(".0",.local),("place",.local)],isGenerator:=false,isCoroutine:=false,more:=[] }
open L2.Td in
theorem xH:gO (ae (top 15)) ["web", "tied", "a", "b"] ye ["web", "tied", "a", "b"] ["place"]:=⟨rfl,by decide +kernel,by decide +kernel,by decide +kernel,rfl,by decide +kernel,by decide +kernel,by decide +kernel,by decide +kernel⟩
open L2.Td in
theorem za(h:Has K mg "tied_places" (top 15) ["web"])(T:Txt K mg):Ok P w K mg base "tied_places" ["web"] 1 (vL K):=by
 refine h.ok oj (fun vs H Q E h=> ?_) (fun f cdv A outer s H vs Q E hr h=> ?_)
 ·obtain ⟨wb,many,ties,rfl,_⟩:=h;rfl
 ·obtain ⟨wb,many,ties,rfl,web,m0,m1,q⟩:=h
  obtain ⟨t,bs,h1,h2,h3⟩:=web.at_;have bl:bs.length=ties.length:=Paired.length h3;have lt60:ties.length≤60:=web.len
  refine ⟨_,iY (rG (j:=1) (M:=["web", "tied", "a", "b"]) (tgs:=["place"]) rfl xH.ok (mY (by rfl) T.range (ff (qf rU (pv 0) rJ (fun _ _=>rfl)) gw))
   (fun cl C fp s H=>kj (i:=4) xH.nd rfl (Or.inl rfl)) (fun cl C fp s H=>pif0) (fun cl C fp s H=>wq gw) oj.nd rfl rfl)
   (iY (wf PassesOwn.never rfl (pi_tup (qf rU (pv 0) rJ (fun _ _=>rfl))) (wn rfl (k6 (kj (i:=2) oj.nd rfl (Or.inl rfl)) (k6 (kj (i:=3) oj.nd rfl (Or.inl rfl)) tz)))
     (iY (oD (wv PySem.F.plainAttrs_list PySem.F.slot_list_append PySem.F.type_list_append jp (qf oS (pv 1) (pv 2) (fun _ _=>rfl)) (ff (pv 3) gw)))
     (oC (oD (wv PySem.F.plainAttrs_list PySem.F.slot_list_append PySem.F.type_list_append jp (qf oS (pv 1) (pv 3) (fun _ _=>rfl)) (ff (pv 2) gw))))))
   (oC (rF (pv 1)))),?_⟩
  refine ⟨_,rfl,wb,[.int many,.ref t],0,_,rfl,rfl,.inl (.inl h1),rfl,many,rfl,by omega,by omega,?_⟩;refine so (n:=many.toNat) (fun k ys H'=>aj H H'∧∃ ls:List Addr,ys=ls.map V.ref∧ls.length=k∧ls.Nodup∧∀ l∈ls,H l=none∧H' l=some (.lst [])) ⟨aj.refl H,[],rfl,rfl,List.nodup_nil,fun l hl=>by cases hl⟩ (fun k ys H' hk pv=> ?_) (fun k ys H' hk pv=> ?_) (fun ys H' pv p hp=> ?_)
  ·obtain ⟨_,ls,rfl,e,_⟩:=pv
   rw [List.length_map,e];exact Nat.le_of_lt (dj (by omega))
  ·obtain ⟨e,ls,rfl,el,nd,ea⟩:=pv
   refine ⟨rfl,by show 0≤sizeLine;decide,fun l hl=> .mk hk ⟨e.trans (aj.upd hl),ls++[l],by simp,by simp [el],?_,fun l' hl'=> ?_⟩⟩
   ·refine List.nodup_append.mpr ⟨nd,by simp,fun a ha b hb=> ?_⟩
    have:b=l:=by simpa using hb
    subst this;exact au (ea a ha).2 hl
   ·rcases List.mem_append.mp hl' with hl' | hl'
    ·exact ⟨(ea l' hl').1,aj.upd hl _ _ (ea l' hl').2⟩
    ·have:l'=l:=by simpa using hl'
     subst this;exact ⟨e.free hl,aD⟩
  ·obtain ⟨e,ls,rfl,el,nd,ea⟩:=pv
   have A0:Adj H p ls [] (upd H' p (.lst (ls.map V.ref))):=by
    have np:∀ l∈ls,l≠p:=fun l hl=>au (ea l hl).2 hp
    refine ⟨e.trans (aj.upd hp),aD,nd,fun z=>np p z rfl,e.free hp,fun l hl=>(ea l hl).1,fun j l hj=> ?_⟩;have hl:=List.mem_of_getElem? hj;rw [ar (np l hl)];exact (ea l hl).2
   have s0:=A0.same;refine ⟨_,rfl,wb,[.int many,.ref t],1,_,rfl,rfl,.inl (.inl (s0 _ _ h1)),rfl,t,rfl,⟨bs,.inl (.inl (s0 _ _ h2))⟩,?_⟩;refine zr (K:=K) (a:=t) (xs:=bs) (fun k σ H'=>∃ v2 v3,σ=[some (.ref wb),some (.ref p),v2,v3]∧Adj H p ls (ties.take k) H') ⟨none,none,rfl,A0⟩ (fun k σ H' hk ⟨_,_,_,A⟩=> .inl (.inl (A.same _ _ h2))) ?_ ?_
   ·rintro k x σ H2 hk ⟨v2,v3,rfl,A⟩
    obtain ⟨tt,ht,a,rfl,ha⟩:=Paired.get h3 hk;obtain ⟨g1,g2,g3⟩:=web.good tt (List.mem_of_getElem? ht);obtain ⟨na,ea'⟩:∃ n:Nat,tt.1=n:=⟨tt.1.toNat,by omega⟩;obtain ⟨nb',eb'⟩:∃ n:Nat,tt.2=n:=⟨tt.2.toNat,by omega⟩;have la:ls[na]?=some ls[na]:=List.getElem?_eq_getElem (by omega);have lb:ls[nb']?=some ls[nb']:=List.getElem?_eq_getElem (by omega);have hla:=A.lst na _ la;have hlb:=A.lst nb' _ lb
    have nab:ls[na]≠ls[nb']:=fun z=>by
     have:=A.inj la (z ▸ lb);omega
    have lenN:∀ j:Int,(nb j (ties.take k)).length≤60:=fun j=>by
     have:=wL j (ties.take k);rw [List.length_take] at this;omega
    refine ⟨a,[.int tt.1,.int tt.2],rfl,.inl (.inl (A.same _ _ ha)),rfl,_,_,rfl,_,_,rfl,rfl,?_⟩;refine ⟨_,rfl,_,rfl,p,ls.map V.ref,tt.1,.ref ls[na],rfl,rfl,.inl (.inl A.at_),by rw [ea'];exact t9 (by rw [List.getElem?_map,la];rfl),?_⟩;refine ⟨.inl ⟨rfl,_,.inl (.inl hla)⟩,_,rfl,ls[na],_,_,rfl,rfl,hla,dj (by rw [List.length_map];have:=lenN na;omega),?_⟩
    have p2:(upd H2 ls[na] (.lst ((nb na (ties.take k)).map V.int++[.int tt.2]))) p=some (.lst (ls.map V.ref)):=by
     rw [ar (fun z:p=ls[na]=>A.np (by rw [z];exact List.getElem_mem _))];exact A.at_
    have hlb2:(upd H2 ls[na] (.lst ((nb na (ties.take k)).map V.int++[.int tt.2]))) ls[nb']=some (.lst ((nb nb' (ties.take k)).map V.int)):=by
     rw [ar (Ne.symm nab)];exact hlb
    refine ⟨_,rfl,_,rfl,p,ls.map V.ref,tt.2,.ref ls[nb'],rfl,rfl,.inl (.inl p2),by rw [eb'];exact t9 (by rw [List.getElem?_map,lb];rfl),?_⟩;refine ⟨.inl ⟨rfl,_,.inl (.inl hlb2)⟩,_,rfl,ls[nb'],_,_,rfl,rfl,hlb2,dj (by rw [List.length_map];have:=lenN nb';omega),?_⟩;refine ⟨_,_,rfl,?_⟩;have st:=A.step la lb (by omega)
    have e1:ties.take (k+1)=ties.take k++[((na:Int),(nb':Int))]:=by
     rw [List.take_add_one,ht]
     show _++[tt]=_
     rw [← ea',← eb']
    rw [e1,ea',eb'];rw [List.map_append,List.map_append] at st;exact st
   ·rintro σ H2 ⟨v2,v3,rfl,A⟩
    refine ⟨_,rfl,q p ls H2 el ?_⟩;rw [bl,List.take_length] at A;exact A
def dG:FS:=Td.lH
theorem k8(h:Has K mg "tied_places" (top 15) ["web"])(T:Txt K mg):OkX P w K mg base "tied_places" ["web"] 1 (spF K none dG):=Td.tied_x (za h T)
def eW:SS:=(az (bF 1 (sOp gIx [.bor 0,.ex (sC (.int 0))])) (az (bn (aX gEq [.bor 1,.ex (sC (.str "spine"))]) (aK (sOp bt [.ex (sOp cm [.ex (sOp gIx [.bor 0,.ex (sC (.int 1))])]),.ex (sOp oV [.ex (sOp gIx [.bor 0,.ex (sC (.int 1))])])])) bA) (az (bn (aX gEq [.bor 1,.ex (sC (.str "sides"))]) (aK (sOp bt [.ex (sOp gIx [.bor 0,.ex (sC (.int 1))]),.ex (sOp gIx [.bor 0,.ex (sC (.int 2))])])) bA) (az (bn (sOr (aX gEq [.bor 1,.ex (sC (.str "wheel"))]) (aX gEq [.bor 1,.ex (sC (.str "fan"))])) (aK (sOp bt [.ex (sOp gIx [.bor 0,.ex (sC (.int 1))]),.ex (sC (.int 1))])) bA) (aK (sOp gIx [.bor 0,.ex (sC (.int 1))]))))))
def a7:FS:=aB 1 2 none eW
theorem iK:aq ["kind", "word"] ["kind"] (ae (top 23)):=⟨rfl,rfl,rfl,by decide +kernel,rfl,by decide +kernel,by decide +kernel⟩
theorem oH(h:Has K mg "places_in" (top 23) ["kind"])(T:Txt K mg):OkX P w K mg base "places_in" ["kind"] 1 (spF K none a7):=by
 refine a6 h iK (fun f cdv A outer s H E hr=> ?_)
 have hu:(bO (CXr P w) P w K mg base ["kind", "word"] "places_in" (ae (top 23)) f cdv A outer s H E).A.units+10 < cLine:=by have:=hr.units;show (A.deeper _).units+10 < cLine;omega
 exact (ah (br (i:=1) iK.nd rfl (Or.inl rfl) (aW (vb 0) (aa ag)))
  (ah (bV (cJ hu (vb 1) (aa a8)) (am (aA (bh (aa (cH (m:=T.len) (ha:=(ac (aa (aW (vb 0) (aa ag))) af)))) (aa (Ax (m:=T.sum) (ha:=(ac (aa (aW (vb 0) (aa ag))) af))))))) a9)
  (ah (bV (cJ hu (vb 1) (aa a8)) (am (aA (bh (aa (aW (vb 0) (aa ag))) (aa (aW (vb 0) (aa ag)))))) a9)
  (ah (bV (JW.t (f8 (cJ hu (vb 1) (aa a8)) (fD (cJ hu (vb 1) (aa a8))))) (am (aA (bh (aa (aW (vb 0) (aa ag))) (aa ag)))) a9)
  (am (aA (aW (vb 0) (aa ag))))))))
def kN:SS:=(aK (b8 1 (e9 (.bor 0) (.bor 1)) (.nm 2) none (b5 [(bb 2),(sOp bt [.bor 2,.ex (sC (.int 1))])])))
def bY:FS:=aB 2 2 none kN
theorem pO:aq ["first", "last"] ["first", "last"] (ae (top 25)):=⟨rfl,rfl,rfl,by decide +kernel,rfl,by decide +kernel,by decide +kernel⟩
theorem qk(h:Has K mg "row_ties" (top 25) ["first", "last"])(T:Txt K mg):OkX P w K mg base "row_ties" ["first", "last"] 1 (spF K none bY):=by
 refine a6 h pO (fun f cdv A outer s H E hr=> ?_);exact (am (aA (df (M:=["first", "last"]) (tgs:=["place"]) (T:=(.nm 2)) (c:=none) (f:=(b5 [(bb 2),(sOp bt [.bor 2,.ex (sC (.int 1))])])) rfl (gO.ok (osc:=ae (top 25)) (N:=["first", "last"]) ⟨rfl,by decide +kernel,by decide +kernel,by decide +kernel,rfl,by decide +kernel,by decide +kernel,by decide +kernel,by decide +kernel⟩) (rY (by rfl) T.range (ac (vb 0) (ac (vb 1) af))) (fun _ _ _ _ _=>(aM (i:=2) (by decide +kernel:(["first", "last", "place"]:List Str).Nodup) rfl (Or.inl rfl))) (fun _ _ _ _ _=> .no) (fun _ _ _ _ _=>(b9 (.cons (v 2) (.cons (bh (vb 2) (aa ag)) .nil)))))))
def jG:SS:=(aK (b8 1 (e9 (.bor 1) (.ex (sOp bt [.bor 2,.ex (sC (.int 1))]))) (.nm 3) none (b5 [(bb 0),(bb 3)])))
def aZ:FS:=aB 3 3 none jG
theorem n9:aq ["middle", "first", "last"] ["middle", "first", "last"] (ae (top 26)):=⟨rfl,rfl,rfl,by decide +kernel,rfl,by decide +kernel,by decide +kernel⟩
theorem oF(h:Has K mg "star_ties" (top 26) ["middle", "first", "last"])(T:Txt K mg):OkX P w K mg base "star_ties" ["middle", "first", "last"] 1 (spF K none aZ):=by
 refine a6 h n9 (fun f cdv A outer s H E hr=> ?_);exact (am (aA (df (M:=["middle", "first", "last"]) (tgs:=["place"]) (T:=(.nm 3)) (c:=none) (f:=(b5 [(bb 0),(bb 3)])) rfl (gO.ok (osc:=ae (top 26)) (N:=["middle", "first", "last"]) ⟨rfl,by decide +kernel,by decide +kernel,by decide +kernel,rfl,by decide +kernel,by decide +kernel,by decide +kernel,by decide +kernel⟩) (rY (by rfl) T.range (ac (vb 1) (ac (aa (bh (vb 2) (aa ag))) af))) (fun _ _ _ _ _=>(aM (i:=3) (by decide +kernel:(["middle", "first", "last", "place"]:List Str).Nodup) rfl (Or.inl rfl))) (fun _ _ _ _ _=> .no) (fun _ _ _ _ _=>(b9 (.cons (v 0) (.cons (v 3) .nil)))))))
def bj:SS:=(bn (aX gEq [.ex (sOp eA [.bor 5,.ex (sC (.int 2))]),.ex (sC (.int 0))]) (az (cv (b7 3 cq [(bb 1)])) (az (cv (b7 4 cn [(b8 1 (b6 (.bor 6)) (.nm 7) none (sOp bU [.bor 2,.bor 7]))])) (az (ia 1 (fun i j=>i+j) (sC (.int 1))) (ia 2 (fun i j=>i - j) (bb 6))))) (az (cv (b7 3 cq [(bb 2)])) (az (cv (b7 4 cn [(b8 1 (b6 (.bor 6)) (.nm 7) none (sOp bt [.bor 1,.bor 7]))])) (az (ia 1 (fun i j=>i+j) (bb 6)) (ia 2 (fun i j=>i - j) (sC (.int 1)))))))
def gZ:SS:=(az (bF 1 (sC (.int 0))) (az (bF 2 (sOp bU [.ex (sOp bt [.ex (sOp cm [.bor 0]),.ex (sOp oV [.bor 0])]),.ex (sC (.int 1))])) (az (bF 3 (eh [])) (az (bF 4 (eh [])) (az (em (fb (bb 0)) (.tp [(.nm 5),(.nm 6)]) bj) (aK (sOp dC [.ex (sOp bt [.bor 3,.bor 4])])))))))
def cy:FS:=aB 1 7 none gZ
theorem aN:aq ["legs", "low", "high", "row", "further", "place", "leg"] ["legs"] (ae (top 40)):=⟨rfl,rfl,rfl,by decide +kernel,rfl,by decide +kernel,by decide +kernel⟩
theorem k9(h:Has K mg "spine_steps" (top 40) ["legs"])(T:Txt K mg):OkX P w K mg base "spine_steps" ["legs"] 1 (spF K none cy):=by
 refine a6 h aN (fun f cdv A outer s H E hr=> ?_)
 have hu:(bO (CXr P w) P w K mg base ["legs", "low", "high", "row", "further", "place", "leg"] "spine_steps" (ae (top 40)) f cdv A outer s H E).A.units+10 < cLine:=by have:=hr.units;show (A.deeper _).units+10 < cLine;omega
 exact (ah (br (i:=1) aN.nd rfl (Or.inr rfl) ag)
  (ah (br (i:=2) aN.nd rfl (Or.inr rfl) (dg (aa (bh (aa (cH (m:=T.len) (ha:=(ac (vb 0) af)))) (aa (Ax (m:=T.sum) (ha:=(ac (vb 0) af)))))) (aa ag)))
  (ah (br (i:=3) aN.nd rfl (Or.inl rfl) (ft .nil))
  (ah (br (i:=4) aN.nd rfl (Or.inl rfl) (ft .nil))
  (ah (eY rfl (rZ (by rfl) T.enumerate (v 0)) (lC rfl (cV (aM (i:=5) aN.nd rfl (Or.inl rfl)) (cV (aM (i:=6) aN.nd rfl (Or.inl rfl)) lD))) (am (bV (cJ hu (aa (eS (vb 5) (aa ag))) (aa ag)) (ah (dR (eL 3 (v 1)))
  (ah (dR (gz 4 (df (M:=["legs", "low", "high", "row", "further", "place", "leg"]) (tgs:=["k"]) (T:=(.nm 7)) (c:=none) (f:=(sOp bU [.bor 2,.bor 7])) rfl (gO.ok (osc:=ae (top 40)) (N:=["legs", "low", "high", "row", "further", "place", "leg"]) ⟨rfl,by decide +kernel,by decide +kernel,by decide +kernel,rfl,by decide +kernel,by decide +kernel,by decide +kernel,by decide +kernel⟩) (dB (by rfl) T.range (ac (vb 6) af)) (fun _ _ _ _ _=>(aM (i:=7) (by decide +kernel:(["legs", "low", "high", "row", "further", "place", "leg", "k"]:List Str).Nodup) rfl (Or.inl rfl))) (fun _ _ _ _ _=> .no) (fun _ _ _ _ _=>(dg (vb 2) (vb 7))))))
  (ah (pW (i:=1) rX aN.nd rfl (Or.inr rfl) ag)
  (am (pW (i:=2) wV aN.nd rfl (Or.inr rfl) (v 6)))))) (ah (dR (eL 3 (v 2)))
  (ah (dR (gz 4 (df (M:=["legs", "low", "high", "row", "further", "place", "leg"]) (tgs:=["k"]) (T:=(.nm 7)) (c:=none) (f:=(sOp bt [.bor 1,.bor 7])) rfl (gO.ok (osc:=ae (top 40)) (N:=["legs", "low", "high", "row", "further", "place", "leg"]) ⟨rfl,by decide +kernel,by decide +kernel,by decide +kernel,rfl,by decide +kernel,by decide +kernel,by decide +kernel,by decide +kernel⟩) (dB (by rfl) T.range (ac (vb 6) af)) (fun _ _ _ _ _=>(aM (i:=7) (by decide +kernel:(["legs", "low", "high", "row", "further", "place", "leg", "k"]:List Str).Nodup) rfl (Or.inl rfl))) (fun _ _ _ _ _=> .no) (fun _ _ _ _ _=>(bh (vb 1) (vb 7))))))
  (ah (pW (i:=1) rX aN.nd rfl (Or.inr rfl) (v 6))
  (am (pW (i:=2) wV aN.nd rfl (Or.inr rfl) ag))))))))
  (am (aA (dH (m:=T.tuple) (ha:=(ac (aa (bh (vb 3) (vb 4))) af))))))))))
def g0:SS:=(aK (sOp dC [.ex (sOp bt [.ex (sOp gF [.ex (sOp lF [.bor 0])]),.ex (b8 1 (b6 (.bor 1)) (.nm 2) none (sOp iD [.bor 0,.ex (sOp bt [.bor 2,.ex (sC (.int 1))])]))])]))
def cz:FS:=aB 2 2 none g0
theorem kG:aq ["m", "n"] ["m", "n"] (ae (top 41)):=⟨rfl,rfl,rfl,by decide +kernel,rfl,by decide +kernel,by decide +kernel⟩
theorem ld(h:Has K mg "sides_steps" (top 41) ["m", "n"])(T:Txt K mg):OkX P w K mg base "sides_steps" ["m", "n"] 1 (spF K none cz):=by
 refine a6 h kG (fun f cdv A outer s H E hr=> ?_);exact (am (aA (dH (m:=T.tuple) (ha:=(ac (aa (bh (aa (t8 (m:=T.list) (ha:=(ac (aa (t4 (m:=T.range) (ha:=(ac (vb 0) af)))) af)))) (aa (df (M:=["m", "n"]) (tgs:=["k"]) (T:=(.nm 2)) (c:=none) (f:=(sOp iD [.bor 0,.ex (sOp bt [.bor 2,.ex (sC (.int 1))])])) rfl (gO.ok (osc:=ae (top 41)) (N:=["m", "n"]) ⟨rfl,by decide +kernel,by decide +kernel,by decide +kernel,rfl,by decide +kernel,by decide +kernel,by decide +kernel,by decide +kernel⟩) (dB (by rfl) T.range (ac (vb 1) af)) (fun _ _ _ _ _=>(aM (i:=2) (by decide +kernel:(["m", "n", "k"]:List Str).Nodup) rfl (Or.inl rfl))) (fun _ _ _ _ _=> .no) (fun _ _ _ _ _=>(nM (vb 0) (aa (bh (vb 2) (aa ag))))))))) af)))))
def eF:SS:=(az (bF 3 (sIf (aX gGe [.bor 2,.ex (sOp fo [.bor 0,.ex (sC (.int 2))])]) (sC (.int 1)) (sC (.int 0)))) (bn (aX gEq [.ex (sOp eA [.bor 2,.ex (sC (.int 2))]),.ex (sC (.int 0))]) (cv (b7 1 cq [(sOp bt [.ex (sOp fo [.bor 2,.ex (sC (.int 2))]),.ex (sIf (aX gEq [.ex (sOp eA [.bor 0,.ex (sC (.int 4))]),.ex (sC (.int 3))]) (bb 3) (sC (.int 0)))])])) (cv (b7 1 cq [(sOp bU [.ex (sOp bU [.bor 0,.ex (sOp fo [.bor 2,.ex (sC (.int 2))])]),.ex (sIf (aX gEq [.ex (sOp eA [.bor 0,.ex (sC (.int 4))]),.ex (sC (.int 0))]) (bb 3) (sC (.int 0)))])]))))
def iS:SS:=(az (bF 1 (eh [])) (az (em (b6 (.bor 0)) (.nm 2) eF) (aK (sOp dC [.bor 1]))))
def de:FS:=aB 1 4 none iS
theorem dE:aq ["n", "numbers", "place", "skipped"] ["n"] (ae (top 43)):=⟨rfl,rfl,rfl,by decide +kernel,rfl,by decide +kernel,by decide +kernel⟩
theorem mo(h:Has K mg "ring_steps" (top 43) ["n"])(T:Txt K mg):OkX P w K mg base "ring_steps" ["n"] 1 (spF K none de):=by
 refine a6 h dE (fun f cdv A outer s H E hr=> ?_)
 have hu:(bO (CXr P w) P w K mg base ["n", "numbers", "place", "skipped"] "ring_steps" (ae (top 43)) f cdv A outer s H E).A.units+10 < cLine:=by have:=hr.units;show (A.deeper _).units+10 < cLine;omega
 exact (ah (br (i:=1) dE.nd rfl (Or.inl rfl) (ft .nil))
  (ah (eY rfl (dB (by rfl) T.range (ac (vb 0) af)) (aM (i:=2) dE.nd rfl (Or.inl rfl)) (ah (br (i:=3) dE.nd rfl (Or.inl rfl) (c_if (t_ge (vb 2) (aa (gK (vb 0) (aa ag)))) ag ag))
  (am (bV (cJ hu (aa (eS (vb 2) (aa ag))) (aa ag)) (am (dR (eL 1 (bh (aa (gK (vb 2) (aa ag))) (aa (c_if (cJ hu (aa (eS (vb 0) (aa ag))) (aa ag)) (v 3) ag)))))) (am (dR (eL 1 (dg (aa (dg (vb 0) (aa (gK (vb 2) (aa ag))))) (aa (c_if (cJ hu (aa (eS (vb 0) (aa ag))) (aa ag)) (v 3) ag))))))))))
  (am (aA (dH (m:=T.tuple) (ha:=(ac (vb 1) af)))))))
theorem j0:aq ["script", "k"] ["script", "k"] (ae (top 45)):=⟨rfl,rfl,rfl,by decide +kernel,rfl,by decide +kernel,by decide +kernel⟩
theorem j9(h:Has K mg "_law_cell_at" (top 45) ["script", "k"])(T:Txt K mg):OkX P w K mg base "_law_cell_at" ["script", "k"] 1 (spF K none bg):=by
 refine a6 h j0 (fun f cdv A outer s H E hr=> ?_)
 exact (ah (bV (t_lt (vb 1) (aa (cH (m:=T.len) (ha:=(ac (vb 0) af))))) (am (aA (aW (vb 0) (vb 1)))) a9)
  (am (aA ag)))
theorem iN:aq ["seed"] ["seed"] (ae (top 46)):=⟨rfl,rfl,rfl,by decide +kernel,rfl,by decide +kernel,by decide +kernel⟩
theorem oO(h:Has K mg "_law_next" (top 46) ["seed"])(T:Txt K mg):OkX P w K mg base "_law_next" ["seed"] 1 (spF K none cG):=by
 refine a6 h iN (fun f cdv A outer s H E hr=> ?_)
 exact (ah (br (i:=0) iN.nd rfl (Or.inl rfl) (eS (aa (bh (vb 0) (aa ag))) (aa ag)))
  (am (aA (eS (aa (bh (aa (bh (aa (nM (vb 0) (vb 0))) (aa (nM (aa ag) (vb 0))))) (aa ag))) (aa ag)))))
theorem gl:aq ["cell", "left"] ["cell"] (ae (top 47)):=⟨rfl,rfl,rfl,by decide +kernel,rfl,by decide +kernel,by decide +kernel⟩
theorem lg(h:Has K mg "_law_pen_of" (top 47) ["cell"])(T:Txt K mg):OkX P w K mg base "_law_pen_of" ["cell"] 1 (spF K none bN):=by
 refine a6 h gl (fun f cdv A outer s H E hr=> ?_)
 exact (ah (br (i:=1) gl.nd rfl (Or.inl rfl) (t7 (m:=T.max) (ha:=(ac (vb 0) (ac (aa (dg (aa ag) (vb 0))) af)))))
  (am (aA (ft (.cons (v 1) (.cons (qR (m:=T.int) (ha:=(ac (aa (q_ge (vb 1) (aa (b_pow (aa ag) (aa ag))))) af))) (.cons (eS (vb 1) (aa ag)) .nil)))))))
def iT:SS:=(aK (cf (sOp (gX "int") [.bor 0]) (fW (sOp (gX "bool") [.bor 0]))))
def cr:FS:=aB 1 1 none iT
theorem me:aq ["found"] ["found"] (ae (top 49)):=⟨rfl,rfl,rfl,by decide +kernel,rfl,by decide +kernel,by decide +kernel⟩
theorem mq(h:Has K mg "_law_whole" (top 49) ["found"])(T:Txt K mg):OkX P w K mg base "_law_whole" ["found"] 1 (spF K none cr):=by
 refine a6 h me (fun f cdv A outer s H E hr=> ?_);exact (am (aA (f6 (nN (vb 0) T.isi T.int) (fZ (As (lR (vb 0) T.isi T.bool))))))
def bQ:SS:=(az (cv (b7 1 cq [(b5 [(bb 3),(bb 2)])])) (bF 2 (sOp bt [.bor 2,.ex (sC (.int 1))])))
def aS:SS:=(az (bn (aX gGt [.bor 3,.ex (sC (.int 0))]) (cv (b7 1 cq [(b5 [(sOp bU [.bor 3,.ex (sC (.int 1))]),(bb 3)])])) bA) (em (b6 (.ex (sOp gIx [.bor 0,.bor 3]))) (.nm 4) bQ))
def e8:SS:=(az (bF 1 (eh [])) (az (bF 2 (sOp cm [.bor 0])) (az (em (b6 (.ex (sOp cm [.bor 0]))) (.nm 3) aS) (aK (b5 [(bb 2),(bb 1)])))))
def bK:FS:=aB 1 5 none e8
theorem ba:aq ["legs", "ties", "fresh", "place", "leg"] ["legs"] (ae (top 50)):=⟨rfl,rfl,rfl,by decide +kernel,rfl,by decide +kernel,by decide +kernel⟩
theorem im(h:Has K mg "_law_spine_ties" (top 50) ["legs"])(T:Txt K mg):OkX P w K mg base "_law_spine_ties" ["legs"] 1 (spF K none bK):=by
 refine a6 h ba (fun f cdv A outer s H E hr=> ?_)
 exact (ah (br (i:=1) ba.nd rfl (Or.inl rfl) (ft .nil))
  (ah (br (i:=2) ba.nd rfl (Or.inl rfl) (cH (m:=T.len) (ha:=(ac (vb 0) af))))
  (ah (eY rfl (dB (by rfl) T.range (ac (aa (cH (m:=T.len) (ha:=(ac (vb 0) af)))) af)) (aM (i:=3) ba.nd rfl (Or.inl rfl)) (ah (bV (t_gt (vb 3) (aa ag)) (am (dR (eL 1 (b9 (.cons (dg (vb 3) (aa ag)) (.cons (v 3) .nil)))))) a9)
  (am (eY rfl (dB (by rfl) T.range (ac (aa (aW (vb 0) (vb 3))) af)) (aM (i:=4) ba.nd rfl (Or.inl rfl)) (ah (dR (eL 1 (b9 (.cons (v 3) (.cons (v 2) .nil)))))
  (am (br (i:=2) ba.nd rfl (Or.inl rfl) (bh (vb 2) (aa ag)))))))))
  (am (aA (b9 (.cons (v 2) (.cons (v 1) .nil))))))))
def gn:SS:=(aK (cf (aw none none eQ [.bor 0]) (dS gLe gLe (bb 1) (bb 0) (bb 2))))
def aE:FS:=aB 3 3 none gn
theorem jY:aq ["thing", "least", "most"] ["thing", "least", "most"] (ae (top 6)):=⟨rfl,rfl,rfl,by decide +kernel,rfl,by decide +kernel,by decide +kernel⟩
theorem j7(h:Has K mg "whole_within" (top 6) ["thing", "least", "most"])(T:Txt K mg)(G_is_whole:OkX P w K mg base "is_whole" ["thing"] 1 (spF K none eQ)):OkX P w K mg base "whole_within" ["thing", "least", "most"] 2 (spF K none aE):=by
 refine a6 h jY (fun f cdv A outer s H E hr=> ?_);exact (am (aA (f6 (av (io:=none) (slot:=none) ai G_is_whole hr (by decide) (by rfl) (ac (vb 0) af)) (fZ (zL wF wF wE wE (v 1) (v 0) (v 2))))))
def iP:SS:=(aK (sOp dC [.ex (b8 1 (dh (aw none none dG [.bor 0])) (.nm 1) none (sOp cm [.bor 1]))]))
def cX:FS:=aB 1 1 none iP
theorem l9:aq ["web"] ["web"] (ae (top 14)):=⟨rfl,rfl,rfl,by decide +kernel,rfl,by decide +kernel,by decide +kernel⟩
theorem mj(h:Has K mg "tie_counts" (top 14) ["web"])(T:Txt K mg)(G_tied_places:OkX P w K mg base "tied_places" ["web"] 1 (spF K none dG)):OkX P w K mg base "tie_counts" ["web"] 2 (spF K none cX):=by
 refine a6 h l9 (fun f cdv A outer s H E hr=> ?_);exact (am (aA (dH (m:=T.tuple) (ha:=(ac (aa (df (M:=["web"]) (tgs:=["others"]) (T:=(.nm 1)) (c:=none) (f:=(sOp cm [.bor 1])) rfl (gO.ok (osc:=ae (top 14)) (N:=["web"]) ⟨rfl,by decide +kernel,by decide +kernel,by decide +kernel,rfl,by decide +kernel,by decide +kernel,by decide +kernel,by decide +kernel⟩) (jR (av (io:=none) (slot:=none) ai G_tied_places hr (by decide) (by rfl) (ac (vb 0) af))) (fun _ _ _ _ _=>(aM (i:=1) (by decide +kernel:(["web", "others"]:List Str).Nodup) rfl (Or.inl rfl))) (fun _ _ _ _ _=> .no) (fun _ _ _ _ _=>(cH (m:=T.len) (ha:=(ac (vb 1) af)))))) af)))))
def cM:SS:=(az (cv (b7 1 cn [(aw none none aZ [.bor 3,.bor 2,.ex (sOp bU [.ex (sOp bt [.bor 2,.bor 4]),.ex (sC (.int 1))])])])) (ia 2 (fun i j=>i+j) (bb 4)))
def iQ:SS:=(az (bF 1 (aw none none bY [.ex (sC (.int 0)),.ex (sOp bU [.ex (sOp cm [.bor 0]),.ex (sC (.int 1))])])) (az (bF 2 (sOp cm [.bor 0])) (az (em (fb (bb 0)) (.tp [(.nm 3),(.nm 4)]) cM) (dI 1))))
def cY:FS:=aB 1 5 none iQ
theorem cb:aq ["legs", "ties", "further", "place", "leg"] ["legs"] (ae (top 27)):=⟨rfl,rfl,rfl,by decide +kernel,rfl,by decide +kernel,by decide +kernel⟩
theorem ml(h:Has K mg "spine_ties" (top 27) ["legs"])(T:Txt K mg)(G_row_ties:OkX P w K mg base "row_ties" ["first", "last"] 1 (spF K none bY))(G_star_ties:OkX P w K mg base "star_ties" ["middle", "first", "last"] 1 (spF K none aZ)):OkX P w K mg base "spine_ties" ["legs"] 2 (spF K none cY):=by
 refine a6 h cb (fun f cdv A outer s H E hr=> ?_)
 exact (ah (br (i:=1) cb.nd rfl (Or.inl rfl) (av (io:=none) (slot:=none) ai G_row_ties hr (by decide) (by rfl) (ac (aa ag) (ac (aa (dg (aa (cH (m:=T.len) (ha:=(ac (vb 0) af)))) (aa ag))) af))))
  (ah (br (i:=2) cb.nd rfl (Or.inl rfl) (cH (m:=T.len) (ha:=(ac (vb 0) af))))
  (ah (eY rfl (rZ (by rfl) T.enumerate (v 0)) (lC rfl (cV (aM (i:=3) cb.nd rfl (Or.inl rfl)) (cV (aM (i:=4) cb.nd rfl (Or.inl rfl)) lD))) (ah (dR (gz 1 (av (io:=none) (slot:=none) aV G_star_ties hr (by decide) (by rfl) (ac (vb 3) (ac (vb 2) (ac (aa (dg (aa (bh (vb 2) (vb 4))) (aa ag))) af))))))
  (am (pW (i:=2) rX cb.nd rfl (Or.inl rfl) (v 4)))))
  (am (kO (i:=1) rfl (by first | exact Or.inl rfl | exact Or.inr (Or.inl rfl) | exact Or.inr (Or.inr rfl)))))))
def jH:SS:=(aK (sOp bt [.ex (aw none none bY [.ex (sC (.int 0)),.ex (sOp bU [.bor 0,.ex (sC (.int 1))])]),.ex (eh [(b5 [(sC (.int 0)),(sOp bU [.bor 0,.ex (sC (.int 1))])])])]))
def dM:FS:=aB 1 1 none jH
theorem oa:aq ["n"] ["n"] (ae (top 28)):=⟨rfl,rfl,rfl,by decide +kernel,rfl,by decide +kernel,by decide +kernel⟩
theorem oG(h:Has K mg "ring_ties" (top 28) ["n"])(T:Txt K mg)(G_row_ties:OkX P w K mg base "row_ties" ["first", "last"] 1 (spF K none bY)):OkX P w K mg base "ring_ties" ["n"] 2 (spF K none dM):=by
 refine a6 h oa (fun f cdv A outer s H E hr=> ?_);exact (am (aA (bh (aa (av (io:=none) (slot:=none) ai G_row_ties hr (by decide) (by rfl) (ac (aa ag) (ac (aa (dg (vb 0) (aa ag))) af)))) (aa (ft (.cons (b9 (.cons ag (.cons (dg (vb 0) (aa ag)) .nil))) .nil))))))
def eE:SS:=(cv (b7 2 cn [(aw none none aZ [.bor 3,.bor 0,.ex (sOp bU [.ex (sOp bt [.bor 0,.bor 1]),.ex (sC (.int 1))])])]))
def iR:SS:=(az (bF 2 (eh [])) (az (em (b6 (.bor 0)) (.nm 3) eE) (dI 2)))
def cZ:FS:=aB 2 4 none iR
theorem fv:aq ["m", "n", "ties", "place"] ["m", "n"] (ae (top 29)):=⟨rfl,rfl,rfl,by decide +kernel,rfl,by decide +kernel,by decide +kernel⟩
theorem mm(h:Has K mg "sides_ties" (top 29) ["m", "n"])(T:Txt K mg)(G_star_ties:OkX P w K mg base "star_ties" ["middle", "first", "last"] 1 (spF K none aZ)):OkX P w K mg base "sides_ties" ["m", "n"] 2 (spF K none cZ):=by
 refine a6 h fv (fun f cdv A outer s H E hr=> ?_)
 exact (ah (br (i:=2) fv.nd rfl (Or.inl rfl) (ft .nil))
  (ah (eY rfl (dB (by rfl) T.range (ac (vb 0) af)) (aM (i:=3) fv.nd rfl (Or.inl rfl)) (am (dR (gz 2 (av (io:=none) (slot:=none) aV G_star_ties hr (by decide) (by rfl) (ac (vb 3) (ac (vb 0) (ac (aa (dg (aa (bh (vb 0) (vb 1))) (aa ag))) af))))))))
  (am (kO (i:=2) rfl (by first | exact Or.inl rfl | exact Or.inr (Or.inl rfl) | exact Or.inr (Or.inr rfl))))))
def mf:SS:=(cv (b7 1 cn [(aw none none aZ [.bor 2,.ex (sOp bt [.bor 2,.ex (sC (.int 1))]),.ex (sOp bU [.bor 0,.ex (sC (.int 1))])])]))
def pV:SS:=(az (bF 1 (eh [])) (az (em (b6 (.bor 0)) (.nm 2) mf) (dI 1)))
def gH:FS:=aB 1 3 none pV
theorem fO:aq ["n", "ties", "place"] ["n"] (ae (top 30)):=⟨rfl,rfl,rfl,by decide +kernel,rfl,by decide +kernel,by decide +kernel⟩
theorem oM(h:Has K mg "full_ties" (top 30) ["n"])(T:Txt K mg)(G_star_ties:OkX P w K mg base "star_ties" ["middle", "first", "last"] 1 (spF K none aZ)):OkX P w K mg base "full_ties" ["n"] 2 (spF K none gH):=by
 refine a6 h fO (fun f cdv A outer s H E hr=> ?_)
 exact (ah (br (i:=1) fO.nd rfl (Or.inl rfl) (ft .nil))
  (ah (eY rfl (dB (by rfl) T.range (ac (vb 0) af)) (aM (i:=2) fO.nd rfl (Or.inl rfl)) (am (dR (gz 1 (av (io:=none) (slot:=none) aV G_star_ties hr (by decide) (by rfl) (ac (vb 2) (ac (aa (bh (vb 2) (aa ag))) (ac (aa (dg (vb 0) (aa ag))) af))))))))
  (am (kO (i:=1) rfl (by first | exact Or.inl rfl | exact Or.inr (Or.inl rfl) | exact Or.inr (Or.inr rfl))))))
def rk:SS:=(aK (sOp bt [.ex (aw none none aZ [.ex (sC (.int 0)),.ex (sC (.int 1)),.bor 0]),.ex (aw none none bY [.ex (sC (.int 1)),.bor 0])]))
def eR:FS:=aB 1 1 none rk
theorem pS:aq ["n"] ["n"] (ae (top 31)):=⟨rfl,rfl,rfl,by decide +kernel,rfl,by decide +kernel,by decide +kernel⟩
theorem qo(h:Has K mg "fan_ties" (top 31) ["n"])(T:Txt K mg)(G_star_ties:OkX P w K mg base "star_ties" ["middle", "first", "last"] 1 (spF K none aZ))(G_row_ties:OkX P w K mg base "row_ties" ["first", "last"] 1 (spF K none bY)):OkX P w K mg base "fan_ties" ["n"] 2 (spF K none eR):=by
 refine a6 h pS (fun f cdv A outer s H E hr=> ?_);exact (am (aA (bh (aa (av (io:=none) (slot:=none) ai G_star_ties hr (by decide) (by rfl) (ac (aa ag) (ac (aa ag) (ac (vb 0) af))))) (aa (av (io:=none) (slot:=none) ai G_row_ties hr (by decide) (by rfl) (ac (aa ag) (ac (vb 0) af)))))))
def fA:SS:=(az (bn (aX gEq [.ex (sOp gIx [.bor 0,.ex (sC (.int 0))]),.ex (sC (.str "spine"))]) (aK (aw none none cy [.ex (sOp gIx [.bor 0,.ex (sC (.int 1))])])) bA) (az (bn (aX gEq [.ex (sOp gIx [.bor 0,.ex (sC (.int 0))]),.ex (sC (.str "sides"))]) (aK (aw none none cz [.ex (sOp gIx [.bor 0,.ex (sC (.int 1))]),.ex (sOp gIx [.bor 0,.ex (sC (.int 2))])])) bA) (rl "NoKind")))
def bM:FS:=aB 1 1 none fA
theorem kI:aq ["kind"] ["kind"] (ae (top 39)):=⟨rfl,rfl,rfl,by decide +kernel,rfl,by decide +kernel,by decide +kernel⟩
theorem lf(h:Has K mg "parted_made" (top 39) ["kind"])(T:Txt K mg)(G_spine_steps:OkX P w K mg base "spine_steps" ["legs"] 1 (spF K none cy))(G_sides_steps:OkX P w K mg base "sides_steps" ["m", "n"] 1 (spF K none cz)){A_NoKind:Addr}{bm_NoKind:List Value}{B_NoKind nI_NoKind iI_NoKind:String}(O_NoKind:OwnCls "NoKind" A_NoKind bm_NoKind nI_NoKind mg base)(FB_NoKind:ExcBaseFacts B_NoKind nI_NoKind iI_NoKind bm_NoKind)(C_NoKind:mD K "NoKind" A_NoKind):OkX P w K mg base "parted_made" ["kind"] 2 (spF K none bM):=by
 refine a6 h kI (fun f cdv A outer s H E hr=> ?_)
 have hu:(bO (CXr P w) P w K mg base ["kind"] "parted_made" (ae (top 39)) f cdv A outer s H E).A.units+10 < cLine:=by have:=hr.units;show (A.deeper _).units+10 < cLine;omega
 exact (ah (bV (cJ hu (aa (aW (vb 0) (aa ag))) (aa a8)) (am (aA (av (io:=none) (slot:=none) ai G_spine_steps hr (by decide) (by rfl) (ac (aa (aW (vb 0) (aa ag))) af)))) a9)
  (ah (bV (cJ hu (aa (aW (vb 0) (aa ag))) (aa a8)) (am (aA (av (io:=none) (slot:=none) ai G_sides_steps hr (by decide) (by rfl) (ac (aa (aW (vb 0) (aa ag))) (ac (aa (aW (vb 0) (aa ag))) af))))) a9)
  (am (sV O_NoKind FB_NoKind C_NoKind hr (by rfl)))))
theorem iO:aq ["pen", "many", "found"] ["pen", "many"] (ae (top 48)):=⟨rfl,rfl,rfl,by decide +kernel,rfl,by decide +kernel,by decide +kernel⟩
theorem oP(h:Has K mg "_law_draw" (top 48) ["pen", "many"])(T:Txt K mg)(G__law_next:OkX P w K mg base "_law_next" ["seed"] 1 (spF K none cG)):OkX P w K mg base "_law_draw" ["pen", "many"] 2 (spF K (some 0) bf):=by
 refine a6 h iO (fun f cdv A outer s H E hr=> ?_)
 have hu:(bO (CXr P w) P w K mg base ["pen", "many", "found"] "_law_draw" (ae (top 48)) f cdv A outer s H E).A.units+10 < cLine:=by have:=hr.units;show (A.deeper _).units+10 < cLine;omega
 exact (ah (bV (cJ hu (aa (aW (vb 0) (aa ag))) (aa ag)) (ah (br (i:=2) iO.nd rfl (Or.inl rfl) (eS (aa (aW (vb 0) (aa ag))) (vb 1)))
  (ah (rj (j:=0) (gK (aa (aW (vb 0) (aa ag))) (vb 1)) ag rfl (by first | exact Or.inl rfl | exact Or.inr (Or.inl rfl) | exact Or.inr (Or.inr rfl)))
  (am (kO (i:=2) rfl (by first | exact Or.inl rfl | exact Or.inr (Or.inl rfl) | exact Or.inr (Or.inr rfl)))))) a9)
  (ah (rj (j:=0) (av (io:=none) (slot:=none) ai G__law_next hr (by decide) (by rfl) (ac (aa (bh (aa (av (io:=none) (slot:=none) ai G__law_next hr (by decide) (by rfl) (ac (aa (aW (vb 0) (aa ag))) af))) (aa ag))) af)) ag rfl (by first | exact Or.inl rfl | exact Or.inr (Or.inl rfl) | exact Or.inr (Or.inr rfl)))
  (am (aA (eS (aa (gK (aa (aW (vb 0) (aa ag))) (aa ag))) (vb 1))))))
def ce:SS:=(az (bF 6 (cf (sOp gEq [.ex (sOp bt [.bor 5,.ex (sC (.int 1))]),.bor 4]) (iU (sOp gGt [.bor 5,.ex (sC (.int 0))]) (sOp gEq [.ex (sOp gIx [.bor 0,.ex (sC (.int 0))]),.ex (sC (.str "ring"))])))) (az (bF 7 (iU (cf (sOp gEq [.ex (sOp gIx [.bor 0,.ex (sC (.int 0))]),.ex (sC (.str "wheel"))]) (cf (sOp gEq [.bor 5,.ex (sC (.int 1))]) (sOp gEq [.bor 4,.bor 3]))) (cf (sOp gEq [.ex (sOp gIx [.bor 0,.ex (sC (.int 0))]),.ex (sC (.str "ring"))]) (sOp gEq [.ex (sOp bU [.bor 4,.bor 5]),.ex (sOp bU [.bor 3,.ex (sC (.int 1))])])))) (bn (sOr (aX gEq [.ex (sOp gIx [.bor 0,.ex (sC (.int 0))]),.ex (sC (.str "full"))]) (sOr (dq (.bor 6)) (sOr (dq (.bor 7)) (iV (aX gIn [.ex (sOp gIx [.bor 0,.ex (sC (.int 0))]),.ex (eh [(sC (.str "wheel")),(sC (.str "fan"))])]) (aX gEq [.bor 5,.ex (sC (.int 0))]))))) (cv (b7 2 cq [(b5 [(bb 5),(bb 4)])])) bA)))
def cQ:SS:=(em (b6 (.bor 4)) (.nm 5) ce)
def cA:SS:=(az (bn (aX gEq [.ex (sOp gIx [.bor 0,.ex (sC (.int 0))]),.ex (sC (.str "spine"))]) (az (j5 (.tp [(.nm 1),(.nm 2)]) (aw none none bK [.ex (sOp gIx [.bor 0,.ex (sC (.int 1))])])) (aK (b5 [(bb 1),(sOp dC [.ex (sOp dU [.bor 2])])]))) bA) (az (bF 3 (sOp gIx [.bor 0,.ex (sC (.int 1))])) (az (bn (aX gEq [.ex (sOp gIx [.bor 0,.ex (sC (.int 0))]),.ex (sC (.str "sides"))]) (aK (b5 [(sOp bt [.bor 3,.ex (sOp gIx [.bor 0,.ex (sC (.int 2))])]),(sOp dC [.ex (b8 1 (b6 (.ex (sOp iD [.bor 3,.ex (sOp gIx [.bor 0,.ex (sC (.int 2))])]))) (.nm 8) none (b5 [(sOp fo [.bor 8,.ex (sOp gIx [.bor 0,.ex (sC (.int 2))])]),(sOp bt [.bor 3,.ex (sOp eA [.bor 8,.ex (sOp gIx [.bor 0,.ex (sC (.int 2))])])])]))])])) bA) (az (bF 2 (eh [])) (az (em (b6 (.ex (sOp bt [.bor 3,.ex (sOp mB [.ex (sOp gIn [.ex (sOp gIx [.bor 0,.ex (sC (.int 0))]),.ex (eh [(sC (.str "wheel")),(sC (.str "fan"))])])])]))) (.nm 4) cQ) (aK (b5 [(sOp bt [.bor 3,.ex (sOp mB [.ex (sOp gIn [.ex (sOp gIx [.bor 0,.ex (sC (.int 0))]),.ex (eh [(sC (.str "wheel")),(sC (.str "fan"))])])])]),(sOp dC [.ex (sOp dU [.bor 2])])])))))))
def aU:FS:=aB 1 8 none cA
theorem aP:aq ["kind", "many", "ties", "size", "one", "other", "row", "close"] ["kind"] (ae (top 51)):=⟨rfl,rfl,rfl,by decide +kernel,rfl,by decide +kernel,by decide +kernel⟩
theorem jo(h:Has K mg "_law_made_web" (top 51) ["kind"])(T:Txt K mg)(G__law_spine_ties:OkX P w K mg base "_law_spine_ties" ["legs"] 1 (spF K none bK)):OkX P w K mg base "_law_made_web" ["kind"] 2 (spF K none aU):=by
 refine a6 h aP (fun f cdv A outer s H E hr=> ?_)
 have hu:(bO (CXr P w) P w K mg base ["kind", "many", "ties", "size", "one", "other", "row", "close"] "_law_made_web" (ae (top 51)) f cdv A outer s H E).A.units+10 < cLine:=by have:=hr.units;show (A.deeper _).units+10 < cLine;omega
 exact (ah (bV (cJ hu (aa (aW (vb 0) (aa ag))) (aa a8)) (ah (zY (av (io:=none) (slot:=none) ai G__law_spine_ties hr (by decide) (by rfl) (ac (aa (aW (vb 0) (aa ag))) af)) (lC rfl (cV (aM (i:=1) aP.nd rfl (Or.inl rfl)) (cV (aM (i:=2) aP.nd rfl (Or.inl rfl)) lD))))
  (am (aA (b9 (.cons (v 1) (.cons (dH (m:=T.tuple) (ha:=(ac (aa (kq (m:=T.sorted) (ha:=(ac (vb 2) af)))) af))) .nil)))))) a9)
  (ah (br (i:=3) aP.nd rfl (Or.inr rfl) (aW (vb 0) (aa ag)))
  (ah (bV (cJ hu (aa (aW (vb 0) (aa ag))) (aa a8)) (am (aA (b9 (.cons (bh (vb 3) (aa (aW (vb 0) (aa ag)))) (.cons (dH (m:=T.tuple) (ha:=(ac (aa (df (M:=["kind", "many", "ties", "size", "one", "other", "row", "close"]) (tgs:=["k"]) (T:=(.nm 8)) (c:=none) (f:=(b5 [(sOp fo [.bor 8,.ex (sOp gIx [.bor 0,.ex (sC (.int 2))])]),(sOp bt [.bor 3,.ex (sOp eA [.bor 8,.ex (sOp gIx [.bor 0,.ex (sC (.int 2))])])])])) rfl (gO.ok (osc:=ae (top 51)) (N:=["kind", "many", "ties", "size", "one", "other", "row", "close"]) ⟨rfl,by decide +kernel,by decide +kernel,by decide +kernel,rfl,by decide +kernel,by decide +kernel,by decide +kernel,by decide +kernel⟩) (dB (by rfl) T.range (ac (aa (nM (vb 3) (aa (aW (vb 0) (aa ag))))) af)) (fun _ _ _ _ _=>(aM (i:=8) (by decide +kernel:(["kind", "many", "ties", "size", "one", "other", "row", "close", "k"]:List Str).Nodup) rfl (Or.inl rfl))) (fun _ _ _ _ _=> .no) (fun _ _ _ _ _=>(b9 (.cons (gK (vb 8) (aa (aW (vb 0) (aa ag)))) (.cons (bh (vb 3) (aa (eS (vb 8) (aa (aW (vb 0) (aa ag)))))) .nil)))))) af))) .nil))))) a9)
  (ah (br (i:=2) aP.nd rfl (Or.inl rfl) (ft .nil))
  (ah (eY rfl (dB (by rfl) T.range (ac (aa (bh (vb 3) (aa (qR (m:=T.int) (ha:=(ac (aa (q_in hu (aa (aW (vb 0) (aa ag))) (aa (ft (.cons a8 (.cons a8 .nil)))))) af)))))) af)) (aM (i:=4) aP.nd rfl (Or.inl rfl)) (am (eY rfl (dB (by rfl) T.range (ac (vb 4) af)) (aM (i:=5) aP.nd rfl (Or.inl rfl)) (ah (br (i:=6) aP.nd rfl (Or.inl rfl) (f6 (jl hu (aa (bh (vb 5) (aa ag))) (vb 4)) (fZ (c_or (yz (vb 5) (aa ag)) (fZ (jl hu (aa (aW (vb 0) (aa ag))) (aa a8)))))))
  (ah (br (i:=7) aP.nd rfl (Or.inl rfl) (c_or (f6 (jl hu (aa (aW (vb 0) (aa ag))) (aa a8)) (f6 (jl hu (vb 5) (aa ag)) (fZ (jl hu (vb 4) (vb 3))))) (fZ (f6 (jl hu (aa (aW (vb 0) (aa ag))) (aa a8)) (fZ (jl hu (aa (dg (vb 4) (vb 5))) (aa (dg (vb 3) (aa ag)))))))))
  (am (bV (JW.t (f8 (cJ hu (aa (aW (vb 0) (aa ag))) (aa a8)) (f8 (dL (vb 6)) (f8 (dL (vb 7)) (fD (JW.t (zP (t_in hu (aa (aW (vb 0) (aa ag))) (aa (ft (.cons a8 (.cons a8 .nil))))) (vx (cJ hu (vb 5) (aa ag)))))))))) (am (dR (eL 2 (b9 (.cons (v 5) (.cons (v 4) .nil)))))) a9)))))))
  (am (aA (b9 (.cons (bh (vb 3) (aa (qR (m:=T.int) (ha:=(ac (aa (q_in hu (aa (aW (vb 0) (aa ag))) (aa (ft (.cons a8 (.cons a8 .nil)))))) af))))) (.cons (dH (m:=T.tuple) (ha:=(ac (aa (kq (m:=T.sorted) (ha:=(ac (vb 2) af)))) af))) .nil))))))))))
def eZ:SS:=(az (bn (sOr (dZ (dq (.ex (sOp (gX "tuple") [.bor 1])))) (sOr (aX gNe [.ex (sOp cm [.bor 1]),.ex (sOp gIx [.bor 0,.ex (sC (.int 0))])]) (dZ (dq (.ex (sOp jx [.ex (b8 1 (dh (bb 1)) (.nm 3) none (aw none none cr [.bor 3]))])))))) (aK (sC (.bl false))) bA) (az (bn (sOr (aX gNe [.ex (sOp cm [.ex (sOp uP [.bor 1])]),.ex (sOp gIx [.bor 0,.ex (sC (.int 0))])]) (sOr (aX gLt [.ex (sOp fY [.bor 1]),.ex (sC (.int 0))]) (aX gGt [.ex (sOp fm [.bor 1]),.ex (sOp cm [.ex (sOp gIx [.bor 0,.ex (sC (.int 1))])])]))) (aK (sC (.bl false))) bA) (az (bF 2 (sOp dU [.ex (b8 2 (dh (sOp gIx [.bor 0,.ex (sC (.int 1))])) (.tp [(.nm 3),(.nm 4)]) none (sOp bU [.ex (sOp fm [.ex (sOp gIx [.bor 1,.bor 3]),.ex (sOp gIx [.bor 1,.bor 4])]),.ex (sOp fY [.ex (sOp gIx [.bor 1,.bor 3]),.ex (sOp gIx [.bor 1,.bor 4])])]))])) (aK (sOp gEq [.bor 2,.ex (sOp gF [.ex (sOp lF [.ex (sC (.int 1)),.ex (sOp bt [.ex (sOp cm [.ex (sOp gIx [.bor 0,.ex (sC (.int 1))])]),.ex (sC (.int 1))])])])])))))
def bJ:FS:=aB 2 3 none eZ
theorem eD:aq ["web", "thing", "steps"] ["web", "thing"] (ae (top 53)):=⟨rfl,rfl,rfl,by decide +kernel,rfl,by decide +kernel,by decide +kernel⟩
theorem il(h:Has K mg "_law_steps_good" (top 53) ["web", "thing"])(T:Txt K mg)(G__law_whole:OkX P w K mg base "_law_whole" ["found"] 1 (spF K none cr)):OkX P w K mg base "_law_steps_good" ["web", "thing"] 2 (spF K none bJ):=by
 refine a6 h eD (fun f cdv A outer s H E hr=> ?_)
 have hu:(bO (CXr P w) P w K mg base ["web", "thing", "steps"] "_law_steps_good" (ae (top 53)) f cdv A outer s H E).A.units+10 < cLine:=by have:=hr.units;show (A.deeper _).units+10 < cLine;omega
 exact (ah (bV (JW.t (f8 (fj (dL (aa (fu (vb 1) T.isi T.tuple)))) (f8 (xX hu (aa (cH (m:=T.len) (ha:=(ac (vb 1) af)))) (aa (aW (vb 0) (aa ag)))) (fD (fj (dL (aa (qS (m:=T.all) (ha:=(ac (aa (df (M:=["web", "thing", "steps"]) (tgs:=["number"]) (T:=(.nm 3)) (c:=none) (f:=(aw none none cr [.bor 3])) rfl (gO.ok (osc:=ae (top 53)) (N:=["web", "thing", "steps"]) ⟨rfl,by decide +kernel,by decide +kernel,by decide +kernel,rfl,by decide +kernel,by decide +kernel,by decide +kernel,by decide +kernel⟩) (jR (v 1)) (fun _ _ _ _ _=>(aM (i:=3) (by decide +kernel:(["web", "thing", "steps", "number"]:List Str).Nodup) rfl (Or.inl rfl))) (fun _ _ _ _ _=> .no) (fun _ _ _ _ _=>(av (io:=none) (slot:=none) aV G__law_whole hr (by decide) (by rfl) (ac (vb 3) af))))) af)))))))))) (am (aA kb)) a9)
  (ah (bV (JW.t (f8 (xX hu (aa (cH (m:=T.len) (ha:=(ac (aa (b_set (m:=T.set) (ha:=(ac (vb 1) af)))) af)))) (aa (aW (vb 0) (aa ag)))) (f8 (t_lt (aa (t5 (m:=T.min) (ha:=(ac (vb 1) af)))) (aa ag)) (fD (t_gt (aa (t7 (m:=T.max) (ha:=(ac (vb 1) af)))) (aa (cH (m:=T.len) (ha:=(ac (aa (aW (vb 0) (aa ag))) af))))))))) (am (aA kb)) a9)
  (ah (br (i:=2) eD.nd rfl (Or.inl rfl) (kq (m:=T.sorted) (ha:=(ac (aa (df (M:=["web", "thing", "steps"]) (tgs:=["a", "b"]) (T:=(.tp [(.nm 3),(.nm 4)])) (c:=none) (f:=(sOp bU [.ex (sOp fm [.ex (sOp gIx [.bor 1,.bor 3]),.ex (sOp gIx [.bor 1,.bor 4])]),.ex (sOp fY [.ex (sOp gIx [.bor 1,.bor 3]),.ex (sOp gIx [.bor 1,.bor 4])])])) rfl (gO.ok (osc:=ae (top 53)) (N:=["web", "thing", "steps"]) ⟨rfl,by decide +kernel,by decide +kernel,by decide +kernel,rfl,by decide +kernel,by decide +kernel,by decide +kernel,by decide +kernel⟩) (jR (aW (vb 0) (aa ag))) (fun _ _ _ _ _=>(lC rfl (cV (aM (i:=3) (by decide +kernel:(["web", "thing", "steps", "a", "b"]:List Str).Nodup) rfl (Or.inl rfl)) (cV (aM (i:=4) (by decide +kernel:(["web", "thing", "steps", "a", "b"]:List Str).Nodup) rfl (Or.inl rfl)) lD)))) (fun _ _ _ _ _=> .no) (fun _ _ _ _ _=>(dg (aa (t7 (m:=T.max) (ha:=(ac (aa (aW (vb 1) (vb 3))) (ac (aa (aW (vb 1) (vb 4))) af))))) (aa (t5 (m:=T.min) (ha:=(ac (aa (aW (vb 1) (vb 3))) (ac (aa (aW (vb 1) (vb 4))) af))))))))) af))))
  (am (aA (jl hu (vb 2) (aa (t8 (m:=T.list) (ha:=(ac (aa (t4 (m:=T.range) (ha:=(ac (aa ag) (ac (aa (bh (aa (cH (m:=T.len) (ha:=(ac (aa (aW (vb 0) (aa ag))) af)))) (aa ag))) af))))) af))))))))))
def jI:SS:=(aK (aw none none aE [.bor 0,.ex (sC (.int 1)),.ex (sC (.int 40))]))
def dN:FS:=aB 1 1 none jI
theorem of:aq ["thing"] ["thing"] (ae (top 10)):=⟨rfl,rfl,rfl,by decide +kernel,rfl,by decide +kernel,by decide +kernel⟩
theorem oI(h:Has K mg "many_good" (top 10) ["thing"])(T:Txt K mg)(G_whole_within:OkX P w K mg base "whole_within" ["thing", "least", "most"] 2 (spF K none aE)):OkX P w K mg base "many_good" ["thing"] 3 (spF K none dN):=by
 refine a6 h of (fun f cdv A outer s H E hr=> ?_);exact (am (aA (av (io:=none) (slot:=none) ai G_whole_within hr (by decide) (by rfl) (ac (vb 0) (ac (aa ag) (ac (aa (jA (by rfl) T.MOST_PLACES)) af))))))
def kQ:SS:=(aK (aw none none aE [.bor 1,.ex (sC (.int 0)),.ex (sOp bU [.bor 0,.ex (sC (.int 1))])]))
def dD:FS:=aB 2 2 none kQ
theorem pQ:aq ["many", "thing"] ["many", "thing"] (ae (top 12)):=⟨rfl,rfl,rfl,by decide +kernel,rfl,by decide +kernel,by decide +kernel⟩
theorem qm(h:Has K mg "is_place" (top 12) ["many", "thing"])(T:Txt K mg)(G_whole_within:OkX P w K mg base "whole_within" ["thing", "least", "most"] 2 (spF K none aE)):OkX P w K mg base "is_place" ["many", "thing"] 3 (spF K none dD):=by
 refine a6 h pQ (fun f cdv A outer s H E hr=> ?_);exact (am (aA (av (io:=none) (slot:=none) ai G_whole_within hr (by decide) (by rfl) (ac (vb 1) (ac (aa ag) (ac (aa (dg (vb 0) (aa ag))) af))))))
def jJ:SS:=(az (bn (sOr (dZ (dq (.ex (sOp (gX "tuple") [.bor 0])))) (aX gEq [.ex (sOp cm [.bor 0]),.ex (sC (.int 0))])) (aK (sC (.bl false))) bA) (aK (sOp jx [.ex (b8 1 (dh (bb 0)) (.nm 1) none (aw none none aE [.bor 1,.ex (sC (.int 0)),.ex (sC (.int 40))]))])))
def dO:FS:=aB 1 1 none jJ
theorem og:aq ["thing"] ["thing"] (ae (top 21)):=⟨rfl,rfl,rfl,by decide +kernel,rfl,by decide +kernel,by decide +kernel⟩
theorem oJ(h:Has K mg "legs_good" (top 21) ["thing"])(T:Txt K mg)(G_whole_within:OkX P w K mg base "whole_within" ["thing", "least", "most"] 2 (spF K none aE)):OkX P w K mg base "legs_good" ["thing"] 3 (spF K none dO):=by
 refine a6 h og (fun f cdv A outer s H E hr=> ?_)
 have hu:(bO (CXr P w) P w K mg base ["thing"] "legs_good" (ae (top 21)) f cdv A outer s H E).A.units+10 < cLine:=by have:=hr.units;show (A.deeper _).units+10 < cLine;omega
 exact (ah (bV (JW.t (f8 (fj (dL (aa (fu (vb 0) T.isi T.tuple)))) (fD (cJ hu (aa (cH (m:=T.len) (ha:=(ac (vb 0) af)))) (aa ag))))) (am (aA kb)) a9)
  (am (aA (qS (m:=T.all) (ha:=(ac (aa (df (M:=["thing"]) (tgs:=["leg"]) (T:=(.nm 1)) (c:=none) (f:=(aw none none aE [.bor 1,.ex (sC (.int 0)),.ex (sC (.int 40))])) rfl (gO.ok (osc:=ae (top 21)) (N:=["thing"]) ⟨rfl,by decide +kernel,by decide +kernel,by decide +kernel,rfl,by decide +kernel,by decide +kernel,by decide +kernel,by decide +kernel⟩) (jR (v 0)) (fun _ _ _ _ _=>(aM (i:=1) (by decide +kernel:(["thing", "leg"]:List Str).Nodup) rfl (Or.inl rfl))) (fun _ _ _ _ _=> .no) (fun _ _ _ _ _=>(av (io:=none) (slot:=none) aV G_whole_within hr (by decide) (by rfl) (ac (vb 1) (ac (aa ag) (ac (aa (jA (by rfl) T.MOST_PLACES)) af))))))) af))))))
def eG:SS:=(az (bn (aX gNe [.ex (sOp cm [.bor 1]),.ex (sOp cm [.bor 0])]) (aK (sC (.bl false))) bA) (aK (sOp jx [.ex (b8 2 (j4 [(bb 0),(bb 1)]) (.tp [(.nm 2),(.nm 3)]) none (aw none none aE [.bor 3,.bor 2,.ex (sC (.int 40))]))])))
def bz:FS:=aB 2 2 none eG
theorem jZ:aq ["leasts", "things"] ["leasts", "things"] (ae (top 22)):=⟨rfl,rfl,rfl,by decide +kernel,rfl,by decide +kernel,by decide +kernel⟩
theorem j8(h:Has K mg "numbers_good" (top 22) ["leasts", "things"])(T:Txt K mg)(G_whole_within:OkX P w K mg base "whole_within" ["thing", "least", "most"] 2 (spF K none aE)):OkX P w K mg base "numbers_good" ["leasts", "things"] 3 (spF K none bz):=by
 refine a6 h jZ (fun f cdv A outer s H E hr=> ?_)
 have hu:(bO (CXr P w) P w K mg base ["leasts", "things"] "numbers_good" (ae (top 22)) f cdv A outer s H E).A.units+10 < cLine:=by have:=hr.units;show (A.deeper _).units+10 < cLine;omega
 exact (ah (bV (xX hu (aa (cH (m:=T.len) (ha:=(ac (vb 1) af)))) (aa (cH (m:=T.len) (ha:=(ac (vb 0) af))))) (am (aA kb)) a9)
  (am (aA (qS (m:=T.all) (ha:=(ac (aa (df (M:=["leasts", "things"]) (tgs:=["least", "thing"]) (T:=(.tp [(.nm 2),(.nm 3)])) (c:=none) (f:=(aw none none aE [.bor 3,.bor 2,.ex (sC (.int 40))])) rfl (gO.ok (osc:=ae (top 22)) (N:=["leasts", "things"]) ⟨rfl,by decide +kernel,by decide +kernel,by decide +kernel,rfl,by decide +kernel,by decide +kernel,by decide +kernel,by decide +kernel⟩) (i_zip (by rfl) T.zip (.cons (v 0) (.cons (v 1) .nil))) (fun _ _ _ _ _=>(lC rfl (cV (aM (i:=2) (by decide +kernel:(["leasts", "things", "least", "thing"]:List Str).Nodup) rfl (Or.inl rfl)) (cV (aM (i:=3) (by decide +kernel:(["leasts", "things", "least", "thing"]:List Str).Nodup) rfl (Or.inl rfl)) lD)))) (fun _ _ _ _ _=> .no) (fun _ _ _ _ _=>(av (io:=none) (slot:=none) aV G_whole_within hr (by decide) (by rfl) (ac (vb 3) (ac (vb 2) (ac (aa (jA (by rfl) T.MOST_PLACES)) af))))))) af))))))
def om:SS:=(aK (sOp bt [.ex (aw none none eR [.bor 0]),.ex (eh [(b5 [(sC (.int 1)),(bb 0)])])]))
def fU:FS:=aB 1 1 none om
theorem l8:aq ["n"] ["n"] (ae (top 32)):=⟨rfl,rfl,rfl,by decide +kernel,rfl,by decide +kernel,by decide +kernel⟩
theorem mh(h:Has K mg "wheel_ties" (top 32) ["n"])(T:Txt K mg)(G_fan_ties:OkX P w K mg base "fan_ties" ["n"] 2 (spF K none eR)):OkX P w K mg base "wheel_ties" ["n"] 3 (spF K none fU):=by
 refine a6 h l8 (fun f cdv A outer s H E hr=> ?_);exact (am (aA (bh (aa (av (io:=none) (slot:=none) ai G_fan_ties hr (by decide) (by rfl) (ac (vb 0) af))) (aa (ft (.cons (b9 (.cons ag (.cons (v 0) .nil))) .nil))))))
def dl:SS:=(az (bF 2 (sOp cm [.ex (sOp gIx [.bor 0,.ex (sC (.int 1))])])) (az (bn (aX gEq [.bor 1,.ex (b5 [(sC (.str "places"))])]) (aK (sOp gGt [.ex (sOp gIx [.bor 0,.ex (sC (.int 0))]),.ex (sOp bt [.bor 2,.ex (sC (.int 1))])])) bA) (az (bn (aX gEq [.bor 1,.ex (b5 [(sC (.str "even"))])]) (aK (cf (sOp jx [.ex (b8 1 (dh (aw none none cX [.bor 0])) (.nm 3) none (sOp gEq [.ex (sOp eA [.bor 3,.ex (sC (.int 2))]),.ex (sC (.int 0))]))]) (sOp gEq [.ex (sOp eA [.ex (sOp fo [.ex (sOp iD [.bor 2,.ex (sOp bt [.bor 2,.ex (sC (.int 1))])]),.ex (sC (.int 2))]),.ex (sC (.int 2))]),.ex (sC (.int 1))]))) bA) (aK (sC (.bl false))))))
def bd:FS:=aB 2 3 none dl
theorem eU:aq ["web", "thing", "q"] ["web", "thing"] (ae (top 35)):=⟨rfl,rfl,rfl,by decide +kernel,rfl,by decide +kernel,by decide +kernel⟩
theorem iZ(h:Has K mg "step_bar_holds" (top 35) ["web", "thing"])(T:Txt K mg)(G_tie_counts:OkX P w K mg base "tie_counts" ["web"] 2 (spF K none cX)):OkX P w K mg base "step_bar_holds" ["web", "thing"] 3 (spF K none bd):=by
 refine a6 h eU (fun f cdv A outer s H E hr=> ?_)
 have hu:(bO (CXr P w) P w K mg base ["web", "thing", "q"] "step_bar_holds" (ae (top 35)) f cdv A outer s H E).A.units+10 < cLine:=by have:=hr.units;show (A.deeper _).units+10 < cLine;omega
 exact (ah (br (i:=2) eU.nd rfl (Or.inl rfl) (cH (m:=T.len) (ha:=(ac (aa (aW (vb 0) (aa ag))) af))))
  (ah (bV (cJ hu (vb 1) (aa (b9 (.cons a8 .nil)))) (am (aA (yz (aa (aW (vb 0) (aa ag))) (aa (bh (vb 2) (aa ag)))))) a9)
  (ah (bV (cJ hu (vb 1) (aa (b9 (.cons a8 .nil)))) (am (aA (f6 (qS (m:=T.all) (ha:=(ac (aa (df (M:=["web", "thing", "q"]) (tgs:=["count"]) (T:=(.nm 3)) (c:=none) (f:=(sOp gEq [.ex (sOp eA [.bor 3,.ex (sC (.int 2))]),.ex (sC (.int 0))])) rfl (gO.ok (osc:=ae (top 35)) (N:=["web", "thing", "q"]) ⟨rfl,by decide +kernel,by decide +kernel,by decide +kernel,rfl,by decide +kernel,by decide +kernel,by decide +kernel,by decide +kernel⟩) (jR (av (io:=none) (slot:=none) ai G_tie_counts hr (by decide) (by rfl) (ac (vb 0) af))) (fun _ _ _ _ _=>(aM (i:=3) (by decide +kernel:(["web", "thing", "q", "count"]:List Str).Nodup) rfl (Or.inl rfl))) (fun _ _ _ _ _=> .no) (fun _ _ _ _ _=>(jl hu (aa (eS (vb 3) (aa ag))) (aa ag))))) af))) (fZ (jl hu (aa (eS (aa (gK (aa (nM (vb 2) (aa (bh (vb 2) (aa ag))))) (aa ag))) (aa ag))) (aa ag)))))) a9)
  (am (aA kb)))))
def kK:SS:=(az (bn (sOr (dZ (dq (.ex (sOp (gX "tuple") [.bor 1])))) (aX gNe [.ex (sOp cm [.bor 1]),.ex (sC (.int 2))])) (aK (sC .non)) bA) (az (bn (sOr (dZ (dq (.ex (sOp jx [.ex (b8 1 (dh (bb 1)) (.nm 2) none (aw none none dD [.bor 0,.bor 2]))])))) (aX gEq [.ex (sOp gIx [.bor 1,.ex (sC (.int 0))]),.ex (sOp gIx [.bor 1,.ex (sC (.int 1))])])) (aK (sC .non)) bA) (aK (b5 [(sOp fY [.bor 1]),(sOp fm [.bor 1])]))))
def eO:FS:=aB 2 2 none kK
theorem pN:aq ["many", "thing"] ["many", "thing"] (ae (top 11)):=⟨rfl,rfl,rfl,by decide +kernel,rfl,by decide +kernel,by decide +kernel⟩
theorem qi(h:Has K mg "tie_told" (top 11) ["many", "thing"])(T:Txt K mg)(G_is_place:OkX P w K mg base "is_place" ["many", "thing"] 3 (spF K none dD)):OkX P w K mg base "tie_told" ["many", "thing"] 4 (spF K none eO):=by
 refine a6 h pN (fun f cdv A outer s H E hr=> ?_)
 have hu:(bO (CXr P w) P w K mg base ["many", "thing"] "tie_told" (ae (top 11)) f cdv A outer s H E).A.units+10 < cLine:=by have:=hr.units;show (A.deeper _).units+10 < cLine;omega
 exact (ah (bV (JW.t (f8 (fj (dL (aa (fu (vb 1) T.isi T.tuple)))) (fD (xX hu (aa (cH (m:=T.len) (ha:=(ac (vb 1) af)))) (aa ag))))) (am (aA tY)) a9)
  (ah (bV (JW.t (f8 (fj (dL (aa (qS (m:=T.all) (ha:=(ac (aa (df (M:=["many", "thing"]) (tgs:=["end"]) (T:=(.nm 2)) (c:=none) (f:=(aw none none dD [.bor 0,.bor 2])) rfl (gO.ok (osc:=ae (top 11)) (N:=["many", "thing"]) ⟨rfl,by decide +kernel,by decide +kernel,by decide +kernel,rfl,by decide +kernel,by decide +kernel,by decide +kernel,by decide +kernel⟩) (jR (v 1)) (fun _ _ _ _ _=>(aM (i:=2) (by decide +kernel:(["many", "thing", "end"]:List Str).Nodup) rfl (Or.inl rfl))) (fun _ _ _ _ _=> .no) (fun _ _ _ _ _=>(av (io:=none) (slot:=none) aV G_is_place hr (by decide) (by rfl) (ac (vb 0) (ac (vb 2) af)))))) af)))))) (fD (cJ hu (aa (aW (vb 1) (aa ag))) (aa (aW (vb 1) (aa ag))))))) (am (aA tY)) a9)
  (am (aA (b9 (.cons (t5 (m:=T.min) (ha:=(ac (vb 1) af))) (.cons (t7 (m:=T.max) (ha:=(ac (vb 1) af))) .nil)))))))
def eX:SS:=(az (bn (sOr (dZ (dq (.ex (sOp (gX "tuple") [.bor 0])))) (aX gLt [.ex (sOp cm [.bor 0]),.ex (sC (.int 2))])) (aK (sC (.bl false))) bA) (az (bF 1 (sOp gIx [.bor 0,.ex (sC (.int 0))])) (az (bn (aX gEq [.bor 1,.ex (sC (.str "spine"))]) (aK (cf (sOp gEq [.ex (sOp cm [.bor 0]),.ex (sC (.int 2))]) (aw none none dO [.ex (sOp gIx [.bor 0,.ex (sC (.int 1))])]))) bA) (az (bn (sOr (dZ (dq (.ex (sOp (gX "str") [.bor 1])))) (aX (zq bw bx true) [.bor 1])) (aK (sC (.bl false))) bA) (aK (aw none none bz [.ex (sOp (nv bw bx) [.bor 1]),.ex (sOp xb [.bor 0,.ex (sC (.int 1))])]))))))
def bv:FS:=aB 1 2 none eX
theorem iM:aq ["thing", "word"] ["thing"] (ae (top 20)):=⟨rfl,rfl,rfl,by decide +kernel,rfl,by decide +kernel,by decide +kernel⟩
theorem oN(h:Has K mg "form_good" (top 20) ["thing"])(T:Txt K mg)(G_legs_good:OkX P w K mg base "legs_good" ["thing"] 3 (spF K none dO))(G_numbers_good:OkX P w K mg base "numbers_good" ["leasts", "things"] 3 (spF K none bz))(M_LEAST_NUMBERS:ua w K mg "LEAST_NUMBERS" bw bx):OkX P w K mg base "form_good" ["thing"] 4 (spF K none bv):=by
 refine a6 h iM (fun f cdv A outer s H E hr=> ?_)
 have hu:(bO (CXr P w) P w K mg base ["thing", "word"] "form_good" (ae (top 20)) f cdv A outer s H E).A.units+10 < cLine:=by have:=hr.units;show (A.deeper _).units+10 < cLine;omega
 exact (ah (bV (JW.t (f8 (fj (dL (aa (fu (vb 0) T.isi T.tuple)))) (fD (t_lt (aa (cH (m:=T.len) (ha:=(ac (vb 0) af)))) (aa ag))))) (am (aA kb)) a9)
  (ah (br (i:=1) iM.nd rfl (Or.inl rfl) (aW (vb 0) (aa ag)))
  (ah (bV (cJ hu (vb 1) (aa a8)) (am (aA (f6 (jl hu (aa (cH (m:=T.len) (ha:=(ac (vb 0) af)))) (aa ag)) (fZ (av (io:=none) (slot:=none) ai G_legs_good hr (by decide) (by rfl) (ac (aa (aW (vb 0) (aa ag))) af)))))) a9)
  (ah (bV (JW.t (f8 (fj (dL (aa (vp (vb 1) T.isi T.str)))) (fD (t_kin (neg:=true) M_LEAST_NUMBERS (by rfl) (vb 1) (by rfl))))) (am (aA kb)) a9)
  (am (aA (av (io:=none) (slot:=none) ai G_numbers_good hr (by decide) (by rfl) (ac (aa (c_kget M_LEAST_NUMBERS (by rfl) (vb 1))) (ac (aa (c_sl10 sl_any os_s10 (vb 0) (aa ag))) af)))))))))
def gP:SS:=(az (bF 1 (sOp gIx [.bor 0,.ex (sC (.int 0))])) (az (bn (aX gEq [.bor 1,.ex (sC (.str "spine"))]) (aK (aw none none cY [.ex (sOp gIx [.bor 0,.ex (sC (.int 1))])])) bA) (az (bn (aX gEq [.bor 1,.ex (sC (.str "ring"))]) (aK (aw none none dM [.ex (sOp gIx [.bor 0,.ex (sC (.int 1))])])) bA) (az (bn (aX gEq [.bor 1,.ex (sC (.str "sides"))]) (aK (aw none none cZ [.ex (sOp gIx [.bor 0,.ex (sC (.int 1))]),.ex (sOp gIx [.bor 0,.ex (sC (.int 2))])])) bA) (az (bn (aX gEq [.bor 1,.ex (sC (.str "full"))]) (aK (aw none none gH [.ex (sOp gIx [.bor 0,.ex (sC (.int 1))])])) bA) (az (bn (aX gEq [.bor 1,.ex (sC (.str "wheel"))]) (aK (aw none none fU [.ex (sOp gIx [.bor 0,.ex (sC (.int 1))])])) bA) (aK (aw none none eR [.ex (sOp gIx [.bor 0,.ex (sC (.int 1))])]))))))))
def bC:FS:=aB 1 2 none gP
theorem kF:aq ["kind", "word"] ["kind"] (ae (top 24)):=⟨rfl,rfl,rfl,by decide +kernel,rfl,by decide +kernel,by decide +kernel⟩
theorem rM(h:Has K mg "ties_in" (top 24) ["kind"])(T:Txt K mg)(G_spine_ties:OkX P w K mg base "spine_ties" ["legs"] 2 (spF K none cY))(G_ring_ties:OkX P w K mg base "ring_ties" ["n"] 2 (spF K none dM))(G_sides_ties:OkX P w K mg base "sides_ties" ["m", "n"] 2 (spF K none cZ))(G_full_ties:OkX P w K mg base "full_ties" ["n"] 2 (spF K none gH))(G_wheel_ties:OkX P w K mg base "wheel_ties" ["n"] 3 (spF K none fU))(G_fan_ties:OkX P w K mg base "fan_ties" ["n"] 2 (spF K none eR)):OkX P w K mg base "ties_in" ["kind"] 4 (spF K none bC):=by
 refine a6 h kF (fun f cdv A outer s H E hr=> ?_)
 have hu:(bO (CXr P w) P w K mg base ["kind", "word"] "ties_in" (ae (top 24)) f cdv A outer s H E).A.units+10 < cLine:=by have:=hr.units;show (A.deeper _).units+10 < cLine;omega
 exact (ah (br (i:=1) kF.nd rfl (Or.inl rfl) (aW (vb 0) (aa ag)))
  (ah (bV (cJ hu (vb 1) (aa a8)) (am (aA (av (io:=none) (slot:=none) ai G_spine_ties hr (by decide) (by rfl) (ac (aa (aW (vb 0) (aa ag))) af)))) a9)
  (ah (bV (cJ hu (vb 1) (aa a8)) (am (aA (av (io:=none) (slot:=none) ai G_ring_ties hr (by decide) (by rfl) (ac (aa (aW (vb 0) (aa ag))) af)))) a9)
  (ah (bV (cJ hu (vb 1) (aa a8)) (am (aA (av (io:=none) (slot:=none) ai G_sides_ties hr (by decide) (by rfl) (ac (aa (aW (vb 0) (aa ag))) (ac (aa (aW (vb 0) (aa ag))) af))))) a9)
  (ah (bV (cJ hu (vb 1) (aa a8)) (am (aA (av (io:=none) (slot:=none) ai G_full_ties hr (by decide) (by rfl) (ac (aa (aW (vb 0) (aa ag))) af)))) a9)
  (ah (bV (cJ hu (vb 1) (aa a8)) (am (aA (av (io:=none) (slot:=none) ai G_wheel_ties hr (by decide) (by rfl) (ac (aa (aW (vb 0) (aa ag))) af)))) a9)
  (am (aA (av (io:=none) (slot:=none) ai G_fan_ties hr (by decide) (by rfl) (ac (aa (aW (vb 0) (aa ag))) af))))))))))
def fP:SS:=(bn (dq (.ex (aw none none bd [.bor 0,.bor 1]))) (dI 1) bA)
def kM:SS:=(az (em (dh (sC gD)) (.nm 1) fP) (aK (sC .non)))
def eP:FS:=aB 1 2 none kM
theorem jF:aq ["web", "bar"] ["web"] (ae (top 36)):=⟨rfl,rfl,rfl,by decide +kernel,rfl,by decide +kernel,by decide +kernel⟩
theorem qj(h:Has K mg "step_bar" (top 36) ["web"])(T:Txt K mg)(G_step_bar_holds:OkX P w K mg base "step_bar_holds" ["web", "thing"] 3 (spF K none bd)):OkX P w K mg base "step_bar" ["web"] 4 (spF K none eP):=by
 refine a6 h jF (fun f cdv A outer s H E hr=> ?_)
 exact (ah (eY rfl (jR (c_gk (by rfl) T.STEP_BARS)) (aM (i:=1) jF.nd rfl (Or.inl rfl)) (am (bV (dL (aa (av (io:=none) (slot:=none) aV G_step_bar_holds hr (by decide) (by rfl) (ac (vb 0) (ac (vb 1) af))))) (am (kO (i:=1) rfl (by first | exact Or.inl rfl | exact Or.inr (Or.inl rfl) | exact Or.inr (Or.inr rfl)))) a9)))
  (am (aA tY)))
def h9:SS:=(az (bF 5 (aw none none eO [.bor 0,.bor 4])) (az (bn (sOr (aX gIs [.bor 5,.ex (sC .non)]) (sOr (aX gIn [.bor 5,.bor 2]) (aX gGe [.bor 3,.ex (sC (.int 60))]))) (fun _=>none) bA) (dX px 2 (sC (.bl true)) (bb 5))))
def pU:SS:=(az (bn (dZ (dq (.ex (aw none none dN [.bor 0])))) (fun _=>none) bA) (az (bF 2 (vO (.dT [] []))) (az (em (fb (bb 1)) (.tp [(.nm 3),(.nm 4)]) h9) (aK (b5 [(bb 0),(sOp dC [.ex (sOp dU [.bor 2])])])))))
def gG:FS:=aB 2 6 none pU
theorem fF:aq ["many", "things", "told", "number", "thing", "tie"] ["many", "things"] (ae (top 13)):=⟨rfl,rfl,rfl,by decide +kernel,rfl,by decide +kernel,by decide +kernel⟩
theorem uA(h:Has K mg "web_of" (top 13) ["many", "things"])(T:Txt K mg)(G_many_good:OkX P w K mg base "many_good" ["thing"] 3 (spF K none dN))(G_tie_told:OkX P w K mg base "tie_told" ["many", "thing"] 4 (spF K none eO)):OkX P w K mg base "web_of" ["many", "things"] 5 (spF K none gG):=by
 refine a6 h fF (fun f cdv A outer s H E hr=> ?_)
 have hu:(bO (CXr P w) P w K mg base ["many", "things", "told", "number", "thing", "tie"] "web_of" (ae (top 13)) f cdv A outer s H E).A.units+10 < cLine:=by have:=hr.units;show (A.deeper _).units+10 < cLine;omega
 have hu1:=Nat.lt_of_le_of_lt (Nat.add_le_add_left (by decide:1≤10) _) hu
 exact (ah (bV (fj (dL (aa (av (io:=none) (slot:=none) ai G_many_good hr (by decide) (by rfl) (ac (vb 0) af))))) (am (vN)) a9)
  (ah (br (i:=2) fF.nd rfl (Or.inl rfl) zK)
  (ah (eY rfl (rZ (by rfl) T.enumerate (v 1)) (lC rfl (cV (aM (i:=3) fF.nd rfl (Or.inl rfl)) (cV (aM (i:=4) fF.nd rfl (Or.inl rfl)) lD))) (ah (br (i:=5) fF.nd rfl (Or.inl rfl) (av (io:=none) (slot:=none) aV G_tie_told hr (by decide) (by rfl) (ac (vb 0) (ac (vb 4) af))))
  (ah (bV (JW.t (f8 (t_is (vb 5) (aa tY)) (f8 (t_in hu (vb 5) (vb 2)) (fD (t_ge (vb 3) (aa (jA (by rfl) T.MOST_TIES))))))) (am (vN)) a9)
  (am (s_dput (j:=2) hu1 kb (v 5) rfl (by first | exact Or.inl rfl | exact Or.inr (Or.inl rfl) | exact Or.inr (Or.inr rfl)))))))
  (am (aA (b9 (.cons (v 0) (.cons (dH (m:=T.tuple) (ha:=(ac (aa (kq (m:=T.sorted) (ha:=(ac (vb 2) af)))) af))) .nil))))))))
def jK:SS:=(aK (cf (aw none none bv [.bor 0]) (cf (sOp gLe [.ex (aw none none a7 [.bor 0]),.ex (sC (.int 40))]) (sOp gLe [.ex (sOp cm [.ex (aw none none bC [.bor 0])]),.ex (sC (.int 60))]))))
def dP:FS:=aB 1 1 none jK
theorem oh:aq ["thing"] ["thing"] (ae (top 18)):=⟨rfl,rfl,rfl,by decide +kernel,rfl,by decide +kernel,by decide +kernel⟩
theorem oK(h:Has K mg "kind_good" (top 18) ["thing"])(T:Txt K mg)(G_form_good:OkX P w K mg base "form_good" ["thing"] 4 (spF K none bv))(G_places_in:OkX P w K mg base "places_in" ["kind"] 1 (spF K none a7))(G_ties_in:OkX P w K mg base "ties_in" ["kind"] 4 (spF K none bC)):OkX P w K mg base "kind_good" ["thing"] 5 (spF K none dP):=by
 refine a6 h oh (fun f cdv A outer s H E hr=> ?_);exact (am (aA (f6 (av (io:=none) (slot:=none) ai G_form_good hr (by decide) (by rfl) (ac (vb 0) af)) (f6 (q_le (aa (av (io:=none) (slot:=none) ai G_places_in hr (by decide) (by rfl) (ac (vb 0) af))) (aa (jA (by rfl) T.MOST_PLACES))) (fZ (q_le (aa (cH (m:=T.len) (ha:=(ac (aa (av (io:=none) (slot:=none) ai G_ties_in hr (by decide) (by rfl) (ac (vb 0) af))) af)))) (aa (jA (by rfl) T.MOST_TIES))))))))
def fy:SS:=(az (bn (sOr (aX gEq [.ex (sOp eA [.ex (sOp gIx [.bor 0,.ex (sC (.int 0))]),.ex (sC (.int 4))]),.ex (sC (.int 0))]) (aX gEq [.ex (sOp eA [.ex (sOp gIx [.bor 0,.ex (sC (.int 0))]),.ex (sC (.int 4))]),.ex (sC (.int 3))])) (aK (b5 [(sC (.str "numbering")),(aw none none de [.ex (sOp gIx [.bor 0,.ex (sC (.int 0))])])])) bA) (aK (b5 [(sC (.str "bar")),(aw none none eP [.bor 0])])))
def bu:FS:=aB 1 1 none fy
theorem kH:aq ["web"] ["web"] (ae (top 42)):=⟨rfl,rfl,rfl,by decide +kernel,rfl,by decide +kernel,by decide +kernel⟩
theorem le(h:Has K mg "ring_answer" (top 42) ["web"])(T:Txt K mg)(G_ring_steps:OkX P w K mg base "ring_steps" ["n"] 1 (spF K none de))(G_step_bar:OkX P w K mg base "step_bar" ["web"] 4 (spF K none eP)):OkX P w K mg base "ring_answer" ["web"] 5 (spF K none bu):=by
 refine a6 h kH (fun f cdv A outer s H E hr=> ?_)
 have hu:(bO (CXr P w) P w K mg base ["web"] "ring_answer" (ae (top 42)) f cdv A outer s H E).A.units+10 < cLine:=by have:=hr.units;show (A.deeper _).units+10 < cLine;omega
 exact (ah (bV (JW.t (f8 (cJ hu (aa (eS (aa (aW (vb 0) (aa ag))) (aa ag))) (aa ag)) (fD (cJ hu (aa (eS (aa (aW (vb 0) (aa ag))) (aa ag))) (aa ag))))) (am (aA (b9 (.cons a8 (.cons (av (io:=none) (slot:=none) ai G_ring_steps hr (by decide) (by rfl) (ac (aa (aW (vb 0) (aa ag))) af)) .nil))))) a9)
  (am (aA (b9 (.cons a8 (.cons (av (io:=none) (slot:=none) ai G_step_bar hr (by decide) (by rfl) (ac (vb 0) af)) .nil))))))
def mR:SS:=(az (bn (dZ (dq (.ex (aw none none dP [.bor 0])))) (rl "NoKind") bA) (aK (aw none none gG [.ex (aw none none a7 [.bor 0]),.ex (aw none none bC [.bor 0])])))
def fI:FS:=aB 1 1 none mR
theorem rh:aq ["kind"] ["kind"] (ae (top 19)):=⟨rfl,rfl,rfl,by decide +kernel,rfl,by decide +kernel,by decide +kernel⟩
theorem rK(h:Has K mg "web_for" (top 19) ["kind"])(T:Txt K mg)(G_kind_good:OkX P w K mg base "kind_good" ["thing"] 5 (spF K none dP))(G_web_of:OkX P w K mg base "web_of" ["many", "things"] 5 (spF K none gG))(G_places_in:OkX P w K mg base "places_in" ["kind"] 1 (spF K none a7))(G_ties_in:OkX P w K mg base "ties_in" ["kind"] 4 (spF K none bC)){A_NoKind:Addr}{bm_NoKind:List Value}{B_NoKind nI_NoKind iI_NoKind:String}(O_NoKind:OwnCls "NoKind" A_NoKind bm_NoKind nI_NoKind mg base)(FB_NoKind:ExcBaseFacts B_NoKind nI_NoKind iI_NoKind bm_NoKind)(C_NoKind:mD K "NoKind" A_NoKind):OkX P w K mg base "web_for" ["kind"] 6 (spF K none fI):=by
 refine a6 h rh (fun f cdv A outer s H E hr=> ?_)
 exact (ah (bV (fj (dL (aa (av (io:=none) (slot:=none) ai G_kind_good hr (by decide) (by rfl) (ac (vb 0) af))))) (am (sV O_NoKind FB_NoKind C_NoKind hr (by rfl))) a9)
  (am (aA (av (io:=none) (slot:=none) ai G_web_of hr (by decide) (by rfl) (ac (aa (av (io:=none) (slot:=none) ai G_places_in hr (by decide) (by rfl) (ac (vb 0) af))) (ac (aa (av (io:=none) (slot:=none) ai G_ties_in hr (by decide) (by rfl) (ac (vb 0) af))) af))))))
def eV:SS:=(az (bF 1 (aw none none fI [.bor 0])) (az (bn (aX gEq [.ex (sOp gIx [.bor 0,.ex (sC (.int 0))]),.ex (sC (.str "ring"))]) (aK (aw none none bu [.bor 1])) bA) (aK (b5 [(sC (.str "numbering")),(aw none none bM [.bor 0])]))))
def bI:FS:=aB 1 2 none eV
theorem iJ:aq ["kind", "web"] ["kind"] (ae (top 38)):=⟨rfl,rfl,rfl,by decide +kernel,rfl,by decide +kernel,by decide +kernel⟩
theorem oE(h:Has K mg "steps_for" (top 38) ["kind"])(T:Txt K mg)(G_web_for:OkX P w K mg base "web_for" ["kind"] 6 (spF K none fI))(G_ring_answer:OkX P w K mg base "ring_answer" ["web"] 5 (spF K none bu))(G_parted_made:OkX P w K mg base "parted_made" ["kind"] 2 (spF K none bM)):OkX P w K mg base "steps_for" ["kind"] 7 (spF K none bI):=by
 refine a6 h iJ (fun f cdv A outer s H E hr=> ?_)
 have hu:(bO (CXr P w) P w K mg base ["kind", "web"] "steps_for" (ae (top 38)) f cdv A outer s H E).A.units+10 < cLine:=by have:=hr.units;show (A.deeper _).units+10 < cLine;omega
 exact (ah (br (i:=1) iJ.nd rfl (Or.inl rfl) (av (io:=none) (slot:=none) ai G_web_for hr (by decide) (by rfl) (ac (vb 0) af)))
  (ah (bV (cJ hu (aa (aW (vb 0) (aa ag))) (aa a8)) (am (aA (av (io:=none) (slot:=none) ai G_ring_answer hr (by decide) (by rfl) (ac (vb 1) af)))) a9)
  (am (aA (b9 (.cons a8 (.cons (av (io:=none) (slot:=none) ai G_parted_made hr (by decide) (by rfl) (ac (vb 0) af)) .nil)))))))
def cO:SS:=(az (j5 (.tp [(.nm 1),(.nm 2)]) (aw none none bI [.bor 0])) (az (bn (iV (aX gEq [.ex (sOp gIx [.bor 0,.ex (sC (.int 0))]),.ex (sC (.str "ring"))]) (aX gIn [.ex (sOp eA [.ex (sOp gIx [.bor 0,.ex (sC (.int 1))]),.ex (sC (.int 4))]),.ex (b5 [(sC (.int 1)),(sC (.int 2))])])) (aK (sOp gEq [.bor 1,.ex (sC (.str "bar"))])) bA) (aK (cf (sOp gEq [.bor 1,.ex (sC (.str "numbering"))]) (aw none none bJ [.ex (aw none none aU [.bor 0]),.bor 2])))))
def ax:FS:=aB 1 3 none cO
theorem fx:aq ["kind", "word", "thing"] ["kind"] (ae (top 54)):=⟨rfl,rfl,rfl,by decide +kernel,rfl,by decide +kernel,by decide +kernel⟩
theorem mr(h:Has K mg "_law_right" (top 54) ["kind"])(T:Txt K mg)(G_steps_for:OkX P w K mg base "steps_for" ["kind"] 7 (spF K none bI))(G__law_steps_good:OkX P w K mg base "_law_steps_good" ["web", "thing"] 2 (spF K none bJ))(G__law_made_web:OkX P w K mg base "_law_made_web" ["kind"] 2 (spF K none aU)):OkX P w K mg base "_law_right" ["kind"] 8 (spF K none ax):=by
 refine a6 h fx (fun f cdv A outer s H E hr=> ?_)
 have hu:(bO (CXr P w) P w K mg base ["kind", "word", "thing"] "_law_right" (ae (top 54)) f cdv A outer s H E).A.units+10 < cLine:=by have:=hr.units;show (A.deeper _).units+10 < cLine;omega
 exact (ah (zY (av (io:=none) (slot:=none) ai G_steps_for hr (by decide) (by rfl) (ac (vb 0) af)) (lC rfl (cV (aM (i:=1) fx.nd rfl (Or.inl rfl)) (cV (aM (i:=2) fx.nd rfl (Or.inl rfl)) lD))))
  (ah (bV (JW.t (zP (cJ hu (aa (aW (vb 0) (aa ag))) (aa a8)) (vx (t_in hu (aa (eS (aa (aW (vb 0) (aa ag))) (aa ag))) (aa (b9 (.cons ag (.cons ag .nil)))))))) (am (aA (jl hu (vb 1) (aa a8)))) a9)
  (am (aA (f6 (jl hu (vb 1) (aa a8)) (fZ (av (io:=none) (slot:=none) ai G__law_steps_good hr (by decide) (by rfl) (ac (aa (av (io:=none) (slot:=none) ai G__law_made_web hr (by decide) (by rfl) (ac (vb 0) af))) (ac (vb 2) af)))))))))
def kf:SS:=(bn (dZ (dq (.ex (aw none none ax [.ex (b5 [(sC (.str "ring")),(sOp bU [.ex (sOp bt [.bor 2,.bor 3]),.ex (sOp mB [.ex (sOp gGt [.bor 2,.ex (sC (.int 36))])])])])])))) (aK (sC (.bl false))) bA)
def oq:SS:=(bn (sOr (dZ (dq (.ex (aw none none ax [.ex (b5 [(sC (.str "sides")),(bb 4),(bb 5)])])))) (dZ (dq (.ex (aw none none ax [.ex (b5 [(sC (.str "sides")),(bb 5),(bb 4)])]))))) (aK (sC (.bl false))) bA)
def oo:SS:=(az (bF 8 (sOp iD [.ex (eh [(sC (.int 0))]),.bor 6])) (az (dX gY 8 (aw (some 0) (some 1) bf [.bor 1,.ex (sOp bU [.ex (sC (.int 41)),.bor 6])]) (bb 7)) (bn (sOr (dZ (dq (.ex (aw none none ax [.ex (b5 [(sC (.str "spine")),(sOp dC [.bor 8])])])))) (dZ (dq (.ex (aw none none ax [.ex (b5 [(sC (.str "spine")),(sOp dC [.ex (b8 1 (dh (bb 8)) (.nm 9) none (sOp mB [.ex (sOp gGt [.bor 9,.ex (sC (.int 0))])]))])])]))))) (aK (sC (.bl false))) bA)))
def zX:SS:=(az (bF 1 (aw none none bN [.ex (aw none none bg [.bor 0,.ex (sC (.int 0))])])) (az (bF 2 (sOp bt [.ex (sC (.int 3)),.ex (aw (some 0) (some 1) bf [.bor 1,.ex (sC (.int 34))])])) (az (em (b6 (.ex (sC (.int 5)))) (.nm 3) kf) (az (bF 4 (sOp bt [.ex (sC (.int 1)),.ex (aw (some 0) (some 1) bf [.bor 1,.ex (sC (.int 8))])])) (az (em (e9 (.ex (sC (.int 1))) (.ex (sOp bt [.ex (sOp fY [.ex (sOp bU [.ex (sC (.int 40)),.bor 4]),.ex (sOp fo [.ex (sC (.int 60)),.bor 4])]),.ex (sC (.int 1))]))) (.nm 5) oq) (az (bF 6 (sOp bt [.ex (sC (.int 1)),.ex (aw (some 0) (some 1) bf [.bor 1,.ex (sC (.int 9))])])) (az (em (b6 (.bor 6)) (.nm 7) oo) (aK (sC (.bl true))))))))))
def qD:FS:=aB 1 9 none zX
theorem fN:aq ["script", "pen", "size", "more", "one", "other", "many", "spot", "legs"] ["script"] (ae (top 55)):=⟨rfl,rfl,rfl,by decide +kernel,rfl,by decide +kernel,by decide +kernel⟩
theorem ok_law{f0:Addr}{fd0:FuncData}(h:Fun K "law" "law" (top 55) f0 fd0)(T:Txt K mg)(G__law_pen_of:OkX P w K mg base "_law_pen_of" ["cell"] 1 (spF K none bN))(G__law_cell_at:OkX P w K mg base "_law_cell_at" ["script", "k"] 1 (spF K none bg))(G__law_draw:OkX P w K mg base "_law_draw" ["pen", "many"] 2 (spF K (some 0) bf))(G__law_right:OkX P w K mg base "_law_right" ["kind"] 8 (spF K none ax)):kc P w K mg base (CXr P w) 9 f0 fd0 ["script"] (spF K none qD):=by
 refine fn_okF h fN (fun f cdv A outer s H E hr=> ?_)
 exact (ah (br (i:=1) fN.nd rfl (Or.inl rfl) (av (io:=none) (slot:=none) ai G__law_pen_of hr (by decide) (by rfl) (ac (aa (av (io:=none) (slot:=none) ai G__law_cell_at hr (by decide) (by rfl) (ac (vb 0) (ac (aa ag) af)))) af)))
  (ah (br (i:=2) fN.nd rfl (Or.inl rfl) (bh (aa ag) (aa (av (io:=(some 0)) (slot:=(some 1)) ai G__law_draw hr (by decide) (by rfl) (ac (vb 1) (ac (aa ag) af))))))
  (ah (eY rfl (dB (by rfl) T.range (ac (aa ag) af)) (aM (i:=3) fN.nd rfl (Or.inl rfl)) (am (bV (fj (dL (aa (av (io:=none) (slot:=none) aV G__law_right hr (by decide) (by rfl) (ac (aa (b9 (.cons a8 (.cons (dg (aa (bh (vb 2) (vb 3))) (aa (qR (m:=T.int) (ha:=(ac (aa (yz (vb 2) (aa ag))) af))))) .nil)))) af))))) (am (aA kb)) a9)))
  (ah (br (i:=4) fN.nd rfl (Or.inl rfl) (bh (aa ag) (aa (av (io:=(some 0)) (slot:=(some 1)) ai G__law_draw hr (by decide) (by rfl) (ac (vb 1) (ac (aa ag) af))))))
  (ah (eY rfl (rY (by rfl) T.range (ac (aa ag) (ac (aa (bh (aa (t5 (m:=T.min) (ha:=(ac (aa (dg (aa ag) (vb 4))) (ac (aa (gK (aa ag) (vb 4))) af))))) (aa ag))) af))) (aM (i:=5) fN.nd rfl (Or.inl rfl)) (am (bV (JW.t (f8 (fj (dL (aa (av (io:=none) (slot:=none) aV G__law_right hr (by decide) (by rfl) (ac (aa (b9 (.cons a8 (.cons (v 4) (.cons (v 5) .nil))))) af))))) (fD (fj (dL (aa (av (io:=none) (slot:=none) aV G__law_right hr (by decide) (by rfl) (ac (aa (b9 (.cons a8 (.cons (v 5) (.cons (v 4) .nil))))) af)))))))) (am (aA kb)) a9)))
  (ah (br (i:=6) fN.nd rfl (Or.inl rfl) (bh (aa ag) (aa (av (io:=(some 0)) (slot:=(some 1)) ai G__law_draw hr (by decide) (by rfl) (ac (vb 1) (ac (aa ag) af))))))
  (ah (eY rfl (dB (by rfl) T.range (ac (vb 6) af)) (aM (i:=7) fN.nd rfl (Or.inl rfl)) (ah (br (i:=8) fN.nd rfl (Or.inl rfl) (nM (aa (ft (.cons ag .nil))) (vb 6)))
  (ah (rj (j:=8) (av (io:=(some 0)) (slot:=(some 1)) aV G__law_draw hr (by decide) (by rfl) (ac (vb 1) (ac (aa (dg (aa ag) (vb 6))) af))) (v 7) rfl (by first | exact Or.inl rfl | exact Or.inr (Or.inl rfl) | exact Or.inr (Or.inr rfl)))
  (am (bV (JW.t (f8 (fj (dL (aa (av (io:=none) (slot:=none) aV G__law_right hr (by decide) (by rfl) (ac (aa (b9 (.cons a8 (.cons (dH (m:=T.tuple) (ha:=(ac (vb 8) af))) .nil)))) af))))) (fD (fj (dL (aa (av (io:=none) (slot:=none) aV G__law_right hr (by decide) (by rfl) (ac (aa (b9 (.cons a8 (.cons (dH (m:=T.tuple) (ha:=(ac (aa (df (M:=["script", "pen", "size", "more", "one", "other", "many", "spot", "legs"]) (tgs:=["leg"]) (T:=(.nm 9)) (c:=none) (f:=(sOp mB [.ex (sOp gGt [.bor 9,.ex (sC (.int 0))])])) rfl (gO.ok (osc:=ae (top 55)) (N:=["script", "pen", "size", "more", "one", "other", "many", "spot", "legs"]) ⟨rfl,by decide +kernel,by decide +kernel,by decide +kernel,rfl,by decide +kernel,by decide +kernel,by decide +kernel,by decide +kernel⟩) (jR (v 8)) (fun _ _ _ _ _=>(aM (i:=9) (by decide +kernel:(["script", "pen", "size", "more", "one", "other", "many", "spot", "legs", "leg"]:List Str).Nodup) rfl (Or.inl rfl))) (fun _ _ _ _ _=> .no) (fun _ _ _ _ _=>(qR (m:=T.int) (ha:=(ac (aa (yz (vb 9) (aa ag))) af)))))) af))) .nil)))) af)))))))) (am (aA kb)) a9)))))
  (am (aA kb)))))))))
end
end K18
set_option linter.all false
set_option hygiene false
local macro_rules
 | `(tactic| sleep 0) => `(tactic| (exact rfl))
 | `(tactic| sleep 1) => `(tactic| (sleep 2;sleep 0))
 | `(tactic| sleep 2) => `(tactic| ((with_reducible apply r_nilA)))
 | `(tactic| sleep 3) => `(tactic| ((with_reducible apply Aa)))
 | `(tactic| sleep 4) => `(tactic| ((with_reducible apply r_op)))
 | `(tactic| sleep 5) => `(tactic| (sleep 0;sleep 0))
 | `(tactic| sleep 6) => `(tactic| (sleep 5;sleep 0))
 | `(tactic| sleep 7) => `(tactic| (sleep 3;sleep 4))
 | `(tactic| sleep 8) => `(tactic| (sleep 5;sleep 5))
 | `(tactic| sleep 9) => `(tactic| (sleep 4;sleep 25))
 | `(tactic| sleep 10) => `(tactic| (sleep 56;sleep 36))
 | `(tactic| sleep 11) => `(tactic| ((with_reducible apply r_ret)))
 | `(tactic| sleep 12) => `(tactic| (sleep 0;sleep 24))
 | `(tactic| sleep 13) => `(tactic| (sleep 16;sleep 0))
 | `(tactic| sleep 14) => `(tactic| ((with_reducible apply r_seq)))
 | `(tactic| sleep 15) => `(tactic| (sleep 131;sleep 13))
 | `(tactic| sleep 16) => `(tactic| (sleep 21;sleep 1))
 | `(tactic| sleep 17) => `(tactic| ((with_reducible apply r_c)))
 | `(tactic| sleep 18) => `(tactic| ((with_reducible apply r_nilM)))
 | `(tactic| sleep 19) => `(tactic| (sleep 44;sleep 42))
 | `(tactic| sleep 20) => `(tactic| ((with_reducible apply r_nil)))
 | `(tactic| sleep 21) => `(tactic| (sleep 3;sleep 17))
 | `(tactic| sleep 22) => `(tactic| (omega;omega))
 | `(tactic| sleep 23) => `(tactic| ((with_reducible apply r_orF)))
 | `(tactic| sleep 24) => `(tactic| ((simp only [List.set_cons_zero,List.set_cons_succ,reduceIte,Bool.false_eq_true];exact rfl)))
 | `(tactic| sleep 25) => `(tactic| ((with_reducible apply r_borA);sleep 0))
 | `(tactic| sleep 26) => `(tactic| (sleep 33;sleep 90))
 | `(tactic| sleep 27) => `(tactic| ((with_reducible apply yw)))
 | `(tactic| sleep 28) => `(tactic| (sleep 56;sleep 25))
 | `(tactic| sleep 29) => `(tactic| (sleep 44;sleep 40))
 | `(tactic| sleep 30) => `(tactic| ((simp only [bZ,cI,vA,List.getElem?_cons_zero,List.getElem?_cons_succ,List.set_cons_zero,List.set_cons_succ,List.replicate,List.cons_append,List.nil_append,Nat.zero_add];exact rfl)))
 | `(tactic| sleep 31) => `(tactic| (sleep 1;sleep 0))
 | `(tactic| sleep 32) => `(tactic| (sleep 20;sleep 11))
 | `(tactic| sleep 33) => `(tactic| ((with_reducible apply r_exM)))
 | `(tactic| sleep 34) => `(tactic| (sleep 60;sleep 1))
 | `(tactic| sleep 35) => `(tactic| (sleep 18;sleep 0))
 | `(tactic| sleep 36) => `(tactic| (sleep 25;sleep 1))
 | `(tactic| sleep 37) => `(tactic| (sleep 36;sleep 0))
 | `(tactic| sleep 38) => `(tactic| (exact decide_eq_false (by omega)))
 | `(tactic| sleep 39) => `(tactic| (sleep 5;sleep 24))
 | `(tactic| sleep 40) => `(tactic| (sleep 14;sleep 72))
 | `(tactic| sleep 41) => `(tactic| (apply Eq.trans))
 | `(tactic| sleep 42) => `(tactic| (sleep 14;sleep 147))
 | `(tactic| sleep 43) => `(tactic| (sleep 16;sleep 5))
 | `(tactic| sleep 44) => `(tactic| (sleep 41;(with_reducible apply r_fn);sleep 146))
 | `(tactic| sleep 45) => `(tactic| (sleep 44;sleep 11))
 | `(tactic| sleep 46) => `(tactic| (sleep 60;sleep 31))
 | `(tactic| sleep 47) => `(tactic| (sleep 18;sleep 6))
 | `(tactic| sleep 48) => `(tactic| (sleep 107;sleep 33))
 | `(tactic| sleep 49) => `(tactic| ((with_reducible apply r_opT)))
 | `(tactic| sleep 50) => `(tactic| (sleep 58;sleep 152;sleep 0))
 | `(tactic| sleep 51) => `(tactic| (sleep 150;sleep 84))
 | `(tactic| sleep 52) => `(tactic| (sleep 9;sleep 1))
 | `(tactic| sleep 53) => `(tactic| (sleep 50;sleep 2))
 | `(tactic| sleep 54) => `(tactic| (sleep 49;sleep 25))
 | `(tactic| sleep 55) => `(tactic| (sleep 140;sleep 33))
 | `(tactic| sleep 56) => `(tactic| ((with_reducible apply r_call)))
 | `(tactic| sleep 57) => `(tactic| (sleep 18;sleep 2))
 | `(tactic| sleep 58) => `(tactic| (sleep 60;sleep 16))
 | `(tactic| sleep 59) => `(tactic| (sleep 56;sleep 3))
 | `(tactic| sleep 60) => `(tactic| (sleep 3;sleep 9))
 | `(tactic| sleep 61) => `(tactic| ((with_reducible apply h)))
 | `(tactic| sleep 62) => `(tactic| (sleep 4;sleep 50))
 | `(tactic| sleep 63) => `(tactic| (sleep 20;sleep 40))
 | `(tactic| sleep 64) => `(tactic| ((with_reducible apply r_seqI)))
 | `(tactic| sleep 65) => `(tactic| ((with_reducible apply r_varF)))
 | `(tactic| sleep 66) => `(tactic| (sleep 20;sleep 42))
 | `(tactic| sleep 67) => `(tactic| (sleep 12;sleep 145))
 | `(tactic| sleep 68) => `(tactic| (sleep 77;sleep 90))
 | `(tactic| sleep 69) => `(tactic| (sleep 58;sleep 0))
 | `(tactic| sleep 70) => `(tactic| (sleep 4;sleep 122))
 | `(tactic| sleep 71) => `(tactic| (sleep 0;sleep 31))
 | `(tactic| sleep 72) => `(tactic| ((with_reducible apply r_ifF)))
 | `(tactic| sleep 73) => `(tactic| ((with_reducible assumption)))
 | `(tactic| sleep 74) => `(tactic| ((with_reducible apply r_tru)))
 | `(tactic| sleep 75) => `(tactic| (sleep 148;sleep 49))
 | `(tactic| sleep 76) => `(tactic| (sleep 21;sleep 2))
 | `(tactic| sleep 77) => `(tactic| ((with_reducible apply r_tup);sleep 33))
 | `(tactic| sleep 78) => `(tactic| (sleep 97;sleep 42))
 | `(tactic| sleep 79) => `(tactic| (sleep 54;sleep 43))
 | `(tactic| sleep 80) => `(tactic| ((with_reducible apply r_not);sleep 74))
 | `(tactic| sleep 81) => `(tactic| (sleep 106;sleep 36))
 | `(tactic| sleep 82) => `(tactic| (sleep 56;sleep 139))
 | `(tactic| sleep 83) => `(tactic| (exact decide_eq_true (by omega)))
 | `(tactic| sleep 84) => `(tactic| ((with_reducible apply r_ifT)))
 | `(tactic| sleep 85) => `(tactic| (sleep 60;sleep 37))
 | `(tactic| sleep 86) => `(tactic| ((with_reducible apply lG);sleep 22))
 | `(tactic| sleep 87) => `(tactic| (sleep 125;sleep 135))
 | `(tactic| sleep 88) => `(tactic| (sleep 49;sleep 144;sleep 76))
 | `(tactic| sleep 89) => `(tactic| (sleep 33;sleep 17))
 | `(tactic| sleep 90) => `(tactic| (sleep 65;sleep 0))
 | `(tactic| sleep 91) => `(tactic| (sleep 65;sleep 5))
 | `(tactic| sleep 92) => `(tactic| (sleep 69;sleep 1))
 | `(tactic| sleep 93) => `(tactic| (sleep 153;have hy0:=bG.mp hx0;sleep 154))
 | `(tactic| sleep 94) => `(tactic| (sleep 60;sleep 116))
 | `(tactic| sleep 95) => `(tactic| ((with_reducible apply oA);sleep 30))
 | `(tactic| sleep 96) => `(tactic| ((with_reducible apply r_lst)))
 | `(tactic| sleep 97) => `(tactic| (apply lp_mk;sleep 30))
 | `(tactic| sleep 98) => `(tactic| (sleep 96;sleep 18))
 | `(tactic| sleep 99) => `(tactic| (sleep 153;sleep 154))
 | `(tactic| sleep 100) => `(tactic| (sleep 51;sleep 79;sleep 11))
 | `(tactic| sleep 101) => `(tactic| (sleep 151;sleep 79))
 | `(tactic| sleep 102) => `(tactic| (sleep 4;sleep 7))
 | `(tactic| sleep 103) => `(tactic| (sleep 49;sleep 149))
 | `(tactic| sleep 104) => `(tactic| ((with_reducible apply rn)))
 | `(tactic| sleep 105) => `(tactic| (sleep 73;sleep 24))
 | `(tactic| sleep 106) => `(tactic| ((with_reducible apply yn)))
 | `(tactic| sleep 107) => `(tactic| (sleep 77;sleep 17))
 | `(tactic| sleep 108) => `(tactic| (sleep 10;exact w))
 | `(tactic| sleep 109) => `(tactic| ((with_reducible apply zn _ _)))
 | `(tactic| sleep 110) => `(tactic| ((with_reducible apply yt)))
 | `(tactic| sleep 111) => `(tactic| ((simp only [List.length_cons,List.length_nil,List.take_succ_cons,List.take_zero,Nat.zero_add];exact rfl)))
 | `(tactic| sleep 112) => `(tactic| ((with_reducible apply jc _ _)))
 | `(tactic| sleep 113) => `(tactic| ((with_reducible apply r_comp)))
 | `(tactic| sleep 114) => `(tactic| ((with_reducible apply r_aug)))
 | `(tactic| sleep 115) => `(tactic| (sleep 138;sleep 39))
 | `(tactic| sleep 116) => `(tactic| (sleep 36;sleep 5))
 | `(tactic| sleep 117) => `(tactic| ((with_reducible apply r_for)))
 | `(tactic| sleep 118) => `(tactic| ((with_reducible apply r_asg)))
 | `(tactic| sleep 119) => `(tactic| ((with_reducible apply eB)))
 | `(tactic| sleep 120) => `(tactic| ((with_reducible apply yx)))
 | `(tactic| sleep 121) => `(tactic| (sleep 23;sleep 80))
 | `(tactic| sleep 122) => `(tactic| (sleep 3;sleep 113))
 | `(tactic| sleep 123) => `(tactic| ((simp only [List.length_map,List.length_append,List.length_range,List.length_cons,List.length_nil,List.length_replicate,List.length_set,aJ,List.length_zipIdx,List.length_zip,List.length_reverse] at *;omega)))
 | `(tactic| sleep 124) => `(tactic| ((with_reducible apply vy)))
 | `(tactic| sleep 125) => `(tactic| ((with_reducible apply oW);omega))
 | `(tactic| sleep 126) => `(tactic| ((with_reducible apply r_ieI)))
 | `(tactic| sleep 127) => `(tactic| ((with_reducible apply v4)))
 | `(tactic| sleep 128) => `(tactic| ((with_reducible apply tDraw)))
 | `(tactic| sleep 129) => `(tactic| ((simp only [eJ,List.getElem?_cons_zero,List.getElem?_cons_succ,List.set_cons_zero,List.set_cons_succ];exact rfl)))
 | `(tactic| sleep 130) => `(tactic| ((with_reducible apply yr)))
 | `(tactic| sleep 131) => `(tactic| (sleep 49;sleep 50))
 | `(tactic| sleep 132) => `(tactic| ((with_reducible apply yq)))
 | `(tactic| sleep 133) => `(tactic| ((with_reducible apply ym)))
 | `(tactic| sleep 134) => `(tactic| ((with_reducible apply rm)))
 | `(tactic| sleep 135) => `(tactic| (sleep 76;sleep 112))
 | `(tactic| sleep 136) => `(tactic| ((with_reducible apply rq)))
 | `(tactic| sleep 137) => `(tactic| ((with_reducible apply xk _)))
 | `(tactic| sleep 138) => `(tactic| (sleep 9;sleep 16;sleep 152))
 | `(tactic| sleep 139) => `(tactic| (sleep 53;exact h))
 | `(tactic| sleep 140) => `(tactic| ((with_reducible apply r_expr);(with_reducible apply yo);sleep 0))
 | `(tactic| sleep 141) => `(tactic| ((simp only [Bool.not_eq_true',Bool.not_eq_false',decide_eq_true_eq,decide_eq_false_iff_not];omega)))
 | `(tactic| sleep 142) => `(tactic| (sleep 42;(with_reducible apply r_orVF)))
 | `(tactic| sleep 143) => `(tactic| ((with_reducible apply r_andF);sleep 131))
 | `(tactic| sleep 144) => `(tactic| (sleep 7;sleep 50))
 | `(tactic| sleep 145) => `(tactic| (sleep 14;sleep 117))
 | `(tactic| sleep 146) => `(tactic| ((simp only [ini,iB,List.length_cons,List.length_nil,List.replicate,List.cons_append,List.nil_append,List.append_nil,Nat.reduceSub,Nat.sub_self,Nat.reduceAdd,Nat.zero_add,reduceCtorEq,reduceIte,Option.some.injEq,Nat.reduceEqDiff,Nat.zero_ne_one,Nat.one_ne_zero];exact rfl)))
 | `(tactic| sleep 147) => `(tactic| ((with_reducible apply r_set)))
 | `(tactic| sleep 148) => `(tactic| (sleep 121;sleep 46;sleep 31))
 | `(tactic| sleep 149) => `(tactic| (sleep 58;sleep 87))
 | `(tactic| sleep 150) => `(tactic| ((with_reducible apply r_seqR)))
 | `(tactic| sleep 151) => `(tactic| (sleep 115;sleep 40))
 | `(tactic| sleep 152) => `(tactic| ((with_reducible apply oX)))
 | `(tactic| sleep 153) => `(tactic| (intro x0 hx0))
 | `(tactic| sleep 154) => `(tactic| (apply el_mk;sleep 30))
set_option hygiene true
namespace K18
open PySem L2
theorem xV{i:Int}:eQ [.int i]=some (.ok (.bl true) false,.non):=by
 unfold eQ kP
 (sleep 45;sleep 27;sleep 52;sleep 5;(with_reducible apply vZ);sleep 52;sleep 8)
theorem gc{i lo hi:Int}:aE [.int i,.int lo,.int hi]=some (.ok (.bl (decide (lo≤i)&&decide (i≤hi))) false,.non):=by
 have h := @xV;unfold aE gn
 (sleep 45;sleep 27;sleep 10;sleep 61;sleep 5;(with_reducible apply yu);sleep 3;sleep 90;sleep 3;sleep 90;sleep 1;sleep 91;sleep 6)
theorem t_many{n:Int}:dN [.int n]=some (.ok (.bl (decide (1≤n)&&decide (n≤40))) false,.non):=by
 have h := @gc;unfold dN jI
 (sleep 45;sleep 28;sleep 21;sleep 16;sleep 61;sleep 8)
theorem xW{n i:Int}:dD [.int n,.int i]=some (.ok (.bl (decide (0≤i)&&decide (i≤n - 1))) false,.non):=by
 have h := @gc;unfold dD kQ
 (sleep 45;sleep 28;sleep 21;sleep 92;sleep 61;sleep 8)
theorem t_told{n a b:Int}(h0:0≤a)(h1:a < b)(h2:b < n):eO [.int n,.tup [.int a,.int b]]=some (.ok (.tup [.int a,.int b]) false,.non):=by
 have h := @xW
 have mn:fY [.tup [.int a,.int b]]=some (.int a,false):=by
  show some (D.int (if a≤b then a else b),false)=_
  rw [if_pos (by omega)]
 have mx:fm [.tup [.int a,.int b]]=some (.int b,false):=by
  show some (D.int (if b≤a then a else b),false)=_
  rw [if_neg (by omega)]
 have al:jx [.lst [.bl (decide (0≤a)&&decide (a≤n - 1)),.bl (decide (0≤b)&&decide (b≤n - 1))]]=some (.bl true,false):=by
  rw [decide_eq_true h0,decide_eq_true (show a≤n - 1 by omega),decide_eq_true (show 0≤b by omega),decide_eq_true (show b≤n - 1 by omega)];rfl
 unfold eO kK
 (sleep 29;sleep 75;sleep 46;sleep 76;sleep 109;sleep 0;sleep 63;sleep 121;sleep 7;sleep 122;sleep 64;sleep 65;sleep 6;sleep 110;sleep 30;sleep 28;sleep 37;sleep 61;sleep 0;sleep 111;sleep 110;sleep 30;sleep 28;sleep 37;sleep 61;sleep 0;sleep 111;sleep 130;sleep 2;exact al;sleep 31;sleep 131;sleep 53;sleep 112;sleep 38;sleep 32;sleep 77;sleep 52;exact mn;sleep 33;sleep 52;exact mx;sleep 47)
def kT(t:Int×Int):List Key:=[.inl t.1,.inl t.2]
theorem rT{a b:Int×Int}(h:kT a=kT b):a=b:=by
 unfold kT at h;simp at h;exact Prod.ext h.1 h.2
theorem uH{ts:List (Int×Int)}{t:Int×Int}(h:t∉ts):∀ vs:List D,cg (ts.map kT) vs (kT t)=none:=by
 induction ts with
 | nil=>intro vs;cases vs<;>rfl
 | cons u ts ih =>
  intro vs
  cases vs with
  | nil=>rfl
  | cons v vs =>
   rw [List.map_cons];unfold cg;rw [if_neg (fun e=>h (by rw [rT e];exact List.mem_cons_self))];exact ih (fun z=>h (List.mem_cons_of_mem _ z)) vs
theorem yB{ts:List (Int×Int)}{t:Int×Int}(h:t∉ts):jm (ts.map kT) (List.replicate ts.length (.bl true)) (kT t) (.bl true)=((ts++[t]).map kT,List.replicate (ts++[t]).length (.bl true)):=by
 induction ts with
 | nil=>rfl
 | cons u ts ih =>
  rw [List.map_cons,List.length_cons,List.replicate_succ];unfold jm;rw [if_neg (fun e=>h (by rw [rT e];exact List.mem_cons_self)),ih fun z=>h (List.mem_cons_of_mem _ z)];rfl
theorem wR{ts:List (Int×Int)}(h:ts.Nodup):(ts.map kT).Nodup:=by
 induction ts with
 | nil=>exact List.nodup_nil
 | cons u ts ih =>
  have h:=List.nodup_cons.mp h;rw [List.map_cons];refine List.nodup_cons.mpr ⟨fun z=> ?_,ih h.2⟩;obtain ⟨v,hv,e⟩:=List.mem_map.mp z;exact h.1 (by rw [← rT e];exact hv)
theorem wP(ts:List (Int×Int)):nc (ts.map kT)=some (ts.map fun t=>[t.1,t.2]):=by
 induction ts with
 | nil=>rfl
 | cons u ts ih =>
  rw [List.map_cons];unfold nc;rw [ih];rfl
theorem ui{ts:List (Int×Int)}(h:ts.length < 64){vs:List D}:dU [.dT (ts.map kT) vs]=some (.lst (tD (cE ts)),true):=by
 unfold dU;simp only [wP,List.length_map,h,decide_true,if_true];rw [← kY,q5]
theorem vB{n:Nat}{ts:List (Int×Int)}(O:cc n ts):gG [.int (n:Nat),.lst (tD ts)]=some (.ok (hX (n:Nat) (cE ts)) false,.non):=by
 have n0:=O.n0;have n1:=O.n;have ll:=O.l;have tm := @t_many;have tt := @t_told;have sr:=ui (ts:=ts) (by omega) (vs:=List.replicate ts.length (.bl true))
 obtain ⟨ρ',e,a,b,c,rfl⟩:=jM (T:= .tp [.nm 3,.nm 4]) (f:=h9) (inj:=fun p:(Int×Int)×Nat=> .tup [.int (p.2:Nat),vA p.1]) (fun i (_:Unit) ρ=>∃ a b c,ρ=[some (.int (n:Nat),.fz),some (.lst (tD ts),.fz),some (.dT ((ts.take i).map kT) (List.replicate (ts.take i).length (.bl true)),.ow),a,b,c]) (fun _ _=>()) ts.zipIdx 0 () [some (.int (n:Nat),.fz),some (.lst (tD ts),.fz),some (.dT [] [],.ow),none,none,none] ⟨none,none,none,rfl⟩ (by
  rintro i ⟨t,j⟩ hx _ ρ ⟨a,b,c,rfl⟩;rw [List.getElem?_zipIdx] at hx;obtain ⟨t',ht,e⟩:=Option.map_eq_some_iff.mp hx;cases e;rw [Nat.zero_add] at *;have hi:=(List.getElem?_eq_some_iff.mp ht).1;have hr:=O.r t (List.mem_of_getElem? ht)
  have tk:ts.take (i+1)=ts.take i++[t]:=by rw [List.take_add_one,ht];rfl
  have nd:(ts.take i++[t]).Nodup:=by rw [← tk];exact O.d.sublist (List.take_sublist _ _)
  have ni:t∉ts.take i:=fun z=>by
   rw [List.nodup_append] at nd;exact nd.2.2 t z t (List.mem_singleton.mpr rfl) rfl
  have gi:gIn [.tup [.int t.1,.int t.2],.dT ((ts.take i).map kT) (List.replicate (ts.take i).length (.bl true))]=some (.bl false,false):=by
   show (match (some (cg ((ts.take i).map kT) (List.replicate (ts.take i).length (.bl true)) (kT t)).isSome) with | some b=>some (D.bl b,false) | none=>none)=_
   rw [uH ni];rfl
  have up:px (.dT ((ts.take i).map kT) (List.replicate (ts.take i).length (.bl true))) (.tup [.int t.1,.int t.2]) (.bl true)=some (.dT ((ts.take i++[t]).map kT) (List.replicate (ts.take i++[t]).length (.bl true))):=by
   show (if (small ((ts.take i).map kT).length&&decide ((ts.take i).map kT).Nodup)=true then some (D.dT (jm ((ts.take i).map kT) (List.replicate (ts.take i).length (.bl true)) (kT t) (.bl true)).1 (jm ((ts.take i).map kT) (List.replicate (ts.take i).length (.bl true)) (kT t) (.bl true)).2) else none)=_
   rw [yB ni,if_pos];rw [gg (by rw [List.length_map,List.length_take];omega),decide_eq_true (wR (O.d.sublist (List.take_sublist _ _)))];rfl
  unfold h9
  (sleep 78;sleep 28;sleep 37;(with_reducible apply tt);sleep 22;omega;sleep 39;sleep 40;sleep 23;sleep 79;sleep 23;sleep 54;sleep 37;exact gi;sleep 0;sleep 54;sleep 13;sleep 38;sleep 20;(with_reducible apply sY);sleep 17;sleep 0;sleep 91;exact up;sleep 24)
  rw [tk]
  exact ⟨_,_,_,rfl⟩)
 rw [List.length_zipIdx,Nat.zero_add,List.take_length] at e;unfold gG pU
 (sleep 29;sleep 80;sleep 3;sleep 10;(with_reducible apply tm);sleep 0;sleep 1;(simp only [Bool.not_eq_true',Bool.not_eq_false',Bool.and_eq_true,Bool.or_eq_true,Bool.and_eq_false_iff,Bool.or_eq_false_iff,decide_eq_true_eq,decide_eq_false_iff_not];omega);sleep 66;(with_reducible apply r_dnew);sleep 67;sleep 132;sleep 91;exact e;sleep 11;sleep 68;sleep 33;sleep 4;sleep 34;exact sr;sleep 1;sleep 47)
end K18
namespace K18
open PySem L2
abbrev spK(legs:List Nat):D:= .tup [.str "spine",.tup (nD (iL legs))]
abbrev fc(n:Int):D:= .tup [.str "ring",.int n]
abbrev fM(m n:Int):D:= .tup [.str "sides",.int m,.int n]
theorem zS{a b:Int}(h0:0≤a)(h1:a≤1000)(h2:0≤b)(h3:b≤1000):bY [.int a,.int b]=some (.ok (.lst (tD (ib a (b - a).toNat))) true,.non):=by
 unfold bY kN
 (sleep 45;sleep 113;sleep 133;sleep 25;sleep 37;sleep 22;sleep 22;omega;sleep 0;sleep 134;sleep 93;sleep 68;sleep 33;sleep 9;sleep 13;sleep 18;sleep 5;sleep 6)
theorem vC{m a b:Int}(h0:0≤a)(h1:a≤1000)(h2 : -1≤b)(h3:b≤1000):aZ [.int m,.int a,.int b]=some (.ok (.lst (tD ((rgI a (b+1 - a).toNat).map fun x=>(m,x)))) true,.non):=by
 unfold aZ jG
 (sleep 45;sleep 113;sleep 133;sleep 25;sleep 92;sleep 22;sleep 22;omega;sleep 0;sleep 134;sleep 93;sleep 68;sleep 26;sleep 18;sleep 5;sleep 6)
theorem zu{legs r:List Nat}{k l:Nat}(h:legs.drop k=l::r):legs[k]?=some l∧legs.drop (k+1)=r∧k < legs.length:=by
 have h1:legs[k]?=some l:=by
  have:=congrArg (fun x=>x[0]?) h;simpa using this
 refine ⟨h1,?_,(List.getElem?_eq_some_iff.mp h1).1⟩;have:=congrArg List.tail h;simpa using this
abbrev enD(p:Nat×Nat):D:= .tup [.int (p.2:Nat),.int (p.1:Nat)]
theorem Aq(legs:List Nat):(iL legs).zipIdx.map (fun p:Int×Nat=>D.tup [.int (p.2:Nat),.int p.1])=legs.zipIdx.map enD:=by
 have:∀ (legs:List Nat) (k:Nat),((iL legs).zipIdx k).map (fun p:Int×Nat=>D.tup [.int (p.2:Nat),.int p.1])=(legs.zipIdx k).map enD:=by
  intro legs
  induction legs with
  | nil=>intro k;rfl
  | cons l r ih=>intro k;show _::_=_::_;rw [← ih (k+1)]
 exact this legs 0
theorem mQ{L:Option (D×Md)}:∀ (r:List Nat) (k:Nat) (fr:Nat) (ts:List (Int×Int)) (a c:Option (D×Md)),ts.length+r.sum≤1000→fr+r.sum≤1000 →
 ∃ a' c':Option (D×Md),bR (.tp [.nm 3,.nm 4]) cM ((r.zipIdx k).map enD) [L,some (.lst (tD ts),.ow),some (.int (fr:Nat),.fz),a,c]=some (.nx,[L,some (.lst (tD (ts++stT (k:Nat) (fr:Nat) r)),.ow),some (.int ((fr+r.sum:Nat):Int),.fz),a',c'])
 | [],k,fr,ts,a,c,h,h2=>⟨a,c,by simp [stT];rfl⟩
 | l::r,k,fr,ts,a,c,h,h2=>by
  rw [List.sum_cons] at h h2;obtain ⟨a',c',e2⟩:=mQ r (k+1) (fr+l) (ts++(rgI (fr:Nat) l).map fun x=>((k:Int),x)) (some (.int (k:Nat),.fz)) (some (.int (l:Nat),.fz)) (by simp [aJ];omega) (by omega);refine ⟨a',c',?_⟩
  have eT:ts++(rgI (fr:Nat) l).map (fun x=>((k:Int),x))++stT ((k+1:Nat):Int) ((fr+l:Nat):Int) r=ts++stT (k:Nat) (fr:Nat) (l::r):=by
   rw [List.append_assoc];rfl
  rw [eT,show fr+l+r.sum=fr+(l::r).sum by rw [List.sum_cons];omega] at e2
  have st:aZ [.int (k:Nat),.int (fr:Nat),.int ((fr:Int)+(l:Nat) - 1)]=some (.ok (.lst (tD ((rgI (fr:Nat) l).map fun x=>((k:Int),x)))) true,.non):=by
   rw [vC (by omega) (by omega) (by omega) (by omega),show ((fr:Int)+(l:Nat) - 1+1 - (fr:Nat)).toNat=l by omega]
  have ex:cn (.lst (tD ts)) [.lst (tD ((rgI (fr:Nat) l).map fun x=>((k:Int),x)))]=some (.lst (tD (ts++(rgI (fr:Nat) l).map fun x=>((k:Int),x))),.non):=iI (by rw [List.length_map,aJ];omega)
  have e0:cM [L,some (.lst (tD ts),.ow),some (.int (fr:Nat),.fz),some (.int (k:Nat),.fz),some (.int (l:Nat),.fz)]=some (.nx,[L,some (.lst (tD (ts++(rgI (fr:Nat) l).map fun x=>((k:Int),x))),.ow),some (.int ((fr:Int)+(l:Nat)),.fz),some (.int (k:Nat),.fz),some (.int (l:Nat),.fz)]):=by
   unfold cM
   (sleep 41;sleep 14;sleep 55;sleep 28;sleep 25;sleep 7;sleep 94;sleep 16;sleep 31;exact st;sleep 0;sleep 35;exact ex;sleep 24;sleep 114;sleep 0;sleep 65;sleep 39;sleep 0)
  rw [List.zipIdx_cons,List.map_cons];rw [show ((fr+l:Nat):Int)=(fr:Int)+(l:Nat) by omega] at e2
  (sleep 41;sleep 95;exact e0;exact e2;sleep 0)
theorem nS{legs:List Nat}(h0:legs≠[])(hb:legs.length+legs.sum≤900):cY [.tup (nD (iL legs))]=some (.ok (.lst (tD (spT legs))) true,.non):=by
 have hl:=List.length_pos_iff.mpr h0;have r:=zS (a:=0) (b:=(legs.length:Int) - 1) (by omega) (by omega) (by omega) (by omega);rw [show ((legs.length:Int) - 1 - 0).toNat=legs.length - 1 by omega] at r;obtain ⟨a',c',e⟩:=mQ (L:=some (.tup (nD (iL legs)),.fz)) legs 0 legs.length (ib 0 (legs.length - 1)) none none (by unfold ib;rw [List.length_map,aJ];omega) (by omega)
 have ln:cm [.tup (nD (iL legs))]=some (.int (legs.length:Nat),false):=by rw [eB,List.length_map]
 rw [← Aq] at e;unfold cY iQ
 (sleep 19;sleep 56;sleep 21;sleep 7;sleep 34;exact ln;sleep 16;sleep 2;exact r;sleep 39;sleep 42;sleep 52;exact ln;sleep 67;sleep 132;sleep 91;exact e;(with_reducible apply vX);sleep 12;sleep 6)
theorem pH{n:Nat}(h0:1≤n)(h1:n≤900):dM [.int (n:Nat)]=some (.ok (.lst (tD (iW n))) true,.non):=by
 have r:=zS (a:=0) (b:=(n:Int) - 1) (by omega) (by omega) (by omega) (by omega);rw [show ((n:Int) - 1 - 0).toNat=n - 1 by omega] at r
 have l:(ib 0 (n - 1)).length=n - 1:=by unfold ib;rw [List.length_map,aJ]
 unfold dM jH
 (sleep 45;sleep 4;sleep 3;sleep 56;sleep 21;sleep 69;sleep 2;exact r;sleep 0;sleep 3;sleep 96;sleep 33;sleep 48;sleep 9;sleep 13;sleep 18;sleep 57;(with_reducible apply uR);omega;sleep 6)
theorem nT{m n:Nat}(h1:m≤40)(h2:n≤40)(h3:m * n≤900):cZ [.int (m:Nat),.int (n:Nat)]=some (.ok (.lst (tD (gk m n))) true,.non):=by
 have fl:∀ i:Nat,((rgI 0 i).flatMap fun p=>(rgI (m:Nat) n).map fun x=>(p,x)).length=i * n:=by
  intro i
  induction i with
  | zero=>simp [rgI]
  | succ i ih=>rw [bS,List.flatMap_append,List.length_append,ih];simp [aJ,Nat.add_mul]
 obtain ⟨ρ',e,a,rfl⟩:=cC (T:= .nm 3) (f:=eE) (fun i ρ=>∃ a,ρ=[some (.int (m:Nat),.fz),some (.int (n:Nat),.fz),some (.lst (tD ((rgI 0 i).flatMap fun p=>(rgI (m:Nat) n).map fun x=>(p,x))),.ow),a]) m [some (.int (m:Nat),.fz),some (.int (n:Nat),.fz),some (.lst [],.ow),none] ⟨none,by simp [rgI]⟩ (by
  rintro i hi ρ ⟨a,rfl⟩
  have st:aZ [.int (i:Nat),.int (m:Nat),.int ((m:Int)+(n:Nat) - 1)]=some (.ok (.lst (tD ((rgI (m:Nat) n).map fun x=>((i:Int),x)))) true,.non):=by
   rw [vC (by omega) (by omega) (by omega) (by omega),show ((m:Int)+(n:Nat) - 1+1 - (m:Nat)).toNat=n by omega]
  have lb:i * n≤900:=Nat.le_trans (Nat.mul_le_mul_right n (by omega)) h3;have ex:cn (.lst (tD ((rgI 0 i).flatMap fun p=>(rgI (m:Nat) n).map fun x=>(p,x)))) [.lst (tD ((rgI (m:Nat) n).map fun x=>((i:Int),x)))]=some (.lst (tD (((rgI 0 i).flatMap fun p=>(rgI (m:Nat) n).map fun x=>(p,x))++(rgI (m:Nat) n).map fun x=>((i:Int),x))),.non):=iI (by rw [fl,List.length_map,aJ];omega);unfold eE
  (sleep 97;sleep 55;sleep 28;sleep 25;sleep 7;sleep 94;sleep 16;sleep 31;exact st;sleep 0;sleep 35;exact ex;sleep 24)
  rw [bS,List.flatMap_append,Int.zero_add,List.flatMap_cons,List.flatMap_nil,List.append_nil]
  exact ⟨_,rfl⟩)
 have hm:m≤1000000:=by omega
 unfold cZ iR
 (sleep 19;sleep 98;sleep 67;sleep 81;exact hm;exact e;(with_reducible apply vX);sleep 12;sleep 6)
end K18
namespace K18
open PySem L2
theorem t_legs{legs:List Nat}(h0:legs≠[])(hb:∀ l∈legs,l≤40):dO [.tup (nD (iL legs))]=some (.ok (.bl true) false,.non):=by
 have h := @gc;have hl:=List.length_pos_iff.mpr h0
 have ln:cm [.tup (nD (iL legs))]=some (.int (legs.length:Nat),false):=by rw [eB,List.length_map]
 have al:((iL legs).map fun x=>decide (0≤x)&&decide (x≤40)).all id=true:=by
  rw [List.all_map,List.all_map,List.all_eq_true];intro x hx;have:=hb x hx
  show (decide (0≤(x:Int))&&decide ((x:Int)≤40))=true
  rw [decide_eq_true (by omega),decide_eq_true (by omega)];rfl
 unfold dO jJ
 (sleep 29;sleep 75;sleep 34;exact ln;sleep 135;sleep 38;sleep 32;sleep 70;sleep 64;sleep 65;sleep 6;sleep 136;sleep 99;sleep 28;sleep 21;sleep 16;sleep 61;sleep 6;sleep 2;sleep 137;sleep 5)
 rw [al]
theorem t_num1{a n:Int}(h1:a≤n)(h2:n≤40):bz [.ktup [.int a],.tup [.int n]]=some (.ok (.bl true) false,.non):=by
 have h := @gc
 have al:jx [.lst [.bl (decide (a≤n)&&decide (n≤40))]]=some (.bl true,false):=by rw [decide_eq_true h1,decide_eq_true h2];rfl
 unfold bz eG
 (sleep 29;sleep 49;sleep 46;sleep 46;sleep 2;sleep 109;sleep 0;sleep 32;sleep 70;(with_reducible apply vV);sleep 26;sleep 26;sleep 35;sleep 123;(simp only [iF];exact rfl);sleep 0;sleep 110;sleep 30;sleep 28;sleep 25;sleep 13;sleep 61;sleep 0;sleep 111;sleep 130;sleep 2;exact al;sleep 6)
theorem t_num2{a b n m:Int}(h1:a≤n)(h2:n≤40)(h3:b≤m)(h4:m≤40):bz [.ktup [.int a,.int b],.tup [.int n,.int m]]=some (.ok (.bl true) false,.non):=by
 have h := @gc
 have al:jx [.lst [.bl (decide (a≤n)&&decide (n≤40)),.bl (decide (b≤m)&&decide (m≤40))]]=some (.bl true,false):=by rw [decide_eq_true h1,decide_eq_true h2,decide_eq_true h3,decide_eq_true h4];rfl
 unfold bz eG
 (sleep 29;sleep 49;sleep 46;sleep 46;sleep 2;sleep 109;sleep 0;sleep 32;sleep 70;(with_reducible apply vV);sleep 26;sleep 26;sleep 35;sleep 123;(simp only [iF];exact rfl);sleep 0;sleep 110;sleep 30;sleep 28;sleep 25;sleep 13;sleep 61;sleep 0;sleep 111;sleep 110;sleep 30;sleep 28;sleep 25;sleep 13;sleep 61;sleep 0;sleep 111;sleep 130;sleep 2;exact al;sleep 6)
theorem uf{legs:List Nat}(h0:legs≠[])(hb:∀ l∈legs,l≤40):bv [spK legs]=some (.ok (.bl true) false,.non):=by
 have h:=t_legs h0 hb;unfold bv eX
 (sleep 29;sleep 75;sleep 46;sleep 13;sleep 66;sleep 115;sleep 100;sleep 27;sleep 4;sleep 46;sleep 135;sleep 0;sleep 82;sleep 8)
theorem pL{n:Int}(h1:3≤n)(h2:n≤40):bv [fc n]=some (.ok (.bl true) false,.non):=by
 have h:=t_num1 h1 h2;have g1:nv bw bx [.str "ring"]=some (.ktup [.int 3],false):=rfl;have g2:xb [fc n,.int 1]=some (.tup [.int n],false):=rfl;unfold bv eX
 (sleep 29;sleep 75;sleep 46;sleep 13;sleep 66;sleep 101;sleep 63;sleep 75;sleep 116;sleep 32;sleep 56;sleep 34;exact g1;sleep 58;exact g2;sleep 2;exact h;sleep 8)
theorem nZ{m n:Int}(h1:1≤m)(h2:m≤40)(h3:1≤n)(h4:n≤40):bv [fM m n]=some (.ok (.bl true) false,.non):=by
 have h:=t_num2 h1 h2 h3 h4;have g1:nv bw bx [.str "sides"]=some (.ktup [.int 1,.int 1],false):=rfl;have g2:xb [fM m n,.int 1]=some (.tup [.int m,.int n],false):=rfl;unfold bv eX
 (sleep 29;sleep 75;sleep 46;sleep 13;sleep 66;sleep 101;sleep 63;sleep 75;sleep 116;sleep 32;sleep 56;sleep 34;exact g1;sleep 58;exact g2;sleep 2;exact h;sleep 8)
theorem pI{legs:List Nat}:a7 [spK legs]=some (.ok (.int ((legs.length+legs.sum:Nat):Int)) false,.non):=by
 have ln:cm [.tup (nD (iL legs))]=some (.int (legs.length:Nat),false):=by rw [eB,List.length_map]
 have sm:oV [.tup (nD (iL legs))]=some (.int (legs.sum:Nat),false):=by rw [nn,re]
 unfold a7 eW
 (sleep 19;sleep 115;sleep 100;sleep 102;sleep 53;exact ln;sleep 7;sleep 53;exact sm;sleep 1;sleep 6)
theorem lY{n:Int}:a7 [fc n]=some (.ok (.int n) false,.non):=by
 unfold a7 eW
 (sleep 19;sleep 101;sleep 63;sleep 79;sleep 63;sleep 23;sleep 79;sleep 79;sleep 32;sleep 138;sleep 8)
theorem kw{m n:Int}:a7 [fM m n]=some (.ok (.int (m+n)) false,.non):=by
 unfold a7 eW
 (sleep 19;sleep 101;sleep 20;sleep 100;sleep 62;sleep 50;sleep 1;sleep 6)
theorem ud{legs:List Nat}(h0:legs≠[])(hb:legs.length+legs.sum≤900):bC [spK legs]=some (.ok (.lst (tD (spT legs))) true,.non):=by
 have h:=nS h0 hb;unfold bC gP
 (sleep 19;sleep 115;sleep 100;sleep 82;sleep 8)
theorem pF{n:Nat}(h0:1≤n)(h1:n≤900):bC [fc (n:Nat)]=some (.ok (.lst (tD (iW n))) true,.non):=by
 have h:=pH h0 h1;unfold bC gP
 (sleep 19;sleep 101;sleep 20;sleep 100;sleep 82;sleep 8)
theorem nR{m n:Nat}(h1:m≤40)(h2:n≤40)(h3:m * n≤900):bC [fM (m:Nat) (n:Nat)]=some (.ok (.lst (tD (gk m n))) true,.non):=by
 have h:=nT h1 h2 h3;unfold bC gP
 (sleep 19;sleep 101;sleep 63;sleep 79;sleep 20;sleep 100;sleep 56;sleep 50;sleep 139;sleep 8)
structure lU(k:D)(n:Nat)(ts:List (Int×Int)):Prop where
 f:bv [k]=some (.ok (.bl true) false,.non)
 p:a7 [k]=some (.ok (.int (n:Nat)) false,.non)
 t:bC [k]=some (.ok (.lst (tD ts)) true,.non)
 o:cc n ts
theorem pK{k:D}{n:Nat}{ts:List (Int×Int)}(O:lU k n ts):dP [k]=some (.ok (.bl true) false,.non):=by
 have h1:=O.f;have h2:=O.p;have h3:=O.t;have n1:=O.o.n;have l1:=O.o.l;unfold dP jK
 (sleep 45;sleep 27;sleep 10;exact h1;sleep 5;sleep 27;sleep 4;sleep 3;sleep 10;exact h2;sleep 0;sleep 16;sleep 83;sleep 102;sleep 3;sleep 10;exact h3;sleep 0;sleep 2;(with_reducible apply nu);sleep 43)
 rw [decide_eq_true (show (ts.length:Int)≤60 by omega)]
theorem jj{k:D}{n:Nat}{ts:List (Int×Int)}(O:lU k n ts):fI [k]=some (.ok (hX (n:Nat) (cE ts)) false,.non):=by
 have h1:=pK O;have h2:=O.p;have h3:=O.t;have h4:=vB O.o;unfold fI mR
 (sleep 29;sleep 80;sleep 3;sleep 10;exact h1;sleep 71;sleep 32;sleep 59;sleep 10;exact h2;sleep 0;sleep 3;sleep 10;exact h3;sleep 0;sleep 2;exact h4;sleep 8)
theorem ok_sp{legs:List Nat}(h0:legs≠[])(m:legs.length+legs.sum≤40):lU (spK legs) (legs.length+legs.sum) (spT legs):=⟨uf h0 (wN (by omega)),pI,ud h0 (by omega),sp_ok h0 m⟩
theorem zb{n:Nat}(h1:3≤n)(h2:n≤40)(o:cc n (iW n)):lU (fc (n:Nat)) n (iW n):=⟨pL (by omega) (by omega),lY,pF (by omega) (by omega),o⟩
theorem wI{m n:Nat}(h1:1≤m)(h2:1≤n)(h3:m+n≤40)(o:cc (m+n) (gk m n)):lU (fM (m:Nat) (n:Nat)) (m+n) (gk m n):=⟨nZ (by omega) (by omega) (by omega) (by omega),kw,nR (by omega) (by omega) (by have:=o.l;rw [rf] at this;omega),o⟩
end K18
namespace K18
open PySem L2
theorem vK{L:Option (D×Md)}:∀ (r:List Nat) (k:Nat) (b:Bool) (lo hi:Int) (row fur:List Int) (x5 x6:Option (D×Md)),(b=true↔k % 2=0)→row.length+r.length≤900→fur.length+r.sum≤900 →
 ∃ lo' hi' x5' x6',bR (.tp [.nm 5,.nm 6]) bj ((r.zipIdx k).map enD) [L,some (.int lo,.fz),some (.int hi,.fz),some (.lst (nD row),.ow),some (.lst (nD fur),.ow),x5,x6]=some (.nx,[L,some (.int lo',.fz),some (.int hi',.fz),some (.lst (nD (row++rS b lo hi r)),.ow),some (.lst (nD (fur++rL b lo hi r)),.ow),x5',x6'])
 | [],k,b,lo,hi,row,fur,x5,x6,hb,h1,h2=>⟨lo,hi,x5,x6,by cases b<;>simp [rS,rL,cL]<;>rfl⟩
 | l::r,k,b,lo,hi,row,fur,x5,x6,hb,h1,h2=>by
  rw [List.length_cons] at h1;rw [List.sum_cons] at h2;rw [List.zipIdx_cons,List.map_cons]
  have hl:l≤1000000:=by omega
  cases b with
  | true =>
   have hk:=hb.mp rfl;obtain ⟨lo',hi',x5',x6',e⟩:=vK (L:=L) r (k+1) false (lo+1) (hi - (l:Nat)) (row++[lo]) (fur++dnI hi l) (some (.int (k:Nat),.fz)) (some (.int (l:Nat),.fz)) (by constructor<;>intro z<;>first | cases z | omega) (by simp;omega) (by simp [jf];omega);refine ⟨lo',hi',x5',x6',?_⟩;rw [rS_t,rL_t,show row++lo::rS false (lo+1) (hi - (l:Nat)) r=row++[lo]++rS false (lo+1) (hi - (l:Nat)) r by simp,← List.append_assoc]
   have dn:(rgI 0 l).map (fun x=>hi - x)=dnI hi l:=by unfold rgI dnI;rw [List.map_map];exact List.map_congr_left fun x _=>by show hi - (0+(x:Nat))=hi - (x:Nat);omega
   have ex:cn (.lst (nD fur)) [.lst (nD ((rgI 0 l).map fun x=>hi - x))]=some (.lst (nD (fur++dnI hi l)),.non):=by rw [dn];exact iI (by rw [jf];omega)
   have e0:bj [L,some (.int lo,.fz),some (.int hi,.fz),some (.lst (nD row),.ow),some (.lst (nD fur),.ow),some (.int (k:Nat),.fz),some (.int (l:Nat),.fz)]=some (.nx,[L,some (.int (lo+1),.fz),some (.int (hi - (l:Nat)),.fz),some (.lst (nD (row++[lo])),.ow),some (.lst (nD (fur++dnI hi l)),.ow),some (.int (k:Nat),.fz),some (.int (l:Nat),.fz)]):=by
    unfold bj
    (sleep 41;sleep 84;sleep 103;sleep 83;sleep 14;sleep 140;sleep 26;sleep 35;sleep 124;omega;sleep 24;sleep 14;sleep 55;sleep 113;sleep 81;exact hl;sleep 0;sleep 104;sleep 93;sleep 9;sleep 36;sleep 8;sleep 35;exact ex;sleep 24;sleep 14;sleep 114;sleep 0;sleep 17;sleep 12;sleep 114;sleep 0;sleep 65;sleep 39;sleep 0)
   (sleep 41;sleep 95;exact e0;exact e;sleep 0)
  | false =>
   have hk:¬ k % 2=0:=fun z=>by have:=hb.mpr z;cases this
   obtain ⟨lo',hi',x5',x6',e⟩:=vK (L:=L) r (k+1) true (lo+(l:Nat)) (hi - 1) (row++[hi]) (fur++rgI lo l) (some (.int (k:Nat),.fz)) (some (.int (l:Nat),.fz)) (by constructor<;>intro z<;>first | rfl | omega) (by simp;omega) (by simp [aJ];omega);refine ⟨lo',hi',x5',x6',?_⟩;rw [rS_f,rL_f,show row++hi::rS true (lo+(l:Nat)) (hi - 1) r=row++[hi]++rS true (lo+(l:Nat)) (hi - 1) r by simp,← List.append_assoc]
   have dn:(rgI 0 l).map (fun x=>lo+x)=rgI lo l:=by unfold rgI;rw [List.map_map];exact List.map_congr_left fun x _=>by show lo+(0+(x:Nat))=lo+(x:Nat);omega
   have ex:cn (.lst (nD fur)) [.lst (nD ((rgI 0 l).map fun x=>lo+x))]=some (.lst (nD (fur++rgI lo l)),.non):=by rw [dn];exact iI (by rw [aJ];omega)
   have e0:bj [L,some (.int lo,.fz),some (.int hi,.fz),some (.lst (nD row),.ow),some (.lst (nD fur),.ow),some (.int (k:Nat),.fz),some (.int (l:Nat),.fz)]=some (.nx,[L,some (.int (lo+(l:Nat)),.fz),some (.int (hi - 1),.fz),some (.lst (nD (row++[hi])),.ow),some (.lst (nD (fur++rgI lo l)),.ow),some (.int (k:Nat),.fz),some (.int (l:Nat),.fz)]):=by
    unfold bj
    (sleep 41;sleep 72;sleep 103;sleep 38;sleep 14;sleep 140;sleep 26;sleep 35;sleep 124;omega;sleep 24;sleep 14;sleep 55;sleep 113;sleep 81;exact hl;sleep 0;sleep 104;sleep 93;sleep 9;sleep 36;sleep 8;sleep 35;exact ex;sleep 24;sleep 14;sleep 114;sleep 0;sleep 65;sleep 39;sleep 114;sleep 0;sleep 17;sleep 12;sleep 0)
   (sleep 41;sleep 95;exact e0;exact e;sleep 0)
theorem qY{legs:List Nat}(h0:legs≠[])(hb:legs.length+legs.sum≤800):cy [.tup (nD (iL legs))]=some (.ok (.tup (nD (cN legs))) false,.non):=by
 have hl:=List.length_pos_iff.mpr h0
 have hq:(legs.length:Int)+(legs.sum:Nat) - 1=(rem legs:Nat):=by unfold rem;omega
 obtain ⟨lo',hi',x5,x6,e⟩:=vK (L:=some (.tup (nD (iL legs)),.fz)) legs 0 true 0 (rem legs:Nat) [] [] none none (by simp) (by simp;omega) (by simp;omega);rw [List.nil_append,List.nil_append,← Aq] at e;have e1:bR (.tp [.nm 5,.nm 6]) bj ((iL legs).zipIdx.map fun p:Int×Nat=>D.tup [.int (p.2:Nat),.int p.1]) [some (.tup (nD (iL legs)),.fz),some (.int 0,.fz),some (.int (rem legs:Nat),.fz),some (.lst [],.ow),some (.lst [],.ow),none,none]=_:=e
 have ln:cm [.tup (nD (iL legs))]=some (.int (legs.length:Nat),false):=by rw [eB,List.length_map]
 have sm:oV [.tup (nD (iL legs))]=some (.int (legs.sum:Nat),false):=by rw [nn,re]
 have mi:bU [.int ((legs.length:Int)+(legs.sum:Nat)),.int 1]=some (.int (rem legs:Nat),false):=by show some (D.int (_ - 1),false)=_;rw [hq]
 have cl:(rS true 0 (rem legs:Nat) legs++rL true 0 (rem legs:Nat) legs).length=rem legs+1:=by rw [Av h0,cN_len h0]
 rw [List.length_append] at cl
 have ad:bt [.lst (nD (rS true 0 (rem legs:Nat) legs)),.lst (nD (rL true 0 (rem legs:Nat) legs))]=some (.lst (nD (cN legs)),true):=by rw [← Av h0];exact jy (by rw [cl];unfold rem;omega)
 unfold cy gZ
 (sleep 19;sleep 17;sleep 12;sleep 42;sleep 102;sleep 34;exact ln;sleep 34;exact sm;sleep 1;sleep 76;exact mi;sleep 12;sleep 42;sleep 98;sleep 12;sleep 42;sleep 98;sleep 67;sleep 132;sleep 91;exact e1;sleep 11;sleep 4;sleep 85;exact ad;sleep 1;sleep 6)
theorem lX{m n:Nat}(h1:m≤40)(h2:n≤40):cz [.int (m:Nat),.int (n:Nat)]=some (.ok (.tup (nD (sdN m n))) false,.non):=by
 unfold cz g0
 (sleep 45;sleep 102;sleep 7;sleep 46;sleep 2;(with_reducible apply se);omega;sleep 122;sleep 81;omega;sleep 0;sleep 104;sleep 93;sleep 9;sleep 92;(with_reducible apply r6);sleep 22;sleep 5;sleep 2;(with_reducible apply jy);sleep 123;sleep 1;sleep 6)
theorem ue{legs:List Nat}(h0:legs≠[])(hb:legs.length+legs.sum≤800):bM [spK legs]=some (.ok (.tup (nD (cN legs))) false,.non):=by
 have h:=qY h0 hb;unfold bM fA
 (sleep 44;sleep 51;sleep 15;sleep 11;sleep 82;sleep 8)
theorem nV{m n:Nat}(h1:m≤40)(h2:n≤40):bM [fM (m:Nat) (n:Nat)]=some (.ok (.tup (nD (sdN m n))) false,.non):=by
 have h:=lX h1 h2;unfold bM fA
 (sleep 29;sleep 15;sleep 20;sleep 51;sleep 15;sleep 11;sleep 56;sleep 50;sleep 139;sleep 8)
end K18
namespace K18
open PySem L2
theorem ix_at{legs:List Nat}{k l:Nat}(h:legs[k]?=some l):gIx [.tup (nD (iL legs)),.int (k:Nat)]=some (.int (l:Nat),false):=by
 refine oX (jB ?_);rw [nD,iL,List.getElem?_map,List.getElem?_map,h];rfl
theorem yj(k n:Nat):rgI (k:Nat) (n+1)=(k:Int)::rgI ((k+1:Nat):Int) n:=by rw [gs];rfl
theorem wM(k fr:Int)(ts:List (Int×Int))(i:Nat):ts++(rgI fr (i+1)).map (fun x=>(k,x))=(ts++(rgI fr i).map (fun x=>(k,x)))++[(k,fr+(i:Nat))]:=by
 rw [bS,List.map_append,List.append_assoc];rfl
theorem m9{k l:Nat}{fr:Int}{ts:List (Int×Int)}{L c:Option (D×Md)}(h:ts.length+l≤1000):∃ c',bR (.nm 4) bQ (nD (rgI 0 l)) [L,some (.lst (tD ts),.ow),some (.int fr,.fz),some (.int (k:Nat),.fz),c]=some (.nx,[L,some (.lst (tD (ts++(rgI fr l).map (fun x=>((k:Int),x)))),.ow),some (.int (fr+(l:Nat)),.fz),some (.int (k:Nat),.fz),c']):=by
 obtain ⟨ρ',e,c',rfl⟩:=cC (T:= .nm 4) (f:=bQ) (fun i ρ=>∃ c,ρ=[L,some (.lst (tD (ts++(rgI fr i).map (fun x=>((k:Int),x)))),.ow),some (.int (fr+(i:Nat)),.fz),some (.int (k:Nat),.fz),c]) l [L,some (.lst (tD ts),.ow),some (.int fr,.fz),some (.int (k:Nat),.fz),c] ⟨c,by simp [rgI]⟩ (by
  rintro i hi ρ ⟨c,rfl⟩
  have hb:(ts++(rgI fr i).map (fun x=>((k:Int),x))).length≤1000:=by rw [List.length_append,List.length_map,aJ];omega
  unfold bQ
  (sleep 97;sleep 14;sleep 55;sleep 68;sleep 26;sleep 18;sleep 35;(with_reducible apply pz);sleep 105;sleep 147;sleep 9;sleep 43;sleep 24)
  rw [wM,show fr+((i+1:Nat):Int)=fr+(i:Nat)+1 by omega]
  exact ⟨_,rfl⟩)
 exact ⟨c',e⟩
theorem iq(legs:List Nat):∀ (r:List Nat) (k:Nat) (fr:Int) (ts:List (Int×Int)) (a c:Option (D×Md)),legs.drop k=r→ts.length+r.length+r.sum≤1000 →
 ∃ a' c':Option (D×Md),bR (.nm 3) aS (nD (rgI (k:Nat) r.length)) [some (.tup (nD (iL legs)),.fz),some (.lst (tD ts),.ow),some (.int fr,.fz),a,c]=some (.nx,[some (.tup (nD (iL legs)),.fz),some (.lst (tD (ts++(if 0 < k∧r≠[] then [((k:Int) - 1,(k:Int))] else [])++cT k fr r)),.ow),some (.int (fr+(r.sum:Nat)),.fz),a',c'])
 | [],k,fr,ts,a,c,h,hb=>⟨a,c,by simp [cT];rfl⟩
 | l::r,k,fr,ts,a,c,h,hb=>by
  obtain ⟨h1,h2,h3⟩:=zu h;rw [List.length_cons,List.sum_cons] at hb;have ix:=ix_at h1;rw [List.length_cons,yj,nD,List.map_cons]
  by_cases k0:0 < k
  ·obtain ⟨c1,e1⟩:=m9 (k:=k) (l:=l) (fr:=fr) (ts:=ts++[((k:Int) - 1,(k:Int))]) (L:=some (.tup (nD (iL legs)),.fz)) (c:=c) (by simp;omega)
   obtain ⟨a',c',e2⟩:=iq legs r (k+1) (fr+(l:Nat)) (ts++[((k:Int) - 1,(k:Int))]++(rgI fr l).map (fun x=>((k:Int),x))) (some (.int (k:Nat),.fz)) c1 h2 (by simp [aJ];omega);refine ⟨a',c',?_⟩
   have eT:ts++[((k:Int) - 1,(k:Int))]++(rgI fr l).map (fun x=>((k:Int),x))++(if 0 < k+1∧r≠[] then [(((k+1:Nat):Int) - 1,((k+1:Nat):Int))] else [])++cT ((k+1:Nat):Int) (fr+(l:Nat)) r=ts++(if 0 < k∧(l::r)≠[] then [((k:Int) - 1,(k:Int))] else [])++cT k fr (l::r):=by
    rw [if_pos (show 0 < k∧(l::r)≠[] from ⟨k0,by simp⟩)]
    conv=>rhs;unfold cT
    by_cases hr:r=[]
    ·subst hr;simp [cT]
    ·rw [if_pos ⟨by omega,hr⟩,if_neg hr]
     simp only [List.append_assoc,List.cons_append,List.nil_append];rw [show (((k+1:Nat):Int) - 1)=k by omega];rfl
   rw [eT,show fr+(l:Nat)+(r.sum:Nat)=fr+((l::r).sum:Nat) by rw [List.sum_cons];omega] at e2
   have hb2:ts.length≤1000:=by omega
   have hl:l≤1000000:=by omega
   have e0:aS [some (.tup (nD (iL legs)),.fz),some (.lst (tD ts),.ow),some (.int fr,.fz),some (.int (k:Nat),.fz),c]=some (.nx,[some (.tup (nD (iL legs)),.fz),some (.lst (tD (ts++[((k:Int) - 1,(k:Int))]++(rgI fr l).map (fun x=>((k:Int),x)))),.ow),some (.int (fr+(l:Nat)),.fz),some (.int (k:Nat),.fz),c1]):=by
    unfold aS
    (sleep 41;sleep 14;sleep 84;sleep 54;sleep 13;sleep 83;sleep 55;sleep 77;sleep 9;sleep 13;sleep 26;sleep 18;sleep 35;(with_reducible apply pz);sleep 105;sleep 117;sleep 106;sleep 85;exact ix;sleep 2;exact hl;exact e1;sleep 0)
   (sleep 41;sleep 95;exact e0;exact e2;sleep 0)
  ·obtain ⟨c1,e1⟩:=m9 (k:=k) (l:=l) (fr:=fr) (ts:=ts) (L:=some (.tup (nD (iL legs)),.fz)) (c:=c) (by omega)
   obtain ⟨a',c',e2⟩:=iq legs r (k+1) (fr+(l:Nat)) (ts++(rgI fr l).map (fun x=>((k:Int),x))) (some (.int (k:Nat),.fz)) c1 h2 (by simp [aJ];omega);refine ⟨a',c',?_⟩
   have eT:ts++(rgI fr l).map (fun x=>((k:Int),x))++(if 0 < k+1∧r≠[] then [(((k+1:Nat):Int) - 1,((k+1:Nat):Int))] else [])++cT ((k+1:Nat):Int) (fr+(l:Nat)) r=ts++(if 0 < k∧(l::r)≠[] then [((k:Int) - 1,(k:Int))] else [])++cT k fr (l::r):=by
    rw [if_neg (show ¬ (0 < k∧(l::r)≠[]) from fun z=>k0 z.1)]
    conv=>rhs;unfold cT
    by_cases hr:r=[]
    ·subst hr;simp [cT]
    ·rw [if_pos ⟨by omega,hr⟩,if_neg hr]
     simp only [List.append_assoc,List.cons_append,List.nil_append];rw [show (((k+1:Nat):Int) - 1)=k by omega];rfl
   rw [eT,show fr+(l:Nat)+(r.sum:Nat)=fr+((l::r).sum:Nat) by rw [List.sum_cons];omega] at e2
   have hl:l≤1000000:=by omega
   have e0:aS [some (.tup (nD (iL legs)),.fz),some (.lst (tD ts),.ow),some (.int fr,.fz),some (.int (k:Nat),.fz),c]=some (.nx,[some (.tup (nD (iL legs)),.fz),some (.lst (tD (ts++(rgI fr l).map (fun x=>((k:Int),x)))),.ow),some (.int (fr+(l:Nat)),.fz),some (.int (k:Nat),.fz),c1]):=by
    unfold aS
    (sleep 41;sleep 40;sleep 54;sleep 13;sleep 38;sleep 20;sleep 117;sleep 106;sleep 85;exact ix;sleep 2;exact hl;exact e1;sleep 0)
   (sleep 41;sleep 95;exact e0;exact e2;sleep 0)
theorem vE{legs:List Nat}(hb:legs.length+legs.sum≤1000):bK [.tup (nD (iL legs))]=some (.ok (.tup [.int ((legs.length:Int)+(legs.sum:Nat)),.lst (tD (cT 0 (legs.length:Nat) legs))]) false,.non):=by
 obtain ⟨a',c',e⟩:=iq legs legs 0 (legs.length:Nat) [] none none rfl (by simpa using hb)
 have e0:([]:List (Int×Int))++(if 0 < 0∧legs≠[] then [(((0:Nat):Int) - 1,((0:Nat):Int))] else [])++cT ((0:Nat):Int) (legs.length:Nat) legs=cT 0 (legs.length:Nat) legs:=by
  rw [if_neg (fun z=>absurd z.1 (by omega))];rfl
 rw [e0] at e;have e1:bR (.nm 3) aS (nD (rgI 0 legs.length)) [some (.tup (nD (iL legs)),.fz),some (.lst [],.ow),some (.int (legs.length:Nat),.fz),none,none]=some (.nx,[some (.tup (nD (iL legs)),.fz),some (.lst (tD (cT 0 (legs.length:Nat) legs)),.ow),some (.int ((legs.length:Int)+(legs.sum:Nat)),.fz),a',c']):=e
 have ln:cm [.tup (nD (iL legs))]=some (.int (legs.length:Nat),false):=by rw [eB,List.length_map]
 have hl:legs.length≤1000000:=by omega
 unfold bK e8
 (sleep 19;sleep 98;sleep 12;sleep 42;sleep 52;exact ln;sleep 67;sleep 106;sleep 34;exact ln;sleep 2;exact hl;exact e1;sleep 11;sleep 68;sleep 33;(with_reducible apply vW);sleep 12;sleep 47)
theorem vD{i:Int}:cr [.int i]=some (.ok (.bl true) false,.non):=by
 unfold cr iT
 (sleep 45;sleep 27;sleep 52;sleep 5;(with_reducible apply vZ);sleep 52;sleep 8)
theorem qZ{legs:List Nat}(h0:legs≠[])(hb:legs.length+legs.sum≤40):aU [spK legs]=some (.ok (hX ((legs.length+legs.sum:Nat):Int) (cE (spT legs))) false,.non):=by
 have h:=vE (legs:=legs) (by omega);have cl:=xF h0 0 (legs.length:Nat)
 have lt:(cT 0 (legs.length:Nat) legs).length < 64:=by rw [cl];unfold rem;omega
 rw [qe (kB h0)];unfold aU cA
 (sleep 44;sleep 51;sleep 15;sleep 14;sleep 118;sleep 82;sleep 0;sleep 30;sleep 11;sleep 68;sleep 33;sleep 4;sleep 34;(with_reducible apply nq);sleep 73;sleep 1;sleep 47)
theorem lZ{m n:Nat}(h1:m≤40)(h2:1≤n)(h3:n≤40)(h4:m * n≤60):aU [fM (m:Nat) (n:Nat)]=some (.ok (hX ((m+n:Nat):Int) (ju m n)) false,.non):=by
 have mu:iD [.int (m:Nat),.int (n:Nat)]=some (.int ((m * n:Nat):Int),false):=by rw [r6 (by omega) (by omega),Int.natCast_mul]
 have hh:m * n≤1000000:=by omega
 unfold aU cA
 (sleep 29;sleep 15;sleep 66;sleep 115;sleep 51;sleep 15;sleep 11;sleep 77;sleep 9;sleep 50;sleep 31;sleep 33;sleep 70;sleep 106;sleep 60;sleep 50;sleep 1;exact mu;sleep 2;exact hh;sleep 0;sleep 134;sleep 93;sleep 77;sleep 9;sleep 50;sleep 1;sleep 86;sleep 33;sleep 9;sleep 60;sleep 50;sleep 1;sleep 125;sleep 31;sleep 18;sleep 5;sleep 1;sleep 47)
theorem nX{n:Nat}{ts:List (Int×Int)}{ps:List Int}(G:Nm n ts ps):bJ [hX (n:Nat) ts,.tup (nD ps)]=some (.ok (.bl true) false,.non):=by
 have w := @vD;have l1:=G.l;have l2:=G.nl;have l3:=G.pl;have l4:=G.d;have l5:=G.lo;have l6:=G.hi;have l0:=G.n0;have ne:ps≠[]:=List.ne_nil_of_length_pos (by omega)
 have al:(ps.map fun _=>true).all id=true:=by rw [List.all_map,List.all_eq_true];exact fun _ _=>rfl
 have h1:∀ t∈ts,gIx [.tup (nD ps),.int t.1]=some (.int (ps.getD t.1.toNat 0),false):=fun t ht=>qB (G.r t ht).1 (by have:=G.r t ht;omega)
 have h2:∀ t∈ts,gIx [.tup (nD ps),.int t.2]=some (.int (ps.getD t.2.toNat 0),false):=fun t ht=>qB (G.r t ht).2.2.1 (by have:=G.r t ht;omega)
 unfold bJ eZ
 (sleep 29;sleep 148;sleep 23;sleep 49;sleep 34;sleep 119;sleep 53;sleep 109;sleep 141;sleep 80;sleep 7;sleep 122;sleep 64;sleep 65;sleep 6;sleep 136;sleep 99;sleep 10;(with_reducible apply w);sleep 6;sleep 2;sleep 137;sleep 1;sleep 141;sleep 63;sleep 23;sleep 49;sleep 7;sleep 34;(with_reducible apply uO _);omega;sleep 2;(with_reducible apply xh _);omega;sleep 53;sleep 109;sleep 141;sleep 23;sleep 49;sleep 34;(with_reducible apply r8);sleep 73;sleep 16;sleep 38;sleep 49;sleep 34;(with_reducible apply r9);sleep 73;sleep 7;sleep 53;sleep 119;sleep 1;sleep 38;sleep 66;sleep 70;sleep 64;sleep 138;sleep 6;sleep 104;sleep 99;sleep 102;sleep 85;(with_reducible apply h1);sleep 73;sleep 85;(with_reducible apply h2);sleep 73;sleep 2;(with_reducible apply zo);sleep 7;sleep 85;(with_reducible apply h1);sleep 73;sleep 85;(with_reducible apply h2);sleep 73;sleep 2;(with_reducible apply tR);sleep 1;sleep 5;sleep 2;(with_reducible apply qA);sleep 123;sleep 12;sleep 11;sleep 9;sleep 7;sleep 7;sleep 21;sleep 7;sleep 7;sleep 53;sleep 119;sleep 16;sleep 1;sleep 2;(with_reducible apply sd);omega;sleep 1;(with_reducible apply xj);sleep 5)
 rw [decide_eq_true G.s]
end K18
namespace K18
open PySem L2
abbrev rgf(n p:Int):Int:=if decide (p % 2=0)=true then p / 2+(if decide (n % 4=3)=true then (if decide (n / 2≤p)=true then 1 else 0) else 0) else n - p / 2 - (if decide (n % 4=0)=true then (if decide (n / 2≤p)=true then 1 else 0) else 0)
theorem nU{n:Nat}(h:n≤900):de [.int (n:Nat)]=some (.ok (.tup (nD (gr n))) false,.non):=by
 obtain ⟨ρ',e,a,b,rfl⟩:=cC (T:= .nm 2) (f:=eF) (fun i ρ=>∃ a b,ρ=[some (.int (n:Nat),.fz),some (.lst (nD ((rgI 0 i).map (rgf n))),.ow),a,b]) n [some (.int (n:Nat),.fz),some (.lst [],.ow),none,none] ⟨none,none,by simp [rgI]⟩ (by
  rintro i hi ρ ⟨a,b,rfl⟩
  have hb:((rgI 0 i).map (rgf n)).length≤1000:=by rw [List.length_map,aJ];omega
  rw [bS,List.map_append,Int.zero_add,List.map_cons,List.map_nil];unfold eF
  by_cases h2:(i:Int) % 2=0
  ·have e1:rgf n i=(i:Int) / 2+(if decide ((n:Int) % 4=3)=true then (if decide ((n:Int) / 2≤i)=true then 1 else 0) else 0):=by unfold rgf;rw [if_pos (decide_eq_true h2)]
   rw [e1]
   (sleep 78;sleep 126;sleep 54;sleep 58;sleep 86;sleep 31;sleep 17;sleep 17;sleep 12;sleep 84;sleep 103;sleep 83;sleep 55;sleep 4;sleep 58;sleep 86;sleep 3;sleep 126;sleep 103;sleep 90;sleep 17;sleep 1;sleep 35;sleep 124;sleep 105)
   exact ⟨_,_,rfl⟩
  ·have e1:rgf n i=(n:Int) - (i:Int) / 2 - (if decide ((n:Int) % 4=0)=true then (if decide ((n:Int) / 2≤i)=true then 1 else 0) else 0):=by unfold rgf;rw [if_neg (by rw [decide_eq_true_eq];exact h2)]
   rw [e1]
   (sleep 78;sleep 126;sleep 54;sleep 58;sleep 86;sleep 31;sleep 17;sleep 17;sleep 12;sleep 72;sleep 103;sleep 38;sleep 55;sleep 4;sleep 60;sleep 58;sleep 86;sleep 31;sleep 3;sleep 126;sleep 103;sleep 90;sleep 17;sleep 1;sleep 35;sleep 124;sleep 105)
   exact ⟨_,_,rfl⟩)
 have hn:n≤1000000:=by omega
 unfold de iS
 (sleep 19;sleep 98;sleep 67;sleep 81;exact hn;exact e;sleep 11;sleep 52;sleep 8)
theorem vG{n:Nat}{ts:List (Int×Int)}(O:cc n ts):cX [hX (n:Nat) ts]=some (.ok (.tup (nD (uV n ts))) false,.non):=by
 have h:dG [hX (n:Nat) ts]=some (.ok (.lst ((List.range n).map fun j=> .lst (nD (Td.nb (j:Nat) ts)))) false,.non):=xU O;unfold cX iP
 (sleep 45;sleep 70;sleep 64;sleep 10;exact h;sleep 6;sleep 104;sleep 99;sleep 52;(with_reducible apply nu);sleep 5;sleep 1;sleep 6)
theorem kx{n:Nat}{ts:List (Int×Int)}:bd [hX (n:Nat) ts,.ktup [.str "places"]]=some (.ok (.bl (decide ((ts.length:Int)+1 < n))) false,.non):=by
 unfold bd dl
 (sleep 19;sleep 4;sleep 53;sleep 119;sleep 12;sleep 51;sleep 54;sleep 3;sleep 107;sleep 18;sleep 1;sleep 5;sleep 11;sleep 62;sleep 92;sleep 6)
theorem nY{n:Nat}{ts:List (Int×Int)}(O:cc n ts)(h1:(uV n ts).all (fun c=>decide (c % 2=0))=true)(h2:(ts.length:Int) * ((ts.length:Int)+1) / 2 % 2=1):bd [hX (n:Nat) ts,.ktup [.str "even"]]=some (.ok (.bl true) false,.non):=by
 have h:=vG O;have l:=O.l
 have al:((uV n ts).map fun c=>decide (c % 2=0)).all id=true:=by rw [List.all_map];exact h1
 unfold bd dl
 (sleep 19;sleep 4;sleep 53;sleep 119;sleep 12;sleep 40;sleep 54;sleep 3;sleep 107;sleep 18;sleep 1;sleep 5;sleep 20;sleep 51;sleep 54;sleep 3;sleep 107;sleep 18;sleep 1;sleep 5;sleep 11;sleep 27;sleep 70;sleep 64;sleep 10;exact h;sleep 6;sleep 136;sleep 99;sleep 4;sleep 149;sleep 5;sleep 2;sleep 137;exact al;sleep 102;sleep 7;sleep 60;sleep 92;(with_reducible apply r6);sleep 22;sleep 76;sleep 86;sleep 76;sleep 87;sleep 5)
 rw [decide_eq_true h2]
theorem t_bar{n:Nat}{ts:List (Int×Int)}(O:cc n ts)(h0:n≤ts.length+1)(h1:(uV n ts).all (fun c=>decide (c % 2=0))=true)(h2:(ts.length:Int) * ((ts.length:Int)+1) / 2 % 2=1):eP [hX (n:Nat) ts]=some (.ok (.ktup [.str "even"]) false,.non):=by
 have a:=kx (n:=n) (ts:=ts);rw [decide_eq_false (by omega)] at a;have b:=nY O h1 h2;have s0:cu gD=some [.ktup [.str "places"],.ktup [.str "even"]]:=rfl;unfold eP kM
 (sleep 44;sleep 150;sleep 117;sleep 64;sleep 17;exact s0;sleep 95;unfold fP;sleep 72;sleep 74;sleep 3;sleep 28;sleep 37;exact a;sleep 71;sleep 20;(with_reducible apply yp);sleep 30;unfold fP;sleep 84;sleep 74;sleep 3;sleep 28;sleep 37;exact b;sleep 71;(with_reducible apply r_retF);sleep 8)
theorem rg_ok{n:Nat}(h1:3≤n)(h2:n≤40):cc n (bX n):=by
 have:=(mM (mU h1 h2)).perm (fQ (iW n)).symm;rw [(rA h1 h2).1] at this;exact this
theorem ug{n:Nat}(h1:3≤n)(h2:n≤40)(h3:n % 4=0∨n % 4=3):bu [hX (n:Nat) (bX n)]=some (.ok (.tup [.str "numbering",.tup (nD (gr n))]) false,.non):=by
 have h:=nU (n:=n) (by omega);unfold bu fy
 rcases h3 with h3 | h3
 ·(sleep 44;sleep 51;(with_reducible apply vY);sleep 88;sleep 87;sleep 83;sleep 0;sleep 11;sleep 48;sleep 82;sleep 0;sleep 47)
 ·(sleep 44;sleep 51;sleep 23;sleep 88;sleep 87;sleep 38;sleep 88;sleep 87;sleep 83;sleep 11;sleep 48;sleep 82;sleep 0;sleep 47)
theorem uh{n:Nat}(h1:3≤n)(h2:n≤40)(h3:¬ (n % 4=0∨n % 4=3)):bu [hX (n:Nat) (bX n)]=some (.ok (.tup [.str "bar",.ktup [.str "even"]]) false,.non):=by
 obtain ⟨b1,b2⟩:=vR h1 h2 h3;have h:=t_bar (rg_ok h1 h2) (by rw [du h1];omega) b1 (by rw [du h1];exact b2)
 have h4:¬ n % 4=0:=fun z=>h3 (.inl z)
 have h5:¬ n % 4=3:=fun z=>h3 (.inr z)
 unfold bu fy
 (sleep 29;sleep 23;sleep 88;sleep 87;sleep 38;sleep 88;sleep 87;sleep 38;sleep 32;sleep 48;sleep 10;exact h;sleep 0;sleep 47)
theorem ky{n:Nat}{d:D}(h1:3≤n)(h2:n≤40)(h:bu [hX (n:Nat) (bX n)]=some (.ok d false,.non)):bI [fc (n:Nat)]=some (.ok d false,.non):=by
 have w:=jj (zb h1 h2 (mM (mU h1 h2)));rw [(rA h1 h2).1] at w;unfold bI eV
 (sleep 19;sleep 108;sleep 39;sleep 51;sleep 15;sleep 11;sleep 10;exact h;sleep 8)
theorem vF{legs:List Nat}(h0:legs≠[])(hb:legs.length+legs.sum≤40):bI [spK legs]=some (.ok (.tup [.str "numbering",.tup (nD (cN legs))]) false,.non):=by
 have w:=jj (ok_sp h0 hb);have m:=ue h0 (by omega);unfold bI eV
 (sleep 19;sleep 108;sleep 39;sleep 40;sleep 15;sleep 32;sleep 48;sleep 10;exact m;sleep 0;sleep 47)
theorem pM{m n:Nat}(h1:1≤m)(h2:1≤n)(h3:m+n≤40)(h4:m * n≤60):bI [fM (m:Nat) (n:Nat)]=some (.ok (.tup [.str "numbering",.tup (nD (sdN m n))]) false,.non):=by
 have w:=jj (wI h1 h2 h3 (yd h1 h2 h3 h4).2);have md:=nV (m:=m) (n:=n) (by omega) (by omega);unfold bI eV
 (sleep 19;sleep 108;sleep 39;sleep 40;sleep 15;sleep 32;sleep 48;sleep 10;exact md;sleep 0;sleep 47)
end K18
namespace K18
open PySem L2
section
variable{n:Nat}{x1:Option (D×Md)}
abbrev cR(n:Nat)(i:Nat)(o:Int):Bool:=decide (o+1=(i:Int))||decide ((i:Int) - o=(n:Int) - 1)
theorem ze{i:Nat}{ts:List (Int×Int)}(hl:ts.length+i≤900000){x5 x6 x7:Option (D×Md)}:∃ y5 y6 y7,bR (.nm 5) ce (nD (rgI 0 i)) [some (fc (n:Nat),.fz),x1,some (.lst (tD ts),.ow),some (.int (n:Nat),.fz),some (.int (i:Nat),.fz),x5,x6,x7]=some (.nx,[some (fc (n:Nat),.fz),x1,some (.lst (tD (ts++((rgI 0 i).filter (cR n i)).map fun o=>(o,(i:Int)))),.ow),some (.int (n:Nat),.fz),some (.int (i:Nat),.fz),y5,y6,y7]):=by
 obtain ⟨ρ',e,y5,y6,y7,rfl⟩:=cC (T:= .nm 5) (f:=ce) (fun j ρ=>∃ y5 y6 y7,ρ=[some (fc (n:Nat),.fz),x1,some (.lst (tD (ts++((rgI 0 j).filter (cR n i)).map fun o=>(o,(i:Int)))),.ow),some (.int (n:Nat),.fz),some (.int (i:Nat),.fz),y5,y6,y7]) i [some (fc (n:Nat),.fz),x1,some (.lst (tD ts),.ow),some (.int (n:Nat),.fz),some (.int (i:Nat),.fz),x5,x6,x7] ⟨x5,x6,x7,by simp [rgI]⟩ (by
  rintro j hj ρ ⟨y5,y6,y7,rfl⟩
  have lb:(ts++((rgI 0 j).filter (cR n i)).map fun o=>(o,(i:Int))).length≤1000000:=by
   rw [List.length_append,List.length_map];have:=List.length_filter_le (cR n i) (rgI 0 j);rw [aJ] at this;omega
  rw [bS,List.filter_append,List.map_append,Int.zero_add,← List.append_assoc];unfold ce
  by_cases h1:(j:Int)+1=(i:Int)
  ·have f1:gEq [.int ((j:Int)+1),.int (i:Nat)]=some (.bl true,false):=by rw [jc,decide_eq_true h1]
   have c1:[(j:Int)].filter (cR n i)=[(j:Int)]:=by simp [cR,h1]
   rw [c1]
   (sleep 78;sleep 27;sleep 4;sleep 69;sleep 36;exact f1;sleep 0;(with_reducible apply r_orV);sleep 9;sleep 13;sleep 62;sleep 13;sleep 24;sleep 142;sleep 120;sleep 62;sleep 43;sleep 27;sleep 62;sleep 13;sleep 4;sleep 94;sleep 69;sleep 2;sleep 112;sleep 12;sleep 84;sleep 23;sleep 15;(with_reducible apply vY);sleep 74;sleep 37;exact Bool.or_true _;sleep 0;sleep 55;sleep 68;sleep 26;sleep 18;sleep 35;(with_reducible apply mK);sleep 105)
   exact ⟨_,_,_,rfl⟩
  ·have f1:gEq [.int ((j:Int)+1),.int (i:Nat)]=some (.bl false,false):=by rw [jc,decide_eq_false h1]
   by_cases h2:(i:Int) - (j:Int)=(n:Int) - 1
   ·have c1:[(j:Int)].filter (cR n i)=[(j:Int)]:=by simp [cR,h2]
    rw [c1]
    (sleep 78;sleep 120;sleep 4;sleep 69;sleep 36;exact f1;sleep 39;sleep 142;sleep 120;sleep 62;sleep 43;sleep 27;sleep 62;sleep 13;sleep 4;sleep 94;sleep 69;sleep 2;sleep 112;sleep 12;sleep 84;sleep 23;sleep 15;sleep 23;sleep 74;sleep 116;(with_reducible apply vY);sleep 74;sleep 37;sleep 83;sleep 0;sleep 55;sleep 68;sleep 26;sleep 18;sleep 35;(with_reducible apply mK);sleep 105)
    exact ⟨_,_,_,rfl⟩
   ·have c1:[(j:Int)].filter (cR n i)=[]:=by simp [cR,h1,h2]
    rw [c1,List.map_nil,List.append_nil]
    (sleep 78;sleep 120;sleep 4;sleep 69;sleep 36;exact f1;sleep 39;sleep 142;sleep 120;sleep 62;sleep 43;sleep 27;sleep 62;sleep 13;sleep 4;sleep 94;sleep 69;sleep 2;sleep 112;sleep 12;sleep 72;sleep 23;sleep 15;sleep 23;sleep 74;sleep 116;sleep 23;sleep 74;sleep 37;sleep 38;sleep 143;sleep 3;sleep 96;sleep 89;sleep 89;sleep 18;sleep 1;sleep 5;sleep 20)
    exact ⟨_,_,_,rfl⟩)
 exact ⟨y5,y6,y7,e⟩
abbrev pR(n i:Nat):List (Int×Int):=(rgI 0 i).flatMap fun one=>((rgI 0 one.toNat).filter fun other=>decide (other+1=one)||decide (one - other=(n:Int) - 1)).map fun other=>(other,one)
theorem nW(h1:3≤n)(h2:n≤40):aU [fc (n:Nat)]=some (.ok (hX (n:Nat) (bX n)) false,.non):=by
 have pl:∀ i,i≤40→(pR n i).length≤i * 40:=by
  intro i
  induction i with
  | zero=>intro _;simp [pR,rgI]
  | succ i ih =>
   intro hi;have:=ih (by omega);unfold pR at this ⊢;rw [bS,List.flatMap_append,List.length_append,List.flatMap_cons,List.flatMap_nil,List.append_nil,List.length_map];have q:=List.length_filter_le (fun other:Int=>decide (other+1=0+((i:Nat):Int))||decide (0+((i:Nat):Int) - other=(n:Int) - 1)) (rgI 0 (0+((i:Nat):Int)).toNat);rw [aJ] at q;omega
 obtain ⟨ρ',e,y4,y5,y6,y7,rfl⟩:=cC (T:= .nm 4) (f:=cQ) (fun i ρ=>∃ y4 y5 y6 y7,ρ=[some (fc (n:Nat),.fz),none,some (.lst (tD (pR n i)),.ow),some (.int (n:Nat),.fz),y4,y5,y6,y7]) n [some (fc (n:Nat),.fz),none,some (.lst [],.ow),some (.int (n:Nat),.fz),none,none,none,none] ⟨none,none,none,none,by simp [pR,rgI]⟩ (by
  rintro i hi ρ ⟨y4,y5,y6,y7,rfl⟩;have:=pl i (by omega);obtain ⟨z5,z6,z7,e⟩:=ze (n:=n) (x1:=none) (i:=i) (ts:=pR n i) (by omega) (x5:=y5) (x6:=y6) (x7:=y7)
  have ep:pR n (i+1)=pR n i++((rgI 0 i).filter (cR n i)).map fun o=>(o,(i:Int)):=by
   unfold pR;rw [bS,List.flatMap_append,List.flatMap_cons,List.flatMap_nil,List.append_nil,Int.zero_add];rfl
  have hi':i≤1000000:=by omega
  unfold cQ
  (sleep 97;sleep 117;sleep 81;exact hi';exact e)
  rw [ep]
  exact ⟨_,_,_,_,rfl⟩)
 have pe:cE (pR n n)=bX n:=(rA h1 h2).2
 have ll:(pR n n).length < 64:=by
  have:=congrArg List.length pe;rw [(fQ _).length_eq,du h1] at this;omega
 have sr:dU [.lst (tD (pR n n))]=some (.lst (tD (bX n)),true):=by rw [nq ll,pe]
 have gi:gIn [.str "ring",.lst [.str "wheel",.str "fan"]]=some (.bl false,false):=rfl
 have ga:bt [.int (n:Nat),.int (if false=true then 1 else 0)]=some (.int (n:Nat),false):=by
  show some (D.int ((n:Int)+0),false)=_
  rw [Int.add_zero]
 have hn:n≤1000000:=by omega
 unfold aU cA
 (sleep 29;sleep 15;sleep 66;sleep 151;sleep 15;sleep 66;sleep 98;sleep 67;sleep 106;sleep 60;sleep 7;sleep 144;sleep 3;sleep 96;sleep 89;sleep 89;sleep 57;exact gi;sleep 1;sleep 1;exact ga;sleep 2;exact hn;exact e;sleep 11;sleep 77;sleep 9;sleep 7;sleep 144;sleep 3;sleep 96;sleep 89;sleep 89;sleep 57;exact gi;sleep 1;sleep 1;exact ga;sleep 33;sleep 4;sleep 34;exact sr;sleep 1;sleep 47)
end
theorem rB{n:Nat}(h1:3≤n)(h2:n≤40):ax [fc (n:Nat)]=some (.ok (.bl true) false,.non):=by
 by_cases h3:n % 4=0∨n % 4=3
 ·have f:=ky h1 h2 (ug h1 h2 h3)
  have g:=nX (yf h1 h2 h3);have w:=nW h1 h2
  have gi:gIn [.int ((n:Int) % 4),.tup [.int 1,.int 2]]=some (.bl false,false):=by
   rcases h3 with h3 | h3
   ·rw [show (n:Int) % 4=0 by omega];rfl
   ·rw [show (n:Int) % 4=3 by omega];rfl
  unfold ax cO
  (sleep 44;sleep 14;sleep 118;sleep 10;exact f;sleep 0;sleep 30;sleep 40;(with_reducible apply v5);sleep 15;sleep 88;sleep 125;sleep 3;sleep 48;sleep 17;sleep 57;exact gi;sleep 0;sleep 32;sleep 27;sleep 9;sleep 43;sleep 59;sleep 108;sleep 0;sleep 36;exact g;sleep 8)
 ·have f:=ky h1 h2 (uh h1 h2 h3)
  have gi:gIn [.int ((n:Int) % 4),.tup [.int 1,.int 2]]=some (.bl true,false):=by
   obtain h4 | h4:(n:Int) % 4=1∨(n:Int) % 4=2:=by omega
   ·rw [h4];rfl
   ·rw [h4];rfl
  unfold ax cO
  (sleep 44;sleep 14;sleep 118;sleep 10;exact f;sleep 0;sleep 30;sleep 51;(with_reducible apply v5);sleep 15;sleep 88;sleep 125;sleep 3;sleep 48;sleep 17;sleep 57;exact gi;sleep 0;sleep 11;sleep 9;sleep 43;sleep 5)
theorem yi:ax [.tup [.str "spine",.tup [.int 0]]]=some (.ok (.bl true) false,.non):=zk (by decide +kernel)
theorem vT{legs:List Nat}(h0:legs≠[])(hb:legs.length+legs.sum≤40):ax [spK legs]=some (.ok (.bl true) false,.non):=by
 have hl:=List.length_pos_iff.mpr h0
 by_cases q0:0 < rem legs
 ·have hq:rem legs+1=legs.length+legs.sum:=by unfold rem;omega
  have f:=vF h0 hb;have pr:=zD q0 h0;rw [← qe (kB h0)] at pr;have nm:=pr.nm (by omega);rw [hq] at nm;have g:=nX nm;have w:=qZ h0 hb;unfold ax cO
  (sleep 44;sleep 14;sleep 118;sleep 10;exact f;sleep 0;sleep 30;sleep 40;sleep 143;sleep 43;sleep 32;sleep 27;sleep 9;sleep 43;sleep 59;sleep 108;sleep 0;sleep 36;exact g;sleep 8)
 ·have:legs=[0]:=by
   unfold rem at q0
   cases legs with
   | nil=>exact absurd rfl h0
   | cons l r =>
    cases r with
    | nil=>simp at q0;rw [q0]
    | cons m r=>simp at q0
  subst this;exact yi
theorem jO{m n:Nat}(h1:1≤m)(h2:1≤n)(h3:m+n≤40)(h4:m * n≤60):ax [fM (m:Nat) (n:Nat)]=some (.ok (.bl true) false,.non):=by
 have f:=pM h1 h2 h3 h4;obtain ⟨nm,hp⟩:=sd_nm h1 h2 h3 h4;have g:=nX nm;have w:=lZ (m:=m) (n:=n) (by omega) h2 (by omega) h4;unfold ax cO
 (sleep 44;sleep 14;sleep 118;sleep 10;exact f;sleep 0;sleep 30;sleep 40;sleep 143;sleep 43;sleep 32;sleep 27;sleep 9;sleep 43;sleep 59;sleep 108;sleep 0;sleep 36;exact g;sleep 8)
end K18
namespace K18
open PySem L2
theorem p3{i:Int}(h1:3≤i)(h2:i≤40):ax [.tup [.str "ring",.int i]]=some (.ok (.bl true) false,.non):=by
 have:=rB (n:=i.toNat) (by omega) (by omega);rw [show ((i.toNat:Nat):Int)=i by omega] at this;exact this
theorem uq{a b:Int}(h1:1≤a)(h2:a≤8)(h3:1≤b)(h4:b≤min (40 - a) (60 / a)):ax [.tup [.str "sides",.int a,.int b]]=some (.ok (.bl true) false,.non)∧ax [.tup [.str "sides",.int b,.int a]]=some (.ok (.bl true) false,.non):=by
 have h5:a.toNat * b.toNat≤60∧a+b≤40:=by
  obtain rfl | rfl | rfl | rfl | rfl | rfl | rfl | rfl:a=1∨a=2∨a=3∨a=4∨a=5∨a=6∨a=7∨a=8:=by omega
  all_goals (simp at h4 ⊢;omega)
 have r1:=jO (m:=a.toNat) (n:=b.toNat) (by omega) (by omega) (by omega) h5.1;have r2:=jO (m:=b.toNat) (n:=a.toNat) (by omega) (by omega) (by omega) (by rw [Nat.mul_comm];exact h5.1);rw [show ((a.toNat:Nat):Int)=a by omega,show ((b.toNat:Nat):Int)=b by omega] at r1 r2;exact ⟨r1,r2⟩
theorem sS:∀ (m s x:Nat),s < m→((List.replicate m 0).set s x).sum=x∧((List.replicate m 0).set s x).length=m
 | 0,_,_,h=>absurd h (Nat.not_lt_zero _)
 | m+1,0,x,_=>by
  rw [List.replicate_succ,List.set_cons_zero,List.sum_cons];simp
 | m+1,s+1,x,h=>by
  have:=sS m s x (by omega);rw [List.replicate_succ,List.set_cons_succ,List.sum_cons,List.length_cons,this.1,this.2];exact ⟨by omega,rfl⟩
theorem iL_set(m s x:Nat):iL ((List.replicate m 0).set s x)=(List.replicate m (0:Int)).set s (x:Int):=by
 show List.map _ _=_
 rw [List.map_set,List.map_replicate];rfl
theorem mV{m s:Nat}{d:Int}(hm:1≤m)(hs:s < m)(h0:0≤d)(h1:d+m≤40):ax [.tup [.str "spine",.tup (nD ((List.replicate m (0:Int)).set s d))]]=some (.ok (.bl true) false,.non):=by
 obtain ⟨a,b⟩:=sS m s d.toNat hs;have:=vT (legs:=(List.replicate m 0).set s d.toNat) (List.ne_nil_of_length_pos (by omega)) (by omega);rw [spK,iL_set,show ((d.toNat:Nat):Int)=d by omega] at this;exact this
theorem uG(m s:Nat)(d:Int):((List.replicate m (0:Int)).set s d).map (fun x=>if decide (0 < x)=true then (1:Int) else 0)=(List.replicate m (0:Int)).set s (if decide (0 < d)=true then 1 else 0):=by
 rw [List.map_set,List.map_replicate];rfl
theorem law_ok(ns:List Int):qD [.klst (nD ns)]=some (.ok (.bl true) false,.non):=by
 generalize hP:pen0 (tX ns 0)=P
 have tp:=tPen (c:=tX ns 0);rw [hP] at tp;have d34:=tS P (m:=34) (by omega) (by omega);have d8:=tS (nx P 34) (m:=8) (by omega) (by omega);have d9:=tS (nx (nx P 34) 8) (m:=9) (by omega) (by omega)
 obtain ⟨ρ1,e1,y1,rfl⟩:=cC (T:= .nm 3) (f:=kf) (fun i ρ=>∃ y,ρ=[some (.klst (nD ns),.fz),some (pD (nx P 34),.ow),some (.int (3+dr P 34),.fz),y,none,none,none,none,none]) 5 [some (.klst (nD ns),.fz),some (pD (nx P 34),.ow),some (.int (3+dr P 34),.fz),none,none,none,none,none,none] ⟨none,rfl⟩ (by
  rintro i hi ρ ⟨y,rfl⟩
  have g:gGt [.int (3+dr P 34),.int 36]=some (.bl false,false):=by
   show some (D.bl (decide (36 < 3+dr P 34)),false)=_
   rw [decide_eq_false (by omega)]
  have r:ax [.tup [.str "ring",.int (3+dr P 34+(i:Nat) - (if false=true then 1 else 0))]]=some (.ok (.bl true) false,.non):=by
   have:(3+dr P 34+(i:Nat) - (if false=true then 1 else 0):Int)=3+dr P 34+(i:Nat):=by simp
   rw [this];exact p3 (by omega) (by omega)
  unfold kf
  (sleep 97;sleep 72;sleep 80;sleep 3;sleep 59;sleep 48;sleep 4;sleep 94;sleep 7;sleep 58;exact g;sleep 1;sleep 1;sleep 57;exact r;sleep 71;sleep 20)
  exact ⟨_,rfl⟩)
 obtain ⟨ρ2,e2,y2,rfl⟩:=jN (T:= .nm 5) (f:=oq) (inj:=D.int) (fun (_:Unit) ρ=>∃ y,ρ=[some (.klst (nD ns),.fz),some (pD (nx (nx P 34) 8),.ow),some (.int (3+dr P 34),.fz),y1,some (.int (1+dr (nx P 34) 8),.fz),y,none,none,none]) (fun _ _=>()) (rgI 1 (min (40 - (1+dr (nx P 34) 8)) (60 / (1+dr (nx P 34) 8))+1 - 1).toNat) () [some (.klst (nD ns),.fz),some (pD (nx (nx P 34) 8),.ow),some (.int (3+dr P 34),.fz),y1,some (.int (1+dr (nx P 34) 8),.fz),none,none,none,none] ⟨none,rfl⟩ (by
  rintro b hb _ ρ ⟨y,rfl⟩;have hb:=bG.mp hb;obtain ⟨r1,r2⟩:=uq (a:=1+dr (nx P 34) 8) (b:=b) (by omega) (by omega) (by omega) (by omega);unfold oq
  (sleep 97;sleep 72;sleep 121;sleep 3;sleep 59;sleep 107;sleep 26;sleep 26;sleep 57;exact r1;sleep 71;sleep 80;sleep 3;sleep 59;sleep 107;sleep 26;sleep 26;sleep 57;exact r2;sleep 71;sleep 20)
  exact ⟨_,rfl⟩)
 generalize hm:(1+dr (nx (nx P 34) 8) 9)=mI at *
 obtain ⟨m,rfl⟩:∃ m:Nat,mI=(m:Nat):=⟨mI.toNat,by omega⟩
 obtain ⟨ρ3,e3,P3,y7,y8,rfl⟩:=cC (T:= .nm 7) (f:=oo) (fun i ρ=>∃ (Q:Pn) (y7 y8:Option (D×Md)),ρ=[some (.klst (nD ns),.fz),some (pD Q,.ow),some (.int (3+dr P 34),.fz),y1,some (.int (1+dr (nx P 34) 8),.fz),y2,some (.int (m:Nat),.fz),y7,y8]) m [some (.klst (nD ns),.fz),some (pD (nx (nx (nx P 34) 8) 9),.ow),some (.int (3+dr P 34),.fz),y1,some (.int (1+dr (nx P 34) 8),.fz),y2,some (.int (m:Nat),.fz),none,none] ⟨_,none,none,rfl⟩ (by
  rintro i hi ρ ⟨Q,y7,y8,rfl⟩;have dd:=tS Q (m:=41 - (m:Nat)) (by omega) (by omega);have r1:=mV (m:=m) (s:=i) (d:=dr Q (41 - (m:Nat))) (by omega) hi (by omega) (by omega)
  have r2:ax [.tup [.str "spine",.tup (nD (((List.replicate m (0:Int)).set i (dr Q (41 - (m:Nat)))).map fun x=>if decide (0 < x)=true then (1:Int) else 0))]]=some (.ok (.bl true) false,.non):=by
   rw [uG];exact mV (by omega) hi (by split<;>omega) (by split<;>omega)
  have gm:iD [.lst [.int 0],.int (m:Nat)]=some (.lst (nD (List.replicate m 0)),true):=by rw [xf (by omega) (by omega),Int.toNat_natCast]
  have us:gY (.lst (nD (List.replicate m 0))) (.int (i:Nat)) (.int (dr Q (41 - (m:Nat))))=some (.lst (nD ((List.replicate m 0).set i (dr Q (41 - (m:Nat)))))):=by rw [uSetI (by omega) (by simp;omega),Int.toNat_natCast]
  unfold oo
  (sleep 78;sleep 4;sleep 3;sleep 96;sleep 89;sleep 18;sleep 36;exact gm;sleep 12;sleep 14;(with_reducible apply sY);sleep 127;sleep 25;sleep 7;sleep 21;sleep 37;sleep 1;sleep 128;sleep 22;sleep 0;sleep 129;sleep 0;sleep 91;exact us;sleep 24;sleep 72;sleep 121;sleep 3;sleep 59;sleep 48;sleep 9;sleep 31;sleep 57;exact r1;sleep 71;sleep 80;sleep 3;sleep 59;sleep 48;sleep 70;sleep 64;(with_reducible apply vW);sleep 12;sleep 5;sleep 104;sleep 99;sleep 4;sleep 92;sleep 5;sleep 1;sleep 57;exact r2;sleep 71;sleep 20)
  exact ⟨_,_,_,rfl⟩)
 have hm':m≤1000000:=by omega
 have gA:bt [.int 1,.int (dr (nx (nx P 34) 8) 9)]=some (.int (m:Nat),false):=by show some (D.int (1+_),false)=_;rw [hm]
 have h60:0≤60 / (1+dr (nx P 34) 8):=Int.ediv_nonneg (by omega) (by omega);have e1':bR (.nm 3) kf (nD (rgI 0 (5:Int).toNat)) [some (.klst (nD ns),.fz),some (pD (nx P 34),.ow),some (.int (3+dr P 34),.fz),none,none,none,none,none,none]=_:=e1;unfold qD zX
 (sleep 19;sleep 59;sleep 28;sleep 16;(with_reducible apply tCell0);sleep 0;sleep 2;exact tp;sleep 39;sleep 42;sleep 4;sleep 21;sleep 3;sleep 127;sleep 25;sleep 16;sleep 128;sleep 22;sleep 0;sleep 129;sleep 31;sleep 24;sleep 145;(with_reducible apply sX);sleep 76;sleep 22;exact e1';sleep 42;sleep 4;sleep 21;sleep 3;sleep 127;sleep 25;sleep 16;sleep 128;sleep 22;sleep 0;sleep 129;sleep 31;sleep 24;sleep 145;sleep 133;sleep 21;sleep 7;sleep 7;sleep 7;sleep 21;sleep 37;sleep 7;sleep 21;sleep 36;sleep 86;sleep 2;(with_reducible apply tR);sleep 16;sleep 2;sleep 22;sleep 22;omega;exact e2;sleep 42;sleep 4;sleep 21;sleep 3;sleep 127;sleep 25;sleep 16;sleep 128;sleep 22;sleep 0;sleep 129;sleep 2;exact gA;sleep 67;sleep 81;exact hm';exact e3;sleep 11;sleep 17;sleep 6)
end K18
namespace K18
open PySem L2 PyProof.Rows
def DIn(K:PySem.W.Frag)(x:Str)(i:Nat):Prop:=∃ (f:Addr) (od an:Option Addr) (sl:Array (Option Value)) (oc kV dc pm cd ct:Value),PySem.W.nsIn K mainGlobals x=some (some (.ref f))∧K.lookup f=some ⟨oc,od,.func (PySem.W.fnOf x x (fq (top i)) (ci (top i)) (ae (top i)) .none kV dc pm an cd ct),sl⟩∧PySem.W.codeIn K cd x=true∧PySem.W.keepIn K (.ref f)=true
theorem din_mk{K:PySem.W.Frag}{x:Str}{i:Nat}{f:Addr}{od an:Option Addr}{sl:Array (Option Value)}{oc kV dc pm cd ct:Value}(a:PySem.W.nsIn K mainGlobals x=some (some (.ref f)))(l:K.lookup f=some ⟨oc,od,.func (PySem.W.fnOf x x (fq (top i)) (ci (top i)) (ae (top i)) .none kV dc pm an cd ct),sl⟩)(c:PySem.W.codeIn K cd x=true)(k:PySem.W.keepIn K (.ref f)=true):DIn K x i:=⟨f,od,an,sl,oc,kV,dc,pm,cd,ct,a,l,c,k⟩
theorem aF{K:PySem.W.Frag}{mg:Str→Option Value}{h:Heap}(X:K.In h)(G:h.Ns mainGlobals mg){x:Str}{i:Nat}{ps:List Str}(d:DIn K x i)
 (hb:∀ (kV doc pm:Value) (an:Option Addr) (cdv ct:Value) (us:List Value),us.length=ps.length→bindArgs (PySem.W.fnOf x x (fq (top i)) (ci (top i)) (ae (top i)) .none kV doc pm an cdv ct) ⟨us,[]⟩=pure (ps.zip us)):Has K mg x (top i) ps:=by
 obtain ⟨f,od,an,sl,oc,kV,dc,pm,cd,ct,a,l,c,k⟩:=d;exact ⟨f,_,sf l c k,PySem.W.mg_of X G a,(sf (st:=top i) l c k).binds hb⟩
theorem own_of{K:PySem.W.Frag}{mg:Str→Option Value}{h:Heap}{x:Str}{C:Addr}{bs:List Value}{ni:String}(X:K.In h)(G:h.Ns mainGlobals mg)(e:PySem.W.nsIn K mainGlobals x=some (some (.ref C)))(q:PySem.W.excIn K C bs ni=true):OwnCls x C bs ni mg h where
 bound:=PySem.W.mg_of X G e
 obj:=by
  unfold PySem.W.excIn at q
  split at q
  case h_2=>cases q
  case h_1 d1 cl ss look =>
   split at q
   case h_2=>cases q
   case h_1 C2 rest a0 a1 a2 a3 nw a5 hmro hslots =>
    rcases cl with ⟨c1,c2,c3,c4,c5,c6,c7,c8,c9,c10,c11⟩
    rcases ss with ⟨ss⟩
    simp only [Bool.and_eq_true,beq_iff_eq,Bool.not_eq_true'] at q
    rcases q with ⟨⟨⟨⟨⟨w1,w2⟩,w3⟩,w4⟩,w5⟩,w6⟩
    dsimp only at hmro hslots w3 w5 w6;cases w1;cases w2;cases hmro;cases w3;cases hslots;exact ⟨rest,c4,c1,c5,c2,c6,c7,c8,c9,c10,d1,a0,a1,a2,a3,a5,_,X _ _ look,.of_isNs (PySem.W.isNs_of_in X w5),PySem.W.nsMap_none_of_in X w5 w6,PySem.W.tail_of_in X w4⟩
theorem all_mk{l:PySem.W.OpenLaw}{w:World}{K:PySem.W.Frag}{h:Heap}{mg:Str→Option Value}{fa:Addr}(X:K.In h)(G:h.Ns mainGlobals mg)(hfa:mg "law" = some (.ref fa))
 {A_NoKind:Addr}
 {tk_MOST_PLACES:Tok}
 {tk_MOST_TIES:Tok}
 {bb0:Addr} {db0:Option Addr} {nb0:Nat} {sb0:Array (Option Value)} {bb1:Addr} {db1:Option Addr} {nb1:Nat} {sb1:Array (Option Value)} {tb1_0:Tok} {bb2:Addr} {db2:Option Addr} {nb2:Nat} {sb2:Array (Option Value)} {tb2_0:Tok}
 {da_LEAST_NUMBERS:Addr} {de_LEAST_NUMBERS:Nat}
 {dt_LEAST_NUMBERS_0:Tok} {bb3:Addr} {db3:Option Addr} {nb3:Nat} {sb3:Array (Option Value)} {tb3_0:Tok}
 {dt_LEAST_NUMBERS_1:Tok} {bb4:Addr} {db4:Option Addr} {nb4:Nat} {sb4:Array (Option Value)} {tb4_0:Tok} {tb4_1:Tok}
 {dt_LEAST_NUMBERS_2:Tok} {bb5:Addr} {db5:Option Addr} {nb5:Nat} {sb5:Array (Option Value)} {tb5_0:Tok}
 {dt_LEAST_NUMBERS_3:Tok} {bb6:Addr} {db6:Option Addr} {nb6:Nat} {sb6:Array (Option Value)} {tb6_0:Tok}
 {dt_LEAST_NUMBERS_4:Tok} {bb7:Addr} {db7:Option Addr} {nb7:Nat} {sb7:Array (Option Value)} {tb7_0:Tok}
 (d0:DIn K "is_whole" 5)
 (d1:DIn K "whole_within" 6)
 (d2:DIn K "many_good" 10)
 (d3:DIn K "tie_told" 11)
 (d4:DIn K "is_place" 12)
 (d5:DIn K "web_of" 13)
 (d6:DIn K "tie_counts" 14)
 (d7:DIn K "tied_places" 15)
 (d8:DIn K "kind_good" 18)
 (d9:DIn K "web_for" 19)
 (d10:DIn K "form_good" 20)
 (d11:DIn K "legs_good" 21)
 (d12:DIn K "numbers_good" 22)
 (d13:DIn K "places_in" 23)
 (d14:DIn K "ties_in" 24)
 (d15:DIn K "row_ties" 25)
 (d16:DIn K "star_ties" 26)
 (d17:DIn K "spine_ties" 27)
 (d18:DIn K "ring_ties" 28)
 (d19:DIn K "sides_ties" 29)
 (d20:DIn K "full_ties" 30)
 (d21:DIn K "fan_ties" 31)
 (d22:DIn K "wheel_ties" 32)
 (d23:DIn K "step_bar_holds" 35)
 (d24:DIn K "step_bar" 36)
 (d25:DIn K "steps_for" 38)
 (d26:DIn K "parted_made" 39)
 (d27:DIn K "spine_steps" 40)
 (d28:DIn K "sides_steps" 41)
 (d29:DIn K "ring_answer" 42)
 (d30:DIn K "ring_steps" 43)
 (d31:DIn K "_law_cell_at" 45)
 (d32:DIn K "_law_next" 46)
 (d33:DIn K "_law_pen_of" 47)
 (d34:DIn K "_law_draw" 48)
 (d35:DIn K "_law_whole" 49)
 (d36:DIn K "_law_spine_ties" 50)
 (d37:DIn K "_law_made_web" 51)
 (d38:DIn K "_law_steps_good" 53)
 (d39:DIn K "_law_right" 54)
 (d40:DIn K "law" 55)
 (z_all:PySem.W.nsIn K mainGlobals "all" = some none)
 (z_bool:PySem.W.nsIn K mainGlobals "bool" = some none)
 (z_enumerate:PySem.W.nsIn K mainGlobals "enumerate" = some none)
 (z_int:PySem.W.nsIn K mainGlobals "int" = some none)
 (z_isinstance:PySem.W.nsIn K mainGlobals "isinstance" = some none)
 (z_len:PySem.W.nsIn K mainGlobals "len" = some none)
 (z_list:PySem.W.nsIn K mainGlobals "list" = some none)
 (z_max:PySem.W.nsIn K mainGlobals "max" = some none)
 (z_min:PySem.W.nsIn K mainGlobals "min" = some none)
 (z_range:PySem.W.nsIn K mainGlobals "range" = some none)
 (z_set:PySem.W.nsIn K mainGlobals "set" = some none)
 (z_sorted:PySem.W.nsIn K mainGlobals "sorted" = some none)
 (z_str:PySem.W.nsIn K mainGlobals "str" = some none)
 (z_sum:PySem.W.nsIn K mainGlobals "sum" = some none)
 (z_tuple:PySem.W.nsIn K mainGlobals "tuple" = some none)
 (z_zip:PySem.W.nsIn K mainGlobals "zip" = some none)
 (q_MOST_PLACES:PySem.W.nsIn K mainGlobals "MOST_PLACES" = some (some (.int 40 tk_MOST_PLACES)))
 (q_MOST_TIES:PySem.W.nsIn K mainGlobals "MOST_TIES" = some (some (.int 60 tk_MOST_TIES)))
 (q_STEP_BARS:PySem.W.nsIn K mainGlobals "STEP_BARS" = some (some (.ref bb0)))
 (lb0:K.lookup bb0=some ⟨.type "tuple",db0,.seq #[.ref bb1,.ref bb2] nb0,sb0⟩)
 (lb1:K.lookup bb1=some ⟨.type "tuple",db1,.seq #[.str "places" tb1_0] nb1,sb1⟩)
 (lb2:K.lookup bb2=some ⟨.type "tuple",db2,.seq #[.str "even" tb2_0] nb2,sb2⟩)
 (q_LEAST_NUMBERS:PySem.W.nsIn K mainGlobals "LEAST_NUMBERS" = some (some (.ref da_LEAST_NUMBERS)))
 (ql_LEAST_NUMBERS:K.lookup da_LEAST_NUMBERS=some ⟨.type "dict",none,.dict #[⟨PyData.keyHash w.params "ring",.str "ring" dt_LEAST_NUMBERS_0,.ref bb3⟩,⟨PyData.keyHash w.params "sides",.str "sides" dt_LEAST_NUMBERS_1,.ref bb4⟩,⟨PyData.keyHash w.params "full",.str "full" dt_LEAST_NUMBERS_2,.ref bb5⟩,⟨PyData.keyHash w.params "wheel",.str "wheel" dt_LEAST_NUMBERS_3,.ref bb6⟩,⟨PyData.keyHash w.params "fan",.str "fan" dt_LEAST_NUMBERS_4,.ref bb7⟩] de_LEAST_NUMBERS,#[]⟩)
 (lb3:K.lookup bb3=some ⟨.type "tuple",db3,.seq #[.int 3 tb3_0] nb3,sb3⟩)
 (lb4:K.lookup bb4=some ⟨.type "tuple",db4,.seq #[.int 1 tb4_0,.int 1 tb4_1] nb4,sb4⟩)
 (lb5:K.lookup bb5=some ⟨.type "tuple",db5,.seq #[.int 1 tb5_0] nb5,sb5⟩)
 (lb6:K.lookup bb6=some ⟨.type "tuple",db6,.seq #[.int 3 tb6_0] nb6,sb6⟩)
 (lb7:K.lookup bb7=some ⟨.type "tuple",db7,.seq #[.int 1 tb7_0] nb7,sb7⟩)
 (qn_LEAST_NUMBERS:(da_LEAST_NUMBERS == sysModules)=false)
 (n_NoKind:PySem.W.nsIn K mainGlobals "NoKind" = some (some (.ref A_NoKind)))
 (x_NoKind:PySem.W.excIn K A_NoKind [.type "ValueError",.type "Exception",.type "BaseException",.type "object"] "ValueError.__new__" = true)
 : ∃ fd:FuncData,(∀ (s:Shared) (v:Value),BindsTo s fd ⟨[v],[]⟩ [("script",v)])∧∀ base:Heap,K.In base→base.Ns mainGlobals mg→kc l.prog w K mg base (CXr l.prog w) 9 fa fd ["script"] (spF K none qD):=by
 obtain ⟨fL,odL,anL,slL,ocL,kVL,dcL,pmL,cdL,ctL,aL,lL,cL,kL⟩:=d40;cases hfa.symm.trans (PySem.W.mg_of X G aL);have T:Txt K mg:=⟨PySem.W.mg_none_of X G z_all,PySem.W.mg_none_of X G z_bool,PySem.W.mg_none_of X G z_enumerate,PySem.W.mg_none_of X G z_int,PySem.W.mg_none_of X G z_isinstance,PySem.W.mg_none_of X G z_len,PySem.W.mg_none_of X G z_list,PySem.W.mg_none_of X G z_max,PySem.W.mg_none_of X G z_min,PySem.W.mg_none_of X G z_range,PySem.W.mg_none_of X G z_set,PySem.W.mg_none_of X G z_sorted,PySem.W.mg_none_of X G z_str,PySem.W.mg_none_of X G z_sum,PySem.W.mg_none_of X G z_tuple,PySem.W.mg_none_of X G z_zip,⟨tk_MOST_PLACES,PySem.W.mg_of X G q_MOST_PLACES⟩,⟨tk_MOST_TIES,PySem.W.mg_of X G q_MOST_TIES⟩,⟨bb0,PySem.W.mg_of X G q_STEP_BARS,fun H=>⟨bb0,[.ref bb1,.ref bb2],rfl,.inr ⟨_,#[.ref bb1,.ref bb2],nb0,lb0,rfl,rfl,by show 2≤sizeLine;decide,(.cons rfl (.cons rfl .nil))⟩,⟨bb1,[.str "places"],rfl,.inr ⟨_,#[.str "places" tb1_0],nb1,lb1,rfl,rfl,by show 1≤sizeLine;decide,(.cons ⟨_,rfl⟩ .nil)⟩,rfl,trivial⟩,⟨bb2,[.str "even"],rfl,.inr ⟨_,#[.str "even" tb2_0],nb2,lb2,rfl,rfl,by show 1≤sizeLine;decide,(.cons ⟨_,rfl⟩ .nil)⟩,rfl,trivial⟩,trivial⟩⟩⟩
 have M_LEAST_NUMBERS:ua w K mg "LEAST_NUMBERS" bw bx:=⟨⟨da_LEAST_NUMBERS,[.ref bb3,.ref bb4,.ref bb5,.ref bb6,.ref bb7],PySem.W.mg_of X G q_LEAST_NUMBERS,rfl,fzM_of [("ring",dt_LEAST_NUMBERS_0,bb3),("sides",dt_LEAST_NUMBERS_1,bb4),("full",dt_LEAST_NUMBERS_2,bb5),("wheel",dt_LEAST_NUMBERS_3,bb6),("fan",dt_LEAST_NUMBERS_4,bb7)] qn_LEAST_NUMBERS ql_LEAST_NUMBERS (show (["ring", "sides", "full", "wheel", "fan"]:List Str).Nodup by decide),fun H=>⟨⟨bb3,[.int 3],rfl,.inr ⟨_,#[.int 3 tb3_0],nb3,lb3,rfl,rfl,by show 1≤sizeLine;decide,(.cons ⟨_,rfl⟩ .nil)⟩,rfl,trivial⟩,⟨bb4,[.int 1,.int 1],rfl,.inr ⟨_,#[.int 1 tb4_0,.int 1 tb4_1],nb4,lb4,rfl,rfl,by show 2≤sizeLine;decide,(.cons ⟨_,rfl⟩ (.cons ⟨_,rfl⟩ .nil))⟩,rfl,rfl,trivial⟩,⟨bb5,[.int 1],rfl,.inr ⟨_,#[.int 1 tb5_0],nb5,lb5,rfl,rfl,by show 1≤sizeLine;decide,(.cons ⟨_,rfl⟩ .nil)⟩,rfl,trivial⟩,⟨bb6,[.int 3],rfl,.inr ⟨_,#[.int 3 tb6_0],nb6,lb6,rfl,rfl,by show 1≤sizeLine;decide,(.cons ⟨_,rfl⟩ .nil)⟩,rfl,trivial⟩,⟨bb7,[.int 1],rfl,.inr ⟨_,#[.int 1 tb7_0],nb7,lb7,rfl,rfl,by show 1≤sizeLine;decide,(.cons ⟨_,rfl⟩ .nil)⟩,rfl,trivial⟩,trivial⟩⟩⟩
 have D0:Has K mg "is_whole" (top 5) ["thing"]:=aF X G d0 fun _ _ _ _ _ _ us hl=>match us,hl with | [_],_=>rfl
 have D1:Has K mg "whole_within" (top 6) ["thing", "least", "most"]:=aF X G d1 fun _ _ _ _ _ _ us hl=>match us,hl with | [_,_,_],_=>rfl
 have D2:Has K mg "many_good" (top 10) ["thing"]:=aF X G d2 fun _ _ _ _ _ _ us hl=>match us,hl with | [_],_=>rfl
 have D3:Has K mg "tie_told" (top 11) ["many", "thing"]:=aF X G d3 fun _ _ _ _ _ _ us hl=>match us,hl with | [_,_],_=>rfl
 have D4:Has K mg "is_place" (top 12) ["many", "thing"]:=aF X G d4 fun _ _ _ _ _ _ us hl=>match us,hl with | [_,_],_=>rfl
 have D5:Has K mg "web_of" (top 13) ["many", "things"]:=aF X G d5 fun _ _ _ _ _ _ us hl=>match us,hl with | [_,_],_=>rfl
 have D6:Has K mg "tie_counts" (top 14) ["web"]:=aF X G d6 fun _ _ _ _ _ _ us hl=>match us,hl with | [_],_=>rfl
 have D7:Has K mg "tied_places" (top 15) ["web"]:=aF X G d7 fun _ _ _ _ _ _ us hl=>match us,hl with | [_],_=>rfl
 have D8:Has K mg "kind_good" (top 18) ["thing"]:=aF X G d8 fun _ _ _ _ _ _ us hl=>match us,hl with | [_],_=>rfl
 have D9:Has K mg "web_for" (top 19) ["kind"]:=aF X G d9 fun _ _ _ _ _ _ us hl=>match us,hl with | [_],_=>rfl
 have D10:Has K mg "form_good" (top 20) ["thing"]:=aF X G d10 fun _ _ _ _ _ _ us hl=>match us,hl with | [_],_=>rfl
 have D11:Has K mg "legs_good" (top 21) ["thing"]:=aF X G d11 fun _ _ _ _ _ _ us hl=>match us,hl with | [_],_=>rfl
 have D12:Has K mg "numbers_good" (top 22) ["leasts", "things"]:=aF X G d12 fun _ _ _ _ _ _ us hl=>match us,hl with | [_,_],_=>rfl
 have D13:Has K mg "places_in" (top 23) ["kind"]:=aF X G d13 fun _ _ _ _ _ _ us hl=>match us,hl with | [_],_=>rfl
 have D14:Has K mg "ties_in" (top 24) ["kind"]:=aF X G d14 fun _ _ _ _ _ _ us hl=>match us,hl with | [_],_=>rfl
 have D15:Has K mg "row_ties" (top 25) ["first", "last"]:=aF X G d15 fun _ _ _ _ _ _ us hl=>match us,hl with | [_,_],_=>rfl
 have D16:Has K mg "star_ties" (top 26) ["middle", "first", "last"]:=aF X G d16 fun _ _ _ _ _ _ us hl=>match us,hl with | [_,_,_],_=>rfl
 have D17:Has K mg "spine_ties" (top 27) ["legs"]:=aF X G d17 fun _ _ _ _ _ _ us hl=>match us,hl with | [_],_=>rfl
 have D18:Has K mg "ring_ties" (top 28) ["n"]:=aF X G d18 fun _ _ _ _ _ _ us hl=>match us,hl with | [_],_=>rfl
 have D19:Has K mg "sides_ties" (top 29) ["m", "n"]:=aF X G d19 fun _ _ _ _ _ _ us hl=>match us,hl with | [_,_],_=>rfl
 have D20:Has K mg "full_ties" (top 30) ["n"]:=aF X G d20 fun _ _ _ _ _ _ us hl=>match us,hl with | [_],_=>rfl
 have D21:Has K mg "fan_ties" (top 31) ["n"]:=aF X G d21 fun _ _ _ _ _ _ us hl=>match us,hl with | [_],_=>rfl
 have D22:Has K mg "wheel_ties" (top 32) ["n"]:=aF X G d22 fun _ _ _ _ _ _ us hl=>match us,hl with | [_],_=>rfl
 have D23:Has K mg "step_bar_holds" (top 35) ["web", "thing"]:=aF X G d23 fun _ _ _ _ _ _ us hl=>match us,hl with | [_,_],_=>rfl
 have D24:Has K mg "step_bar" (top 36) ["web"]:=aF X G d24 fun _ _ _ _ _ _ us hl=>match us,hl with | [_],_=>rfl
 have D25:Has K mg "steps_for" (top 38) ["kind"]:=aF X G d25 fun _ _ _ _ _ _ us hl=>match us,hl with | [_],_=>rfl
 have D26:Has K mg "parted_made" (top 39) ["kind"]:=aF X G d26 fun _ _ _ _ _ _ us hl=>match us,hl with | [_],_=>rfl
 have D27:Has K mg "spine_steps" (top 40) ["legs"]:=aF X G d27 fun _ _ _ _ _ _ us hl=>match us,hl with | [_],_=>rfl
 have D28:Has K mg "sides_steps" (top 41) ["m", "n"]:=aF X G d28 fun _ _ _ _ _ _ us hl=>match us,hl with | [_,_],_=>rfl
 have D29:Has K mg "ring_answer" (top 42) ["web"]:=aF X G d29 fun _ _ _ _ _ _ us hl=>match us,hl with | [_],_=>rfl
 have D30:Has K mg "ring_steps" (top 43) ["n"]:=aF X G d30 fun _ _ _ _ _ _ us hl=>match us,hl with | [_],_=>rfl
 have D31:Has K mg "_law_cell_at" (top 45) ["script", "k"]:=aF X G d31 fun _ _ _ _ _ _ us hl=>match us,hl with | [_,_],_=>rfl
 have D32:Has K mg "_law_next" (top 46) ["seed"]:=aF X G d32 fun _ _ _ _ _ _ us hl=>match us,hl with | [_],_=>rfl
 have D33:Has K mg "_law_pen_of" (top 47) ["cell"]:=aF X G d33 fun _ _ _ _ _ _ us hl=>match us,hl with | [_],_=>rfl
 have D34:Has K mg "_law_draw" (top 48) ["pen", "many"]:=aF X G d34 fun _ _ _ _ _ _ us hl=>match us,hl with | [_,_],_=>rfl
 have D35:Has K mg "_law_whole" (top 49) ["found"]:=aF X G d35 fun _ _ _ _ _ _ us hl=>match us,hl with | [_],_=>rfl
 have D36:Has K mg "_law_spine_ties" (top 50) ["legs"]:=aF X G d36 fun _ _ _ _ _ _ us hl=>match us,hl with | [_],_=>rfl
 have D37:Has K mg "_law_made_web" (top 51) ["kind"]:=aF X G d37 fun _ _ _ _ _ _ us hl=>match us,hl with | [_],_=>rfl
 have D38:Has K mg "_law_steps_good" (top 53) ["web", "thing"]:=aF X G d38 fun _ _ _ _ _ _ us hl=>match us,hl with | [_,_],_=>rfl
 have D39:Has K mg "_law_right" (top 54) ["kind"]:=aF X G d39 fun _ _ _ _ _ _ us hl=>match us,hl with | [_],_=>rfl
 refine ⟨PySem.W.fnOf "law" "law" (fq (top 55)) (ci (top 55)) (ae (top 55)) .none kVL dcL pmL anL cdL ctL,fun s v=> .of_eq rfl,fun base KB GB=> ?_⟩;have O_NoKind:OwnCls "NoKind" A_NoKind [.type "ValueError",.type "Exception",.type "BaseException",.type "object"] "ValueError.__new__" mg base:=own_of KB GB n_NoKind x_NoKind;have G_is_whole:=ql (P:=l.prog) (w:=w) (base:=base) D0 T;have G_tied_places:=k8 (P:=l.prog) (w:=w) (base:=base) D7 T;have G_places_in:=oH (P:=l.prog) (w:=w) (base:=base) D13 T;have G_row_ties:=qk (P:=l.prog) (w:=w) (base:=base) D15 T;have G_star_ties:=oF (P:=l.prog) (w:=w) (base:=base) D16 T;have G_spine_steps:=k9 (P:=l.prog) (w:=w) (base:=base) D27 T;have G_sides_steps:=ld (P:=l.prog) (w:=w) (base:=base) D28 T;have G_ring_steps:=mo (P:=l.prog) (w:=w) (base:=base) D30 T;have G__law_cell_at:=j9 (P:=l.prog) (w:=w) (base:=base) D31 T;have G__law_next:=oO (P:=l.prog) (w:=w) (base:=base) D32 T;have G__law_pen_of:=lg (P:=l.prog) (w:=w) (base:=base) D33 T;have G__law_whole:=mq (P:=l.prog) (w:=w) (base:=base) D35 T;have G__law_spine_ties:=im (P:=l.prog) (w:=w) (base:=base) D36 T;have G_whole_within:=j7 (P:=l.prog) (w:=w) (base:=base) D1 T G_is_whole;have G_tie_counts:=mj (P:=l.prog) (w:=w) (base:=base) D6 T G_tied_places;have G_spine_ties:=ml (P:=l.prog) (w:=w) (base:=base) D17 T G_row_ties G_star_ties;have G_ring_ties:=oG (P:=l.prog) (w:=w) (base:=base) D18 T G_row_ties;have G_sides_ties:=mm (P:=l.prog) (w:=w) (base:=base) D19 T G_star_ties;have G_full_ties:=oM (P:=l.prog) (w:=w) (base:=base) D20 T G_star_ties;have G_fan_ties:=qo (P:=l.prog) (w:=w) (base:=base) D21 T G_star_ties G_row_ties
 have G_parted_made:=lf (P:=l.prog) (w:=w) (base:=base) D26 T G_spine_steps G_sides_steps O_NoKind PySem.F.excBase_ValueError n_NoKind;have G__law_draw:=oP (P:=l.prog) (w:=w) (base:=base) D34 T G__law_next;have G__law_made_web:=jo (P:=l.prog) (w:=w) (base:=base) D37 T G__law_spine_ties;have G__law_steps_good:=il (P:=l.prog) (w:=w) (base:=base) D38 T G__law_whole;have G_many_good:=oI (P:=l.prog) (w:=w) (base:=base) D2 T G_whole_within;have G_is_place:=qm (P:=l.prog) (w:=w) (base:=base) D4 T G_whole_within;have G_legs_good:=oJ (P:=l.prog) (w:=w) (base:=base) D11 T G_whole_within;have G_numbers_good:=j8 (P:=l.prog) (w:=w) (base:=base) D12 T G_whole_within;have G_wheel_ties:=mh (P:=l.prog) (w:=w) (base:=base) D22 T G_fan_ties;have G_step_bar_holds:=iZ (P:=l.prog) (w:=w) (base:=base) D23 T G_tie_counts;have G_tie_told:=qi (P:=l.prog) (w:=w) (base:=base) D3 T G_is_place;have G_form_good:=oN (P:=l.prog) (w:=w) (base:=base) D10 T G_legs_good G_numbers_good M_LEAST_NUMBERS;have G_ties_in:=rM (P:=l.prog) (w:=w) (base:=base) D14 T G_spine_ties G_ring_ties G_sides_ties G_full_ties G_wheel_ties G_fan_ties;have G_step_bar:=qj (P:=l.prog) (w:=w) (base:=base) D24 T G_step_bar_holds;have G_web_of:=uA (P:=l.prog) (w:=w) (base:=base) D5 T G_many_good G_tie_told;have G_kind_good:=oK (P:=l.prog) (w:=w) (base:=base) D8 T G_form_good G_places_in G_ties_in;have G_ring_answer:=le (P:=l.prog) (w:=w) (base:=base) D29 T G_ring_steps G_step_bar;have G_web_for:=rK (P:=l.prog) (w:=w) (base:=base) D9 T G_kind_good G_web_of G_places_in G_ties_in O_NoKind PySem.F.excBase_ValueError n_NoKind
 have G_steps_for:=oE (P:=l.prog) (w:=w) (base:=base) D25 T G_web_for G_ring_answer G_parted_made;have G__law_right:=mr (P:=l.prog) (w:=w) (base:=base) D39 T G_steps_for G__law_steps_good G__law_made_web;exact ok_law (P:=l.prog) (w:=w) (base:=base) (sf lL cL kL) T G__law_pen_of G__law_cell_at G__law_draw G__law_right
end K18
open PySem PySem.W PyProof.Rows
def PySem.W.Fast.tw8005766506721756608:=0
def PySem.W.Fast.tw17643754061406199020:=0
def PySem.W.Fast.tw11187973929812520656:=0
def PySem.W.Fast.tw4584130408075211490:=0
def PySem.W.Fast.tw9601000219436670146:=0
def PySem.W.Fast.tw15886500619415505586:=0
def PySem.W.Fast.tw16472409268878238316:=0
def PySem.W.Fast.tw529536973988259948:=0
def PySem.W.Fast.tw12106905011117388788:=0
def PySem.W.Fast.tw12018387782679925087:=0
def PySem.W.Fast.tw16745343075639119971:=0
def PySem.W.Fast.tw8621301723031713458:=0
def PySem.W.Fast.tw12941643214049860704:=0
def PySem.W.Fast.tw13056512690104125533:=0
def PySem.W.Fast.tw3094701115853657799:=0
def PySem.W.Fast.tw16149030986926176842:=0
def PySem.W.Fast.tw14439765378166140033:=0
def PySem.W.Fast.tw18221076124747093969:=0
def PySem.W.Fast.tw17601101962401091345:=0
def PySem.W.Fast.tw12059592832596718669:=0
def PySem.W.Fast.tw3409804788480704539:=0
def PySem.W.Fast.tw6664951462986138201:=0
def PySem.W.Fast.tw16867462130957846885:=0
def PySem.W.Fast.tw1791252592759705592:=0
def PySem.W.Fast.tw15431134087688302020:=0
def PySem.W.Fast.tw8408970633328473781:=0
def PySem.W.Fast.tw5427499738942290107:=0
def PySem.W.Fast.tw10042499479572932358:=0
def PySem.W.Fast.tw3992908553847606798:=0
def PySem.W.Fast.tw3211338095109388087:=0
def PySem.W.Fast.tw13218621648322568166:=0
def PySem.W.Fast.tw5353813085845620550:=0
def PySem.W.Fast.tw4475145619620083286:=0
def PySem.W.Fast.tw10693841506766600124:=0
def PySem.W.Fast.tw11234362934883249720:=0
def PySem.W.Fast.tw9585978970863474492:=0
def PySem.W.Fast.tw11386625637836781638:=0
def PySem.W.Fast.tw11487128817927173152:=0
def PySem.W.Fast.tw726985913927333873:=0
def PySem.W.Fast.tw15137687247720179910:=0
def PySem.W.Fast.tw13903096371882574231:=0
def PySem.W.Fast.tw17094580856887593759:=0
def PySem.W.Fast.tw2648174423076098445:=0
def PySem.W.Fast.tw10069975712529536831:=0
def PySem.W.Fast.tw18431155831084640082:=0
def PySem.W.Fast.tw11069628954808310989:=0
def PySem.W.Fast.tw17882641709403210578:=0
def PySem.W.Fast.tw1647960591809683682:=0
def PySem.W.Fast.tw5680315236850328200:=0
def PySem.W.Fast.tw16266442582153907279:=0
def PySem.W.Fast.tw5310652868755799522:=0
def PySem.W.Fast.tw274189353798237994:=0
def PySem.W.Fast.tw3664731896753646195:=0
def PySem.W.Fast.tw5587484289544270231:=0
def PySem.W.Fast.tw4177351759533223642:=0
def PySem.W.Fast.tw17338234738716814015:=0
def PySem.W.Fast.tw3589872179720948271:=0
def PySem.W.Fast.tw6786350315023897781:=0
def PySem.W.Fast.tw10393078302967963895:=0
def PySem.W.Fast.tw15155859288707382567:=0
def PySem.W.Fast.tw17590088832654516399:=0
def PySem.W.Fast.tw11887224372650548316:=0
def PySem.W.Fast.tw5674458297940323589:=0
def PySem.W.Fast.tw2456577590951144490:=0
def PySem.W.Fast.tw12661032092557703082:=0
def PySem.W.Fast.tw15854262060937163188:=0
open_top head for PySem.Challenge.rw_tienumbers_k18_steps_for_each_size
set_option maxRecDepth 100000 in
set_option maxHeartbeats 0 in
theorem PySem.Challenge.cw_tienumbers_k18_steps_for_each_size_holds : PySem.Challenge.rw_tienumbers_k18_steps_for_each_size.Holds := by
 refine head ?_
 k_fill
 refine L2.xP (l:=PySem.Challenge.rw_tienumbers_k18_steps_for_each_size) (n:=63) (k:=9) (x := "script") (CX:=fun w=>L2.CXr (PySem.Challenge.rw_tienumbers_k18_steps_for_each_size).prog w) (sp:=fun w=>L2.spF _ none K18.qD) rfl (by decide) rfl ⟨rfl,by decide,by decide,rfl⟩ (fun w h Y=>PySem.W.kIn_of Y) ?F (fun _ _ a ns hl _ hS=>L2.x8 ⟨_,K18.law_ok ns⟩ hS) fun _ _ _ _ _ z=>L2.uU z
 case F =>
  intro w mg fa h KX G hmg;refine' K18.all_mk KX G hmg ?_ ?_ ?_ ?_ ?_ ?_ ?_ ?_ ?_ ?_ ?_ ?_ ?_ ?_ ?_ ?_ ?_ ?_ ?_ ?_ ?_ ?_ ?_ ?_ ?_ ?_ ?_ ?_ ?_ ?_ ?_ ?_ ?_ ?_ ?_ ?_ ?_ ?_ ?_ ?_ ?_ ?_ ?_ ?_ ?_ ?_ ?_ ?_ ?_ ?_ ?_ ?_ ?_ ?_ ?_ ?_ ?_ ?_ ?_ ?_ ?_ ?_ ?_ ?_ ?_ ?_ ?_ ?_ ?_ ?_ ?_ ?_ ?_
  all_goals first | (apply K18.din_mk<;>k_is) | k_is | k_exc | decide | skip
