import PyProof.Rows.All
import Wide.All
import OpenK.AllK
import Wide.FinOn
import Lean
import PyProof.EqAt
import PyProof.EqKinds
import PyProof.TupleCall
import PyProof.NeKinds
import PyProof.ListMulRoad
import PyProof.MaxThree
import PyProof.Rows.StrJoinMade
import PyProof.ListStr
import PyProof.Rows.MinMaxN
import PyProof.Rows.Range3
import PyProof.ListRange
import PyProof.Rows.SetFrom
import PyProof.Rows.StrCase
import PyProof.SumAny
import PyProof.AutoIntG2
import PyProof.AutoListH
import PyProof.EnumStmt
import PyProof.EnumFor
import PyProof.EnumMake
import PyProof.Rows.EnumRows
import PyProof.ConsumeS
import PyProof.ZipIter
import PyProof.Rows.SortWalk
import KE.KDictSum
import KE.KEqDict
import PyProof.ExcClass2
import PyProof.RaisesMany
import PyProof.ExcBaseAll.ValueError
import PyProof.RulesDel
import PyProof.RulesAs
import PyProof.ExcArgs
import KE.KDictOf
import PyProof.AttrMissHeap
import KE.KMinKey
import PyProof.Rows.CallKwBuiltin
import PySem.Challenge.RW_wireparley_k52_whole_values_of_both
noncomputable section
abbrev ua0:=@PyProof.Rows.slot_tuple_getitem
abbrev ua1:=@List.eq_nil_of_length_eq_zero
abbrev ua2:=@PyProof.Rows.callWith_type1
abbrev ua3:=@PySem.F.slot_int_bit_length
abbrev ua4:=@Int.fdiv_eq_ediv_of_nonneg
abbrev ua5:=@List.getElem?_append_right
abbrev ua6:=@List.getD_eq_getElem?_getD
abbrev ua7:=@Array.getElem?_eq_some_iff
abbrev ua8:=@List.getElem?_eq_some_iff
abbrev ua9:=@List.getElem?_append_left
abbrev ub0:=@List.drop_eq_getElem_cons
abbrev ub1:=@PySem.F.args_tuple_add_2
abbrev ub2:=@List.getElem?_eq_getElem
abbrev ub3:=@List.getElem?_replicate
abbrev ub4:=@PySem.F.entry_tuple_add
abbrev ub5:=@List.length_eq_zero_iff
abbrev ub6:=@Int.eq_ofNat_of_zero_le
abbrev ub7:=@List.getElem?_set_self
abbrev ub8:=@PySem.Heap.get?_push_of_some
abbrev ub9:=@PySem.F.slot_tuple_add
abbrev uc0:=@PySem.Heap.get?_update_other
abbrev uc1:=@Option.map_eq_some_iff
abbrev uc2:=@List.take_of_length_le
abbrev uc3:=@PySem.F.entry_min_loop
abbrev uc4:=@PySem.F.plain_min_loop
abbrev uc5:=@Nat.div_div_eq_div_mul
abbrev uc6:=@Nat.le_of_succ_le_succ
abbrev uc7:=@List.drop_eq_nil_of_le
abbrev uc8:=@Nat.lt_of_succ_lt_succ
abbrev uc9:=@List.mem_append_right
abbrev ud0:=@List.length_replicate
abbrev ud1:=@PySem.Heap.get?_update_self
abbrev ud2:=@List.length_singleton
abbrev ud3:=@Bool.and_eq_false_iff
abbrev ud4:=@List.mem_cons_of_mem
abbrev ud5:=@List.mem_append_left
abbrev ud6:=@List.getElem?_set_ne
abbrev ud7:=@List.mem_of_getElem?
abbrev ud8:=@Bool.or_eq_false_iff
abbrev ud9:=@List.forall_mem_cons
abbrev ue0:=@Int.le_of_lt_add_one
abbrev ue1:=@List.filterMap_cons
abbrev ue2:=@Array.length_toList
abbrev ue3:=@PySem.Heap.get?_push_size
abbrev ue4:=@List.replicate_succ
abbrev ue5:=@List.map_congr_left
abbrev ue6:=@Int.toNat_of_nonneg
abbrev ue7:=@Nat.add_le_add_left
abbrev ue8:=@Nat.mul_le_mul_left
abbrev ue9:=@List.mem_map_of_mem
abbrev uf0:=@Nat.lt_of_lt_of_le
abbrev uf1:=@List.mem_cons_self
abbrev uf2:=@Bool.false_ne_true
abbrev uf3:=@Int.natCast_nonneg
abbrev uf4:=@Array.find?_toList
abbrev uf5:=@PySem.W.callWith_K
abbrev uf6:=@List.length_append
abbrev uf7:=@Bool.false_eq_true
abbrev uf8:=@List.mem_singleton
abbrev uf9:=@Int.emod_lt_of_pos
abbrev ug0:=@Nat.lt_of_le_of_lt
abbrev ug1:=@PySem.W.mg_none_of
abbrev ug2:=@List.size_toArray
abbrev ug3:=@List.getElem?_map
abbrev ug4:=@List.flatten_cons
abbrev ug5:=@List.append_assoc
abbrev ug6:=@Bool.eq_false_iff
abbrev ug7:=@Nat.lt_succ_of_lt
abbrev ug8:=@List.getElem?_set
abbrev ug9:=@Bool.not_eq_true'
abbrev uh0:=@Int.toNat_natCast
abbrev uh1:=@Nat.le_succ_of_le
abbrev uh2:=@decide_eq_true_eq
abbrev uh3:=@of_decide_eq_true
abbrev uh4:=@List.getElem_inj
abbrev uh5:=@List.length_take
abbrev uh6:=@List.length_drop
abbrev uh7:=@Bool.and_eq_true
abbrev uh8:=@List.lookup_cons
abbrev uh9:=@Nat.lt_succ_self
abbrev ui0:=@Nat.le_add_right
abbrev ui1:=@List.all_eq_true
abbrev ui2:=@List.not_mem_nil
abbrev ui3:=@List.getElem_mem
abbrev ui4:=@List.length_cons
abbrev ui5:=@Nat.succ_le_succ
abbrev ui6:=@List.cons_append
abbrev ui7:=@Nat.zero_lt_succ
abbrev ui8:=@Nat.succ_lt_succ
abbrev ui9:=@beq_self_eq_true
abbrev uj0:=@List.mem_filter
abbrev uj1:=@List.mem_append
abbrev uj2:=@Option.some.inj
abbrev uj3:=@PySem.W.kia_one
abbrev uj4:=@List.append_nil
abbrev uj5:=@List.nodup_cons
abbrev uj6:=@List.of_mem_zip
abbrev uj7:=@List.length_map
abbrev uj8:=@List.foldl_cons
abbrev uj9:=@List.nil_append
abbrev uk0:=@Option.map_some
abbrev uk1:=@Bool.or_eq_true
abbrev uk2:=@List.cons.injEq
abbrev uk3:=@Nat.not_lt_zero
abbrev uk4:=@List.map_append
abbrev uk5:=@List.length_nil
abbrev uk6:=@Int.emod_nonneg
abbrev uk7:=@decide_eq_false
abbrev uk8:=@List.mem_range
abbrev uk9:=@Bool.false_and
abbrev ul0:=@Bool.and_false
abbrev ul1:=@List.drop_zero
abbrev ul2:=@Int.add_nonneg
abbrev ul3:=@decide_eq_true
abbrev ul4:=@Nat.lt_irrefl
abbrev ul5:=@List.mem_cons
abbrev ul6:=@List.map_cons
abbrev ul7:=@List.all_cons
abbrev ul8:=@Bool.and_true
abbrev ul9:=@Bool.true_and
abbrev um0:=@Nat.add_assoc
abbrev um1:=@PySem.W.mg_of
abbrev um2:=@PySem.wpAny_holding
abbrev um3:=@PySem.Heap.lt_size
abbrev um4:=@Nat.ne_of_lt
abbrev um5:=@Nat.le_trans
abbrev um6:=@Nat.le_of_lt
abbrev um7:=@Nat.ne_of_gt
abbrev um8:=@List.map_nil
abbrev um9:=@Nat.add_comm
abbrev un0:=@Nat.mul_comm
abbrev un1:=@Nat.le_of_eq
abbrev un2:=@Nat.pow_zero
abbrev un3:=@Nat.pow_succ
abbrev un4:=@List.mem_map
abbrev un5:=@List.map_map
abbrev un6:=@Int.le_trans
abbrev un7:=@Int.zero_add
abbrev un8:=@Int.le_of_lt
abbrev un9:=@Int.ofNat_lt
abbrev uo0:=@Nat.sub_self
abbrev uo1:=@Int.ofNat_le
abbrev uo2:=@Nat.zero_add
abbrev uo3:=@Nat.le_refl
abbrev uo4:=@Nat.le_succ
abbrev uo5:=@Nat.zero_le
abbrev uo6:=@PySem.wpAny_field
abbrev uo7:=@PySem.wpAny_bind
abbrev uo8:=@PySem.wpAny_pure
abbrev uo9:=@PySem.wpAny_mono
set_option Elab.async false
set_option linter.all false
set_option maxRecDepth 100000
namespace L2
open PySem PySem.Spec PyProof.Rows
abbrev Key:=Sum Int Str
noncomputable def Rv:Key->Value->Bool
 | .inl k,v=>Value.isInt k v
 | .inr x,v=>Value.isStrOf x v
noncomputable def Yk (w:World):Key->Int
 | .inl k=>hashInt k
 | .inr x=>hashStr w x
theorem BD:∀{k:Key} {v:Value},Rv k v=true->(∃i t,k=Sum.inl i/\v=Value.int i t)\/(∃x t,k=Sum.inr x/\v=Value.str x t)
 | .inl i,v,h=>by
   obtain ⟨t,e⟩:=Value.isInt_shape (k:=i) (v:=v) h;exact .inl ⟨i,t,rfl,e⟩
 | .inr x,v,h=>by
   obtain ⟨t,e⟩:=Value.isStrOf_shape (x:=x) (v:=v) h;exact .inr ⟨x,t,rfl,e⟩
theorem Vc (a b:Int):decide ((Sum.inl a:Key)=Sum.inl b)=(a == b):=by
 by_cases e:a=b
 ·subst e;simp
 ·have h:¬(Sum.inl a:Key)=Sum.inl b:=λq=>e (Sum.inl.inj q);rw [uk7 h];exact (beq_eq_false_iff_ne.mpr e).symm
theorem Vf (a b:Str):decide ((Sum.inr a:Key)=Sum.inr b)=decide (a=b):=by
 by_cases e:a=b
 ·subst e;simp
 ·have h:¬(Sum.inr a:Key)=Sum.inr b:=λq=>e (Sum.inr.inj q);rw [uk7 h,uk7 e]
theorem Vd (a:Int)(b:Str):decide ((Sum.inl a:Key)=Sum.inr b)=false:=uk7 (λq=>nomatch q)
theorem Ve (a:Str)(b:Int):decide ((Sum.inr a:Key)=Sum.inl b)=false:=uk7 (λq=>nomatch q)
def Jz (prog:Program)(w:World):PySem.KeyKind prog w Key where
 is:=Rv
 hash:=Yk w
 inj:=λv a b ha hb=>by
  rcases BD ha with ⟨i,t,rfl,rfl⟩ | ⟨x,t,rfl,rfl⟩
  ·rcases BD hb with ⟨j,u,rfl,e⟩ | ⟨y,u,rfl,e⟩
   ·injection e with e1 _;rw [e1]
   ·exact nomatch e
  ·rcases BD hb with ⟨j,u,rfl,e⟩ | ⟨y,u,rfl,e⟩
   ·exact nomatch e
   ·injection e with e1 _;rw [e1]
 byValue:=λk v h=>by
  rcases BD h with ⟨i,t,rfl,rfl⟩ | ⟨x,t,rfl,rfl⟩ <;> rfl
 pyHash:=λhv h=>by
  rcases BD hv with ⟨i,t,rfl,rfl⟩ | ⟨x,t,rfl,rfl⟩
  ·exact wpAny_pyHash_int h
  ·exact wpAny_pyHash_str h
 eqBool:=λhu hv h=>by
  rcases BD hu with ⟨i,t,rfl,rfl⟩ | ⟨x,t,rfl,rfl⟩
  ·rcases BD hv with ⟨j,u,rfl,rfl⟩ | ⟨y,u,rfl,rfl⟩
   ·rw [Vc] at h;exact wpAny_eqBool_int h
   ·rw [Vd] at h;exact SeqAt.EqAt.int_str i t y u _ _ _ _ h
  ·rcases BD hv with ⟨j,u,rfl,rfl⟩ | ⟨y,u,rfl,rfl⟩
   ·rw [Ve] at h;exact SeqAt.EqAt.str_int x t j u _ _ _ _ h
   ·rw [Vf] at h;exact wpAny_eqBool_str h
 «strs»:=λk x t v h=>by
  rcases BD h with ⟨i,u,rfl,e⟩ | ⟨y,u,rfl,e⟩
  ·exact nomatch e
  ·injection e with e1 _
   subst e1
   cases v <;> rfl
inductive V where
 | non | bl (b:Bool) | int (i:Int) | str (x:Str) | byt (b:Array UInt8) | flt (b:UInt64) | ref (a:Addr) | ty (n:String)
 deriving DecidableEq
noncomputable def RelV:V->Value->Prop
 | .non,u=>u=Value.none
 | .bl b,u=>u=Value.bool b
 | .int i,u=>∃t,u=Value.int i t
 | .str x,u=>∃t,u=Value.str x t
 | .byt b,u=>∃t,u=Value.bytes b t
 | .flt b,u=>∃t,u=Value.float b t
 | .ref a,u=>u=Value.ref a
 | .ty n,u=>u=Value.type n
abbrev Vals:List V->List Value->Prop:=Paired RelV
theorem Vals.length {xs:List V}{us:List Value}(r:Vals xs us):xs.length=us.length:=Paired.length r
theorem Vals.get:∀{xs:List V} {us:List Value} {i:Nat} {x:V},Vals xs us->xs[i]?=some x->∃u,us[i]?=some u/\RelV x u
 | _,_,_,_,.nil,e=>by simp at e
 | _,_,0,_,.cons r _,e=>by simp at e;subst e;exact ⟨_,rfl,r⟩
 | _,_,i + 1,x,.cons _ t,e=>by
   obtain ⟨u,h1,h2⟩:=Vals.get (i:=i) (x:=x) t (by simpa using e);exact ⟨u,by simpa using h1,h2⟩
theorem Vals.set {x:V}{u:Value}(r:RelV x u):∀{xs:List V} {us:List Value} (i:Nat),Vals xs us->Vals (xs.set i x) (us.set i u)
 | _,_,_,.nil=>.nil
 | _,_,0,.cons _ t=>.cons r t
 | _,_,i + 1,.cons q t=>.cons q (Vals.set r i t)
theorem Vals.append {xs ys:List V}{us ws:List Value}(r:Vals xs us)(s:Vals ys ws):Vals (xs++ys) (us++ws):=by
 cases r with
 | nil=>exact s
 | cons r t=>exact .cons r (Vals.append t s)
theorem Vals.take:∀{xs:List V} {us:List Value} (n:Nat),Vals xs us->Vals (xs.take n) (us.take n)
 | _,_,0,_=>.nil
 | _,_,_ + 1,.nil=>.nil
 | _,_,n + 1,.cons r t=>.cons r (Vals.take n t)
theorem Vals.drop:∀{xs:List V} {us:List Value} (n:Nat),Vals xs us->Vals (xs.drop n) (us.drop n)
 | _,_,0,r=>r
 | _,_,_ + 1,.nil=>.nil
 | _,_,n + 1,.cons _ t=>Vals.drop n t
def PB:Option V->Option Value->Prop
 | some v,some u=>RelV v u
 | none,none=>True
 | _,_=>False
def KV {κ:Type}:List (κ×V)->List (κ×Value)->Prop:=Paired λ(p:κ×V) (q:κ×Value)=>p.1=q.1/\RelV p.2 q.2
noncomputable def kV:Key->V
 | .inl i=>.int i
 | .inr x=>.str x
inductive HO where
 /-- a list -/
 | lst (xs:List V)
 /-- a tuple (never changes) -/
 | tup (xs:List V)
 /-- a dict whose keys are ints and texts;one whose keys are tuples of ints and texts (the empty one is both) -/
 | dK (kvs:List (Key×V)) | dT (kvs:List (List Key×V))
 /-- a set of ints: its members,its size -/
 | set (S:Int->Bool) (n:Nat)
 /-- an instance of the class at C,its dict at dx,its attributes -/
 | ins (C dx:Addr) (fs:List (Str×V))
 /-- the dict of the instance at x -/
 | own (x:Addr)
 /-- the dict of an exception -/
 | xd (fs:List (Str×V))
 /-- a bound method,f of x -/
 | met (f x:Addr)
 /-- a range object lo,lo + 1,.. below hi -/
 | rng (lo hi:Int)
 /-- a thing that is known to the object (the script;a dict while a loop walks it): read,never written while it is so -/
 | frz (o:Obj) (u:HO)
 /-- a code object's table -/
 | tbl (ps:Array Value)
 /-- any other thing,by what is true of its one object (a def of one's own: SetO a S n:=HO.ext λh=>..) -/
 | ext (φ:Heap->Prop)
abbrev Hp:=Addr->Option HO
noncomputable def upd (H:Hp)(a:Addr)(o:HO):Hp:=λb=>if b=a then some o else H b
variable {H:Hp}{a:Addr}{o:HO}
theorem Au:upd H a o a=some o:=by unfold upd;rw [if_pos rfl]
variable {b:Addr}
theorem Am (h:b≠a):upd H a o b=H b:=by unfold upd;rw [if_neg h]
theorem T9 {u:HO}:upd (upd H a o) a u=upd H a u:=by
 funext b;unfold upd;split <;> rfl
theorem AB (h:H a=some o)(h':H b=none):a≠b:=by
 intro e;subst e;rw [h] at h';cases h'
section
variable (P:Program)(w:World)
def ObjOk (H:Hp)(h:Heap)(a:Addr):HO->Prop
 | .lst xs=>xs.length<=sizeLine/\∃(its:List Value) (n:Nat),Vals xs its/\h.get? a=some { cls:=.type "list",data:=.seq its.toArray n }
 | .tup xs=>xs.length<=sizeLine/\∃its:List Value,Vals xs its/\IsTup h a its.toArray
 | .dK kvs=>kvs.length<=sizeLine/\(a == sysModules)=false/\∃vs,KV kvs vs/\h.DictOf (Jz P w) a vs
 | .dT kvs=>kvs.length<=sizeLine/\(a == sysModules)=false/\∃xs:List (List Key×Addr×Value),
    Paired (λ(p:List Key×V) (q:List Key×Addr×Value)=>p.1=q.1/\H q.2.1=some (.tup (p.1.map kV))/\RelV p.2 q.2.2) kvs xs/\
    ∃o es ep,h.get? a=some o/\o.ExactDict/\o.data = .dict es ep/\es.toList=xs.map (entryOfKey (tupleKind (Jz P w)))/\(xs.map (·.1)).Nodup
 | .set S n=>h.SetOf (intKind P w) a S n
 | .ins C dx fs=>H dx=some (.own a)/\fs.length<=1000/\dx≠a/\h.get? a=some (PySem.W.instObj C dx)/\
    ∃mA,h.Ns1 dx mA/\(∀f,PB (fs.lookup f) (mA f))/\PySem.Within mA (fs.map (·.1))
 | .own _=>∃o,h.get? a=some o
 | .xd fs=>∃mA,h.Ns1 a mA/\∀f,PB (fs.lookup f) (mA f)
 | .rng lo hi=>∃t u v,h.get? a=some { cls:=.type "range",data:=.fields #[.int lo t,.int hi u,.int 1 v] }
 | .frz o u=>h.get? a=some o/\ObjOk H h a u
 | .tbl ps=>h.get? a=some { cls:=.none,data:=.fields ps }
 | .met f x=>h.get? a=some (PySem.W.methodObj (.ref f) (.ref x))
 | .ext φ=>φ h/\(∃o,h.get? a=some o)/\∀h1 h2:Heap,φ h1->(∀o,h1.get? a=some o->h2.get? a=some o)->φ h2
def HOk (H:Hp)(h:Heap):Prop:=∀a o,H a=some o->ObjOk P w H h a o
end
section
variable {P:Program}{w:World}{H H':Hp}{h h':Heap}{a:Addr}{o:HO}
theorem ObjOk.lt (x:ObjOk P w H h a o):a < h.objs.size:=by
 cases o with
 | lst xs=>obtain ⟨_,_,_,_,e⟩:=x;exact um3 e
 | tup xs=>obtain ⟨_,_,_,p⟩:=x;exact p.lt
 | dK kvs=>obtain ⟨_,_,_,_,o,_,_,e,_⟩:=x;exact um3 e
 | dT kvs=>obtain ⟨_,_,_,_,o,_,_,e,_⟩:=x;exact um3 e
 | set S n=>obtain ⟨o,_,_,_,e,_⟩:=x;exact um3 e
 | ins C dx fs=>obtain ⟨_,_,_,e,_⟩:=x;exact um3 e
 | own y=>obtain ⟨_,e⟩:=x;exact um3 e
 | xd fs=>obtain ⟨_,⟨_,_,_,e,_⟩,_⟩:=x;exact um3 e
 | rng lo hi=>obtain ⟨_,_,_,e⟩:=x;exact um3 e
 | frz ob u=>obtain ⟨e,_⟩:=x;exact um3 e
 | tbl ps=>exact um3 (show h.get? a=some _ from x)
 | met f y=>exact um3 (show h.get? a=some _ from x)
 | ext φ=>obtain ⟨_,⟨_,e⟩,_⟩:=x;exact um3 e
theorem Paired.mapP {α β:Type}{F G:α->β->Prop}:∀{l₁:List α} {l₂:List β},Paired F l₁ l₂->(∀a b,F a b->G a b)->Paired G l₁ l₂
 | _,_,.nil,_=>.nil
 | _,_,.cons r t,f=>.cons (f _ _ r) (Paired.mapP t f)
theorem ObjOk.stay (x:ObjOk P w H h a o)(k:∀b u,(b=a\/H b=some (.own a))->h.get? b=some u->h'.get? b=some u)
 (ho:∀b,H b=some (.own a)->H' b=some (.own a)) (ht:∀b xs,H b=some (.tup xs)->H' b=some (.tup xs)):ObjOk P w H' h' a o:=by
 induction o with
 | lst xs=>obtain ⟨z,its,n,r,e⟩:=x;exact ⟨z,its,n,r,k _ _ (.inl rfl) e⟩
 | tup xs=>obtain ⟨z,its,r,ob,e,c⟩:=x;exact ⟨z,its,r,ob,k _ _ (.inl rfl) e,c⟩
 | dK kvs=>obtain ⟨z,y,vs,r,ob,es,ep,e,c⟩:=x;exact ⟨z,y,vs,r,ob,es,ep,k _ _ (.inl rfl) e,c⟩
 | dT kvs=>
   obtain ⟨z,y,xs,r,ob,es,ep,e,c⟩:=x;exact ⟨z,y,xs,Paired.mapP r λp q z=>⟨z.1,ht _ _ z.2.1,z.2.2⟩,ob,es,ep,k _ _ (.inl rfl) e,c⟩
 | set S n=>obtain ⟨ob,es,ep,t,e,c⟩:=x;exact ⟨ob,es,ep,t,k _ _ (.inl rfl) e,c⟩
 | ins C dx fs=>
   obtain ⟨d,z,ne,e,mA,⟨od,es,ep,e2,c⟩,r⟩:=x;exact ⟨ho _ d,z,ne,k _ _ (.inl rfl) e,mA,⟨od,es,ep,k _ _ (.inr d) e2,c⟩,r⟩
 | own y=>obtain ⟨ob,e⟩:=x;exact ⟨ob,k _ _ (.inl rfl) e⟩
 | xd fs=>obtain ⟨mA,⟨od,es,ep,e,c⟩,r⟩:=x;exact ⟨mA,⟨od,es,ep,k _ _ (.inl rfl) e,c⟩,r⟩
 | rng lo hi=>obtain ⟨t,u,v,e⟩:=x;exact ⟨t,u,v,k _ _ (.inl rfl) e⟩
 | frz ob u ih=>obtain ⟨e,q⟩:=x;exact ⟨k _ _ (.inl rfl) e,ih q⟩
 | tbl ps=>
   have e:h.get? a=some { cls:=.none,data:=.fields ps }:=x;show h'.get? a=some { cls:=.none,data:=.fields ps };exact k a _ (.inl rfl) e
 | met f y=>
   have e:h.get? a=some (PySem.W.methodObj (.ref f) (.ref y)):=x;show h'.get? a=some (PySem.W.methodObj (.ref f) (.ref y));exact k a _ (.inl rfl) e
 | ext φ=>obtain ⟨p,⟨o,e⟩,st⟩:=x;exact ⟨st _ _ p λo q=>k _ _ (.inl rfl) q,⟨o,k _ _ (.inl rfl) e⟩,st⟩
theorem HOk.lt (x:HOk P w H h)(e:H a=some o):a < h.objs.size:=(x a o e).lt
theorem HOk.fresh (x:HOk P w H h)(e:h.objs.size<=a):H a=none:=by
 cases q:H a with
 | none=>rfl
 | some u=>exact absurd (uf0 (x.lt q) e) (ul4 _)
theorem HOk.kept (x:HOk P w H h)(k:∀b u,h.get? b=some u->h'.get? b=some u):HOk P w H h':=λa o e=>
 (x a o e).stay (λb u _ q=>k b u q) (λ_ q=>q) λ_ _ q=>q
theorem HOk.laid (x:HOk P w H h)(k:∀b u,h.get? b=some u->h'.get? b=some u)(hp:h.objs.size<=a)(new:ObjOk P w (upd H a o) h' a o):HOk P w (upd H a o) h':=λb u e=>by
 have hn:=x.fresh hp
 by_cases hb:b=a
 ·subst hb;rw [Au] at e;cases e;exact new
 ·rw [Am hb] at e;exact (x b u e).stay (λc v _ q=>k c v q) (λc q=>by rw [Am (AB q hn)];exact q) λc xs q=>by rw [Am (AB q hn)];exact q
end
def Rd (H:Hp)(a:Addr)(u:HO):Prop:=H a=some u\/∃o,H a=some (.frz o u)
variable {P:Program}{w:World}{h:Heap}
theorem Rd.ok {u:HO}(r:Rd H a u)(x:HOk P w H h):ObjOk P w H h a u:=by
 rcases r with r | ⟨o,r⟩
 ·exact x a u r
 ·obtain ⟨_,q⟩:=x a _ r;exact q
def Mut:Option HO->Prop
 | some (.lst _)=>True
 | some (.dK _)=>True
 | some (.dT _)=>True
 | some (.set _ _)=>True
 | some (.ins _ _ _)=>True
 | some (.ext _)=>True
 | _=>False
section
variable {P:Program}{w:World}{H:Hp}{h h':Heap}{x e:Addr}{o':HO}
theorem HOk.write (ok:HOk P w H h)(mu:Mut (H x))(he:e=x\/H e=some (.own x))(k:∀b u,b≠e->h.get? b=some u->h'.get? b=some u)(heo:∃u,h'.get? e=some u)
 (new:ObjOk P w (upd H x o') h' x o'):HOk P w (upd H x o') h':=λb u q=>by
 have nown:∀c y,H c=some (.own y)->c≠x:=λc y r z=>by subst z;rw [r] at mu;exact mu
 have ntup:∀c xs,H c=some (.tup xs)->c≠x:=λc xs r z=>by subst z;rw [r] at mu;exact mu
 by_cases hb:b=x
 ·subst hb;rw [Au] at q;cases q;exact new
 ·rw [Am hb] at q
  by_cases hbe:b=e
  ·have q':H b=some (.own x):=by
    rcases he with z | z
    ·exact absurd (hbe.trans z) hb
    ·rw [hbe];exact z
   rw [q] at q';cases q'
   obtain ⟨v,hv⟩:=heo;exact ⟨v,by rw [hbe];exact hv⟩
  ·refine (ok b u q).stay (λc v hc r=>k c v ?_ r) (λc r=>by rw [Am (nown c b r)];exact r) λc xs r=>by rw [Am (ntup c xs r)];exact r
   rcases hc with rfl | hc
   ·exact hbe
   ·rintro rfl;rcases he with z | z
    ·exact nown c b hc z
    ·rw [hc] at z;cases z;exact hb rfl
end
structure Un (fs ex:List Addr)(H H':Hp)(h h':Heap):Prop where
 keep:∀b o,h.get? b=some o->H b=none->b∉fs->b∉ex->h'.get? b=some o
 slot:∀b o,h.get? b=some o->H b=none->b∈fs->b∉ex->∃sl,h'.get? b=some { o with slots:=sl }
 free:∀b o,h.get? b=some o->H b=none->b∉ex->H' b=none
 there:∀b o,h.get? b=some o->b∉ex->∃o',h'.get? b=some o'
 tups:∀b xs,H b=some (.tup xs)->H' b=some (.tup xs)
 frzs:∀b o u,H b=some (.frz o u)->H' b=some (.frz o u)
 tbls:∀b ps,H b=some (.tbl ps)->∃more,H' b=some (.tbl (ps++more))
section
variable {fs fs' ex ex':List Addr}{H H1 H2:Hp}{h h1 h2 h':Heap}{a x e:Addr}{o:HO}
theorem Un.any (u:Un fs ex H H1 h h1){b:Addr}{ob:Obj}(q:h.get? b=some ob)(n:H b=none)(hx:b∉ex):∃sl,h1.get? b=some { ob with slots:=sl }:=by
 by_cases hb:b∈fs
 ·exact u.slot b ob q n hb hx
 ·exact ⟨ob.slots,u.keep b ob q n hb hx⟩
theorem Un.kept (k:∀b u,h.get? b=some u->h'.get? b=some u):Un fs ex H H h h':=
 ⟨λb ob q _ _ _=>k b ob q,λb ob q _ _ _=>⟨ob.slots,k b ob q⟩,λ_ _ _ n _=>n,λb ob q _=>⟨ob,k b ob q⟩,λ_ _ q=>q,λ_ _ _ q=>q,λ_ ps q=>⟨#[],by rw [q];simp⟩⟩
theorem Un.refl:Un fs ex H H h h:=Un.kept λ_ _ q=>q
theorem Un.laid (k:∀b u,h.get? b=some u->h'.get? b=some u)(hp:h.objs.size<=a)(hn:H a=none):Un fs ex H (upd H a o) h h' where
 keep:=λb u q _ _ _=>k b u q
 slot:=λb u q _ _ _=>⟨u.slots,k b u q⟩
 free:=λb u q n _=>by rw [Am (um4 (uf0 (um3 q) hp))];exact n
 there:=λb u q _=>⟨u,k b u q⟩
 tups:=λb xs q=>by rw [Am (AB q hn)];exact q
 frzs:=λb u xs q=>by rw [Am (AB q hn)];exact q
 tbls:=λb ps q=>⟨#[],by rw [Am (AB q hn),q];simp⟩
theorem Un.write (mu:Mut (H x))(he:e=x\/H e=some (.own x))(k:∀b u,b≠e->h.get? b=some u->h'.get? b=some u)(heo:∃u,h'.get? e=some u):Un fs ex H (upd H x o) h h':=by
 have hx:∀b,H b=none->b≠x:=λb n z=>by subst z;rw [n] at mu;exact mu
 have hb:∀b,H b=none->b≠e:=λb n z=>by
  subst z;rcases he with r | r
  ·exact hx b n r
  ·rw [n] at r;cases r
 have hm:∀b u,H b=some u->¬Mut (some u)->b≠x:=λb u q nm z=>by subst z;rw [q] at mu;exact nm mu
 refine ⟨λb u q n _ _=>k b u (hb b n) q,λb u q n _ _=>⟨u.slots,k b u (hb b n) q⟩,λb u q n _=>by rw [Am (hx b n)];exact n,λb u q _=>?_,
  λb xs q=>by rw [Am (hm b _ q λz=>z)];exact q,λb u xs q=>by rw [Am (hm b _ q λz=>z)];exact q,λb ps q=>⟨#[],by rw [Am (hm b _ q λz=>z),q];simp⟩⟩
 by_cases hbe:b=e
 ·subst hbe;exact heo
 ·exact ⟨u,k b u hbe q⟩
end
noncomputable def trk (h:Heap)(H:Hp):List Addr:=(List.range h.objs.size).filter λa=>(H a).isSome
def Gj (h:Heap)(H:Hp):Heap:=PySem.W.hideAll h (trk h H)
theorem OD (h:Heap)(H:Hp):(Gj h H).objs.size=h.objs.size:=PySem.W.hideAll_size _ _
theorem Qe {o:Obj}(e:h.get? b=some o)(n:H b=none):(Gj h H).get? b=some o:=
 PySem.W.hideAll_get _ e λhm=>by
  have q:(H b).isSome=true:=(uj0.mp hm).2;rw [n] at q;simp at q
theorem SO {o:Obj}(e:(Gj h H).get? b=some o):h.get? b=some o/\H b=none:=by
 have e':h.get? b=some o:=PySem.W.of_hideAll (trk h H) e;refine ⟨e',?_⟩
 cases q:H b with
 | none=>rfl
 | some x=>
   have hm:b∈trk h H:=uj0.mpr ⟨uk8.mpr (um3 e'),by simp [q]⟩;have z:(Gj h H).get? b=none:=PySem.W.hideAll_none (trk h H) hm;rw [z] at e;cases e
noncomputable def RW (g h:Heap)(L:Addr):List (Addr×Obj):=(List.range h.objs.size).filterMap λa=>if a=L\/(g.get? a).isSome=true then none else (h.get? a).map λo=>(a,o)
def rest (g h:Heap)(L d:Addr):List (Addr×Obj):=(RW g h L).filter λp=>decide (p.1≠d)
structure Mod (K:PySem.W.Frag)(mg:Str->Option Value)(base:Heap):Prop where
 kin:K.In base
 glob:base.Ns mainGlobals mg
 blt:∃mb,base.Ns builtinsNs mb/\∀x:Str,x≠"__name__"->mb x=bootBuiltins x
 nolimit:base.NoLimit
structure Cx where
 prog:Program
 w:World
 K:PySem.W.Frag
 mg:Str->Option Value
 base:Heap
 A:Around
 N:List Str
 s₀:Shared
 H₀:Hp
 env:Env
 outer:List Env
 stack:List Env
 ex:List Addr
 fn:Str->Bool
 calm:Bool
 pn:List (Addr×Obj)
 xe:Value->Shared->Prop
noncomputable def frs (l:List Env):List Addr:=l.filterMap (·.frame)
abbrev Cx.fs (X:Cx):List Addr:=frs X.outer
def Vis (sc:Scope)(x:Str):Prop:=sc.names.lookup x=some .local\/sc.names.lookup x=some .cell\/sc.names.lookup x=some .free
def Loc (sc:Scope)(x:Str):Prop:=sc.names.lookup x=some .local\/sc.names.lookup x=some .cell
def XX (env:Env)(h:Heap)(m:Str->Option Value)(x:Str)(u:Value):Prop:=
 (env.kindOf x=some .local/\m x=some u)\/((env.kindOf x=some .cell\/env.kindOf x=some .free)/\∃c,env.cells.lookup x=some c/\h.IsCell c (some u))
structure Cx.Ok (X:Cx):Prop where
 mod:Mod X.K X.mg X.base
 kind:X.env.scope.kind = .function
 glob:X.env.globals=mainGlobals
 blt:X.env.builtins=builtinsNs
 above:X.s₀.heap.objs.size<=X.env.locals
 inj:∀x y c,X.env.cells.lookup x=some c->X.env.cells.lookup y=some c->x=y
 has:∀x,(X.env.kindOf x=some .cell\/X.env.kindOf x=some .free)->∃c,X.env.cells.lookup x=some c
 cab:∀x c,X.fn x=true->X.env.cells.lookup x=some c->X.s₀.heap.objs.size<=c
 hd:X.calm=true->X.A.handled=none
 frames:X.A.frames=some X.stack
 stk:X.stack=X.outer\/(X.stack=X.env :: X.outer/\X.env.frame=some X.env.locals)
 exf:∀b∈X.ex,b≠X.env.locals/\∀x c,X.env.cells.lookup x=some c->c≠b
 bs:∀b o,X.base.get? b=some o->X.s₀.heap.get? b=some o/\X.H₀ b=none
 bsz:X.base.objs.size<=X.s₀.heap.objs.size
 noex:∀b o,X.base.get? b=some o->b∉X.ex
 exfs:∀b∈X.ex,b∉X.fs
 funs:X.s₀.heap.FunFrames X.base X.outer
 frf:∀b∈X.fs,X.H₀ b=none
structure Inv (X:Cx)(pins:List (Addr×Obj))(Z:List (Option V))(H:Hp)(s:Shared):Prop where
 ok:X.Ok
 os:s.os=X.s₀.os
 bare:AllBare s.gens
 base:Un X.fs X.ex X.H₀ H X.s₀.heap s.heap
 loc:∃m,s.heap.Ns X.env.locals m/\∀(i:Nat) (x:Str) (v:V),X.N[i]?=some x->Z[i]?=some (some v)->Vis X.env.scope x->∃u,RelV v u/\XX X.env s.heap m x u
 cell:∀x c,X.env.cells.lookup x=some c->∃v,s.heap.IsCell c v
 free:H X.env.locals=none
 freeC:∀x c,X.env.cells.lookup x=some c->H c=none
 pin:∀p∈X.pn++pins,s.heap.get? p.1=some p.2/\H p.1=none/\p.1≠X.env.locals/\p.1∉X.fs/\∀v,p.2.data≠.cell v
 hok:HOk X.prog X.w H s.heap
 len:Z.length=X.N.length
variable {t' i:Nat}{ch:List Addr}{E:Value->Shared->Prop}{x:Str}{v:V}{u:Value}{Q:Unit->Shared->Prop}
section
variable {X:Cx}{pins:List (Addr×Obj)}{Z:List (Option V)}{H H':Hp}{s:Shared}{h':Heap}
theorem Cx.Ok.nofr (ok:X.Ok){b:Addr}{o:Obj}(e:X.base.get? b=some o):b∉X.fs:=λhb=>by
 have:=(ok.funs.mem hb).1;rw [e] at this;cases this
theorem Inv.bs (I:Inv X pins Z H s):∀b o,X.base.get? b=some o->s.heap.get? b=some o/\H b=none:=λb o e=>
 ⟨I.base.keep b o (I.ok.bs b o e).1 (I.ok.bs b o e).2 (I.ok.nofr e) (I.ok.noex b o e),I.base.free b o (I.ok.bs b o e).1 (I.ok.bs b o e).2 (I.ok.noex b o e)⟩
theorem Inv.bk (I:Inv X pins Z H s):∀b o,X.base.get? b=some o->s.heap.get? b=some o:=λb o e=>(I.bs b o e).1
theorem Inv.mod (I:Inv X pins Z H s):Mod X.K X.mg X.base:=I.ok.mod
theorem Inv.kIn (I:Inv X pins Z H s):X.K.In s.heap:=I.ok.mod.kin.keeps I.bk
theorem Inv.lt (I:Inv X pins Z H s):X.env.locals < s.heap.objs.size:=let ⟨_,hn,_⟩:=I.loc;hn.lt
theorem Inv.sz (I:Inv X pins Z H s):X.s₀.heap.objs.size<=s.heap.objs.size:=um5 I.ok.above (um6 I.lt)
theorem Inv.nofs (I:Inv X pins Z H s){a:Addr}(h:s.heap.objs.size<=a):a∉X.fs:=λhb=>by
 obtain ⟨_,o,ho,_⟩:=I.ok.funs.mem hb;exact absurd (uf0 (um3 ho) (um5 I.sz h)) (ul4 _)
theorem Inv.cne (I:Inv X pins Z H s):∀x c,X.env.cells.lookup x=some c->c≠X.env.locals:=λx c e z=>by
 obtain ⟨v,o,ho,hd⟩:=I.cell x c e;obtain ⟨m,⟨o',es,ep,ho',hd',_⟩,_⟩:=I.loc;rw [z,ho'] at ho;cases ho;rw [hd'] at hd;cases hd
theorem Inv.funs (I:Inv X pins Z H s):s.heap.FunFrames X.base X.outer:=by
 have all:∀(l:List Env),(∀b∈frs l,b∈X.fs)->X.s₀.heap.FunFrames X.base l->s.heap.FunFrames X.base l:=by
  intro l
  induction l with
  | nil=>intro _ _;trivial
  | cons env r ih=>
    intro hs hl;obtain ⟨hk,⟨L,o,hf,hn,ho,hd⟩,hr⟩:=hl;have hL:L∈X.fs:=hs L (by unfold frs;rw [ue1,hf];exact uf1);obtain ⟨sl,e⟩:=I.base.slot L o ho (I.ok.frf L hL) hL λz=>I.ok.exfs L z hL;exact ⟨hk,⟨L,_,hf,hn,e,hd⟩,ih (λb hb=>hs b (by unfold frs;rw [ue1,hf];exact ud4 _ hb)) hr⟩
 exact all X.outer (λ_ hb=>hb) I.ok.funs
theorem Inv.stack (I:Inv X pins Z H s):s.heap.FunFrames X.base X.stack:=by
 rcases I.ok.stk with e | ⟨e,hf⟩
 ·rw [e];exact I.funs
 ·rw [e];obtain ⟨m,hn,_⟩:=I.loc;refine .cons (by rw [I.ok.kind];decide) hf hn ?_ I.funs;exact Heap.get?_none_of_le (um5 I.ok.bsz I.ok.above)
theorem Inv.stkSub (I:Inv X pins Z H s):∀b∈frs X.stack,b∈X.env.locals :: X.fs:=λb hb=>by
 rcases I.ok.stk with e | ⟨e,hf⟩
 ·rw [e] at hb;exact ud4 _ hb
 ·rw [e] at hb;unfold frs at hb;rw [ue1,hf] at hb;exact hb
theorem Inv.stkFree (I:Inv X pins Z H s):∀b∈frs X.stack,H b=none:=λb hb=>by
 rcases ul5.mp (I.stkSub b hb) with e | hb
 ·rw [e];exact I.free
 ·obtain ⟨_,o,ho,_⟩:=I.ok.funs.mem hb;exact I.base.free b o ho (I.ok.frf b hb) λz=>I.ok.exfs b z hb
theorem Inv.step {g':Array GenState}{d':Drawn}(I:Inv X pins Z H s)
 (hch:∀b∈ch,(b∈X.ex\/X.s₀.heap.objs.size<=b)/\b≠X.env.locals/\(∀x c,X.env.cells.lookup x=some c->c≠b)/\∀p∈X.pn++pins,p.1≠b)
 (keep:∀b o,b≠X.env.locals->b∉X.fs->b∉ch->s.heap.get? b=some o->H b=none->h'.get? b=some o)
 (slot:∀b o,b≠X.env.locals->b∈X.fs->b∉ch->s.heap.get? b=some o->H b=none->∃sl,h'.get? b=some { o with slots:=sl }) (free:∀b o,b∉ch->s.heap.get? b=some o->H b=none->H' b=none)
 (there:∀b o,b∉ch->s.heap.get? b=some o->∃o',h'.get? b=some o')
 (tups:∀b xs,H b=some (.tup xs)->H' b=some (.tup xs)) (frzs:∀b o u,H b=some (.frz o u)->H' b=some (.frz o u)) (tbls:∀b ps,H b=some (.tbl ps)->∃more,H' b=some (.tbl (ps++more)))
 (ns:∀m,s.heap.Ns X.env.locals m->h'.Ns X.env.locals m) (hok:HOk X.prog X.w H' h') (hg:AllBare g') :
 Inv X pins Z H' { s with heap:=h',gens:=g',drawn:=d',toks:=t' }:=by
 have neL:∀b o,X.s₀.heap.get? b=some o->b≠X.env.locals:=λb o e=>um4 (uf0 (um3 e) I.ok.above);have neC:∀b o,X.s₀.heap.get? b=some o->b∉X.ex->b∉ch:=λb o e hx hb=>by
  rcases (hch b hb).1 with z | z
  ·exact hx z
  ·exact absurd (uf0 (um3 e) z) (ul4 _)
 have cellK:∀x c,X.env.cells.lookup x=some c->∀v,s.heap.IsCell c v->h'.IsCell c v:=λx c e v z9=>by
  obtain ⟨o,ho,hd⟩:=z9;have nch:c∉ch:=λz=>(hch c z).2.2.1 x c e rfl
  by_cases hc:c∈X.fs
  ·obtain ⟨sl,q⟩:=slot c o (I.cne x c e) hc nch ho (I.freeC x c e);exact ⟨_,q,hd⟩
  ·exact ⟨o,keep c o (I.cne x c e) hc nch ho (I.freeC x c e),hd⟩
 refine ⟨I.ok,I.os,hg,⟨λb o e n hb hx=>?_,λb o e n hb hx=>?_,λb o e n hx=>?_,λb o e hx=>?_,λb xs e=>tups b xs (I.base.tups b xs e),λb o xs e=>frzs b o xs (I.base.frzs b o xs e),λb ps e=>?_⟩,?_,λx c e=>?_,?_,λx c e=>?_,λp hp=>?_,hok,I.len⟩
 ·exact keep b o (neL b o e) hb (neC b o e hx) (I.base.keep b o e n hb hx) (I.base.free b o e n hx)
 ·obtain ⟨sl,e1⟩:=I.base.slot b o e n hb hx;obtain ⟨sl',e2⟩:=slot b _ (neL b o e) hb (neC b o e hx) e1 (I.base.free b o e n hx);exact ⟨sl',e2⟩
 ·obtain ⟨o',e1⟩:=I.base.there b o e hx;exact free b o' (neC b o e hx) e1 (I.base.free b o e n hx)
 ·obtain ⟨o',e1⟩:=I.base.there b o e hx;exact there b o' (neC b o e hx) e1
 ·obtain ⟨m1,e1⟩:=I.base.tbls b ps e;obtain ⟨m2,e2⟩:=tbls b _ e1;exact ⟨m1++m2,by rw [e2,Array.append_assoc]⟩
 ·obtain ⟨m,hn,hl⟩:=I.loc;refine ⟨m,ns m hn,λi x v e1 e2 e3=>?_⟩;obtain ⟨u,r,l⟩:=hl i x v e1 e2 e3;refine ⟨u,r,?_⟩;rcases l with l | ⟨k,c,e,z⟩
  ·exact .inl l
  ·exact .inr ⟨k,c,e,cellK x c e _ z⟩
 ·obtain ⟨v,z⟩:=I.cell x c e;exact ⟨v,cellK x c e v z⟩
 ·obtain ⟨m,⟨o,_,_,ho,_⟩,_⟩:=I.loc;exact free _ o (λz=>(hch _ z).2.1 rfl) ho I.free
 ·obtain ⟨v,o,ho,hd⟩:=I.cell x c e;exact free c o (λz=>(hch c z).2.2.1 x c e rfl) ho (I.freeC x c e)
 ·obtain ⟨e,n,ne,nf,d⟩:=I.pin p hp;have nch:p.1∉ch:=λz=>(hch p.1 z).2.2.2 p hp rfl;exact ⟨keep p.1 p.2 ne nf nch e n,free p.1 p.2 nch e n,ne,nf,d⟩
theorem Inv.un (I:Inv X pins Z H s)(u:Un X.fs [] H H' s.heap h')(hok:HOk X.prog X.w H' h'):Inv X pins Z H' { s with heap:=h',toks:=t' }:=by
 obtain ⟨m,⟨o,es,ep,ho,r⟩,_⟩:=id I.loc;obtain ⟨sl,hL⟩:=u.any ho I.free (by simp);exact I.step (g':=s.gens) (d':=s.drawn) (ch:=[]) (λ_ z=>nomatch z) (λb o _ hb _ e n=>u.keep b o e n hb (by simp)) (λb o _ hb _ e n=>u.slot b o e n hb (by simp)) (λb o _ e n=>u.free b o e n (by simp)) (λb o _ e=>u.there b o e (by simp)) u.tups u.frzs u.tbls (λm' hm=>by
  obtain ⟨o',es',ep',ho',r'⟩:=hm;rw [ho] at ho';cases ho'
  exact ⟨_,es',ep',hL,r'⟩) hok I.bare
theorem Inv.call {g':Array GenState}{d':Drawn}(I:Inv X pins Z H s)(u:Un (frs X.stack) ch H H' s.heap h')(hok:HOk X.prog X.w H' h')(hg:AllBare g')
 (hch:∀b∈ch,(b∈X.ex\/X.s₀.heap.objs.size<=b)/\b≠X.env.locals/\(∀x c,X.env.cells.lookup x=some c->c≠b)/\∀p∈X.pn++pins,p.1≠b) :
 Inv X pins Z H' { s with heap:=h',gens:=g',drawn:=d',toks:=t' }:=by
 obtain ⟨m,⟨o,es,ep,ho,r⟩,_⟩:=id I.loc;obtain ⟨sl,hL⟩:=u.any ho I.free λz=>(hch _ z).2.1 rfl;exact I.step (ch:=ch) hch (λb o hL hb hc e n=>u.keep b o e n (λz=>(ul5.mp (I.stkSub b z)).elim hL hb) hc) (λb o _ _ hc e n=>u.any e n hc) (λb o hc e n=>u.free b o e n hc) (λb o hc e=>u.there b o e hc) u.tups u.frzs u.tbls (λm' hm=>by
  obtain ⟨o',es',ep',ho',r'⟩:=hm;rw [ho] at ho';cases ho'
  exact ⟨_,es',ep',hL,r'⟩) hok hg
theorem Inv.turned {it:Addr}(I:Inv X pins Z H s)(k:∀b o,b≠it->s.heap.get? b=some o->h'.get? b=some o)(hn:H it=none)(hL:it≠X.env.locals)
 (h1:it∈X.ex\/X.s₀.heap.objs.size<=it) (h2:∀x c,X.env.cells.lookup x=some c->c≠it) (h3:∀p∈X.pn++pins,p.1≠it):Inv X pins Z H { s with heap:=h',toks:=t' }:=by
 have nit:∀b u,H b=some u->b≠it:=λb u e z=>by rw [z,hn] at e;cases e
 refine I.step (g':=s.gens) (d':=s.drawn) (ch:=[it]) (λb hb=>?_) (λb o _ _ hc e _=>k b o (λz=>hc (by simp [z])) e) (λb o _ _ hc e _=>⟨o.slots,k b o (λz=>hc (by simp [z])) e⟩) (λ_ _ _ _ n=>n)
  (λb o hc e=>⟨o,k b o (λz=>hc (by simp [z])) e⟩) (λ_ _ e=>e) (λ_ _ _ e=>e) (λb ps e=>⟨#[],by rw [e];simp⟩) (λm hm=>?_) (λb u e=>?_) I.bare
 ·have e:b=it:=by simpa using hb
  subst e;exact ⟨h1,hL,h2,h3⟩
 ·obtain ⟨o,es,ep,ho,r⟩:=hm;exact ⟨o,es,ep,k _ o (Ne.symm hL) ho,r⟩
 ·refine (I.hok b u e).stay (λc v hc q=>k c v ?_ q) (λ_ q=>q) λ_ _ q=>q;rcases hc with z | z
  ·rw [z];exact nit b u e
  ·exact nit c _ z
theorem Inv.tok (I:Inv X pins Z H s)(t:Nat):Inv X pins Z H { s with toks:=t }:=I.un (h':=s.heap) (t':=t) Un.refl I.hok
theorem Inv.kept {t':Nat}(I:Inv X pins Z H s)(k:∀b u,s.heap.get? b=some u->h'.get? b=some u):Inv X pins Z H { s with heap:=h',toks:=t' }:=I.un (Un.kept k) (I.hok.kept k)
theorem Inv.laid {a:Addr}{o:HO}{t':Nat}(I:Inv X pins Z H s)(k:∀b u,s.heap.get? b=some u->h'.get? b=some u)(hp:s.heap.objs.size<=a)(new:ObjOk X.prog X.w (upd H a o) h' a o) :
 Inv X pins Z (upd H a o) { s with heap:=h',toks:=t' }:=I.un (Un.laid k hp (I.hok.fresh hp)) (I.hok.laid k hp new)
theorem Inv.write {x e:Addr}{o:HO}{t':Nat}(I:Inv X pins Z H s)(mu:Mut (H x))(he:e=x\/H e=some (.own x))(k:∀b u,b≠e->s.heap.get? b=some u->h'.get? b=some u)(heo:∃u,h'.get? e=some u)
 (new:ObjOk X.prog X.w (upd H x o) h' x o):Inv X pins Z (upd H x o) { s with heap:=h',toks:=t' }:=I.un (Un.write mu he k heo) (I.hok.write mu he k heo new)
theorem Inv.pins_of {pins':List (Addr×Obj)}(I:Inv X pins Z H s)(h:∀p∈pins',s.heap.get? p.1=some p.2/\H p.1=none/\p.1≠X.env.locals/\p.1∉X.fs/\∀v,p.2.data≠.cell v):Inv X pins' Z H s:=
 ⟨I.ok,I.os,I.bare,I.base,I.loc,I.cell,I.free,I.freeC,λp hp=>(uj1.mp hp).elim (λz=>I.pin p (ud5 _ z)) (h p),I.hok,I.len⟩
theorem Lw {N:List Str}(hN:N.Nodup){i j:Nat}{x:Str}(a:N[i]?=some x)(b:N[j]?=some x):i=j:=by
 obtain ⟨h1,e1⟩:=ua8.mp a;obtain ⟨h2,e2⟩:=ua8.mp b;exact (uh4 hN).mp (e1.trans e2.symm)
theorem J9 {M:Model}{A:Around}(I:Inv X pins Z H s)(hN:X.N.Nodup)(hi:X.N[i]?=some x)(hx:Loc X.env.scope x)(r:RelV v u)
 (h:∀s',Inv X pins (Z.set i (some v)) H s'->(∃a,Heap.SameBut a s.heap s'.heap/\(a=X.env.locals\/X.env.cells.lookup x=some a))->Q () s') (hf:X.fn x=true\/X.env.scope.names.lookup x=some .local:=by first | exact .inl rfl | exact .inr rfl | assumption):wpAny M A (storeName X.env x u) Q E s:=by
 obtain ⟨m,hn,hl⟩:=id I.loc;have hcls:(X.env.scope.kind == .class || (X.env.scope.kind == .module && X.env.locals != X.env.globals))=false:=by rw [I.ok.kind];rfl
 have hiZ:i < Z.length:=by rw [I.len];exact (ua8.mp hi).1
 have cne:=I.cne;have tracked:∀{a:Addr} {h':Heap},(∃o,s.heap.get? a=some o/\H a=none)->Heap.SameBut a s.heap h'->HOk X.prog X.w H h':=λ{a h'} ha hs b ob e=>by
  obtain ⟨_,_,hfree⟩:=ha;refine (I.hok b ob e).stay (λc w' hc q=>(hs.2 c ?_).trans q) (λ_ q=>q) λ_ _ q=>q;rintro rfl;rcases hc with rfl | hc
  ·rw [hfree] at e;cases e
  ·rw [hfree] at hc;cases hc
 rcases hx with hk | hk
 ·refine wpAny_storeName_local hk hn (λh' hn' hs=>?_) hcls;obtain ⟨oL,_,_,hoL,_⟩:=id hn;refine h _ ⟨I.ok,I.os,I.bare,⟨λb o e n hb hx=>?_,λb o e n hb hx=>?_,I.base.free,λb o e hx=>?_,I.base.tups,I.base.frzs,I.base.tbls⟩,⟨_,hn',λj y v' e1 e2 e3=>?_⟩,λy c e=>?_,I.free,I.freeC,λp hp=>?_,tracked ⟨oL,hoL,I.free⟩ hs,by simpa using I.len⟩ ⟨_,hs,.inl rfl⟩
  ·exact (hs.2 b (um4 (uf0 (um3 e) I.ok.above))).trans (I.base.keep b o e n hb hx)
  ·obtain ⟨sl,e1⟩:=I.base.slot b o e n hb hx;exact ⟨sl,(hs.2 b (um4 (uf0 (um3 e) I.ok.above))).trans e1⟩
  ·obtain ⟨o',e1⟩:=I.base.there b o e hx;exact ⟨o',(hs.2 b (um4 (uf0 (um3 e) I.ok.above))).trans e1⟩
  ·by_cases hj:j=i
   ·subst hj;rw [hi] at e1;cases e1
    rw [ub7 hiZ] at e2
    cases e2
    exact ⟨u,r,.inl ⟨hk,by simp⟩⟩
   ·rw [ud6 (Ne.symm hj)] at e2;obtain ⟨u',r',q⟩:=hl j y v' e1 e2 e3;refine ⟨u',r',?_⟩;rcases q with ⟨k,e⟩ | ⟨k,c,e,z⟩
    ·refine .inl ⟨k,?_⟩;have:y≠x:=λe=>hj (Lw hN e1 (e ▸ hi));simp [this,e]
    ·exact .inr ⟨k,c,e,z.sameBut hs (cne y c e)⟩
  ·obtain ⟨w',z⟩:=I.cell y c e;exact ⟨w',z.sameBut hs (cne y c e)⟩
  ·obtain ⟨e,n,ne,nf,d⟩:=I.pin p hp;exact ⟨(hs.2 p.1 ne).trans e,n,ne,nf,d⟩
 ·have hfn:X.fn x=true:=by
   rcases hf with z | z
   ·exact z
   ·rw [z] at hk;cases hk
  obtain ⟨c,hc⟩:=I.ok.has x (.inl hk);obtain ⟨w',z⟩:=I.cell x c hc;refine wpAny_storeName_cell I.ok.kind hk hc z (λh' hc' hs=>?_);obtain ⟨oc,hoc,hocd⟩:=id z;refine h { s with heap:=h' } ⟨I.ok,I.os,I.bare,⟨λb o e n hb hx=>?_,λb o e n hb hx=>?_,I.base.free,λb o e hx=>?_,I.base.tups,I.base.frzs,I.base.tbls⟩,⟨m,hn.sameBut hs (Ne.symm (cne x c hc)),λj y v' e1 e2 e3=>?_⟩,λy c' e=>?_,I.free,I.freeC,λp hp=>?_,tracked ⟨oc,hoc,I.freeC x c hc⟩ hs,by simpa using I.len⟩ ⟨c,hs,.inr hc⟩
  ·exact (hs.2 b (um4 (uf0 (um3 e) (I.ok.cab x c hfn hc)))).trans (I.base.keep b o e n hb hx)
  ·obtain ⟨sl,e1⟩:=I.base.slot b o e n hb hx;exact ⟨sl,(hs.2 b (um4 (uf0 (um3 e) (I.ok.cab x c hfn hc)))).trans e1⟩
  ·obtain ⟨o',e1⟩:=I.base.there b o e hx;exact ⟨o',(hs.2 b (um4 (uf0 (um3 e) (I.ok.cab x c hfn hc)))).trans e1⟩
  ·by_cases hj:j=i
   ·subst hj;rw [hi] at e1;cases e1
    rw [ub7 hiZ] at e2
    cases e2
    exact ⟨u,r,.inr ⟨.inl hk,c,hc,hc'⟩⟩
   ·rw [ud6 (Ne.symm hj)] at e2;obtain ⟨u',r',q⟩:=hl j y v' e1 e2 e3;refine ⟨u',r',?_⟩;rcases q with q | ⟨k,c',e,z'⟩
    ·exact .inl q
    ·refine .inr ⟨k,c',e,z'.sameBut hs ?_⟩;rintro rfl;exact hj (Lw hN e1 (I.ok.inj _ _ _ e hc ▸ hi))
  ·by_cases hcc:c'=c
   ·subst hcc;exact ⟨_,hc'⟩
   ·obtain ⟨w2,z2⟩:=I.cell y c' e;exact ⟨w2,z2.sameBut hs hcc⟩
  ·obtain ⟨e,n,ne,nf,d⟩:=I.pin p hp;refine ⟨(hs.2 p.1 ?_).trans e,n,ne,nf,d⟩;intro q;rw [q,hoc] at e;have q':oc=p.2:=uj2 e;exact d w' (by rw [<-q'];exact hocd)
theorem L1 {M:Model}{A:Around}(I:Inv X pins Z H s)(hN:X.N.Nodup)(hi:X.N[i]?=some x)(hx:Loc X.env.scope x)(r:RelV v u)
 (h:∀s',Inv X pins (Z.set i (some v)) H s'->Q () s') (hf:X.fn x=true\/X.env.scope.names.lookup x=some .local:=by first | exact .inl rfl | exact .inr rfl | assumption):wpAny M A (storeName X.env x u) Q E s:=
 J9 I hN hi hx r (λs' I' _=>h s' I') hf
theorem Inv.call' {s':Shared}(I:Inv X pins Z H s)(ho:s'.os=s.os)(u:Un (frs X.stack) ch H H' s.heap s'.heap)(hok:HOk X.prog X.w H' s'.heap)(hg:AllBare s'.gens)
 (hch:∀b∈ch,(b∈X.ex\/X.s₀.heap.objs.size<=b)/\b≠X.env.locals/\(∀x c,X.env.cells.lookup x=some c->c≠b)/\∀p∈X.pn++pins,p.1≠b):Inv X pins Z H' s':=by
 obtain ⟨h',g',d',t',o'⟩:=s';have e:o'=s.os:=ho;subst e;exact I.call (g':=g') (t':=t') (d':=d') u hok hg hch
end
abbrev XK:=Value->Option Addr->Hp->Prop
abbrev St:=List (Option V)
abbrev VK:=V->Hp->Prop
abbrev TE:=St->Hp->VK->Prop
abbrev TT:=St->Hp->(Bool->Hp->Prop)->Prop
abbrev TA:=St->Hp->(List V->Hp->Prop)->Prop
structure Ends where
 nx:St->Hp->Prop
 rt:VK
 bk:St->Hp->Prop:=λ_ _=>False
 ct:St->Hp->Prop:=λ_ _=>False
abbrev TS:=Ends->St->Hp->Prop
def EP (X:Cx)(pins:List (Addr×Obj))(Z:St)(Q:VK)(u:Value)(s':Shared):Prop:=∃v H',Inv X pins Z H' s'/\RelV v u/\Q v H'
def TP (X:Cx)(pins:List (Addr×Obj))(Z:St)(Q:Bool->Hp->Prop)(b:Bool)(s':Shared):Prop:=∃H',Inv X pins Z H' s'/\Q b H'
def AP (X:Cx)(pins:List (Addr×Obj))(Z:St)(Q:List V->Hp->Prop)(us:List Value)(s':Shared):Prop:=∃vs H',Inv X pins Z H' s'/\Vals vs us/\Q vs H'
def SP (X:Cx)(pins:List (Addr×Obj))(D:Ends)(f:Flow)(s':Shared):Prop:=
 match f with
 | .next=>∃Z' H',Inv X pins Z' H' s'/\D.nx Z' H'
 | .brk=>∃Z' H',Inv X pins Z' H' s'/\D.bk Z' H'
 | .cont=>∃Z' H',Inv X pins Z' H' s'/\D.ct Z' H'
 | .ret u=>∃v Z' H',Inv X pins Z' H' s'/\RelV v u/\D.rt v H'
def PE (X:Cx)(e:Expr)(t:TE):Prop:=
 ∀(pins:List (Addr×Obj)) (s:Shared) (Z:St) (H:Hp) (Q:VK),Inv X pins Z H s->t Z H Q->wpAny (model X.prog X.w) X.A (eval e X.env) (EP X pins Z Q) X.xe s
def PT (X:Cx)(e:Expr)(t:TT):Prop:=
 ∀(pins:List (Addr×Obj)) (s:Shared) (Z:St) (H:Hp) (Q:Bool->Hp->Prop),Inv X pins Z H s->t Z H Q->wpAny (model X.prog X.w) X.A (isTrue e X.env (eval e X.env)) (TP X pins Z Q) X.xe s
def PW (X:Cx)(e:Expr)(t:TT):Prop:=
 ∀(whole:Sem Value) (pins:List (Addr×Obj)) (s:Shared) (Z:St) (H:Hp) (Q:Bool->Hp->Prop),Inv X pins Z H s->t Z H Q->wpAny (model X.prog X.w) X.A (isTrue e X.env whole) (TP X pins Z Q) X.xe s
variable {X:Cx}{e:Expr}
theorem PW.pt {t:TT}(h:PW X e t):PT X e t:=h _
def PA (X:Cx)(es:List Expr)(t:TA):Prop:=
 ∀(pos:Pos) (pins:List (Addr×Obj)) (s:Shared) (Z:St) (H:Hp) (Q:List V->Hp->Prop),Inv X pins Z H s->t Z H Q->wpAny (model X.prog X.w) X.A (spliced (backTo pos (starEach es X.env))) (AP X pins Z Q) X.xe s
def PS (X:Cx)(st:Stmt)(t:TS):Prop:=
 ∀(pins:List (Addr×Obj)) (s:Shared) (Z:St) (H:Hp) (D:Ends),Inv X pins Z H s->t D Z H->wpAny (model X.prog X.w) X.A (exec st X.env) (SP X pins D) X.xe s
def PSs (X:Cx)(st:List Stmt)(t:TS):Prop:=
 ∀(pins:List (Addr×Obj)) (s:Shared) (Z:St) (H:Hp) (D:Ends),Inv X pins Z H s->t D Z H->wpAny (model X.prog X.w) X.A (execs st X.env) (SP X pins D) X.xe s
variable {s:Shared}
theorem thn {α:Type}{t:Sem α}{Q Q':α->Shared->Prop}{M:Model}{A:Around}(h:wpAny M A t Q E s)(hQ:∀a s,Q a s->Q' a s):wpAny M A t Q' E s:=uo9 h hQ λ_ _ x=>x
variable {pins:List (Addr×Obj)}{Z:St}
section
variable {X:Cx}
def Wg (i:Nat):TE:=λZ H Q=>∃v,Z[i]?=some (some v)/\Q v H
def tC (v:V):TE:=λ_ H Q=>Q v H
theorem C8 {pos:Pos}(hN:X.N[i]?=some x)(hv:Vis X.env.scope x)(hd:(x == ("__debug__" : Str))=false:=by decide)(hcd:(x == ("__classdict__" : Str))=false:=by decide):PE X (.Name x pos) (Wg i):=by
 intro pins s Z H Q I h;obtain ⟨v,e,h⟩:=h;obtain ⟨m,hn,hl⟩:=I.loc;obtain ⟨u,r,l⟩:=hl i x v hN e hv;have fin:EP X pins Z Q u s:=⟨v,H,I,r,h⟩;rcases l with ⟨hk,hm⟩ | ⟨hk,c,hc,hcell⟩
 ·exact wpAny_Name (wpAny_loadName_local I.ok.kind hk hn hm fin) hd
 ·rcases hk with hk | hk
  ·exact wpAny_Name (wpAny_loadName_cell I.ok.kind hk hc hcell fin) hd
  ·exact wpAny_Name (wpAny_loadName_free I.ok.kind hk hc hcell fin hcd) hd
theorem Vt {i j pos}:PE X (.Constant (.int i) j pos) (tC (.int i)):=λ_ _ _ H _ I h=>wpAny_Constant_int ⟨.int i,H,I.tok _,⟨_,rfl⟩,h⟩
theorem WU {b j pos}:PE X (.Constant (.bool b) j pos) (tC (.bl b)):=λ_ _ _ H _ I h=>Constant_bool ⟨.bl b,H,I,rfl,h⟩
theorem Vu {j pos}:PE X (.Constant .none j pos) (tC .non):=λ_ _ _ H _ I h=>Constant_none ⟨.non,H,I,rfl,h⟩
theorem Vx {x j pos}:PE X (.Constant (.str x) j pos) (tC (.str x)):=λ_ _ _ H _ I h=>Calls.Constant_str ⟨.str x,H,I.tok _,⟨_,rfl⟩,h⟩
def Gl (X:Cx)(x:Str):Prop:=X.env.kindOf x=some .globalImplicit
theorem EC {pos:Pos}{Q:Value->Shared->Prop}(I:Inv X pins Z H s)(hg:Gl X x)(hm:X.mg x=some u)(h:Q u s)
 (hd:(x == ("__debug__" : Str))=false:=by decide):wpAny (model X.prog X.w) X.A (eval (.Name x pos) X.env) Q E s:=
 Calls.Name_function_global I.ok.kind hg (Calls.loadGlobal_global (by rw [I.ok.glob];exact I.mod.glob.keeps I.bk) hm h) hd
theorem FQ {pos:Pos}{Q:Value->Shared->Prop}(I:Inv X pins Z H s)(hg:Gl X x)(hm:X.mg x=none)(hv:bootBuiltins x=some u)(h:Q u s)
 (hn:x≠"__name__":=by decide) (hd:(x == ("__debug__" : Str))=false:=by decide):wpAny (model X.prog X.w) X.A (eval (.Name x pos) X.env) Q E s:=by
 obtain ⟨mb,h1,h2⟩:=I.mod.blt;exact Calls.Name_function_global I.ok.kind hg (Calls.loadGlobal_builtin (by rw [I.ok.glob];exact I.mod.glob.keeps I.bk) hm (by rw [I.ok.blt];exact h1.keeps I.bk) ((h2 x hn).trans hv) h) hd
theorem JA {pos:Pos}(hg:Gl X x)(hm:X.mg x=some u)(r:RelV v u)(hd:(x == ("__debug__" : Str))=false:=by decide):PE X (.Name x pos) (tC v):=
 λ_ _ _ H _ I h=>EC I hg hm ⟨v,H,I,r,h⟩ hd
theorem SZ {pos:Pos}(hg:Gl X x)(hm:X.mg x=none)(hv:bootBuiltins x=some u)(r:RelV v u)(hn:x≠"__name__":=by decide)(hd:(x == ("__debug__" : Str))=false:=by decide):PE X (.Name x pos) (tC v):=
 λ_ _ _ H _ I h=>FQ I hg hm hv ⟨v,H,I,r,h⟩ hn hd
variable {a b:Expr}{ta tb:TE}{pos:Pos}
def tB (t:TE):TT:=λZ H Q=>t Z H λx H1=>∃c,x = .bl c/\Q c H1
theorem VH {t:TE}(h:PE X e t)(he:∀whole,isTrue e X.env whole=(do let v <-whole;standAt e.pos;holding [v] (truthy v)):=by intro _;rfl):PT X e (tB t):=by
 intro pins s Z H Q I hw;refine isTrue_plain (thn (h pins s Z H _ I hw) λv s1 z9=>?_) (he _);obtain ⟨x,H1,I1,r1,q1⟩:=z9;obtain ⟨d,rfl,q⟩:=q1
 cases r1
 exact wpAny_truthy_bool ⟨H1,I1,q⟩
variable {tA tB':TT}{rest:List Expr}
def Yo (t u:TT):TT:=λZ H Q=>t Z H λc H1=>if c=true then u Z H1 Q else Q false H1
def tOr (t u:TT):TT:=λZ H Q=>t Z H λc H1=>if c=true then Q true H1 else u Z H1 Q
def Yr (t:TT):TT:=λZ H Q=>t Z H λc H1=>Q (!c) H1
theorem Tu (ha:PT X a tA):PW X (.BoolOp .And [a] pos) tA:=by
 intro wh pins s Z H Q I h;refine isTrue_and (thn (ha pins s Z H Q I h) λc s1 e=>?_)
 cases c with
 | true=>exact isTrue_and_nil e
 | false=>exact e
theorem VL (ha:PT X a tA):PW X (.BoolOp .Or [a] pos) tA:=by
 intro wh pins s Z H Q I h;refine isTrue_or (thn (ha pins s Z H Q I h) λc s1 e=>?_)
 cases c with
 | false=>exact isTrue_or_nil e
 | true=>exact e
theorem VJ (ha:PT X a tA)(hb:PW X (.BoolOp .And (b :: rest) pos) tB'):PW X (.BoolOp .And (a :: b :: rest) pos) (Yo tA tB'):=by
 intro wh pins s Z H Q I h;refine isTrue_and (thn (ha pins s Z H _ I h) λc s1 z9=>?_);obtain ⟨H1,I1,q1⟩:=z9
 cases c with
 | true=>exact hb wh pins s1 Z H1 Q I1 q1
 | false=>exact ⟨H1,I1,q1⟩
theorem W2 (ha:PT X a tA)(hb:PW X (.BoolOp .Or (b :: rest) pos) tB'):PW X (.BoolOp .Or (a :: b :: rest) pos) (tOr tA tB'):=by
 intro wh pins s Z H Q I h;refine isTrue_or (thn (ha pins s Z H _ I h) λc s1 z9=>?_);obtain ⟨H1,I1,q1⟩:=z9
 cases c with
 | true=>exact ⟨H1,I1,q1⟩
 | false=>exact hb wh pins s1 Z H1 Q I1 q1
theorem VG (ha:PT X a tA):PT X (.UnaryOp .Not a pos) (Yr tA):=by
 intro pins s Z H Q I h;exact isTrue_not (ha pins s Z H (λc H1=>Q (!c) H1) I h)
def W9 (ta tb:TE):TE:=λZ H Q=>ta Z H λx H1=>∃c,x = .bl c/\if c=true then tb Z H1 Q else Q (.bl false) H1
def Ys (ta tb:TE):TE:=λZ H Q=>ta Z H λx H1=>∃c,x = .bl c/\if c=true then Q (.bl true) H1 else tb Z H1 Q
def Xc (ta:TE):TE:=λZ H Q=>ta Z H λx H1=>∃c,x = .bl c/\Q (.bl (!c)) H1
theorem Vw {op}{t:TE}(h:PE X a t):PE X (.BoolOp op [a] pos) t:=λpins s Z H Q I hw=>BoolOp_one (h pins s Z H Q I hw)
theorem Vs (ha:PE X a ta)(hb:PE X (.BoolOp .And (b :: rest) pos) tb):PE X (.BoolOp .And (a :: b :: rest) pos) (W9 ta tb):=by
 intro pins s Z H Q I h;refine BoolOp_and (thn (ha pins s Z H _ I h) λv s1 z9=>?_);obtain ⟨x,H1,I1,r1,q1⟩:=z9;obtain ⟨c,rfl,q1⟩:=q1
 cases r1
 refine wpAny_truthy_bool ?_
 cases c with
 | true=>exact hb pins s1 Z H1 Q I1 q1
 | false=>exact ⟨.bl false,H1,I1,rfl,q1⟩
theorem WV (ha:PE X a ta)(hb:PE X (.BoolOp .Or (b :: rest) pos) tb):PE X (.BoolOp .Or (a :: b :: rest) pos) (Ys ta tb):=by
 intro pins s Z H Q I h;refine BoolOp_or (thn (ha pins s Z H _ I h) λv s1 z9=>?_);obtain ⟨x,H1,I1,r1,q1⟩:=z9;obtain ⟨c,rfl,q1⟩:=q1
 cases r1
 refine wpAny_truthy_bool ?_
 cases c with
 | false=>exact hb pins s1 Z H1 Q I1 q1
 | true=>exact ⟨.bl true,H1,I1,rfl,q1⟩
theorem Vv (ha:PE X a ta):PE X (.UnaryOp .Not a pos) (Xc ta):=by
 intro pins s Z H Q I h;refine UnaryOp_ (thn (ha pins s Z H _ I h) λv s1 z9=>?_);obtain ⟨x,H1,I1,r1,q1⟩:=z9;obtain ⟨c,rfl,q1⟩:=q1
 cases r1
 exact not_of (wpAny_truthy_bool ⟨.bl (!c),H1,I1,rfl,q1⟩)
end
def SqL (K:PySem.W.Frag)(H:Hp)(a:Addr)(xs:List V):Prop:=
 Rd H a (.lst xs)\/
  ∃(o:Obj) (its:Array Value) (n:Nat),K.lookup a=some o/\o.cls = .type "list"/\o.dict=none/\o.data = .seq its n/\its.size<=sizeLine/\Vals xs its.toList
def SqT (K:PySem.W.Frag)(H:Hp)(a:Addr)(xs:List V):Prop:=
 Rd H a (.tup xs)\/
  ∃(o:Obj) (its:Array Value) (n:Nat),K.lookup a=some o/\o.cls = .type "tuple"/\o.data = .seq its n/\its.size<=sizeLine/\Vals xs its.toList
noncomputable def X5:Value->Option V
 | .none=>some .non
 | .bool b=>some (.bl b)
 | .int i _=>some (.int i)
 | .str x _=>some (.str x)
 | .bytes b _=>some (.byt b)
 | .float b _=>some (.flt b)
 | .ref a=>some (.ref a)
 | .type n=>some (.ty n)
 | _=>none
theorem RelV.abs {x:V}(r:RelV x u):X5 u=some x:=by
 cases x with
 | non=>cases r;rfl
 | bl _=>cases r;rfl
 | int _=>obtain ⟨t,rfl⟩:=r;rfl
 | str _=>obtain ⟨t,rfl⟩:=r;rfl
 | byt _=>obtain ⟨t,rfl⟩:=r;rfl
 | flt _=>obtain ⟨t,rfl⟩:=r;rfl
 | ref _=>cases r;rfl
 | ty _=>cases r;rfl
theorem RelV.inj {x y:V}{u:Value}(r:RelV x u)(q:RelV y u):x=y:=uj2 (r.abs.symm.trans q.abs)
theorem Vals.inj {xs ys:List V}{us:List Value}(a:Vals xs us)(b:Vals ys us):xs=ys:=by
 cases a with
 | nil=>
   cases b
   rfl
 | cons r t=>
   cases b with
   | cons r' t'=>rw [r.inj r',Vals.inj t t']
variable {K:PySem.W.Frag}
section
variable {X:Cx}{pins:List (Addr×Obj)}{Z:St}{H:Hp}{s:Shared}{a:Addr}{xs ys:List V}
theorem SqL.of (h:H a=some (.lst xs)):SqL K H a xs:=.inl (.inl h)
theorem SqT.of (h:H a=some (.tup xs)):SqT K H a xs:=.inl (.inl h)
theorem Inv.list (I:Inv X pins Z H s)(h:SqL X.K H a xs):∃its:List Value,Vals xs its/\PlainL s.heap a its.toArray/\xs.length<=sizeLine:=by
 rcases h with h | ⟨o,its,n,hk,hc,hd,hs,hz,r⟩
 ·obtain ⟨z,its,n,r,e⟩:=h.ok I.hok;exact ⟨its,r,⟨_,n,e,rfl,rfl,rfl⟩,z⟩
 ·refine ⟨its.toList,r,⟨o,n,I.kIn a o hk,hc,hd,by simpa using hs⟩,?_⟩;have e:=r.length;simp only [ue2] at e;lia
theorem Inv.tuple (I:Inv X pins Z H s)(h:SqT X.K H a xs):∃its:List Value,Vals xs its/\IsTup s.heap a its.toArray/\xs.length<=sizeLine:=by
 rcases h with h | ⟨o,its,n,hk,hc,hs,hz,r⟩
 ·obtain ⟨z,its,r,p⟩:=h.ok I.hok;exact ⟨its,r,p,z⟩
 ·refine ⟨its.toList,r,⟨o,I.kIn a o hk,hc,n,by simpa using hs⟩,?_⟩;have e:=r.length;simp only [ue2] at e;lia
theorem Inv.list_inj (I:Inv X pins Z H s)(h:SqL X.K H a xs)(h':SqL X.K H a ys):xs=ys:=by
 obtain ⟨its,r,⟨o,n,e,_,_,d⟩,_⟩:=I.list h;obtain ⟨its',r',⟨o',n',e',_,_,d'⟩,_⟩:=I.list h';rw [e] at e';cases e'
 rw [d] at d';injection d' with d1 _
 have:its=its':=by simpa using congrArg Array.toList d1
 subst this;exact r.inj r'
theorem Inv.tuple_inj (I:Inv X pins Z H s)(h:SqT X.K H a xs)(h':SqT X.K H a ys):xs=ys:=by
 obtain ⟨its,r,⟨o,e,_,n,d⟩,_⟩:=I.tuple h;obtain ⟨its',r',⟨o',e',_,n',d'⟩,_⟩:=I.tuple h';rw [e] at e';cases e'
 rw [d] at d';injection d' with d1 _
 have:its=its':=by simpa using congrArg Array.toList d1
 subst this;exact r.inj r'
end
abbrev Cx.wish (X:Cx)(E:Value->Shared->Prop):Cx:={ X with xe:=E }
abbrev Cx.nox (X:Cx):Cx:=X.wish λ_ _=>False
theorem Cx.Ok.wish {X:Cx}(ok:X.Ok)(E:Value->Shared->Prop):(X.wish E).Ok:=
 ⟨ok.mod,ok.kind,ok.glob,ok.blt,ok.above,ok.inj,ok.has,ok.cab,ok.hd,ok.frames,ok.stk,ok.exf,ok.bs,ok.bsz,ok.noex,ok.exfs,ok.funs,ok.frf⟩
theorem Cx.Ok.unwish (ok:(X.wish E).Ok):X.Ok:=
 ⟨ok.mod,ok.kind,ok.glob,ok.blt,ok.above,ok.inj,ok.has,ok.cab,ok.hd,ok.frames,ok.stk,ok.exf,ok.bs,ok.bsz,ok.noex,ok.exfs,ok.funs,ok.frf⟩
section
variable {X:Cx}{pins:List (Addr×Obj)}{Z:St}{H:Hp}{s:Shared}{E:Value->Shared->Prop}
theorem Inv.wish (I:Inv X pins Z H s)(E:Value->Shared->Prop):Inv (X.wish E) pins Z H s:=⟨I.ok.wish E,I.os,I.bare,I.base,I.loc,I.cell,I.free,I.freeC,I.pin,I.hok,I.len⟩
theorem Inv.unwish (I:Inv (X.wish E) pins Z H s):Inv X pins Z H s:=⟨I.ok.unwish,I.os,I.bare,I.base,I.loc,I.cell,I.free,I.freeC,I.pin,I.hok,I.len⟩
theorem SP.unwish {D:Ends}{f:Flow}{s':Shared}(h:SP (X.wish E) pins D f s'):SP X pins D f s':=by
 cases f with
 | next=>obtain ⟨Z',H',I,q⟩:=h;exact ⟨Z',H',I.unwish,q⟩
 | brk=>obtain ⟨Z',H',I,q⟩:=h;exact ⟨Z',H',I.unwish,q⟩
 | cont=>obtain ⟨Z',H',I,q⟩:=h;exact ⟨Z',H',I.unwish,q⟩
 | ret u=>obtain ⟨v,Z',H',I,r,q⟩:=h;exact ⟨v,Z',H',I.unwish,r,q⟩
theorem PSs.nox {st:List Stmt}{t:TS}(h:PSs X.nox st t):PSs X st t:=λpins s Z H D I hw=>
 uo9 (h pins s Z H D (I.wish _) hw) (λ_ _ q=>q.unwish) λ_ _ z=>False.elim z
end
section
variable {X:Cx}{st:Stmt}{rest:List Stmt}{t u:TS}{e:Expr}{te:TE}{pos:Pos}
def Xb:TS:=λD Z H=>D.nx Z H
def Yu (t u:TS):TS:=λD Z H=>t { D with nx:=u D } Z H
theorem Tm:PSs X [] Xb:=λ_ _ Z H _ I h=>wpAny_execs_nil ⟨Z,H,I,h⟩
theorem LH (h1:PS X st t)(h2:PSs X rest u):PSs X (st :: rest) (Yu t u):=by
 intro pins s Z H D I h;refine wpAny_execs_cons (thn (h1 pins s Z H { D with nx:=u D } I h) λf s1 q=>?_)
 cases f with
 | next=>
   obtain ⟨Z',H',I',q⟩:=q;exact h2 pins s1 Z' H' D I' q
 | ret v=>exact q
 | brk=>exact q
 | cont=>exact q
theorem MH (h1:PS X st t):PSs X [st] t:=by
 intro pins s Z H D I h;refine wpAny_execs_cons (thn (h1 pins s Z H D I h) λf s1 q=>?_)
 cases f with
 | next=>exact wpAny_execs_nil q
 | ret v=>exact q
 | brk=>exact q
 | cont=>exact q
theorem Inv.quiet (I:Inv X pins Z H s):interactive X.env=false:=by simp [interactive,I.ok.kind]
def RL (te:TE):TS:=λD Z H=>te Z H λ_ H1=>D.nx Z H1
theorem MF (he:PE X e te)(hs:swapsWith e none pos.line X.env=pure false:=by rfl):PS X (.Expr e pos) (RL te):=by
 intro pins s Z H D I h;exact wpAny_Expr_any (thn (he pins s Z H _ I h) λv s1 z9=>by obtain ⟨x,H1,I1,r1,q1⟩:=z9;exact ⟨Z,H1,I1,q1⟩) I.quiet hs
def Yt (te:TE):TS:=λD Z H=>te Z H D.rt
theorem G6 (he:PE X e te):PS X (.Return (some e) pos) (Yt te):=by
 intro pins s Z H D I h;exact wpAny_Return_some (thn (he pins s Z H _ I h) λv s1 z9=>by obtain ⟨x,H1,I1,r1,q1⟩:=z9;exact ⟨x,Z,H1,I1,r1,q1⟩)
def Yp (c:TT)(t u:TS):TS:=λD Z H=>c Z H λb H1=>if b=true then t D Z H1 else u D Z H1
theorem WY {c:Expr}{a b:List Stmt}{tc:TT}(hc:PT X c tc)(ha:PSs X a t)(hb:PSs X b u):PS X (.If c a b pos) (Yp tc t u):=by
 intro pins s Z H D I h;refine wpAny_If (thn (hc pins s Z H _ I h) λd s1 z9=>?_);obtain ⟨H1,I1,q1⟩:=z9
 cases d with
 | true=>exact ha pins s1 Z H1 D I1 q1
 | false=>exact hb pins s1 Z H1 D I1 q1
end
abbrev TG:=V->St->Hp->(St->Hp->Prop)->Prop
abbrev TGs:=List V->St->Hp->(St->Hp->Prop)->Prop
def PG (X:Cx)(target:Expr)(t:TG):Prop:=
 ∀(pins:List (Addr×Obj)) (s:Shared) (Z:St) (H:Hp) (v:V) (u:Value) (Q:St->Hp->Prop),Inv X pins Z H s->RelV v u->t v Z H Q->
  wpAny (model X.prog X.w) X.A (assign target X.env u) (λ_ s'=>∃Z' H',Inv X pins Z' H' s'/\Q Z' H') X.xe s
def PGs (X:Cx)(ts:List Expr)(t:TGs):Prop:=
 ∀(pins:List (Addr×Obj)) (s:Shared) (Z:St) (H:Hp) (vs:List V) (us:List Value) (Q:St->Hp->Prop),Inv X pins Z H s->Vals vs us->t vs Z H Q->
  wpAny (model X.prog X.w) X.A (assignInOrder ((assignEach ts X.env).map (·.2)) us) (λ_ s'=>∃Z' H',Inv X pins Z' H' s'/\Q Z' H') X.xe s
abbrev PF:=V->V->V->Hp->(Hp->Prop)->Prop
def Uw (X:Cx)(t:PF):Prop:=
 ∀(pins:List (Addr×Obj)) (s:Shared) (Z:St) (H:Hp) (o i v:V) (ov iv u:Value) (Q:Hp->Prop),Inv X pins Z H s->RelV o ov->RelV i iv->RelV v u->t o i v H Q->
  wpAny (model X.prog X.w) X.A (setItem ov iv u) (λ_ s'=>∃H',Inv X pins Z H' s'/\Q H') X.xe s
variable {k:Nat}{tg:Expr}
section
variable {X:Cx}{pos:Pos}
def II (i:Nat):TG:=λv Z H Q=>Q (Z.set i (some v)) H
theorem Td (hN:X.N.Nodup)(hi:X.N[i]?=some x)(hx:Loc X.env.scope x)(hf:X.fn x=true\/X.env.scope.names.lookup x=some .local:=by first | exact .inl rfl | exact .inr rfl | assumption):PG X (.Name x pos) (II i):=by
 intro pins s Z H v u Q I r h;exact wpAny_assign_Name (L1 I hN hi hx r (λs' I'=>⟨_,H,I',h⟩) hf)
def Yf:TGs:=λvs Z H Q=>vs=[]/\Q Z H
def Ru (t:TG)(u:TGs):TGs:=λvs Z H Q=>∃v r,vs=v :: r/\t v Z H λZ' H'=>u r Z' H' Q
theorem Te:PGs X [] Yf:=by
 intro pins s Z H vs us Q I r h;obtain ⟨e,h⟩:=h;subst e
 cases r
 exact assignInOrder_nil ⟨Z,H,I,h⟩
theorem QB {es:List Expr}{t:TG}{u:TGs}(h1:PG X e t)(h2:PGs X es u)
 (hs:(assignEach (e :: es) X.env).map (·.2)=assign e X.env :: (assignEach es X.env).map (·.2):=by rfl):PGs X (e :: es) (Ru t u):=by
 intro pins s Z H vs us Q I r h;obtain ⟨v,vr,e1,h⟩:=h;subst e1
 cases r with
 | cons r rr=>
   rw [hs];refine assignInOrder_cons (thn (h1 pins s Z H _ _ _ I r h) λ_ s1 z9=>?_);obtain ⟨Z1,H1,I1,q1⟩:=z9;exact h2 pins s1 Z1 H1 _ _ Q I1 rr q1
def Yh (K:PySem.W.Frag)(n:Nat)(t:TGs):TG:=λv Z H Q=>∃a xs,v = .ref a/\SqT K H a xs/\xs.length=n/\t xs Z H Q
theorem Vz {es:List Expr}{t:TGs}{n:Nat}(hc:X.calm=true)(h:PGs X es t)
 (hn:(assignEach es X.env).length=n:=by rfl) (hst:(assignEach es X.env).findIdx? (·.1)=none:=by rfl):PG X (.Tuple es k pos) (Yh X.K n t):=by
 intro pins s Z H v u Q I r hw;obtain ⟨a,xs,e1,hq,hl,hw⟩:=hw;subst e1
 cases r
 obtain ⟨its,rv,ht,hz⟩:=I.tuple hq;refine assign_Tuple_tuple (I.ok.hd hc) ht (by simp [hn,<-hl,rv.length]) hst λh' hx=>?_;have I1:Inv X pins Z H { s with heap:=h' }:=I.kept (t':=s.toks) λb o e=>hx b o (um4 (um3 e)) e;exact h pins _ Z H xs _ Q I1 (by simpa using rv) hw
def Yg (to ti:TE)(t:PF):TG:=λv Z H Q=>to Z H λo H1=>ti Z H1 λi H2=>t o i v H2 λH3=>Q Z H3
theorem O5 {o i:Expr}{to ti:TE}{t:PF}(ho:PE X o to)(hi:PE X i ti)(hs:Uw X t)
 (ha:∀v,assign (.Subscript o i pos) X.env v=(do
   let ov <-holding [v] (eval o X.env)
   let iv <-holding [v,ov] (eval i X.env)
   standAt pos
   holding [v,ov,iv] (setItem ov iv v)
   release [v,ov,iv] []):=by intro _;rfl):PG X (.Subscript o i pos) (Yg to ti t):=by
 intro pins s Z H v u Q I r h;rw [ha];refine uo7 (um2 (thn (ho pins s Z H _ I h) λov s1 z9=>?_));obtain ⟨x,H1,I1,r1,q1⟩:=z9;refine uo7 (um2 (thn (hi pins s1 Z H1 _ I1 q1) λiv s2 z9=>?_));obtain ⟨y,H2,I2,r2,q2⟩:=z9;refine uo7 (wpAny_standAt (uo7 (um2 (thn (hs pins s2 Z H2 x y v ov iv u _ I2 r1 r2 r q2) λ_ s3 z9=>?_))));obtain ⟨H3,I3,q3⟩:=z9;exact wpAny_release ⟨Z,H3,I3,q3⟩
def L4 (te:TE)(g:TG):TS:=λD Z H=>te Z H λx H1=>g x Z H1 D.nx
theorem Pe {te:TE}{g:TG}(he:PE X e te)(hg:PG X tg g)(hs:swapsWithSole [tg] e pos.line X.env=pure false:=by rfl)(hw:swappedStores [tg] e X.env=pure none:=by rfl)
 (h1:(assignEach [tg] X.env).map (·.2)=[assign tg X.env]:=by rfl):PS X (.Assign [tg] e pos) (L4 te g):=by
 intro pins s Z H D I h;refine wpAny_Assign_stores (thn (he pins s Z H _ I h) λv s1 z9=>?_) hs hw;obtain ⟨x,H1,I1,r1,q1⟩:=z9;rw [h1];exact thn (hg pins s1 Z H1 x v _ I1 r1 q1) λ_ s2 q=>q
theorem LG {te:TE}{pos':Pos}(hN:X.N.Nodup)(hi:X.N[i]?=some x)(hx:Loc X.env.scope x)(he:PE X e te)(hs:swapsWith e (some (.Name x pos')) pos.line X.env=pure false:=by rfl)(hf:X.fn x=true\/X.env.scope.names.lookup x=some .local:=by first | exact .inl rfl | exact .inr rfl | assumption) :
 PS X (.Assign [.Name x pos'] e pos) (L4 te (II i)):=by
 intro pins s Z H D I h;refine wpAny_Assign_Name (thn (he pins s Z H _ I h) λv s1 z9=>?_) hs;obtain ⟨y,H1,I1,r1,q1⟩:=z9;exact L1 I1 hN hi hx r1 (λs2 I2=>⟨_,H1,I2,q1⟩) hf
end
section
variable {X:Cx}{pos:Pos}
def Po (c:TT)(tb:TS):TS:=λD Z H=>∃W:Nat->St->Hp->Prop,(∃m,W m Z H)/\∀m Z H,W m Z H->
 c Z H λb H1=>if b=true then ∃N:St->Hp->Prop,(∀Z' H',N Z' H'->∃m',m' < m/\W m' Z' H')/\tb { D with nx:=N,ct:=N,bk:=D.nx } Z H1 else D.nx Z H1
theorem QG {c:Expr}{body:List Stmt}{tc:TT}{tb:TS}(hp:PassesOwn (model X.prog X.w) X.A X.env X.xe)(hc:PT X c tc)(hb:PSs X body tb):PS X (.While c body [] pos) (Po tc tb):=by
 intro pins s Z H D I h;obtain ⟨W,⟨m0,w0⟩,turn⟩:=h;refine wpAny_While (codeAny_whileLoop (λn s'=>∃Z' H',Inv X pins Z' H' s'/\W n Z' H') ?_ m0 ⟨Z,H,I,w0⟩);rintro n s1 ⟨Z1,H1,I1,w1⟩;refine wpAny_passesOwn hp (thn (hc pins s1 Z1 H1 _ I1 (turn n Z1 H1 w1)) λb s2 z9=>?_);obtain ⟨H2,I2,q2⟩:=z9
 cases b with
 | true=>
   obtain ⟨N,hN,q2⟩:=q2;rw [if_pos rfl];refine wpAny_passesOwn hp (thn (hb pins s2 Z1 H2 _ I2 q2) λf s3 q3=>?_)
   cases f with
   | next=>
     obtain ⟨Z3,H3,I3,n3⟩:=q3;obtain ⟨m',hm,w3⟩:=hN Z3 H3 n3;exact ⟨m',hm,Z3,H3,I3,w3⟩
   | cont=>
     obtain ⟨Z3,H3,I3,n3⟩:=q3;obtain ⟨m',hm,w3⟩:=hN Z3 H3 n3;exact ⟨m',hm,Z3,H3,I3,w3⟩
   | brk=>exact q3
   | ret v=>exact q3
 | false=>
   rw [if_neg uf2];exact wpAny_execs_nil ⟨Z1,H2,I2,q2⟩
end
structure It where
 go:Nat->Hp->Prop
 yld:Nat->Hp->V->Hp->Prop
 stop:Nat->Hp->Prop
def FpOk (X:Cx)(pins:List (Addr×Obj))(H:Hp)(b:Addr):Prop:=
 H b=none/\b≠X.env.locals/\b∉X.fs/\(b∈X.ex\/X.s₀.heap.objs.size<=b)/\(∀x c,X.env.cells.lookup x=some c->c≠b)/\∀p∈X.pn++pins,p.1≠b
theorem Inv.fpOk {H':Hp}(I:Inv X pins Z H s)(hb:s.heap.objs.size<=b)(hn:H' b=none):FpOk X pins H' b:=by
 refine ⟨hn,um7 (uf0 I.lt hb),I.nofs hb,.inr (um5 I.sz hb),λx c e z=>?_,λp hp z=>?_⟩
 ·obtain ⟨v,q⟩:=I.cell x c e;exact absurd (uf0 q.lt (by rw [z];exact hb)) (ul4 _)
 ·exact absurd (uf0 (um3 (I.pin p hp).1) (by rw [z];exact hb)) (ul4 _)
structure Turn (P:Program)(w:World)(K:PySem.W.Frag)(tg:Expr)(J:It)(fp:List Addr)(it:Addr)(tn:Nat->Heap->Prop):Prop where
 mem:it∈fp
 obj:∀i h,tn i h->∀b∈fp,∃o,h.get? b=some o/\∀v,o.data≠.cell v
 keep:∀i h h',tn i h->(∀b∈fp,∀o,h.get? b=some o->h'.get? b=some o)->tn i h'
 item:∀(X:Cx),X.prog=P->X.w=w->X.K=K->X.calm=true->∀(i:Nat) (pins:List (Addr×Obj)) (s:Shared) (Z:St) (H:Hp) (E:Value->Shared->Prop),Inv X pins Z H s->(∀b∈fp,FpOk X pins H b)->tn i s.heap->J.go i H->
  wpAny (model P w) X.A (pyNext (.ref it)) (λr s1=>∃u,r=some u/\
   wpAny (model P w) X.A (letOwnedTupleGo tg (.ref it) u) (λ_ s2=>∃x H',Inv X pins Z H' s2/\RelV x u/\J.yld i H x H'/\tn (i + 1) s2.heap/\∀b∈fp,H' b=none) E s1) E s
 done:∀(X:Cx),X.prog=P->X.w=w->X.K=K->X.calm=true->∀(i:Nat) (pins:List (Addr×Obj)) (s:Shared) (Z:St) (H:Hp) (E:Value->Shared->Prop),Inv X pins Z H s->(∀b∈fp,FpOk X pins H b)->tn i s.heap->J.stop i H->
  wpAny (model P w) X.A (pyNext (.ref it)) (λr s1=>r=none/\Inv X pins Z H s1) E s
 self:∀(A:Around) (i:Nat) (s:Shared) (Q:Value->Shared->Prop) (E:Value->Shared->Prop),tn i s.heap->Q (.ref it) s->wpAny (model P w) A (pyIter (.ref it)) Q E s
abbrev TI:=St->Hp->(It->Hp->Prop)->Prop
def PIE (X:Cx)(pins:List (Addr×Obj))(Z:St)(tg:Expr)(R:It->Hp->Prop)(itv:Value)(s2:Shared):Prop:=
 ∃(it:Addr) (fp:List Addr) (tn:Nat->Heap->Prop) (J:It) (H':Hp),itv = .ref it/\Inv X pins Z H' s2/\Turn X.prog X.w X.K tg J fp it tn/\tn 0 s2.heap/\(∀b∈fp,FpOk X pins H' b)/\R J H'
def PI (X:Cx)(tg iter:Expr)(wi:TI):Prop:=
 ∀(pins:List (Addr×Obj)) (s:Shared) (Z:St) (H:Hp) (R:It->Hp->Prop),Inv X pins Z H s->wi Z H R->
  wpAny (model X.prog X.w) X.A (eval iter X.env) (λv s1=>wpAny (model X.prog X.w) X.A (pyIter v) (PIE X pins Z tg R) X.xe s1) X.xe s
theorem Kp {M:Model}{A:Around}{it:Addr}{o:Obj}{n:String}{vs:Array Value}(ho:s.heap.get? it=some o)(hc:o.cls = .type n)(hd:o.data = .fields vs)
 (hn:["enumerate", "zip", "dict_itemiterator", "dict_reverseitemiterator", "odict_iterator", "itertools.zip_longest", "itertools.pairwise"].contains n=false) (hQ:Q () s):wpAny M A (letOwnedTupleGo tg (.ref it) u) Q E s:=by
 unfold letOwnedTupleGo
 cases tg <;> first
  | exact uo8 hQ
  | (cases u <;> first
      | exact uo8 hQ
      | (refine uo7 (wpAny_load ho ?_)
         rw [hc,hd];show wpAny M A (if (["enumerate", "zip", "dict_itemiterator", "dict_reverseitemiterator", "odict_iterator", "itertools.zip_longest", "itertools.pairwise"].contains n && vs[0]? == some (rawInt _))=true then _ else _) Q E s;rw [if_neg (by intro h;rw [hn,uk9] at h;cases h)]
         exact uo8 hQ))
def Itl (K:PySem.W.Frag)(a:Addr):It:=
 ⟨λi H=>∃xs x,SqL K H a xs/\xs[i]?=some x,λi H x H'=>H'=H/\∀xs,SqL K H a xs->xs[i]?=some x,λi H=>∃xs,SqL K H a xs/\xs.length<=i⟩
def Itt (K:PySem.W.Frag)(a:Addr):It:=
 ⟨λi H=>∃xs x,SqT K H a xs/\xs[i]?=some x,λi H x H'=>H'=H/\∀xs,SqT K H a xs->xs[i]?=some x,λi H=>∃xs,SqT K H a xs/\xs.length<=i⟩
noncomputable def Itr (lo:Int)(n:Nat):It:=⟨λi _=>i < n,λi H x H'=>H'=H/\x = .int (lo + i),λi _=>n<=i⟩
theorem Pu (a it:Addr):Turn P w K tg (Itl K a) [it] it (λi h=>h.IsListIter it a i) where
 mem:=by simp
 obj:=λi h st b hb=>by
  have e:b=it:=by simpa using hb
  subst e;obtain ⟨o,e,c,d⟩:=st;exact ⟨o,e,λv z=>by rw [d] at z;cases z⟩
 keep:=λi h h' st k=>st.at λo e=>k it (by simp) o e
 item:=by
  intro X hP hw hK hc i pins s Z H E I hf st hg;subst hP hw hK;obtain ⟨xs,x,hq,hx⟩:=hg;obtain ⟨its,rv,p,hz⟩:=I.list hq;obtain ⟨u,hu,ru⟩:=rv.get hx;obtain ⟨f0,f1,f2,f3,f4,f5⟩:=hf it (by simp);refine wpAny_pyNext_list_item st p.isList (x:=u) (by simpa using hu) λh' st' sb=>?_;have I1:Inv X pins Z H { s with heap:=h' }:=I.turned (t':=s.toks) (λb o hb e=>(sb.2 b hb).trans e) f0 f1 f3 f4 f5;obtain ⟨o,e,c,d⟩:=id st';exact ⟨u,rfl,Kp (s:={ s with heap:=h' }) e c d (by decide) ⟨x,H,I1,ru,⟨rfl,λys hy=>by rw [I.list_inj hy hq];exact hx⟩,st',λb hb=>(hf b hb).1⟩⟩
 done:=by
  intro X hP hw hK hc i pins s Z H E I hf st hg;subst hP hw hK;obtain ⟨xs,hq,hx⟩:=hg;obtain ⟨its,rv,p,hz⟩:=I.list hq;obtain ⟨f0,f1,f2,f3,f4,f5⟩:=hf it (by simp);have hl:=rv.length;exact wpAny_pyNext_list_end (I.ok.hd hc) st p.isList (by simp;lia) λh' eb=>⟨rfl,I.turned (t':=s.toks) (λb o hb e=>eb b o hb e) f0 f1 f3 f4 f5⟩
 self:=λ_ _ _ _ _ st h=>wpAny_pyIter_listiter st h
theorem NM (a it:Addr):Turn P w K tg (Itt K a) [it] it (λi h=>h.IsTupleIter it a i) where
 mem:=by simp
 obj:=λi h st b hb=>by
  have e:b=it:=by simpa using hb
  subst e;obtain ⟨o,e,c,d⟩:=st;exact ⟨o,e,λv z=>by rw [d] at z;cases z⟩
 keep:=λi h h' st k=>st.at λo e=>k it (by simp) o e
 item:=by
  intro X hP hw hK hc i pins s Z H E I hf st hg;subst hP hw hK;obtain ⟨xs,x,hq,hx⟩:=hg;obtain ⟨its,rv,p,hz⟩:=I.tuple hq;obtain ⟨u,hu,ru⟩:=rv.get hx;obtain ⟨f0,f1,f2,f3,f4,f5⟩:=hf it (by simp);refine wpAny_pyNext_tuple_item st (show s.heap.IsTuple a its.toArray from p) (x:=u) (by simpa using hu) λh' st' sb=>?_;have I1:Inv X pins Z H { s with heap:=h' }:=I.turned (t':=s.toks) (λb o hb e=>(sb.2 b hb).trans e) f0 f1 f3 f4 f5;obtain ⟨o,e,c,d⟩:=id st';exact ⟨u,rfl,Kp (s:={ s with heap:=h' }) e c d (by decide) ⟨x,H,I1,ru,⟨rfl,λys hy=>by rw [I.tuple_inj hy hq];exact hx⟩,st',λb hb=>(hf b hb).1⟩⟩
 done:=by
  intro X hP hw hK hc i pins s Z H E I hf st hg;subst hP hw hK;obtain ⟨xs,hq,hx⟩:=hg;obtain ⟨its,rv,p,hz⟩:=I.tuple hq;obtain ⟨f0,f1,f2,f3,f4,f5⟩:=hf it (by simp);have hl:=rv.length;exact wpAny_pyNext_tuple_end (I.ok.hd hc) st (show s.heap.IsTuple a its.toArray from p) (by simp;lia) λh' eb=>⟨rfl,I.turned (t':=s.toks) (λb o hb e=>eb b o hb e) f0 f1 f3 f4 f5⟩
 self:=λ_ _ _ _ _ st h=>wpAny_pyIter_tupleiter st h
theorem NL (it:Addr)(lo:Int)(n:Nat):Turn P w K tg (Itr lo n) [it] it (λi h=>IsRangeIter h it (lo + (i:Nat) * 1) ((n:Int) - (i:Nat)) 1) where
 mem:=by simp
 obj:=λi h st b hb=>by
  have e:b=it:=by simpa using hb
  subst e;exact ⟨_,st,λv z=>by
   have z':Data.fields _=Data.cell v:=z
   cases z'⟩
 keep:=λi h h' st k=>k it (by simp) _ st
 item:=by
  intro X hP hw hK hc i pins s Z H E I hf st hg;subst hP hw hK;obtain ⟨f0,f1,f2,f3,f4,f5⟩:=hf it (by simp);have W:=Walks.range (prog:=X.prog) (w:=X.w) (I.ok.hd hc) it lo 1 n;refine W.item i s _ _ hg st λv h' tk hv st' kk=>?_;obtain ⟨t,rfl⟩:=hv;have I1:Inv X pins Z H { s with heap:=h',toks:=tk }:=I.turned (λb o hb e=>kk b o (by simpa using hb) e) f0 f1 f3 f4 f5;refine ⟨_,rfl,Kp (s:={ s with heap:=h',toks:=tk }) (n:="range_iterator") st' rfl rfl (by decide) ⟨.int (lo + i),H,I1,⟨t,?_⟩,⟨rfl,rfl⟩,st',λb hb=>(hf b hb).1⟩⟩;rw [Int.mul_one]
 done:=by
  intro X hP hw hK hc i pins s Z H E I hf st hg;subst hP hw hK;obtain ⟨f0,f1,f2,f3,f4,f5⟩:=hf it (by simp);exact wpAny_pyNext_range_end (I.ok.hd hc) st (by have:n<=i:=hg;lia) λh' eb=>⟨rfl,I.turned (t':=s.toks) (λb o hb e=>eb b o hb e) f0 f1 f3 f4 f5⟩
 self:=λ_ _ _ _ _ st h=>wpAny_pyIter_rangeiter st h
variable {fp:List Addr}
section
variable {X:Cx}{tg:Expr}
theorem LL {R:It->Hp->Prop}{lo hi:Int}{t u v:Tok}{tk:Nat}(I:Inv X pins Z H s)(h1 : -(2 ^ 62)<=lo)(h2:lo < 2 ^ 62)(h3 : -(2 ^ 62)<=hi)(h4:hi < 2 ^ 62)
 (q:R (Itr lo (hi - lo).toNat) H):wpAny (model X.prog X.w) X.A (pyIter (.ref s.heap.objs.size)) (PIE X pins Z tg R) E { s with heap:=s.heap.push { cls:=.type "range",data:=.fields #[.int lo t,.int hi u,.int 1 v] },toks:=tk }:=by
 refine wpAny_pyIter_range (IsRange.new ..) (small_one h1 h2 h3 h4) ?_;have I1:Inv X pins Z H { s with heap:=s.heap.push { cls:=.type "range",data:=.fields #[.int lo t,.int hi u,.int 1 v] },toks:=tk }:=I.kept λb o e=>ub8 _ e;refine ⟨(s.heap.push { cls:=.type "range",data:=.fields #[.int lo t,.int hi u,.int 1 v] }).objs.size,[(s.heap.push { cls:=.type "range",data:=.fields #[.int lo t,.int hi u,.int 1 v] }).objs.size],_,_,H,rfl,
  I1.kept (t':=tk) λb o e=>ub8 _ e,NL _ lo (hi - lo).toNat,?_,λb hb=>?_,q⟩
 ·have e1:lo + ((0:Nat):Int) * 1=lo:=by simp
  have e2:(((hi - lo).toNat:Nat):Int) - ((0:Nat):Int)=Builtin.Range.rangeSize lo hi 1:=by rw [rangeSize_one];split <;> lia
  show IsRangeIter _ _ (lo + ((0:Nat):Int) * 1) ((((hi - lo).toNat:Nat):Int) - ((0:Nat):Int)) 1;rw [e1,e2];exact ue3 _ rfl
 ·have e:b=(s.heap.push { cls:=.type "range",data:=.fields #[.int lo t,.int hi u,.int 1 v] }).objs.size:=by simpa using hb
  subst e;exact I1.fpOk (uo3 _) (I1.hok.fresh (uo3 _))
def WQ (ta:TA):TI:=λZ H R=>ta Z H λvs H1=>∃j:Int,vs=[.int j]/\-(2 ^ 62)<=j/\j < 2 ^ 62/\R (Itr 0 j.toNat) H1
def WR (ta:TA):TI:=λZ H R=>ta Z H λvs H1=>∃i j:Int,vs=[.int i,.int j]/\(-(2 ^ 62)<=i/\i < 2 ^ 62/\-(2 ^ 62)<=j/\j < 2 ^ 62)/\R (Itr i (j - i).toNat) H1
theorem O6 {a:Expr}{ta:TA}{p pos:Pos}(hg:Gl X "range")(hm:X.mg "range" = none)(ha:PA X [a] ta)(hs:starEach [a] X.env=[(false,eval a X.env)]:=by rfl):PI X tg (.Call (.Name "range" p) [a] [] pos) (WQ ta):=by
 intro pins s Z H R I h;refine Call_ (FQ I hg hm boot_range (ua2 (thn (ha pos pins s Z H _ I h) λus s1 z9=>?_) hs rfl));obtain ⟨vs,H1,I1,r1,q1⟩:=z9;obtain ⟨j,e,q1,q2,q⟩:=q1;subst e
 cases r1 with
 | cons r rr=>
   cases rr
   obtain ⟨t,rfl⟩:=r;exact call_range_1 (LL I1 (by lia) (by lia) q1 q2 (by simpa using q))
theorem O7 {a b:Expr}{ta:TA}{p pos:Pos}(hg:Gl X "range")(hm:X.mg "range" = none)(ha:PA X [a,b] ta)(hs:starEach [a,b] X.env=[(false,eval a X.env),(false,eval b X.env)]:=by rfl)(hs2:starEach [b] X.env=[(false,eval b X.env)]:=by rfl) :
 PI X tg (.Call (.Name "range" p) [a,b] [] pos) (WR ta):=by
 intro pins s Z H R I h;refine Call_ (FQ I hg hm boot_range (ua2 (thn (ha pos pins s Z H _ I h) λus s1 z9=>?_) (by rw [hs,hs2]) (by rw [hs2];rfl)));obtain ⟨vs,H1,I1,r1,q1⟩:=z9;obtain ⟨i,j,e,⟨q1,q2,q3,q4⟩,q⟩:=q1;subst e
 cases r1 with
 | cons r rr=>
   cases rr with
   | cons r' rr=>
     cases rr
     obtain ⟨t,rfl⟩:=r;obtain ⟨t',rfl⟩:=r';exact call_range_2 (LL I1 q1 q2 q3 q4 q)
def Wc (wi:TI)(g:TG)(tb:TS):TS:=λD Z H=>wi Z H λJ H1=>∃W:Nat->Nat->St->Hp->Prop,(∃m,W 0 m Z H1)/\∀i m Z H,W i m Z H->
 (J.stop i H/\D.nx Z H)\/(J.go i H/\∃N:St->Hp->Prop,(∀Z' H',N Z' H'->∃m',m' < m/\W (i + 1) m' Z' H')/\∀x H',J.yld i H x H'->g x Z H' λZ2 H2=>tb { D with nx:=N,ct:=N,bk:=D.nx } Z2 H2)
noncomputable def G5 (fp:List Addr)(h:Heap):List (Addr×Obj):=fp.filterMap λb=>(h.get? b).map λo=>(b,o)
theorem Ew {o:Obj}(hb:b∈fp)(e:h.get? b=some o):(b,o)∈G5 fp h:=List.mem_filterMap.mpr ⟨b,hb,by rw [e];rfl⟩
theorem OX {p:Addr×Obj}(hp:p∈G5 fp h):p.1∈fp/\h.get? p.1=some p.2:=by
 obtain ⟨b,hb,e⟩:=List.mem_filterMap.mp hp
 cases q:h.get? b with
 | none=>rw [q] at e;cases e
 | some o=>
   rw [q] at e;have e':(b,o)=p:=uj2 e;subst e';exact ⟨hb,q⟩
theorem Inv.pinned (I:Inv X pins Z H s)(hf:∀b∈fp,FpOk X pins H b)(ho:∀b∈fp,∃o,s.heap.get? b=some o/\∀v,o.data≠.cell v):Inv X (pins++G5 fp s.heap) Z H s:=
 I.pins_of λp hp=>(uj1.mp hp).elim (λz=>I.pin p (uc9 _ z)) λz=>by
  obtain ⟨hb,e⟩:=OX z;obtain ⟨f0,f1,f2,_⟩:=hf p.1 hb;obtain ⟨o,e',d⟩:=ho p.1 hb;rw [e] at e';cases e'
  exact ⟨e,f0,f1,f2,d⟩
theorem Inv.unpinned {pl:List (Addr×Obj)}(I:Inv X (pins++pl) Z H s):Inv X pins Z H s:=I.pins_of λp hp=>I.pin p (uc9 _ (ud5 _ hp))
theorem VD {iter:Expr}{body:List Stmt}{wi:TI}{g:TG}{tb:TS}{pos:Pos}(hp:PassesOwn (model X.prog X.w) X.A X.env X.xe)(hc:X.calm=true)(hi:PI X tg iter wi)(hg:PG X tg g)(hb:PSs X body tb)
 (hs:∀x,foldedSetIterable iter X.env x=pure x:=by intro _;rfl):PS X (.For tg iter body [] pos) (Wc wi g tb):=by
 intro pins s Z H D I h;refine wpAny_For (thn (hi pins s Z H _ I h) λv s1 h1=>thn h1 λitv s2 h2=>?_) hs;obtain ⟨it,fp,tn,J,H2,e,I2,T,st2,f2,W,⟨m0,w0⟩,turn⟩:=h2;subst e
 -- what stays true of the iterator's objects through the loop
 have stat:∀{H':Hp},(∀b∈fp,H' b=none)->∀b∈fp,FpOk X pins H' b:=λhn b hb=>⟨hn b hb,(f2 b hb).2⟩;refine codeAny_forLoop_any (λn s'=>∃i Z' H',Inv X pins Z' H' s'/\tn i s'.heap/\(∀b∈fp,H' b=none)/\W i n Z' H') ?_ m0 ⟨0,Z,H2,I2,st2,λb hb=>(f2 b hb).1,w0⟩;rintro n s3 ⟨i,Z3,H3,I3,st3,fr3,w3⟩;rcases turn i n Z3 H3 w3 with ⟨stop,qn⟩ | ⟨go,N,hN,step⟩
 ·refine wpAny_passesOwn hp (thn (T.done X rfl rfl rfl hc i pins s3 Z3 H3 X.xe I3 (stat fr3) st3 stop) λr s4 z9=>?_);obtain ⟨hr,I4⟩:=z9;subst hr;exact wpAny_execs_nil ⟨Z3,H3,I4,qn⟩
 ·refine wpAny_passesOwn hp (thn (T.item X rfl rfl rfl hc i pins s3 Z3 H3 X.xe I3 (stat fr3) st3 go) λr s4 z9=>?_);obtain ⟨u,hr,h4⟩:=z9;subst hr;refine wpAny_passesOwn hp (thn h4 λ_ s5 z9=>?_);obtain ⟨x,H5,I5,r5,y5,st5,fr5⟩:=z9;have I5':=I5.pinned (stat fr5) (T.obj _ _ st5);refine wpAny_passesOwn hp (thn (hg _ s5 Z3 H5 x u _ I5' r5 (step x H5 y5)) λ_ s6 z9=>?_);obtain ⟨Z6,H6,I6,q6⟩:=z9;refine wpAny_passesOwn hp (thn (hb _ s6 Z6 H6 _ I6 q6) λf s7 q7=>?_);have again:∀{Z7:St} {H7:Hp},Inv X (pins++G5 fp s5.heap) Z7 H7 s7->N Z7 H7->∃m,m < n/\∃i Z' H',Inv X pins Z' H' s7/\tn i s7.heap/\(∀b∈fp,H' b=none)/\W i m Z' H':=λ{Z7 H7} I7 n7=>by
   obtain ⟨m',hm,w7⟩:=hN Z7 H7 n7;refine ⟨m',hm,i + 1,Z7,H7,I7.unpinned,T.keep _ _ _ st5 λb hb o e=>(I7.pin (b,o) (uc9 _ (uc9 _ (Ew hb e)))).1,λb hb=>?_,w7⟩;obtain ⟨o,e,d⟩:=T.obj _ _ st5 b hb;exact (I7.pin (b,o) (uc9 _ (uc9 _ (Ew hb e)))).2.1
  cases f with
  | next=>obtain ⟨Z7,H7,I7,n7⟩:=q7;exact again I7 n7
  | cont=>obtain ⟨Z7,H7,I7,n7⟩:=q7;exact again I7 n7
  | brk=>obtain ⟨Z7,H7,I7,q7⟩:=q7;exact ⟨Z7,H7,I7.unpinned,q7⟩
  | ret v=>obtain ⟨x7,Z7,H7,I7,r7,q7⟩:=q7;exact ⟨x7,Z7,H7,I7.unpinned,r7,q7⟩
end
abbrev R2:=V->V->Hp->VK->Prop
def OpR (X:Cx)(f:Value->Value->Sem Value)(r:R2):Prop:=
 ∀(pins:List (Addr×Obj)) (s:Shared) (Z:St) (H:Hp) (x y:V) (v u:Value) (Q:VK),Inv X pins Z H s->RelV x v->RelV y u->r x y H Q->
  wpAny (model X.prog X.w) X.A (f v u) (EP X pins Z Q) X.xe s
def UnR (X:Cx)(f:Value->Sem Value)(r:V->Hp->VK->Prop):Prop:=
 ∀(pins:List (Addr×Obj)) (s:Shared) (Z:St) (H:Hp) (x:V) (v:Value) (Q:VK),Inv X pins Z H s->RelV x v->r x H Q->
  wpAny (model X.prog X.w) X.A (f v) (EP X pins Z Q) X.xe s
def BI (X:Cx)(f:Value)(r:List V->Hp->VK->Prop):Prop:=
 ∀(pins:List (Addr×Obj)) (s:Shared) (Z:St) (H:Hp) (xs:List V) (us:List Value) (Q:VK),Inv X pins Z H s->Vals xs us->r xs H Q->
  wpAny (model X.prog X.w) X.A (call f us) (EP X pins Z Q) X.xe s
def tOp (r:R2)(ta tb:TE):TE:=λZ H Q=>ta Z H λx H1=>tb Z H1 λy H2=>r x y H2 Q
def tUn (r:V->Hp->VK->Prop)(ta:TE):TE:=λZ H Q=>ta Z H λx H1=>r x H1 Q
def rI (C:Int->Int->Prop)(g:Int->Int->V):R2:=λx y H Q=>∃i j,x = .int i/\y = .int j/\C i j/\Q (g i j) H
def rI0 (g:Int->Int->V):R2:=λx y H Q=>∃i j,x = .int i/\y = .int j/\Q (g i j) H
def rU (g:Int->V):V->Hp->VK->Prop:=λx H Q=>∃i,x = .int i/\Q (g i) H
variable {r:R2}{f:Value->Value->Sem Value}
section
variable {X:Cx}{a b c:Expr}{ta tb tc:TE}{pos:Pos}
theorem PL (ha:PE X a ta)(hb:PE X b tb){pins:List (Addr×Obj)}{s:Shared}{Z:St}{H:Hp}{R:V->V->Hp->Prop}(I:Inv X pins Z H s)
 (h:ta Z H λx H1=>tb Z H1 λy H2=>R x y H2) {Q:Value->Shared->Prop} {f:Value->Value->Sem Value}
 (hf:∀v u s2 x y H2,Inv X pins Z H2 s2->RelV x v->RelV y u->R x y H2->wpAny (model X.prog X.w) X.A (f v u) Q X.xe s2) :
 wpAny (model X.prog X.w) X.A (eval a X.env) (λv s₁=>wpAny (model X.prog X.w) X.A (eval b X.env) (λu s₂=>wpAny (model X.prog X.w) X.A (f v u) Q X.xe s₂) X.xe s₁) X.xe s:=by
 refine thn (ha pins s Z H _ I h) λv s1 z9=>?_;obtain ⟨x,H1,I1,r1,q1⟩:=z9;refine thn (hb pins s1 Z H1 _ I1 q1) λu s2 z9=>?_;obtain ⟨y,H2,I2,r2,q2⟩:=z9;exact hf v u s2 x y H2 I2 r1 r2 q2
theorem Nz {op:Operator}(ho:OpR X (binaryOp op) r)(ha:PE X a ta)(hb:PE X b tb):PE X (.BinOp a op b pos) (tOp r ta tb):=by
 intro pins s Z H Q I h;exact wpAny_BinOp (PL ha hb I h λv u s2 x y H2 I2 rx ry q=>ho pins s2 Z H2 x y v u Q I2 rx ry q)
theorem WW {op:UnaryOp}{r:V->Hp->VK->Prop}(ho:UnR X (unaryOp op) r)(ha:PE X a ta):PE X (.UnaryOp op a pos) (tUn r ta):=by
 intro pins s Z H Q I h;exact UnaryOp_ (thn (ha pins s Z H _ I h) λv s1 z9=>by obtain ⟨x,H1,I1,r1,q1⟩:=z9;exact ho pins s1 Z H1 x v Q I1 r1 q1)
theorem opI {C:Int->Int->Prop}{g:Int->Int->Int}
 (rule:∀(i j:Int) (t u:Tok) (s:Shared) (Q:Value->Shared->Prop) (E:Value->Shared->Prop),C i j->Q (.int (g i j) s.toks) { s with toks:=s.toks + 1 }->wpAny (model X.prog X.w) X.A (f (.int i t) (.int j u)) Q E s) :
 OpR X f (rI C λi j=>.int (g i j)):=by
 intro pins s Z H x y v u Q I rx ry h;obtain ⟨i,j,rfl,rfl,hc,q⟩:=h;obtain ⟨t,rfl⟩:=rx;obtain ⟨t',rfl⟩:=ry;exact rule i j t t' s _ _ hc ⟨.int (g i j),H,I.tok _,⟨_,rfl⟩,q⟩
theorem Vj {g:Int->Int->Int}
 (rule:∀(i j:Int) (t u:Tok) (s:Shared) (Q:Value->Shared->Prop) (E:Value->Shared->Prop),Q (.int (g i j) s.toks) { s with toks:=s.toks + 1 }->wpAny (model X.prog X.w) X.A (f (.int i t) (.int j u)) Q E s) :
 OpR X f (rI0 λi j=>.int (g i j)):=by
 intro pins s Z H x y v u Q I rx ry h;obtain ⟨i,j,rfl,rfl,q⟩:=h;obtain ⟨t,rfl⟩:=rx;obtain ⟨t',rfl⟩:=ry;exact rule i j t t' s _ _ ⟨.int (g i j),H,I.tok _,⟨_,rfl⟩,q⟩
theorem Nt {g:Int->Int->Bool}
 (rule:∀(i j:Int) (t u:Tok) (s:Shared) (Q:Value->Shared->Prop) (E:Value->Shared->Prop),Q (.bool (g i j)) s->wpAny (model X.prog X.w) X.A (f (.int i t) (.int j u)) Q E s) :
 OpR X f (rI0 λi j=>.bl (g i j)):=by
 intro pins s Z H x y v u Q I rx ry h;obtain ⟨i,j,rfl,rfl,q⟩:=h;obtain ⟨t,rfl⟩:=rx;obtain ⟨t',rfl⟩:=ry;exact rule i j t t' s _ _ ⟨.bl (g i j),H,I,rfl,q⟩
def Ur (i j:Int):Prop:=0 < j/\j < 1073741824
def Us (i j:Int):Prop:=0<=j/\j<=1000000/\i.natAbs < 2 ^ 64
def CMul (i j:Int):Prop:=(-(2 ^ 64) < i/\i < 2 ^ 64)\/(-(2 ^ 64) < j/\j < 2 ^ 64)
theorem CMul.ok {i j:Int}(h:CMul i j):IntMulOk i j:=by
 rcases h with ⟨h1,h2⟩ | ⟨h1,h2⟩
 ·exact .of_left (intBits_le_64 h1 h2)
 ·exact .of_right (intBits_le_64 h1 h2)
theorem two_pow_nn (k:Nat):(0:Int)<=2 ^ k:=by
 rw [two_pow_cast];exact uf3 _
theorem op_add:OpR X (binaryOp .Add) (rI0 λi j=>.int (i + j)):=Vj λ_ _ _ _ _ _ _ q=>add_int q
theorem Vr:OpR X (binaryOp .Sub) (rI0 λi j=>.int (i - j)):=Vj λ_ _ _ _ _ _ _ q=>sub_int q
theorem op_mul:OpR X (binaryOp .Mult) (rI CMul λi j=>.int (i * j)):=opI λ_ _ _ _ _ _ _ hc q=>mul_int q hc.ok
theorem SS:OpR X (binaryOp .FloorDiv) (rI Ur λi j=>.int (i / j)):=opI λi j _ _ _ _ _ hc q=>by
 have h1:(0:Int) < j:=hc.1;have h2:j < 1073741824:=hc.2;exact floordiv_int (by lia) (by rw [ua4 i (by lia)];exact q) (.inl (PyProof.noPylong_small (by lia)))
theorem Vn:OpR X (binaryOp .Mod) (rI (λ_ j=>0 < j) λi j=>.int (i % j)):=opI λi j _ _ _ _ _ hc q=>by
 have h1:(0:Int) < j:=hc;exact mod_int' (by lia) (by rw [Int.fmod_eq_emod_of_nonneg i (by lia)];exact q)
theorem Vo:OpR X (binaryOp .Pow) (rI Us λi j=>.int (i ^ j.toNat)):=opI λ_ _ _ _ _ _ _ hc q=>pow_int_small hc.1 hc.2.1 hc.2.2 q
theorem Vq:OpR X (binaryOp .RShift) (rI (λ_ j=>0<=j) λi j=>.int (i / 2 ^ j.toNat)):=opI λi j _ _ _ _ _ hc q=>
 rshift_int hc (by rw [ua4 i (two_pow_nn _)];exact q)
theorem unI {f:Value->Sem Value}{g:Int->Int}
 (rule:∀(i:Int) (t:Tok) (s:Shared) (Q:Value->Shared->Prop) (E:Value->Shared->Prop),Q (.int (g i) s.toks) { s with toks:=s.toks + 1 }->wpAny (model X.prog X.w) X.A (f (.int i t)) Q E s) :
 UnR X f (rU λi=>.int (g i)):=by
 intro pins s Z H x v Q I rx h;obtain ⟨i,rfl,q⟩:=h;obtain ⟨t,rfl⟩:=rx;exact rule i t s _ _ ⟨.int (g i),H,I.tok _,⟨_,rfl⟩,q⟩
theorem Wi:UnR X (unaryOp .USub) (rU λi=>.int (-i)):=unI λ_ _ _ _ _ q=>neg_int q
end
variable {op:CmpOp}{us:List Value}
section
variable {X:Cx}{a b c:Expr}{ta tb tc:TE}{pos:Pos}
theorem op_lt:OpR X (compareOp .Lt) (rI0 λi j=>.bl (decide (i < j))):=Nt λ_ _ _ _ _ _ _ q=>lt_int q
theorem op_le:OpR X (compareOp .LtE) (rI0 λi j=>.bl (decide (i<=j))):=Nt λ_ _ _ _ _ _ _ q=>le_int q
theorem op_gt:OpR X (compareOp .Gt) (rI0 λi j=>.bl (decide (j < i))):=Nt λ_ _ _ _ _ _ _ q=>gt_int q
theorem op_ge:OpR X (compareOp .GtE) (rI0 λi j=>.bl (decide (j<=i))):=Nt λ_ _ _ _ _ _ _ q=>ge_int q
theorem OpR.or {r':R2}(h:OpR X f r)(h':OpR X f r'):OpR X f (λx y H Q=>r x y H Q\/r' x y H Q):=by
 intro pins s Z H x y v u Q I rx ry q;rcases q with q | q
 ·exact h pins s Z H x y v u Q I rx ry q
 ·exact h' pins s Z H x y v u Q I rx ry q
theorem Dt (b:Expr){op:CmpOp}(h:op≠.In:=by decide)(h2:op≠.NotIn:=by decide):behindInMarks op b=false:=by
 have e1:(op == CmpOp.In)=false:=by cases op <;> first | rfl | exact absurd rfl h
 have e2:(op == CmpOp.NotIn)=false:=by cases op <;> first | rfl | exact absurd rfl h2
 cases b <;> simp [behindInMarks,e1,e2]
theorem Ta (ho:OpR X (compareOp op) r)(ha:PE X a ta)(hb:PE X b tb)(hm:behindInMarks op b=false):PE X (.Compare a [op] [b] pos) (tOp r ta tb):=by
 intro pins s Z H Q I h;exact wpAny_Compare1 (PL ha hb I h λv u s2 x y H2 I2 rx ry q=>ho pins s2 Z H2 x y v u Q I2 rx ry q) hm
def Xe (t:TE):TT:=λZ H Q=>t Z H λx H'=>∃k,x = .bl k/\Q k H'
theorem Tn (ho:OpR X (compareOp op) r)(ha:PE X a ta)(hb:PE X b tb)(hm:behindInMarks op b=false):PT X (.Compare a [op] [b] pos) (Xe (tOp r ta tb)):=by
 intro pins s Z H Q I h;refine wpAny_isTrue_Compare1 (thn (ha pins s Z H _ I h) λv s1 ⟨x,H1,I1,r1,q1⟩=>thn (hb pins s1 Z H1 _ I1 q1) λu s2 ⟨y,H2,I2,r2,q2⟩=>
  thn (ho pins s2 Z H2 x y v u _ I2 r1 r2 q2) λc s3 ⟨z,H3,I3,r3,k,e,q3⟩=>?_) hm
 subst e
 cases r3
 exact wpAny_truthy_bool ⟨H3,I3,q3⟩
def Pn (r r':R2)(ta tb tc:TE):TE:=λZ H Q=>ta Z H λx H1=>tb Z H1 λy H2=>r x y H2 λz H3=>∃k,z = .bl k/\
 (if k=true then tc Z H3 λw' H4=>r' y w' H4 Q else Q (.bl false) H3)
theorem Qz {op':CmpOp}{r':R2}(ho:OpR X (compareOp op) r)(ho':OpR X (compareOp op') r')(ha:PE X a ta)(hb:PE X b tb)(hc:PE X c tc)
 (hm:lastMarks [op,op'] [b,c]=false:=by with_unfolding_all rfl):PE X (.Compare a [op,op'] [b,c] pos) (Pn r r' ta tb tc):=by
 intro pins s Z H Q I h;refine Compare_chain (thn (ha pins s Z H _ I h) λv s1 ⟨x,H1,I1,r1,q1⟩=>chain_link (thn (hb pins s1 Z H1 _ I1 q1) λu s2 ⟨y,H2,I2,r2,q2⟩=>
  thn (ho pins s2 Z H2 x y v u _ I2 r1 r2 q2) λd s3 ⟨z,H3,I3,r3,k,e,q3⟩=>?_)) hm
 subst e
 cases r3
 refine wpAny_truthy_bool ?_
 cases k with
 | false=>exact ite_ff ⟨.bl false,H3,I3,rfl,q3⟩
 | true=>exact ite_tt (chain_last (thn (hc pins s3 Z H3 _ I3 q3) λw' s4 z9=>by obtain ⟨z',H4,I4,r4,q4⟩:=z9;exact ho' pins s4 Z H4 y z' u w' Q I4 r2 r4 q4))
theorem FR:(sizeLine:Nat) < 2 ^ 63:=by rw [sizeLine_eq];decide
theorem op_add_str:OpR X (binaryOp .Add) (λx y H Q=>∃i j,x = .str i/\y = .str j/\i.length + j.length<=sizeLine/\Q (.str (i++j)) H):=by
 intro pins s Z H x y v u Q I rx ry h;obtain ⟨i,j,rfl,rfl,hz,q⟩:=h;obtain ⟨t,rfl⟩:=rx;obtain ⟨t',rfl⟩:=ry;exact add_str (λt' tk=>⟨.str (i++j),H,I.tok _,⟨_,rfl⟩,q⟩) hz
theorem Dm {x:V}(r:Vals [x] us):∃u,us=[u]/\RelV x u:=by
 cases r with
 | cons r1 r2=>cases r2;exact ⟨_,rfl,r1⟩
theorem NN {x y:V}(r:Vals [x,y] us):∃u w',us=[u,w']/\RelV x u/\RelV y w':=by
 cases r with
 | cons r1 r2=>
   cases r2 with
   | cons r3 r4=>cases r4;exact ⟨_,_,rfl,r1,r3⟩
theorem Oe (hc:X.calm=true):BI X (.builtin "max") (λxs H Q=>∃i j,xs=[.int i,.int j]/\Q (.int (if j > i then j else i)) H):=by
 intro pins s Z H xs us Q I r h;obtain ⟨i,j,rfl,q⟩:=h;obtain ⟨u,w',rfl,⟨t,rfl⟩,⟨t',rfl⟩⟩:=NN r;refine max_two_ints (I.ok.hd hc) λh' tk k=>⟨_,H,I.kept k,?_,q⟩
 by_cases hj:j > i
 ·rw [if_pos hj,if_pos hj];exact ⟨_,rfl⟩
 ·rw [if_neg hj,if_neg hj];exact ⟨_,rfl⟩
theorem Og (hc:X.calm=true):BI X (.builtin "min") (λxs H Q=>∃i j,xs=[.int i,.int j]/\Q (.int (if j < i then j else i)) H):=by
 intro pins s Z H xs us Q I r h;obtain ⟨i,j,rfl,q⟩:=h;obtain ⟨u,w',rfl,⟨t,rfl⟩,⟨t',rfl⟩⟩:=NN r;refine min_two_ints (I.ok.hd hc) λh' tk k=>⟨_,H,I.kept k,?_,q⟩
 by_cases hj:j < i
 ·rw [if_pos hj,if_pos hj];exact ⟨_,rfl⟩
 ·rw [if_neg hj,if_neg hj];exact ⟨_,rfl⟩
theorem Od:BI X (.type "int") (λxs H Q=>(∃i,xs=[.int i]/\Q (.int i) H)\/∃k,xs=[.bl k]/\Q (.int (if k then 1 else 0)) H):=by
 intro pins s Z H xs us Q I r h;rcases h with ⟨i,rfl,q⟩ | ⟨k,rfl,q⟩
 ·obtain ⟨u,rfl,t,rfl⟩:=Dm r;exact call_int_int ⟨.int i,H,I,⟨_,rfl⟩,q⟩
 ·obtain ⟨u,rfl,r1⟩:=Dm r
  cases r1
  exact call_int_bool ⟨.int (if k then 1 else 0),H,I.tok _,⟨_,rfl⟩,q⟩
theorem PU:BI X (.builtin "ord") (λxs H Q=>∃x,xs=[.str x]/\x.length=1/\Q (.int (x.cps.getD 0 0:Nat)) H):=by
 intro pins s Z H xs us Q I r h;obtain ⟨x,rfl,hz,q⟩:=h;obtain ⟨u,rfl,t,rfl⟩:=Dm r;exact ord_of_one hz ⟨.int _,H,I.tok _,⟨_,rfl⟩,q⟩
def Uv (K:PySem.W.Frag)(x:V)(H:Hp)(n:Nat):Prop:=
 match x with
 | .str y=>y.length<=sizeLine/\n=y.length
 | .byt y=>y.size<=sizeLine/\n=y.size
 | .ref p=>(∃xs,SqL K H p xs/\n=xs.length)\/∃xs,SqT K H p xs/\n=xs.length
 | _=>False
theorem PR:BI X (.builtin "len") (λxs H Q=>∃x n,xs=[x]/\Uv X.K x H n/\Q (.int n) H):=by
 intro pins s Z H xs us Q I r h;obtain ⟨x,n,rfl,e,q⟩:=h;obtain ⟨u,rfl,rx⟩:=Dm r;have hl:=FR;have hs:sizeLine=16777216:=sizeLine_eq
 cases x with
 | str y=>
   obtain ⟨t,rfl⟩:=rx;obtain ⟨hy,e'⟩:y.length<=sizeLine/\n=y.length:=e;subst e';exact len_str (by lia) ⟨.int _,H,I.tok _,⟨_,rfl⟩,q⟩
 | byt y=>
   obtain ⟨t,rfl⟩:=rx;obtain ⟨hy,e'⟩:y.size<=sizeLine/\n=y.size:=e;subst e';exact PySem.W.len_bytes (by lia) ⟨.int _,H,I.tok _,⟨_,rfl⟩,q⟩
 | ref p=>
   cases rx
   have e':(∃xs,SqL X.K H p xs/\n=xs.length)\/∃xs,SqT X.K H p xs/\n=xs.length:=e;rcases e' with ⟨xs,hx,e'⟩ | ⟨xs,hx,e'⟩
   ·subst e';obtain ⟨its,r',pl,hz⟩:=I.list hx;have hlen:=r'.length;exact Calls.call_len_list pl.isList (by simp only [ug2];lia) ⟨.int xs.length,H,I.tok _,⟨_,by simp only [ug2];rw [hlen]⟩,q⟩
   ·subst e';obtain ⟨its,r',pl,hz⟩:=I.tuple hx;have hlen:=r'.length;exact len_tuple pl (by simp only [ug2];lia) ⟨.int xs.length,H,I.tok _,⟨_,by simp only [ug2];rw [hlen]⟩,q⟩
 | _=>exact (show False from e).elim
end
structure ObjM (h:Heap)(x dx C:Addr)(mA:Str->Option Value):Prop where
 obj:h.get? x=some (PySem.W.instObj C dx)
 ns:h.Ns1 dx mA
 ne:dx≠x
theorem J1 {dx:Addr}{mA:Str->Option Value}(n:h.Ns1 dx mA):∃od,h.get? dx=some od/\∀name,PySem.W.lookIn name od=some (mA name):=by
 obtain ⟨o,es,ep,ho,hd,hk,_,hm⟩:=n;refine ⟨o,ho,λname=>?_⟩;have e:=hm name;unfold nsFind findBy at e;rw [<-uf4] at e;unfold PySem.W.lookIn;rw [hd];dsimp only
 split
 ·rename_i y q;rw [q] at e;exact congrArg some e
 ·rename_i q;rw [q] at e;have a:es.toList.any (·.refKey)=false:=by
   rw [List.any_eq_false];intro y hy;obtain ⟨z,t,hkey⟩:=hk y (Array.mem_toList_iff.mp hy);simp [DictEntry.refKey,hkey]
  have a':¬es.toList.any (·.refKey)=true:=by rw [a];exact uf2
  rw [if_neg a'];exact congrArg some e
variable {C:Addr}
theorem ObjM.look {x dx:Addr}{mA:Str->Option Value}(I:ObjM h x dx C mA):∃od,PySem.W.InstAt h x (PySem.W.instObj C dx) C (some od)/\∀name,PySem.W.lookIn name od=some (mA name):=
 let ⟨od,ho,hl⟩:=J1 I.ns
 ⟨od,⟨I.obj,rfl,rfl,ho⟩,hl⟩
section
variable {prog:Program}{w:World}{A:Around}{E:Value->Shared->Prop}{s:Shared}{K:PySem.W.Frag}{x dx C f:Addr}{mA:Str->Option Value}{name:Str}{v:Value}
end
section
variable {P:Program}{w:World}{H H':Hp}{h h':Heap}{a C dx:Addr}{fs fs':List (Str×V)}
theorem Sv (hok:HOk P w H h)(e:H a=some (.ins C dx fs)):∃mA,ObjM h a dx C mA/\(∀f,PB (fs.lookup f) (mA f))/\PySem.Within mA (fs.map (·.1))/\fs.length<=1000/\H dx=some (.own a):=by
 obtain ⟨d,z,ne,ob,mA,n,r,q⟩:=(show ObjOk P w H h a (.ins C dx fs) from hok a _ e);exact ⟨mA,⟨ob,n,ne⟩,r,q,z,d⟩
end
structure Cls (K:PySem.W.Frag)(C:Addr):Prop where
 pg:PySem.W.plainGet K C Str.empty=true
 hd:PySem.W.hasDictIn K C=true
 po:PySem.W.plainOver K C=true
 sa:PySem.W.findIn K (.ref C) "__setattr__" = some (some (.builtin "object.__setattr__"))
theorem Cls.get {K:PySem.W.Frag}{C:Addr}(c:Cls K C)(f:Str):PySem.W.plainGet K C f=true:=c.pg
structure Con (K:PySem.W.Frag)(C:Addr)(f:Str)(v:V)(u:Value):Prop where
 at_:PySem.W.findIn K (.ref C) f=some (some u)
 rel:RelV v u
 get:PySem.W.specialIn K u "__get__" = some none
 cp:PySem.W.copiedNames.contains f=false
structure Meth (K:PySem.W.Frag)(C:Addr)(m:Str)(f:Addr):Prop where
 at_:PySem.W.findIn K (.ref C) m=some (some (.ref f))
 fn:PySem.W.isFn K (.ref f)=true
 kp:PySem.W.keepIn K (.ref f)=true
section
variable {X:Cx}{pins:List (Addr×Obj)}{Z:St}{H:Hp}{s:Shared}{a C dx:Addr}{fs:List (Str×V)}{f:Str}{v:V}{A:Around}{E:Value->Shared->Prop}
end
section
variable {X:Cx}{o e value:Expr}{f:Str}{pos pos' tpos:Pos}{ta tv:TE}
end
section
variable {X:Cx}{pins:List (Addr×Obj)}{Z:St}{H:Hp}{s:Shared}{A:Around}{E:Value->Shared->Prop}{Q:Value->Shared->Prop}{c:Value}{b:Bool}
inductive TyOf (K:PySem.W.Frag)(H:Hp):V->Value->Prop where
 | non:TyOf K H .non (.type "NoneType")
 | bl (x:Bool):TyOf K H (.bl x) (.type "bool")
 | int (i:Int):TyOf K H (.int i) (.type "int")
 | str (x:Str):TyOf K H (.str x) (.type "str")
 | flt (x:UInt64):TyOf K H (.flt x) (.type "float")
 | lst {a:Addr} {xs:List V} (e:H a=some (.lst xs)):TyOf K H (.ref a) (.type "list")
 | frz {a:Addr} {o:Obj} {xs:List V} (e:H a=some (.frz o (.lst xs))):TyOf K H (.ref a) (.type "list")
 | tup {a:Addr} {xs:List V} (e:H a=some (.tup xs)):TyOf K H (.ref a) (.type "tuple")
 | dK {a:Addr} {kvs:List (Key×V)} (e:H a=some (.dK kvs)):TyOf K H (.ref a) (.type "dict")
 | dT {a:Addr} {kvs:List (List Key×V)} (e:H a=some (.dT kvs)):TyOf K H (.ref a) (.type "dict")
 | ins {a C dx:Addr} {fs:List (Str×V)} (e:H a=some (.ins C dx fs)) (cl:Cls K C) (ha:PySem.W.findIn K (.ref C) "__class__" = some (some (.builtin "object.__class__")))
    (hn:PySem.W.specialIn K (.builtin "object.__class__") "__get__" = some (some (.builtin "getset_descriptor.__get__"))) (htk:PySem.W.takesIn K (.builtin "object.__class__")=some true)
    (hm:PySem.W.mroIn K C (.type "object")=some true):TyOf K H (.ref a) (.ref C)
theorem OI {x:V}{t:Value}(I:Inv X pins Z H s)(rx:RelV x u)(ty:TyOf X.K H x t)(e:PySem.W.kitOne X.K t c=some b)(h:∀tk,Q (.bool b) { s with toks:=tk }) :
 wpAny (model X.prog X.w) A (call (.builtin "isinstance") [u,c]) Q E s:=by
 cases ty with
 | non=>cases (show u=Value.none from rx);exact uj3 PySem.W.kitx_none I.kIn True.intro e (λz=>nomatch z) h
 | bl y=>cases (show u=Value.bool y from rx);exact uj3 PySem.W.kitx_bool I.kIn True.intro e (λz=>nomatch z) h
 | int i=>obtain ⟨t,q⟩:=(show ∃t,u=Value.int i t from rx);cases q;exact uj3 PySem.W.kitx_int I.kIn True.intro e (λz=>nomatch z) h
 | str y=>obtain ⟨t,q⟩:=(show ∃t,u=Value.str y t from rx);cases q;exact uj3 PySem.W.kitx_str I.kIn True.intro e (λz=>nomatch z) h
 | flt y=>obtain ⟨t,q⟩:=(show ∃t,u=Value.float y t from rx);cases q;exact uj3 PySem.W.kitx_float I.kIn True.intro e (λz=>nomatch z) h
 | @lst a xs ea=>
   cases (show u=Value.ref a from rx)
   obtain ⟨_,_,n,_,h1⟩:=(show ObjOk X.prog X.w H s.heap a (.lst xs) from I.hok a _ ea);exact uj3 PySem.W.kitx_list I.kIn ⟨_,h1,rfl⟩ e (λz=>nomatch z) h
 | @frz a ob xs ea=>
   cases (show u=Value.ref a from rx)
   obtain ⟨_,_,_,n,_,h1⟩:=(show ObjOk X.prog X.w H s.heap a (.frz ob (.lst xs)) from I.hok a _ ea);exact uj3 PySem.W.kitx_list I.kIn ⟨_,h1,rfl⟩ e (λz=>nomatch z) h
 | @tup a xs ea=>
   cases (show u=Value.ref a from rx)
   obtain ⟨_,_,_,p⟩:=(show ObjOk X.prog X.w H s.heap a (.tup xs) from I.hok a _ ea);obtain ⟨o,h1,h2,_⟩:=p;exact uj3 PySem.W.kitx_tuple I.kIn ⟨o,h1,h2⟩ e (λz=>nomatch z) h
 | @dK a kvs ea=>
   cases (show u=Value.ref a from rx)
   obtain ⟨_,_,vs,_,p⟩:=(show ObjOk X.prog X.w H s.heap a (.dK kvs) from I.hok a _ ea);obtain ⟨o,es,ep,h1,h2,_⟩:=p;exact uj3 PySem.W.kitx_dict I.kIn ⟨o,h1,h2.1⟩ e (λz=>nomatch z) h
 | @dT a kvs ea=>
   cases (show u=Value.ref a from rx)
   obtain ⟨_,_,xs,_,o,es,ep,h1,h2,_⟩:=(show ObjOk X.prog X.w H s.heap a (.dT kvs) from I.hok a _ ea);exact uj3 PySem.W.kitx_dict I.kIn ⟨o,h1,h2.1⟩ e (λz=>nomatch z) h
 | @ins a C dx fs ea cl ha hn htk hm=>
   cases (show u=Value.ref a from rx)
   obtain ⟨mA,O,_⟩:=Sv I.hok ea;obtain ⟨od,J,_⟩:=O.look;exact uj3 (PySem.W.kitx_own (cl.get _) cl.hd ha hn htk hm) I.kIn J e (λz=>nomatch z) h
end
structure Room (k:Nat)(A:Around):Prop where
 hd:A.handled=none
 dp:A.depth + 3 * k + 5 < recursionLimit
 un:A.units + 16 * k + 200 < cLine
theorem Room.mono {j:Nat}{A:Around}(r:Room k A)(h:j<=k):Room j A:=⟨r.hd,by have:=r.dp;lia,by have:=r.un;lia⟩
theorem Room.deeper {k:Nat}{A:Around}(r:Room (k + 1) A)(env:Env):Room k (A.deeper env):=
 ⟨r.hd,by have:=r.dp;show A.depth + 1 + 3 * k + 5 < _;lia,by have:=r.un;show A.units + 3 + 16 * k + 200 < _;lia⟩
theorem Room.in1 {k:Nat}{A:Around}(r:Room (k + 1) A):Room k A.in1:=
 ⟨r.hd,by have:=r.dp;show A.depth + 3 * k + 5 < _;lia,by have:=r.un;show A.units + 1 + 16 * k + 200 < _;lia⟩
theorem Nl {A:Around}{kw:List (Str×Value)}:(A.under (.builtin "type.__call__" ⟨.ref C :: us,kw⟩)).depth=A.depth + 1:=by
 first | rfl | simp [Around.under,Code.weight,Code.isCreation,Code.isGuard,Code.isCaller,Code.frames,Code.isFrame,guardIds]
theorem Nm {A:Around}{kw:List (Str×Value)}:(A.under (.builtin "type.__call__" ⟨.ref C :: us,kw⟩)).units=A.units + 1:=by
 first | rfl | simp [Around.under,Code.cUnits,Code.frames,Code.isFrame]
theorem Room.make {A:Around}(r:Room (k + 1) A)(C:Addr)(us:List Value)(kw:List (Str×Value)):Room k (A.under (.builtin "type.__call__" ⟨.ref C :: us,kw⟩)):=
 ⟨r.hd,by have:=r.dp;rw [Nl];lia,by have:=r.un;rw [Nm];lia⟩
theorem Room.depth {k:Nat}{A:Around}(r:Room k A):A.depth < recursionLimit:=by have:=r.dp;lia
theorem Room.units {k:Nat}{A:Around}(r:Room k A):A.units + 64 < cLine:=by have:=r.un;lia
def We:TA:=λ_ H Q=>Q [] H
def RK (ta:TE)(tr:TA):TA:=λZ H Q=>ta Z H λx H1=>tr Z H1 λxs H2=>Q (x :: xs) H2
section
variable {X:Cx}{e:Expr}{es:List Expr}{te:TE}{t:TA}{pos:Pos}
theorem IT:PA X [] We:=λ_ _ _ _ H Q I h=>Calls.spliced_nil ⟨[],H,I,.nil,h⟩
theorem FS (ha:PE X e te)(hr:PA X es t)(hs:starEach (e :: es) X.env=(false,eval e X.env) :: starEach es X.env:=by rfl):PA X (e :: es) (RK te t):=by
 intro pos pins s Z H Q I h;rw [hs];show wpAny _ _ (spliced ((false,eval e X.env) :: backTo pos (starEach es X.env))) _ _ s;refine Calls.spliced_cons (thn (ha pins s Z H _ I h) λu s1 z9=>?_);obtain ⟨x,H1,I1,r1,q1⟩:=z9;exact thn (hr pos pins s1 Z H1 _ I1 q1) λus s2 ⟨xs,H2,I2,r2,q2⟩=>⟨x :: xs,H2,I2,.cons r1 r2,q2⟩
def Yv (t:TA):TE:=λZ H Q=>t Z H λxs H1=>xs.length<=sizeLine/\∀p,H1 p=none->Q (.ref p) (upd H1 p (.tup xs))
def Yq (t:TA):TE:=λZ H Q=>t Z H λxs H1=>xs.length<=sizeLine/\∀p,H1 p=none->Q (.ref p) (upd H1 p (.lst xs))
theorem Vy {x1}(h:PA X es t):PE X (.Tuple es x1 pos) (Yv t):=by
 intro pins s Z H Q I hq;refine wpAny_Tuple_spliced (thn (h pos pins s Z H _ I hq) λus s1 z9=>?_);obtain ⟨xs,H1,I1,r,z,q⟩:=z9;refine ⟨by rw [<-r.length];exact z,?_⟩;have hf:H1 s1.heap.objs.size=none:=I1.hok.fresh (uo3 _);refine ⟨.ref s1.heap.objs.size,upd H1 s1.heap.objs.size (.tup xs),I1.laid (t':=s1.toks) (λb u e=>ub8 _ e) (uo3 _) ?_,rfl,q _ hf⟩;exact ⟨z,us,r,⟨_,ue3 _ rfl,rfl,_,rfl⟩⟩
theorem O4 (h:PA X es t):PE X (.List es pos) (Yq t):=by
 intro pins s Z H Q I hq;refine wpAny_List_spliced (thn (h pos pins s Z H _ I hq) λus s1 z9=>?_);obtain ⟨xs,H1,I1,r,z,q⟩:=z9;refine ⟨by rw [<-r.length];exact z,?_⟩;have hf:H1 s1.heap.objs.size=none:=I1.hok.fresh (uo3 _);refine ⟨.ref s1.heap.objs.size,upd H1 s1.heap.objs.size (.lst xs),I1.laid (t':=s1.toks) (λb u e=>ub8 _ e) (uo3 _) ?_,rfl,q _ hf⟩;exact ⟨z,us,0,r,ue3 _ rfl⟩
end
abbrev Sp:=List V->Hp->VK->XK->Prop
abbrev CXT:=List Env->Hp->Shared->XK->Value->Shared->Prop
structure Env0 (P:Program)(w:World)(K:PySem.W.Frag)(mg:Str->Option Value)(base:Heap)(A:Around)(outer:List Env)(s:Shared)(H:Hp):Prop where
 frames:A.frames=some outer
 mod:Mod K mg base
 bs:∀b o,base.get? b=some o->s.heap.get? b=some o/\H b=none
 bsz:base.objs.size<=s.heap.objs.size
 funs:s.heap.FunFrames base outer
 frf:∀b∈frs outer,H b=none
 hok:HOk P w H s.heap
 bare:AllBare s.gens
def CE (outer:List Env)(P:Program)(w:World)(H:Hp)(s:Shared)(Q:VK)(u:Value)(s':Shared):Prop:=
 ∃v H',s'.os=s.os/\AllBare s'.gens/\Un (frs outer) [] H H' s.heap s'.heap/\HOk P w H' s'.heap/\RelV v u/\Q v H'
def CR (CX:CXT)(outer:List Env)(P:Program)(w:World)(H:Hp)(s:Shared)(Q:VK)(E:XK)(r:Result)(s':Shared):Prop:=
 match r with
 | .ok (.ret u)=>CE outer P w H s Q u s'
 | .ok _=>False
 | .error e=>CX outer H s E e s'
structure FnOk (P:Program)(w:World)(K:PySem.W.Frag)(mg:Str->Option Value)(base:Heap)(CX:CXT)(k:Nat)(f:Addr)(fd:FuncData)(ps:List Str)(sp:Sp):Prop where
 len:∀vs H Q E,sp vs H Q E->vs.length=ps.length
 run:∀(A:Around) (outer:List Env) (s:Shared) (H:Hp) (args:Args) (us:List Value) (vs:List V) (Q:VK) (E:XK),Room k A->Env0 P w K mg base A outer s H->BindsTo s fd args (ps.zip us)->Vals vs us->sp vs H Q E->
  codeAny (model P w) A (.call (.ref f) args) (CR CX outer P w H s Q E) s
theorem FnOk.mono {P:Program}{w:World}{K:PySem.W.Frag}{mg:Str->Option Value}{base:Heap}{CX:CXT}{j k:Nat}{f:Addr}{fd:FuncData}{ps:List Str}{sp:Sp}(F:FnOk P w K mg base CX j f fd ps sp)(h:j<=k) :
 FnOk P w K mg base CX k f fd ps sp:=⟨F.len,λA outer s H args us vs Q E hr=>F.run A outer s H args us vs Q E (hr.mono h)⟩
variable {mg:Str->Option Value}{base:Heap}
theorem Env0.make {A:Around}{outer:List Env}(e:Env0 P w K mg base A outer s H)(C:Addr)(us:List Value)(kw:List (Str×Value)) :
 Env0 P w K mg base (A.under (.builtin "type.__call__" ⟨.ref C :: us,kw⟩)) outer s H:=⟨by first | exact e.frames | (simpa [Around.under,Code.envs,Code.isFrame,pushEnvs] using e.frames),e.mod,e.bs,e.bsz,e.funs,e.frf,e.hok,e.bare⟩
theorem Env0.in1 {P:Program}{w:World}{K:PySem.W.Frag}{mg:Str->Option Value}{base:Heap}{A:Around}{outer:List Env}{s:Shared}{H:Hp}(e:Env0 P w K mg base A outer s H) :
 Env0 P w K mg base A.in1 outer s H:=⟨e.frames,e.mod,e.bs,e.bsz,e.funs,e.frf,e.hok,e.bare⟩
section
variable {X:Cx}{pins:List (Addr×Obj)}{Z:St}{H:Hp}{s s':Shared}
theorem Inv.env0 (I:Inv X pins Z H s):Env0 X.prog X.w X.K X.mg X.base X.A X.stack s H:=
 ⟨I.ok.frames,I.ok.mod,I.bs,um5 I.ok.bsz I.sz,I.stack,I.stkFree,I.hok,I.bare⟩
theorem Inv.after {Q:VK}(I:Inv X pins Z H s)(h:CE X.stack X.prog X.w H s Q u s'):EP X pins Z Q u s':=by
 obtain ⟨v,H',os,bare,un,hok,r,q⟩:=h;obtain ⟨hh,g,d,t,os'⟩:=s';obtain rfl:os'=s.os:=os;exact ⟨v,H',I.call (h':=hh) (g':=g) (d':=d) (t':=t) (ch:=[]) un hok bare (λb z=>absurd z (by simp)),r,q⟩
end
def Kt (sp:Sp)(dvs:List V)(E:XK)(t:TA):TE:=λZ H Q=>t Z H λvs H1=>sp (vs++dvs) H1 Q E
def Binds (K:PySem.W.Frag)(fd:FuncData)(ps:List Str)(ds:List Value):Prop:=
 ∀(s:Shared) (us:List Value),K.In s.heap->(us++ds).length=ps.length->BindsTo s fd ⟨us,[]⟩ (ps.zip (us++ds))
theorem Binds.all {fd:FuncData}{ps:List Str}(h:∀us:List Value,us.length=ps.length->bindArgs fd ⟨us,[]⟩=pure (ps.zip us)):Binds K fd ps []:=λs us _ hl=>by
 rw [uj4] at hl ⊢;exact .of_eq (h us hl)
def Iu (CX:CXT)(X:Cx)(E:XK):Prop:=∀(pins:List (Addr×Obj)) (Z:St) (H:Hp) (s:Shared) (e:Value) (s':Shared),Inv X pins Z H s->CX X.stack H s E e s'->X.xe e s'
section
variable {X:Cx}{CX:CXT}{k:Nat}{f C:Addr}{fd:FuncData}{ps:List Str}{sp:Sp}{dvs:List V}{ds:List Value}{E:XK}{x m:Str}{p pos apos:Pos}{e o:Expr}{es:List Expr}{ta:TE}{t:TA}
theorem LR {Q:VK}{vs:List V}(F:FnOk X.prog X.w X.K X.mg X.base CX k f fd ps sp)(hr:Room k X.A)(hb:Binds X.K fd ps ds)(hd:Vals dvs ds)(hx:Iu CX X E)
 (I:Inv X pins Z H s) (r:Vals vs us) (h:sp (vs++dvs) H Q E):wpAny (model X.prog X.w) X.A (call (.ref f) us) (EP X pins Z Q) X.xe s:=by
 have r2:Vals (vs++dvs) (us++ds):=r.append hd;have hl:(us++ds).length=ps.length:=by rw [<-r2.length];exact F.len _ _ _ _ h
 refine wpAny_call (codeAny_mono (F.run X.A X.stack s H ⟨us,[]⟩ (us++ds) (vs++dvs) Q E hr I.env0 (hb s us I.kIn hl) r2 h) λr s' hq=>?_)
 cases r with
 | error e=>exact hx pins Z H s e s' I hq
 | ok fl=>
   cases fl with
   | ret u=>exact I.after hq
   | next=>exact False.elim hq
   | brk=>exact False.elim hq
   | cont=>exact False.elim hq
theorem ME (F:FnOk X.prog X.w X.K X.mg X.base CX k f fd ps sp)(hr:Room k X.A)(hg:Gl X x)(hm:X.mg x=some (.ref f))(hk:PySem.W.keepIn X.K (.ref f)=true)(hb:Binds X.K fd ps ds)(hd:Vals dvs ds)(hx:Iu CX X E)
 (ha:PA X (e :: es) t) (hdb:(x == ("__debug__" : Str))=false:=by decide) (he:starEach (e :: es) X.env=(false,eval e X.env) :: starEach es X.env:=by rfl) (hpl:(backTo pos (starEach es X.env)).any (·.1)=false:=by rfl) :
 PE X (.Call (.Name x p) (e :: es) [] pos) (Kt sp dvs E t):=by
 intro pins s Z H Q I h;refine wpAny_Call_Name_kw (EC I hg hm ?_ hdb);refine uf5 (h₀:=X.base) I.ok.mod.kin hk (thn (ha pos pins s Z H _ I h) λus s1 z9=>?_) he hpl;obtain ⟨vs,H1,I1,r,q⟩:=z9;refine ⟨I1.kIn,?_⟩;exact LR F hr hb hd hx I1 r q
structure Mk (K:PySem.W.Frag)(C f:Addr):Prop where
 makes:PySem.W.makesIn K C=true
 init:PySem.W.findIn K (.ref C) "__init__" = some (some (.ref f))
 fn:PySem.W.isFn K (.ref f)=true
 kp:PySem.W.keepIn K (.ref C)=true
end
def PK (X:Cx)(kws:List Keyword)(t:TA):Prop:=
 ∀(pos:Pos) (pins:List (Addr×Obj)) (s:Shared) (Z:St) (H:Hp) (Q:List V->Hp->Prop),Inv X pins Z H s->t Z H Q->wpAny (model X.prog X.w) X.A (evalAll ((backToKw pos (keywordEach kws X.env)).map (·.2))) (AP X pins Z Q) X.xe s
section
variable {X:Cx}{CX:CXT}{k:Nat}{f C:Addr}{fd:FuncData}{ps ks:List Str}{sp:Sp}{E:XK}{x m:Str}{p pos apos kpos:Pos}{e o:Expr}{es:List Expr}{kws:List Keyword}{te ta:TE}{t tk:TA}{nm:Option Str}
theorem VB:PK X [] We:=λ_ _ _ _ H Q I h=>wpAny_evalAll_nil ⟨[],H,I,.nil,h⟩
theorem Th (ha:PE X e te)(hr:PK X kws t):PK X (⟨nm,e,kpos⟩ :: kws) (RK te t):=by
 intro pos pins s Z H Q I h;show wpAny _ _ (evalAll ((do let v <-eval e X.env;standAt pos;pure v) :: (backToKw pos (keywordEach kws X.env)).map (·.2))) _ _ s;refine wpAny_evalAll_cons (uo7 (thn (ha pins s Z H _ I h) λu s1 ⟨x,H1,I1,r1,q1⟩=>uo7 (wpAny_standAt (uo8 ?_))));exact thn (hr pos pins s1 Z H1 _ I1 q1) λus s2 ⟨xs,H2,I2,r2,q2⟩=>⟨x :: xs,H2,I2,.cons r1 r2,q2⟩
structure KBinds (K:PySem.W.Frag)(fd:FuncData)(ps ks:List Str)(g:List Value->List Value->List Value)(gV:List V->List V->List V):Prop where
 to:∀(s:Shared) (us ws:List Value),K.In s.heap->(g us ws).length=ps.length->BindsTo s fd ⟨us,ks.zip ws⟩ (ps.zip (g us ws))
 rel:∀{vs:List V} {us:List Value} {zs:List V} {ws:List Value},Vals vs us->Vals zs ws->Vals (gV vs zs) (g us ws)
variable {g:List Value->List Value->List Value}{gV:List V->List V->List V}
end
structure FnScope (N P:List Str)(sc:Scope):Prop where
 kind:sc.kind = .function
 co:sc.isCoroutine=false
 gen:sc.isGenerator=false
 nd:N.Nodup
 pre:N.take P.length=P
 par:∀x∈P,sc.names.lookup x=some .local\/sc.names.lookup x=some .cell
 nofree:∀y∈sc.names,y.2≠.free
theorem JS {kindOf:Str->Option NameKind}{x:Str}:∀{binds:List (Str×Value)} {m:Str->Option Value},(∀v,(x,v)∉binds)->bindL kindOf binds m x=m x
 | [],_,_=>rfl
 | (n,v) :: r,m,h=>by
   unfold bindL;rw [JS λw hw=>h w (ud4 _ hw)]
   split
   ·have:x≠n:=by rintro rfl;exact h v uf1
    simp [this]
   ·rfl
theorem JQ {kindOf:Str->Option NameKind}{x:Str}:∀{binds:List (Str×Value)} {m:Str->Option Value},(∀v,(x,v)∉binds)->bindC kindOf binds m x=m x
 | [],_,_=>rfl
 | (n,v) :: r,m,h=>by
   unfold bindC;rw [JQ λw hw=>h w (ud4 _ hw)]
   split
   ·rfl
   ·have:x≠n:=by rintro rfl;exact h v uf1
    simp [this]
theorem JR {kindOf:Str->Option NameKind}{x:Str}{v:Value}:∀{P:List Str} {vs:List Value} {i:Nat} {m:Str->Option Value},P.Nodup->P[i]?=some x->vs[i]?=some v->kindOf x=some .local->
 bindL kindOf (P.zip vs) m x=some v
 | [],_,_,_,_,h,_,_=>by simp at h
 | _ :: _,[],_,_,_,_,h,_=>by simp at h
 | p :: P,w :: vs,0,m,nd,h1,h2,hk=>by
   simp at h1 h2;subst h1;subst h2;show bindL kindOf ((p,w) :: P.zip vs) m p=_;unfold bindL;rw [JS λv hv=>(uj5.mp nd).1 (uj6 hv).1,if_pos hk];simp
 | p :: P,w :: vs,i + 1,m,nd,h1,h2,hk=>by
   show bindL kindOf ((p,w) :: P.zip vs) m x=_;unfold bindL;exact JR (i:=i) (uj5.mp nd).2 (by simpa using h1) (by simpa using h2) hk
theorem JP {kindOf:Str->Option NameKind}{x:Str}{v:Value}:∀{P:List Str} {vs:List Value} {i:Nat} {m:Str->Option Value},P.Nodup->P[i]?=some x->vs[i]?=some v->kindOf x≠some .local->
 bindC kindOf (P.zip vs) m x=some v
 | [],_,_,_,_,h,_,_=>by simp at h
 | _ :: _,[],_,_,_,_,h,_=>by simp at h
 | p :: P,w :: vs,0,m,nd,h1,h2,hk=>by
   simp at h1 h2;subst h1;subst h2;show bindC kindOf ((p,w) :: P.zip vs) m p=_;unfold bindC;rw [JQ λv hv=>(uj5.mp nd).1 (uj6 hv).1,if_neg hk];simp
 | p :: P,w :: vs,i + 1,m,nd,h1,h2,hk=>by
   show bindC kindOf ((p,w) :: P.zip vs) m x=_;unfold bindC;exact JP (i:=i) (uj5.mp nd).2 (by simpa using h1) (by simpa using h2) hk
noncomputable def Dw (N:List Str)(vs:List V):St:=vs.map some++List.replicate (N.length - vs.length) none
noncomputable def D3 (CX:CXT)(P:Program)(w:World)(K:PySem.W.Frag)(mg:Str->Option Value)(base:Heap)(N:List Str)(qual:Str)(scope:Scope)(f:Addr)(cd:Value)(A:Around)(outer:List Env)(s:Shared)(H:Hp)(E:XK):Cx where
 prog:=P
 w:=w
 K:=K
 mg:=mg
 base:=base
 A:=A.deeper (envOfC qual scope s.heap.objs.size f cd)
 N:=N
 s₀:=s
 H₀:=H
 env:=envOfC qual scope s.heap.objs.size f cd
 outer:=outer
 stack:=envOfC qual scope s.heap.objs.size f cd :: outer
 ex:=[]
 calm:=true
 fn:=λ_=>true
 pn:=[]
 xe:=λe s'=>wpAny (model P w) (A.deeper (envOfC qual scope s.heap.objs.size f cd)) (leaving (envOfC qual scope s.heap.objs.size f cd) e) (λ_ s''=>CX outer H s E e s'') (λe' s''=>CX outer H s E e' s'') s'
theorem K2 {sc:Scope}{n:Nat}(h:sc.names.lookup x=some .cell):∃c,(cellsFrom n sc.names []).lookup x=some c:=by
 have q:=PySem.W.cellsFrom_some sc.names n [] (.inl h);exact Option.isSome_iff_exists.mp q
theorem OF {CX:CXT}{N ps:List Str}{qual:Str}{scope:Scope}{f:Addr}{cd:Value}{A:Around}{outer:List Env}{s1:Shared}{E:XK}{vs:List V}
 (S:FnScope N ps scope) (hd:A.handled=none) (e0:Env0 P w K mg base A outer s H) (hl:vs.length=ps.length) (r:Vals vs us)
 (x:InCallC s s.heap.objs.size (bindL (envOfC qual scope s.heap.objs.size f cd).kindOf (ps.zip us) λ_=>none) (cellsFrom (s.heap.objs.size + 1) scope.names []) (bindC (envOfC qual scope s.heap.objs.size f cd).kindOf (ps.zip us) λ_=>none) s1) :
 Inv (D3 CX P w K mg base N qual scope f cd A outer s H E) [] (Dw N vs) H s1:=by
 have hpl:ps.length<=N.length:=by have:=congrArg List.length S.pre;rw [uh5] at this;lia
 obtain ⟨h1,tk,rfl,hk⟩:=x.done;have noA:∀b:Addr,b∉(D3 CX P w K mg base N qual scope f cd A outer s H E).ex:=λb z=>absurd (show b∈([]:List Addr) from z) (by simp);refine ⟨⟨e0.mod,S.kind,rfl,rfl,uo3 _,λy z c h1 h2=>?_,λy hy=>?_,λy c _ h=>?_,λ_=>hd,Around.frames_deeper e0.frames,.inr ⟨rfl,rfl⟩,λb z=>absurd z (noA b),e0.bs,e0.bsz,λb _ _=>noA b,λb z=>absurd z (noA b),e0.funs,e0.frf⟩,
  rfl,e0.bare,Un.kept hk,⟨_,x.toInCall.ns,λi y v h1 h2 h3=>?_⟩,λy c h=>⟨_,x.cell y c h⟩,e0.hok.fresh (uo3 _),λy c h=>?_,λp hp=>absurd (show p∈([]:List (Addr×Obj)) from hp) (by simp),e0.hok.kept hk,?_⟩
 ·exact name_of_addr x.apart (PySem.mem_of_lookup h1) (PySem.mem_of_lookup h2)
 ·have hy:scope.names.lookup y=some .cell\/scope.names.lookup y=some .free:=hy;rcases hy with hy | hy
  ·exact K2 hy
  ·exact absurd rfl (S.nofree _ (PySem.mem_of_lookup hy))
 ·exact um6 (x.above y c (PySem.mem_of_lookup h))
 ·have hi:i < vs.length:=by
   unfold Dw at h2
   by_cases hi:i < vs.length
   ·exact hi
   ·rw [ua5 (by simpa using hi)] at h2;rw [ub3] at h2
    split at h2 <;> cases h2
  have ha:vs[i]?=some v:=by
   unfold Dw at h2;rw [ua9 (by simpa using hi),ug3] at h2
   cases e:vs[i]? with
   | none=>rw [e] at h2;cases h2
   | some a=>rw [e] at h2;cases h2;rfl
  obtain ⟨u,hu,rv⟩:=r.get ha;have hp:ps[i]?=some y:=by
   rw [<-S.pre,List.getElem?_take_of_lt (by lia)];exact h1
  have ndP:ps.Nodup:=by rw [<-S.pre];exact S.nd.sublist (List.take_sublist _ _)
  refine ⟨u,rv,?_⟩;rcases S.par y (ud7 hp) with k | k
  ·exact .inl ⟨k,JR ndP hp hu k⟩
  ·obtain ⟨c,e⟩:=K2 (n:=s.heap.objs.size + 1) k;refine .inr ⟨.inl k,c,e,?_⟩;have q:=x.cell y c e;rw [JP ndP hp hu (by show scope.names.lookup y≠_;rw [k];decide)] at q;exact q
 ·exact e0.hok.fresh (um6 (x.above y c (PySem.mem_of_lookup h)))
 ·unfold Dw;show _=N.length;rw [uf6,uj7,ud0];lia
theorem Rt {CX:CXT}{f:Addr}{name qual:Str}{params:Arguments}{body:List Stmt}{scope:Scope}{dV kV doc pm cdv ct oc:Value}{an od:Option Addr}
 {osl:Array (Option Value)} {N ps:List Str} {sp:Sp} (lk:K.lookup f=some ⟨oc,od,.func (PySem.W.fnOf name qual params body scope dV kV doc pm an cdv ct),osl⟩) (hcd:PySem.W.codeIn K cdv qual=true) (S:FnScope N ps scope)
 (len:∀vs H Q E,sp vs H Q E->vs.length=ps.length)
 (hbody:∀(A:Around) (outer:List Env) (s:Shared) (H:Hp) (vs:List V) (Q:VK) (E:XK),Room k (A.deeper (envOfC qual scope s.heap.objs.size f cdv))->sp vs H Q E->
   ∃t,PSs (D3 CX P w K mg base N qual scope f cdv A outer s H E) body t/\t { nx:=λ_ H'=>Q .non H',rt:=Q } (Dw N vs) H) :
 FnOk P w K mg base CX (k + 1) f (PySem.W.fnOf name qual params body scope dV kV doc pm an cdv ct) ps sp:=by
 refine ⟨len,λA outer s H args us vs Q E hr e0 hb r hsp=>?_⟩;have hl:=len _ _ _ _ hsp;have KX:K.In s.heap:=e0.mod.kin.keeps λb o e=>(e0.bs b o e).1;have lim:s.heap.NoLimit:=e0.mod.nolimit.keeps λb o e=>(e0.bs b o e).1;have hkind:∀y∈ps.zip us,scope.names.lookup y.1=some .local\/(scope.names.lookup y.1=some .cell/\((cellsFrom (s.heap.objs.size + 1) scope.names []).lookup y.1).isSome=true):=λz9 hy=>by
  obtain ⟨n,v⟩:=z9;rcases S.par n (uj6 hy).1 with q | q
  ·exact .inl q
  ·exact .inr ⟨q,PySem.W.cellsFrom_some _ _ _ (.inl q)⟩
 refine codeAny_call_function hr.depth (KX _ _ lk) rfl S.co S.gen rfl (PySem.W.codeRec_of KX hcd) (hb _ _ _ _ ?_);refine wpAny_newFunctionEnv_cells S.kind hkind λenv he s1 x=>?_;subst he;refine ⟨lim.keeps x.toInCall.keep,codeAny_func ?_⟩;obtain ⟨t,ht,hq⟩:=hbody A outer s H vs Q E (hr.deeper _) hsp;have I:Inv (D3 CX P w K mg base N qual scope f cdv A outer s H E) [] (Dw N vs) H s1:=OF S hr.hd e0 hl r x;refine uo9 (ht [] s1 (Dw N vs) H _ I hq) (λfl s' hs=>?_) λe s' hs=>hs;have fin:∀{Z':St} {H':Hp} {v:V} {u:Value},Inv (D3 CX P w K mg base N qual scope f cdv A outer s H E) [] Z' H' s'->RelV v u->Q v H'->CE outer P w H s Q u s':=
  λ{Z' H' v u} J rv q=>⟨v,H',J.os,J.bare,J.base,J.hok,rv,q⟩
 cases fl with
 | ret u=>
   obtain ⟨v,Z',H',J,rv,q⟩:=hs;exact fin J rv q
 | next=>
   obtain ⟨Z',H',J,q⟩:=hs;exact fin (v:=V.non) (u:=Value.none) J rfl q
 | brk=>
   obtain ⟨_,_,_,q⟩:=hs;exact False.elim q
 | cont=>
   obtain ⟨_,_,_,q⟩:=hs;exact False.elim q
section
variable {X:Cx}{x:Str}{p pos:Pos}{e:Expr}{es:List Expr}{t:TA}{id T:String}{r:List V->Hp->VK->Prop}
def tCB (r:List V->Hp->VK->Prop)(t:TA):TE:=λZ H Q=>t Z H λvs H1=>r vs H1 Q
theorem LB (hc:BI X (.builtin id) r)(hg:Gl X x)(hm:X.mg x=none)(hv:bootBuiltins x=some (.builtin id))(ha:PA X (e :: es) t)(hn:x≠"__name__":=by decide)(hdb:(x == ("__debug__" : Str))=false:=by decide)
 (he:starEach (e :: es) X.env=(false,eval e X.env) :: starEach es X.env:=by rfl) (hpl:(backTo pos (starEach es X.env)).any (·.1)=false:=by rfl):PE X (.Call (.Name x p) (e :: es) [] pos) (tCB r t):=by
 intro pins s Z H Q I h;refine wpAny_Call_Name_kw (FQ I hg hm hv ?_ hn hdb);exact PyProof.Rows.callWith_builtin1 (thn (ha pos pins s Z H _ I h) λus s1 z9=>by obtain ⟨vs,H1,I1,r1,q1⟩:=z9;exact hc pins s1 Z H1 vs us Q I1 r1 q1) he hpl
theorem J4 (hc:BI X (.type T) r)(hg:Gl X x)(hm:X.mg x=none)(hv:bootBuiltins x=some (.type T))(ha:PA X (e :: es) t)(hn:x≠"__name__":=by decide)(hdb:(x == ("__debug__" : Str))=false:=by decide)
 (he:starEach (e :: es) X.env=(false,eval e X.env) :: starEach es X.env:=by rfl) (hpl:(backTo pos (starEach es X.env)).any (·.1)=false:=by rfl):PE X (.Call (.Name x p) (e :: es) [] pos) (tCB r t):=by
 intro pins s Z H Q I h;refine wpAny_Call_Name_kw (FQ I hg hm hv ?_ hn hdb);exact ua2 (thn (ha pos pins s Z H _ I h) λus s1 z9=>by obtain ⟨vs,H1,I1,r1,q1⟩:=z9;exact hc pins s1 Z H1 vs us Q I1 r1 q1) he hpl
end
end L2
namespace HT
open PySem PyProof.Rows
section
open PySem.SeqAt
open PySem.AutoSeq1 (wpAny_loadPart')
open PySem.MeetsSeq PySem.MeetsSeq2 PySem.MeetsSeq3
end
section
variable {prog:Program}{w:World}{A:Around}{E:Value->Shared->Prop}{s:Shared}
theorem R3 {t b:Addr}{vs ws:List Value}{Q:Value->Shared->Prop}(ht:IsTup s.heap t vs.toArray)(hb:IsTup s.heap b ws.toArray)(hv:vs≠[])
 (h1:ws=[]->Q (.ref t) s) (h2:ws≠[]->Q (.ref s.heap.objs.size) { s with heap:=s.heap.push { cls:=.type "tuple",data:=.seq (vs++ws).toArray } })
 (hsz:vs.length + ws.length<=sizeLine):wpAny (model prog w) A (binaryOp .Add (.ref t) (.ref b)) Q E s:=by
 obtain ⟨⟨cls,dd,data,sl⟩,ho,hc,n,hd⟩:=id ht;obtain ⟨⟨cls2,dd2,data2,sl2⟩,ho2,hc2,n2,hd2⟩:=id hb;simp only at hc hd hc2 hd2;subst hc hd hc2 hd2;have e:vs.toArray++ws.toArray=(vs++ws).toArray:=by simp
 by_cases hw:ws=[]
 ·exact concat_meets ⟨_,ho,rfl⟩ ⟨_,ho2,rfl⟩ noFill_tuple_add seq_tuple_add ub9 ub4 (ub1 _ _)
   (tuple_addW1 t b vs.toArray ws.toArray n n2 dd dd2 sl sl2 (by simpa using hv) (by simp [hw])) ⟨ho,ho2,h1 hw⟩
 ·refine concat_meets ⟨_,ho,rfl⟩ ⟨_,ho2,rfl⟩ noFill_tuple_add seq_tuple_add ub9 ub4 (ub1 _ _)
   (tuple_addW2 t b vs.toArray ws.toArray n n2 dd dd2 sl sl2 (by simpa using hv) (by simpa using hw) (by rw [ug2,ug2];exact hsz)) ⟨ho,ho2,?_⟩
  rw [e];exact h2 hw
noncomputable def sIx (n d:Nat):Option Int->Nat
 | none=>d
 | some v=>if v < 0 then (v + (n:Int)).toNat else min v.toNat n
theorem V0 (n d:Nat)(hd:d<=n)(o:Option Int):sIx n d o<=n:=by
 cases o with
 | none=>exact hd
 | some v=>
   show (if v < 0 then (v + (n:Int)).toNat else min v.toNat n)<=n
   by_cases hv:v < 0
   ·rw [if_pos hv];lia
   ·rw [if_neg hv];exact Nat.min_le_right _ _
theorem Mo (v:Int)(n d:Nat):(if v < 0 then max (v + (n:Int)) 0 else min v (n:Int))=((sIx n d (some v):Nat):Int):=by
 show (if v < 0 then max (v + (n:Int)) 0 else min v (n:Int))=(((if v < 0 then (v + (n:Int)).toNat else min v.toNat n):Nat):Int)
 by_cases hv:v < 0
 ·simp only [if_pos hv];lia
 ·simp only [if_neg hv];lia
theorem M1 (lo hi:Option Int)(n:Nat):Builtin.Slice.sliceAdjust lo hi 1 (n:Int)=(((sIx n 0 lo:Nat):Int),((sIx n n hi:Nat):Int)):=by
 have h1:¬((1:Int) < 0):=by lia
 unfold Builtin.Slice.sliceAdjust;simp only [h1,if_false];refine Prod.ext ?_ ?_
 ·cases lo with
  | none=>rfl
  | some v=>exact Mo v n 0
 ·cases hi with
  | none=>rfl
  | some v=>exact Mo v n n
theorem NA (i j:Nat):Builtin.Slice.slicePlaces (i:Int) (j:Int) 1=j - i:=by
 unfold Builtin.Slice.slicePlaces;have h1:(1:Int) > 0:=by lia
 simp only [h1,if_true,Int.ediv_one]
 split <;> lia
theorem IX {v:Value}{o:Option Int}{Q:Option Int->Shared->Prop}(p:IsPart v o)(h:Q o s):wpAny (model prog w) A (Builtin.Slice.slicePartIndex v) Q E s:=by
 cases p with
 | none=>exact slicePart_none h
 | int i t=>exact slicePart_int h
theorem E5 {sl:Addr}{vl vu:Value}{lo hi:Option Int}{n:Nat}{Q:Int×Int×Nat->Shared->Prop}(hs:s.heap.IsSliceOf sl vl vu .none)(pl:IsPart vl lo)(pu:IsPart vu hi)
 (h:Q (((sIx n 0 lo:Nat):Int),1,sIx n n hi - sIx n 0 lo) s):wpAny (model prog w) A (Builtin.Slice.sliceApplied (.ref sl) (pure (n:Int))) Q E s:=by
 obtain ⟨os,hos,hcs,hds⟩:=id hs;unfold Builtin.Slice.sliceApplied Builtin.Slice.sliceFields;refine uo7 (uo7 (uo6 hos hds (x:=vl) rfl (uo7 (uo6 hos hds (x:=vu) rfl (uo7 (uo6 hos hds (x:=.none) rfl (uo8 ?_)))))));refine uo7 (slicePart_none ?_);show wpAny _ _ (if ((1:Int) == 0)=true then _ else _) _ _ s;rw [if_neg (by decide)];refine uo7 (IX pl (uo7 (IX pu (uo7 (uo8 ?_)))));show wpAny _ _ (match Builtin.Slice.sliceAdjust lo hi 1 (n:Int) with | (lo,hi)=>pure (lo,(1:Int),Builtin.Slice.slicePlaces lo hi 1)) _ _ s;rw [M1 lo hi n];show wpAny _ _ (pure (((sIx n 0 lo:Nat):Int),(1:Int),Builtin.Slice.slicePlaces ((sIx n 0 lo:Nat):Int) ((sIx n n hi:Nat):Int) 1)) _ _ s;rw [NA];exact uo8 h
theorem QC (xs:Array Value)(i k:Nat):((List.range k).filterMap λ(m:Nat)=>xs[((i:Int) + (m:Int) * 1).toNat]?).toArray=((xs.toList.drop i).take k).toArray:=by
 have e:(λ(m:Nat)=>xs[((i:Int) + (m:Int) * 1).toNat]?)=λm=>xs[i + m]?:=by
  funext m
  have:((i:Int) + (m:Int) * 1).toNat=i + m:=by lia
  rw [this]
 rw [e];have:=pick_run xs i k;rw [List.filterMap_map] at this;have e2:((λx=>xs[x]?) ∘ λx=>i + x)=λm=>xs[i + m]?:=rfl;rw [e2] at this;rw [this]
theorem HC {t sl:Addr}{items:Array Value}{vl vu:Value}{lo hi:Option Int}{Q:Value->Shared->Prop}(ht:IsTup s.heap t items)(hs:s.heap.IsSliceOf sl vl vu .none)(pl:IsPart vl lo)(pu:IsPart vu hi)
 (hw:¬(sIx items.size 0 lo=0/\sIx items.size items.size hi=items.size))
 (h:Q (.ref s.heap.objs.size) { s with heap:=s.heap.push { cls:=.type "tuple",data:=.seq ((items.toList.drop (sIx items.size 0 lo)).take (sIx items.size items.size hi - sIx items.size 0 lo)).toArray } })
 (hsz:items.size<=sizeLine):wpAny (model prog w) A (getItem (.ref t) (.ref sl)) Q E s:=by
 have htake:sizeOk (.seq ((items.toList.drop (sIx items.size 0 lo)).take (sIx items.size items.size hi - sIx items.size 0 lo)).toArray):=by
  show ((items.toList.drop (sIx items.size 0 lo)).take (sIx items.size items.size hi - sIx items.size 0 lo)).toArray.size<=sizeLine;rw [ug2,uh5,uh6,ue2];lia
 have hj:sIx items.size items.size hi<=items.size:=V0 _ _ (uo3 _) hi;obtain ⟨os,hos,hcs,hds⟩:=id hs;have hTs:s.TypeIs (.ref sl) "slice":=⟨os,hos,hcs⟩;unfold getItem
 try with_reducible refine um2 ?_
 first | refine uo7 (uo8 ?_) | skip
 refine uo7 (wpAny_sequenceKey ht.typeIs (by decide) ?_);refine uo7 (wpAny_callSpecial?_slot (name:=Str.ofString "__getitem__") ht.typeIs ua0
  (wpAny_call_entry ua0 ht.typeIs entry_tuple_getitem ?_ (args_tuple_getitem _ _)))
 show wpAny _ _ (Builtin.Tuple.tupleItemsOf (.ref t) >>= _) _ _ s;refine uo7 (tupleItemsOf_ ht ?_);refine uo7 (wpAny_typeOf hTs ?_);rw [if_pos (by decide)];refine uo7 (E5 hs pl pu ?_);have hno:¬((((sIx items.size 0 lo:Nat):Int) == 0 && (1:Int) == 1 && (sIx items.size items.size hi - sIx items.size 0 lo) == items.size)=true):=by
  intro q;rw [uh7,uh7] at q;have q1:((sIx items.size 0 lo:Nat):Int)=0:=eq_of_beq q.1.1;have q2:sIx items.size items.size hi - sIx items.size 0 lo=items.size:=eq_of_beq q.2;exact hw ⟨by lia,by lia⟩
 show wpAny _ _ (if (((sIx items.size 0 lo:Nat):Int) == 0 && (1:Int) == 1 && (sIx items.size items.size hi - sIx items.size 0 lo) == items.size)=true then _ else _) _ _ s;rw [if_neg hno,QC]
 first
  | exact uo7 (m:=Builtin.Tuple.tupleExact _) (wpAny_newObj_type (uo8 ⟨_,rfl,uo8 h⟩) htake)
  | exact uo7 (m:=Builtin.Tuple.tupleExact _) (wpAny_newObj_type (uo7 (uo8 (uo8 ⟨_,rfl,uo8 h⟩))) htake)
  | exact uo7 (uo7 (m:=Builtin.Tuple.tupleExact _) (wpAny_newObj_type (uo8 (uo8 ⟨_,rfl,uo8 h⟩)) htake))
  | exact uo7 (uo7 (m:=Builtin.Tuple.tupleExact _) (wpAny_newObj_type (uo8 ⟨_,rfl,uo8 h⟩) htake))
end
end HT
namespace L2
open PySem PySem.Spec PyProof.Rows
abbrev TO:=St->Hp->(Option Int->Hp->Prop)->Prop
def PO (X:Cx)(e:Option Expr)(t:TO):Prop:=
 ∀(pins:List (Addr×Obj)) (s:Shared) (Z:St) (H:Hp) (Q:Option Int->Hp->Prop),Inv X pins Z H s->t Z H Q->
  wpAny (model X.prog X.w) X.A (evalPart e X.env) (λu s'=>∃o H',Inv X pins Z H' s'/\IsPart u o/\Q o H') X.xe s
def T6:TO:=λ_ H Q=>Q none H
def Xd (t:TE):TO:=λZ H Q=>t Z H λx H1=>∃i,x = .int i/\Q (some i) H1
theorem Ng {ns:List Int}:∀{us:List Value},Vals (ns.map V.int) us->IntsAre us ns:=by
 induction ns with
 | nil=>intro us r;rw [um8] at r;cases r;exact .nil
 | cons n ns ih=>
   intro us r;rw [ul6] at r
   cases r with
   | cons r1 r2=>
     obtain ⟨t,e⟩:=r1;subst e;exact .cons n t (ih r2)
section
variable {X:Cx}{e:Expr}{te:TE}{lo hi:Option Expr}{tl th:TO}{pos p2:Pos}
theorem Tj:PO X none T6:=by
 intro pins s Z H Q I h;rw [evalPart_none];exact uo8 ⟨none,H,I,.none,h⟩
theorem Tk (h:PE X e te):PO X (some e) (Xd te):=by
 intro pins s Z H Q I hw;rw [evalPart_some];refine thn (h pins s Z H _ I hw) λu s1 z9=>?_;obtain ⟨x,H1,I1,r1,q1⟩:=z9;obtain ⟨i,rfl,q⟩:=q1;obtain ⟨t,rfl⟩:=r1;exact ⟨some i,H1,I1,.int i t,q⟩
def SlR (X:Cx)(r:V->Option Int->Option Int->Hp->VK->Prop):Prop:=
 ∀(pins:List (Addr×Obj)) (s:Shared) (Z:St) (H:Hp) (x:V) (v vl vu:Value) (lo hi:Option Int) (sl:Addr) (Q:VK),Inv X pins Z H s->RelV x v->s.heap.IsSliceOf sl vl vu .none->IsPart vl lo->IsPart vu hi->r x lo hi H Q->
  ∃T id,typeLookup (.type T) "__getitem__" = pure (some (.builtin id))/\s.TypeIs v T/\wpAny (model X.prog X.w) X.A (getItem v (.ref sl)) (EP X pins Z Q) X.xe s
theorem SlR.or {r r':V->Option Int->Option Int->Hp->VK->Prop}(h:SlR X r)(h':SlR X r'):SlR X (λx lo hi H Q=>r x lo hi H Q\/r' x lo hi H Q):=by
 intro pins s Z H x v vl vu lo hi sl Q I rx hs pl pu q;rcases q with q | q
 ·exact h pins s Z H x v vl vu lo hi sl Q I rx hs pl pu q
 ·exact h' pins s Z H x v vl vu lo hi sl Q I rx hs pl pu q
def tSl (r:V->Option Int->Option Int->Hp->VK->Prop)(te:TE)(tl th:TO):TE:=λZ H Q=>te Z H λx H1=>tl Z H1 λl H2=>th Z H2 λu H3=>r x l u H3 Q
theorem QA {r:V->Option Int->Option Int->Hp->VK->Prop}(hr:SlR X r)(he:PE X e te)(hl:PO X lo tl)(hu:PO X hi th):PE X (.Subscript e (.Slice lo hi none p2) pos) (tSl r te tl th):=by
 intro pins s Z H Q I h;refine Subscript_ (thn (he pins s Z H _ I h) λv s1 z9=>?_);obtain ⟨x,H1,I1,r1,q1⟩:=z9;refine wpAny_Slice (thn (hl pins s1 Z H1 _ I1 q1) λvl s2 ⟨l,H2,I2,pl,q2⟩=>thn (hu pins s2 Z H2 _ I2 q2) λvu s3 z9=>?_);obtain ⟨u,H3,I3,pu,q3⟩:=z9;rw [evalPart_none];refine uo8 ?_;have I4:Inv X pins Z H3 { s3 with heap:=s3.heap.push { cls:=.type "slice",data:=.fields #[vl,vu,.none] } }:=I3.kept (t':=s3.toks) λb ob q=>ub8 _ q;obtain ⟨T,id,hT,ht,hg⟩:=hr pins { s3 with heap:=s3.heap.push { cls:=.type "slice",data:=.fields #[vl,vu,.none] } } Z H3 x v vl vu l u s3.heap.objs.size Q I4 r1 (Heap.IsSliceOf.new ..) pl pu q3;show wpAny (model X.prog X.w) X.A (subscriptTail e (.Slice lo hi none p2) v (.ref s3.heap.objs.size)) (EP X pins Z Q) X.xe { s3 with heap:=s3.heap.push { cls:=.type "slice",data:=.fields #[vl,vu,.none] } };exact tail_any (ops:=[.ref s3.heap.objs.size,v]) ht hT hg (by with_unfolding_all rfl)
def Gb (xs:List V)(lo hi:Option Int):List V:=(xs.drop (HT.sIx xs.length 0 lo)).take (HT.sIx xs.length xs.length hi - HT.sIx xs.length 0 lo)
theorem HF (xs:List V)(lo hi:Option Int):(Gb xs lo hi).length<=xs.length:=by
 unfold Gb;rw [uh5,uh6];lia
def VU (K:PySem.W.Frag):V->Option Int->Option Int->Hp->VK->Prop:=λx lo hi H Q=>∃a xs,x = .ref a/\SqT K H a xs/\
 ¬(HT.sIx xs.length 0 lo=0/\HT.sIx xs.length xs.length hi=xs.length)/\∀p,H p=none->Q (.ref p) (upd H p (.tup (Gb xs lo hi)))
theorem V7:SlR X (VU X.K):=by
 intro pins s Z H x v vl vu lo hi sl Q I rx hs pl pu h;obtain ⟨a,xs,rfl,hx,hw,q⟩:=h
 cases rx
 obtain ⟨its,r,ht,hz⟩:=I.tuple hx;have hlen:its.toArray.size=xs.length:=by rw [ug2];exact r.length.symm
 refine ⟨"tuple",_,ua0.lookup,ht.typeIs,?_⟩;refine HT.HC ht hs pl pu (by rw [hlen];exact hw) ?_ (by rw [hlen];exact hz);rw [hlen];refine ⟨.ref s.heap.objs.size,_,I.laid (t':=s.toks) (o:=.tup (Gb xs lo hi)) (λb ob q=>ub8 _ q) (uo3 _) ?_,rfl,q _ (I.hok.fresh (uo3 _))⟩;exact ⟨um5 (HF xs lo hi) hz,_,(r.drop (HT.sIx xs.length 0 lo)).take (HT.sIx xs.length xs.length hi - HT.sIx xs.length 0 lo),IsTup.new _ _⟩
def Rz (K:PySem.W.Frag):R2:=λx y H Q=>∃a b xs ys,x = .ref a/\y = .ref b/\SqT K H a xs/\SqT K H b ys/\xs≠[]/\xs.length + ys.length<=sizeLine/\
 (ys=[]->Q (.ref a) H)/\(ys≠[]->∀p,H p=none->Q (.ref p) (upd H p (.tup (xs++ys))))
theorem Vals.nil_iff {xs:List V}{us:List Value}(r:Vals xs us):us=[]↔xs=[]:=by
 cases r with
 | nil=>simp
 | cons _ _=>simp
theorem SR:OpR X (binaryOp .Add) (Rz X.K):=by
 intro pins s Z H x y v u Q I rx ry h;obtain ⟨a,b,xs,ys,rfl,rfl,ha,hb,hx,hz,q1,q2⟩:=h
 cases rx
 cases ry
 obtain ⟨its,r1,p1,_⟩:=I.tuple ha;obtain ⟨its2,r2,p2,_⟩:=I.tuple hb;refine HT.R3 p1 p2 (λz=>hx (r1.nil_iff.mp z)) (λz=>⟨.ref a,H,I,rfl,q1 (r2.nil_iff.mp z)⟩) (λz=>?_) (by rw [<-r1.length,<-r2.length];exact hz);refine ⟨.ref s.heap.objs.size,_,I.laid (t':=s.toks) (o:=.tup (xs++ys)) (λb ob q=>ub8 _ q) (uo3 _) ?_,rfl,q2 (λw=>z (r2.nil_iff.mpr w)) _ (I.hok.fresh (uo3 _))⟩;exact ⟨by rw [uf6];exact hz,_,r1.append r2,IsTup.new _ _⟩
end
noncomputable def ixN (n:Nat)(i:Int):Option Nat:=if 0<=i then (if i < n then some i.toNat else none) else if -(n:Int)<=i then some (i + n).toNat else none
def atI {α:Type}(xs:List α)(i:Int):Option α:=(ixN xs.length i).bind λj=>xs[j]?
variable {n:Nat}
theorem Mv {i:Int}{j:Nat}(h:ixN n i=some j):seqIndex? i n=some j/\j < n/\-(n:Int)<=i/\i < n:=by
 unfold ixN at h
 by_cases h0:0<=i
 ·rw [if_pos h0] at h
  by_cases h1:i < n
  ·rw [if_pos h1] at h;have e:i.toNat=j:=uj2 h;exact ⟨by rw [seqIndex_of h0 h1,e],by lia,by lia,h1⟩
  ·rw [if_neg h1] at h;cases h
 ·rw [if_neg h0] at h
  by_cases h1 : -(n:Int)<=i
  ·rw [if_pos h1] at h;have e:(i + n).toNat=j:=uj2 h;exact ⟨by rw [seqIndex_neg (by lia) h1,e],by lia,h1,by lia⟩
  ·rw [if_neg h1] at h;cases h
variable {α:Type}
theorem Jh {xs:List α}{i:Int}{v:α}(h:atI xs i=some v):∃j,seqIndex? i xs.length=some j/\xs[j]?=some v/\j < xs.length/\-(xs.length:Int)<=i/\i < xs.length:=by
 unfold atI at h
 cases e:ixN xs.length i with
 | none=>rw [e] at h;cases h
 | some j=>
   rw [e] at h;obtain ⟨h1,h2,h3,h4⟩:=Mv e;exact ⟨j,h1,h,h2,h3,h4⟩
theorem Ji {xs:List α}{j:Nat}{v:α}(h:xs[j]?=some v):atI xs (j:Int)=some v:=by
 have hj:j < xs.length:=(ua8.mp h).1;have e:ixN xs.length (j:Int)=some j:=by
  unfold ixN;rw [if_pos (by lia),if_pos (by lia)];simp
 unfold atI;rw [e];exact h
def He (b:Expr):Prop:=∀o i,subscripted b false o i=operate [o,i] (getItem o i)
def IxR (X:Cx)(r:R2):Prop:=
 ∀(value slice:Expr) (pins:List (Addr×Obj)) (s:Shared) (Z:St) (H:Hp) (x y:V) (v u:Value) (Q:VK),Inv X pins Z H s->RelV x v->RelV y u->r x y H Q->
  subscripted slice false v u=operate [v,u] (getItem v u)->wpAny (model X.prog X.w) X.A (subscriptTail value slice v u) (EP X pins Z Q) X.xe s
def MtR (X:Cx)(id:String)(r:V->List V->Hp->VK->Prop):Prop:=
 ∀(pins:List (Addr×Obj)) (s:Shared) (Z:St) (H:Hp) (x:V) (xs:List V) (v:Value) (us:List Value) (Q:VK),Inv X pins Z H s->RelV x v->Vals xs us->r x xs H Q->
  wpAny (model X.prog X.w) X.A (call (.builtin id) (v :: us)) (EP X pins Z Q) X.xe s
variable {s:Shared}{its:List Value}{x:V}
section
variable {X:Cx}{a b:Expr}{ta tb:TE}{pos:Pos}
theorem IxR.or {r r':R2}(h:IxR X r)(h':IxR X r'):IxR X (λx y H Q=>r x y H Q\/r' x y H Q):=by
 intro value slice pins s Z H x y v u Q I rx ry q hs;rcases q with q | q
 ·exact h value slice pins s Z H x y v u Q I rx ry q hs
 ·exact h' value slice pins s Z H x y v u Q I rx ry q hs
theorem Ny {r:R2}(hr:IxR X r)(ha:PE X a ta)(hb:PE X b tb)(hs:He b):PE X (.Subscript a b pos) (tOp r ta tb):=by
 intro pins s Z H Q I h;exact Subscript_ (PL ha hb I h λv u s2 x y H2 I2 rx ry q=>hr a b pins s2 Z H2 x y v u Q I2 rx ry q (hs _ _))
def VN (K:PySem.W.Frag):R2:=λx y H Q=>∃p xs i v,x = .ref p/\y = .int i/\SqL K H p xs/\atI xs i=some v/\Q v H
def VP (K:PySem.W.Frag):R2:=λx y H Q=>∃p xs i v,x = .ref p/\y = .int i/\SqT K H p xs/\atI xs i=some v/\Q v H
def VO:R2:=λx y H Q=>∃z i c,x = .str z/\y = .int i/\z.length<=sizeLine/\atI z.cps.toList i=some c/\Q (.str ⟨#[c]⟩) H
theorem ix_list:IxR X (VN X.K):=by
 intro value slice pins s Z H x y v u Q I rx ry h hs;obtain ⟨p,xs,i,z,rfl,rfl,hq,he,q⟩:=h
 cases rx
 obtain ⟨t,rfl⟩:=ry;obtain ⟨its,r,pl,hz⟩:=I.list hq;obtain ⟨j,h1,h2,h3,h4,h5⟩:=Jh he;obtain ⟨w,ew,rw'⟩:=r.get h2;have hl:=r.length;have hn:=FR;have fin:EP X pins Z Q w s:=⟨z,H,I,rw',q⟩
 by_cases h0:0<=i
 ·have hj:i.toNat=j:=by
   rw [seqIndex_of h0 h5] at h1;exact uj2 h1
  exact item_listR pl.isList h0 (by lia) (by rw [hj];simpa using ew) fin hs
 ·have hj:(i + (its.toArray.size:Int)).toNat=j:=by
   rw [seqIndex_neg (by lia) h4] at h1;rw [ug2,<-hl];exact uj2 h1
  exact subscriptTail_builtinR (x:=w) pl.isList.typeIs slot_list_getitem.lookup
   (wpAny_getItem_list_neg (Q:=λr s'=>r=w/\EP X pins Z Q r s') pl.isList (by lia) (by rw [ug2] <;> lia) (by lia) (by rw [hj];simpa using ew) ⟨rfl,fin⟩) hs
theorem ix_tup:IxR X (VP X.K):=by
 intro value slice pins s Z H x y v u Q I rx ry h hs;obtain ⟨p,xs,i,z,rfl,rfl,hq,he,q⟩:=h
 cases rx
 obtain ⟨t,rfl⟩:=ry;obtain ⟨its,r,pl,hz⟩:=I.tuple hq;obtain ⟨j,h1,h2,h3,h4,h5⟩:=Jh he;obtain ⟨w,ew,rw'⟩:=r.get h2;have hl:=r.length;have hn:=FR;have fin:EP X pins Z Q w s:=⟨z,H,I,rw',q⟩;exact subscriptTail_builtinR (x:=w) pl.typeIs slot_tuple_getitem.lookup
  (getItem_tuple (j:=j) (Q:=λr s'=>r=w/\EP X pins Z Q r s') pl (by lia) (by lia) (by rw [ug2,<-hl];exact h1) (by simpa using ew) ⟨rfl,fin⟩) hs
theorem Va:IxR X VO:=by
 intro value slice pins s Z H x y v u Q I rx ry h hs;obtain ⟨z,i,c,rfl,rfl,hz,he,q⟩:=h;obtain ⟨t,rfl⟩:=rx;obtain ⟨t',rfl⟩:=ry;obtain ⟨j,h1,h2,h3,h4,h5⟩:=Jh he;have hl:z.cps.toList.length=z.length:=by simp [Str.length]
 rw [hl] at h1 h4 h5;have hn:=FR;exact tail_any (typeIs_str s z t) slot_str_getitem.lookup (getItem_str (c:=c) (by
  have e1:decide (i < -(2 ^ 63:Int))=false:=uk7 (by lia);have e2:decide (i ≥ 2 ^ 63)=false:=uk7 (by lia);rw [e1,e2,Bool.or_false]) (by rw [h1];simpa using h2) ⟨.str ⟨#[c]⟩,H,I.tok _,⟨_,rfl⟩,q⟩) hs
def rIx (K:PySem.W.Frag):R2:=λx y H Q=>VN K x y H Q\/VP K x y H Q\/VO x y H Q
theorem U9:IxR X (rIx X.K):=ix_list.or (ix_tup.or Va)
theorem Nn (its:List Value)(n j:Nat)(u:Value):Obj.mapSeq (·.setIfInBounds j u) { cls:=.type "list",data:=.seq its.toArray n } = { cls:=.type "list",data:=.seq (its.set j u).toArray n }:=by
 simp [Obj.mapSeq]
theorem Inv.lst {pins:List (Addr×Obj)}{Z:St}{H:Hp}{s:Shared}{p:Addr}{xs:List V}(I:Inv X pins Z H s)(h:H p=some (.lst xs)) :
 ∃(its:List Value) (n:Nat),Vals xs its/\s.heap.get? p=some { cls:=.type "list",data:=.seq its.toArray n }/\xs.length<=sizeLine:=by
 obtain ⟨z,its,n,r,e⟩:=I.hok p _ h;exact ⟨its,n,r,e,z⟩
theorem Inv.lstUpd {pins:List (Addr×Obj)}{Z:St}{H:Hp}{p:Addr}{xs ys:List V}{its':List Value}{n':Nat}{f:Obj->Obj}(I:Inv X pins Z H s)(h:H p=some (.lst xs))
 (ho:s.heap.get? p=some { cls:=.type "list",data:=.seq its.toArray n }) (hf:f { cls:=.type "list",data:=.seq its.toArray n } = { cls:=.type "list",data:=.seq its'.toArray n' }) (r:Vals ys its') (hz:ys.length<=sizeLine) (t:Nat) :
 Inv X pins Z (upd H p (.lst ys)) { s with heap:=s.heap.update p f,toks:=t }:=by
 have e:(s.heap.update p f).get? p=some { cls:=.type "list",data:=.seq its'.toArray n' }:=by
  rw [ud1 f ho (by rw [hf] <;> rfl),hf]
 refine I.write (x:=p) (e:=p) (by rw [h];trivial) (.inl rfl) (λb u hb q=>(uc0 _ _ (Ne.symm hb)).trans q) ⟨_,e⟩ ?_;exact ⟨hz,its',n',r,e⟩
def W3:V->V->V->Hp->(Hp->Prop)->Prop:=λo i v H Q=>∃p xs k j,o = .ref p/\i = .int k/\H p=some (.lst xs)/\ixN xs.length k=some j/\Q (upd H p (.lst (xs.set j v)))
theorem LV:Uw X W3:=by
 intro pins s Z H o i v ov iv u Q I ro ri rv h;obtain ⟨p,xs,k,j,rfl,rfl,hp,hj,q⟩:=h
 cases ro
 obtain ⟨t,rfl⟩:=ri;obtain ⟨its,n,r,ho,hz⟩:=I.lst hp;obtain ⟨h1,h2,h3,h4⟩:=Mv hj;have hl:=r.length;have hn:=FR;have I':Inv X pins Z (upd H p (.lst (xs.set j v))) { s with heap:=s.heap.update p (Obj.mapSeq (·.setIfInBounds j u)) }:=
  I.lstUpd hp ho (Nn its n j u) (r.set rv j) (by rw [List.length_set];exact hz) s.toks
 by_cases h0:0<=k
 ·have hk:k.toNat=j:=by
   rw [seqIndex_of h0 h4] at h1;exact uj2 h1
  exact PySem.W.ki_setAt ho h0 (by lia) (by rw [ug2,<-hl];exact h4) (by rw [hk];exact ⟨_,I',q⟩)
 ·have hk:(k + (its.toArray.size:Int)).toNat=j:=by
   rw [seqIndex_neg (by lia) h3] at h1;rw [ug2,<-hl];exact uj2 h1
  exact PySem.W.ki_setBack ho (by lia) (by rw [ug2,<-hl];exact h3) (by lia) (by rw [hk];exact ⟨_,I',q⟩)
theorem L0 (lo hi:Option Int)(n:Nat):(sliceBounds lo hi none n).1=((HT.sIx n 0 lo:Nat):Int)/\(sliceBounds lo hi none n).2.1=((HT.sIx n n hi:Nat):Int)/\(sliceBounds lo hi none n).2.2=1:=by
 refine ⟨?_,?_,rfl⟩
 ·cases lo with
  | none=>simp [sliceBounds,HT.sIx]
  | some i=>
    simp only [sliceBounds,HT.sIx,Option.getD_none,show (1:Int) > 0 by decide,if_true]
    by_cases h:i < 0
    ·simp only [h,if_true] <;> lia
    ·simp only [h,if_false] <;> lia
 ·cases hi with
  | none=>simp [sliceBounds,HT.sIx]
  | some i=>
    simp only [sliceBounds,HT.sIx,Option.getD_none,show (1:Int) > 0 by decide,if_true]
    by_cases h:i < 0
    ·simp only [h,if_true] <;> lia
    ·simp only [h,if_false] <;> lia
theorem Kj (its:List Value)(lo hi:Option Int):slicePick its.toArray lo hi none=((its.drop (HT.sIx its.length 0 lo)).take (HT.sIx its.length its.length hi - HT.sIx its.length 0 lo)).toArray:=by
 obtain ⟨h1,h2,h3⟩:=L0 lo hi its.toArray.size;unfold slicePick;rw [h1,h2,h3];simp only [sliceRange_one,pick_run,ug2] <;> rfl
def VS (K:PySem.W.Frag):V->Option Int->Option Int->Hp->VK->Prop:=λx lo hi H Q=>∃a xs,x = .ref a/\SqL K H a xs/\∀p,H p=none->Q (.ref p) (upd H p (.lst (Gb xs lo hi)))
theorem sl_list:SlR X (VS X.K):=by
 intro pins s Z H x v vl vu lo hi sl Q I rx hs pl pu h;obtain ⟨a,xs,rfl,hx,q⟩:=h
 cases rx
 obtain ⟨its,r,ht,hz⟩:=I.list hx;have hlen:=r.length;refine ⟨"list",_,slot_list_getitem.lookup,ht.isList.typeIs,?_⟩;refine wpAny_getItem_list_slice ht.isList hs pl pu .none (by simp) ?_ (by rw [ug2] <;> lia);rw [Kj,<-hlen];refine ⟨.ref s.heap.objs.size,_,I.laid (t':=s.toks) (o:=.lst (Gb xs lo hi)) (λb ob q=>ub8 _ q) (uo3 _) ?_,rfl,q _ (I.hok.fresh (uo3 _))⟩;exact ⟨um5 (HF xs lo hi) hz,_,0,(r.drop (HT.sIx xs.length 0 lo)).take (HT.sIx xs.length xs.length hi - HT.sIx xs.length 0 lo),ue3 _ rfl⟩
noncomputable def Ev:V->Bool
 | .non=>true
 | .bl _=>true
 | .int _=>true
 | .str _=>true
 | _=>false
noncomputable def eqV:V->V->Bool
 | .non,.non=>true
 | .bl a,.bl b=>a == b
 | .bl a,.int b=>(if a then 1 else 0) == b
 | .int a,.bl b=>a == (if b then 1 else 0)
 | .int a,.int b=>a == b
 | .str a,.str b=>a == b
 | _,_=>false
theorem UJ {A:Around}{y:V}{u v:Value}(ry:RelV y u)(rx:RelV x v)(fy:Ev y=true)(fx:Ev x=true):SeqAt.EqAt A s u v (eqV y x):=by
 cases y with
 | non=>
   cases ry
   cases x with
   | non=>cases rx;exact SeqAt.EqAt.same _
   | bl b=>cases rx;exact SeqAt.EqAt.none_bool b
   | int b=>obtain ⟨t,rfl⟩:=rx;exact SeqAt.EqAt.none_int b t
   | str b=>obtain ⟨t,rfl⟩:=rx;exact SeqAt.EqAt.none_str b t
   | _=>exact absurd (show false=true from fx) uf2
 | bl a=>
   cases ry
   cases x with
   | non=>cases rx;exact SeqAt.EqAt.bool_none a
   | bl b=>cases rx;exact SeqAt.EqAt.bool_bool a b
   | int b=>obtain ⟨t,rfl⟩:=rx;exact SeqAt.EqAt.bool_int a b t
   | str b=>obtain ⟨t,rfl⟩:=rx;exact SeqAt.EqAt.bool_str a b t
   | _=>exact absurd (show false=true from fx) uf2
 | int a=>
   obtain ⟨t',rfl⟩:=ry
   cases x with
   | non=>cases rx;exact SeqAt.EqAt.int_none a t'
   | bl b=>cases rx;exact SeqAt.EqAt.int_bool a t' b
   | int b=>obtain ⟨t,rfl⟩:=rx;exact SeqAt.EqAt.int_int a t' b t
   | str b=>obtain ⟨t,rfl⟩:=rx;exact SeqAt.EqAt.int_str a t' b t
   | _=>exact absurd (show false=true from fx) uf2
 | str a=>
   obtain ⟨t',rfl⟩:=ry
   cases x with
   | non=>cases rx;exact SeqAt.EqAt.str_none a t'
   | bl b=>cases rx;exact SeqAt.EqAt.str_bool a t' b
   | int b=>obtain ⟨t,rfl⟩:=rx;exact SeqAt.EqAt.str_int a t' b t
   | str b=>obtain ⟨t,rfl⟩:=rx;exact SeqAt.EqAt.str_str a t' b t
   | _=>exact absurd (show false=true from fx) uf2
 | _=>exact absurd (show false=true from fy) uf2
def eqU (x:V)(u:Value):Bool:=match u with
 | .none=>eqV .non x
 | .bool b=>eqV (.bl b) x
 | .int i _=>eqV (.int i) x
 | .str z _=>eqV (.str z) x
 | _=>false
theorem On {y:V}{u:Value}(r:RelV y u)(f:Ev y=true):eqU x u=eqV y x:=by
 cases y with
 | non=>cases r;rfl
 | bl b=>cases r;rfl
 | int i=>obtain ⟨t,rfl⟩:=r;rfl
 | str z=>obtain ⟨t,rfl⟩:=r;rfl
 | _=>exact absurd (show false=true from f) uf2
theorem Jg {x:V}:∀{xs:List V} {us:List Value},Vals xs us->xs.all Ev=true->us.any (eqU x)=xs.any λy=>eqV y x
 | _,_,.nil,_=>rfl
 | y :: xs,u :: us,.cons r t,f=>by
   rw [ul7,uh7] at f;rw [List.any_cons,List.any_cons,On r f.1,Jg t f.2]
theorem HZ {A:Around}{s:Shared}{x:V}{v:Value}(rx:RelV x v)(fx:Ev x=true):∀{xs:List V} {us:List Value},Vals xs us->xs.all Ev=true->∀u∈us,SeqAt.EqAt A s u v (eqU x u)
 | _,_,.nil,_=>λu hu=>by cases hu
 | y :: xs,u :: us,.cons r t,f=>λu' hu=>by
   rw [ul7,uh7] at f;rcases ul5.mp hu with rfl | hu
   ·rw [On r f.1];exact UJ r rx f.1 fx
   ·exact HZ rx fx t f.2 u' hu
def inV (x:V)(xs:List V):Bool:=xs.any λy=>eqV y x
def rIn (K:PySem.W.Frag)(neg:Bool):R2:=λx y H Q=>∃p xs,y = .ref p/\(SqL K H p xs\/SqT K H p xs)/\Ev x=true/\xs.all Ev=true/\Q (.bl (if neg then !inV x xs else inV x xs)) H
theorem O0:OpR X (compareOp .In) (rIn X.K false):=by
 intro pins s Z H x y v u Q I rx ry h;obtain ⟨p,xs,rfl,hq,fx,fs,q⟩:=h
 cases ry
 rcases hq with hq | hq
 ·obtain ⟨its,r,pl,hz⟩:=I.list hq;refine SeqAt.in_listAt (eqU x) pl.isList (λw hw=>HZ rx fx r fs w (by simpa using hw)) ⟨.bl _,H,I,rfl,?_⟩;rw [show its.toArray.any (eqU x)=its.any (eqU x) by simp,Jg r fs];exact q
 ·obtain ⟨its,r,pl,hz⟩:=I.tuple hq;refine SeqAt.in_tupleAt (eqU x) pl (λw hw=>HZ rx fx r fs w (by simpa using hw)) ⟨.bl _,H,I,rfl,?_⟩;rw [show its.toArray.any (eqU x)=its.any (eqU x) by simp,Jg r fs];exact q
theorem K0:BI X (.builtin "len") (λxs H Q=>∃p ys,xs=[.ref p]/\(SqL X.K H p ys\/SqT X.K H p ys)/\Q (.int ys.length) H):=by
 intro pins s Z H xs us Q I r h;obtain ⟨p,ys,rfl,hq,q⟩:=h;obtain ⟨u,rfl,rx⟩:=Dm r
 cases rx
 have hn:=FR;rcases hq with hq | hq
 ·obtain ⟨its,r',pl,hz⟩:=I.list hq;have hlen:=r'.length;exact Calls.call_len_list pl.isList (by simp only [ug2] <;> lia) ⟨.int ys.length,H,I.tok _,⟨s.toks + 1,by rw [ug2,hlen]⟩,q⟩
 ·obtain ⟨its,r',pl,hz⟩:=I.tuple hq;have hlen:=r'.length;exact len_tuple pl (by simp only [ug2] <;> lia) ⟨.int ys.length,H,I.tok _,⟨s.toks + 1,by rw [ug2,hlen]⟩,q⟩
theorem K1:BI X (.type "list") (λxs H Q=>∃p ys,xs=[.ref p]/\(SqL X.K H p ys\/SqT X.K H p ys)/\∀l,H l=none->Q (.ref l) (upd H l (.lst ys))):=by
 intro pins s Z H xs us Q I r h;obtain ⟨p,ys,rfl,hq,q⟩:=h;obtain ⟨u,rfl,rx⟩:=Dm r
 cases rx
 have fin:∀(its:List Value),Vals ys its->ys.length<=sizeLine->∀(h':Heap) (c':Nat),(∀b o',s.heap.get? b=some o'->h'.get? b=some o')->
  h'.get? s.heap.objs.size=some { cls:=.type "list",dict:=none,data:=.seq its.toArray c',slots:=#[] }->EP X pins Z Q (.ref s.heap.objs.size) { s with heap:=h' }:=λits r' hz h' c' kp e=>
  ⟨.ref s.heap.objs.size,_,I.laid (t':=s.toks) kp (uo3 _) (show ObjOk X.prog X.w _ h' _ (.lst ys) from ⟨hz,its,c',r',e⟩),rfl,q _ (I.hok.fresh (uo3 _))⟩
 rcases hq with hq | hq
 ·obtain ⟨its,r',pl,hz⟩:=I.list hq;have hlen:=r'.length;obtain ⟨o,ho,hc,n,hd⟩:=pl.isList;exact call_list_seq p (.inl rfl) ho hc hd (λh' c' kp e=>fin its r' hz h' c' kp e) (by simp only [ug2] <;> lia)
 ·obtain ⟨its,r',pl,hz⟩:=I.tuple hq;have hlen:=r'.length;obtain ⟨o,ho,hc,n,hd⟩:=pl;exact call_list_seq p (.inr rfl) ho hc hd (λh' c' kp e=>fin its r' hz h' c' kp e) (by simp only [ug2] <;> lia)
theorem Kh:BI X (.type "tuple") (λxs H Q=>∃p ys,xs=[.ref p]/\((SqL X.K H p ys/\∀l,H l=none->Q (.ref l) (upd H l (.tup ys)))\/(SqT X.K H p ys/\Q (.ref p) H))):=by
 intro pins s Z H xs us Q I r h;obtain ⟨p,ys,rfl,h⟩:=h;obtain ⟨u,rfl,rx⟩:=Dm r
 cases rx
 rcases h with ⟨hq,q⟩ | ⟨hq,q⟩
 ·obtain ⟨its,r',pl,hz⟩:=I.list hq;have hlen:=r'.length;refine call_tuple_list pl.isList (λh' kp=>?_) (by simp only [ug2] <;> lia);have I1:Inv X pins Z H { s with heap:=h' }:=I.kept (t':=s.toks) kp;have I2:Inv X pins Z (upd H h'.objs.size (.tup ys)) { s with heap:=h'.push { cls:=.type "tuple",data:=.seq its.toArray } }:=
   I1.laid (t':=s.toks) (λb o e=>ub8 _ e) (uo3 _) (show ObjOk X.prog X.w _ _ _ (.tup ys) from ⟨hz,its,r',IsTup.new _ _⟩)
  exact ⟨.ref h'.objs.size,_,I2,rfl,q _ (I1.hok.fresh (uo3 _))⟩
 ·obtain ⟨its,r',pl,hz⟩:=I.tuple hq;exact call_tuple_same pl ⟨.ref p,H,I,rfl,q⟩
def tyV (K:PySem.W.Frag)(T:String)(x:V)(H:Hp):Prop:=match x with
 | .str _=>T = "str"
 | .int _=>T = "int"
 | .ref p=>(T = "list"/\∃xs,SqL K H p xs)\/(T = "tuple"/\∃o,K.lookup p=some o/\o.cls = .type "tuple"/\o.dict=none)\/
    (T = "dict"/\((∃kvs,H p=some (.dK kvs))\/∃kvs,H p=some (.dT kvs)))\/(T = "set"/\∃S n,H p=some (.set S n))
 | _=>False
theorem Wh {pins:List (Addr×Obj)}{Z:St}{H:Hp}{T:String}{v:Value}(I:Inv X pins Z H s)(r:RelV x v)(ty:tyV X.K T x H) :
 s.TypeIs v T/\∀a,v = .ref a->∃ob,s.heap.get? a=some ob/\ob.dict=none:=by
 cases x with
 | str z=>
   obtain ⟨t,rfl⟩:=r
   cases (show T = "str" from ty)
   exact ⟨typeIs_str s z t,λ_ e=>nomatch e⟩
 | int i=>
   obtain ⟨t,rfl⟩:=r
   cases (show T = "int" from ty)
   exact ⟨typeIs_int s i t,λ_ e=>nomatch e⟩
 | ref p=>
   cases r
   rcases ty with ⟨rfl,xs,hq⟩ | ⟨rfl,o,hk,hc,hd⟩ | ⟨rfl,hk⟩ | ⟨rfl,S,n,hk⟩
   ·obtain ⟨its,_,pl,_⟩:=I.list hq;refine ⟨pl.isList.typeIs,λa e=>?_⟩
    cases e
    obtain ⟨o,n,e,c,hd,_⟩:=pl;exact ⟨o,e,hd⟩
   ·refine ⟨⟨o,I.kIn p o hk,hc⟩,λa e=>?_⟩
    cases e
    exact ⟨o,I.kIn _ o hk,hd⟩
   ·have z:∃o,s.heap.get? p=some o/\o.ExactDict:=by
     rcases hk with ⟨kvs,hk⟩ | ⟨kvs,hk⟩
     ·obtain ⟨_,_,_,_,o,_,_,e,ex,_⟩:=I.hok p _ hk;exact ⟨o,e,ex⟩
     ·obtain ⟨_,_,_,_,o,_,_,e,ex,_⟩:=I.hok p _ hk;exact ⟨o,e,ex⟩
    obtain ⟨o,e,ex⟩:=z;refine ⟨⟨o,e,ex.1⟩,λa e2=>?_⟩
    cases e2
    exact ⟨o,e,ex.2.1⟩
   ·obtain ⟨o,_,_,_,e,ex,_⟩:=I.hok p _ hk;refine ⟨⟨o,e,ex.1⟩,λa e2=>?_⟩
    cases e2
    exact ⟨o,e,ex.2.1⟩
 | _=>exact False.elim ty
def tBM (K:PySem.W.Frag)(T:String)(r:V->List V->Hp->VK->Prop)(to:TE)(t:TA):TE:=λZ H Q=>to Z H λx H1=>tyV K T x H1/\t Z H1 λxs H2=>r x xs H2 Q
variable {o e:Expr}{es:List Expr}{to:TE}{t:TA}{name:Str}{apos cpos:Pos}{T id:String}{r:V->List V->Hp->VK->Prop}
theorem Nx (pa:PlainAttrs T)(slot:Slot T name id)(hty:typeOf (.builtin id)=pure (.type "method_descriptor"))(hm:MtR X id r)(ho:PE X o to)(ha:PA X (e :: es) t)
 (hbase:attributeBase o name X.env (eval o X.env)=eval o X.env:=by rfl)
 (hfew:((backTo cpos (starEach (e :: es) X.env)).all (λx=>!x.1) && (backToKw cpos (keywordEach [] X.env)).all (λx=>x.1.isSome)
   && decide ((e :: es).length + ([]:List Keyword).length + (if ([]:List Keyword).isEmpty then 0 else 1) < 30))=true:=by rfl)
 (hline:(apos.endLine == cpos.line)=true:=by rfl) (hs:starEach (e :: es) X.env=(false,eval e X.env) :: starEach es X.env:=by rfl) (hplain:(backTo cpos (starEach es X.env)).any (·.1)=false:=by rfl) :
 PE X (.Call (.Attribute o name apos) (e :: es) [] cpos) (tBM X.K T r to t):=by
 intro pins s Z H Q I h;refine wpAny_Call_method_late hbase hfew hline rfl (thn (ho pins s Z H _ I h) λv s1 z9=>?_);obtain ⟨x,H1,I1,r1,ty,q1⟩:=z9;obtain ⟨h1,h2⟩:=Wh I1 r1 ty;refine ⟨T,id,pa,slot,hty,h1,h2,?_⟩;have hA:=ha cpos pins s1 Z H1 _ I1 q1;rw [hs] at hA ⊢;refine Calls.callWith_builtin (by show (false || (backTo cpos (starEach es X.env)).any (·.1))=false;rw [hplain] <;> rfl) (Calls.evalArgs_plain ?_);exact thn hA λus s2 ⟨vs,H2,I2,r2,q2⟩=>hm pins s2 Z H2 x vs v us Q I2 r1 r2 q2
/- xs.append(e),list.index on a module's tuple .. are MtR facts of 06m -/
end
def MtM (X:Cx)(id:String)(r:V->List V->Hp->VK->Prop):Prop:=
 ∀(pins:List (Addr×Obj)) (s:Shared) (Z:St) (H:Hp) (x:V) (xs:List V) (v:Value) (us:List Value) (Q:VK),Inv X pins Z H s->RelV x v->Vals xs us->r x xs H Q->
  wpAny (model X.prog X.w) X.A (call (.builtin id) (v :: us)) (EP X pins Z Q) X.xe s
theorem Vals.one {us:List Value}(h:Vals [x] us):∃u,us=[u]/\RelV x u:=by
 cases h with
 | cons r t=>
   cases t
   exact ⟨_,rfl,r⟩
theorem Vals.rep {xs:List V}{us:List Value}(h:Vals xs us):∀k:Nat,Vals (List.replicate k xs).flatten (List.replicate k us).flatten
 | 0=>.nil
 | k + 1=>by
   rw [ue4,ue4,ug4,ug4];exact Vals.append h (Vals.rep h k)
theorem GQ (its:List Value):∀(k:Nat) (acc:List Value),
 List.foldl (λx1 x2=>x1++x2) acc.toArray (List.replicate k its.toArray)=(acc++(List.replicate k its).flatten).toArray
 | 0,acc=>by simp
 | k + 1,acc=>by
   have e:acc.toArray++its.toArray=(acc++its).toArray:=by simp
   have e2:(acc++its)++(List.replicate k its).flatten=acc++(List.replicate (k + 1) its).flatten:=by
    rw [ue4,ug4,ug5]
   rw [<-e2,<-GQ its k (acc++its),<-e,ue4,uj8]
section
variable {X:Cx}{pins:List (Addr×Obj)}{Z:St}{H:Hp}{s:Shared}{l b:Addr}{xs ys zs:List V}
theorem Inv.lset {its':List Value}{f:Array Value->Array Value}{t':Nat}(I:Inv X pins Z H s)(hH:H l=some (.lst xs))
 (e:s.heap.get? l=some { cls:=.type "list",data:=.seq its.toArray n }) (hf:f its.toArray=its'.toArray) (hv:Vals ys its') (hz:ys.length<=sizeLine) :
 Inv X pins Z (upd H l (.lst ys)) { s with heap:=s.heap.update l (Obj.mapSeq f),toks:=t' }:=by
 have q:=PySem.IsL.update e f;rw [hf] at q;refine I.write (x:=l) (e:=l) (by rw [hH];exact trivial) (.inl rfl) (λb' u hb hu=>(uc0 s.heap (Obj.mapSeq f) (Ne.symm hb)).trans hu) ⟨_,q⟩ ?_;exact ⟨hz,its',_,hv,q⟩
theorem Inv.lnew {t':Nat}(I:Inv X pins Z H s)(hv:Vals ys its)(hz:ys.length<=sizeLine) :
 Inv X pins Z (upd H s.heap.objs.size (.lst ys)) { s with heap:=s.heap.push { cls:=.type "list",data:=.seq its.toArray },toks:=t' }:=
 I.laid (λ_ _ q=>ub8 _ q) (uo3 _) ⟨hz,its,0,hv,ue3 _ rfl⟩
theorem Inv.fresh (I:Inv X pins Z H s):H s.heap.objs.size=none:=I.hok.fresh (uo3 _)
theorem Inv.lstM (I:Inv X pins Z H s)(hH:H l=some (.lst xs)):xs.length<=sizeLine/\∃(its:List Value) (n:Nat),Vals xs its/\xs.length=its.length/\s.heap.get? l=some { cls:=.type "list",data:=.seq its.toArray n }:=by
 obtain ⟨z,its,n,r,e⟩:=I.hok l _ hH;exact ⟨z,its,n,r,r.length,e⟩
theorem Ib (h:n<=sizeLine):Builtin.List.listTooLong n=false:=by
 unfold Builtin.List.listTooLong;exact uk7 (by lia)
end
section
variable {X:Cx}
def MI:V->List V->Hp->VK->Prop:=λx vs H Q=>∃l xs y,x = .ref l/\vs=[y]/\H l=some (.lst xs)/\xs.length < sizeLine/\Q .non (upd H l (.lst (xs++[y])))
theorem OR:MtM X "list.append" MI:=by
 intro pins s Z H x vs v us Q I rx rv h;obtain ⟨l,xs,y,rfl,rfl,hH,hz,q⟩:=h
 cases rx
 obtain ⟨u,rfl,ru⟩:=rv.one;obtain ⟨z,its,n,r,hl,e⟩:=I.lstM hH;refine call_meets F.slot_list_append ⟨_,e,rfl⟩ F.entry_list_append (F.args_list_append_2 _ _) (PySem.list_append l its.toArray n u (by rw [ug2];lia)) ⟨e,?_⟩;refine ⟨.non,_,I.lset (its':=its++[u]) hH e (by simp) (r.append (.cons ru .nil)) ?_,rfl,q⟩;rw [uf6,ud2];lia
def MJ:V->List V->Hp->VK->Prop:=λx vs H Q=>∃l b xs zs,x = .ref l/\vs=[.ref b]/\H l=some (.lst xs)/\H b=some (.lst zs)/\xs.length + zs.length<=sizeLine/\Q .non (upd H l (.lst (xs++zs)))
theorem mt_extend:MtM X "list.extend" MJ:=by
 intro pins s Z H x vs v us Q I rx rv h;obtain ⟨l,b,xs,zs,rfl,rfl,hH,hB,hz,q⟩:=h
 cases rx
 obtain ⟨u,rfl,ru⟩:=rv.one
 cases ru
 obtain ⟨z,its,n,r,hl,e⟩:=I.lstM hH;obtain ⟨z2,its2,n2,r2,hl2,e2⟩:=I.lstM hB;have hsz:its.toArray.size + its2.toArray.size<=sizeLine:=by rw [ug2,ug2];lia
 have hlong:¬(!its.toArray.isEmpty && Builtin.List.listTooLong (its.toArray.size + its2.toArray.size))=true:=by
  rw [Ib hsz,ul0];exact uf2
 refine call_meets F.slot_list_extend ⟨_,e,rfl⟩ F.entry_list_extend (F.args_list_extend_2 _ _)
  (AutoSeq1.list_extend_list_list_0 l its.toArray n b its2.toArray n2 hlong (by rw [ug2];lia) (by lia)) ⟨e,e2,?_⟩
 refine ⟨.non,_,I.lset (its':=its++its2) hH e (by simp) (r.append r2) ?_,rfl,q⟩;rw [uf6];lia
def QL:R2:=λx y H Q=>∃l b xs zs,x = .ref l/\y = .ref b/\H l=some (.lst xs)/\H b=some (.lst zs)/\xs.length + zs.length<=sizeLine/\∀p,H p=none->Q (.ref p) (upd H p (.lst (xs++zs)))
theorem op_cat:OpR X (binaryOp .Add) QL:=by
 intro pins s Z H x y v u Q I rx ry h;obtain ⟨l,b,xs,zs,rfl,rfl,hH,hB,hz,q⟩:=h
 cases rx
 cases ry
 obtain ⟨z,its,n,r,hl,e⟩:=I.lstM hH;obtain ⟨z2,its2,n2,r2,hl2,e2⟩:=I.lstM hB;refine PySem.P.add_list e e2 ?_ (by rw [ug2,ug2];lia);have ea:its.toArray++its2.toArray=(its++its2).toArray:=by simp
 rw [ea];exact ⟨.ref _,_,I.lnew (t':=s.toks) (r.append r2) (by rw [uf6];lia),rfl,q _ I.fresh⟩
def VQ:R2:=λx y H Q=>∃l k xs,x = .ref l/\y = .int k/\H l=some (.lst xs)/\-(2 ^ 63)<=k/\k < 2 ^ 63/\xs.length * k.toNat<=sizeLine/\
 ∀p,H p=none->Q (.ref p) (upd H p (.lst (List.replicate k.toNat xs).flatten))
theorem Jx (xs:List α)(k:Nat):(List.replicate k xs).flatten.length=k * xs.length:=by
 induction k with
 | zero=>simp
 | succ k ih=>rw [ue4,ug4,uf6,ih,Nat.succ_mul,um9]
theorem Vp:OpR X (binaryOp .Mult) VQ:=by
 intro pins s Z H x y v u Q I rx ry h;obtain ⟨l,k,xs,rfl,rfl,hH,h1,h2,hz,q⟩:=h
 cases rx
 obtain ⟨t,rfl⟩:=ry;obtain ⟨z,its,n,r,hl,e⟩:=I.lstM hH;have hlen:its.toArray.size * k.toNat<=sizeLine:=by rw [ug2,<-hl];exact hz
 have hcap:¬its.toArray.size * k.toNat > (2 ^ 63 - 1) / 8:=by
  have:(sizeLine:Nat)<=(2 ^ 63 - 1) / 8:=by decide
  lia
 have hfit:¬(!Builtin.List.listFitsIndex k)=true:=by
  rw [fitsIndex_both h1 h2];exact uf2
 have hlong:¬Builtin.List.listTooLong (its.toArray.size * k.toNat)=true:=by
  rw [Ib hlen];exact uf2
 have hnew:List.foldl (λx1 x2=>x1++x2) #[] (List.replicate (if its.toArray.isEmpty=true then 0 else k.toNat) its.toArray)=(List.replicate k.toNat its).flatten.toArray:=by
  have f0:∀m:Nat,List.foldl (λx1 x2=>x1++x2) #[] (List.replicate m its.toArray)=(List.replicate m its).flatten.toArray:=λm=>by
   have:=GQ its m [];rw [uj9] at this;exact this
  rw [f0]
  cases its with
  | nil=>simp
  | cons a r'=>rw [if_neg (by simp)]
 refine wpAny_binaryOp_repeat_ref (T:="list") (U:="int") (by decide) ⟨_,e,rfl⟩ (λs'=>typeIs_int s' k t) noFill_list_mul F.fills_int_mul F.slot_int_rmul repeat_list F.slot_int_index.lookup
  (call_meets F.slot_int_rmul (typeIs_int s k t) F.entry_int_rmul (F.args_int_rmul_2 _ _) (int___rmul___int_list k t l its.toArray n)
    ⟨e,rfl,⟨_,e,rfl⟩,call_meets F.slot_list_mul ⟨_,e,rfl⟩ F.entry_list_mul (F.args_list_mul_2 _ _) (AutoListH.list___mul___list_int_3 l its.toArray n k t hfit hcap hlong) ⟨e,?_⟩⟩)
 rw [hnew];exact ⟨.ref _,_,I.lnew (t':=s.toks) (r.rep k.toNat) (by rw [Jx,un0];exact hz),rfl,q _ I.fresh⟩
end
section
variable {prog:Program}{w:World}{A:Around}{E:Value->Shared->Prop}{s:Shared}
end
section
variable {X:Cx}
end
end L2
namespace Att
open PySem PySem.W PySem.Calls PyProof.Rows
theorem IM {P:Params}{h:Heap}:∀(ns:List Int) (vs:List Value),WellAll P h vs (ns.map WData.int)->IntsAre vs ns:=by
 intro ns
 induction ns with
 | nil=>
   intro vs w;rw [um8] at w
   cases w
   exact .nil
 | cons n ns ih=>
   intro vs w;rw [ul6] at w
   cases w with
   | cons a b=>
     cases a
     exact .cons _ _ (ih _ b)
theorem Pj {l:OpenLaw}{n:Nat}(hn:l.most=some n){P:Params}{h:Heap}{args:List WData}{vals:List Value}
 (hpre:l.row.toRowW.claim.pre args=true) (hwl:WellAll P h vals args) :
 ∃a vs ns,vals=[Value.ref a]/\args=[WData.list (ns.map WData.int)]/\h.get? a=some { cls:=.type "list",data:=.seq vs.toArray }/\IntsAre vs ns/\ns.length<=n:=by
 have hsh:WShape.hasAll [] args [.list .int]=true:=(pre_splitW hpre).1;have hc:l.pre.holds [] { args:=args }=true:=(pre_splitW hpre).2;obtain ⟨d,r,rfl,h1,h2⟩:=hasAllW_cons hsh;obtain rfl:=hasAllW_nil h2;obtain ⟨xs,rfl,h3⟩:=hasW_list h1;obtain ⟨ns,rfl⟩:=items_int h3;have hlen:ns.length<=n:=by
  unfold OpenLaw.pre at hc;have h4:(WTm.not (.lt (.lit (.int (n:Int))) (.len (.arg 0)))).holds [] { args:=[.list (ns.map .int)] }=true:=by
   have h4:=(holds_andW hc).1;rw [hn] at h4;exact h4
  have h5:=condW_of h4 (w_not (w_lt w_lit (w_len_list (w_arg rfl))));rw [uj7] at h5;refine Nat.le_of_not_lt λq=>?_;have q':(n:Int) < ((ns.length:Nat):Int):=by lia
  first
   | (rw [ul3 q'] at h5;exact absurd h5 (by decide))
   | (simp at h5;lia)
 cases hwl with
 | cons w1 w2=>
   cases w2
   cases w1 with
   | list ho hall=>exact ⟨_,_,ns,rfl,rfl,ho,IM ns _ hall,hlen⟩
theorem Pb (l:OpenLaw)(args:List WData):l.row.toRowW.claim.post args (.bool true) args=true:=
 postW_of (r:=l.row.toRowW) (X:=(true == true))
  (show WShape.has [] (.bool true) .bool=true by first | rfl | decide | simp [WShape.has,WShape.arms,WShape.armsAll])
  (show (WTm.eq .res (.lit (.bool true))).value [] { args:=args,res:=some (.bool true),after:=args }=some (.bool (true == true)) from w_eq_bool (w_res rfl) w_lit) rfl
theorem attach_call {l:OpenLaw}{n:Nat}{q:Program}{loose:List Str}{XP:(Str->Option Value)->Heap->Prop}{YP:World->Heap->Prop}{d:DefRec}
 (hn:l.most=some n) (hdf:d.params.defaults=[])
 (call:∀(w:World) (s₀ s₁:Shared) (mg mb:Str->Option Value) (fa:Addr) (o:Obj) (pm cd doc:Value) (a:Addr) (vs:List Value) (ns:List Int),
   Ground q loose [] XP w s₀ mg mb s₁.heap->YP w s₁.heap->
   s₁.heap.get? fa=some o->o.data = .func (docDef d.name d.params d.body d.scope pm cd doc)->s₁.heap.CodeRec cd d.name->mg d.name=some (.ref fa)->
   s₁.heap.get? a=some { cls:=.type "list",data:=.seq vs.toArray }->IntsAre vs ns->ns.length<=n->s₁.gens=#[]->
   codeAny (model l.prog w) callerA (.call (.ref fa) ⟨[.ref a],[]⟩) (λr s'=>r = .ok (.ret (.bool true))/\OldK s₁.heap s'.heap/\s'.os=s₁.os/\AllBare s'.gens) s₁) :
 WalkO q loose XP YP l.row.toRowW d [] (λf vs=>PySem.call f vs):=by
 intro w s₀ s₁ mg mb G Y fa o pm cd doc dV kV ho hd hcd hD hmg hg args vals as hpre hlay hrd hwl hlo;obtain rfl:dV = .none:=Dflts.none hD hdf;obtain rfl:kV = .none:=Dflts.noKw hD;obtain ⟨a,vs,ns,rfl,rfl,hobj,hints,hlen⟩:=Pj hn hpre hwl;refine enter_call (codeAny_mono (call w s₀ s₁ mg mb fa o pm cd doc a vs ns G Y ho (fd_plain hd) hcd hmg hobj hints hlen hg) λr s' hq=>?_);obtain ⟨rfl,h2,h3,h4⟩:=hq;exact ⟨.inl ⟨.bool true,.bool true,[],rfl,λ_=>rfl,.bool true,Pb l _,λ_=>⟨List.Pairwise.nil,λ_ hm=>(nomatch hm)⟩⟩,h2,h3,h4⟩
section
variable {prog:Program}{w:World}{A:Around}{E:Value->Shared->Prop}{s:Shared}{K:Frag}
noncomputable def Zn (h:Heap)(L d:Addr):List (Addr×Obj):=(List.range h.objs.size).filterMap λa=>if a=L\/a=d then none else (h.get? a).map λo=>(a,o)
end
end Att
namespace L2
open PySem PySem.Spec PyProof.Rows
theorem Kb:∀{vs:List Value} {ns:List Int},IntsAre vs ns->Vals (ns.map V.int) vs
 | _,_,.nil=>.nil
 | _,_,.cons n t h=>.cons ⟨t,rfl⟩ (Kb h)
def MV (H:Hp):Prop:=∀b,H b=none\/∃o xs,H b=some (.frz o (.lst xs))
variable {k:Nat}{fd:FuncData}{x:Str}
theorem Qi {P:Program}{w:World}{K:PySem.W.Frag}{mg mb:Str->Option Value}{CX:CXT}{fa a:Addr}{sp:Sp}{s₁:Shared}{vs:List Value}{ns:List Int}
 (KX:K.In s₁.heap) (hns:s₁.heap.Ns mainGlobals mg) (hb:s₁.heap.Ns builtinsNs mb) (hbb:∀x:Str,x≠"__name__"->mb x=bootBuiltins x) (hlim:s₁.heap.NoLimit) (hg:s₁.gens=#[])
 (ha:s₁.heap.get? a=some { cls:=.type "list",data:=.seq vs.toArray }) (hi:IntsAre vs ns) (hl:ns.length<=sizeLine) (hr:Room k callerA)
 (F:∀base:Heap,K.In base->base.Ns mainGlobals mg->FnOk P w K mg base CX k fa fd [x] sp) (hbind:∀(s:Shared) (u:Value),BindsTo s fd ⟨[u],[]⟩ [(x,u)])
 (hsp:∀H:Hp,MV H->SqL K H a (ns.map V.int)->sp [.ref a] H (λv _=>v = .bl true) λ_ _ _=>False)
 (hCX:∀H e s',CX [] H s₁ (λ_ _ _=>False) e s'->False) :
 codeAny (model P w) callerA (.call (.ref fa) ⟨[.ref a],[]⟩) (λr s'=>r = .ok (.ret (.bool true))/\OldK s₁.heap s'.heap/\s'.os=s₁.os/\AllBare s'.gens) s₁:=by
 have rv:=Kb hi;have lenV:=hi.length
 -- from an abstract heap in which nothing but the script may be tracked
 have core:∀H:Hp,MV H->SqL K H a (ns.map V.int)->HOk P w H s₁.heap->(∀b,H b≠none->b=a)->(H a≠none->K.lookup a=none)->
  codeAny (model P w) callerA (.call (.ref fa) ⟨[.ref a],[]⟩) (λr s'=>r = .ok (.ret (.bool true))/\OldK s₁.heap s'.heap/\s'.os=s₁.os/\AllBare s'.gens) s₁:=by
  intro H hO hS hok hA hK;have base_of:∀{b:Addr} {o:Obj},s₁.heap.get? b=some o->H b=none->(Gj s₁.heap H).get? b=some o:=λe n=>Qe e n;have noA:∀{b:Addr} {o:Obj} {es:Array DictEntry} {ep:Nat},s₁.heap.get? b=some o->o.data = .dict es ep->H b=none:=λ{b o es ep} e d=>by
   cases q:H b with
   | none=>rfl
   | some u=>
     have e':b=a:=hA b (by rw [q];simp);subst e';rw [ha] at e;cases e
     have d':Data.seq vs.toArray _=Data.dict es ep:=d
     cases d'
  have nsK:∀{b:Addr} {m:Str->Option Value},s₁.heap.Ns b m->(Gj s₁.heap H).Ns b m:=λ{b m} ⟨o,es,ep,e,d,r⟩=>⟨o,es,ep,base_of e (noA e d),d,r⟩;have hKb:K.In (Gj s₁.heap H):=λb o e=>base_of (KX b o e) (by
   cases q:H b with
   | none=>rfl
   | some u=>
     have e':b=a:=hA b (by rw [q];simp);subst e';rw [hK (by rw [q];simp)] at e;cases e)
  have hM:Mod K mg (Gj s₁.heap H):=⟨hKb,nsK hns,⟨mb,nsK hb,hbb⟩,let ⟨mc,h1,h2⟩:=hlim;⟨mc,nsK h1,h2⟩⟩;have e0:Env0 P w K mg (Gj s₁.heap H) callerA [] s₁ H:=⟨rfl,hM,λb o e=>SO e,un1 (OD _ _),trivial,λb hb=>absurd (show b∈([]:List Addr) from hb) (by simp),hok,.of_eq hg⟩;refine codeAny_mono ((F _ hKb (nsK hns)).run callerA [] s₁ H ⟨[.ref a],[]⟩ [.ref a] [.ref a] _ _ hr e0 (hbind s₁ (.ref a)) (.cons rfl .nil) (hsp H hO hS)) λr s' h=>?_
  cases r with
  | error e=>exact (hCX H e s' h).elim
  | ok fl=>
    cases fl with
    | next=>exact False.elim h
    | brk=>exact False.elim h
    | cont=>exact False.elim h
    | ret u=>
      obtain ⟨v,H',os,bare,un,hok',r',q⟩:=h;have q':v = .bl true:=q;subst q';obtain rfl:u=Value.bool true:=r';refine ⟨rfl,OldK.of_keep λb o e=>?_,os,bare⟩
      cases q:H b with
      | none=>exact un.keep b o e q (by intro z;exact absurd (show b∈([]:List Addr) from z) (by simp)) (by simp)
      | some u=>
        rcases hO b with z | ⟨ob,xs,z⟩
        ·rw [q] at z;cases z
        ·have z2:=un.frzs b ob _ z;obtain ⟨e1,_⟩:=hok b _ z;obtain ⟨e2,_⟩:=hok' b _ z2;rw [e] at e1;cases e1
         exact e2
 cases hk:K.lookup a with
 | some o=>
   -- the script is one of the module's own objects
   have e:=KX a o hk;rw [ha] at e
   cases e
   refine core (λ_=>none) (λ_=>.inl rfl) (.inr ⟨_,vs.toArray,_,hk,rfl,rfl,rfl,by rw [ug2,lenV];exact hl,by simpa using rv⟩) (λb u z=>by have z':(none:Option HO)=some u:=z;cases z') (λb z=>absurd rfl z) λz=>absurd rfl z
 | none=>
   refine core (λb=>if b=a then some (.frz { cls:=.type "list",data:=.seq vs.toArray } (.lst (ns.map V.int))) else none) (λb=>?_) (.inl (.inr ⟨{ cls:=.type "list",data:=.seq vs.toArray },if_pos rfl⟩)) (λb u z=>?_) (λb z=>?_) λ_=>hk
   ·by_cases hb:b=a
    ·exact .inr ⟨_,_,if_pos hb⟩
    ·exact .inl (if_neg hb)
   ·by_cases hb:b=a
    ·have z':=(if_pos hb).symm.trans z
     cases z'
     subst hb;exact ⟨ha,by rw [uj7];exact hl,vs,_,rv,ha⟩
    ·have z':=(if_neg hb).symm.trans z
     cases z'
   ·by_cases hb:b=a
    ·exact hb
    ·exact absurd (if_neg hb) z
theorem Um {l:PySem.W.OpenLaw}{n:Nat}{q:Program}{loose:List Str}{XP:(Str->Option Value)->Heap->Prop}{YP:World->Heap->Prop}{d:DefRec}{K:Params->PySem.W.Frag}{CX:World->CXT}{sp:World->Sp}
 (hn:l.most=some n) (hn2:n<=sizeLine) (hdf:d.params.defaults=[]) (hr:Room k callerA)
 (hY:∀(w:World) (h:Heap),YP w h->(K w.params).In h)
 (F:∀(w:World) (mg:Str->Option Value) (fa:Addr) (h:Heap),(K w.params).In h->h.Ns mainGlobals mg->mg d.name=some (.ref fa)->
   ∃fd:FuncData,(∀(s:Shared) (u:Value),BindsTo s fd ⟨[u],[]⟩ [(x,u)])/\
    ∀base:Heap,(K w.params).In base->base.Ns mainGlobals mg->FnOk l.prog w (K w.params) mg base (CX w) k fa fd [x] (sp w))
 (hsp:∀(w:World) (H:Hp) (a:Addr) (ns:List Int),ns.length<=n->MV H->SqL (K w.params) H a (ns.map V.int)->sp w [.ref a] H (λv _=>v = .bl true) λ_ _ _=>False)
 (hCX:∀(w:World) (H:Hp) (s:Shared) (e:Value) (s':Shared),CX w [] H s (λ_ _ _=>False) e s'->False) :
 PySem.W.WalkO q loose XP YP l.row.toRowW d [] (λf vs=>PySem.call f vs):=by
 refine Att.attach_call hn hdf λw s₀ s₁ mg mb fa o pm cd doc a vs ns G Y ho hd hcd hmg hobj hints hlen hg=>?_;have KX:=hY w _ Y;obtain ⟨fd,hb,hF⟩:=F w mg fa _ KX G.T.g hmg;exact Qi KX G.T.g G.T.b G.T.builtins G.T.nolimit hg hobj hints (um5 hlen hn2) hr hF hb (λH hO hS=>hsp w H a ns hlen hO hS) λH e s'=>hCX w H s₁ e s'
noncomputable def DJ (s:Stmt):Arguments:=match s with
 | .FunctionDef _ a _ _ _ _ _ _ _ _=>a
 | _=>{ posonlyargs:=[],args:=[],vararg:=none,kwonlyargs:=[],kw_defaults:=[],kwarg:=none,defaults:=[] }
noncomputable def By (s:Stmt):List Stmt:=match s with
 | .FunctionDef _ _ b _ _ _ _ _ _ _=>b
 | _=>[]
noncomputable def Ay (s:Stmt):Scope:=match s with
 | .FunctionDef _ _ _ _ _ _ sc _ _ _=>sc
 | _=>{ kind:=.function,names:=[],isGenerator:=false,isCoroutine:=false }
abbrev CX0:CXT:=λ_ _ _ _ _ _=>False
abbrev E0:XK:=λ_ _ _=>False
theorem Nw {X:Cx}:Iu CX0 X E0:=λ_ _ _ _ _ _ _ h=>h.elim
structure Fun (K:PySem.W.Frag)(x qual:Str)(st:Stmt)(f:Addr)(fd:FuncData):Prop where
 ex:∃(oc:Value) (od:Option Addr) (kV doc pm:Value) (an:Option Addr) (cdv ct:Value) (osl:Array (Option Value)),
  fd=PySem.W.fnOf x qual (DJ st) (By st) (Ay st) .none kV doc pm an cdv ct/\K.lookup f=some ⟨oc,od,.func fd,osl⟩/\PySem.W.codeIn K cdv qual=true
 kp:PySem.W.keepIn K (.ref f)=true
variable {qual:Str}{f:Addr}
section
variable {P:Program}{w:World}{K:PySem.W.Frag}{mg:Str->Option Value}{base:Heap}
theorem Fun.ok {st:Stmt}{N ps:List Str}{sp:Sp}(F:Fun K x qual st f fd)(S:FnScope N ps (Ay st))(len:∀vs H Q E,sp vs H Q E->vs.length=ps.length)
 (hbody:∀(cdv:Value) (A:Around) (outer:List Env) (s:Shared) (H:Hp) (vs:List V) (Q:VK) (E:XK),Room k (A.deeper (envOfC qual (Ay st) s.heap.objs.size f cdv))->sp vs H Q E->
   ∃t,PSs (D3 CX0 P w K mg base N qual (Ay st) f cdv A outer s H E).nox (By st) t/\t { nx:=λ_ H'=>Q .non H',rt:=Q } (Dw N vs) H):FnOk P w K mg base CX0 (k + 1) f fd ps sp:=by
 obtain ⟨oc,od,kV,doc,pm,an,cdv,ct,osl,rfl,lk,hcd⟩:=F.ex;refine Rt lk hcd S len λA outer s H vs Q E hr hsp=>?_;obtain ⟨t,h,q⟩:=hbody cdv A outer s H vs Q E hr hsp;exact ⟨t,h.nox,q⟩
theorem Fun.binds {st:Stmt}{ps:List Str}(F:Fun K x qual st f fd)
 (h:∀(kV doc pm:Value) (an:Option Addr) (cdv ct:Value) (us:List Value),us.length=ps.length->bindArgs (PySem.W.fnOf x qual (DJ st) (By st) (Ay st) .none kV doc pm an cdv ct) ⟨us,[]⟩=pure (ps.zip us)):Binds K fd ps []:=by
 obtain ⟨oc,od,kV,doc,pm,an,cdv,ct,osl,rfl,lk,hcd⟩:=F.ex;exact .all (h kV doc pm an cdv ct)
theorem IH {st:Stmt}{oc:Value}{od an:Option Addr}{osl:Array (Option Value)}{kV doc pm cdv ct:Value}(l:K.lookup f=some ⟨oc,od,.func (PySem.W.fnOf x qual (DJ st) (By st) (Ay st) .none kV doc pm an cdv ct),osl⟩)
 (c:PySem.W.codeIn K cdv qual=true) (k:PySem.W.keepIn K (.ref f)=true):Fun K x qual st f (PySem.W.fnOf x qual (DJ st) (By st) (Ay st) .none kV doc pm an cdv ct):=⟨⟨oc,od,kV,doc,pm,an,cdv,ct,osl,rfl,l,c⟩,k⟩
end
section
variable {X:Cx}
end
def Zx (H H':Hp):Prop:=∀b o,H b=some o->H' b=some o
section
variable {κ:Type}[DecidableEq κ]
noncomputable def Q8 (kvs:List (κ×V))(k:κ):Option V:=(kvs.find? λkv=>decide (kv.1=k)).map (·.2)
noncomputable def VI (kvs:List (κ×V))(k:κ)(v:V):List (κ×V):=
 if (kvs.any λkv=>decide (kv.1=k))=true then kvs.map (λkv=>if kv.1=k then (kv.1,v) else kv) else kvs++[(k,v)]
end
abbrev KT (H:Hp):List (List Key×V)->List (List Key×Addr×Value)->Prop:=Paired λp q=>p.1=q.1/\H q.2.1=some (.tup (p.1.map kV))/\RelV p.2 q.2.2
section
variable {P:Program}{w:World}{H:Hp}{h:Heap}{a:Addr}
end
def Zu (H:Hp)(a:Addr)(y:V)(r:Option V):Prop:=
 (∃kvs k,Rd H a (.dK kvs)/\y=kV k/\r=Q8 kvs k)\/∃kvs k b,Rd H a (.dT kvs)/\y = .ref b/\H b=some (.tup (k.map kV))/\r=Q8 kvs k
def Zv (H:Hp)(a:Addr)(y v:V)(H':Hp):Prop:=
 (∃kvs k,H a=some (.dK kvs)/\y=kV k/\kvs.length < sizeLine/\H'=upd H a (.dK (VI kvs k v)))\/
 ∃kvs k b,H a=some (.dT kvs)/\y = .ref b/\H b=some (.tup (k.map kV))/\kvs.length < sizeLine/\H'=upd H a (.dT (VI kvs k v))
section
variable {X:Cx}{pins:List (Addr×Obj)}{Z:St}{H:Hp}{s:Shared}{a:Addr}{y v:V}{u r:Value}{o:Option V}{A:Around}{E:Value->Shared->Prop}
end
section
variable {X:Cx}{pins:List (Addr×Obj)}{Z:St}{H:Hp}{s:Shared}{a:Addr}{kvs:List (Key×V)}{k:Key}{u:Value}{A:Around}{E:Value->Shared->Prop}
end
section
variable {X:Cx}{o i e value:Expr}{pos pos' tpos:Pos}{td ty tv:TE}
end
section
variable {X:Cx}{pos:Pos}
end
theorem EK {env:Env}:∀(l:List (Str×NameKind)) (cs:List (Str×Addr)),(∀x c,cs.lookup x=some c->env.cells.lookup x=some c)->(∀y∈l,y.2 = .free->∃c,env.cells.lookup y.1=some c)->
 ∃cl,(forIn l cs λ(x:Str×NameKind) r=>(match x with | (name,kind)=>if (kind == NameKind.free)=true then do let c <-cellOf env name;pure (ForInStep.yield ((name,c) :: r)) else pure (ForInStep.yield r):Sem (ForInStep (List (Str×Addr)))))=pure cl/\
  (∀x c,cl.lookup x=some c->env.cells.lookup x=some c)/\(∀x c,cs.lookup x=some c->∃c',cl.lookup x=some c')/\∀y∈l,y.2 = .free->∃c,cl.lookup y.1=some c
 | [],cs,h,_=>⟨cs,rfl,h,λ_ c e=>⟨c,e⟩,λ_ z=>nomatch z⟩
 | (n,k) :: l,cs,h,hf=>by
   by_cases hk:k = .free
   ·subst hk;obtain ⟨c,hc⟩:=hf (n,.free) uf1 rfl;have hc':env.cells.lookup n=some c:=hc;have e:cellOf env n=pure c:=by unfold cellOf;rw [hc']
    obtain ⟨cl,e1,e2,e3,e4⟩:=EK l ((n,c) :: cs) (λx c' q=>by
     rw [uh8] at q
     by_cases hx:(x == n)=true
     ·rw [hx] at q;cases q;rw [eq_of_beq hx];exact hc'
     ·rw [ug6.mpr hx] at q;exact h x c' q) (λy hy=>hf y (ud4 _ hy))
    have self:((n,c) :: cs).lookup n=some c:=by rw [uh8,ui9]
    refine ⟨cl,?_,e2,λx c' q=>?_,λy hy hyf=>?_⟩
    ·rw [List.forIn_cons];simp only [ui9,if_true,e];exact e1
    ·by_cases hx:(x == n)=true
     ·rw [eq_of_beq hx];exact e3 n c self
     ·exact e3 x c' (by rw [uh8,ug6.mpr hx];exact q)
    ·rcases ul5.mp hy with z | z
     ·subst z;exact e3 n c self
     ·exact e4 y z hyf
   ·have hb:(k == NameKind.free)=false:=by simpa using hk
    obtain ⟨cl,e1,e2,e3,e4⟩:=EK l cs h (λy hy=>hf y (ud4 _ hy));refine ⟨cl,?_,e2,e3,λy hy hyf=>?_⟩
    ·rw [List.forIn_cons];simp only [hb,uf7,if_false];exact e1
    ·rcases ul5.mp hy with z | z
     ·subst z;exact absurd hyf hk
     ·exact e4 y z hyf
theorem IC {scope:Scope}{env:Env}(h:∀y∈scope.names,y.2 = .free->∃c,env.cells.lookup y.1=some c) :
 ∃cl,closureFor scope env=pure cl/\(∀x c,cl.lookup x=some c->env.cells.lookup x=some c)/\∀y∈scope.names,y.2 = .free->∃c,cl.lookup y.1=some c:=by
 obtain ⟨cl,e1,e2,_,e4⟩:=EK (env:=env) scope.names [] (λ_ _ q=>nomatch q) h;refine ⟨cl,?_,e2,e4⟩;simp only [closureFor]
 first | (rw [e1];rfl) | (simp only [e1];rfl) | (trace_state;exact e1)
theorem K7 {prog:Program}{w:World}{A:Around}{R:Result->Shared->Prop}{s:Shared}{elt target iter:Expr}{ifs:List Expr}{scope:Scope}{pos:Pos}{it acc:Value}{env:Env}(I:Nat->Shared->Prop)
 (turn:∀n s,I n s->wpAny (model prog w) A (pyNext it) (λr s₁=>match r with
   | none=>R (.ok .next) s₁
   | some v=>wpAny (model prog w) A (letOwnedTupleGo target it v) (λ_ s₁'=>wpAny (model prog w) A (assign target env v) (λ_ s₂=>
      wpAny (model prog w) A (forIn ifs true λc r=>if r=true then do let ok <-isTrue c env (eval c env);pure (ForInStep.yield ok) else pure (ForInStep.yield r)) (λok s₃=>
       if ok=true then wpAny (model prog w) A (eval elt env) (λx s₄=>
        wpAny (model prog w) A (call (.builtin "list.append") [acc,x]) (λ_ s₅=>∃m,m < n/\I m s₅) (λ_ _=>False) s₄) (λ_ _=>False) s₃
       else ∃m,m < n/\I m s₃) (λ_ _=>False) s₂) (λ_ _=>False) s₁') (λ_ _=>False) s₁) (λ_ _=>False) s)
 (n:Nat) (h:I n s) :
 codeAny (model prog w) A (.compLoop (.ListComp elt [⟨target,iter,ifs,0⟩] scope pos) 0 it acc env) R s:=by
 refine codeAny_loop rfl I (λn s hI=>?_) n h;show wpAny _ A ((compTurn (.ListComp elt [⟨target,iter,ifs,0⟩] scope pos) 0 it acc env).onRaise (λx=>do noteFrame x env;theTreesLotGoes x)) _ _ s;refine wpAny_noted ?_;rw [compTurn_list];refine uo7 (wpAny_standAt (uo7 (uo9 (turn n s hI) (λr s₁ h₁=>?_) λ_ _ h'=>h'.elim)))
 cases r with
 | none=>exact uo8 h₁
 | some v=>
   refine uo7 (uo9 h₁ (λ_ s₁' h₁'=>?_) λ_ _ h'=>h'.elim);refine uo7 (uo9 h₁' (λ_ s₂ h₂=>uo7 (uo9 h₂ (λok s₃ h₃=>?_) λ_ _ h'=>h'.elim)) λ_ _ h'=>h'.elim)
   cases ok with
   | false=>exact uo8 ⟨rfl,h₃⟩
   | true=>
     exact uo7 (uo7 (uo9 h₃ (λx s₄ h₄=>uo7 (uo9 h₄ (λ_ s₅ h₅=>uo8 (uo8 ⟨rfl,h₅⟩)) λ_ _ h'=>h'.elim)) λ_ _ h'=>h'.elim))
end L2
set_option maxHeartbeats 2000000
namespace L2
open PySem PySem.Spec PyProof.Rows
noncomputable def BN (X:Cx)(N':List Str)(scope:Scope)(cl:List (Str×Addr))(C:Addr)(s2:Shared)(H2:Hp)(fp:List Addr):Cx where
 prog:=X.prog
 w:=X.w
 K:=X.K
 mg:=X.mg
 base:=X.base
 A:=X.A
 N:=N'
 s₀:=s2
 H₀:=H2
 env:=compEnvC scope cl C X.env
 outer:=X.stack
 stack:=X.stack
 ex:=fp
 fn:=λ_=>false
 calm:=X.calm
 pn:=[]
 xe:=λ_ _=>False
theorem HG (h:Str->NameKind->NameKind)(x:Str):∀l:List (Str×NameKind),(l.map λp=>(p.1,h p.1 p.2)).lookup x=(l.lookup x).map (h x)
 | []=>rfl
 | (n,k) :: l=>by
   show List.lookup x ((n,h n k) :: _)=_;rw [uh8,uh8]
   by_cases hx:(x == n)=true
   ·rw [hx,eq_of_beq hx];rfl
   ·rw [ug6.mpr hx];exact HG h x l
theorem FU (scope:Scope)(env:Env)(x:Str):(relabel scope env).names.lookup x=(scope.names.lookup x).map λk=>if (k == .free && env.scope.kind == .function && env.kindOf x == some .cell)=true then .cell else k:=by
 rw [<-HG (λn k=>if (k == NameKind.free && env.scope.kind == .function && env.kindOf n == some .cell)=true then .cell else k) x scope.names];unfold relabel;dsimp only
 congr 1
 apply ue5;intro p _;obtain ⟨n,k⟩:=p;dsimp only
 split <;> rfl
theorem Cu {x:Str}{k:NameKind}:∀{l:List (Str×NameKind)},l.lookup x=some k->(x,k)∈l
 | (n,k') :: l,h=>by
   rw [uh8] at h
   by_cases hx:(x == n)=true
   ·rw [hx] at h;cases h;rw [eq_of_beq hx];exact uf1
   ·rw [ug6.mpr hx] at h;exact ud4 _ (Cu h)
theorem LN {scope:Scope}{env:Env}{x:Str}(hcell:∀y∈scope.names,y.2≠.cell)(h:(relabel scope env).names.lookup x=some .cell\/(relabel scope env).names.lookup x=some .free):scope.names.lookup x=some .free:=by
 rw [FU] at h
 cases e:scope.names.lookup x with
 | none=>rw [e] at h;rcases h with h | h <;> cases h
 | some k=>
   by_cases hk:k = .free
   ·rw [hk]
   ·have hb:(k == NameKind.free)=false:=by simpa using hk
    rw [e] at h;simp only [uk0,hb,uk9,uf7,if_false] at h;rcases h with h | h
    ·cases h;exact absurd rfl (hcell _ (Cu e))
    ·cases h;exact absurd rfl hk
def PIf (X:Cx)(ifs:List Expr)(t:TT):Prop:=
 ∀(pins:List (Addr×Obj)) (s:Shared) (Z:St) (H:Hp) (Q:Bool->Hp->Prop),Inv X pins Z H s->t Z H Q->
  wpAny (model X.prog X.w) X.A (forIn ifs true λc r=>if r=true then do let ok <-isTrue c X.env (eval c X.env);pure (ForInStep.yield ok) else pure (ForInStep.yield r)) (TP X pins Z Q) X.xe s
def Xf:TT:=λ_ H Q=>Q true H
theorem Tf {X:Cx}:PIf X [] Xf:=λ_ _ _ H _ I h=>wpAny_tests_nil ⟨H,I,h⟩
theorem Tg {X:Cx}{c:Expr}{t:TT}(h:PT X c t):PIf X [c] t:=λpins s Z H Q I q=>wpAny_tests_one (h pins s Z H Q I q)
def Pm (J:It)(g:TG)(tt:TT)(te:TE)(Z₀:St)(H1:Hp)(Fin:List V->Hp->Prop):Prop:=
 ∃W:Nat->Nat->List V->St->Hp->Prop,(∃m,W 0 m [] Z₀ H1)/\∀i m acc Z' H',W i m acc Z' H'->acc.length<=sizeLine/\
  ((J.stop i H'/\Fin acc H')\/
    (J.go i H'/\∀x H2,J.yld i H' x H2->g x Z' H2 λZ3 H3=>tt Z3 H3 λb H4=>if b=true then te Z3 H4 λv H5=>∃m',m' < m/\W (i + 1) m' (acc++[v]) Z3 H5 else ∃m',m' < m/\W (i + 1) m' acc Z3 H4))
def NK (wi:TI)(g:TG)(tt:TT)(te:TE)(Zf:St->St):TE:=λZ H Q=>wi Z H λJ H1=>Pm J g tt te (Zf Z) H1 λacc H'=>∀p,H' p=none->acc.length<=sizeLine->Q (.ref p) (upd H' p (.lst acc))
structure CmpOk (X:Cx)(scope:Scope)(N':List Str)(Zf:St->St):Prop where
 kind:scope.kind = .function
 cell:∀y∈scope.names,y.2≠.cell
 loc:∀y∈scope.names,y.2 = .local->scope.names.lookup y.1=some .local
 free:∀y∈scope.names,y.2 = .free->X.env.kindOf y.1=some .cell\/X.env.kindOf y.1=some .free
 len:∀Z:St,Z.length=X.N.length->(Zf Z).length=N'.length
 vals:∀(Z:St) (j:Nat) (x:Str) (v:V),N'[j]?=some x->(Zf Z)[j]?=some (some v)->∃i:Nat,X.N[i]?=some x/\Z[i]?=some (some v)/\scope.names.lookup x=some .free
variable {pins:List (Addr×Obj)}{Z:St}{H2:Hp}{s2:Shared}{cl:List (Str×Addr)}{fp:List Addr}
section
variable {X:Cx}{tg elt iter:Expr}{ifs:List Expr}{scope:Scope}{pos:Pos}{N':List Str}{wi:TI}{g:TG}{tt:TT}{te:TE}{Zf:St->St}
theorem UH {C:Addr}(O:CmpOk X scope N' Zf)(I2:Inv X pins Z H2 s2)(f2:∀b∈fp,FpOk X pins H2 b)(hC:s2.heap.objs.size<=C)
 (hlt:∀b∈fp,b < s2.heap.objs.size) (e2:∀x c,cl.lookup x=some c->X.env.cells.lookup x=some c) (e4:∀y∈scope.names,y.2 = .free->∃c,cl.lookup y.1=some c):(BN X N' scope cl C s2 H2 fp).Ok where
 mod:=I2.ok.mod
 kind:=O.kind
 glob:=I2.ok.glob
 blt:=I2.ok.blt
 above:=hC
 inj:=λx y c h1 h2=>I2.ok.inj x y c (e2 x c h1) (e2 y c h2)
 has:=λx h=>by
  have q:=LN (env:=X.env) (x:=x) O.cell h;exact e4 _ (Cu q) rfl
 cab:=λx c h _=>nomatch h
 hd:=I2.ok.hd
 frames:=I2.ok.frames
 stk:=.inl rfl
 exf:=λb hb=>⟨um4 (uf0 (hlt b hb) hC),λx c e=>(f2 b hb).2.2.2.2.1 x c (e2 x c e)⟩
 bs:=I2.bs
 bsz:=um5 I2.ok.bsz I2.sz
 noex:=λb o e hb=>by
  rcases (f2 b hb).2.2.2.1 with z | z
  ·exact I2.ok.noex b o e z
  ·exact absurd (uf0 (um3 (I2.ok.bs b o e).1) z) (ul4 _)
 exfs:=λb hb z=>by
  rcases ul5.mp (I2.stkSub b z) with q | q
  ·exact (f2 b hb).2.1 q
  ·exact (f2 b hb).2.2.1 q
 funs:=I2.stack
 frf:=I2.stkFree
theorem V9 (I2:Inv X pins Z H2 s2){a:Addr}(h:s2.heap.objs.size<=a):a∉frs X.stack:=λhb=>by
 rcases ul5.mp (I2.stkSub a hb) with q | q
 ·exact absurd (uf0 I2.lt h) (by rw [q];exact ul4 _)
 ·exact I2.nofs h q
theorem KJ {it:Addr}{tn:Nat->Heap->Prop}{J:It}{Fin:List V->Hp->Prop}{RR:Value->Addr->Result->Shared->Prop}{E:Value->Shared->Prop}(O:CmpOk X scope N' Zf)(hc:X.calm=true)
 (I2:Inv X pins Z H2 s2) (T:Turn X.prog X.w X.K tg J fp it tn) (st2:tn 0 s2.heap) (f2:∀b∈fp,FpOk X pins H2 b)
 (e2:∀x c,cl.lookup x=some c->X.env.cells.lookup x=some c) (e4:∀y∈scope.names,y.2 = .free->∃c,cl.lookup y.1=some c)
 (hg:∀C,PG (BN X N' scope cl C s2 H2 fp) tg g) (ht:∀C,PIf (BN X N' scope cl C s2 H2 fp) ifs tt) (he:∀C,PE (BN X N' scope cl C s2 H2 fp) elt te)
 (B:Pm J g tt te (Zf Z) H2 Fin)
 (fin:∀C s' Z' H' acc m,s2.heap.objs.size<=C->C≠s2.heap.objs.size->Inv (BN X N' scope cl C s2 H2 fp) [] Z' H' s'->H' s2.heap.objs.size=none->acc.length<=sizeLine->(∃its n,Vals acc its/\s'.heap.get? s2.heap.objs.size=some { cls:=.type "list",data:=.seq its.toArray n })->Fin acc H'->s'.heap.Ns C m->
   RR (.ref s2.heap.objs.size) C (.ok .next) s') :
 wpAny (model X.prog X.w) X.A (newList []) (λacc s₃=>wpAny (model X.prog X.w) X.A (newFunctionEnv scope X.env.globals cl [] X.env.qual none .none (some X.env)) (λcenv s₄=>
  codeAny (model X.prog X.w) X.A (.compStart (.ListComp elt [⟨tg,iter,ifs,0⟩] scope pos) 0 (.ref it) acc { cenv with scope:=relabel scope X.env }) (RR acc cenv.locals) s₄) E s₃) E s2:=by
 refine wpAny_newObj_type (wpAny_newFunctionEnv O.cell (by intro y hy;simp at hy) (λh₁ hns₁ hsb₁=>?_) O.kind);dsimp only at hns₁ hsb₁ ⊢;generalize hH2:s2.heap.push { cls:=.type "list",dict:=none,data:=.seq ([]:List Value).toArray }=HP at hns₁ hsb₁ ⊢;have hC:HP.objs.size=s2.heap.objs.size + 1:=by rw [<-hH2,Heap.size_push]
 generalize hDD:s2.heap.objs.size=DD at *;generalize hCC:HP.objs.size=CC at *;have hDC:DD≠CC:=by rw [hC];exact um4 (uh9 _)
 have hCle:s2.heap.objs.size<=CC:=by rw [hC,hDD];exact uo4 _
 have hlt:∀b∈fp,b < s2.heap.objs.size:=λb hb=>by obtain ⟨o,e,_⟩:=T.obj _ _ st2 b hb;exact um3 e
 have hlt':∀b∈fp,b < DD:=λb hb=>by rw [<-hDD];exact hlt b hb
 have below:∀b,b < DD->b≠CC/\b≠DD:=λb hb=>⟨by rw [hC];exact um4 (ug7 hb),um4 hb⟩;have old:∀b o,s2.heap.get? b=some o->h₁.get? b=some o:=λb o e=>hsb₁.extBut b o (below b (by rw [<-hDD];exact um3 e)).1 (ub8 _ (hH2 ▸ ub8 _ e));have hacc:h₁.get? DD=some { cls:=.type "list",data:=.seq ([]:List Value).toArray }:=by
  refine hsb₁.extBut _ _ hDC (ub8 _ ?_);rw [<-hH2,<-hDD];exact ue3 _ rfl
 have ok:=UH (cl:=cl) (C:=CC) O I2 f2 hCle hlt e2 e4;have hfs:DD∉frs X.stack:=V9 I2 (by rw [hDD];exact uo3 _);obtain ⟨W,⟨m0,w0⟩,turn⟩:=B
 let X':Cx:=BN X N' scope cl CC s2 H2 fp
 have I0:Inv X' [] (Zf Z) H2 { s2 with heap:=h₁,toks:=s2.toks + ([]:List (Str×Value)).length }:=by
  refine ⟨ok,rfl,I2.bare,Un.kept old,⟨_,hns₁,λj x v q1 q2 q3=>?_⟩,λx c e=>?_,I2.hok.fresh hCle,λx c e=>I2.freeC x c (e2 x c e),(λp hp=>nomatch hp),I2.hok.kept old,O.len Z I2.len⟩
  ·obtain ⟨i,n1,n2,n3⟩:=O.vals Z j x v q1 q2;obtain ⟨m,_,hl⟩:=I2.loc;have hfr:=O.free _ (Cu n3) rfl;obtain ⟨u,r,l⟩:=hl i x v n1 n2 (.inr hfr);refine ⟨u,r,?_⟩;rcases l with ⟨k,_⟩ | ⟨_,c,ec,hcell⟩
   ·rcases hfr with z | z <;> (have z':=k.symm.trans z;cases z')
   ·obtain ⟨c',ec'⟩:=e4 _ (Cu n3) rfl;have z:=e2 _ _ ec';have ez:X.env.cells.lookup x=some c':=z;rw [ec] at ez
    cases ez
    refine .inr ⟨?_,c,ec',?_⟩
    ·show (relabel scope X.env).names.lookup x=some .cell\/(relabel scope X.env).names.lookup x=some .free;rw [FU,n3];simp only [uk0]
     split
     ·exact .inl rfl
     ·exact .inr rfl
    ·obtain ⟨o,ho,hd⟩:=hcell;exact ⟨o,old _ _ ho,hd⟩
  ·obtain ⟨v,o,ho,hd⟩:=I2.cell x c (e2 x c e);exact ⟨v,o,old _ _ ho,hd⟩
 have loop:∀s₃:Shared,s₃ = { s2 with heap:=h₁,toks:=s2.toks + ([]:List (Str×Value)).length }->
  codeAny (model X.prog X.w) X.A (.compLoop (.ListComp elt [⟨tg,iter,ifs,0⟩] scope pos) 0 (.ref it) (.ref DD) (compEnvC scope cl CC X.env)) (RR (.ref DD) CC) s₃:=by
  rintro s₃ rfl;refine K7 (λn s'=>∃i acc its nn Z' H',Inv X' [] Z' H' s'/\tn i s'.heap/\(∀b∈fp,H' b=none)/\Vals acc its/\s'.heap.get? DD=some { cls:=.type "list",data:=.seq its.toArray nn }/\H' DD=none/\W i n acc Z' H') ?_ m0
   ⟨0,[],[],0,Zf Z,H2,I0,T.keep _ _ _ st2 (λb _ o e=>old b o e),λb hb=>(f2 b hb).1,.nil,hacc,I2.hok.fresh (by rw [hDD];exact uo3 _),w0⟩
  rintro n s' ⟨i,acc,its,nn,Z3,H3,I3,st3,fr3,hv,hD,hDn,w3⟩;have I3p:Inv X' [(DD,({ cls:=.type "list",data:=.seq its.toArray nn }:Obj))] Z3 H3 s':=I3.pins_of λp hp=>by
   have e:p=(DD,({ cls:=.type "list",data:=.seq its.toArray nn }:Obj)):=by simpa using hp
   subst e;exact ⟨hD,hDn,hDC,hfs,λv z=>nomatch z⟩
  have stat:∀{pins':List (Addr×Obj)} {H':Hp},(∀p∈pins',p.1=DD)->(∀b∈fp,H' b=none)->∀b∈fp,FpOk X' pins' H' b:=λ{pins' H'} hp hn b hb=>
   ⟨hn b hb,(ok.exf b hb).1,ok.exfs b hb,.inl hb,(ok.exf b hb).2,λp hp' z=>by
    have e:p.1=DD:=hp p (by simpa [X',BN] using hp');exact absurd (hlt' b hb) (by rw [<-z,e];exact ul4 _)⟩
  have one:∀p∈[(DD,({ cls:=.type "list",data:=.seq its.toArray nn }:Obj))],p.1=DD:=λp hp=>by
   have e:p=(DD,({ cls:=.type "list",data:=.seq its.toArray nn }:Obj)):=by simpa using hp
   rw [e]
  obtain ⟨hz,tr⟩:=turn i n acc Z3 H3 w3;rcases tr with ⟨stop,qf⟩ | ⟨go,step⟩
  ·refine thn (T.done X' rfl rfl rfl hc i _ s' Z3 H3 (λ_ _=>False) I3p (stat one fr3) st3 stop) λr s4 z9=>?_;obtain ⟨hr,I4⟩:=z9;subst hr;obtain ⟨m4,hm4,_⟩:=I4.loc;have pD:=(I4.pin (DD,({ cls:=.type "list",data:=.seq its.toArray nn }:Obj)) (by simp [X',BN])).1;have I4':Inv X' [] Z3 H3 s4:=I4.pins_of λp hp=>nomatch hp;exact fin CC s4 Z3 H3 acc m4 (by rw [hDD] at hCle;exact hCle) (Ne.symm hDC) I4' hDn hz ⟨its,nn,hv,pD⟩ qf hm4
  ·refine thn (T.item X' rfl rfl rfl hc i _ s' Z3 H3 (λ_ _=>False) I3p (stat one fr3) st3 go) λr s4 z9=>?_;obtain ⟨u,hr,h4⟩:=z9;subst hr;refine thn h4 λ_ s5 z9=>?_;obtain ⟨x,H5,I5,r5,y5,st5,fr5⟩:=z9;have I5':=I5.pinned (stat one fr5) (T.obj _ _ st5);refine thn (hg CC _ s5 Z3 H5 x u _ I5' r5 (step x H5 y5)) λ_ s6 z9=>?_;obtain ⟨Z6,H6,I6,q6⟩:=z9;refine thn (ht CC _ s6 Z6 H6 _ I6 q6) λb s7 z9=>?_;obtain ⟨H7,I7,q7⟩:=z9;have back:∀{H8:Hp} {s8:Shared},Inv X' ([(DD,({ cls:=.type "list",data:=.seq its.toArray nn }:Obj))]++G5 fp s5.heap) Z6 H8 s8->
    s8.heap.get? DD=some { cls:=.type "list",data:=.seq its.toArray nn }/\H8 DD=none/\tn (i + 1) s8.heap/\(∀b∈fp,H8 b=none)/\Inv X' [] Z6 H8 s8:=λ{H8 s8} I8=>by
    have p1:=I8.pin (DD,({ cls:=.type "list",data:=.seq its.toArray nn }:Obj)) (by simp [X',BN]);refine ⟨p1.1,p1.2.1,T.keep _ _ _ st5 λb hb o e=>(I8.pin (b,o) (uc9 _ (uc9 _ (Ew hb e)))).1,λb hb=>?_,I8.pins_of λp hp=>nomatch hp⟩;obtain ⟨o,e,_⟩:=T.obj _ _ st5 b hb;exact (I8.pin (b,o) (uc9 _ (uc9 _ (Ew hb e)))).2.1
   cases b with
   | false=>
     rw [if_neg uf2] at q7 ⊢;obtain ⟨m',hm,w7⟩:=q7;obtain ⟨a1,a2,a3,a4,a5⟩:=back I7;exact ⟨m',hm,i + 1,acc,its,nn,Z6,H7,a5,a3,a4,hv,a1,a2,w7⟩
   | true=>
     rw [if_pos rfl] at q7 ⊢;refine thn (he CC _ s7 Z6 H7 _ I7 q7) λy s8 z9=>?_;obtain ⟨v8,H8,I8,r8,m',hm,w8⟩:=z9;obtain ⟨a1,a2,a3,a4,a5⟩:=back I8;have hsz:its.toArray.size<=sizeLine:=by
      have e:=hv.length;simpa [e] using hz
     refine wpAny_list_append_plain (hsz:=hsz) ⟨nn,a1⟩ λh9 hl9 hs9=>?_;obtain ⟨n9,e9⟩:=hl9;have e9':h9.get? DD=some { cls:=.type "list",data:=.seq (its++[y]).toArray n9 }:=by simpa using e9
     refine ⟨m',hm,i + 1,acc++[v8],its++[y],n9,Z6,H8,a5.turned (t':=s8.toks) (h':=h9) (it:=DD) (λb o hb e=>hs9.extBut b o hb e) a2 hDC (.inr (show s2.heap.objs.size<=DD by rw [hDD];exact uo3 _)) (λx' c e z=>?_) (λp hp=>nomatch hp),T.keep _ _ _ a3 λb hb o e=>hs9.extBut b o (um4 (hlt' b hb)) e,a4,hv.append (.cons r8 .nil),e9',a2,w8⟩;obtain ⟨v,o,ho,hd⟩:=I2.cell x' c (e2 x' c e);have:=um3 ho;rw [hDD,z] at this;exact ul4 _ this
 exact codeAny_compStart_list (loop _ rfl) (T.self _ 0 _ _ _ (T.keep _ _ _ st2 λb _ o e=>old b o e) (loop _ rfl))
end
section
variable {X:Cx}{tg elt iter:Expr}{ifs:List Expr}{scope:Scope}{pos:Pos}{N':List Str}{wi:TI}{g:TG}{tt:TT}{te:TE}{Zf:St->St}
theorem JV {Z':St}{H':Hp}{s':Shared}{C:Addr}{acc:List V}{its:List Value}{n:Nat}{h':Heap}(I2:Inv X pins Z H2 s2)(f2:∀b∈fp,FpOk X pins H2 b)
 (hC:s2.heap.objs.size<=C) (hCD:C≠s2.heap.objs.size) (I':Inv (BN X N' scope cl C s2 H2 fp) [] Z' H' s') (hDn:H' s2.heap.objs.size=none) (hz:acc.length<=sizeLine) (hv:Vals acc its)
 (hD:s'.heap.get? s2.heap.objs.size=some { cls:=.type "list",data:=.seq its.toArray n }) (hs:Heap.SameBut C s'.heap h') :
 Inv X pins Z (upd H' s2.heap.objs.size (.lst acc)) { s' with heap:=h' }:=by
 have U:=I'.base;have lt:∀b o,s2.heap.get? b=some o->b≠C/\b≠s2.heap.objs.size:=λb o e=>⟨um4 (uf0 (um3 e) hC),um4 (um3 e)⟩;have neD:∀b u,H' b=some u->b≠s2.heap.objs.size:=λb u e=>AB e hDn;have neC:∀b u,H' b=some u->b≠C:=λb u e=>AB e I'.free;refine I2.call' (s':={ s' with heap:=h' }) (ch:=fp) I'.os ⟨λb o e n hb hx=>?_,λb o e n hb hx=>?_,λb o e n hx=>?_,λb o e hx=>?_,λb xs e=>?_,λb o u e=>?_,λb ps e=>?_⟩ ?_ I'.bare λb hb=>⟨(f2 b hb).2.2.2.1,(f2 b hb).2.1,(f2 b hb).2.2.2.2.1,(f2 b hb).2.2.2.2.2⟩
 ·exact hs.extBut b o (lt b o e).1 (U.keep b o e n hb hx)
 ·obtain ⟨sl,q⟩:=U.slot b o e n hb hx;exact ⟨sl,hs.extBut b _ (lt b o e).1 q⟩
 ·rw [Am (lt b o e).2];exact U.free b o e n hx
 ·obtain ⟨o',q⟩:=U.there b o e hx;exact ⟨o',hs.extBut b _ (lt b o e).1 q⟩
 ·have q:=U.tups b xs e;rw [Am (neD b _ q)];exact q
 ·have q:=U.frzs b o u e;rw [Am (neD b _ q)];exact q
 ·obtain ⟨m,q⟩:=U.tbls b ps e;exact ⟨m,by rw [Am (neD b _ q)];exact q⟩
 ·intro b u e
  by_cases hb:b=s2.heap.objs.size
  ·subst hb;rw [Au] at e
   cases e
   exact ⟨hz,its,n,hv,hs.extBut _ _ (Ne.symm hCD) hD⟩
  ·rw [Am hb] at e;refine (I'.hok b u e).stay (λc v hc q=>hs.extBut c v ?_ q) (λc q=>by rw [Am (neD c _ q)];exact q) λc xs q=>by rw [Am (neD c _ q)];exact q
   rcases hc with z | z
   ·rw [z];exact neC b u e
   ·exact neC c _ z
theorem Tb (O:CmpOk X scope N' Zf)(hc:X.calm=true)(hi:PI X tg iter wi)
 (hg:∀cl C s2 H2 fp,PG (BN X N' scope cl C s2 H2 fp) tg g) (ht:∀cl C s2 H2 fp,PIf (BN X N' scope cl C s2 H2 fp) ifs tt) (he:∀cl C s2 H2 fp,PE (BN X N' scope cl C s2 H2 fp) elt te)
 (hs:∀x,foldedSetIterable iter X.env x=pure x:=by intro _;rfl):PE X (.ListComp elt [⟨tg,iter,ifs,0⟩] scope pos) (NK wi g tt te Zf):=by
 intro pins s Z H Q I h;obtain ⟨cl,e1,e2,e4⟩:=IC (scope:=scope) (env:=X.env) λy hy hf=>I.ok.has y.1 (O.free y hy hf);rw [eval_ListComp];refine wpAny_comprehension_free (use:=none) rfl hs e1 O.kind O.loc (thn (hi pins s Z H _ I h) λv s1 h1=>thn h1 λitv s2 h2=>?_);obtain ⟨it,fp,tn,J,H2,rfl,I2,T,st2,f2,B⟩:=h2;refine KJ (RR:=λacc C=>compPost (model X.prog X.w) X.A X.xe none (EP X pins Z Q) acc C) O hc I2 T st2 f2 e2 e4 (λC=>hg cl C s2 H2 fp) (λC=>ht cl C s2 H2 fp) (λC=>he cl C s2 H2 fp) B ?_;intro C s' Z' H' acc m hC hCD I' hDn hz hL fin hn;obtain ⟨its,n,hv,hD⟩:=hL;refine ⟨m,hn,λh' hs'=>?_⟩;exact ⟨.ref s2.heap.objs.size,upd H' _ (.lst acc),JV I2 f2 hC hCD I' hDn hz hv hD hs',rfl,fin _ hDn hz⟩
theorem MG {i:Nat}{y:Str}{py spos:Pos}(O:CmpOk X scope N' Zf)(hc:X.calm=true)(hN:X.N.Nodup)(hiN:X.N[i]?=some y)(hx:X.env.scope.names.lookup y=some .local)(hi:PI X tg iter wi)
 (hg:∀cl C s2 H2 fp,PG (BN X N' scope cl C s2 H2 fp) tg g) (ht:∀cl C s2 H2 fp,PIf (BN X N' scope cl C s2 H2 fp) ifs tt) (he:∀cl C s2 H2 fp,PE (BN X N' scope cl C s2 H2 fp) elt te)
 (hsw:swapsWith (.ListComp elt [⟨tg,iter,ifs,0⟩] scope pos) (some (.Name y py)) spos.line X.env=pure true:=by rfl)
 (hs:∀x,foldedSetIterable iter X.env x=pure x:=by intro _;rfl):PS X (.Assign [.Name y py] (.ListComp elt [⟨tg,iter,ifs,0⟩] scope pos) spos) (L4 (NK wi g tt te Zf) (II i)):=by
 intro pins s Z H D I h;obtain ⟨cl,e1,e2,e4⟩:=IC (scope:=scope) (env:=X.env) λy hy hf=>I.ok.has y.1 (O.free y hy hf);rw [exec_Assign_Name_used _ _ _ _ hsw];refine uo7 (wpAny_standAt (uo7 ?_));show wpAny _ X.A (do let _ <-comprehension (.ListComp elt [⟨tg,iter,ifs,0⟩] scope pos) scope X.env _ (newList []) false (eval iter X.env) (some (assign (.Name y py) X.env))) _ _ s;refine uo7 (thn (wpAny_comprehension_free (use:=some (assign (.Name y py) X.env)) (Q:=λ_ s'=>SP X pins D .next s') rfl hs e1 O.kind O.loc (thn (hi pins s Z H _ I h) λv s1 h1=>thn h1 λitv s2 h2=>?_)) (λ_ s' hq=>uo8 (uo8 hq)));obtain ⟨it,fp,tn,J,H2,rfl,I2,T,st2,f2,B⟩:=h2;refine KJ (RR:=λacc C=>compPost (model X.prog X.w) X.A X.xe (some (assign (.Name y py) X.env)) (λ_ s'=>SP X pins D .next s') acc C) O hc I2 T st2 f2 e2 e4 (λC=>hg cl C s2 H2 fp) (λC=>ht cl C s2 H2 fp) (λC=>he cl C s2 H2 fp) B ?_;intro C s' Z' H' acc m hC hCD I' hDn hz hL fin hn;obtain ⟨its,n,hv,hD⟩:=hL;show wpAny _ X.A (assign (.Name y py) X.env (.ref s2.heap.objs.size)) _ _ _;have I3:=JV I2 f2 hC hCD I' hDn hz hv hD (Heap.SameBut.refl ..);refine wpAny_assign_Name (J9 I3 hN hiN (.inl hx) (v:=.ref s2.heap.objs.size) rfl (λs4 I4 z9=>?_) (.inr hx));obtain ⟨a,hsb,ha⟩:=z9;have hCL:C≠X.env.locals:=um7 (uf0 I2.lt hC);have hCc:∀x c,X.env.cells.lookup x=some c->c≠C:=λx c e z=>by
  obtain ⟨v,q⟩:=I2.cell x c e;exact absurd (uf0 q.lt (by rw [z];exact hC)) (ul4 _)
 have hCa:C≠a:=by
  rcases ha with z | z
  ·rw [z];exact hCL
  ·exact λq=>hCc _ _ z q.symm
 refine ⟨m,hn.sameBut hsb hCa,λh' hs'=>?_⟩;have hnC:(upd H' s2.heap.objs.size (.lst acc)) C=none:=by rw [Am hCD];exact I'.free
 refine ⟨_,_,I4.turned (t':=s4.toks) (h':=h') (it:=C) (λb o hb e=>hs'.extBut b o hb e) hnC hCL (.inr (um5 I2.sz hC)) hCc (λp hp z=>?_),fin _ hDn hz⟩;exact absurd (uf0 (um3 (I2.pin p hp).1) (by rw [z];exact hC)) (ul4 _)
end
end L2
set_option autoImplicit false
namespace F2
open PySem L2 PySem.Spec
inductive D where
 | non | bl (b:Bool) | int (i:Int) | str (x:Str) | tup (xs:List D) | lst (xs:List D) | scr (ns:List Int) | dic | obj (k:Nat) | ty (n:String) | exc (n:Str) (xs:List D)
structure Cf where
 ι:List Addr
 O:Addr->Prop
def Cf.A (c:Cf)(a:Addr):Prop:=a∈c.ι\/c.O a
def Scr (K:PySem.W.Frag)(c:Cf)(H:Hp)(a:Addr)(vs:List V):Prop:=
 ((∃o,H a=some (.frz o (.lst vs)))/\¬c.A a)\/
   ∃(o:Obj) (its:Array Value) (n:Nat),K.lookup a=some o/\o.cls = .type "list"/\o.dict=none/\o.data = .seq its n/\its.size<=sizeLine/\Vals vs its.toList
def XIs (qx:Bool)(x C:Addr)(dx:Option Addr)(h:Heap):Prop:=∃(o:Obj) (vs:Array Value),h.get? x=some o/\o.cls = .ref C/\o.dict=dx/\o.data = .fields vs/\(qx=true->vs[2]?=some .none/\4 < vs.size)
noncomputable def Qb (n:Str):List Str:=if n = "NoTalk" then ["at"] else if n = "Broken" then ["at", "side"] else []
def XFld (c:Cf)(H:Hp)(dx:Option Addr)(ns:List Str)(vs:List V):Prop:=match dx with
 | none=>vs=[]
 | some d=>H d=some (.xd (ns.zip vs))/\¬c.A d
mutual
inductive Rep (K:PySem.W.Frag)(c:Cf)(H:Hp):V->D->Prop where
 | non:Rep K c H .non .non
 | bl (b:Bool):Rep K c H (.bl b) (.bl b)
 | int (i:Int):Rep K c H (.int i) (.int i)
 | str (x:Str):Rep K c H (.str x) (.str x)
 | ty (n:String):Rep K c H (.ty n) (.ty n)
 | tup {a:Addr} {vs:List V} {ds:List D}:H a=some (.tup vs)->¬c.A a->Reps K c H vs ds->Rep K c H (.ref a) (.tup ds)
 | lst {a:Addr} {vs:List V} {ds:List D}:H a=some (.lst vs)->¬c.A a->Reps K c H vs ds->Rep K c H (.ref a) (.lst ds)
 | scr {a:Addr} {ns:List Int}:Scr K c H a (ns.map V.int)->Rep K c H (.ref a) (.scr ns)
 | dic {a:Addr}:H a=some (.dK [])->¬c.A a->Rep K c H (.ref a) .dic
 | obj {a:Addr} {k:Nat}:c.ι[k]?=some a->Rep K c H (.ref a) (.obj k)
 | exc {qx:Bool} {x C:Addr} {dx:Option Addr} {n:Str} {vs:List V} {ds:List D}:PySem.W.nsIn K mainGlobals n=some (some (.ref C))->H x=some (.ext (XIs qx x C dx))->¬c.A x->XFld c H dx (Qb n) vs->Reps K c H vs ds->Rep K c H (.ref x) (.exc n ds)
inductive Reps (K:PySem.W.Frag)(c:Cf)(H:Hp):List V->List D->Prop where
 | nil:Reps K c H [] []
 | cons {v:V} {d:D} {vs:List V} {ds:List D}:Rep K c H v d->Reps K c H vs ds->Reps K c H (v :: vs) (d :: ds)
end
structure Ext (c:Cf)(H:Hp)(c':Cf)(H':Hp):Prop where
 keep:∀b o,H b=some o->¬c.A b->H' b=some o
 av:∀b o,H b=some o->c'.A b->c.A b
 io:∀(k:Nat) (a:Addr),c.ι[k]?=some a->c'.ι[k]?=some a
variable {c:Cf}{H:Hp}
theorem Ext.refl:Ext c H c H:=⟨λ_ _ h _=>h,λ_ _ _ h=>h,λ_ _ h=>h⟩
theorem Ext.trans {c1 c2:Cf}{H1 H2:Hp}(a:Ext c H c1 H1)(b:Ext c1 H1 c2 H2):Ext c H c2 H2:=by
 refine ⟨λx o h n=>?_,λx o h n=>?_,λk x h=>b.io k x (a.io k x h)⟩
 ·exact b.keep x o (a.keep x o h n) λz=>n (a.av x o h z)
 ·by_cases q:c.A x
  ·exact q
  ·exact a.av x o h (b.av x o (a.keep x o h q) n)
variable {K:PySem.W.Frag}{a:Addr}{vs:List V}
theorem Scr.mono {c':Cf}{H':Hp}(e:Ext c H c' H')(h:Scr K c H a vs):Scr K c' H' a vs:=by
 rcases h with ⟨⟨o,h⟩,n⟩ | h
 ·exact .inl ⟨⟨o,e.keep _ _ h n⟩,λz=>n (e.av _ _ h z)⟩
 ·exact .inr h
theorem Scr.sq (h:Scr K c H a vs):SqL K H a vs:=by
 rcases h with ⟨h,_⟩ | h
 ·exact .inl (.inr h)
 ·exact .inr h
theorem XFld.mono {c':Cf}{H':Hp}{dx:Option Addr}{ns:List Str}(e:Ext c H c' H')(h:XFld c H dx ns vs):XFld c' H' dx ns vs:=by
 cases dx with
 | none=>exact h
 | some d=>exact ⟨e.keep _ _ h.1 h.2,λz=>h.2 (e.av _ _ h.1 z)⟩
mutual
theorem Rep.mono {K:PySem.W.Frag}{c c':Cf}{H H':Hp}(e:Ext c H c' H'){v:V}{d:D}(r:Rep K c H v d):Rep K c' H' v d:=by
 cases r with
 | non=>exact .non
 | bl b=>exact .bl b
 | int i=>exact .int i
 | str x=>exact .str x
 | ty n=>exact .ty n
 | tup h n r=>exact .tup (e.keep _ _ h n) (λz=>n (e.av _ _ h z)) (Reps.mono e r)
 | lst h n r=>exact .lst (e.keep _ _ h n) (λz=>n (e.av _ _ h z)) (Reps.mono e r)
 | scr h=>exact .scr (h.mono e)
 | dic h n=>exact .dic (e.keep _ _ h n) (λz=>n (e.av _ _ h z))
 | obj h=>exact .obj (e.io _ _ h)
 | exc g h n f r=>exact .exc g (e.keep _ _ h n) (λz=>n (e.av _ _ h z)) (f.mono e) (Reps.mono e r)
theorem Reps.mono {K:PySem.W.Frag}{c c':Cf}{H H':Hp}(e:Ext c H c' H'){vs:List V}{ds:List D}(r:Reps K c H vs ds):Reps K c' H' vs ds:=by
 cases r with
 | nil=>exact .nil
 | cons h t=>exact .cons (Rep.mono e h) (Reps.mono e t)
end
section
variable {K:PySem.W.Frag}{c:Cf}{H:Hp}
theorem Reps.length:∀{vs:List V} {ds:List D},Reps K c H vs ds->vs.length=ds.length
 | _,_,.nil=>rfl
 | _,_,.cons _ t=>by simp [Reps.length t]
theorem Reps.get:∀{vs:List V} {ds:List D} {i:Nat} {v:V} {d:D},Reps K c H vs ds->vs[i]?=some v->ds[i]?=some d->Rep K c H v d
 | _,_,_,_,_,.nil,e,_=>by simp at e
 | _,_,0,_,_,.cons r _,e,e'=>by simp at e e';subst e e';exact r
 | _,_,i + 1,_,_,.cons _ t,e,e'=>Reps.get (i:=i) t (by simpa using e) (by simpa using e')
theorem Reps.at:∀{vs:List V} {ds:List D} {i:Nat} {d:D},Reps K c H vs ds->ds[i]?=some d->∃v,vs[i]?=some v/\Rep K c H v d
 | _,_,_,_,.nil,e=>by simp at e
 | _,_,0,_,.cons r _,e=>by simp at e;subst e;exact ⟨_,rfl,r⟩
 | _,_,i + 1,_,.cons _ t,e=>by
   obtain ⟨v,h1,h2⟩:=Reps.at (i:=i) t (by simpa using e);exact ⟨v,by simpa using h1,h2⟩
theorem Reps.append {vs ws:List V}{ds es:List D}(r:Reps K c H vs ds)(s:Reps K c H ws es):Reps K c H (vs++ws) (ds++es):=by
 cases r with
 | nil=>exact s
 | cons r t=>exact .cons r (Reps.append t s)
theorem Reps.take:∀{vs:List V} {ds:List D} (n:Nat),Reps K c H vs ds->Reps K c H (vs.take n) (ds.take n)
 | _,_,0,_=>.nil
 | _,_,_ + 1,.nil=>.nil
 | _,_,n + 1,.cons r t=>.cons r (Reps.take n t)
theorem Reps.drop:∀{vs:List V} {ds:List D} (n:Nat),Reps K c H vs ds->Reps K c H (vs.drop n) (ds.drop n)
 | _,_,0,r=>r
 | _,_,_ + 1,.nil=>.nil
 | _,_,n + 1,.cons _ t=>Reps.drop n t
theorem Reps.set {v:V}{d:D}(r:Rep K c H v d):∀{vs:List V} {ds:List D} (i:Nat),Reps K c H vs ds->Reps K c H (vs.set i v) (ds.set i d)
 | _,_,_,.nil=>.nil
 | _,_,0,.cons _ t=>.cons r t
 | _,_,i + 1,.cons q t=>.cons q (Reps.set r i t)
theorem Reps.ints:∀ns:List Int,Reps K c H (ns.map V.int) (ns.map D.int)
 | []=>.nil
 | n :: r=>.cons (.int n) (Reps.ints r)
theorem Reps.rep {vs:List V}{ds:List D}(h:Reps K c H vs ds):∀k:Nat,Reps K c H (List.replicate k vs).flatten (List.replicate k ds).flatten
 | 0=>.nil
 | k + 1=>by
   rw [ue4,ue4,ug4,ug4];exact h.append (Reps.rep h k)
end
inductive Ob where
 | lst (xs:List D)
 | dct (kvs:List (Key×D))
 | ins (n:Str) (fs:List (Str×D))
inductive Sl where
 | val (d:D)
 | own (xs:List D)
structure T where
 env:List (Option Sl)
 S:List Ob
def KVR (K:PySem.W.Frag)(c:Cf)(H:Hp):List (Key×V)->List (Key×D)->Prop:=Paired λp q=>p.1=q.1/\Rep K c H p.2 q.2
def UG:List Str:=["Reader", "Side", "Lasting", "Parley", "Listener", "Relay", "Desk"]
def atN:List Str:=["grammar", "standing", "wires", "places", "side", "said", "taken", "handed", "left", "right", "under_way", "grammars", "standings", "heard", "left_grammar", "right_grammar", "rows", "pair", "broken", "parley"]
def XW (K:PySem.W.Frag)(c:Cf)(H:Hp):List (Str×V)->List (Str×D)->Prop:=Paired λp q=>p.1=q.1/\Rep K c H p.2 q.2
def ObR (K:PySem.W.Frag)(c:Cf)(H:Hp)(a:Addr):Ob->Prop
 | .lst ds=>∃vs,H a=some (.lst vs)/\Reps K c H vs ds
 | .dct kvs=>∃us,H a=some (.dK us)/\KVR K c H us kvs
 | .ins n fs=>(n∈UG/\∀p∈fs,p.1∈atN)/\∃C dx us,PySem.W.nsIn K mainGlobals n=some (some (.ref C))/\H a=some (.ins C dx us)/\XW K c H us fs
theorem ObR.mono {K:PySem.W.Frag}{c c':Cf}{H H':Hp}{a:Addr}{o:Ob}(e:Ext c H c' H')(h:ObR K c H a o)(ha:H' a=H a):ObR K c' H' a o:=by
 cases o with
 | lst ds=>obtain ⟨vs,h1,h2⟩:=h;exact ⟨vs,ha.trans h1,h2.mono e⟩
 | dct kvs=>obtain ⟨us,h1,h2⟩:=h;exact ⟨us,ha.trans h1,Paired.mapP h2 λ_ _ z=>⟨z.1,z.2.mono e⟩⟩
 | ins n fs=>obtain ⟨h0,C,dx,us,g,h1,h2⟩:=h;exact ⟨h0,C,dx,us,g,ha.trans h1,Paired.mapP h2 λ_ _ z=>⟨z.1,z.2.mono e⟩⟩
theorem ObR.some {o:Ob}(h:ObR K c H a o):∃u,H a=some u:=by
 cases o with
 | lst ds=>obtain ⟨vs,h1,_⟩:=h;exact ⟨_,h1⟩
 | dct kvs=>obtain ⟨us,h1,_⟩:=h;exact ⟨_,h1⟩
 | ins n fs=>obtain ⟨_,_,_,_,_,h1,_⟩:=h;exact ⟨_,h1⟩
structure SInv (K:PySem.W.Frag)(c:Cf)(S:List Ob)(H:Hp):Prop where
 len:c.ι.length=S.length
 nd:c.ι.Nodup
 obs:∀(k:Nat) (a:Addr) (o:Ob),c.ι[k]?=some a->S[k]?=some o->ObR K c H a o
 trk:∀b,c.O b->∃o,H b=some o
 dis:∀b,c.O b->b∉c.ι
variable {S:List Ob}
theorem SInv.trkA (s:SInv K c S H){b:Addr}(h:c.A b):∃o,H b=some o:=by
 rcases h with h | h
 ·obtain ⟨k,hk,e⟩:=List.mem_iff_getElem.mp h;have e1:c.ι[k]?=some b:=by rw [ub2 hk,e]
  have hk':k < S.length:=by rw [<-s.len];exact hk
  exact (s.obs k b _ e1 (ub2 hk')).some
 ·exact s.trk b h
theorem SInv.free (s:SInv K c S H){b:Addr}(h:H b=none):¬c.A b:=λz=>by
 obtain ⟨o,e⟩:=s.trkA z;rw [h] at e;cases e
structure FInv (K:PySem.W.Frag)(Oo:Addr->Prop)(c:Cf)(t:T)(Z:St)(H:Hp):Prop where
 s:SInv K c t.S H
 len:t.env.length=Z.length
 sub:∀b,Oo b->c.O b
 val:∀(i:Nat) (d:D),t.env[i]?=some (some (.val d))->∃v,Z[i]?=some (some v)/\Rep K c H v d
 own:∀(i:Nat) (ds:List D),t.env[i]?=some (some (.own ds))->∃a vs,Z[i]?=some (some (.ref a))/\c.O a/\¬Oo a/\H a=some (.lst vs)/\Reps K c H vs ds
 inj:∀(i j:Nat) (ds es:List D) (a:Addr),t.env[i]?=some (some (.own ds))->t.env[j]?=some (some (.own es))->Z[i]?=some (some (.ref a))->Z[j]?=some (some (.ref a))->i=j
structure Stp (Oo:Addr->Prop)(c:Cf)(H:Hp)(c':Cf)(H':Hp):Prop where
 ext:Ext c H c' H'
 oo:∀b,Oo b->H' b=H b
theorem Stp.refl {Oo:Addr->Prop}{c:Cf}{H:Hp}:Stp Oo c H c H:=⟨.refl,λ_ _=>rfl⟩
theorem Stp.trans {Oo:Addr->Prop}{c c1 c2:Cf}{H H1 H2:Hp}(a:Stp Oo c H c1 H1)(b:Stp Oo c1 H1 c2 H2):Stp Oo c H c2 H2:=
 ⟨a.ext.trans b.ext,λx h=>(b.oo x h).trans (a.oo x h)⟩
section
variable {K:PySem.W.Frag}{Oo:Addr->Prop}{c:Cf}{t:T}{Z:St}{H:Hp}
theorem Ext.laid (s:SInv K c S H){p:Addr}{o:HO}(h:H p=none):Ext c H c (upd H p o):=
 ⟨λb u e _=>by rw [Am (AB e h)];exact e,λ_ _ _ z=>z,λ_ _ e=>e⟩
theorem SInv.laid {S:List Ob}(s:SInv K c S H){p:Addr}{o:HO}(h:H p=none):SInv K c S (upd H p o):=
 ⟨s.len,s.nd,λk a u e1 e2=>by
  have q:=s.obs k a u e1 e2;obtain ⟨w,hw⟩:=q.some;exact q.mono (Ext.laid s h) (Am (AB hw h)),
  λb z=>by obtain ⟨u,e⟩:=s.trk b z;exact ⟨u,by rw [Am (AB e h)];exact e⟩,s.dis⟩
theorem FInv.laid (f:FInv K Oo c t Z H){p:Addr}{o:HO}(h:H p=none):FInv K Oo c t Z (upd H p o):=by
 have e:=Ext.laid (o:=o) f.s h;refine ⟨f.s.laid h,f.len,f.sub,λi d q=>?_,λi ds q=>?_,f.inj⟩
 ·obtain ⟨v,h1,h2⟩:=f.val i d q;exact ⟨v,h1,h2.mono e⟩
 ·obtain ⟨a,vs,h1,h2,h3,h4,h5⟩:=f.own i ds q;exact ⟨a,vs,h1,h2,h3,by rw [Am (AB h4 h)];exact h4,h5.mono e⟩
theorem FInv.stp_laid (f:FInv K Oo c t Z H){p:Addr}{o:HO}(h:H p=none):Stp Oo c H c (upd H p o):=
 ⟨Ext.laid f.s h,λb z=>by obtain ⟨u,e⟩:=f.s.trk b (f.sub b z);exact Am (AB e h)⟩
theorem FInv.set (f:FInv K Oo c t Z H){i:Nat}{v:V}{d:D}(r:Rep K c H v d):FInv K Oo c { t with env:=t.env.set i (some (.val d)) } (Z.set i (some v)) H:=by
 have neq:∀{j:Nat} {x:Sl},(t.env.set i (some (.val d)))[j]?=some (some x)->(j=i/\x = .val d/\j < t.env.length)\/(j≠i/\t.env[j]?=some (some x)):=λ{j x} q=>by
  by_cases h:j=i
  ·subst h;rw [ug8] at q
   split at q
   ·split at q
    ·next h1=>injection q with q;injection q with q;exact .inl ⟨rfl,q.symm,h1⟩
    ·cases q
   ·next h1=>exact absurd rfl h1
  ·rw [ud6 (Ne.symm h)] at q;exact .inr ⟨h,q⟩
 refine ⟨f.s,by simp [f.len],f.sub,λj e q=>?_,λj ds q=>?_,λj k ds es a q1 q2 q3 q4=>?_⟩
 ·rcases neq q with ⟨rfl,z,hl⟩ | ⟨h,q⟩
  ·cases z
   exact ⟨v,by rw [ub7 (by rw [<-f.len];exact hl)],r⟩
  ·obtain ⟨u,h1,h2⟩:=f.val j e q;exact ⟨u,by rw [ud6 (Ne.symm h)];exact h1,h2⟩
 ·rcases neq q with ⟨rfl,z,_⟩ | ⟨h,q⟩
  ·cases z
  ·obtain ⟨a,vs,h1,h2⟩:=f.own j ds q;exact ⟨a,vs,by rw [ud6 (Ne.symm h)];exact h1,h2⟩
 ·rcases neq q1 with ⟨_,z,_⟩ | ⟨h,q1⟩
  ·cases z
  rcases neq q2 with ⟨_,z,_⟩ | ⟨h',q2⟩
  ·cases z
  rw [ud6 (Ne.symm h)] at q3;rw [ud6 (Ne.symm h')] at q4;exact f.inj j k ds es a q1 q2 q3 q4
theorem FInv.setOwn (f:FInv K Oo c t Z H){i:Nat}{p:Addr}{vs:List V}{ds:List D}(h:H p=none)(r:Reps K c H vs ds) :
 ∃c',FInv K Oo c' { t with env:=t.env.set i (some (.own ds)) } (Z.set i (some (.ref p))) (upd H p (.lst vs))/\Stp Oo c H c' (upd H p (.lst vs)):=by
 let c':Cf:=⟨c.ι,λb=>c.O b\/b=p⟩
 have nA:¬c.A p:=f.s.free h;have ext:Ext c H c' (upd H p (.lst vs)):=by
  refine ⟨λb u e _=>by rw [Am (AB e h)];exact e,λb u e z=>?_,λ_ _ e=>e⟩;rcases z with z | z | z
  ·exact .inl z
  ·exact .inr z
  ·subst z;rw [h] at e;cases e
 have stp:Stp Oo c H c' (upd H p (.lst vs)):=⟨ext,λb z=>by obtain ⟨u,e⟩:=f.s.trk b (f.sub b z);exact Am (AB e h)⟩;have sinv:SInv K c' t.S (upd H p (.lst vs)):=by
  refine ⟨f.s.len,f.s.nd,λk a u e1 e2=>?_,λb z=>?_,λb z hb=>?_⟩
  ·have q:=f.s.obs k a u e1 e2;obtain ⟨w,hw⟩:=q.some;exact q.mono ext (Am (AB hw h))
  ·rcases z with z | z
   ·obtain ⟨u,e⟩:=f.s.trk b z;exact ⟨u,by rw [Am (AB e h)];exact e⟩
   ·subst z;exact ⟨_,Au⟩
  ·rcases z with z | z
   ·exact f.s.dis b z hb
   ·subst z;exact nA (.inl hb)
 have neq:∀{j:Nat} {x:Sl},(t.env.set i (some (.own ds)))[j]?=some (some x)->(j=i/\x = .own ds/\j < t.env.length)\/(j≠i/\t.env[j]?=some (some x)):=λ{j x} q=>by
  by_cases h:j=i
  ·subst h;rw [ug8] at q
   split at q
   ·split at q
    ·next h1=>injection q with q;injection q with q;exact .inl ⟨rfl,q.symm,h1⟩
    ·cases q
   ·next h1=>exact absurd rfl h1
  ·rw [ud6 (Ne.symm h)] at q;exact .inr ⟨h,q⟩
 have fresh:∀(j:Nat) (es:List D),t.env[j]?=some (some (.own es))->Z[j]?≠some (some (.ref p)):=λj es q z=>by
  obtain ⟨a,vs',h1,_,_,h4,_⟩:=f.own j es q;rw [h1] at z;injection z with z;injection z with z;injection z with z;subst z;rw [h] at h4;cases h4
 refine ⟨c',⟨sinv,by simp [f.len],λb z=>.inl (f.sub b z),λj e q=>?_,λj es q=>?_,λj k ds' es a q1 q2 q3 q4=>?_⟩,stp⟩
 ·rcases neq q with ⟨_,z,_⟩ | ⟨hn,q⟩
  ·cases z
  ·obtain ⟨u,h1,h2⟩:=f.val j e q;exact ⟨u,by rw [ud6 (Ne.symm hn)];exact h1,h2.mono ext⟩
 ·rcases neq q with ⟨rfl,z,hl⟩ | ⟨hn,q⟩
  ·cases z
   refine ⟨p,vs,by rw [ub7 (by rw [<-f.len];exact hl)],.inr rfl,λz=>?_,Au,r.mono ext⟩;obtain ⟨u,e⟩:=f.s.trk p (f.sub p z);rw [h] at e;cases e
  ·obtain ⟨a,ws,h1,h2,h3,h4,h5⟩:=f.own j es q;exact ⟨a,ws,by rw [ud6 (Ne.symm hn)];exact h1,.inl h2,h3,by rw [Am (AB h4 h)];exact h4,h5.mono ext⟩
 ·rcases neq q1 with ⟨z1,z2,l1⟩ | ⟨n1,r1⟩
  ·rcases neq q2 with ⟨y1,_,_⟩ | ⟨n2,r2⟩
   ·rw [z1,y1]
   ·subst z1;rw [ub7 (by rw [<-f.len];exact l1)] at q3;injection q3 with q3;injection q3 with q3;injection q3 with q3;subst q3
    rw [ud6 (Ne.symm n2)] at q4;exact absurd q4 (fresh k es r2)
  ·rcases neq q2 with ⟨y1,y2,l2⟩ | ⟨n2,r2⟩
   ·subst y1;rw [ub7 (by rw [<-f.len];exact l2)] at q4;injection q4 with q4;injection q4 with q4;injection q4 with q4;subst q4
    rw [ud6 (Ne.symm n1)] at q3;exact absurd q3 (fresh j ds' r1)
   ·rw [ud6 (Ne.symm n1)] at q3;rw [ud6 (Ne.symm n2)] at q4;exact f.inj j k ds' es a r1 r2 q3 q4
theorem FInv.frz (f:FInv K Oo c t Z H){i:Nat}{ds:List D}(q:t.env[i]?=some (some (.own ds))) :
 ∃c' v,FInv K Oo c' { t with env:=t.env.set i (some (.val (.lst ds))) } Z H/\Stp Oo c H c' H/\Z[i]?=some (some v)/\Rep K c' H v (.lst ds):=by
 obtain ⟨a,vs,h1,h2,h3,h4,h5⟩:=f.own i ds q
 let c':Cf:=⟨c.ι,λb=>c.O b/\b≠a⟩
 have ext:Ext c H c' H:=⟨λ_ _ e _=>e,λb u e z=>z.elim .inl λw=>.inr w.1,λ_ _ e=>e⟩;have sinv:SInv K c' t.S H:=⟨f.s.len,f.s.nd,λk b u e1 e2=>(f.s.obs k b u e1 e2).mono ext rfl,λb z=>f.s.trk b z.1,λb z=>f.s.dis b z.1⟩;have nA:¬c'.A a:=λz=>z.elim (λw=>f.s.dis a h2 w) λw=>w.2 rfl;have hZ:Z.set i (some (.ref a))=Z:=by
  apply List.ext_getElem?;intro j
  by_cases hj:j=i
  ·subst hj;rw [ub7 (by have:=(ua8.mp h1).1;exact this),h1]
  ·rw [ud6 (Ne.symm hj)]
 have r:Rep K c' H (.ref a) (.lst ds):=.lst h4 nA (h5.mono ext);have f0:FInv K Oo c' { t with env:=t.env.set i (some (.val (.lst ds))) } Z H:=by
  have neq:∀{j:Nat} {x:Sl},(t.env.set i (some (.val (.lst ds))))[j]?=some (some x)->(j=i/\x = .val (.lst ds))\/(j≠i/\t.env[j]?=some (some x)):=λ{j x} q=>by
   by_cases h:j=i
   ·subst h;rw [ug8] at q
    split at q
    ·split at q
     ·injection q with q;injection q with q;exact .inl ⟨rfl,q.symm⟩
     ·cases q
    ·next h1=>exact absurd rfl h1
   ·rw [ud6 (Ne.symm h)] at q;exact .inr ⟨h,q⟩
  refine ⟨sinv,by simp [f.len],λb z=>⟨f.sub b z,λw=>h3 (w ▸ z)⟩,λj e q'=>?_,λj es q'=>?_,λj k ds' es b q1 q2 q3 q4=>?_⟩
  ·rcases neq q' with ⟨rfl,z⟩ | ⟨hn,q'⟩
   ·cases z;exact ⟨_,h1,r⟩
   ·obtain ⟨u,w1,w2⟩:=f.val j e q';exact ⟨u,w1,w2.mono ext⟩
  ·rcases neq q' with ⟨_,z⟩ | ⟨hn,q'⟩
   ·cases z
   ·obtain ⟨b,ws,w1,w2,w3,w4,w5⟩:=f.own j es q';refine ⟨b,ws,w1,⟨w2,λz=>?_⟩,w3,w4,w5.mono ext⟩;subst z;exact hn (f.inj j i es ds b q' q w1 h1)
  ·rcases neq q1 with ⟨_,z⟩ | ⟨_,q1⟩
   ·cases z
   rcases neq q2 with ⟨_,z⟩ | ⟨_,q2⟩
   ·cases z
   exact f.inj j k ds' es b q1 q2 q3 q4
 exact ⟨c',_,f0,⟨ext,λ_ _=>rfl⟩,h1,r⟩
theorem FInv.wrOwn (f:FInv K Oo c t Z H){i:Nat}{ds ds':List D}{vs':List V}{a:Addr}(q:t.env[i]?=some (some (.own ds)))(h1:Z[i]?=some (some (.ref a)))(r:Reps K c H vs' ds') :
 FInv K Oo c { t with env:=t.env.set i (some (.own ds')) } Z (upd H a (.lst vs'))/\Stp Oo c H c (upd H a (.lst vs')):=by
 obtain ⟨a',vs,g1,h2,h3,h4,h5⟩:=f.own i ds q;rw [h1] at g1;injection g1 with g1;injection g1 with g1;injection g1 with g1;subst g1
 have ext:Ext c H c (upd H a (.lst vs')):=⟨λb u e n=>by rw [Am (λ(z:b=a)=>n (.inr (by rw [z];exact h2)))];exact e,λ_ _ _ z=>z,λ_ _ e=>e⟩;have stp:Stp Oo c H c (upd H a (.lst vs')):=⟨ext,λb z=>Am λw=>h3 (w ▸ z)⟩;have sinv:SInv K c t.S (upd H a (.lst vs')):=by
  refine ⟨f.s.len,f.s.nd,λk b u e1 e2=>(f.s.obs k b u e1 e2).mono ext (Am λz=>f.s.dis a h2 (z ▸ ud7 e1)),λb z=>?_,f.s.dis⟩
  by_cases hb:b=a
  ·subst hb;exact ⟨_,Au⟩
  ·obtain ⟨u,e⟩:=f.s.trk b z;exact ⟨u,by rw [Am hb];exact e⟩
 have neq:∀{j:Nat} {x:Sl},(t.env.set i (some (.own ds')))[j]?=some (some x)->(j=i/\x = .own ds')\/(j≠i/\t.env[j]?=some (some x)):=λ{j x} q=>by
  by_cases h:j=i
  ·subst h;rw [ug8] at q
   split at q
   ·split at q
    ·injection q with q;injection q with q;exact .inl ⟨rfl,q.symm⟩
    ·cases q
   ·next h1=>exact absurd rfl h1
  ·rw [ud6 (Ne.symm h)] at q;exact .inr ⟨h,q⟩
 refine ⟨⟨sinv,by simp [f.len],f.sub,λj e q'=>?_,λj es q'=>?_,λj k es es' b q1 q2 q3 q4=>?_⟩,stp⟩
 ·rcases neq q' with ⟨_,z⟩ | ⟨_,q'⟩
  ·cases z
  ·obtain ⟨u,w1,w2⟩:=f.val j e q';exact ⟨u,w1,w2.mono ext⟩
 ·rcases neq q' with ⟨rfl,z⟩ | ⟨hn,q'⟩
  ·cases z;exact ⟨a,vs',h1,h2,h3,Au,r.mono ext⟩
  ·obtain ⟨b,ws,w1,w2,w3,w4,w5⟩:=f.own j es q';have hb:b≠a:=λz=>by subst z;exact hn (f.inj j i es ds b q' q w1 h1)
   exact ⟨b,ws,w1,w2,w3,by rw [Am hb];exact w4,w5.mono ext⟩
 ·have old:∀{j:Nat} {x:List D},(t.env.set i (some (.own ds')))[j]?=some (some (.own x))->∃y,t.env[j]?=some (some (.own y)):=λ{j x} q'=>by
   rcases neq q' with ⟨rfl,_⟩ | ⟨_,q'⟩
   ·exact ⟨ds,q⟩
   ·exact ⟨x,q'⟩
  obtain ⟨y1,z1⟩:=old q1;obtain ⟨y2,z2⟩:=old q2;exact f.inj j k y1 y2 b z1 z2 q3 q4
theorem FInv.wrObj (f:FInv K Oo c t Z H){k:Nat}{a:Addr}{o:Ob}{u:HO}(e:c.ι[k]?=some a)(r:∀c' H',Ext c H c' H'->H' a=some u->ObR K c' H' a o) :
 FInv K Oo c { t with S:=t.S.set k o } Z (upd H a u)/\Stp Oo c H c (upd H a u):=by
 have hA:a∈c.ι:=ud7 e;have ext:Ext c H c (upd H a u):=⟨λb w h n=>by rw [Am (λ(z:b=a)=>n (.inl (by rw [z];exact hA)))];exact h,λ_ _ _ z=>z,λ_ _ e=>e⟩;have neO:∀b,c.O b->b≠a:=λb z w=>f.s.dis b z (w ▸ hA);have stp:Stp Oo c H c (upd H a u):=⟨ext,λb z=>Am (neO b (f.sub b z))⟩;have sinv:SInv K c (t.S.set k o) (upd H a u):=by
  refine ⟨by simp [f.s.len],f.s.nd,λj b o' e1 e2=>?_,λb z=>?_,f.s.dis⟩
  ·by_cases hj:j=k
   ·subst hj;rw [e] at e1;cases e1
    have hl:j < t.S.length:=by rw [<-f.s.len];exact (ua8.mp e).1
    rw [ub7 hl] at e2;cases e2
    exact r c _ ext Au
   ·rw [ud6 (Ne.symm hj)] at e2;refine (f.s.obs j b o' e1 e2).mono ext (Am λz=>?_);subst z;obtain ⟨l1,g1⟩:=ua8.mp e1;obtain ⟨l2,g2⟩:=ua8.mp e;exact hj ((uh4 f.s.nd).mp (g1.trans g2.symm))
  ·obtain ⟨w,h⟩:=f.s.trk b z;exact ⟨w,by rw [Am (neO b z)];exact h⟩
 refine ⟨⟨sinv,f.len,f.sub,λi d q=>?_,λi ds q=>?_,f.inj⟩,stp⟩
 ·obtain ⟨v,h1,h2⟩:=f.val i d q;exact ⟨v,h1,h2.mono ext⟩
 ·obtain ⟨b,vs,h1,h2,h3,h4,h5⟩:=f.own i ds q;exact ⟨b,vs,h1,h2,h3,by rw [Am (neO b h2)];exact h4,h5.mono ext⟩
theorem FInv.newObj (f:FInv K Oo c t Z H){p:Addr}{o:Ob}{u:HO}(h:H p=none)(r:∀c' H',Ext c H c' H'->H' p=some u->ObR K c' H' p o) :
 ∃c',FInv K Oo c' { t with S:=t.S++[o] } Z (upd H p u)/\Stp Oo c H c' (upd H p u)/\c'.ι[t.S.length]?=some p:=by
 let c':Cf:=⟨c.ι++[p],c.O⟩
 have nA:¬c.A p:=f.s.free h;have ext:Ext c H c' (upd H p u):=by
  refine ⟨λb w e _=>by rw [Am (AB e h)];exact e,λb w e z=>?_,λk a e=>?_⟩
  ·rcases z with z | z
   ·rcases uj1.mp z with z | z
    ·exact .inl z
    ·rw [uf8] at z;subst z;rw [h] at e;cases e
   ·exact .inr z
  ·show (c.ι++[p])[k]?=some a;rw [ua9 (ua8.mp e).1];exact e
 have stp:Stp Oo c H c' (upd H p u):=⟨ext,λb z=>by obtain ⟨w,e⟩:=f.s.trk b (f.sub b z);exact Am (AB e h)⟩;have at_:(c.ι++[p])[t.S.length]?=some p:=by rw [<-f.s.len,ua5 (uo3 _)];simp
 have sinv:SInv K c' (t.S++[o]) (upd H p u):=by
  refine ⟨by simp [c',f.s.len],?_,λj b o' e1 e2=>?_,λb z=>?_,λb z hb=>?_⟩
  ·show (c.ι++[p]).Nodup;exact List.nodup_append.mpr ⟨f.s.nd,by simp,λx hx y hy z=>by rw [uf8] at hy;subst z;subst hy;exact nA (.inl hx)⟩
  ·have hlt:j < (t.S++[o]).length:=(ua8.mp e2).1
   by_cases hj:j < t.S.length
   ·have e1':c.ι[j]?=some b:=by
     have q:(c.ι++[p])[j]?=some b:=e1;rw [ua9 (by rw [f.s.len];exact hj)] at q;exact q
    rw [ua9 hj] at e2;have q:=f.s.obs j b o' e1' e2;obtain ⟨w,hw⟩:=q.some;exact q.mono ext (Am (AB hw h))
   ·have hj':j=t.S.length:=by simp at hlt;lia
    subst hj';rw [at_] at e1;cases e1
    rw [ua5 (uo3 _)] at e2;simp at e2;subst e2;exact r c' _ ext Au
  ·obtain ⟨w,e⟩:=f.s.trk b z;exact ⟨w,by rw [Am (AB e h)];exact e⟩
  ·rcases uj1.mp hb with w | w
   ·exact f.s.dis b z w
   ·rw [uf8] at w;subst w;exact nA (.inr z)
 refine ⟨c',⟨sinv,f.len,f.sub,λi d q=>?_,λi ds q=>?_,f.inj⟩,stp,at_⟩
 ·obtain ⟨v,h1,h2⟩:=f.val i d q;exact ⟨v,h1,h2.mono ext⟩
 ·obtain ⟨b,vs,h1,h2,h3,h4,h5⟩:=f.own i ds q;exact ⟨b,vs,h1,h2,h3,by rw [Am (AB h4 h)];exact h4,h5.mono ext⟩
theorem FInv.after (f:FInv K Oo c t Z H){c':Cf}{S':List Ob}{H':Hp}(s:SInv K c' S' H')(st:Stp c.O c H c' H')(ho:∀b,c'.O b↔c.O b):FInv K Oo c' { t with S:=S' } Z H'/\Stp Oo c H c' H':=by
 refine ⟨⟨s,f.len,λb z=>(ho b).mpr (f.sub b z),λi d q=>?_,λi ds q=>?_,f.inj⟩,st.ext,λb z=>st.oo b (f.sub b z)⟩
 ·obtain ⟨v,h1,h2⟩:=f.val i d q;exact ⟨v,h1,h2.mono st.ext⟩
 ·obtain ⟨b,vs,h1,h2,h3,h4,h5⟩:=f.own i ds q;exact ⟨b,vs,h1,(ho b).mpr h2,h3,(st.oo b h2).trans h4,h5.mono st.ext⟩
end
abbrev M (α:Type):=T->Option (α×T)
inductive Out where
 | next | brk | cont | ret (d:D)
noncomputable def ret {α:Type}(a:α):M α:=λt=>some (a,t)
noncomputable def fail {α:Type}:M α:=λ_=>none
noncomputable def bnd {α β:Type}(f:M α)(g:α->M β):M β:=λt=>match f t with
 | some (a,t1)=>g a t1
 | none=>none
variable {t:T}
theorem Ai {α β:Type}{f:M α}{g:α->M β}{z:β×T}(h:bnd f g t=some z):∃a t1,f t=some (a,t1)/\g a t1=some z:=by
 unfold bnd at h
 cases e:f t with
 | none=>rw [e] at h;cases h
 | some p=>obtain ⟨a,t1⟩:=p;rw [e] at h;exact ⟨a,t1,rfl,h⟩
noncomputable def LIM:Nat:=100000
theorem BT:LIM<=sizeLine:=by unfold LIM;decide
section
variable (K:PySem.W.Frag)
def RE (f:M D):TE:=λZ H Q=>∃Oo c t,FInv K Oo c t Z H/\∃r t',f t=some (r,t')/\∀v H' c',FInv K Oo c' t' Z H'->Stp Oo c H c' H'->Rep K c' H' v r->Q v H'
def RT (f:M Bool):TT:=λZ H Q=>∃Oo c t,FInv K Oo c t Z H/\∃r t',f t=some (r,t')/\∀H' c',FInv K Oo c' t' Z H'->Stp Oo c H c' H'->Q r H'
def RA (f:M (List D)):TA:=λZ H Q=>∃Oo c t,FInv K Oo c t Z H/\∃r t',f t=some (r,t')/\∀vs H' c',FInv K Oo c' t' Z H'->Stp Oo c H c' H'->Reps K c' H' vs r->Q vs H'
def RF (f:M (List D)):TE:=λZ H Q=>∃Oo c t,FInv K Oo c t Z H/\∃ds t',f t=some (ds,t')/\∀p vs H' c',FInv K Oo c' t' Z H'->Stp Oo c H c' H'->Reps K c' H' vs ds->H' p=none->Q (.ref p) (upd H' p (.lst vs))
def RSg (μ:Cf->Hp->D->(V->Hp->Prop)->Prop)(f:M Out):TS:=λE Z H=>∃Oo c t,FInv K Oo c t Z H/\∃o t',f t=some (o,t')/\∀Z' H' c',FInv K Oo c' t' Z' H'->Stp Oo c H c' H'->
 match o with
 | .next=>E.nx Z' H'
 | .brk=>E.bk Z' H'
 | .cont=>E.ct Z' H'
 | .ret r=>μ c' H' r E.rt
def μR:Cf->Hp->D->(V->Hp->Prop)->Prop:=λc H r rt=>∀v,Rep K c H v r->rt v H
def μF:Cf->Hp->D->(V->Hp->Prop)->Prop:=λc H r rt=>match r with
 | .lst ds=>∀p us,H p=none->Reps K c H us ds->rt (.ref p) (upd H p (.lst us))
 | _=>False
abbrev RS (f:M Out):TS:=RSg K (μR K) f
def RG (f:D->M Unit):TG:=λv Z H Q=>∃Oo c t d,FInv K Oo c t Z H/\Rep K c H v d/\∃t',f d t=some ((),t')/\∀Z' H' c',FInv K Oo c' t' Z' H'->Stp Oo c H c' H'->Q Z' H'
structure ItOk (J:It)(c:Cf)(H:Hp)(ds:List D):Prop where
 go:∀c' H' (i:Nat),Ext c H c' H'->i < ds.length->J.go i H'
 yld:∀c' H' (i:Nat) x H'' d,Ext c H c' H'->ds[i]?=some d->J.yld i H' x H''->H''=H'/\Rep K c' H' x d
 stop:∀c' H',Ext c H c' H'->J.stop ds.length H'
def RI (f:M (List D)):TI:=λZ H R=>∃Oo c t,FInv K Oo c t Z H/\∃ds t',f t=some (ds,t')/\∀J H' c',FInv K Oo c' t' Z H'->Stp Oo c H c' H'->ItOk K J c' H' ds->R J H'
def Uz (R:V->Hp->VK->Prop)(h:D->M D):Prop:=∀{Oo:Addr->Prop} {c:Cf} {t:T} {Z:L2.St} {H:Hp} {x:V} {dx r:D} {t':T} {Q:VK},FInv K Oo c t Z H->Rep K c H x dx->h dx t=some (r,t')->
 (∀v H' c',FInv K Oo c' t' Z H'->Stp Oo c H c' H'->Rep K c' H' v r->Q v H')->R x H Q
def A9 (R:R2)(h:D->D->M D):Prop:=∀{Oo:Addr->Prop} {c:Cf} {t:T} {Z:L2.St} {H:Hp} {x y:V} {dx dy r:D} {t':T} {Q:VK},FInv K Oo c t Z H->Rep K c H x dx->Rep K c H y dy->h dx dy t=some (r,t')->
 (∀v H' c',FInv K Oo c' t' Z H'->Stp Oo c H c' H'->Rep K c' H' v r->Q v H')->R x y H Q
def Dy (R:List V->Hp->VK->Prop)(h:List D->M D):Prop:=∀{Oo:Addr->Prop} {c:Cf} {t:T} {Z:L2.St} {H:Hp} {xs:List V} {ds:List D} {r:D} {t':T} {Q:VK},FInv K Oo c t Z H->Reps K c H xs ds->h ds t=some (r,t')->
 (∀v H' c',FInv K Oo c' t' Z H'->Stp Oo c H c' H'->Rep K c' H' v r->Q v H')->R xs H Q
def MW (R:R2)(h:D->D->M (List D)):Prop:=∀{Oo:Addr->Prop} {c:Cf} {t:T} {Z:L2.St} {H:Hp} {x y:V} {dx dy:D} {r:List D} {t':T} {Q:VK},FInv K Oo c t Z H->Rep K c H x dx->Rep K c H y dy->h dx dy t=some (r,t')->
 (∀p vs H' c',FInv K Oo c' t' Z H'->Stp Oo c H c' H'->Reps K c' H' vs r->H' p=none->Q (.ref p) (upd H' p (.lst vs)))->R x y H Q
def Kk (R:List V->Hp->VK->Prop)(h:List D->M (List D)):Prop:=∀{Oo:Addr->Prop} {c:Cf} {t:T} {Z:L2.St} {H:Hp} {xs:List V} {ds r:List D} {t':T} {Q:VK},FInv K Oo c t Z H->Reps K c H xs ds->h ds t=some (r,t')->
 (∀p vs H' c',FInv K Oo c' t' Z H'->Stp Oo c H c' H'->Reps K c' H' vs r->H' p=none->Q (.ref p) (upd H' p (.lst vs)))->R xs H Q
end
variable {tg:Expr}{j i:Nat}{x:Str}{f g:M D}{h:D->D->M D}{R:R2}{op:CmpOp}{Z:L2.St}
section
variable {X:Cx}{e a b:Expr}{pos:Pos}
theorem AL {t t':TE}(h:PE X e t)(i:∀Z H Q,t' Z H Q->t Z H Q):PE X e t':=λpins s Z H Q I q=>h pins s Z H Q I (i Z H Q q)
theorem KB {t t':TT}(h:PT X e t)(i:∀Z H Q,t' Z H Q->t Z H Q):PT X e t':=λpins s Z H Q I q=>h pins s Z H Q I (i Z H Q q)
theorem N0 {t t':TT}(h:PW X e t)(i:∀Z H Q,t' Z H Q->t Z H Q):PW X e t':=λw pins s Z H Q I q=>h w pins s Z H Q I (i Z H Q q)
theorem NX {es:List Expr}{t t':TA}(h:PA X es t)(i:∀Z H Q,t' Z H Q->t Z H Q):PA X es t':=λpos pins s Z H Q I q=>h pos pins s Z H Q I (i Z H Q q)
theorem Bo {st:Stmt}{t t':TS}(h:PS X st t)(i:∀E Z H,t' E Z H->t E Z H):PS X st t':=λpins s Z H E I q=>h pins s Z H E I (i E Z H q)
theorem Mj {st:List Stmt}{t t':TS}(h:PSs X st t)(i:∀E Z H,t' E Z H->t E Z H):PSs X st t':=λpins s Z H E I q=>h pins s Z H E I (i E Z H q)
theorem Iq {t t':TG}(h:PG X e t)(i:∀v Z H Q,t' v Z H Q->t v Z H Q):PG X e t':=λpins s Z H v u Q I r q=>h pins s Z H v u Q I r (i v Z H Q q)
theorem Kz {t t':TI}(h:PI X tg e t)(i:∀Z H R,t' Z H R->t Z H R):PI X tg e t':=λpins s Z H R I q=>h pins s Z H R I (i Z H R q)
def fC (d:D):M D:=ret d
theorem HW {v:V}{d:D}(h:PE X e (tC v))(r:∀c H,Rep X.K c H v d):PE X e (RE X.K (fC d)):=
 AL h λZ H Q z9=>by
  obtain ⟨Oo,c,t,f,r',t',eq,k⟩:=z9
  cases eq
  exact k v H c f .refl (r c H)
theorem UN {i:Int}:PE X (.Constant (.int i) j pos) (RE X.K (fC (.int i))):=HW Vt λ_ _=>.int i
theorem WE {i:Bool}:PE X (.Constant (.bool i) j pos) (RE X.K (fC (.bl i))):=HW WU λ_ _=>.bl i
theorem US {i:Str}:PE X (.Constant (.str i) j pos) (RE X.K (fC (.str i))):=HW Vx λ_ _=>.str i
theorem UO:PE X (.Constant .none j pos) (RE X.K (fC .non)):=HW Vu λ_ _=>.non
theorem Jr {i:Int}{tk:Tok}(hg:Gl X x)(hm:X.mg x=some (.int i tk))(hd:(x == ("__debug__" : Str))=false:=by decide):PE X (.Name x pos) (RE X.K (fC (.int i))):=
 HW (JA hg hm (v:=.int i) ⟨tk,rfl⟩ hd) λ_ _=>.int i
theorem P5 {y:Str}{tk:Tok}(hg:Gl X x)(hm:X.mg x=some (.str y tk))(hd:(x == ("__debug__" : Str))=false:=by decide):PE X (.Name x pos) (RE X.K (fC (.str y))):=
 HW (JA hg hm (v:=.str y) ⟨tk,rfl⟩ hd) λ_ _=>.str y
theorem IF {n:String}(hg:Gl X x)(hm:X.mg x=none)(hv:bootBuiltins x=some (.type n))(hn:x≠"__name__":=by decide)(hd:(x == ("__debug__" : Str))=false:=by decide):PE X (.Name x pos) (RE X.K (fC (.ty n))):=
 HW (SZ hg hm hv (v:=.ty n) rfl hn hd) λ_ _=>.ty n
noncomputable def Ab (i:Nat):M D:=λt=>match t.env[i]? with
 | some (some (.val d))=>some (d,t)
 | some (some (.own ds))=>some (.lst ds,{ t with env:=t.env.set i (some (.val (.lst ds))) })
 | _=>none
theorem M9 {t':T}{r:D}(h:Ab i t=some (r,t')):(t.env[i]?=some (some (.val r))/\t'=t)\/∃ds,t.env[i]?=some (some (.own ds))/\r = .lst ds/\t' = { t with env:=t.env.set i (some (.val (.lst ds))) }:=by
 unfold Ab at h
 cases e:t.env[i]? with
 | none=>rw [e] at h;cases h
 | some o=>
   cases o with
   | none=>rw [e] at h;cases h
   | some sl=>
     cases sl with
     | val d=>rw [e] at h;cases h;exact .inl ⟨rfl,rfl⟩
     | own ds=>rw [e] at h;cases h;exact .inr ⟨ds,rfl,rfl,rfl⟩
theorem UU (i:Nat){x:Str}(hN:X.N[i]?=some x:=by rfl)(hv:Vis X.env.scope x:=by first | exact Or.inl rfl | exact Or.inr (Or.inl rfl) | exact Or.inr (Or.inr rfl))(hd:(x == ("__debug__" : Str))=false:=by decide)
 (hcd:(x == ("__classdict__" : Str))=false:=by decide):PE X (.Name x pos) (RE X.K (Ab i)):=
 AL (C8 hN hv hd hcd) λZ H Q z9=>by
  obtain ⟨Oo,c,t,f,r,t',eq,k⟩:=z9;rcases M9 eq with ⟨q,rfl⟩ | ⟨ds,q,rfl,rfl⟩
  ·obtain ⟨v,h1,h2⟩:=f.val i r q;exact ⟨v,h1,k v H c f .refl h2⟩
  ·obtain ⟨c',v,f',st,h1,h2⟩:=f.frz q;exact ⟨v,h1,k v H c' f' st h2⟩
def Ac (f g:M D)(h:D->D->M D):M D:=bnd f λx=>bnd g λy=>h x y
theorem RE.two (s:A9 K R h){Z:L2.St}{H:Hp}{Q:VK}(q:RE K (Ac f g h) Z H Q):tOp R (RE K f) (RE K g) Z H Q:=by
 obtain ⟨Oo,c,t,fi,r,t',eq,k⟩:=q;obtain ⟨dx,t1,e1,eq⟩:=Ai eq;obtain ⟨dy,t2,e2,eq⟩:=Ai eq;exact ⟨Oo,c,t,fi,dx,t1,e1,λx H1 c1 f1 s1 rx=>⟨Oo,c1,t1,f1,dy,t2,e2,λy H2 c2 f2 s2 ry=>s f2 (rx.mono s2.ext) ry eq λv H' c' f' s' rv=>k v H' c' f' ((s1.trans s2).trans s') rv⟩⟩
theorem Eu {op:Operator}(ho:OpR X (binaryOp op) R)(s:A9 X.K R h)(ha:PE X a (RE X.K f))(hb:PE X b (RE X.K g)):PE X (.BinOp a op b pos) (RE X.K (Ac f g h)):=
 AL (Nz ho ha hb) λ_ _ _ q=>RE.two s q
theorem GO (ho:OpR X (compareOp op) R)(s:A9 X.K R h)(ha:PE X a (RE X.K f))(hb:PE X b (RE X.K g))(hm:behindInMarks op b=false):PE X (.Compare a [op] [b] pos) (RE X.K (Ac f g h)):=
 AL (Ta ho ha hb hm) λ_ _ _ q=>RE.two s q
theorem WF (hr:IxR X R)(s:A9 X.K R h)(ha:PE X a (RE X.K f))(hb:PE X b (RE X.K g))(hs:He b):PE X (.Subscript a b pos) (RE X.K (Ac f g h)):=
 AL (Ny hr ha hb hs) λ_ _ _ q=>RE.two s q
def fUn (f:M D)(h:D->M D):M D:=bnd f h
theorem WH {op:UnaryOp}{R:V->Hp->VK->Prop}{h:D->M D}(ho:UnR X (unaryOp op) R)(s:Uz X.K R h)(ha:PE X a (RE X.K f)):PE X (.UnaryOp op a pos) (RE X.K (fUn f h)):=
 AL (WW ho ha) λZ H Q z9=>by
  obtain ⟨Oo,c,t,fi,r,t',eq,k⟩:=z9;obtain ⟨dx,t1,e1,eq⟩:=Ai eq;exact ⟨Oo,c,t,fi,dx,t1,e1,λx H1 c1 f1 s1 rx=>s f1 rx eq λv H' c' f' s' rv=>k v H' c' f' (s1.trans s') rv⟩
def toB:D->M Bool
 | .bl b=>ret b
 | _=>fail
def Aj (f:M D):M Bool:=bnd f toB
theorem Ij {d:D}{z:Bool×T}(h:toB d t=some z):∃b,d = .bl b/\z=(b,t):=by
 cases d with
 | bl b=>cases h;exact ⟨b,rfl,rfl⟩
 | _=>cases h
theorem RT.val {Q:Bool->Hp->Prop}(q:RT K (Aj f) Z H Q):RE K f Z H λx H1=>∃k,x = .bl k/\Q k H1:=by
 obtain ⟨Oo,c,t,fi,r,t',eq,k⟩:=q;obtain ⟨d,t1,e1,eq⟩:=Ai eq;obtain ⟨b,rfl,z⟩:=Ij eq
 cases z
 refine ⟨Oo,c,t,fi,_,t',e1,λv H1 c1 f1 s1 rv=>?_⟩
 cases rv
 exact ⟨r,rfl,k H1 c1 f1 s1⟩
theorem U4 (h:PE X e (RE X.K f))(he:∀whole,isTrue e X.env whole=(do let v <-whole;standAt e.pos;holding [v] (truthy v)):=by intro _;rfl):PT X e (RT X.K (Aj f)):=
 KB (VH h he) λ_ _ _ q=>RT.val q
theorem FO (ho:OpR X (compareOp op) R)(s:A9 X.K R h)(ha:PE X a (RE X.K f))(hb:PE X b (RE X.K g))(hm:behindInMarks op b=false):PT X (.Compare a [op] [b] pos) (RT X.K (Aj (Ac f g h))):=
 KB (Tn ho ha hb hm) λZ H Q q=>RE.two s (RT.val q)
def Ej (f g w:M D)(h h':D->D->M D):M D:=bnd f λx=>bnd g λy=>bnd (Aj (h x y)) λk=>if k=true then bnd w λz=>h' y z else ret (.bl false)
theorem RE.chain {w:M D}{h':D->D->M D}{R':R2}(s:A9 K R h)(s':A9 K R' h'){Z:L2.St}{H:Hp}{Q:VK}(q:RE K (Ej f g w h h') Z H Q):Pn R R' (RE K f) (RE K g) (RE K w) Z H Q:=by
 obtain ⟨Oo,c,t,fi,r,t',eq,k⟩:=q;obtain ⟨dx,t1,e1,eq⟩:=Ai eq;obtain ⟨dy,t2,e2,eq⟩:=Ai eq;obtain ⟨kb,t3,e3,eq⟩:=Ai eq;obtain ⟨d3,t3',e3',e3⟩:=Ai e3;obtain ⟨b3,rfl,z⟩:=Ij e3
 cases z
 refine ⟨Oo,c,t,fi,dx,t1,e1,λx H1 c1 f1 s1 rx=>⟨Oo,c1,t1,f1,dy,t2,e2,λy H2 c2 f2 s2 ry=>s f2 (rx.mono s2.ext) ry e3' λv H3 c3 f3 s3 rv=>?_⟩⟩
 cases rv
 refine ⟨kb,rfl,?_⟩
 cases kb with
 | false=>
   rw [if_neg uf2] at eq ⊢
   cases eq
   exact k _ H3 c3 f3 ((s1.trans s2).trans s3) (.bl false)
 | true=>
   rw [if_pos rfl] at eq ⊢;obtain ⟨dz,t4,e4,eq⟩:=Ai eq;exact ⟨Oo,c3,t3,f3,dz,t4,e4,λw' H4 c4 f4 s4 rw'=>s' f4 (ry.mono (s3.trans s4).ext) rw' eq λv H' c' f' s' rv=>k v H' c' f' ((((s1.trans s2).trans s3).trans s4).trans s') rv⟩
theorem P4 {d:Expr}{op':CmpOp}{R':R2}{w:M D}{h':D->D->M D}(ho:OpR X (compareOp op) R)(ho':OpR X (compareOp op') R')(s:A9 X.K R h)(s':A9 X.K R' h')(ha:PE X a (RE X.K f))(hb:PE X b (RE X.K g))(hd:PE X d (RE X.K w))
 (hm:lastMarks [op,op'] [b,d]=false:=by with_unfolding_all rfl):PE X (.Compare a [op,op'] [b,d] pos) (RE X.K (Ej f g w h h')):=
 AL (Qz ho ho' ha hb hd hm) λ_ _ _ q=>RE.chain s s' q
def Dn (f g:M Bool):M Bool:=bnd f λk=>if k=true then g else ret false
def fOr (f g:M Bool):M Bool:=bnd f λk=>if k=true then ret true else g
def BU (f:M Bool):M Bool:=bnd f λk=>ret (!k)
def Cn (f g:M D):M D:=bnd (Aj f) λk=>if k=true then g else ret (.bl false)
def HV (f g:M D):M D:=bnd (Aj f) λk=>if k=true then ret (.bl true) else g
def Ge (f:M D):M D:=bnd (Aj f) λk=>ret (.bl (!k))
def fIf (f:M Bool)(g h:M D):M D:=bnd f λk=>if k=true then g else h
variable {f g:M Bool}{u v w:M D}{rest:List Expr}
theorem WN (h:PW X e (RT X.K f)):PT X e (RT X.K f):=h.pt
theorem Sq (ha:PT X a (RT X.K f)):PW X (.BoolOp .And [a] pos) (RT X.K f):=Tu ha
theorem U6 (ha:PT X a (RT X.K f)):PW X (.BoolOp .Or [a] pos) (RT X.K f):=VL ha
theorem U5 (ha:PT X a (RT X.K f))(hb:PW X (.BoolOp .And (b :: rest) pos) (RT X.K g)):PW X (.BoolOp .And (a :: b :: rest) pos) (RT X.K (Dn f g)):=
 N0 (VJ ha hb) λZ H Q z9=>by
  obtain ⟨Oo,c,t,fi,r,t',eq,k⟩:=z9;obtain ⟨kb,t1,e1,eq⟩:=Ai eq;refine ⟨Oo,c,t,fi,kb,t1,e1,λH1 c1 f1 s1=>?_⟩
  cases kb with
  | false=>rw [if_neg uf2] at eq ⊢;cases eq;exact k H1 c1 f1 s1
  | true=>rw [if_pos rfl] at eq ⊢;exact ⟨Oo,c1,t1,f1,r,t',eq,λH2 c2 f2 s2=>k H2 c2 f2 (s1.trans s2)⟩
theorem WO (ha:PT X a (RT X.K f))(hb:PW X (.BoolOp .Or (b :: rest) pos) (RT X.K g)):PW X (.BoolOp .Or (a :: b :: rest) pos) (RT X.K (fOr f g)):=
 N0 (W2 ha hb) λZ H Q z9=>by
  obtain ⟨Oo,c,t,fi,r,t',eq,k⟩:=z9;obtain ⟨kb,t1,e1,eq⟩:=Ai eq;refine ⟨Oo,c,t,fi,kb,t1,e1,λH1 c1 f1 s1=>?_⟩
  cases kb with
  | true=>rw [if_pos rfl] at eq ⊢;cases eq;exact k H1 c1 f1 s1
  | false=>rw [if_neg uf2] at eq ⊢;exact ⟨Oo,c1,t1,f1,r,t',eq,λH2 c2 f2 s2=>k H2 c2 f2 (s1.trans s2)⟩
theorem U3 (ha:PT X a (RT X.K f)):PT X (.UnaryOp .Not a pos) (RT X.K (BU f)):=
 KB (VG ha) λZ H Q z9=>by
  obtain ⟨Oo,c,t,fi,r,t',eq,k⟩:=z9;obtain ⟨kb,t1,e1,eq⟩:=Ai eq
  cases eq
  exact ⟨Oo,c,t,fi,kb,_,e1,λH1 c1 f1 s1=>k H1 c1 f1 s1⟩
theorem Ik {f:M D}{kb:Bool}{t1:T}(h:Aj f t=some (kb,t1)):f t=some (.bl kb,t1):=by
 obtain ⟨d,t2,e1,e2⟩:=Ai h;obtain ⟨b,rfl,z⟩:=Ij e2
 cases z
 exact e1
theorem UR {op:PySem.BoolOp}(h:PE X a (RE X.K u)):PE X (.BoolOp op [a] pos) (RE X.K u):=Vw h
theorem UM (ha:PE X a (RE X.K u))(hb:PE X (.BoolOp .And (b :: rest) pos) (RE X.K v)):PE X (.BoolOp .And (a :: b :: rest) pos) (RE X.K (Cn u v)):=
 AL (Vs ha hb) λZ H Q z9=>by
  obtain ⟨Oo,c,t,fi,r,t',eq,k⟩:=z9;obtain ⟨kb,t1,e1,eq⟩:=Ai eq;refine ⟨Oo,c,t,fi,_,t1,Ik e1,λx H1 c1 f1 s1 rx=>?_⟩
  cases rx
  refine ⟨kb,rfl,?_⟩
  cases kb with
  | false=>rw [if_neg uf2] at eq ⊢;cases eq;exact k _ H1 c1 f1 s1 (.bl false)
  | true=>rw [if_pos rfl] at eq ⊢;exact ⟨Oo,c1,t1,f1,r,t',eq,λy H2 c2 f2 s2 ry=>k y H2 c2 f2 (s1.trans s2) ry⟩
theorem WG (ha:PE X a (RE X.K u))(hb:PE X (.BoolOp .Or (b :: rest) pos) (RE X.K v)):PE X (.BoolOp .Or (a :: b :: rest) pos) (RE X.K (HV u v)):=
 AL (WV ha hb) λZ H Q z9=>by
  obtain ⟨Oo,c,t,fi,r,t',eq,k⟩:=z9;obtain ⟨kb,t1,e1,eq⟩:=Ai eq;refine ⟨Oo,c,t,fi,_,t1,Ik e1,λx H1 c1 f1 s1 rx=>?_⟩
  cases rx
  refine ⟨kb,rfl,?_⟩
  cases kb with
  | true=>rw [if_pos rfl] at eq ⊢;cases eq;exact k _ H1 c1 f1 s1 (.bl true)
  | false=>rw [if_neg uf2] at eq ⊢;exact ⟨Oo,c1,t1,f1,r,t',eq,λy H2 c2 f2 s2 ry=>k y H2 c2 f2 (s1.trans s2) ry⟩
theorem UP (ha:PE X a (RE X.K u)):PE X (.UnaryOp .Not a pos) (RE X.K (Ge u)):=
 AL (Vv ha) λZ H Q z9=>by
  obtain ⟨Oo,c,t,fi,r,t',eq,k⟩:=z9;obtain ⟨kb,t1,e1,eq⟩:=Ai eq
  cases eq
  refine ⟨Oo,c,t,fi,_,_,Ik e1,λx H1 c1 f1 s1 rx=>?_⟩
  cases rx
  exact ⟨kb,rfl,k _ H1 c1 f1 s1 (.bl (!kb))⟩
end
variable {n:Nat}{p:Pos}
section
variable {X:Cx}{e a b:Expr}{es:List Expr}{pos:Pos}
def Ad:M (List D):=ret []
def Aa (f:M D)(g:M (List D)):M (List D):=bnd f λd=>bnd g λds=>ret (d :: ds)
theorem UL:PA X [] (RA X.K Ad):=NX IT λZ H Q z9=>by
 obtain ⟨Oo,c,t,fi,r,t',eq,k⟩:=z9
 cases eq
 exact k [] H c fi .refl .nil
theorem R5 {g:M (List D)}(ha:PE X e (RE X.K f))(hr:PA X es (RA X.K g))(hs:starEach (e :: es) X.env=(false,eval e X.env) :: starEach es X.env:=by rfl):PA X (e :: es) (RA X.K (Aa f g)):=
 NX (FS ha hr hs) λZ H Q z9=>by
  obtain ⟨Oo,c,t,fi,r,t',eq,k⟩:=z9;obtain ⟨d,t1,e1,eq⟩:=Ai eq;obtain ⟨ds,t2,e2,eq⟩:=Ai eq
  cases eq
  exact ⟨Oo,c,t,fi,d,t1,e1,λx H1 c1 f1 s1 rx=>⟨Oo,c1,t1,f1,ds,_,e2,λxs H2 c2 f2 s2 rxs=>k _ H2 c2 f2 (s1.trans s2) (.cons (rx.mono s2.ext) rxs)⟩⟩
def lim {α:Type}(n:Nat)(a:α):M α:=λt=>if n<=LIM then some (a,t) else none
theorem Dz {α:Type}{a:α}{z:α×T}(h:lim n a t=some z):n<=LIM/\z=(a,t):=by
 unfold lim at h
 split at h
 ·next h1=>cases h;exact ⟨h1,rfl⟩
 ·cases h
def As (f:M (List D)):M D:=bnd f λds=>lim ds.length (.tup ds)
theorem UT {x1:Nat}{f:M (List D)}(h:PA X es (RA X.K f)):PE X (.Tuple es x1 pos) (RE X.K (As f)):=
 AL (Vy h) λZ H Q z9=>by
  obtain ⟨Oo,c,t,fi,r,t',eq,k⟩:=z9;obtain ⟨ds,t1,e1,eq⟩:=Ai eq;obtain ⟨hl,z⟩:=Dz eq
  cases z
  refine ⟨Oo,c,t,fi,ds,_,e1,λxs H1 c1 f1 s1 rxs=>⟨by rw [rxs.length];exact um5 hl BT,λp hp=>?_⟩⟩;exact k _ _ c1 (f1.laid hp) (s1.trans (f1.stp_laid hp)) (.tup Au (f1.s.free hp) (rxs.mono (Ext.laid f1.s hp)))
def AI (f:M (List D)):M (List D):=bnd f λds=>lim ds.length ds
theorem UW {f:M (List D)}(h:PA X es (RA X.K f)):PE X (.List es pos) (RF X.K (AI f)):=
 AL (O4 h) λZ H Q z9=>by
  obtain ⟨Oo,c,t,fi,r,t',eq,k⟩:=z9;obtain ⟨ds,t1,e1,eq⟩:=Ai eq;obtain ⟨hl,z⟩:=Dz eq
  cases z
  exact ⟨Oo,c,t,fi,_,_,e1,λxs H1 c1 f1 s1 rxs=>⟨by rw [rxs.length];exact um5 hl BT,λp hp=>k p xs H1 c1 f1 s1 rxs hp⟩⟩
def Aq (f:M (List D)):M D:=bnd f λds=>ret (.lst ds)
theorem R9 {f:M (List D)}(h:PE X e (RF X.K f)):PE X e (RE X.K (Aq f)):=
 AL h λZ H Q z9=>by
  obtain ⟨Oo,c,t,fi,r,t',eq,k⟩:=z9;obtain ⟨ds,t1,e1,eq⟩:=Ai eq
  cases eq
  exact ⟨Oo,c,t,fi,ds,_,e1,λp xs H1 c1 f1 s1 rxs hp=>k _ _ c1 (f1.laid hp) (s1.trans (f1.stp_laid hp)) (.lst Au (f1.s.free hp) (rxs.mono (Ext.laid f1.s hp)))⟩
noncomputable def Np (o:Ob):M D:=λt=>some (.obj t.S.length,{ t with S:=t.S++[o] })
def Gf (f:M (List D)):M D:=bnd f λds=>Np (.lst ds)
theorem UQ {f:M (List D)}(h:PE X e (RF X.K f)):PE X e (RE X.K (Gf f)):=
 AL h λZ H Q z9=>by
  obtain ⟨Oo,c,t,fi,r,t',eq,k⟩:=z9;obtain ⟨ds,t1,e1,eq⟩:=Ai eq
  cases eq
  refine ⟨Oo,c,t,fi,ds,_,e1,λp xs H1 c1 f1 s1 rxs hp=>?_⟩;obtain ⟨c2,f2,s2,e2⟩:=f1.newObj (o:=.lst ds) (u:=.lst xs) hp λc' H' ex hu=>⟨xs,hu,rxs.mono ex⟩;exact k _ _ c2 f2 (s1.trans s2) (.obj e2)
abbrev Fn:=List D->List Ob->Option (D×List Ob)
def spF (K:PySem.W.Frag)(f:Fn):Sp:=λvs H Q _=>∃c ds S,SInv K c S H/\Reps K c H vs ds/\∃r S',f ds S=some (r,S')/\
 ∀v H' c',SInv K c' S' H'->Stp c.O c H c' H'->(∀b,c'.O b↔c.O b)->Rep K c' H' v r->Q v H'
def Ae (g:Fn)(f:M (List D)):M D:=bnd f λds t=>match g ds t.S with
 | some (r,S')=>some (r,{ t with S:=S' })
 | none=>none
theorem GI {g:Fn}{ds:List D}{r:D}{t':T}(h:(match g ds t.S with | some (r,S')=>some (r,{ t with S:=S' }) | none=>none:Option (D×T))=some (r,t')):∃S',g ds t.S=some (r,S')/\t' = { t with S:=S' }:=by
 cases e:g ds t.S with
 | none=>rw [e] at h;cases h
 | some p=>obtain ⟨r',S'⟩:=p;rw [e] at h;cases h;exact ⟨S',rfl,rfl⟩
theorem R6 {k:Nat}{fa:Addr}{fd:FuncData}{ps:List Str}{g:Fn}{f:M (List D)}(F:FnOk X.prog X.w X.K X.mg X.base CX0 k fa fd ps (spF X.K g))(hr:Room k X.A)(hg:Gl X x)(hm:X.mg x=some (.ref fa))(hk:PySem.W.keepIn X.K (.ref fa)=true)(hb:Binds X.K fd ps [])
 (ha:PA X (e :: es) (RA X.K f)) (hdb:(x == ("__debug__" : Str))=false:=by decide) (he:starEach (e :: es) X.env=(false,eval e X.env) :: starEach es X.env:=by rfl) (hpl:(backTo pos (starEach es X.env)).any (·.1)=false:=by rfl) :
 PE X (.Call (.Name x p) (e :: es) [] pos) (RE X.K (Ae g f)):=
 AL (ME F hr hg hm hk hb .nil Nw ha hdb he hpl) λZ H Q z9=>by
  obtain ⟨Oo,c,t,fi,r,t',eq,kk⟩:=z9;obtain ⟨ds,t1,e1,eq⟩:=Ai eq;obtain ⟨S',e2,rfl⟩:=GI eq;refine ⟨Oo,c,t,fi,ds,t1,e1,λvs H1 c1 f1 s1 rvs=>?_⟩;show spF X.K g (vs++[]) H1 Q E0;rw [uj4];refine ⟨c1,ds,t1.S,f1.s,rvs,r,S',e2,λv H' c' si st ho rv=>?_⟩;obtain ⟨f2,s2⟩:=f1.after si st ho;exact kk v H' c' f2 (s1.trans s2) rv
def fB (f:M (List D))(h:List D->M D):M D:=bnd f h
theorem RE.callB {f:M (List D)}{h:List D->M D}{R:List V->Hp->VK->Prop}(s:Dy K R h){Z:L2.St}{H:Hp}{Q:VK}(q:RE K (fB f h) Z H Q):tCB R (RA K f) Z H Q:=by
 obtain ⟨Oo,c,t,fi,r,t',eq,k⟩:=q;obtain ⟨ds,t1,e1,eq⟩:=Ai eq;exact ⟨Oo,c,t,fi,ds,t1,e1,λxs H1 c1 f1 s1 rxs=>s f1 rxs eq λv H' c' f' s' rv=>k v H' c' f' (s1.trans s') rv⟩
def fBF (f:M (List D))(h:List D->M (List D)):M (List D):=bnd f h
theorem RF.callB {f:M (List D)}{h:List D->M (List D)}{R:List V->Hp->VK->Prop}(s:Kk K R h){Z:L2.St}{H:Hp}{Q:VK}(q:RF K (fBF f h) Z H Q):tCB R (RA K f) Z H Q:=by
 obtain ⟨Oo,c,t,fi,r,t',eq,k⟩:=q;obtain ⟨ds,t1,e1,eq⟩:=Ai eq;exact ⟨Oo,c,t,fi,ds,t1,e1,λxs H1 c1 f1 s1 rxs=>s f1 rxs eq λp vs H' c' f' s' rv hp=>k p vs H' c' f' (s1.trans s') rv hp⟩
theorem RF.two {h:D->D->M (List D)}(s:MW K R h){Z:L2.St}{H:Hp}{Q:VK}(q:RF K (bnd f λx=>bnd g λy=>h x y) Z H Q):tOp R (RE K f) (RE K g) Z H Q:=by
 obtain ⟨Oo,c,t,fi,r,t',eq,k⟩:=q;obtain ⟨dx,t1,e1,eq⟩:=Ai eq;obtain ⟨dy,t2,e2,eq⟩:=Ai eq;exact ⟨Oo,c,t,fi,dx,t1,e1,λx H1 c1 f1 s1 rx=>⟨Oo,c1,t1,f1,dy,t2,e2,λy H2 c2 f2 s2 ry=>s f2 (rx.mono s2.ext) ry eq λp vs H' c' f' s' rv hp=>k p vs H' c' f' ((s1.trans s2).trans s') rv hp⟩⟩
end
variable {μ:Cf->Hp->D->(V->Hp->Prop)->Prop}
section
variable {X:Cx}{e a b:Expr}{pos:Pos}{st:Stmt}{sts:List Stmt}
noncomputable def Ah (f g:M Out):M Out:=λt=>match f t with
 | some (.next,t1)=>g t1
 | z=>z
def An:M Out:=ret .next
theorem Sn:PSs X [] (RSg X.K μ An):=Mj Tm λE Z H z9=>by
 obtain ⟨Oo,c,t,fi,o,t',eq,k⟩:=z9
 cases eq
 exact k Z H c fi .refl
theorem Qd {μ:Cf->Hp->D->(V->Hp->Prop)->Prop}{f g:M Out}(h1:PS X st (RSg X.K μ f))(h2:PSs X sts (RSg X.K μ g)):PSs X (st :: sts) (RSg X.K μ (Ah f g)):=
 Mj (LH h1 h2) λE Z H z9=>by
  obtain ⟨Oo,c,t,fi,o,t',eq,k⟩:=z9;unfold Ah at eq
  cases e1:f t with
  | none=>rw [e1] at eq;cases eq
  | some p=>
    obtain ⟨o1,t1⟩:=p;rw [e1] at eq;refine ⟨Oo,c,t,fi,o1,t1,e1,λZ1 H1 c1 f1 s1=>?_⟩
    cases o1 with
    | next=>exact ⟨Oo,c1,t1,f1,o,t',eq,λZ2 H2 c2 f2 s2=>k Z2 H2 c2 f2 (s1.trans s2)⟩
    | brk=>cases eq;exact k Z1 H1 c1 f1 s1
    | cont=>cases eq;exact k Z1 H1 c1 f1 s1
    | ret d=>cases eq;exact k Z1 H1 c1 f1 s1
theorem So {μ:Cf->Hp->D->(V->Hp->Prop)->Prop}{f:M Out}(h1:PS X st (RSg X.K μ f)):PSs X [st] (RSg X.K μ f):=MH h1
def Ak (f:M D):M Out:=bnd f λd=>ret (.ret d)
theorem OA (h:PE X e (RE X.K f)):PS X (.Return (some e) pos) (RS X.K (Ak f)):=
 Bo (G6 h) λE Z H z9=>by
  obtain ⟨Oo,c,t,fi,o,t',eq,k⟩:=z9;obtain ⟨d,t1,e1,eq⟩:=Ai eq
  cases eq
  exact ⟨Oo,c,t,fi,d,_,e1,λv H1 c1 f1 s1 rv=>k Z H1 c1 f1 s1 v rv⟩
def Rr (f:M D):M Out:=bnd f λ_=>ret .next
def ifS (f:M Bool)(g h:M Out):M Out:=bnd f λk=>if k=true then g else h
theorem WM {f:M Bool}{g h:M Out}{sa sb:List Stmt}(hc:PT X e (RT X.K f))(ha:PSs X sa (RSg X.K μ g))(hb:PSs X sb (RSg X.K μ h)):PS X (.If e sa sb pos) (RSg X.K μ (ifS f g h)):=
 Bo (WY hc ha hb) λE Z H z9=>by
  obtain ⟨Oo,c,t,fi,o,t',eq,k⟩:=z9;obtain ⟨kb,t1,e1,eq⟩:=Ai eq;refine ⟨Oo,c,t,fi,kb,t1,e1,λH1 c1 f1 s1=>?_⟩
  cases kb with
  | true=>rw [if_pos rfl] at eq ⊢;exact ⟨Oo,c1,t1,f1,o,t',eq,λZ2 H2 c2 f2 s2=>k Z2 H2 c2 f2 (s1.trans s2)⟩
  | false=>rw [if_neg uf2] at eq ⊢;exact ⟨Oo,c1,t1,f1,o,t',eq,λZ2 H2 c2 f2 s2=>k Z2 H2 c2 f2 (s1.trans s2)⟩
noncomputable def Aw (i:Nat)(d:D):M Unit:=λt=>some ((),{ t with env:=t.env.set i (some (.val d)) })
def Av (i:Nat)(f:M D):M Out:=bnd f λd=>bnd (Aw i d) λ_=>ret .next
theorem RS.set {μ:Cf->Hp->D->(V->Hp->Prop)->Prop}{K:PySem.W.Frag}{i:Nat}{f:M D}{E:Ends}{Z:L2.St}{H:Hp}(q:RSg K μ (Av i f) E Z H):L4 (RE K f) (II i) E Z H:=by
 obtain ⟨Oo,c,t,fi,o,t',eq,k⟩:=q;obtain ⟨d,t1,e1,eq⟩:=Ai eq
 cases eq
 exact ⟨Oo,c,t,fi,d,t1,e1,λv H1 c1 f1 s1 rv=>k _ H1 c1 (f1.set rv) s1⟩
theorem OC {pos':Pos}(hN:X.N.Nodup)(hi:X.N[i]?=some x)(hx:Loc X.env.scope x)(he:PE X e (RE X.K f))(hs:swapsWith e (some (.Name x pos')) pos.line X.env=pure false:=by rfl)(hf:X.fn x=true\/X.env.scope.names.lookup x=some .local:=by first | exact .inl rfl | exact .inr rfl | assumption) :
 PS X (.Assign [.Name x pos'] e pos) (RSg X.K μ (Av i f)):=Bo (LG hN hi hx he hs hf) λ_ _ _ q=>RS.set q
def C6 (i:Nat)(f:M (List D)):M Out:=bnd f λds t=>some (.next,{ t with env:=t.env.set i (some (.own ds)) })
theorem RS.own {f:M (List D)}{E:Ends}(q:RSg K μ (C6 i f) E Z H):L4 (RF K f) (II i) E Z H:=by
 obtain ⟨Oo,c,t,fi,o,t',eq,k⟩:=q;obtain ⟨ds,t1,e1,eq⟩:=Ai eq
 cases eq
 refine ⟨Oo,c,t,fi,ds,t1,e1,λp vs H1 c1 f1 s1 rv hp=>?_⟩;obtain ⟨c2,f2,s2⟩:=f1.setOwn (i:=i) hp rv;exact k _ _ c2 f2 (s1.trans s2)
theorem U2 {f:M (List D)}{pos':Pos}(hN:X.N.Nodup)(hi:X.N[i]?=some x)(hx:Loc X.env.scope x)(he:PE X e (RF X.K f))(hs:swapsWith e (some (.Name x pos')) pos.line X.env=pure false:=by rfl)(hf:X.fn x=true\/X.env.scope.names.lookup x=some .local:=by first | exact .inl rfl | exact .inr rfl | assumption) :
 PS X (.Assign [.Name x pos'] e pos) (RSg X.K μ (C6 i f)):=Bo (LG hN hi hx he hs hf) λ_ _ _ q=>RS.own q
theorem Bk (hN:X.N.Nodup)(hi:X.N[i]?=some x)(hx:Loc X.env.scope x)(hf:X.fn x=true\/X.env.scope.names.lookup x=some .local:=by first | exact .inl rfl | exact .inr rfl | assumption):PG X (.Name x pos) (RG X.K (Aw i)):=
 Iq (Td hN hi hx hf) λv Z H Q z9=>by
  obtain ⟨Oo,c,t,d,fi,rv,t',eq,k⟩:=z9
  cases eq
  exact k _ H c (fi.set rv) .refl
def EH (f:M D)(g:D->M Unit):M Out:=bnd f λd=>bnd (g d) λ_=>ret .next
theorem U1 {g:D->M Unit}(he:PE X e (RE X.K f))(hg:PG X tg (RG X.K g))(hs:swapsWithSole [tg] e pos.line X.env=pure false:=by rfl)(hw:swappedStores [tg] e X.env=pure none:=by rfl)(hp:(assignEach [tg] X.env).map (·.2)=[assign tg X.env]:=by rfl) :
 PS X (.Assign [tg] e pos) (RSg X.K μ (EH f g)):=
 Bo (by first | exact Pe he hg hs hw | exact Pe he hg hs hw hp) λE Z H z9=>by
  obtain ⟨Oo,c,t,fi,o,t',eq,k⟩:=z9;obtain ⟨d,t1,e1,eq⟩:=Ai eq;obtain ⟨u,t2,e2,eq⟩:=Ai eq
  cases eq
  exact ⟨Oo,c,t,fi,d,t1,e1,λv H1 c1 f1 s1 rv=>⟨Oo,c1,t1,d,f1,rv,_,e2,λZ2 H2 c2 f2 s2=>k Z2 H2 c2 f2 (s1.trans s2)⟩⟩
def RGs (K:PySem.W.Frag)(f:List D->M Unit):TGs:=λvs Z H Q=>∃Oo c t ds,FInv K Oo c t Z H/\Reps K c H vs ds/\∃t',f ds t=some ((),t')/\∀Z' H' c',FInv K Oo c' t' Z' H'->Stp Oo c H c' H'->Q Z' H'
theorem Mi {ts:List Expr}{t t':TGs}(h:PGs X ts t)(i:∀v Z H Q,t' v Z H Q->t v Z H Q):PGs X ts t':=λpins s Z H vs us Q I r q=>h pins s Z H vs us Q I r (i vs Z H Q q)
def E1:List D->M Unit
 | []=>ret ()
 | _=>fail
def BK (f:D->M Unit)(g:List D->M Unit):List D->M Unit
 | d :: ds=>bnd (f d) λ_=>g ds
 | []=>fail
theorem Sa:PGs X [] (RGs X.K E1):=Mi Te λvs Z H Q z9=>by
 obtain ⟨Oo,c,t,ds,fi,rv,t',eq,k⟩:=z9
 cases rv with
 | nil=>cases eq;exact ⟨rfl,k Z H c fi .refl⟩
 | cons _ _=>cases eq
theorem RGs.cons {K:PySem.W.Frag}{f:D->M Unit}{g:List D->M Unit}{vs:List V}{Z:L2.St}{H:Hp}{Q:L2.St->Hp->Prop}(q:RGs K (BK f g) vs Z H Q):Ru (RG K f) (RGs K g) vs Z H Q:=by
 obtain ⟨Oo,c,t,ds,fi,rv,t',eq,k⟩:=q
 cases rv with
 | nil=>cases eq
 | cons r rs=>
   obtain ⟨u,t1,e1,eq⟩:=Ai eq;exact ⟨_,_,rfl,Oo,c,t,_,fi,r,t1,e1,λZ1 H1 c1 f1 s1=>⟨Oo,c1,t1,_,f1,rs.mono s1.ext,t',eq,λZ2 H2 c2 f2 s2=>k Z2 H2 c2 f2 (s1.trans s2)⟩⟩
def unT (n:Nat)(g:List D->M Unit):D->M Unit
 | .tup ds=>if ds.length=n then g ds else fail
 | _=>fail
def CT (st:D->M Unit)(b:M Out):List D->M Out
 | []=>ret .next
 | d :: r=>λt=>match st d t with
   | none=>none
   | some (_,t1)=>match b t1 with
     | some (.next,t2)=>CT st b r t2
     | some (.cont,t2)=>CT st b r t2
     | some (.brk,t2)=>some (.next,t2)
     | some (.ret x,t2)=>some (.ret x,t2)
     | none=>none
def BG (f:M (List D))(st:D->M Unit)(b:M Out):M Out:=bnd f λds=>CT st b ds
theorem RS.for {f:M (List D)}{g:D->M Unit}{b:M Out}{E:Ends}(q:RSg K μ (BG f g b) E Z H):Wc (RI K f) (RG K g) (RSg K μ b) E Z H:=by
 obtain ⟨Oo,c,t,fi,o,t',eq,k⟩:=q;obtain ⟨ds,t1,e1,eq⟩:=Ai eq;refine ⟨Oo,c,t,fi,ds,t1,e1,λJ H1 c1 f1 s1 it=>?_⟩;refine ⟨λi m Z' H'=>m=ds.length - i/\i<=ds.length/\∃c' t2,FInv K Oo c' t2 Z' H'/\Stp Oo c1 H1 c' H'/\CT g b (ds.drop i) t2=some (o,t'),⟨_,rfl,uo5 _,c1,t1,f1,.refl,by rw [ul1];exact eq⟩,?_⟩;rintro i m Z' H' ⟨rfl,hi,c',t2,f2,s2,e2⟩
 by_cases hlt:i < ds.length
 ·refine .inr ⟨it.go c' H' i s2.ext hlt,λZ3 H3=>∃c3 t3,FInv K Oo c3 t3 Z3 H3/\Stp Oo c1 H1 c3 H3/\CT g b (ds.drop (i + 1)) t3=some (o,t'),λZ3 H3 h=>⟨ds.length - (i + 1),by lia,rfl,hlt,h⟩,λx H'' hy=>?_⟩;obtain ⟨rfl,rx⟩:=it.yld c' H' i x H'' _ s2.ext (ub2 hlt) hy;rw [ub0 hlt] at e2;unfold CT at e2
  cases e3:g ds[i] t2 with
  | none=>rw [e3] at e2;cases e2
  | some p=>
    obtain ⟨u,t3⟩:=p;rw [e3] at e2
    try dsimp only at e2
    refine ⟨Oo,c',t2,_,f2,rx,t3,e3,λZ3 H3 c3 f3 s3=>?_⟩
    cases e4:b t3 with
    | none=>rw [e4] at e2;cases e2
    | some p=>
      obtain ⟨o4,t4⟩:=p;rw [e4] at e2
      try dsimp only at e2
      refine ⟨Oo,c3,t3,f3,o4,t4,e4,λZ5 H5 c5 f5 s5=>?_⟩;have s':=(s2.trans s3).trans s5
      cases o4 with
      | next=>exact ⟨c5,t4,f5,s',e2⟩
      | cont=>exact ⟨c5,t4,f5,s',e2⟩
      | brk=>cases e2;exact k Z5 H5 c5 f5 (s1.trans s')
      | ret r=>cases e2;exact k Z5 H5 c5 f5 (s1.trans s')
 ·have hi':i=ds.length:=by lia
  subst hi';rw [List.drop_length] at e2
  cases e2
  exact .inl ⟨it.stop c' H' s2.ext,k Z' H' c' f2 (s1.trans s2)⟩
theorem Oy {iter:Expr}{body:List Stmt}{f:M (List D)}{g:D->M Unit}{b:M Out}(hp:PassesOwn (model X.prog X.w) X.A X.env X.xe)(hc:X.calm=true)(hi:PI X tg iter (RI X.K f))(hg:PG X tg (RG X.K g))(hb:PSs X body (RSg X.K μ b))
 (hs:∀x,foldedSetIterable iter X.env x=pure x:=by intro _;rfl):PS X (.For tg iter body [] pos) (RSg X.K μ (BG f g b)):=
 Bo (VD hp hc hi hg hb hs) λ_ _ _ q=>RS.for q
theorem ItOk.lst {K:PySem.W.Frag}{c:Cf}{H:Hp}{p:Addr}{ds:List D}(r:∀c' H',Ext c H c' H'->∃vs,SqL K H' p vs/\Reps K c' H' vs ds):ItOk K (Itl K p) c H ds:=by
 refine ⟨λc' H' i ex hi=>?_,λc' H' i x H'' d ex hd hy=>?_,λc' H' ex=>?_⟩
 ·obtain ⟨vs,h1,h2⟩:=r c' H' ex;obtain ⟨v,e,_⟩:=h2.at (ub2 hi);exact ⟨vs,v,h1,e⟩
 ·obtain ⟨vs,h1,h2⟩:=r c' H' ex;obtain ⟨rfl,h⟩:=hy;exact ⟨rfl,h2.get (h vs h1) hd⟩
 ·obtain ⟨vs,h1,h2⟩:=r c' H' ex;exact ⟨vs,h1,by rw [h2.length];exact uo3 _⟩
theorem ItOk.tup {K:PySem.W.Frag}{c:Cf}{H:Hp}{p:Addr}{ds:List D}(r:∀c' H',Ext c H c' H'->∃vs,SqT K H' p vs/\Reps K c' H' vs ds):ItOk K (Itt K p) c H ds:=by
 refine ⟨λc' H' i ex hi=>?_,λc' H' i x H'' d ex hd hy=>?_,λc' H' ex=>?_⟩
 ·obtain ⟨vs,h1,h2⟩:=r c' H' ex;obtain ⟨v,e,_⟩:=h2.at (ub2 hi);exact ⟨vs,v,h1,e⟩
 ·obtain ⟨vs,h1,h2⟩:=r c' H' ex;obtain ⟨rfl,h⟩:=hy;exact ⟨rfl,h2.get (h vs h1) hd⟩
 ·obtain ⟨vs,h1,h2⟩:=r c' H' ex;exact ⟨vs,h1,by rw [h2.length];exact uo3 _⟩
end
theorem FInv.leave {Oo:Addr->Prop}(f:FInv K Oo c t Z H):SInv K ⟨c.ι,Oo⟩ t.S H/\Ext c H ⟨c.ι,Oo⟩ H:=by
 have ext:Ext c H ⟨c.ι,Oo⟩ H:=⟨λ_ _ e _=>e,λb o _ z=>z.elim .inl λw=>.inr (f.sub b w),λ_ _ e=>e⟩;exact ⟨⟨f.s.len,f.s.nd,λk a o e1 e2=>(f.s.obs k a o e1 e2).mono ext rfl,λb z=>f.s.trk b (f.sub b z),λb z=>f.s.dis b (f.sub b z)⟩,ext⟩
noncomputable def env0 (m:Nat)(ds:List D):List (Option Sl):=ds.map (λd=>some (.val d))++List.replicate (m - ds.length) none
def fnOf (n m:Nat)(g:M Out):Fn:=λds S=>if ds.length=n then (match g ⟨env0 m ds,S⟩ with
 | some (.ret r,t)=>some (r,t.S)
 | some (.next,t)=>some (.non,t.S)
 | _=>none) else none
theorem Gh {ds:List D}{N:List Str}(s:SInv K c S H)(r:Reps K c H vs ds):FInv K c.O c ⟨env0 N.length ds,S⟩ (L2.Dw N vs) H:=by
 have hlen:vs.length=ds.length:=r.length;have none_:∀{i:Nat} {x:Sl},(env0 N.length ds)[i]?=some (some x)->∃d,ds[i]?=some d/\x = .val d:=λ{i x} q=>by
  unfold env0 at q
  by_cases hi:i < ds.length
  ·rw [ua9 (by simpa using hi),ug3,ub2 hi] at q;simp at q;exact ⟨ds[i],ub2 hi,q.symm⟩
  ·rw [ua5 (by simpa using hi),ub3] at q
   split at q <;> simp at q
 refine ⟨s,by simp [env0,L2.Dw,hlen],λ_ z=>z,λi d q=>?_,λi es q=>?_,λi j es _ a q _ _ _=>?_⟩
 ·obtain ⟨d',h1,h2⟩:=none_ q
  cases h2
  obtain ⟨v,h3,h4⟩:=r.at h1;refine ⟨v,?_,h4⟩;unfold L2.Dw;have hi:=(ua8.mp h3).1;rw [ua9 (by simpa using hi),ug3,h3];rfl
 ·obtain ⟨_,_,h2⟩:=none_ q;cases h2
 ·obtain ⟨_,_,h2⟩:=none_ q;cases h2
theorem WL {P:Program}{w:World}{mg:Str->Option Value}{base:Heap}{qual:Str}{st:Stmt}{fa:Addr}{fd:FuncData}{N ps:List Str}{k:Nat}{g:M Out}(F:Fun K x qual st fa fd)(S:FnScope N ps (Ay st))
 (hb:∀(cdv:Value) (A:Around) (outer:List Env) (s:Shared) (H:Hp) (E:XK),Room k (A.deeper (PyProof.Rows.envOfC qual (Ay st) s.heap.objs.size fa cdv))->
   PSs (D3 CX0 P w K mg base N qual (Ay st) fa cdv A outer s H E).nox (By st) (RS K g)):FnOk P w K mg base CX0 (k + 1) fa fd ps (spF K (fnOf ps.length N.length g)):=by
 have hlen:∀{ds:List D} {S:List Ob} {z:D×List Ob},fnOf ps.length N.length g ds S=some z->ds.length=ps.length:=λ{ds S z} h=>by
  unfold fnOf at h
  split at h
  ·next h1=>exact h1
  ·cases h
 refine F.ok S (λvs H Q E h=>?_) (λcdv A outer s H vs Q E hr h=>?_)
 ·obtain ⟨c,ds,S,si,rs,r,S',e,_⟩:=h;rw [rs.length];exact hlen e
 obtain ⟨c,ds,S0,si,rs,r,S',e,kk⟩:=h;refine ⟨RS K g,hb cdv A outer s H E hr,?_⟩;have hl:=hlen e;unfold fnOf at e;rw [if_pos hl] at e
 cases eg:g ⟨env0 N.length ds,S0⟩ with
 | none=>rw [eg] at e;cases e
 | some p=>
   obtain ⟨o,t⟩:=p;rw [eg] at e;refine ⟨c.O,c,_,Gh si rs,o,t,eg,λZ' H' c' f' s'=>?_⟩;obtain ⟨si',ext'⟩:=f'.leave;have st':Stp c.O c H ⟨c'.ι,c.O⟩ H':=⟨s'.ext.trans ext',s'.oo⟩
   cases o with
   | next=>cases e;exact kk .non H' _ si' st' (λ_=>Iff.rfl) .non
   | ret d=>cases e;exact λv rv=>kk v H' _ si' st' (λ_=>Iff.rfl) (rv.mono ext')
   | brk=>cases e
   | cont=>cases e
variable {fr:List Nat}
section
variable {X:Cx}{e a b:Expr}{pos:Pos}
def items:D->M (List D)
 | .lst ds=>ret ds
 | .tup ds=>ret ds
 | .scr ns=>ret (ns.map .int)
 | _=>fail
noncomputable def AX (lo:Int)(n:Nat):List D:=(List.range n).map λi=>.int (lo + (i:Nat))
theorem ItOk.rng {lo:Int}:ItOk K (Itr lo n) c H (AX lo n):=by
 refine ⟨λc' H' i ex hi=>?_,λc' H' i x H'' d ex hd hy=>?_,λc' H' ex=>?_⟩
 ·have:i < n:=by simpa [AX] using hi
  exact this
 ·obtain ⟨rfl,rfl⟩:=hy;refine ⟨rfl,?_⟩;have hi:i < n:=by
   have:=(ua8.mp hd).1;simpa [AX] using this
  have:d = .int (lo + (i:Nat)):=by
   rw [AX,ug3,List.getElem?_range hi] at hd;simpa using hd.symm
  rw [this];exact .int _
 ·show n<=(AX lo n).length;simp [AX]
noncomputable def BL (i:Int):Bool:=decide (-(2 ^ 62)<=i) && decide (i < 2 ^ 62)
def JD:List D->M (List D)
 | [.int j]=>λt=>if BL j=true then some (AX 0 j.toNat,t) else none
 | _=>fail
def JE:List D->M (List D)
 | [.int i,.int j]=>λt=>if (BL i && BL j)=true then some (AX i (j - i).toNat,t) else none
 | _=>fail
def A3 (f:M (List D)):M (List D):=bnd f JD
def Fh (f:M (List D)):M (List D):=bnd f JE
theorem DM {i:Int}(h:BL i=true) : -(2 ^ 62)<=i/\i < 2 ^ 62:=by
 unfold BL at h;rw [uh7] at h;exact ⟨uh3 h.1,uh3 h.2⟩
theorem Ou {f:M (List D)}(hg:Gl X "range")(hm:X.mg "range" = none)(ha:PA X [a] (RA X.K f))(hs:starEach [a] X.env=[(false,eval a X.env)]:=by rfl):PI X tg (.Call (.Name "range" p) [a] [] pos) (RI X.K (A3 f)):=
 Kz (O6 hg hm ha hs) λZ H R z9=>by
  obtain ⟨Oo,c,t,fi,ds,t',eq,k⟩:=z9;obtain ⟨xs,t1,e1,eq⟩:=Ai eq;refine ⟨Oo,c,t,fi,xs,t1,e1,λvs H1 c1 f1 s1 rv=>?_⟩;unfold JD at eq
  split at eq
  ·next j=>
   split at eq
   ·next hs=>
    cases eq
    cases rv with
    | cons r rs=>
      cases rs
      cases r
      obtain ⟨h1,h2⟩:=DM hs;exact ⟨j,rfl,h1,h2,k _ H1 c1 f1 s1 ItOk.rng⟩
   ·cases eq
  ·cases eq
theorem Ov {f:M (List D)}(hg:Gl X "range")(hm:X.mg "range" = none)(ha:PA X [a,b] (RA X.K f))(hs:starEach [a,b] X.env=[(false,eval a X.env),(false,eval b X.env)]:=by rfl)(hs2:starEach [b] X.env=[(false,eval b X.env)]:=by rfl):PI X tg (.Call (.Name "range" p) [a,b] [] pos) (RI X.K (Fh f)):=
 Kz (O7 hg hm ha hs hs2) λZ H R z9=>by
  obtain ⟨Oo,c,t,fi,ds,t',eq,k⟩:=z9;obtain ⟨xs,t1,e1,eq⟩:=Ai eq;refine ⟨Oo,c,t,fi,xs,t1,e1,λvs H1 c1 f1 s1 rv=>?_⟩;unfold JE at eq
  split at eq
  ·next i j=>
   split at eq
   ·next hs=>
    cases eq
    rw [uh7] at hs
    cases rv with
    | cons r rs=>
      cases r
      cases rs with
      | cons r rs=>
        cases rs
        cases r
        obtain ⟨h1,h2⟩:=DM hs.1;obtain ⟨h3,h4⟩:=DM hs.2;exact ⟨i,j,rfl,⟨h1,h2,h3,h4⟩,k _ H1 c1 f1 s1 ItOk.rng⟩
   ·cases eq
  ·cases eq
def Bm (st:D->M Unit)(tst:M Bool)(elt:M D):List D->M (List D)
 | []=>ret []
 | d :: r=>bnd (st d) λ_=>bnd tst λk=>if k=true then bnd elt λx=>bnd (Bm st tst elt r) λxs=>ret (x :: xs) else Bm st tst elt r
noncomputable def Xh:Option (Option Sl)->Option Sl
 | some (some (.val d))=>some (.val d)
 | _=>none
def cenv (n:Nat)(fr:List Nat)(env:List (Option Sl)):List (Option Sl):=List.replicate n none++fr.map λi=>Xh env[i]?
noncomputable def Fm (n:Nat)(fr:List Nat)(Z:L2.St):L2.St:=List.replicate n none++fr.map λi=>(Z[i]?).join
def AA (n:Nat)(fr:List Nat)(f:M (List D))(st:D->M Unit)(tst:M Bool)(elt:M D):M (List D):=bnd f λds t=>match Bm st tst elt ds ⟨cenv n fr t.env,t.S⟩ with
 | some (xs,t')=>if xs.length<=LIM then some (xs,{ t with S:=t'.S }) else none
 | none=>none
theorem HQ {env:List (Option Sl)}{x:Sl}(h:(cenv n fr env)[j]?=some (some x)):∃i d,n<=j/\fr[j - n]?=some i/\env[i]?=some (some (.val d))/\x = .val d:=by
 unfold cenv at h
 by_cases hj:j < n
 ·rw [ua9 (by simpa using hj),ub3] at h
  split at h <;> simp at h
 ·rw [ua5 (by simpa using hj),ud0,ug3] at h
  cases e:fr[j - n]? with
  | none=>rw [e] at h;simp at h
  | some i=>
    rw [e] at h;simp only [uk0,Option.some.injEq] at h
    cases e2:env[i]? with
    | none=>rw [e2] at h;cases h
    | some o=>
      cases o with
      | none=>rw [e2] at h;cases h
      | some sl=>
        cases sl with
        | own _=>rw [e2] at h;cases h
        | val d=>rw [e2] at h;cases h;exact ⟨i,d,by lia,rfl,e2,rfl⟩
theorem Nc {Oo:Addr->Prop}(f:FInv K Oo c t Z H):FInv K c.O c ⟨cenv n fr t.env,t.S⟩ (Fm n fr Z) H:=by
 refine ⟨f.s,by simp [cenv,Fm],λ_ z=>z,λj d q=>?_,λj es q=>?_,λj _ es _ _ q _ _ _=>?_⟩
 ·obtain ⟨i,d',h0,h1,h2,h3⟩:=HQ q
  cases h3
  obtain ⟨v,h4,h5⟩:=f.val i d h2;refine ⟨v,?_,h5⟩;unfold Fm;rw [ua5 (by simpa using h0),ud0,ug3,h1];simp [h4]
 ·obtain ⟨_,_,_,_,_,h⟩:=HQ q;cases h
 ·obtain ⟨_,_,_,_,_,h⟩:=HQ q;cases h
theorem RF.comp {f:M (List D)}{st:D->M Unit}{tst:M Bool}{elt:M D}{Q:VK}(q:RF K (AA n fr f st tst elt) Z H Q):NK (RI K f) (RG K st) (RT K tst) (RE K elt) (Fm n fr) Z H Q:=by
 obtain ⟨Oo,c,t,fi,xs,t',eq,k⟩:=q;obtain ⟨ds,t1,e1,eq⟩:=Ai eq;refine ⟨Oo,c,t,fi,ds,t1,e1,λJ H1 c1 f1 s1 it=>?_⟩
 cases e3:Bm st tst elt ds ⟨cenv n fr t1.env,t1.S⟩ with
 | none=>rw [e3] at eq;cases eq
 | some p=>
   obtain ⟨ys,t3⟩:=p;rw [e3] at eq;dsimp only at eq
   split at eq
   case isFalse=>cases eq
   next hl=>
   cases eq
   refine ⟨λi m acc Z' H'=>m=ds.length - i/\i<=ds.length/\∃c' t2 zs rest,FInv K c1.O c' t2 Z' H'/\Stp c1.O c1 H1 c' H'/\Reps K c' H' acc zs/\Bm st tst elt (ds.drop i) t2=some (rest,t3)/\xs=zs++rest,
    ⟨_,rfl,uo5 _,c1,_,[],xs,Nc f1,.refl,.nil,by rw [ul1];exact e3,rfl⟩,?_⟩
   rintro i m acc Z' H' ⟨rfl,hi,c',t2,zs,rest,f2,s2,ra,e2,ez⟩;have hacc:acc.length<=sizeLine:=by
    have:zs.length<=xs.length:=by rw [ez,uf6];exact ui0 _ _
    rw [ra.length];exact um5 this (um5 hl BT)
   refine ⟨hacc,?_⟩
   by_cases hlt:i < ds.length
   ·refine .inr ⟨it.go c' H' i s2.ext hlt,λx H'' hy=>?_⟩;obtain ⟨rfl,rx⟩:=it.yld c' H' i x H'' _ s2.ext (ub2 hlt) hy;rw [ub0 hlt] at e2;unfold Bm at e2;obtain ⟨u,t4,e4,e2⟩:=Ai e2;obtain ⟨kb,t5,e5,e2⟩:=Ai e2;refine ⟨c1.O,c',t2,_,f2,rx,t4,e4,λZ3 H3 c3 f3 s3=>⟨c1.O,c3,t4,f3,kb,t5,e5,λH4 c4 f4 s4=>?_⟩⟩
    cases kb with
    | false=>
      rw [if_neg uf2] at e2 ⊢;exact ⟨ds.length - (i + 1),by lia,rfl,hlt,c4,t5,zs,rest,f4,(s2.trans s3).trans s4,ra.mono (s3.trans s4).ext,e2,ez⟩
    | true=>
      rw [if_pos rfl] at e2 ⊢;obtain ⟨x6,t6,e6,e2⟩:=Ai e2;obtain ⟨r7,t7,e7,e2⟩:=Ai e2
      cases e2
      refine ⟨c1.O,c4,t5,f4,x6,t6,e6,λv H5 c5 f5 s5 rv=>?_⟩;exact ⟨ds.length - (i + 1),by lia,rfl,hlt,c5,t6,zs++[x6],r7,f5,((s2.trans s3).trans s4).trans s5,(ra.mono ((s3.trans s4).trans s5).ext).append (.cons rv .nil),e7,by rw [ez,ug5];rfl⟩
   ·have hi':i=ds.length:=by lia
    subst hi';rw [List.drop_length] at e2
    cases e2
    refine .inl ⟨it.stop c' H' s2.ext,λp hp _=>?_⟩;obtain ⟨si,ext⟩:=f2.leave;obtain ⟨f6,s6⟩:=f1.after si ⟨s2.ext.trans ext,s2.oo⟩ (λ_=>Iff.rfl);rw [uj4] at ez;subst ez;exact k p acc H' _ f6 (s1.trans s6) (ra.mono ext) hp
end
end F2
namespace F2
open PySem L2 PySem.Spec PySem.SeqAt
noncomputable def eq0:D->D->Option Bool
 | .int a,.int b=>some (a == b)
 | .str a,.str b=>some (a == b)
 | .bl a,.bl b=>some (a == b)
 | .non,.non=>some true
 | .int _,.str _=>some false
 | .str _,.int _=>some false
 | _,_=>none
noncomputable def Ch (f:D->D->Option Bool):List D->List D->Option Bool
 | x :: xs,y :: ys=>match f x y,Ch f xs ys with
   | some a,some b=>some (a && b)
   | _,_=>none
 | _,_=>some true
def eqN:Nat->D->D->Option Bool
 | 0,x,y=>eq0 x y
 | n + 1,.tup xs,.tup ys=>(Ch (eqN n) xs ys).map λb=>b && xs.length == ys.length
 | n + 1,.lst xs,.lst ys=>if xs.length=ys.length then Ch (eqN n) xs ys else some false
 | _ + 1,x,y=>eq0 x y
noncomputable def ej (f:D->D->Option Bool)(xs ys:List D)(j:Nat):Bool:=match xs[j]?,ys[j]? with
 | some d,some e=>(f d e).getD true
 | _,_=>true
theorem C0 {f:D->D->Option Bool}:∀{xs ys:List D} {b:Bool},Ch f xs ys=some b->b=(List.range (min xs.length ys.length)).all (ej f xs ys)/\∀(j:Nat) d e,xs[j]?=some d->ys[j]?=some e->∃k,f d e=some k
 | [],ys,b,h=>by
   have h:some true=some b:=by simpa [Ch] using h
   cases h
   refine ⟨by simp,λj d e q _=>by simp at q⟩
 | x :: xs,[],b,h=>by
   have h:some true=some b:=by simpa [Ch] using h
   cases h
   refine ⟨by simp,λj d e _ q=>by simp at q⟩
 | x :: xs,y :: ys,b,h=>by
   unfold Ch at h
   cases e1:f x y with
   | none=>rw [e1] at h;cases h
   | some a=>
     cases e2:Ch f xs ys with
     | none=>rw [e1,e2] at h;cases h
     | some c=>
       rw [e1,e2] at h
       cases h
       obtain ⟨h1,h2⟩:=C0 e2;refine ⟨?_,λj d e q1 q2=>?_⟩
       ·have hm:min (x :: xs).length (y :: ys).length=min xs.length ys.length + 1:=by simp [Nat.succ_min_succ]
        rw [hm,List.range_succ_eq_map,ul7,List.all_map,h1];have:ej f (x :: xs) (y :: ys) 0=a:=by simp [ej,e1]
        rw [this];rfl
       ·cases j with
        | zero=>simp at q1 q2;subst q1 q2;exact ⟨a,e1⟩
        | succ j=>exact h2 j d e (by simpa using q1) (by simpa using q2)
variable {P:Program}{w:World}{H:Hp}{vs:List V}
theorem Gk {h:Heap}{a:Addr}(o:HOk P w H h)(e:H a=some (.lst vs)):∃its:List Value,Vals vs its/\h.IsList a its.toArray:=by
 obtain ⟨_,its,n,r,q⟩:=o a _ e;exact ⟨its,r,_,q,rfl,n,rfl⟩
theorem Hk {h:Heap}{a:Addr}(o:HOk P w H h)(e:H a=some (.tup vs)):∃its:List Value,Vals vs its/\h.IsTuple a its.toArray:=by
 obtain ⟨_,its,r,q⟩:=o a _ e;exact ⟨its,r,q⟩
theorem IY {its:List Value}{j:Nat}(r:Vals vs its)(h:j < its.toArray.size):∃v,vs[j]?=some v/\RelV v its.toArray[j]:=by
 have h':j < its.length:=by simpa using h
 have hl:j < vs.length:=by rw [r.length];exact h'
 obtain ⟨u,e1,e2⟩:=r.get (ub2 hl);refine ⟨vs[j],ub2 hl,?_⟩;rw [ub2 h'] at e1
 cases e1
 simpa using e2
variable {b:Bool}
theorem Om {f:D->D->Option Bool}{xs ys:List D}(h:Ch f xs ys=some b)(ht:∀(j:Nat) d e k,xs[j]?=some d->ys[j]?=some e->f d e=some k->k=true):b=true:=by
 obtain ⟨h1,h2⟩:=C0 h;rw [h1,ui1];intro j hj;have hj':=uk8.mp hj;have l1:j < xs.length:=by lia
 have l2:j < ys.length:=by lia
 obtain ⟨k,ek⟩:=h2 j _ _ (ub2 l1) (ub2 l2);have:=ht j _ _ k (ub2 l1) (ub2 l2) ek;unfold ej;rw [ub2 l1,ub2 l2];simp [ek,this]
theorem GL {x y:D}(e:eq0 x y=some b):(∃i j,x = .int i/\y = .int j/\(i == j)=b)\/(∃i j,x = .str i/\y = .str j/\(i == j)=b)\/(∃i j,x = .bl i/\y = .bl j/\(i == j)=b)\/(x = .non/\y = .non/\true=b)\/(∃i j,x = .int i/\y = .str j/\false=b)\/(∃i j,x = .str i/\y = .int j/\false=b):=by
 unfold eq0 at e
 split at e
 ·cases e;exact .inl ⟨_,_,rfl,rfl,rfl⟩
 ·cases e;exact .inr (.inl ⟨_,_,rfl,rfl,rfl⟩)
 ·cases e;exact .inr (.inr (.inl ⟨_,_,rfl,rfl,rfl⟩))
 ·cases e;exact .inr (.inr (.inr (.inl ⟨rfl,rfl,rfl⟩)))
 ·cases e;exact .inr (.inr (.inr (.inr (.inl ⟨_,_,rfl,rfl,rfl⟩))))
 ·cases e;exact .inr (.inr (.inr (.inr (.inr ⟨_,_,rfl,rfl,rfl⟩))))
 ·cases e
theorem GM {n:Nat}{x y:D}(e:eqN n x y=some b):eq0 x y=some b\/(∃m xs ys,n=m + 1/\x = .lst xs/\y = .lst ys/\(if xs.length=ys.length then Ch (eqN m) xs ys else some false)=some b)\/∃m xs ys b',n=m + 1/\x = .tup xs/\y = .tup ys/\Ch (eqN m) xs ys=some b'/\(b' && xs.length == ys.length)=b:=by
 unfold eqN at e
 split at e
 ·exact .inl e
 ·obtain ⟨b',e1,e2⟩:=uc1.mp e;exact .inr (.inr ⟨_,_,_,b',rfl,rfl,rfl,e1,e2⟩)
 ·exact .inr (.inl ⟨_,_,_,rfl,rfl,rfl,e⟩)
 ·exact .inl e
variable {K:PySem.W.Frag}{c:Cf}
theorem Mq:∀(n:Nat) {v:V} {d e:D} {b:Bool},Rep K c H v d->Rep K c H v e->eqN n d e=some b->b=true
 :=by
  intro n
  induction n using Nat.strongRecOn with
  | ind n ih=>
  intro v d e b rd re q;have items:∀{m:Nat} {vs:List V} {ds es:List D} {b':Bool},n=m + 1->Reps K c H vs ds->Reps K c H vs es->Ch (eqN m) ds es=some b'->b'=true:=λ{m vs ds es b'} hm r1 r2 e'=>
   Om e' λj d e k q1 q2 ek=>by
    obtain ⟨v,g1,g2⟩:=r1.at q1;exact ih m (by lia) g2 (r2.get g1 q2) ek
  rcases GM q with q0 | ⟨m,ds,es,hm,rfl,rfl,q0⟩ | ⟨m,ds,es,b',hm,rfl,rfl,q1,q2⟩
  ·rcases GL q0 with ⟨i,j,rfl,rfl,rfl⟩ | ⟨i,j,rfl,rfl,rfl⟩ | ⟨i,j,rfl,rfl,rfl⟩ | ⟨rfl,rfl,rfl⟩ | ⟨i,j,rfl,rfl,rfl⟩ | ⟨i,j,rfl,rfl,rfl⟩
   ·cases rd;cases re;simp
   ·cases rd;cases re;simp
   ·cases rd;cases re;simp
   ·cases rd;cases re;rfl
   ·cases rd;cases re
   ·cases rd;cases re
  ·cases rd with
   | lst h1 h2 h3=>
     cases re with
     | lst g1 g2 g3=>
       rw [h1] at g1;cases g1
       rw [if_pos (h3.length.symm.trans g3.length)] at q0;exact items hm h3 g3 q0
  ·cases rd with
   | tup h1 h2 h3=>
     cases re with
     | tup g1 g2 g3=>
       rw [h1] at g1;cases g1
       rw [<-q2,items hm h3 g3 q1,h3.length.symm.trans g3.length];simp
theorem Mp {s:Shared}(hok:HOk P w H s.heap):∀(n:Nat) {A:Around} {x y:V} {u v:Value} {dx dy:D} {b:Bool},RelV x u->RelV y v->Rep K c H x dx->Rep K c H y dy->eqN n dx dy=some b->A.units + n < cLine->
 RcAt A s u v b/\(EqAt A s u v b)
 :=by
  intro n
  induction n using Nat.strongRecOn with
  | ind n ih=>
  intro A x y u v dx dy b ru rv rx ry e hu;have items:∀{m:Nat} {vs ws:List V} {is js:List Value} {ds es:List D} {b':Bool},n=m + 1->Vals vs is->Vals ws js->Reps K c H vs ds->Reps K c H ws es->Ch (eqN m) ds es=some b'->
   ∀j (h1:j < is.toArray.size) (h2:j < js.toArray.size),EqAt A.in1 s is.toArray[j] js.toArray[j] (ej (eqN m) ds es j):=λ{m vs ws is js ds es b'} hm r1 r2 q1 q2 e' j h1 h2=>by
   obtain ⟨v1,a1,a2⟩:=IY r1 h1;obtain ⟨v2,b1,b2⟩:=IY r2 h2;obtain ⟨l1,g1⟩:=ua8.mp a1;obtain ⟨l2,g2⟩:=ua8.mp b1;have k1:ds[j]?=some (ds[j]'(by rw [<-q1.length];exact l1)):=ub2 _;have k2:es[j]?=some (es[j]'(by rw [<-q2.length];exact l2)):=ub2 _;obtain ⟨kk,ek⟩:=(C0 e').2 j _ _ k1 k2;have:ej (eqN m) ds es j=kk:=by unfold ej;rw [k1,k2];simp [ek]
   rw [this];have hu':A.in1.units + m < cLine:=by
    have:A.in1.units=A.units + 1:=by first | rfl | exact Around.units_in1 _ | simp [Around.in1,Around.units]
    lia
   exact (ih m (by lia) a2 b2 (q1.get a1 k1) (q2.get b1 k2) ek hu').2
  have hu0:A.units < cLine:=by lia
  have conc:∀{p q:Addr} {k:Bool},p≠q->RcAt A s (.ref p) (.ref q) k->RcAt A s (.ref p) (.ref q) k/\EqAt A s (.ref p) (.ref q) k:=λhn h=>⟨h,EqAt.of_refs hn h⟩;rcases GM e with e0 | ⟨m,ds,es,hm,rfl,rfl,e0⟩ | ⟨m,ds,es,b',hm,rfl,rfl,e1,e2⟩
  ·rcases GL e0 with ⟨i,j,rfl,rfl,rfl⟩ | ⟨i,j,rfl,rfl,rfl⟩ | ⟨i,j,rfl,rfl,rfl⟩ | ⟨rfl,rfl,rfl⟩ | ⟨i,j,rfl,rfl,rfl⟩ | ⟨i,j,rfl,rfl,rfl⟩
   ·cases rx;cases ry;obtain ⟨t',rfl⟩:=ru;obtain ⟨t,rfl⟩:=rv;exact ⟨RcAt.int_int _ _ _ _,EqAt.int_int _ _ _ _⟩
   ·cases rx;cases ry;obtain ⟨t',rfl⟩:=ru;obtain ⟨t,rfl⟩:=rv;exact ⟨RcAt.str_str _ _ _ _,EqAt.str_str _ _ _ _⟩
   ·cases rx;cases ry;cases ru;cases rv;exact ⟨RcAt.bool_bool _ _,EqAt.bool_bool _ _⟩
   ·cases rx;cases ry;cases ru;cases rv;exact ⟨RcAt.none_none,EqAt.same _⟩
   ·cases rx;cases ry;obtain ⟨t',rfl⟩:=ru;obtain ⟨t,rfl⟩:=rv;exact ⟨RcAt.int_str _ _ _ _,EqAt.int_str _ _ _ _⟩
   ·cases rx;cases ry;obtain ⟨t',rfl⟩:=ru;obtain ⟨t,rfl⟩:=rv;exact ⟨RcAt.str_int _ _ _ _,EqAt.str_int _ _ _ _⟩
  ·cases rx with
   | @lst p vs _ g1 g2 g3=>
   cases ry with
   | @lst q ws _ h1 h2 h3=>
     cases ru
     cases rv
     obtain ⟨is,r1,l1⟩:=Gk hok g1;obtain ⟨js,r2,l2⟩:=Gk hok h1;have hs1:is.toArray.size=ds.length:=by rw [<-g3.length,r1.length];simp
     have hs2:js.toArray.size=es.length:=by rw [<-h3.length,r2.length];simp
     by_cases hl:ds.length=es.length
     ·rw [if_pos hl] at e0;have hsz:is.toArray.size=js.toArray.size:=by rw [hs1,hs2,hl]
      have rc:=RcAt.lists l1 l2 hsz hu0 (items hm r1 r2 g3 h3 e0);have eb:(List.range is.toArray.size).all (ej (eqN m) ds es)=b:=by rw [(C0 e0).1,hs1,<-hl,Nat.min_self]
      rw [eb] at rc
      by_cases hpq:p=q
      ·refine ⟨rc,?_⟩;subst hpq;rw [Mq n (Rep.lst g1 g2 g3) (Rep.lst h1 h2 h3) e];exact EqAt.same _
      ·exact conc hpq rc
     ·rw [if_neg hl] at e0
      cases e0
      have hsz:(is.toArray.size != js.toArray.size)=true:=by rw [hs1,hs2];simpa using hl
      refine conc (λz=>hl ?_) (RcAt.lists_lengths l1 l2 hsz hu0);subst z;rw [g1] at h1;cases h1
      rw [<-g3.length,<-h3.length]
  ·cases rx with
   | @tup p vs _ g1 g2 g3=>
   cases ry with
   | @tup q ws _ h1 h2 h3=>
     cases ru
     cases rv
     obtain ⟨is,r1,l1⟩:=Hk hok g1;obtain ⟨js,r2,l2⟩:=Hk hok h1;have hs1:is.toArray.size=ds.length:=by rw [<-g3.length,r1.length];simp
     have hs2:js.toArray.size=es.length:=by rw [<-h3.length,r2.length];simp
     have rc:=RcAt.tuples l1 l2 hu0 (items hm r1 r2 g3 h3 e1);have eb:((List.range (min is.toArray.size js.toArray.size)).all (ej (eqN m) ds es) && is.toArray.size == js.toArray.size)=b:=by rw [hs1,hs2,<-(C0 e1).1];exact e2
     rw [eb] at rc
     by_cases hpq:p=q
     ·refine ⟨rc,?_⟩;subst hpq;rw [Mq n (Rep.tup g1 g2 g3) (Rep.tup h1 h2 h3) e];exact EqAt.same _
     ·exact conc hpq rc
theorem SK {s:Shared}(hok:HOk P w H s.heap)(n:Nat){A:Around}{x y:V}{u v:Value}{dx dy:D}{b:Bool}(ru:RelV x u)(rv:RelV y v)(rx:Rep K c H x dx)(ry:Rep K c H y dy)(e:eqN n dx dy=some b)(hu:A.units + n < cLine) :
 RcNeAt A s u v (!b):=by
 have items:∀{m:Nat} {vs ws:List V} {is js:List Value} {ds es:List D} {b':Bool},n=m + 1->Vals vs is->Vals ws js->Reps K c H vs ds->Reps K c H ws es->Ch (eqN m) ds es=some b'->
  ∀j (h1:j < is.toArray.size) (h2:j < js.toArray.size),EqAt A.in1 s is.toArray[j] js.toArray[j] (ej (eqN m) ds es j):=λ{m vs ws is js ds es b'} hm r1 r2 q1 q2 e' j h1 h2=>by
  obtain ⟨v1,a1,a2⟩:=IY r1 h1;obtain ⟨v2,b1,b2⟩:=IY r2 h2;obtain ⟨l1,g1⟩:=ua8.mp a1;obtain ⟨l2,g2⟩:=ua8.mp b1;have k1:ds[j]?=some (ds[j]'(by rw [<-q1.length];exact l1)):=ub2 _;have k2:es[j]?=some (es[j]'(by rw [<-q2.length];exact l2)):=ub2 _;obtain ⟨kk,ek⟩:=(C0 e').2 j _ _ k1 k2;have:ej (eqN m) ds es j=kk:=by unfold ej;rw [k1,k2];simp [ek]
  rw [this];have hu':A.in1.units + m < cLine:=by
   have:A.in1.units=A.units + 1:=rfl;lia
  exact (Mp hok m a2 b2 (q1.get a1 k1) (q2.get b1 k2) ek hu').2
 have hu0:A.units < cLine:=by lia
 rcases GM e with e0 | ⟨m,ds,es,hm,rfl,rfl,e0⟩ | ⟨m,ds,es,b',hm,rfl,rfl,e1,e2⟩
 ·rcases GL e0 with ⟨i,j,rfl,rfl,rfl⟩ | ⟨i,j,rfl,rfl,rfl⟩ | ⟨i,j,rfl,rfl,rfl⟩ | ⟨rfl,rfl,rfl⟩ | ⟨i,j,rfl,rfl,rfl⟩ | ⟨i,j,rfl,rfl,rfl⟩
  ·cases rx;cases ry;obtain ⟨t',rfl⟩:=ru;obtain ⟨t,rfl⟩:=rv;exact RcNeAt.int_int _ _ _ _
  ·cases rx;cases ry;obtain ⟨t',rfl⟩:=ru;obtain ⟨t,rfl⟩:=rv;exact RcNeAt.str_str _ _ _ _
  ·cases rx;cases ry;cases ru;cases rv;exact RcNeAt.bool_bool _ _
  ·cases rx;cases ry;cases ru;cases rv;exact RcNeAt.none_none
  ·cases rx;cases ry;obtain ⟨t',rfl⟩:=ru;obtain ⟨t,rfl⟩:=rv;exact RcNeAt.int_str _ _ _ _
  ·cases rx;cases ry;obtain ⟨t',rfl⟩:=ru;obtain ⟨t,rfl⟩:=rv;exact RcNeAt.str_int _ _ _ _
 ·cases rx with
  | @lst p vs _ g1 g2 g3=>
  cases ry with
  | @lst q ws _ h1 h2 h3=>
    cases ru
    cases rv
    obtain ⟨is,r1,l1⟩:=Gk hok g1;obtain ⟨js,r2,l2⟩:=Gk hok h1;have hs1:is.toArray.size=ds.length:=by rw [<-g3.length,r1.length];simp
    have hs2:js.toArray.size=es.length:=by rw [<-h3.length,r2.length];simp
    by_cases hl:ds.length=es.length
    ·rw [if_pos hl] at e0;have hsz:is.toArray.size=js.toArray.size:=by rw [hs1,hs2,hl]
     have rc:=RcNeAt.lists l1 l2 hsz hu0 (items hm r1 r2 g3 h3 e0);rw [show (List.range is.toArray.size).all (ej (eqN m) ds es)=b by rw [(C0 e0).1,hs1,<-hl,Nat.min_self]] at rc;exact rc
    ·rw [if_neg hl] at e0
     cases e0
     exact RcNeAt.lists_lengths l1 l2 (by rw [hs1,hs2];simpa using hl) hu0
 ·cases rx with
  | @tup p vs _ g1 g2 g3=>
  cases ry with
  | @tup q ws _ h1 h2 h3=>
    cases ru
    cases rv
    obtain ⟨is,r1,l1⟩:=Hk hok g1;obtain ⟨js,r2,l2⟩:=Hk hok h1;have hs1:is.toArray.size=ds.length:=by rw [<-g3.length,r1.length];simp
    have hs2:js.toArray.size=es.length:=by rw [<-h3.length,r2.length];simp
    have rc:=RcNeAt.tuples l1 l2 hu0 (items hm r1 r2 g3 h3 e1);have eb:((List.range (min is.toArray.size js.toArray.size)).all (ej (eqN m) ds es) && is.toArray.size == js.toArray.size)=b:=by rw [hs1,hs2,<-(C0 e1).1];exact e2
    rw [eb] at rc;exact rc
def EQD:Nat:=40
def neD (x y:D):M D:=λt=>(eqN EQD x y).map λb=>(.bl (!b),t)
def QM (K:PySem.W.Frag)(g:Bool->Bool):R2:=λx y H Q=>∃c dx dy b,Rep K c H x dx/\Rep K c H y dy/\eqN EQD dx dy=some b/\Q (.bl (g b)) H
theorem OZ {X:Cx}(hu:X.A.units + 64 < cLine):OpR X (compareOp .Eq) (QM X.K id):=by
 intro pins s Z H x y v u Q I rx ry h;obtain ⟨c,dx,dy,b,q1,q2,e,q⟩:=h;have hu':X.A.units + EQD < cLine:=by unfold EQD;lia
 exact (Mp I.hok EQD rx ry q1 q2 e hu').1 X.prog X.w _ _ ⟨.bl b,H,I,rfl,q⟩
theorem O2 {X:Cx}(hu:X.A.units + 64 < cLine):OpR X (compareOp .NotEq) (QM X.K (!·)):=by
 intro pins s Z H x y v u Q I rx ry h;obtain ⟨c,dx,dy,b,q1,q2,e,q⟩:=h;have hu':X.A.units + EQD < cLine:=by unfold EQD;lia
 exact SK I.hok EQD rx ry q1 q2 e hu' X.prog X.w _ _ ⟨.bl (!b),H,I,rfl,q⟩
end F2
set_option maxHeartbeats 4000000
namespace F2
open PySem L2 PySem.Spec
variable {g:Int->Int->D}{t:T}{z:D×T}{X:Cx}{c:Cf}{H:Hp}
section
variable {K:PySem.W.Frag}
def i2 (g:Int->Int->D):D->D->M D
 | .int i,.int j=>ret (g i j)
 | _,_=>fail
theorem U7 {x y:D}(h:i2 g x y t=some z):∃i j,x = .int i/\y = .int j/\z=(g i j,t):=by
 cases x with
 | int i=>cases y with
   | int j=>cases h;exact ⟨i,j,rfl,rfl,rfl⟩
   | _=>cases h
 | _=>cases h
theorem V1 {gV:Int->Int->V}(hr:∀i j c H,Rep K c H (gV i j) (g i j)):A9 K (rI0 gV) (i2 g):=λ{Oo c t Z H x y dx dy r t' Q} f rx ry eq k=>by
 obtain ⟨i,j,rfl,rfl,z⟩:=U7 eq
 cases z
 cases rx
 cases ry
 exact ⟨i,j,rfl,rfl,k _ H c f .refl (hr i j c H)⟩
def i2C (C:Int->Int->Bool)(g:Int->Int->D):D->D->M D
 | .int i,.int j=>λt=>if C i j=true then some (g i j,t) else none
 | _,_=>fail
theorem Su {C:Int->Int->Bool}{x y:D}(h:i2C C g x y t=some z):∃i j,x = .int i/\y = .int j/\C i j=true/\z=(g i j,t):=by
 cases x with
 | int i=>cases y with
   | int j=>
     unfold i2C at h;dsimp only at h
     by_cases hc:C i j=true
     ·rw [if_pos hc] at h;cases h;exact ⟨i,j,rfl,rfl,hc,rfl⟩
     ·rw [if_neg hc] at h;cases h
   | _=>cases h
 | _=>cases h
theorem ED {P:Int->Int->Prop}{C:Int->Int->Bool}{gV:Int->Int->V}(hP:∀i j,C i j=true->P i j)(hr:∀i j c H,Rep K c H (gV i j) (g i j)):A9 K (rI P gV) (i2C C g):=λ{Oo c t Z H x y dx dy r t' Q} f rx ry eq k=>by
 obtain ⟨i,j,rfl,rfl,hc,z⟩:=Su eq
 cases z
 cases rx
 cases ry
 exact ⟨i,j,rfl,rfl,hP i j hc,k _ H c f .refl (hr i j c H)⟩
def BH:=i2 λi j=>.int (i - j)
noncomputable def Kn (_ j:Int):Bool:=decide (0 < j) && decide (j < 1073741824)
def Gg:=i2C Kn λi j=>.int (i / j)
def EY:=i2C (λ_ j=>decide (0 < j)) λi j=>.int (i % j)
noncomputable def Ks (i j:Int):Bool:=decide (0<=j) && decide (j<=1000000) && decide (i.natAbs < 2 ^ 64)
def EZ:=i2C Ks λi j=>.int (i ^ j.toNat)
noncomputable def Ex (i j:Int):Bool:=(decide (-(2 ^ 64) < i) && decide (i < 2 ^ 64)) || (decide (-(2 ^ 64) < j) && decide (j < 2 ^ 64))
def LX:=i2C (λ_ j=>decide (0<=j)) λi j=>.int (i / 2 ^ j.toNat)
theorem TZ:A9 K (rI0 λi j=>.int (i - j)) BH:=V1 λi j _ _=>.int _
theorem QT:A9 K (rI Ur λi j=>.int (i / j)) Gg:=ED (λi j h=>by
 unfold Kn at h;rw [uh7] at h;exact ⟨uh3 h.1,uh3 h.2⟩) λi j _ _=>.int _
theorem TQ:A9 K (rI (λ_ j=>0 < j) λi j=>.int (i % j)) EY:=ED (λi j h=>uh3 h) λi j _ _=>.int _
theorem TW:A9 K (rI Us λi j=>.int (i ^ j.toNat)) EZ:=ED (λi j h=>by
 unfold Ks at h;rw [uh7,uh7] at h;exact ⟨uh3 h.1.1,uh3 h.1.2,uh3 h.2⟩) λi j _ _=>.int _
theorem TX:A9 K (rI (λ_ j=>0<=j) λi j=>.int (i / 2 ^ j.toNat)) LX:=ED (λi j h=>uh3 h) λi j _ _=>.int _
theorem OS {i j:Int}(h:Ex i j=true):CMul i j:=by
 unfold Ex at h;rw [uk1,uh7,uh7] at h;rcases h with h | h
 ·exact .inl ⟨uh3 h.1,uh3 h.2⟩
 ·exact .inr ⟨uh3 h.1,uh3 h.2⟩
def H9:D->M D
 | .int i=>ret (.int (-i))
 | _=>fail
theorem TU:Uz K (rU λi=>.int (-i)) H9:=λ{Oo c t Z H x dx r t' Q} f rx eq k=>by
 cases rx with
 | int i=>cases eq;exact ⟨i,rfl,k _ H c f .refl (.int _)⟩
 | _=>cases eq
def PJ:D->D->M D
 | .int i,.int j=>ret (.int (i + j))
 | .str x,.str y=>lim (x.length + y.length) (.str (x++y))
 | .lst xs,.lst ys=>lim (xs.length + ys.length) (.lst (xs++ys))
 | .tup xs,.tup ys=>λt=>if xs.isEmpty=false/\xs.length + ys.length<=LIM then some (.tup (xs++ys),t) else none
 | _,_=>fail
def Tv:R2:=λx y H Q=>∃i j,x = .str i/\y = .str j/\i.length + j.length<=sizeLine/\Q (.str (i++j)) H
def ND (K:PySem.W.Frag):R2:=λx y H Q=>rI0 (λi j=>.int (i + j)) x y H Q\/(Tv x y H Q\/(QL x y H Q\/Rz K x y H Q))
theorem op_add4:OpR X (binaryOp .Add) (ND X.K):=op_add.or (op_add_str.or (op_cat.or SR))
theorem Tz:A9 K (ND K) PJ:=λ{Oo c t Z H x y dx dy r t' Q} f rx ry eq k=>by
 cases rx with
 | int i=>
   cases ry with
   | int j=>cases eq;exact .inl ⟨i,j,rfl,rfl,k _ H c f .refl (.int _)⟩
   | _=>cases eq
 | str i=>
   cases ry with
   | str j=>
     obtain ⟨h,z⟩:=Dz eq
     cases z
     exact .inr (.inl ⟨i,j,rfl,rfl,um5 h BT,k _ H c f .refl (.str _)⟩)
   | _=>cases eq
 | @lst a vs ds h1 h2 h3=>
   cases ry with
   | @lst b ws es g1 g2 g3=>
     obtain ⟨h,z⟩:=Dz eq
     cases z
     refine .inr (.inr (.inl ⟨a,b,vs,ws,rfl,rfl,h1,g1,?_,λp hp=>?_⟩))
     ·rw [h3.length,g3.length];exact um5 h BT
     ·exact k _ _ c (f.laid hp) (f.stp_laid hp) (.lst Au (f.s.free hp) ((h3.append g3).mono (Ext.laid f.s hp)))
   | _=>cases eq
 | @tup a vs ds h1 h2 h3=>
   cases ry with
   | @tup b ws es g1 g2 g3=>
     unfold PJ at eq;dsimp only at eq
     split at eq
     ·next h=>
      cases eq
      have hne:vs≠[]:=λz=>by
       have:=h3.length;rw [z] at this;have h0:ds.length=0:=this.symm;have:ds=[]:=ub5.mp h0;rw [this] at h;simp at h
      refine .inr (.inr (.inr ⟨a,b,vs,ws,rfl,rfl,SqT.of h1,SqT.of g1,hne,?_,λz=>?_,λz p hp=>?_⟩))
      ·rw [h3.length,g3.length];exact um5 h.2 BT
      ·subst z;have:es=[]:=ub5.mp g3.length.symm;subst this;rw [uj4] at k;exact k _ H c f .refl (.tup h1 h2 h3)
      ·exact k _ _ c (f.laid hp) (f.stp_laid hp) (.tup Au (f.s.free hp) ((h3.append g3).mono (Ext.laid f.s hp)))
     ·cases eq
   | _=>cases eq
 | _=>cases eq
def HN:D->D->M (List D)
 | .lst xs,.lst ys=>lim (xs.length + ys.length) (xs++ys)
 | _,_=>fail
theorem QS:MW K QL HN:=λ{Oo c t Z H x y dx dy r t' Q} f rx ry eq k=>by
 cases rx with
 | @lst a vs ds h1 h2 h3=>
   cases ry with
   | @lst b ws es g1 g2 g3=>
     obtain ⟨h,z⟩:=Dz eq
     cases z
     refine ⟨a,b,vs,ws,rfl,rfl,h1,g1,?_,λp hp=>k p _ H c f .refl (h3.append g3) hp⟩;rw [h3.length,g3.length];exact um5 h BT
   | _=>cases eq
 | _=>cases eq
def isC:D->D->M D
 | x,.non=>λt=>some (.bl (match x with | .non=>true | _=>false),t)
 | x,.bl b=>λt=>some (.bl (match x with | .bl c=>c == b | _=>false),t)
 | _,_=>fail
def OH (x y:D):M D:=bnd (isC x y) λd=>match d with | .bl b=>ret (.bl (!b)) | _=>fail
def rIs (g:Bool->Bool):R2:=λx y H Q=>(y = .non\/∃b,y = .bl b)/\Q (.bl (g (decide (x=y)))) H
theorem R0 {x y:V}{v u:Value}(rx:RelV x v)(ry:RelV y u)(hy:y = .non\/∃b,y = .bl b):plainIs v u=true/\(v == u)=decide (x=y):=by
 rcases hy with rfl | ⟨b,rfl⟩
 ·cases ry
  cases x with
  | non=>cases rx;exact ⟨rfl,by simp⟩
  | bl _=>cases rx;exact ⟨rfl,by simp⟩
  | int _=>obtain ⟨t,rfl⟩:=rx;exact ⟨rfl,by simp⟩
  | str _=>obtain ⟨t,rfl⟩:=rx;exact ⟨rfl,by simp⟩
  | byt _=>obtain ⟨t,rfl⟩:=rx;exact ⟨rfl,by simp⟩
  | flt _=>obtain ⟨t,rfl⟩:=rx;exact ⟨rfl,by simp⟩
  | ref _=>cases rx;exact ⟨rfl,by simp⟩
  | ty _=>cases rx;exact ⟨rfl,by simp⟩
 ·cases ry
  cases x with
  | non=>cases rx;exact ⟨rfl,by simp⟩
  | bl c=>cases rx;exact ⟨rfl,by simp;cases c <;> cases b <;> rfl⟩
  | int _=>obtain ⟨t,rfl⟩:=rx;exact ⟨rfl,by simp⟩
  | str _=>obtain ⟨t,rfl⟩:=rx;exact ⟨rfl,by simp⟩
  | byt _=>obtain ⟨t,rfl⟩:=rx;exact ⟨rfl,by simp⟩
  | flt _=>obtain ⟨t,rfl⟩:=rx;exact ⟨rfl,by simp⟩
  | ref _=>cases rx;exact ⟨rfl,by simp⟩
  | ty _=>cases rx;exact ⟨rfl,by simp⟩
theorem Vm:OpR X (compareOp .Is) (rIs id):=by
 intro pins s Z H x y v u Q I rx ry h;obtain ⟨hy,q⟩:=h;obtain ⟨h1,h2⟩:=R0 rx ry hy;exact wpAny_is_plain h1 ⟨.bl _,H,I,by rw [h2];rfl,q⟩
theorem Sw {x y:V}{dx dy:D}(rx:Rep K c H x dx)(ry:Rep K c H y dy)(eq:isC dx dy t=some z):(y = .non\/∃b,y = .bl b)/\z=(.bl (decide (x=y)),t):=by
 cases ry with
 | non=>
   refine ⟨.inl rfl,?_⟩
   cases rx <;> (cases eq;first | rfl | simp)
 | bl b=>
   refine ⟨.inr ⟨b,rfl⟩,?_⟩
   cases rx <;> (cases eq;first | rfl | simp)
   next a=>cases a <;> cases b <;> rfl
 | _=>cases eq
theorem V3:A9 K (rIs id) isC:=λ{Oo c t Z H x y dx dy r t' Q} f rx ry eq k=>by
 obtain ⟨h,z⟩:=Sw rx ry eq
 cases z
 exact ⟨h,k _ H c f .refl (.bl _)⟩
noncomputable def Fj:D->Bool
 | .non=>true | .bl _=>true | .int _=>true | .str _=>true | _=>false
def NH:D->Option (List D)
 | .lst ds=>some ds
 | .tup ds=>some ds
 | _=>none
noncomputable def toV:D->V
 | .bl b=>.bl b | .int i=>.int i | .str x=>.str x | _=>.non
theorem FW {v:V}{d:D}(r:Rep K c H v d)(h:Fj d=true):v=toV d:=by cases r <;> first | rfl | cases h
theorem E3 {c:Cf}{H:Hp}:∀{vs:List V} {ds:List D},Reps K c H vs ds->ds.all Fj=true->vs=ds.map toV
 | _,_,.nil,_=>rfl
 | _,_,.cons r t,h=>by
   rw [ul7,uh7] at h;rw [ul6,FW r h.1,E3 t h.2]
theorem Gi:∀d:D,Ev (toV d)=true:=λd=>by cases d <;> rfl
def inD (neg:Bool)(x y:D):M D:=λt=>match NH y with
 | some ds=>if Fj x=true/\ds.all Fj=true then some (.bl (if neg then !inV (toV x) (ds.map toV) else inV (toV x) (ds.map toV)),t) else none
 | none=>none
theorem V2 {neg:Bool}:A9 K (rIn K neg) (inD neg):=λ{Oo c t Z H x y dx dy r t' Q} f rx ry eq k=>by
 unfold inD at eq
 cases ry with
 | @lst a vs ds h1 h2 h3=>
   dsimp only [NH] at eq
   split at eq
   ·next h=>
    cases eq
    refine ⟨a,vs,rfl,.inl (SqL.of h1),?_,?_,?_⟩
    ·rw [FW rx h.1];exact Gi _
    ·rw [E3 h3 h.2,List.all_map,ui1];exact λd _=>Gi d
    ·rw [FW rx h.1,E3 h3 h.2];exact k _ H c f .refl (.bl _)
   ·cases eq
 | @tup a vs ds h1 h2 h3=>
   dsimp only [NH] at eq
   split at eq
   ·next h=>
    cases eq
    refine ⟨a,vs,rfl,.inr (SqT.of h1),?_,?_,?_⟩
    ·rw [FW rx h.1];exact Gi _
    ·rw [E3 h3 h.2,List.all_map,ui1];exact λd _=>Gi d
    ·rw [FW rx h.1,E3 h3 h.2];exact k _ H c f .refl (.bl _)
   ·cases eq
 | _=>cases eq
def ixD:D->D->M D
 | .lst ds,.int i=>λt=>(atI ds i).map λd=>(d,t)
 | .tup ds,.int i=>λt=>(atI ds i).map λd=>(d,t)
 | .scr ns,.int i=>λt=>(atI ns i).map λn=>(.int n,t)
 | .str x,.int i=>λt=>if x.length<=LIM then (atI x.cps.toList i).map λn=>(.str ⟨#[n]⟩,t) else none
 | .obj k,.int i=>λt=>match t.S[k]? with
   | some (.lst ds)=>(atI ds i).map λd=>(d,t)
   | _=>none
 | _,_=>fail
theorem F7 {vs:List V}{ds:List D}{i:Int}{d:D}(r:Reps K c H vs ds)(h:atI ds i=some d):∃v,atI vs i=some v/\Rep K c H v d:=by
 unfold atI at h ⊢;obtain ⟨j,h1,h2⟩:=Option.bind_eq_some_iff.mp h;obtain ⟨v,h3,h4⟩:=r.at h2;exact ⟨v,by rw [r.length,h1];exact h3,h4⟩
theorem RY {α β:Type}(g:α->β)(xs:List α)(i:Int):atI (xs.map g) i=(atI xs i).map g:=by
 unfold atI;rw [uj7]
 cases ixN xs.length i with
 | none=>rfl
 | some j=>simp
theorem U8 {dx dy r:D}{t':T}(eq:ixD dx dy t=some (r,t')):∃i,dy = .int i/\((∃ds,dx = .lst ds)\/(∃ds,dx = .tup ds)\/(∃ns,dx = .scr ns)\/(∃z,dx = .str z)\/∃k,dx = .obj k):=by
 unfold ixD at eq
 split at eq
 ·exact ⟨_,rfl,.inl ⟨_,rfl⟩⟩
 ·exact ⟨_,rfl,.inr (.inl ⟨_,rfl⟩)⟩
 ·exact ⟨_,rfl,.inr (.inr (.inl ⟨_,rfl⟩))⟩
 ·exact ⟨_,rfl,.inr (.inr (.inr (.inl ⟨_,rfl⟩)))⟩
 ·exact ⟨_,rfl,.inr (.inr (.inr (.inr ⟨_,rfl⟩)))⟩
 ·cases eq
theorem V4:A9 K (rIx K) ixD:=λ{Oo c t Z H x y dx dy r t' Q} f rx ry eq k=>by
 obtain ⟨i,rfl,hd⟩:=U8 eq
 cases ry
 rcases hd with ⟨ds,rfl⟩ | ⟨ds,rfl⟩ | ⟨ns,rfl⟩ | ⟨z,rfl⟩ | ⟨kk,rfl⟩
 ·cases rx with
  | @lst a vs _ h1 h2 h3=>
    obtain ⟨d,e1,e2⟩:=uc1.mp eq
    cases e2
    obtain ⟨v,e3,e4⟩:=F7 h3 e1;exact .inl ⟨a,vs,i,v,rfl,rfl,SqL.of h1,e3,k _ H c f .refl e4⟩
 ·cases rx with
  | @tup a vs _ h1 h2 h3=>
    obtain ⟨d,e1,e2⟩:=uc1.mp eq
    cases e2
    obtain ⟨v,e3,e4⟩:=F7 h3 e1;exact .inr (.inl ⟨a,vs,i,v,rfl,rfl,SqT.of h1,e3,k _ H c f .refl e4⟩)
 ·cases rx with
  | @scr a _ h1=>
    obtain ⟨n,e1,e2⟩:=uc1.mp eq
    cases e2
    exact .inl ⟨a,_,i,.int n,rfl,rfl,h1.sq,by rw [RY,e1];rfl,k _ H c f .refl (.int n)⟩
 ·cases rx
  unfold ixD at eq;dsimp only at eq
  split at eq
  ·next hl=>
   obtain ⟨n,e1,e2⟩:=uc1.mp eq
   cases e2
   exact .inr (.inr ⟨z,i,n,rfl,rfl,um5 hl BT,e1,k _ H c f .refl (.str _)⟩)
  ·cases eq
 ·cases rx with
  | @obj a _ h1=>
    unfold ixD at eq;dsimp only at eq
    cases es:t.S[kk]? with
    | none=>rw [es] at eq;cases eq
    | some o=>
      rw [es] at eq
      cases o with
      | dct _ | ins _ _=>cases eq
      | lst ds=>
        obtain ⟨d,e1,e2⟩:=uc1.mp eq
        cases e2
        obtain ⟨vs,g1,g2⟩:=f.s.obs kk a _ h1 es;obtain ⟨v,e3,e4⟩:=F7 g2 e1;exact .inl ⟨a,vs,i,v,rfl,rfl,SqL.of g1,e3,k _ H c f .refl e4⟩
end
variable {f:M D}{id:String}{R:List V->Hp->VK->Prop}{x:Str}{p:Pos}
section
variable {X:Cx}{e a b:Expr}{es:List Expr}{pos:Pos}
def RO (K:PySem.W.Frag)(f:M (Option Int)):TO:=λZ H Q=>∃Oo c t,FInv K Oo c t Z H/\∃r t',f t=some (r,t')/\∀H' c',FInv K Oo c' t' Z H'->Stp Oo c H c' H'->Q r H'
theorem NY {oe:Option Expr}{t t':TO}(h:PO X oe t)(i:∀Z H Q,t' Z H Q->t Z H Q):PO X oe t':=λpins s Z H Q I q=>h pins s Z H Q I (i Z H Q q)
def fNo:M (Option Int):=ret none
def asI:D->M (Option Int)
 | .int i=>ret (some i)
 | _=>fail
def B2 (f:M D):M (Option Int):=bnd f asI
theorem Sj:PO X none (RO X.K fNo):=NY Tj λZ H Q z9=>by
 obtain ⟨Oo,c,t,fi,r,t',eq,k⟩:=z9
 cases eq
 exact k H c fi .refl
theorem Sk (h:PE X e (RE X.K f)):PO X (some e) (RO X.K (B2 f)):=NY (Tk h) λZ H Q z9=>by
 obtain ⟨Oo,c,t,fi,r,t',eq,k⟩:=z9;obtain ⟨d,t1,e1,eq⟩:=Ai eq;refine ⟨Oo,c,t,fi,d,t1,e1,λv H1 c1 f1 s1 rv=>?_⟩
 cases rv with
 | int i=>cases eq;exact ⟨i,rfl,k H1 c1 f1 s1⟩
 | _=>cases eq
def PC (K:PySem.W.Frag)(R:V->Option Int->Option Int->Hp->VK->Prop)(h:D->Option Int->Option Int->M D):Prop:=∀{Oo:Addr->Prop} {c:Cf} {t:T} {Z:L2.St} {H:Hp} {x:V} {dx r:D} {lo hi:Option Int} {t':T} {Q:VK},FInv K Oo c t Z H->Rep K c H x dx->h dx lo hi t=some (r,t')->
 (∀v H' c',FInv K Oo c' t' Z H'->Stp Oo c H c' H'->Rep K c' H' v r->Q v H')->R x lo hi H Q
def fSl (f:M D)(l u:M (Option Int))(h:D->Option Int->Option Int->M D):M D:=bnd f λx=>bnd l λlo=>bnd u λhi=>h x lo hi
theorem P8 {R:V->Option Int->Option Int->Hp->VK->Prop}{h:D->Option Int->Option Int->M D}{l u:M (Option Int)}{lo hi:Option Expr}{p2:Pos}(hr:SlR X R)(s:PC X.K R h)(he:PE X e (RE X.K f))(hl:PO X lo (RO X.K l))(hu:PO X hi (RO X.K u)):PE X (.Subscript e (.Slice lo hi none p2) pos) (RE X.K (fSl f l u h)):=
 AL (QA hr he hl hu) λZ H Q z9=>by
  obtain ⟨Oo,c,t,fi,r,t',eq,k⟩:=z9;obtain ⟨d,t1,e1,eq⟩:=Ai eq;obtain ⟨ol,t2,e2,eq⟩:=Ai eq;obtain ⟨oh,t3,e3,eq⟩:=Ai eq;exact ⟨Oo,c,t,fi,d,t1,e1,λv H1 c1 f1 s1 rv=>⟨Oo,c1,t1,f1,ol,t2,e2,λH2 c2 f2 s2=>⟨Oo,c2,t2,f2,oh,t3,e3,λH3 c3 f3 s3=>
   s f3 (rv.mono (s2.trans s3).ext) eq λv H' c' f' s' rv'=>k v H' c' f' (((s1.trans s2).trans s3).trans s') rv'⟩⟩⟩
def Bp {α:Type}(xs:List α)(lo hi:Option Int):List α:=(xs.drop (HT.sIx xs.length 0 lo)).take (HT.sIx xs.length xs.length hi - HT.sIx xs.length 0 lo)
def slD:D->Option Int->Option Int->M D
 | .lst ds,lo,hi=>ret (.lst (Bp ds lo hi))
 | .scr ns,lo,hi=>ret (.lst ((Bp ns lo hi).map .int))
 | .tup ds,lo,hi=>λt=>if HT.sIx ds.length 0 lo=0/\HT.sIx ds.length ds.length hi=ds.length then none else some (.tup (Bp ds lo hi),t)
 | _,_,_=>fail
theorem Ie {K:PySem.W.Frag}{vs:List V}{ds:List D}(r:Reps K c H vs ds)(lo hi:Option Int):Reps K c H (Gb vs lo hi) (Bp ds lo hi):=by
 unfold Gb Bp;rw [r.length];exact (r.drop _).take _
theorem PV {α β:Type}(g:α->β)(xs:List α)(lo hi:Option Int):Bp (xs.map g) lo hi=(Bp xs lo hi).map g:=by
 unfold Bp;rw [uj7,List.map_take,List.map_drop]
theorem Ol (ns:List Int)(lo hi:Option Int):Gb (ns.map V.int) lo hi=(Bp ns lo hi).map V.int:=PV V.int ns lo hi
def QN (K:PySem.W.Frag):V->Option Int->Option Int->Hp->VK->Prop:=λx lo hi H Q=>VS K x lo hi H Q\/VU K x lo hi H Q
theorem sl2:SlR X (QN X.K):=sl_list.or V7
theorem V5 {K:PySem.W.Frag}:PC K (QN K) slD:=λ{Oo c t Z H x dx r lo hi t' Q} f rx eq k=>by
 cases rx with
 | @lst p vs ds h1 h2 h3=>
   cases eq
   exact .inl ⟨p,vs,rfl,SqL.of h1,λq hq=>k _ _ c (f.laid hq) (f.stp_laid hq) (.lst Au (f.s.free hq) ((Ie h3 lo hi).mono (Ext.laid f.s hq)))⟩
 | @scr p ns h1=>
   cases eq
   refine .inl ⟨p,_,rfl,h1.sq,λq hq=>k _ _ c (f.laid hq) (f.stp_laid hq) (.lst Au (f.s.free hq) ?_)⟩;rw [Ol];exact Reps.ints _
 | @tup p vs ds h1 h2 h3=>
   unfold slD at eq;dsimp only at eq
   split at eq
   ·cases eq
   ·next hn=>
    cases eq
    exact .inr ⟨p,vs,rfl,SqT.of h1,by rw [h3.length];exact hn,λq hq=>k _ _ c (f.laid hq) (f.stp_laid hq) (.tup Au (f.s.free hq) ((Ie h3 lo hi).mono (Ext.laid f.s hq)))⟩
 | _=>cases eq
theorem Yc {h:List D->M D}{f:M (List D)}(hc:BI X (.builtin id) R)(s:Dy X.K R h)(hg:Gl X x)(hm:X.mg x=none)(hv:bootBuiltins x=some (.builtin id))(ha:PA X (e :: es) (RA X.K f))(hn:x≠"__name__":=by decide)(hdb:(x == ("__debug__" : Str))=false:=by decide)
 (he:starEach (e :: es) X.env=(false,eval e X.env) :: starEach es X.env:=by rfl) (hpl:(backTo pos (starEach es X.env)).any (·.1)=false:=by rfl):PE X (.Call (.Name x p) (e :: es) [] pos) (RE X.K (fB f h)):=
 AL (LB hc hg hm hv ha hn hdb he hpl) λ_ _ _ q=>RE.callB s q
theorem Yd {h:List D->M D}{f:M (List D)}(hc:BI X (.type id) R)(s:Dy X.K R h)(hg:Gl X x)(hm:X.mg x=none)(hv:bootBuiltins x=some (.type id))(ha:PA X (e :: es) (RA X.K f))(hn:x≠"__name__":=by decide)(hdb:(x == ("__debug__" : Str))=false:=by decide)
 (he:starEach (e :: es) X.env=(false,eval e X.env) :: starEach es X.env:=by rfl) (hpl:(backTo pos (starEach es X.env)).any (·.1)=false:=by rfl):PE X (.Call (.Name x p) (e :: es) [] pos) (RE X.K (fB f h)):=
 AL (J4 hc hg hm hv ha hn hdb he hpl) λ_ _ _ q=>RE.callB s q
theorem Ye {h:List D->M (List D)}{f:M (List D)}(hc:BI X (.type id) R)(s:Kk X.K R h)(hg:Gl X x)(hm:X.mg x=none)(hv:bootBuiltins x=some (.type id))(ha:PA X (e :: es) (RA X.K f))(hn:x≠"__name__":=by decide)(hdb:(x == ("__debug__" : Str))=false:=by decide)
 (he:starEach (e :: es) X.env=(false,eval e X.env) :: starEach es X.env:=by rfl) (hpl:(backTo pos (starEach es X.env)).any (·.1)=false:=by rfl):PE X (.Call (.Name x p) (e :: es) [] pos) (RF X.K (fBF f h)):=
 AL (J4 hc hg hm hv ha hn hdb he hpl) λ_ _ _ q=>RF.callB s q
theorem WJ {op:Operator}{R:R2}{g:M D}{h:D->D->M (List D)}(ho:OpR X (binaryOp op) R)(s:MW X.K R h)(ha:PE X a (RE X.K f))(hb:PE X b (RE X.K g)):PE X (.BinOp a op b pos) (RF X.K (bnd f λx=>bnd g λy=>h x y)):=
 AL (Nz ho ha hb) λ_ _ _ q=>RF.two s q
end
section
variable {K:PySem.W.Frag}
theorem Dk {xs:List V}{d:D}(r:Reps K c H xs [d]):∃v,xs=[v]/\Rep K c H v d:=by
 cases r with
 | cons r rs=>cases rs;exact ⟨_,rfl,r⟩
theorem NF {xs:List V}{d e:D}(r:Reps K c H xs [d,e]):∃v u,xs=[v,u]/\Rep K c H v d/\Rep K c H u e:=by
 cases r with
 | cons r rs=>
   obtain ⟨u,rfl,q⟩:=Dk rs;exact ⟨_,u,rfl,r,q⟩
def AK:List D->M D
 | [.lst ds]=>ret (.int ds.length)
 | [.tup ds]=>ret (.int ds.length)
 | [.scr ns]=>ret (.int ns.length)
 | [.str x]=>lim x.length (.int x.length)
 | [.obj k]=>λt=>match t.S[k]? with
   | some (.lst ds)=>some (.int ds.length,t)
   | _=>none
 | _=>fail
theorem TK:Dy K (λxs H Q=>∃x n,xs=[x]/\Uv K x H n/\Q (.int n) H) AK:=λ{Oo c t Z H xs ds r t' Q} f rx eq k=>by
 match ds,rx,eq with
 | [],_,eq=>cases eq
 | d0 :: _ :: _,_,eq=>cases d0 <;> cases eq
 | [d],rx,eq=>
   obtain ⟨v,rfl,rv⟩:=Dk rx
   cases rv with
   | @lst a vs ds h1 h2 h3=>cases eq;exact ⟨_,ds.length,rfl,.inl ⟨vs,SqL.of h1,h3.length.symm⟩,k _ H c f .refl (.int _)⟩
   | @tup a vs ds h1 h2 h3=>cases eq;exact ⟨_,ds.length,rfl,.inr ⟨vs,SqT.of h1,h3.length.symm⟩,k _ H c f .refl (.int _)⟩
   | @scr a ns h1=>cases eq;exact ⟨_,ns.length,rfl,.inl ⟨_,h1.sq,by simp⟩,k _ H c f .refl (.int _)⟩
   | str x=>
     obtain ⟨hl,z⟩:=Dz eq
     cases z
     exact ⟨_,x.length,rfl,⟨um5 hl BT,rfl⟩,k _ H c f .refl (.int _)⟩
   | @obj a kk h1=>
     unfold AK at eq;dsimp only at eq
     cases es:t.S[kk]? with
     | none=>rw [es] at eq;cases eq
     | some o=>
       rw [es] at eq
       cases o with
       | dct _ | ins _ _=>cases eq
       | lst ds=>
         cases eq
         obtain ⟨vs,g1,g2⟩:=f.s.obs kk a _ h1 es;exact ⟨_,ds.length,rfl,.inl ⟨vs,SqL.of g1,g2.length.symm⟩,k _ H c f .refl (.int _)⟩
   | _=>cases eq
noncomputable def tyD:D->Option String
 | .non=>some "NoneType"
 | .bl _=>some "bool"
 | .int _=>some "int"
 | .str _=>some "str"
 | .lst _=>some "list"
 | .tup _=>some "tuple"
 | .dic=>some "dict"
 | _=>none
noncomputable def Jv (n m:String):Option Bool:=match m with
 | "int"=>some (n == "int" || n == "bool")
 | "bool"=>some (n == "bool")
 | "str"=>some (n == "str")
 | "list"=>some (n == "list")
 | "tuple"=>some (n == "tuple")
 | "dict"=>some (n == "dict")
 | _=>none
def C3:List D->M D
 | [d,.ty m]=>λt=>match tyD d with
   | some n=>(Jv n m).map λb=>(.bl b,t)
   | none=>none
 | _=>fail
theorem SC {d:D}{n m:String}{b:Bool}(h1:tyD d=some n)(h2:Jv n m=some b):PySem.W.kitOne K (.type n) (.type m)=some b:=by
 have hm:m = "int"\/m = "bool"\/m = "str"\/m = "list"\/m = "tuple"\/m = "dict":=by
  unfold Jv at h2
  split at h2 <;> simp_all
 have hn:n = "NoneType"\/n = "bool"\/n = "int"\/n = "str"\/n = "list"\/n = "tuple"\/n = "dict":=by
  cases d <;> simp [tyD] at h1 <;> simp [<-h1]
 rcases hm with rfl | rfl | rfl | rfl | rfl | rfl <;> rcases hn with rfl | rfl | rfl | rfl | rfl | rfl | rfl <;> (cases h2;rfl)
def VM (K:PySem.W.Frag):List V->Hp->VK->Prop:=λxs H Q=>∃x n t b,xs=[x,.ty n]/\TyOf K H x t/\PySem.W.kitOne K t (.type n)=some b/\Q (.bl b) H
theorem PQ:BI X (.builtin "isinstance") (VM X.K):=by
 intro pins s Z H xs us Q I r h;obtain ⟨x,n,t,b,rfl,ty,e,q⟩:=h;obtain ⟨u,w',rfl,rx,rt⟩:=NN r
 cases rt
 exact OI I rx ty e λtk=>⟨.bl b,H,I.tok tk,rfl,q⟩
theorem TJ:Dy K (VM K) C3:=λ{Oo c t Z H xs ds r t' Q} f rx eq k=>by
 unfold C3 at eq
 split at eq
 ·next d m=>
  obtain ⟨v,u,rfl,rv,ru⟩:=NF rx
  cases ru
  cases et:tyD d with
  | none=>rw [et] at eq;cases eq
  | some n=>
    rw [et] at eq;obtain ⟨b,e1,e2⟩:=uc1.mp eq
    cases e2
    refine ⟨v,m,.type n,b,rfl,?_,SC et e1,k _ H c f .refl (.bl b)⟩
    cases rv <;> first | (cases et;first | exact .non | exact .bl _ | exact .int _ | exact .str _ | exact .lst ‹_› | exact .tup ‹_› | exact .dK ‹_›) | cases et
 ·cases eq
def FC:List D->M D
 | [.lst ds]=>ret (.tup ds)
 | [.tup ds]=>ret (.tup ds)
 | [.obj k]=>λt=>match t.S[k]? with
   | some (.lst ds)=>some (.tup ds,t)
   | _=>none
 | _=>fail
theorem T0:Dy K (λxs H Q=>∃p ys,xs=[.ref p]/\((SqL K H p ys/\∀l,H l=none->Q (.ref l) (upd H l (.tup ys)))\/(SqT K H p ys/\Q (.ref p) H))) FC:=λ{Oo c t Z H xs ds r t' Q} f rx eq k=>by
 match ds,rx,eq with
 | [],_,eq=>cases eq
 | d0 :: _ :: _,_,eq=>cases d0 <;> cases eq
 | [d],rx,eq=>
   obtain ⟨v,rfl,rv⟩:=Dk rx
   cases rv with
   | @lst a vs ds h1 h2 h3=>cases eq;exact ⟨a,vs,rfl,.inl ⟨SqL.of h1,λq hq=>k _ _ c (f.laid hq) (f.stp_laid hq) (.tup Au (f.s.free hq) (h3.mono (Ext.laid f.s hq)))⟩⟩
   | @tup a vs ds h1 h2 h3=>cases eq;exact ⟨a,vs,rfl,.inr ⟨SqT.of h1,k _ H c f .refl (.tup h1 h2 h3)⟩⟩
   | @obj a kk h1=>
     unfold FC at eq;dsimp only at eq
     cases es:t.S[kk]? with
     | none=>rw [es] at eq;cases eq
     | some o=>
       rw [es] at eq
       cases o with
       | dct _ | ins _ _=>cases eq
       | lst ds=>
         cases eq
         obtain ⟨vs,g1,g2⟩:=f.s.obs kk a _ h1 es;exact ⟨a,vs,rfl,.inl ⟨SqL.of g1,λq hq=>k _ _ c (f.laid hq) (f.stp_laid hq) (.tup Au (f.s.free hq) (g2.mono (Ext.laid f.s hq)))⟩⟩
   | _=>cases eq
def GX:List D->M (List D)
 | [.lst ds]=>ret ds
 | [.tup ds]=>ret ds
 | [.scr ns]=>ret (ns.map .int)
 | [.obj k]=>λt=>match t.S[k]? with
   | some (.lst ds)=>some (ds,t)
   | _=>none
 | _=>fail
theorem TL:Kk K (λxs H Q=>∃p ys,xs=[.ref p]/\(SqL K H p ys\/SqT K H p ys)/\∀l,H l=none->Q (.ref l) (upd H l (.lst ys))) GX:=λ{Oo c t Z H xs ds r t' Q} f rx eq k=>by
 match ds,rx,eq with
 | [],_,eq=>cases eq
 | d0 :: _ :: _,_,eq=>cases d0 <;> cases eq
 | [d],rx,eq=>
   obtain ⟨v,rfl,rv⟩:=Dk rx
   cases rv with
   | @lst a vs ds h1 h2 h3=>cases eq;exact ⟨a,vs,rfl,.inl (SqL.of h1),λq hq=>k q vs H c f .refl h3 hq⟩
   | @tup a vs ds h1 h2 h3=>cases eq;exact ⟨a,vs,rfl,.inr (SqT.of h1),λq hq=>k q vs H c f .refl h3 hq⟩
   | @scr a ns h1=>cases eq;exact ⟨a,_,rfl,.inl h1.sq,λq hq=>k q _ H c f .refl (Reps.ints ns) hq⟩
   | @obj a kk h1=>
     unfold GX at eq;dsimp only at eq
     cases es:t.S[kk]? with
     | none=>rw [es] at eq;cases eq
     | some o=>
       rw [es] at eq
       cases o with
       | dct _ | ins _ _=>cases eq
       | lst ds=>
         cases eq
         obtain ⟨vs,g1,g2⟩:=f.s.obs kk a _ h1 es;exact ⟨a,vs,rfl,.inl (SqL.of g1),λq hq=>k q vs H c f .refl g2 hq⟩
   | _=>cases eq
def GR:List D->M D
 | [.int i]=>ret (.int i)
 | [.bl b]=>ret (.int (if b then 1 else 0))
 | _=>fail
theorem TH:Dy K (λxs H Q=>(∃i,xs=[.int i]/\Q (.int i) H)\/∃k,xs=[.bl k]/\Q (.int (if k then 1 else 0)) H) GR:=λ{Oo c t Z H xs ds r t' Q} f rx eq k=>by
 match ds,rx,eq with
 | [],_,eq=>cases eq
 | d0 :: _ :: _,_,eq=>cases d0 <;> cases eq
 | [d],rx,eq=>
   obtain ⟨v,rfl,rv⟩:=Dk rx
   cases rv with
   | int i=>cases eq;exact .inl ⟨i,rfl,k _ H c f .refl (.int _)⟩
   | bl b=>cases eq;exact .inr ⟨b,rfl,k _ H c f .refl (.int _)⟩
   | _=>cases eq
def X4:List D->M D
 | [.int i]=>ret (.int (if i < 0 then -i else i))
 | _=>fail
def DZ:List D->M D
 | [.int i,.int j]=>ret (.int (if j < i then j else i))
 | _=>fail
def G2:List D->M D
 | [.int i,.int j]=>ret (.int (if j > i then j else i))
 | _=>fail
theorem TN:Dy K (λxs H Q=>∃i j,xs=[.int i,.int j]/\Q (.int (if j < i then j else i)) H) DZ:=λ{Oo c t Z H xs ds r t' Q} f rx eq k=>by
 unfold DZ at eq
 split at eq
 ·next i j=>
  obtain ⟨v,u,rfl,rv,ru⟩:=NF rx
  cases rv;cases ru;cases eq
  exact ⟨i,j,rfl,k _ H c f .refl (.int _)⟩
 ·cases eq
theorem TM:Dy K (λxs H Q=>∃i j,xs=[.int i,.int j]/\Q (.int (if j > i then j else i)) H) G2:=λ{Oo c t Z H xs ds r t' Q} f rx eq k=>by
 unfold G2 at eq
 split at eq
 ·next i j=>
  obtain ⟨v,u,rfl,rv,ru⟩:=NF rx
  cases rv;cases ru;cases eq
  exact ⟨i,j,rfl,k _ H c f .refl (.int _)⟩
 ·cases eq
def Ic:List D->M D
 | [.str x]=>λt=>if x.length=1 then some (.int (x.cps.getD 0 0:Nat),t) else none
 | _=>fail
theorem TV:Dy K (λxs H Q=>∃x,xs=[.str x]/\x.length=1/\Q (.int (x.cps.getD 0 0:Nat)) H) Ic:=λ{Oo c t Z H xs ds r t' Q} f rx eq k=>by
 match ds,rx,eq with
 | [],_,eq=>cases eq
 | d0 :: _ :: _,_,eq=>cases d0 <;> cases eq
 | [d],rx,eq=>
   obtain ⟨v,rfl,rv⟩:=Dk rx
   cases rv with
   | str x=>
     unfold Ic at eq;dsimp only at eq
     split at eq
     ·next h=>cases eq;exact ⟨x,rfl,h,k _ H c f .refl (.int _)⟩
     ·cases eq
   | _=>cases eq
end
end F2
namespace L2
open PySem PySem.Spec PyProof.Rows
open AutoSeq1 (wpAny_loadPart')
def Ry (K:PySem.W.Frag):R2:=λx y H Q=>∃a b ys,x = .ref a/\y = .ref b/\SqT K H a []/\SqT K H b ys/\Q (.ref b) H
theorem SQ {X:Cx}:OpR X (binaryOp .Add) (Ry X.K):=by
 intro pins s Z H x y v u Q I rx ry h;obtain ⟨a,b,ys,rfl,rfl,h1,h2,q⟩:=h
 cases rx
 cases ry
 obtain ⟨its,r,⟨⟨cls,dd,data,sl⟩,ho,hc,n,hd⟩,z⟩:=I.tuple h1;obtain ⟨its2,r2,⟨⟨cls2,dd2,data2,sl2⟩,ho2,hc2,n2,hd2⟩,z2⟩:=I.tuple h2;simp only at hc hd hc2 hd2;subst hc hd hc2 hd2
 cases r
 exact concat_meets ⟨_,ho,rfl⟩ ⟨_,ho2,rfl⟩ noFill_tuple_add seq_tuple_add ub9 ub4 (ub1 _ _)
  (tuple_addW0 a b #[] its2.toArray n n2 dd dd2 sl sl2 rfl) ⟨ho,ho2,.ref b,H,I,rfl,q⟩
theorem Ia:fillsNumberSlot (.type "tuple") "mul" = pure false:=
 PySem.fillsNumberSlot_seq (id:="tuple.__mul__") (r:=some (.builtin "tuple.__rmul__")) F.slot_tuple_mul.lookup (by decide +kernel) F.slot_tuple_rmul.lookup (by decide +kernel)
theorem LP:seqRepeat? (.type "tuple")=pure (some (.builtin "tuple.__mul__")):=by
 unfold seqRepeat?;rw [PySem.seqSlot_of (T:="tuple") (name:="__mul__") (id:="tuple.__mul__") F.slot_tuple_mul.lookup (by decide +kernel),PySem.seqSlot_of (T:="tuple") (name:="__rmul__") (id:="tuple.__rmul__") F.slot_tuple_rmul.lookup (by decide +kernel)];rfl
theorem JC (a:Int)(t:Tok)(l:Addr)(items:Array Value)(n:Nat)(dd:Option Addr)(sl:Array (Option Value)) :
 Meets (Builtin.«int.__rmul__» ⟨[.int a t,.ref l],[]⟩) (λ_ R s=>s.heap.get? l=some { cls:=.type "tuple",dict:=dd,data:=.seq items n,slots:=sl }/\R (.ok (.ret Value.notImplemented)) s):=
 .of_wp λprog w A R s h=>by obtain ⟨hp,g,d,tk,os⟩:=s;obtain ⟨hl,h⟩:=h;wp_walk;exact ⟨_,rfl,h⟩
theorem Mc (l:Addr)(items:Array Value)(n:Nat)(dd:Option Addr)(sl:Array (Option Value))(x:Int)(u:Tok)(hc0:(decide (x < -(2 ^ 63)) || decide (x ≥ 2 ^ 63))=false)(hc1:(items.isEmpty || x == 1)=true) :
 Meets (Builtin.«tuple.__mul__» ⟨[.ref l,.int x u],[]⟩) (λ_ R s=>s.heap.get? l=some { cls:=.type "tuple",dict:=dd,data:=.seq items n,slots:=sl }/\R (.ok (.ret (Value.ref l))) s):=
 .of_wp λprog w A R s h=>by
  obtain ⟨hp,g,d,tk,os⟩:=s;obtain ⟨hl,h⟩:=h;have f1:=AutoSeq1.idx_int;have f2:=AutoSeq1.sub_tuple_tuple;have f3:=AutoSeq1.sub_list_list;have f4:=AutoSeq1.sub_tuple_list;have f5:=AutoSeq1.sub_list_tuple
  wp_walk using wpAny_loadPart' hl
  refine wpAny_ite_split (λz=>absurd z (by rw [hc0];decide)) λ_=>?_
  wp_walk using wpAny_loadPart' hl
  exact ⟨_,rfl,h⟩
theorem Me (l:Addr)(items:Array Value)(n:Nat)(dd:Option Addr)(sl:Array (Option Value))(x:Int)(u:Tok)(hc0:(decide (x < -(2 ^ 63)) || decide (x ≥ 2 ^ 63))=false)(hc1:(items.isEmpty || x == 1)=false)(hc2:(decide (x<=0) || items.isEmpty)=true) :
 Meets (Builtin.«tuple.__mul__» ⟨[.ref l,.int x u],[]⟩) (λ_ R s=>s.heap.get? l=some { cls:=.type "tuple",dict:=dd,data:=.seq items n,slots:=sl }/\R (.ok (.ret (Value.ref s.heap.objs.size))) { s with heap:=s.heap.push { cls:=Value.type "tuple",data:=Data.seq #[] },toks:=s.toks }):=
 .of_wp λprog w A R s h=>by
  obtain ⟨hp,g,d,tk,os⟩:=s;obtain ⟨hl,h⟩:=h;have f1:=AutoSeq1.idx_int;have f2:=AutoSeq1.sub_tuple_tuple;have f3:=AutoSeq1.sub_list_list;have f4:=AutoSeq1.sub_tuple_list;have f5:=AutoSeq1.sub_list_tuple
  wp_walk using wpAny_loadPart' hl
  refine wpAny_ite_split (λz=>absurd z (by rw [hc0];decide)) λ_=>?_
  wp_walk using wpAny_loadPart' hl
  exact ⟨_,rfl,h⟩
theorem Mf (l:Addr)(items:Array Value)(n:Nat)(dd:Option Addr)(sl:Array (Option Value))(x:Int)(u:Tok)(hc0:(decide (x < -(2 ^ 63)) || decide (x ≥ 2 ^ 63))=false)(hc1:(items.isEmpty || x == 1)=false)(hc2:(decide (x<=0) || items.isEmpty)=false)
 (hc3:¬(items.size:Int) * x > (2 ^ 63 - 1) / 8) (hc4:Builtin.Tuple.tupleTooMany ((items.size:Int) * x)=false) (hsz:(List.foldl (λx1 x2=>x1++x2) #[] (List.replicate x.toNat items)).size<=sizeLine) :
 Meets (Builtin.«tuple.__mul__» ⟨[.ref l,.int x u],[]⟩) (λ_ R s=>s.heap.get? l=some { cls:=.type "tuple",dict:=dd,data:=.seq items n,slots:=sl }/\R (.ok (.ret (Value.ref s.heap.objs.size))) { s with heap:=s.heap.push { cls:=Value.type "tuple",data:=Data.seq (List.foldl (λx1 x2=>x1++x2) #[] (List.replicate x.toNat items)) },toks:=s.toks }):=
 .of_wp λprog w A R s h=>by
  obtain ⟨hp,g,d,tk,os⟩:=s;obtain ⟨hl,h⟩:=h;have f1:=AutoSeq1.idx_int;have f2:=AutoSeq1.sub_tuple_tuple;have f3:=AutoSeq1.sub_list_list;have f4:=AutoSeq1.sub_tuple_list;have f5:=AutoSeq1.sub_list_tuple
  wp_walk using wpAny_loadPart' hl
  refine wpAny_ite_split (λz=>absurd z (by rw [hc0];decide)) λ_=>?_
  wp_walk using wpAny_loadPart' hl
  refine wpAny_ite_split (λz=>absurd z hc3) λ_=>?_
  wp_walk using wpAny_loadPart' hl
  exact ⟨_,rfl,h⟩
end L2
namespace L2
open PySem PySem.Spec PyProof.Rows
open AutoSeq1 (wpAny_loadPart')
def RJ (K:PySem.W.Frag):R2:=λx y H Q=>∃a k xs,x = .ref a/\y = .int k/\SqT K H a xs/\-(2 ^ 62)<=k/\k < 2 ^ 62/\xs.length * k.toNat<=sizeLine/\
 ((xs=[]\/k=1)->Q (.ref a) H)/\(¬(xs=[]\/k=1)->∀p,H p=none->Q (.ref p) (upd H p (.tup (List.replicate k.toNat xs).flatten)))
theorem Inv.tnew {X:Cx}{pins:List (Addr×Obj)}{Z:L2.St}{H:Hp}{s:Shared}{ys:List V}{its:List Value}{t':Nat}(I:Inv X pins Z H s)(hv:Vals ys its)(hz:ys.length<=sizeLine) :
 Inv X pins Z (upd H s.heap.objs.size (.tup ys)) { s with heap:=s.heap.push { cls:=.type "tuple",data:=.seq its.toArray },toks:=t' }:=
 I.laid (λb u e=>ub8 _ e) (uo3 _) ⟨hz,its,hv,⟨_,ue3 _ rfl,rfl,_,rfl⟩⟩
theorem op_mulT {X:Cx}:OpR X (binaryOp .Mult) (RJ X.K):=by
 intro pins s Z H x y v u Q I rx ry h;obtain ⟨a,k,xs,rfl,rfl,hq,h1,h2,hz,q1,q2⟩:=h
 cases rx
 obtain ⟨t,rfl⟩:=ry;obtain ⟨its,r,⟨⟨cls,dd,data,sl⟩,ho,hc,n,hd⟩,z⟩:=I.tuple hq;simp only at hc hd;subst hc hd;have hl:=r.length;have hc0:(decide (k < -(2 ^ 63)) || decide (k ≥ 2 ^ 63))=false:=by
  rw [ud8];exact ⟨uk7 (by lia),uk7 (by lia)⟩
 refine wpAny_binaryOp_repeat_ref (T:="tuple") (U:="int") (by decide) ⟨_,ho,rfl⟩ (λs'=>typeIs_int s' k t) Ia F.fills_int_mul F.slot_int_rmul LP F.slot_int_index.lookup
  (call_meets F.slot_int_rmul (typeIs_int s k t) F.entry_int_rmul (F.args_int_rmul_2 _ _) (JC k t a its.toArray n dd sl) ⟨ho,rfl,⟨_,ho,rfl⟩,?_⟩)
 by_cases hs:xs=[]\/k=1
 ·have hc1:(its.toArray.isEmpty || k == 1)=true:=by
   rw [uk1];rcases hs with z | z
   ·subst z;cases r;exact .inl rfl
   ·exact .inr (by simp [z])
  exact call_meets F.slot_tuple_mul ⟨_,ho,rfl⟩ F.entry_tuple_mul (F.args_tuple_mul_2 _ _) (Mc a its.toArray n dd sl k t hc0 hc1) ⟨ho,.ref a,H,I,rfl,q1 hs⟩
 ·have hne:its≠[]:=λz=>hs (.inl (by subst z;cases r;rfl))
  have hk1:k≠1:=λz=>hs (.inr z);have hem:its.toArray.isEmpty=false:=by cases its with | nil=>exact absurd rfl hne | cons _ _=>rfl
  have hc1:(its.toArray.isEmpty || k == 1)=false:=by rw [hem];simpa using hk1
  by_cases hk:k<=0
  ·have hc2:(decide (k<=0) || its.toArray.isEmpty)=true:=by rw [ul3 hk];rfl
   refine call_meets F.slot_tuple_mul ⟨_,ho,rfl⟩ F.entry_tuple_mul (F.args_tuple_mul_2 _ _) (Me a its.toArray n dd sl k t hc0 hc1 hc2) ⟨ho,?_⟩;have hk0:k.toNat=0:=by lia
   refine ⟨.ref _,_,I.tnew (t':=s.toks) (ys:=[]) (its:=[]) .nil (uo5 _),rfl,?_⟩;have:=q2 hs _ I.fresh;rw [hk0] at this;exact this
  ·have hc2:(decide (k<=0) || its.toArray.isEmpty)=false:=by rw [uk7 hk,hem];rfl
   have hsz:its.length * k.toNat<=sizeLine:=by rw [<-hl];exact hz
   have hmul:((its.toArray.size:Nat):Int) * k=((its.length * k.toNat:Nat):Int):=by
    rw [ug2,Int.natCast_mul,ue6 (by lia)]
   have hline:(sizeLine:Nat)<=(2 ^ 63 - 1) / 8:=by decide
   have hc3:¬(its.toArray.size:Int) * k > (2 ^ 63 - 1) / 8:=by rw [hmul];lia
   have hc4:Builtin.Tuple.tupleTooMany ((its.toArray.size:Int) * k)=false:=by
    unfold Builtin.Tuple.tupleTooMany;rw [hmul];exact uk7 (by lia)
   have f0:List.foldl (λx1 x2=>x1++x2) #[] (List.replicate k.toNat its.toArray)=(List.replicate k.toNat its).flatten.toArray:=by
    have:=GQ its k.toNat [];rw [uj9] at this;exact this
   have hfz:(List.foldl (λx1 x2=>x1++x2) #[] (List.replicate k.toNat its.toArray)).size<=sizeLine:=by
    rw [f0,ug2,Jx,un0];exact hsz
   refine call_meets F.slot_tuple_mul ⟨_,ho,rfl⟩ F.entry_tuple_mul (F.args_tuple_mul_2 _ _) (Mf a its.toArray n dd sl k t hc0 hc1 hc2 hc3 hc4 hfz) ⟨ho,?_⟩;rw [f0];exact ⟨.ref _,_,I.tnew (t':=s.toks) (r.rep k.toNat) (by rw [Jx,un0];exact hz),rfl,q2 hs _ I.fresh⟩
theorem GW (l:Addr)(items:Array Value)(n:Nat)(b:Addr)(items2:Array Value)(n2:Nat)(dd:Option Addr)(sl:Array (Option Value))(hs0:¬(!items.isEmpty && Builtin.List.listTooLong (items.size + items2.size))=true)(hs1:items.size<=sizeLine)(hs2:items.size + items2.size<=sizeLine + 1) :
 Meets (Builtin.«list.extend» ⟨[.ref l,.ref b],[]⟩) (λ_ R s=>s.heap.get? l=some { cls:=.type "list",dict:=none,data:=.seq items n,slots:=#[] }/\s.heap.get? b=some { cls:=.type "tuple",dict:=dd,data:=.seq items2 n2,slots:=sl }/\R (.ok (.ret Value.none)) { s with heap:=s.heap.update l (Obj.mapSeq λx=>x++items2),toks:=s.toks }):=
 .of_wp λprog w A R s h=>by
  obtain ⟨hp,g,d,tk,os⟩:=s;obtain ⟨hl,hb,h⟩:=h;have f1:=AutoSeq1.idx_int;have f2:=AutoSeq1.sub_tuple_tuple;have f3:=AutoSeq1.sub_list_list;have f4:=AutoSeq1.sub_tuple_list;have f5:=AutoSeq1.sub_list_tuple;have hz':(items++items2).size<=sizeLine + 1:=by rw [Array.size_append];exact hs2
  wp_walk using (wpAny_updateSeq hl rfl (hz:=hs1) (_hz':=hz')),wpAny_loadPart' hl,wpAny_loadPart' hb;exact ⟨_,rfl,h⟩
def LK (K:PySem.W.Frag):V->List V->Hp->VK->Prop:=λx vs H Q=>∃l b xs zs,x = .ref l/\vs=[.ref b]/\H l=some (.lst xs)/\SqT K H b zs/\xs.length + zs.length<=sizeLine/\Q .non (upd H l (.lst (xs++zs)))
theorem No {X:Cx}:MtM X "list.extend" (LK X.K):=by
 intro pins s Z H x vs v us Q I rx rv h;obtain ⟨l,b,xs,zs,rfl,rfl,hH,hB,hz,q⟩:=h
 cases rx
 obtain ⟨u,rfl,ru⟩:=rv.one
 cases ru
 obtain ⟨z,its,n,r,hl,e⟩:=I.lstM hH;obtain ⟨its2,r2,⟨⟨cls,dd,data,sl⟩,ho,hc,n2,hd⟩,z2⟩:=I.tuple hB;simp only at hc hd;subst hc hd;have hl2:=r2.length;have hsz:its.toArray.size + its2.toArray.size<=sizeLine:=by rw [ug2,ug2];lia
 have hlong:¬(!its.toArray.isEmpty && Builtin.List.listTooLong (its.toArray.size + its2.toArray.size))=true:=by
  rw [Ib hsz,ul0];exact uf2
 refine call_meets F.slot_list_extend ⟨_,e,rfl⟩ F.entry_list_extend (F.args_list_extend_2 _ _)
  (GW l its.toArray n b its2.toArray n2 dd sl hlong (by rw [ug2];lia) (by lia)) ⟨e,ho,?_⟩
 refine ⟨.non,_,I.lset (its':=its++its2) hH e (by simp) (r.append r2) ?_,rfl,q⟩;rw [uf6];lia
theorem MtM.or {X:Cx}{id:String}{r r':V->List V->Hp->VK->Prop}(h:MtM X id r)(h':MtM X id r'):MtM X id (λx xs H Q=>r x xs H Q\/r' x xs H Q):=by
 intro pins s Z H x xs v us Q I rx rv q;rcases q with q | q
 ·exact h pins s Z H x xs v us Q I rx rv q
 ·exact h' pins s Z H x xs v us Q I rx rv q
section
variable {X:Cx}{a b c d:Expr}{ta tb tc td:TE}{pos:Pos}
end
end L2
namespace F2
open PySem L2 PySem.Spec
section
variable {K:PySem.W.Frag}
def Ar (x y:D):M D:=match x,y with
 | .tup [],.tup ys=>ret (.tup ys)
 | x,y=>PJ x y
def Rx (K:PySem.W.Frag):R2:=λx y H Q=>ND K x y H Q\/Ry K x y H Q
theorem MD {X:Cx}:OpR X (binaryOp .Add) (Rx X.K):=op_add4.or SQ
theorem LS:A9 K (Rx K) Ar:=λ{Oo c t Z H x y dx dy r t' Q} f rx ry eq k=>by
 unfold Ar at eq
 split at eq
 ·next ys=>
  cases eq
  cases rx with
  | tup h1 h2 h3=>
    cases h3
    cases ry with
    | tup g1 g2 g3=>exact .inr ⟨_,_,_,rfl,rfl,SqT.of h1,SqT.of g1,k _ H c f .refl (.tup g1 g2 g3)⟩
 ·exact .inl (Tz f rx ry eq k)
def H0:D->D->M D
 | .int i,.int j=>λt=>if Ex i j=true then some (.int (i * j),t) else none
 | .tup xs,.int k=>λt=>if BL k=true/\xs.length * k.toNat<=LIM then some (.tup (List.replicate k.toNat xs).flatten,t) else none
 | .lst xs,.int k=>λt=>if BL k=true/\xs.length * k.toNat<=LIM then some (.lst (List.replicate k.toNat xs).flatten,t) else none
 | _,_=>fail
def NE (K:PySem.W.Frag):R2:=λx y H Q=>rI CMul (λi j=>.int (i * j)) x y H Q\/(RJ K x y H Q\/VQ x y H Q)
theorem op_mul3 {X:Cx}:OpR X (binaryOp .Mult) (NE X.K):=op_mul.or (op_mulT.or Vp)
theorem SJ {dx dy r:D}{t t':T}(eq:H0 dx dy t=some (r,t')):∃j,dy = .int j/\((∃i,dx = .int i)\/(∃ds,dx = .tup ds)\/∃ds,dx = .lst ds):=by
 unfold H0 at eq
 split at eq
 ·exact ⟨_,rfl,.inl ⟨_,rfl⟩⟩
 ·exact ⟨_,rfl,.inr (.inl ⟨_,rfl⟩)⟩
 ·exact ⟨_,rfl,.inr (.inr ⟨_,rfl⟩)⟩
 ·cases eq
theorem TR:A9 K (NE K) H0:=λ{Oo c t Z H x y dx dy r t' Q} f rx ry eq k=>by
 obtain ⟨j,rfl,hd⟩:=SJ eq
 cases ry
 rcases hd with ⟨i,rfl⟩ | ⟨ds,rfl⟩ | ⟨ds,rfl⟩
 ·cases rx
  unfold H0 at eq;dsimp only at eq
  split at eq
  ·next h=>cases eq;exact .inl ⟨i,j,rfl,rfl,OS h,k _ H c f .refl (.int _)⟩
  ·cases eq
 ·cases rx with
  | @tup a vs _ h1 h2 h3=>
    unfold H0 at eq;dsimp only at eq
    split at eq
    ·next h=>
     cases eq
     obtain ⟨g1,g2⟩:=DM h.1;refine .inr (.inl ⟨a,j,vs,rfl,rfl,SqT.of h1,g1,g2,by rw [h3.length];exact um5 h.2 BT,λhs=>?_,λhs p hp=>?_⟩)
     ·rcases hs with z | z
      ·subst z;have:ds=[]:=ub5.mp h3.length.symm;subst this;have e:(List.replicate j.toNat ([]:List D)).flatten=[]:=by simp
       rw [e] at k;exact k _ H c f .refl (.tup h1 h2 h3)
      ·subst z;have e:(List.replicate (1:Int).toNat ds).flatten=ds:=by simp
       rw [e] at k;exact k _ H c f .refl (.tup h1 h2 h3)
     ·exact k _ _ c (f.laid hp) (f.stp_laid hp) (.tup Au (f.s.free hp) ((h3.rep j.toNat).mono (Ext.laid f.s hp)))
    ·cases eq
 ·cases rx with
  | @lst a vs _ h1 h2 h3=>
    unfold H0 at eq;dsimp only at eq
    split at eq
    ·next h=>
     cases eq
     obtain ⟨g1,g2⟩:=DM h.1;refine .inr (.inr ⟨a,j,vs,rfl,rfl,h1,by lia,by lia,by rw [h3.length];exact um5 h.2 BT,λp hp=>?_⟩);exact k _ _ c (f.laid hp) (f.stp_laid hp) (.lst Au (f.s.free hp) ((h3.rep j.toNat).mono (Ext.laid f.s hp)))
    ·cases eq
end
variable {K:PySem.W.Frag}{μ:Cf->Hp->D->(V->Hp->Prop)->Prop}
section
variable {X:Cx}{e a b:Expr}{pos:Pos}
def EG (xs:List D):List D->Option (List D)
 | [d]=>if xs.length < LIM then some (xs++[d]) else none
 | _=>none
def Fo (xs:List D):List D->Option (List D)
 | [.lst ys]=>if xs.length + ys.length<=LIM then some (xs++ys) else none
 | [.tup ys]=>if xs.length + ys.length<=LIM then some (xs++ys) else none
 | _=>none
def ownM (i:Nat)(h:List D->List D->Option (List D))(g:M (List D)):M Out:=λt=>match t.env[i]? with
 | some (some (.own _))=>bnd g (λds t1=>match t1.env[i]? with
   | some (some (.own xs))=>(h xs ds).map λys=>(.next,{ t1 with env:=t1.env.set i (some (.own ys)) })
   | _=>none) t
 | _=>none
def PD (K:PySem.W.Frag)(R:V->List V->Hp->VK->Prop)(h:List D->List D->Option (List D)):Prop:=∀{c:Cf} {S:List Ob} {H:Hp} {a:Addr} {vs us:List V} {xs ds ys:List D} {Q:VK},SInv K c S H->H a=some (.lst vs)->Reps K c H vs xs->Reps K c H us ds->h xs ds=some ys->
 (∀ws,Reps K c H ws ys->Q .non (upd H a (.lst ws)))->R (.ref a) us H Q
theorem TB:PD K MI EG:=λ{c S H a vs us xs ds ys Q} s h r rs e k=>by
 unfold EG at e
 split at e
 ·next d=>
  split at e
  ·next hl=>
   cases e
   obtain ⟨v,rfl,rv⟩:=Dk rs;exact ⟨a,vs,v,rfl,rfl,h,by rw [r.length];exact uf0 hl BT,k _ (r.append (.cons rv .nil))⟩
  ·cases e
 ·cases e
def RB (K:PySem.W.Frag):V->List V->Hp->VK->Prop:=λx xs H Q=>MJ x xs H Q\/LK K x xs H Q
theorem SG {X:Cx}:MtM X "list.extend" (RB X.K):=mt_extend.or No
theorem TC:PD K (RB K) Fo:=λ{c S H a vs us xs ds ys Q} s h r rs e k=>by
 unfold Fo at e
 split at e
 ·split at e
  ·next hl=>
   cases e
   obtain ⟨v,rfl,rv⟩:=Dk rs
   cases rv with
   | lst h1 h2 h3=>exact .inl ⟨a,_,vs,_,rfl,rfl,h,h1,by rw [r.length,h3.length];exact um5 hl BT,k _ (r.append h3)⟩
  ·cases e
 ·split at e
  ·next hl=>
   cases e
   obtain ⟨v,rfl,rv⟩:=Dk rs
   cases rv with
   | tup h1 h2 h3=>exact .inr ⟨a,_,vs,_,rfl,rfl,h,SqT.of h1,by rw [r.length,h3.length];exact um5 hl BT,k _ (r.append h3)⟩
  ·cases e
 ·cases e
theorem RS.ownM {μ:Cf->Hp->D->(V->Hp->Prop)->Prop}{K:PySem.W.Frag}{i:Nat}{h:List D->List D->Option (List D)}{g:M (List D)}{R:V->List V->Hp->VK->Prop}(s:PD K R h){E:Ends}{Z:L2.St}{H:Hp}(q:RSg K μ (F2.ownM i h g) E Z H):RL (tBM K "list" R (Wg i) (RA K g)) E Z H:=by
 obtain ⟨Oo,c,t,fi,o,t',eq,k⟩:=q;unfold F2.ownM at eq
 split at eq
 ·next xs0 e0=>
  obtain ⟨ds,t1,e1,eq⟩:=Ai eq;obtain ⟨a,vs0,h1,h2,h3,h4,h5⟩:=fi.own i xs0 e0;refine ⟨.ref a,h1,.inl ⟨rfl,vs0,SqL.of h4⟩,Oo,c,t,fi,ds,t1,e1,λus H1 c1 f1 s1 rus=>?_⟩
  split at eq
  ·next xs ex=>
   obtain ⟨ys,ey,ez⟩:=uc1.mp eq
   cases ez
   obtain ⟨a',vs,g1,g2,g3,g4,g5⟩:=f1.own i xs ex;rw [h1] at g1;injection g1 with g1;injection g1 with g1;injection g1 with g1;subst g1
   refine s f1.s g4 g5 rus ey λws rws=>?_;obtain ⟨f2,s2⟩:=f1.wrOwn ex h1 rws;exact k Z _ c1 f2 (s1.trans s2)
  ·cases eq
 ·cases eq
theorem Ow (i:Nat){x:Str}{es:List Expr}{g:M (List D)}{px apos cpos:Pos}(ha:PA X (e :: es) (RA X.K g))(hN:X.N[i]?=some x:=by rfl)(hv:Vis X.env.scope x:=by first | exact Or.inl rfl | exact Or.inr (Or.inl rfl) | exact Or.inr (Or.inr rfl))(hd:(x == ("__debug__" : Str))=false:=by decide)
 (hcd:(x == ("__classdict__" : Str))=false:=by decide)
 (hbase:attributeBase (.Name x px) "append" X.env (eval (.Name x px) X.env)=eval (.Name x px) X.env:=by rfl)
 (hfew:((backTo cpos (starEach (e :: es) X.env)).all (λx=>!x.1) && (backToKw cpos (keywordEach [] X.env)).all (λx=>x.1.isSome) && decide ((e :: es).length + ([]:List Keyword).length + (if ([]:List Keyword).isEmpty then 0 else 1) < 30))=true:=by rfl)
 (hline:(apos.endLine == cpos.line)=true:=by rfl) (hs:starEach (e :: es) X.env=(false,eval e X.env) :: starEach es X.env:=by rfl) (hplain:(backTo cpos (starEach es X.env)).any (·.1)=false:=by rfl) :
 PS X (.Expr (.Call (.Attribute (.Name x px) "append" apos) (e :: es) [] cpos) pos) (RSg X.K μ (ownM i EG g)):=
 Bo (MF (Nx PySem.F.plainAttrs_list PySem.F.slot_list_append PySem.F.type_list_append OR (C8 hN hv hd hcd) ha hbase hfew hline hs hplain)) λ_ _ _ q=>RS.ownM TB q
theorem Ox (i:Nat){x:Str}{es:List Expr}{g:M (List D)}{px apos cpos:Pos}(ha:PA X (e :: es) (RA X.K g))(hN:X.N[i]?=some x:=by rfl)(hv:Vis X.env.scope x:=by first | exact Or.inl rfl | exact Or.inr (Or.inl rfl) | exact Or.inr (Or.inr rfl))(hd:(x == ("__debug__" : Str))=false:=by decide)
 (hcd:(x == ("__classdict__" : Str))=false:=by decide)
 (hbase:attributeBase (.Name x px) "extend" X.env (eval (.Name x px) X.env)=eval (.Name x px) X.env:=by rfl)
 (hfew:((backTo cpos (starEach (e :: es) X.env)).all (λx=>!x.1) && (backToKw cpos (keywordEach [] X.env)).all (λx=>x.1.isSome) && decide ((e :: es).length + ([]:List Keyword).length + (if ([]:List Keyword).isEmpty then 0 else 1) < 30))=true:=by rfl)
 (hline:(apos.endLine == cpos.line)=true:=by rfl) (hs:starEach (e :: es) X.env=(false,eval e X.env) :: starEach es X.env:=by rfl) (hplain:(backTo cpos (starEach es X.env)).any (·.1)=false:=by rfl) :
 PS X (.Expr (.Call (.Attribute (.Name x px) "extend" apos) (e :: es) [] cpos) pos) (RSg X.K μ (ownM i Fo g)):=
 Bo (MF (Nx PySem.F.plainAttrs_list PySem.F.slot_list_extend PySem.F.type_list_extend SG (C8 hN hv hd hcd) ha hbase hfew hline hs hplain)) λ_ _ _ q=>RS.ownM TC q
def FB (o i d:D):M Unit:=match o,i with
 | .obj k,.int j=>λt=>match t.S[k]? with
   | some (.lst xs)=>(ixN xs.length j).map λn=>((),{ t with S:=t.S.set k (.lst (xs.set n d)) })
   | _=>none
 | _,_=>fail
def stD (f g:M D)(d:D):M Unit:=bnd f λo=>bnd g λi=>FB o i d
theorem UY {o i:Expr}{f g:M D}(ho:PE X o (RE X.K f))(hi:PE X i (RE X.K g))
 (ha:∀v,assign (.Subscript o i pos) X.env v=(do
   let ov <-holding [v] (eval o X.env)
   let iv <-holding [v,ov] (eval i X.env)
   standAt pos
   holding [v,ov,iv] (setItem ov iv v)
   release [v,ov,iv] []):=by intro _;rfl):PG X (.Subscript o i pos) (RG X.K (stD f g)):=
 Iq (O5 ho hi LV ha) λv Z H Q z9=>by
  obtain ⟨Oo,c,t,d,fi,rv,t',eq,k⟩:=z9;obtain ⟨d0,t1,e1,eq⟩:=Ai eq;obtain ⟨di,t2,e2,eq⟩:=Ai eq;refine ⟨Oo,c,t,fi,_,t1,e1,λx H1 c1 f1 s1 rx=>⟨Oo,c1,t1,f1,di,t2,e2,λy H2 c2 f2 s2 ry=>?_⟩⟩;unfold FB at eq
  split at eq
  ·cases ry with
   | int j=>
   cases rx with
   | @obj a kk hk=>
     split at eq
     ·next xs ex=>
      obtain ⟨n,en,ez⟩:=uc1.mp eq
      cases ez
      have hk2:=s2.ext.io _ _ hk;obtain ⟨vs,g1,g2⟩:=f2.s.obs _ a _ hk2 ex;refine ⟨a,vs,_,n,rfl,rfl,g1,by rw [g2.length];exact en,?_⟩;have rv2:=rv.mono (s1.trans s2).ext;obtain ⟨f3,s3⟩:=f2.wrObj (o:=.lst (xs.set n d)) (u:=.lst (vs.set n v)) hk2 λc' H' ext hu=>⟨_,hu,(Reps.set rv2 n g2).mono ext⟩;exact k Z _ c2 f3 ((s1.trans s2).trans s3)
     ·cases eq
  ·cases eq
end
variable {H:Hp}
section
variable {X:Cx}{e a b tg iter elt:Expr}{ifs:List Expr}{pos:Pos}{scope:Scope}{N':List Str}{n:Nat}{fr:List Nat}{f:M (List D)}{st:D->M Unit}{tst:M Bool}{el:M D}
def Ba:M Bool:=ret true
theorem Sb:PIf X [] (RT X.K Ba):=λpins s Z H Q I z9=>by
 obtain ⟨Oo,c,t,fi,r,t',eq,k⟩:=z9;exact Tf pins s Z H Q I (by cases eq;exact k H c fi .refl)
theorem Sc {g:M Bool}(h:PT X e (RT X.K g)):PIf X [e] (RT X.K g):=Tg h
theorem BJ (O:CmpOk X scope N' (Fm n fr))(hc:X.calm=true)(hi:PI X tg iter (RI X.K f))
 (hg:∀cl C s2 H2 fp,PG (BN X N' scope cl C s2 H2 fp) tg (RG X.K st)) (ht:∀cl C s2 H2 fp,PIf (BN X N' scope cl C s2 H2 fp) ifs (RT X.K tst)) (he:∀cl C s2 H2 fp,PE (BN X N' scope cl C s2 H2 fp) elt (RE X.K el))
 (hs:∀x,foldedSetIterable iter X.env x=pure x:=by intro _;rfl):PE X (.ListComp elt [⟨tg,iter,ifs,0⟩] scope pos) (RF X.K (AA n fr f st tst el)):=
 AL (Tb O hc hi hg ht he hs) λ_ _ _ q=>RF.comp q
theorem RF.ofPure {f:M (List D)}{Z:L2.St}{Q:VK}(q:RE K (Aq f) Z H Q):RF K f Z H Q:=by
 obtain ⟨Oo,c,t,fi,r,t',eq,k⟩:=q;obtain ⟨ds,t1,e1,eq⟩:=Ai eq
 cases eq
 exact ⟨Oo,c,t,fi,ds,_,e1,λp xs H1 c1 f1 s1 rxs hp=>k _ _ c1 (f1.laid hp) (s1.trans (f1.stp_laid hp)) (.lst Au (f1.s.free hp) (rxs.mono (Ext.laid f1.s hp)))⟩
theorem Ju {i:Nat}{y:Str}{py spos:Pos}(O:CmpOk X scope N' (Fm n fr))(hc:X.calm=true)(hN:X.N.Nodup)(hiN:X.N[i]?=some y)(hx:X.env.scope.names.lookup y=some .local)(hi:PI X tg iter (RI X.K f))
 (hg:∀cl C s2 H2 fp,PG (BN X N' scope cl C s2 H2 fp) tg (RG X.K st)) (ht:∀cl C s2 H2 fp,PIf (BN X N' scope cl C s2 H2 fp) ifs (RT X.K tst)) (he:∀cl C s2 H2 fp,PE (BN X N' scope cl C s2 H2 fp) elt (RE X.K el))
 (hsw:swapsWith (.ListComp elt [⟨tg,iter,ifs,0⟩] scope pos) (some (.Name y py)) spos.line X.env=pure true:=by rfl)
 (hs:∀x,foldedSetIterable iter X.env x=pure x:=by intro _;rfl):PS X (.Assign [.Name y py] (.ListComp elt [⟨tg,iter,ifs,0⟩] scope pos) spos) (RSg X.K μ (Av i (Aq (AA n fr f st tst el)))):=
 Bo (MG O hc hN hiN hx hi hg ht he hsw hs) λE Z H q=>RF.comp (RF.ofPure (RS.set q))
theorem Jt {i:Nat}{y:Str}{py spos:Pos}(O:CmpOk X scope N' (Fm n fr))(hc:X.calm=true)(hN:X.N.Nodup)(hiN:X.N[i]?=some y)(hx:X.env.scope.names.lookup y=some .local)(hi:PI X tg iter (RI X.K f))
 (hg:∀cl C s2 H2 fp,PG (BN X N' scope cl C s2 H2 fp) tg (RG X.K st)) (ht:∀cl C s2 H2 fp,PIf (BN X N' scope cl C s2 H2 fp) ifs (RT X.K tst)) (he:∀cl C s2 H2 fp,PE (BN X N' scope cl C s2 H2 fp) elt (RE X.K el))
 (hsw:swapsWith (.ListComp elt [⟨tg,iter,ifs,0⟩] scope pos) (some (.Name y py)) spos.line X.env=pure true:=by rfl)
 (hs:∀x,foldedSetIterable iter X.env x=pure x:=by intro _;rfl):PS X (.Assign [.Name y py] (.ListComp elt [⟨tg,iter,ifs,0⟩] scope pos) spos) (RSg X.K μ (C6 i (AA n fr f st tst el))):=
 Bo (MG O hc hN hiN hx hi hg ht he hsw hs) λE Z H q=>RF.comp (RS.own q)
theorem Bj (tgs:List Str)(frn:List (Nat×Str))(hk:scope.kind = .function)(hcell:(scope.names.all λy=>y.2 != .cell)=true)(hloc:(scope.names.all λy=>y.2 != .local || scope.names.lookup y.1 == some .local)=true)
 (hfree:(scope.names.all λy=>y.2 != .free || X.env.kindOf y.1 == some .cell || X.env.kindOf y.1 == some .free)=true)
 (hf:(frn.all λp=>X.N[p.1]? == some p.2 && scope.names.lookup p.2 == some .free)=true):CmpOk X scope (tgs++frn.map (·.2)) (Fm tgs.length (frn.map (·.1))):=by
 rw [ui1] at hcell hloc hfree hf;refine ⟨hk,λy hy=>by simpa using hcell y hy,λy hy hl=>?_,λy hy hl=>?_,λZ _=>by simp [Fm],λZ j x v h1 h2=>?_⟩
 ·have:=hloc y hy;simpa [hl] using this
 ·have:=hfree y hy;simpa [hl] using this
 ·unfold Fm at h2
  by_cases hj:j < tgs.length
  ·rw [ua9 (by simpa using hj),ub3] at h2
   split at h2 <;> simp at h2
  ·rw [ua5 (by simpa using hj),ud0,ug3,ug3] at h2;rw [ua5 (by simpa using hj),ug3] at h1
   cases e:frn[j - tgs.length]? with
   | none=>rw [e] at h1;cases h1
   | some p=>
     rw [e] at h1 h2;simp only [uk0,Option.some.injEq] at h1 h2;have hp:=hf p (ud7 e);rw [uh7] at hp;refine ⟨p.1,by rw [<-h1];simpa using hp.1,?_,by rw [<-h1];simpa using hp.2⟩
     cases e2:Z[p.1]? with
     | none=>rw [e2] at h2;cases h2
     | some o=>rw [e2] at h2;simpa using h2
end
mutual
noncomputable def CW:D->Bool
 | .tup xs=>LI xs
 | .lst xs=>LI xs
 | .obj _=>false
 | .scr _=>false
 | .exc _ _=>false
 | _=>true
noncomputable def LI:List D->Bool
 | []=>true
 | d :: r=>CW d && LI r
end
def c0:Cf:=⟨[],λ_=>False⟩
theorem KM (a:Addr):¬c0.A a:=λh=>h.elim (λz=>nomatch z) λz=>z
mutual
theorem FV {K:PySem.W.Frag}{c:Cf}{H:Hp}{v:V}{d:D}(r:Rep K c H v d)(p:CW d=true):Rep K c0 H v d:=by
 cases r with
 | non=>exact .non
 | bl b=>exact .bl b
 | int i=>exact .int i
 | str x=>exact .str x
 | ty n=>exact .ty n
 | tup h n r=>exact .tup h (KM _) (Hs r (by simpa [CW] using p))
 | lst h n r=>exact .lst h (KM _) (Hs r (by simpa [CW] using p))
 | scr h=>simp [CW] at p
 | dic h n=>exact .dic h (KM _)
 | obj h=>simp [CW] at p
 | exc _ _ _ _ _=>simp [CW] at p
theorem Hs {K:PySem.W.Frag}{c:Cf}{H:Hp}{vs:List V}{ds:List D}(r:Reps K c H vs ds)(p:LI ds=true):Reps K c0 H vs ds:=by
 cases r with
 | nil=>exact .nil
 | cons h t=>
   simp only [LI,uh7] at p;exact .cons (FV h p.1) (Hs t p.2)
end
noncomputable def E4 (S:List Ob):D->D
 | .obj k=>match S[k]? with
   | some (.lst ds)=>.lst ds
   | _=>.obj k
 | d=>d
noncomputable def Lk:D->Bool
 | .obj _=>true
 | _=>false
def eqS (g:Bool->Bool)(x y:D):M D:=λt=>
 if (Lk x || Lk y)=true then (if (CW (E4 t.S x) && CW (E4 t.S y))=true then (eqN EQD (E4 t.S x) (E4 t.S y)).map λb=>(.bl (g b),t) else none)
 else (eqN EQD x y).map λb=>(.bl (g b),t)
theorem LO {c:Cf}{S:List Ob}{v:V}{d:D}(s:SInv K c S H)(r:Rep K c H v d)(p:CW (E4 S d)=true):Rep K c0 H v (E4 S d):=by
 cases r with
 | @obj a k hk=>
   unfold E4 at p ⊢;dsimp only at p ⊢
   split
   ·next ds e=>
    rw [e] at p;obtain ⟨vs,h1,h2⟩:=s.obs k a _ hk e;exact .lst h1 (KM _) (Hs h2 (by simpa [CW] using p))
   ·next h=>
    split at p
    ·next ds e=>exact absurd e (h ds)
    ·simp [CW] at p
 | non=>exact .non
 | bl b=>exact .bl b
 | int b=>exact .int b
 | str b=>exact .str b
 | ty b=>exact .ty b
 | tup h n q=>exact FV (.tup h n q) p
 | lst h n q=>exact FV (.lst h n q) p
 | scr h=>exact FV (c:=c) (.scr h) p
 | dic h n=>exact FV (.dic h n) p
 | exc a b n f q=>exact FV (.exc a b n f q) p
theorem Hw {g:Bool->Bool}:A9 K (QM K g) (eqS g):=λ{Oo c t Z H x y dx dy r t' Q} f rx ry eq k=>by
 unfold eqS at eq
 split at eq
 ·split at eq
  ·next hp=>
   rw [uh7] at hp;obtain ⟨b,e1,e2⟩:=uc1.mp eq
   cases e2
   exact ⟨c0,_,_,b,LO f.s rx hp.1,LO f.s ry hp.2,e1,k _ H c f .refl (.bl (g b))⟩
  ·cases eq
 ·obtain ⟨b,e1,e2⟩:=uc1.mp eq
  cases e2
  exact ⟨c,dx,dy,b,rx,ry,e1,k _ H c f .refl (.bl (g b))⟩
theorem OK {a:Addr}{ns:List Int}{f:Fn}{S':List Ob}(hO:MV H)(hS:SqL K H a (ns.map V.int))(e:f [.scr ns] []=some (.bl true,S')):spF K f [.ref a] H (λv _=>v = .bl true) λ_ _ _=>False:=by
 refine ⟨c0,[.scr ns],[],⟨rfl,List.Pairwise.nil,λk a o h=>by simp [c0] at h,λb z=>z.elim,λb z=>z.elim⟩,.cons (.scr ?_) .nil,.bl true,S',e,λv H' c' _ _ _ rv=>by cases rv;rfl⟩;rcases hS with (h | h) | h
 ·rcases hO a with z | ⟨o,xs,z⟩
  ·rw [z] at h;cases h
  ·rw [z] at h;cases h
 ·exact .inl ⟨h,KM _⟩
 ·exact .inr h
end F2
namespace L2
open PySem PySem.Spec PyProof.Rows
section
variable {prog:Program}{w:World}{A:Around}{E:Value->Shared->Prop}{s:Shared}
theorem ID {it l:Addr}{items:Array Value}(hne:l≠it):∀(n i:Nat) (s:Shared) (Q:List Value->Shared->Prop),s.heap.IsListIter it l i->s.heap.IsList l items->i + n<=items.size->
 (∀h',h'.IsListIter it l (i + n)->Heap.SameBut it s.heap h'->Q ((items.toList.drop i).take n) { s with heap:=h' })->wpAny (model prog w) A (draw (.ref it) n) Q E s
 | 0,i,s,Q,hit,_,_,hQ=>uo8 (by simpa using hQ s.heap hit (Heap.SameBut.refl ..))
 | n + 1,i,s,Q,hit,ht,hle,hQ=>by
   have hlt:i < items.size:=by lia
   refine uo7 (wpAny_pyNext_list_item hit ht (x:=items[i]) (by simp [hlt]) λh1 hit1 hs1=>?_);refine uo7 (um2 (ID hne n (i + 1) _ _ hit1 (ht.extBut hs1.extBut hne) (by lia) λh2 hit2 hs2=>uo8 ?_));have hd:items.toList.drop i=items[i] :: items.toList.drop (i + 1):=by simp [ub0,hlt]
   have:=hQ h2 (by rw [show i + (n + 1)=i + 1 + n by lia];exact hit2) (hs1.trans hs2);rw [hd,List.take_succ_cons] at this;exact this
theorem L7 {l:Addr}{items:Array Value}{targets:List (Bool×(Value->Sem Unit))}{Q:Unit->Shared->Prop}(hh:A.handled=none)(ht:s.heap.IsList l items)(hn:targets.length=items.size)(hstar:targets.findIdx? (·.1)=none)
 (h:∀h',Heap.ExtBut s.heap.objs.size s.heap h'->wpAny (model prog w) A (assignInOrder (targets.map (·.2)) items.toList) Q E { s with heap:=h' }):wpAny (model prog w) A (unpack (.ref l) targets) Q E s:=by
 have hlt:l≠s.heap.objs.size:=by obtain ⟨o,ho,_⟩:=ht;exact um4 (um3 ho)
 unfold unpack;rw [hn,hstar];refine uo7 (um2 ?_);unfold unpackItems;refine uo7 ?_;unfold notIterableAtAll;refine uo7 (wpAny_specialOf ht.typeIs PySem.F.slot_list_iter.lookup ?_);refine uo8 ?_;simp only [uf7,if_false];refine uo7 (um2 (wpAny_pyIter_list ht ?_));have hp:Heap.IsList (s.heap.push { cls:=.type "list_iterator",data:=.fields #[.ref l,.int 0 0] }) l items:=by
  obtain ⟨o,ho,r⟩:=ht;exact ⟨o,ub8 _ ho,r⟩
 refine uo7 (um2 (ID hlt items.size 0 _ _ ⟨_,ue3 _ rfl,rfl,rfl⟩ hp (by lia) λh1 hit1 hs1=>?_));have hall:List.take items.size (List.drop 0 items.toList)=items.toList:=by
  rw [ul1];exact uc2 (by simp)
 rw [hall];rw [if_neg (by simp)];have ht1:Heap.IsList h1 l items:=hp.extBut hs1.extBut hlt;refine uo7 (um2 (wpAny_pyNext_list_end hh hit1 ht1 (by simp) λh2 he2=>?_));simp only [Option.isSome_none,uf7,if_false];exact uo8 (h h2 λb o hb e=>he2 b o hb (hs1.extBut b o hb (ub8 _ e)))
end
section
variable {X:Cx}{pos:Pos}
def gUn (K:PySem.W.Frag)(n:Nat)(t:TGs):TG:=λv Z H Q=>∃a xs,v = .ref a/\(SqT K H a xs\/SqL K H a xs)/\xs.length=n/\t xs Z H Q
theorem WX {es:List Expr}{k:Nat}{t:TGs}{n:Nat}(hc:X.calm=true)(h:PGs X es t)
 (hn:(assignEach es X.env).length=n:=by rfl) (hst:(assignEach es X.env).findIdx? (·.1)=none:=by rfl):PG X (.Tuple es k pos) (gUn X.K n t):=by
 intro pins s Z H v u Q I r hw;obtain ⟨a,xs,e1,hq | hq,hl,hw⟩:=hw
 ·exact Vz hc h hn hst pins s Z H v u Q I r ⟨a,xs,e1,hq,hl,hw⟩
 ·subst e1
  cases r
  obtain ⟨its,rv,ht,hz⟩:=I.list hq;rw [assign_Tuple];refine uo7 (wpAny_standAt (L7 (I.ok.hd hc) ht.isList (by simp [hn,<-hl,rv.length]) hst λh' hx=>?_));have I1:Inv X pins Z H { s with heap:=h' }:=I.kept (t':=s.toks) λb o e=>hx b o (um4 (um3 e)) e;exact h pins _ Z H xs _ Q I1 (by simpa using rv) hw
end
section
open HT
variable {prog:Program}{w:World}{A:Around}{E:Value->Shared->Prop}{s:Shared}
theorem GC {t sl:Addr}{items:Array Value}{vl vu:Value}{lo hi:Option Int}{Q:Value->Shared->Prop}(ht:IsTup s.heap t items)(hs:s.heap.IsSliceOf sl vl vu .none)(pl:IsPart vl lo)(pu:IsPart vu hi)
 (hw:sIx items.size 0 lo=0/\sIx items.size items.size hi=items.size) (h:Q (.ref t) s):wpAny (model prog w) A (getItem (.ref t) (.ref sl)) Q E s:=by
 obtain ⟨os,hos,hcs,hds⟩:=id hs;have hTs:s.TypeIs (.ref sl) "slice":=⟨os,hos,hcs⟩;unfold getItem
 try with_reducible refine um2 ?_
 first | refine uo7 (uo8 ?_) | skip
 refine uo7 (wpAny_sequenceKey ht.typeIs (by decide) ?_);refine uo7 (wpAny_callSpecial?_slot (name:=Str.ofString "__getitem__") ht.typeIs ua0
  (wpAny_call_entry ua0 ht.typeIs entry_tuple_getitem ?_ (args_tuple_getitem _ _)))
 show wpAny _ _ (Builtin.Tuple.tupleItemsOf (.ref t) >>= _) _ _ s;refine uo7 (tupleItemsOf_ ht ?_);refine uo7 (wpAny_typeOf hTs ?_);rw [if_pos (by decide)];refine uo7 (E5 hs pl pu ?_);have hyes:(((sIx items.size 0 lo:Nat):Int) == 0 && (1:Int) == 1 && (sIx items.size items.size hi - sIx items.size 0 lo) == items.size)=true:=by
  rw [hw.1,hw.2];simp
 show wpAny _ _ (if (((sIx items.size 0 lo:Nat):Int) == 0 && (1:Int) == 1 && (sIx items.size items.size hi - sIx items.size 0 lo) == items.size)=true then _ else _) _ _ s;rw [if_pos hyes];refine uo7 (m:=Builtin.Tuple.tupleIsExact _) ?_;unfold Builtin.Tuple.tupleIsExact;refine uo7 (wpAny_typeOf ht.typeIs (uo8 ?_));rw [if_pos (by decide)]
 first
  | exact uo7 (wpAny_rule (uo8 ⟨_,rfl,uo8 h⟩))
  | exact uo7 (wpAny_rule (uo7 (uo8 (uo8 ⟨_,rfl,uo8 h⟩))))
end
section
variable {X:Cx}
def VV (K:PySem.W.Frag):V->Option Int->Option Int->Hp->VK->Prop:=λx lo hi H Q=>∃a xs,x = .ref a/\SqT K H a xs/\(HT.sIx xs.length 0 lo=0/\HT.sIx xs.length xs.length hi=xs.length)/\Q (.ref a) H
theorem T4:SlR X (VV X.K):=by
 intro pins s Z H x v vl vu lo hi sl Q I rx hs pl pu h;obtain ⟨a,xs,rfl,hx,hw,q⟩:=h
 cases rx
 obtain ⟨its,r,ht,hz⟩:=I.tuple hx;have hlen:its.toArray.size=xs.length:=by rw [ug2];exact r.length.symm
 exact ⟨"tuple",_,ua0.lookup,ht.typeIs,GC ht hs pl pu (by rw [hlen];exact hw) ⟨.ref a,H,I,rfl,q⟩⟩
end
noncomputable def Its (z:Str):It:=⟨λi _=>i < z.cps.size,λi H x H'=>H'=H/\∃c,z.cps[i]?=some c/\x = .str ⟨#[c]⟩,λi _=>i=z.cps.size⟩
theorem L6 {P:Program}{w:World}{K:PySem.W.Frag}{tg:Expr}{T:String}{x:Str}{t:Tok}(it:Addr)(hT:["enumerate", "zip", "dict_itemiterator", "dict_reverseitemiterator", "odict_iterator", "itertools.zip_longest", "itertools.pairwise"].contains T=false)
 (W:∀A:Around,A.handled=none->Walks P w A it [it] [it] x.cps.size (SignAt x) (λi h=>h.IsStrIter it T x t i))
 (self:∀(A:Around) (i:Nat) (s:Shared) (Q:Value->Shared->Prop) (E:Value->Shared->Prop),s.heap.IsStrIter it T x t i->Q (.ref it) s->wpAny (model P w) A (pyIter (.ref it)) Q E s) :
 Turn P w K tg (Its x) [it] it (λi h=>h.IsStrIter it T x t i) where
 mem:=by simp
 obj:=λi h st b hb=>by
  have e:b=it:=by simpa using hb
  subst e;obtain ⟨o,e,c,d⟩:=st;exact ⟨o,e,λv z=>by rw [d] at z;cases z⟩
 keep:=λi h h' st k=>by
  obtain ⟨o,e,r⟩:=st;exact ⟨o,k it (by simp) o e,r⟩
 item:=by
  intro X hP hw hK hc i pins s Z H E I hf st hg;subst hP hw hK;obtain ⟨f0,f1,f2,f3,f4,f5⟩:=hf it (by simp);refine (W X.A (I.ok.hd hc)).item i s _ _ hg st λv h' tk hv st' kk=>?_;obtain ⟨c,u,hcc,rfl⟩:=hv;have I1:Inv X pins Z H { s with heap:=h',toks:=tk }:=I.turned (λb o hb e=>kk b o (by simpa using hb) e) f0 f1 f3 f4 f5;obtain ⟨o,e,ec,ed⟩:=id st';exact ⟨_,rfl,Kp (s:={ s with heap:=h',toks:=tk }) e ec ed hT ⟨.str ⟨#[c]⟩,H,I1,⟨u,rfl⟩,⟨rfl,c,hcc,rfl⟩,st',λb hb=>(hf b hb).1⟩⟩
 done:=by
  intro X hP hw hK hc i pins s Z H E I hf st hg;subst hP hw hK;obtain ⟨f0,f1,f2,f3,f4,f5⟩:=hf it (by simp);have hg':i=x.cps.size:=hg;subst hg';exact (W X.A (I.ok.hd hc)).done s _ _ st λh' tk kk=>⟨rfl,I.turned (λb o hb e=>kk b o (by simpa using hb) e) f0 f1 f3 f4 f5⟩
 self:=λA i s Q E st h=>self A i s Q E st h
section
variable {X:Cx}{tg:Expr}{pos:Pos}
def Yi (K:PySem.W.Frag)(tl:TE):TI:=λZ H R=>tl Z H λx H1=>(∃a,x = .ref a/\(∃xs,SqL K H1 a xs)/\R (Itl K a) H1)\/(∃a,x = .ref a/\(∃xs,SqT K H1 a xs)/\R (Itt K a) H1)\/∃z,x = .str z/\R (Its z) H1
theorem VA {l:Expr}{tl:TE}(hl:PE X l tl):PI X tg l (Yi X.K tl):=by
 intro pins s Z H R I h;refine thn (hl pins s Z H _ I h) λv s1 z9=>?_;obtain ⟨x,H1,I1,r1,q1⟩:=z9;have fp:∀b∈[s1.heap.objs.size],FpOk X pins H1 b:=λb hb=>by
  have e:b=s1.heap.objs.size:=by simpa using hb
  subst e;exact I1.fpOk (uo3 _) (I1.hok.fresh (uo3 _))
 rcases q1 with ⟨a,rfl,⟨xs,hq⟩,q⟩ | ⟨a,rfl,⟨xs,hq⟩,q⟩ | ⟨z,rfl,q⟩
 ·cases r1
  obtain ⟨its,rv,p,hz⟩:=I1.list hq;refine wpAny_pyIter_list p.isList ?_;exact ⟨s1.heap.objs.size,[s1.heap.objs.size],_,_,H1,rfl,I1.kept (t':=s1.toks) λb o e=>ub8 _ e,Pu a _,⟨_,ue3 _ rfl,rfl,rfl⟩,fp,q⟩
 ·cases r1
  obtain ⟨its,rv,p,hz⟩:=I1.tuple hq;refine wpAny_pyIter_tuple (show s1.heap.IsTuple a its.toArray from p) ?_;exact ⟨s1.heap.objs.size,[s1.heap.objs.size],_,_,H1,rfl,I1.kept (t':=s1.toks) λb o e=>ub8 _ e,NM a _,⟨_,ue3 _ rfl,rfl,rfl⟩,fp,q⟩
 ·obtain ⟨t,rfl⟩:=r1
  cases ha:z.cps.all (· < 128)
  ·refine wpAny_pyIter_wide ha ?_;exact ⟨s1.heap.objs.size,[s1.heap.objs.size],_,_,H1,rfl,I1.kept (t':=s1.toks) λb o e=>ub8 _ e,L6 (T:="str_iterator") (x:=z) (t:=t) _ (by decide) (λA hA=>Walks.strWide hA _ z t) (λ_ _ _ _ _ st h=>wpAny_pyIter_striter_wide st h),⟨_,ue3 _ rfl,rfl,rfl⟩,fp,q⟩
  ·refine wpAny_pyIter_ascii ha ?_;exact ⟨s1.heap.objs.size,[s1.heap.objs.size],_,_,H1,rfl,I1.kept (t':=s1.toks) λb o e=>ub8 _ e,L6 (T:="str_ascii_iterator") (x:=z) (t:=t) _ (by decide) (λA hA=>Walks.strAscii hA _ z t) (λ_ _ _ _ _ st h=>wpAny_pyIter_striter_ascii st h),⟨_,ue3 _ rfl,rfl,rfl⟩,fp,q⟩
def RH:R2:=λx y H Q=>∃z k,x = .str z/\y = .int k/\MulOk z k/\Q (.str (Txt.mul z k)) H
theorem SU:OpR X (binaryOp .Mult) RH:=by
 intro pins s Z H x y v u Q I rx ry h;obtain ⟨z,k,rfl,rfl,hk,q⟩:=h;obtain ⟨t,rfl⟩:=rx;obtain ⟨t',rfl⟩:=ry;exact SB.mul hk λt2 tk=>⟨.str _,H,I.tok tk,⟨t2,rfl⟩,q⟩
def VT:V->Option Int->Option Int->Hp->VK->Prop:=λx lo hi H Q=>∃z,x = .str z/\z.length<=sizeLine/\Q (.str (Txt.slice z lo hi)) H
theorem sl_str:SlR X VT:=by
 intro pins s Z H x v vl vu lo hi sl Q I rx hs pl pu h;obtain ⟨z,rfl,hz,q⟩:=h;obtain ⟨t,rfl⟩:=rx;refine ⟨"str",_,PySem.F.slot_str_getitem.lookup,typeIs_str _ _ _,?_⟩;have part:∀{v:Value} {o:Option Int},IsPart v o->∃l:Option (Int×Tok),v=partValue l/\l.map (·.1)=o:=λ{v o} p=>by
  cases p with
  | none=>exact ⟨none,rfl,rfl⟩
  | int i t=>exact ⟨some (i,t),rfl,rfl⟩
 obtain ⟨l,rfl,el⟩:=part pl;obtain ⟨u,rfl,eu⟩:=part pu;refine wpAny_getItem_str_slice (l:=l) (u:=u) (st:=none) (by obtain ⟨o,h1,h2,h3⟩:=hs;exact ⟨o,h1,h2,h3⟩) rfl ?_;unfold sliceMade slicePicked;rw [el,eu];show (if ((1:Int) == 1 && (Builtin.Str.strSliceIndices lo hi 1 z.length).length == z.length)=true then Made.val (.str z t) else Made.str ⟨((Builtin.Str.strSliceIndices lo hi 1 z.length).filterMap (z.cps[·]?)).toArray⟩).post _ s;have hle:=Txt.slice_le z lo hi;unfold Txt.slice at q hle
 by_cases hc:((1:Int) == 1 && (Builtin.Str.strSliceIndices lo hi 1 z.length).length == z.length)=true
 ·rw [if_pos hc] at q ⊢;exact ⟨.str z,H,I,⟨t,rfl⟩,q⟩
 ·rw [if_neg hc] at q hle ⊢;exact ⟨um5 hle hz,.str _,H,I.tok _,⟨_,rfl⟩,q⟩
def Gw (g:Int->Int->Bool)(h:List Nat->List Nat->Bool):R2:=λx y H Q=>(∃i j,x = .int i/\y = .int j/\Q (.bl (g i j)) H)\/∃i j,x = .str i/\y = .str j/\Q (.bl (h i.cps.toList j.cps.toList)) H
theorem O1:OpR X (compareOp .Lt) (Gw (λi j=>decide (i < j)) λi j=>decide (i < j)):=op_lt.or λpins s Z H x y v u Q I rx ry h=>by
 obtain ⟨i,j,rfl,rfl,q⟩:=h;obtain ⟨t,rfl⟩:=rx;obtain ⟨t',rfl⟩:=ry;exact P.lt_str ⟨.bl _,H,I,rfl,q⟩
theorem LA:OpR X (compareOp .LtE) (Gw (λi j=>decide (i<=j)) λi j=>!(decide (j < i))):=op_le.or λpins s Z H x y v u Q I rx ry h=>by
 obtain ⟨i,j,rfl,rfl,q⟩:=h;obtain ⟨t,rfl⟩:=rx;obtain ⟨t',rfl⟩:=ry;exact P.le_str ⟨.bl _,H,I,rfl,q⟩
theorem Vl:OpR X (compareOp .Gt) (Gw (λi j=>decide (j < i)) λi j=>decide (j < i)):=op_gt.or λpins s Z H x y v u Q I rx ry h=>by
 obtain ⟨i,j,rfl,rfl,q⟩:=h;obtain ⟨t,rfl⟩:=rx;obtain ⟨t',rfl⟩:=ry;exact P.gt_str ⟨.bl _,H,I,rfl,q⟩
theorem Vk:OpR X (compareOp .GtE) (Gw (λi j=>decide (j<=i)) λi j=>!(decide (i < j))):=op_ge.or λpins s Z H x y v u Q I rx ry h=>by
 obtain ⟨i,j,rfl,rfl,q⟩:=h;obtain ⟨t,rfl⟩:=rx;obtain ⟨t',rfl⟩:=ry;exact P.ge_str ⟨.bl _,H,I,rfl,q⟩
end
end L2
namespace F2
open PySem L2 PySem.Spec
def Dr:D->M (List D)
 | .lst ds=>ret ds
 | .scr ns=>ret (ns.map .int)
 | .tup ds=>ret ds
 | .str x=>ret (x.cps.toList.map λc=>.str ⟨#[c]⟩)
 | _=>fail
def B4 (f:M D):M (List D):=bnd f Dr
def D0:D->D->M D
 | .str x,.int k=>λt=>if BL k=true/\x.length * k.toNat<=LIM/\k<=LIM/\x.length<=LIM then some (.str (Txt.mul x k),t) else none
 | x,y=>H0 x y
def BR:D->Option Int->Option Int->M D
 | .str x,lo,hi=>lim x.length (.str (Txt.slice x lo hi))
 | .tup ds,lo,hi=>ret (.tup (Bp ds lo hi))
 | x,lo,hi=>slD x lo hi
def K3 (g:Int->Int->Bool)(h:List Nat->List Nat->Bool):D->D->M D
 | .int i,.int j=>ret (.bl (g i j))
 | .str x,.str y=>ret (.bl (h x.cps.toList y.cps.toList))
 | _,_=>fail
def ltA:=K3 (λi j=>decide (i < j)) (λi j=>decide (i < j))
def leA:=K3 (λi j=>decide (i<=j)) (λi j=>!(decide (j < i)))
def gtA:=K3 (λi j=>decide (j < i)) (λi j=>decide (j < i))
def geA:=K3 (λi j=>decide (j<=i)) (λi j=>!(decide (i < j)))
def unS (n:Nat)(g:List D->M Unit):D->M Unit
 | .tup ds=>if ds.length=n then g ds else fail
 | .lst ds=>if ds.length=n then g ds else fail
 | _=>fail
def Yb:M D:=fC .dic
def Hx (i:Nat)(g:M D)(d:D):M Unit:=λt=>match t.env[i]? with
 | some (some (.own _))=>bnd g (λj t1=>match j,t1.env[i]? with
   | .int j,some (some (.own xs))=>(ixN xs.length j).map λn=>((),{ t1 with env:=t1.env.set i (some (.own (xs.set n d))) })
   | _,_=>none) t
 | _=>none
variable {tg:Expr}{K:PySem.W.Frag}{n k:Nat}{g:List D->M Unit}{es:List Expr}
section
variable {X:Cx}{e a b:Expr}{pos:Pos}{st:Stmt}
theorem ItOk.str {K:PySem.W.Frag}{c:Cf}{H:Hp}{x:Str}:ItOk K (Its x) c H (x.cps.toList.map λc=>.str ⟨#[c]⟩):=by
 refine ⟨λc' H' i ex hi=>?_,λc' H' i y H'' d ex hd hy=>?_,λc' H' ex=>?_⟩
 ·show i < x.cps.size;simpa using hi
 ·obtain ⟨rfl,n,hn,rfl⟩:=hy;refine ⟨rfl,?_⟩;have:d = .str ⟨#[n]⟩:=by
   rw [ug3] at hd;have hn':x.cps.toList[i]?=some n:=by simpa using hn
   rw [hn'] at hd;simpa using hd.symm
  rw [this];exact .str _
 ·show _=x.cps.size;simp
theorem UZ {f:M D}(h:PE X e (RE X.K f)):PI X tg e (RI X.K (B4 f)):=
 Kz (VA h) λZ H R z9=>by
  obtain ⟨Oo,c,t,fi,ds,t',eq,k⟩:=z9;obtain ⟨d,t1,e1,eq⟩:=Ai eq;refine ⟨Oo,c,t,fi,d,t1,e1,λv H1 c1 f1 s1 rv=>?_⟩
  cases rv with
  | @lst p vs ds' h1 h2 h3=>
    cases eq
    exact .inl ⟨p,rfl,⟨vs,SqL.of h1⟩,k _ H1 c1 f1 s1 (ItOk.lst λc' H' ex=>⟨vs,SqL.of (ex.keep _ _ h1 h2),h3.mono ex⟩)⟩
  | @scr p ns h1=>
    cases eq
    exact .inl ⟨p,rfl,⟨_,h1.sq⟩,k _ H1 c1 f1 s1 (ItOk.lst λc' H' ex=>⟨_,(h1.mono ex).sq,Reps.ints ns⟩)⟩
  | @tup p vs ds' h1 h2 h3=>
    cases eq
    exact .inr (.inl ⟨p,rfl,⟨vs,SqT.of h1⟩,k _ H1 c1 f1 s1 (ItOk.tup λc' H' ex=>⟨vs,SqT.of (ex.keep _ _ h1 h2),h3.mono ex⟩)⟩)
  | str x=>
    cases eq
    exact .inr (.inr ⟨x,rfl,k _ H1 c1 f1 s1 ItOk.str⟩)
  | _=>cases eq
theorem RG.un {v:V}{Z:L2.St}{H:Hp}{Q:L2.St->Hp->Prop}(q:RG K (unS n g) v Z H Q):gUn K n (RGs K g) v Z H Q:=by
 obtain ⟨Oo,c,t,d,fi,rv,t',eq,k⟩:=q
 cases rv with
 | @tup a vs ds h1 h2 h3=>
   unfold unS at eq
   by_cases hn:ds.length=n
   ·dsimp only at eq;rw [if_pos hn] at eq;exact ⟨a,vs,rfl,.inl (SqT.of h1),by rw [h3.length];exact hn,Oo,c,t,ds,fi,h3,t',eq,k⟩
   ·dsimp only at eq;rw [if_neg hn] at eq;cases eq
 | @lst a vs ds h1 h2 h3=>
   unfold unS at eq
   by_cases hn:ds.length=n
   ·dsimp only at eq;rw [if_pos hn] at eq;exact ⟨a,vs,rfl,.inr (SqL.of h1),by rw [h3.length];exact hn,Oo,c,t,ds,fi,h3,t',eq,k⟩
   ·dsimp only at eq;rw [if_neg hn] at eq;cases eq
 | _=>cases eq
theorem WK (hc:X.calm=true)(h:PGs X es (RGs X.K g))(hn:(assignEach es X.env).length=n:=by rfl)(hst:(assignEach es X.env).findIdx? (·.1)=none:=by rfl):PG X (.Tuple es k pos) (RG X.K (unS n g)):=
 Iq (WX hc h hn hst) λ_ _ _ _ q=>RG.un q
theorem Qa {f:D->M Unit}(h1:PG X e (RG X.K f))(h2:PGs X es (RGs X.K g))(hs:(assignEach (e :: es) X.env).map (·.2)=assign e X.env :: (assignEach es X.env).map (·.2):=by rfl):PGs X (e :: es) (RGs X.K (BK f g)):=
 Mi (QB h1 h2 hs) λ_ _ _ _ q=>RGs.cons q
theorem Ot (i:Nat){x:Str}{ix:Expr}{g:M D}{px:Pos}(hi:PE X ix (RE X.K g))(hN:X.N[i]?=some x:=by rfl)(hv:Vis X.env.scope x:=by first | exact Or.inl rfl | exact Or.inr (Or.inl rfl) | exact Or.inr (Or.inr rfl))(hd:(x == ("__debug__" : Str))=false:=by decide)
 (hcd:(x == ("__classdict__" : Str))=false:=by decide)
 (ha:∀v,assign (.Subscript (.Name x px) ix pos) X.env v=(do
   let ov <-holding [v] (eval (.Name x px) X.env)
   let iv <-holding [v,ov] (eval ix X.env)
   standAt pos
   holding [v,ov,iv] (setItem ov iv v)
   release [v,ov,iv] []):=by intro _;rfl):PG X (.Subscript (.Name x px) ix pos) (RG X.K (Hx i g)):=
 Iq (O5 (C8 hN hv hd hcd) hi LV ha) λv Z H Q z9=>by
  obtain ⟨Oo,c,t,d,fi,rv,t',eq,k⟩:=z9;unfold Hx at eq
  split at eq
  ·next xs0 e0=>
   obtain ⟨j,t1,e1,eq⟩:=Ai eq;obtain ⟨a,vs0,h1,h2,h3,h4,h5⟩:=fi.own i xs0 e0;refine ⟨.ref a,h1,Oo,c,t,fi,j,t1,e1,λy H1 c1 f1 s1 ry=>?_⟩
   split at eq
   ·next j' xs ex=>
    obtain ⟨n,en,ez⟩:=uc1.mp eq
    cases ez
    cases ry
    obtain ⟨a',vs,g1,g2,g3,g4,g5⟩:=f1.own i xs ex;rw [h1] at g1;injection g1 with g1;injection g1 with g1;injection g1 with g1;subst g1
    refine ⟨a,vs,j',n,rfl,rfl,g4,by rw [g5.length];exact en,?_⟩;obtain ⟨f2,s2⟩:=f1.wrOwn ex h1 (Reps.set (rv.mono s1.ext) n g5);exact k Z _ c1 f2 (s1.trans s2)
   ·cases eq
  ·cases eq
end
variable {x:Str}
section
variable {K:PySem.W.Frag}
def RD (K:PySem.W.Frag):R2:=λx y H Q=>NE K x y H Q\/RH x y H Q
theorem ST {X:Cx}:OpR X (binaryOp .Mult) (RD X.K):=op_mul3.or SU
theorem Ma {k:Int}(h:BL k=true/\x.length * k.toNat<=LIM/\k<=LIM/\x.length<=LIM):MulOk x k:=by
 obtain ⟨g1,g2⟩:=DM h.1;have hL:LIM=100000:=rfl;refine ⟨?_,λh1 _=>?_,λh1 _=>?_⟩
 ·rw [ud8];exact ⟨uk7 (by lia),uk7 (by lia)⟩
 ·have h2:k<=100000:=by have:=h.2.2.1;rw [hL] at this;exact this
  have h3:x.length<=100000:=by have:=h.2.2.2;rw [hL] at this;exact this
  have h4:(92233720368547:Int)<=(2 ^ 63 - 1) / k:=by
   rw [Int.le_ediv_iff_mul_le (by lia)];lia
  lia
 ·have h5:=h.2.1;rw [hL] at h5;unfold Builtin.Str.tooLong
  first | exact uk7 (by unfold sizeLine;lia) | (unfold sizeLine;exact uk7 (by lia))
theorem QV:A9 K (RD K) D0:=λ{Oo c t Z H x y dx dy r t' Q} f rx ry eq k=>by
 unfold D0 at eq
 split at eq
 ·next z kk=>
  split at eq
  ·next h=>
   cases eq
   cases rx
   cases ry
   exact .inr ⟨z,kk,rfl,rfl,Ma h,k _ H c f .refl (.str _)⟩
  ·cases eq
 ·exact .inl (TR f rx ry eq k)
def VR (K:PySem.W.Frag):V->Option Int->Option Int->Hp->VK->Prop:=λx lo hi H Q=>QN K x lo hi H Q\/(VT x lo hi H Q\/VV K x lo hi H Q)
theorem sl3 {X:Cx}:SlR X (VR X.K):=sl2.or (sl_str.or T4)
theorem M6 {α:Type}{xs:List α}{lo hi:Option Int}(h:HT.sIx xs.length 0 lo=0/\HT.sIx xs.length xs.length hi=xs.length):Bp xs lo hi=xs:=by
 unfold Bp;rw [h.1,h.2];simp
theorem TY:PC K (VR K) BR:=λ{Oo c t Z H x dx r lo hi t' Q} f rx eq k=>by
 unfold BR at eq
 split at eq
 ·next z=>
  obtain ⟨h,e⟩:=Dz eq
  cases e
  cases rx
  exact .inr (.inl ⟨z,rfl,um5 h BT,k _ H c f .refl (.str _)⟩)
 ·next ds=>
  cases eq
  cases rx with
  | @tup p vs ds h1 h2 h3=>
    by_cases hw:HT.sIx ds.length 0 lo=0/\HT.sIx ds.length ds.length hi=ds.length
    ·rw [M6 hw] at k;exact .inr (.inr ⟨p,vs,rfl,SqT.of h1,by rw [h3.length];exact hw,k _ H c f .refl (.tup h1 h2 h3)⟩)
    ·exact .inl (.inr ⟨p,vs,rfl,SqT.of h1,by rw [h3.length];exact hw,λq hq=>k _ _ c (f.laid hq) (f.stp_laid hq) (.tup Au (f.s.free hq) ((Ie h3 lo hi).mono (Ext.laid f.s hq)))⟩)
 ·exact .inl (V5 f rx eq k)
theorem Hv {g:Int->Int->Bool}{h:List Nat->List Nat->Bool}:A9 K (Gw g h) (K3 g h):=λ{Oo c t Z H x y dx dy r t' Q} f rx ry eq k=>by
 cases rx with
 | int i=>cases ry with
   | int j=>cases eq;exact .inl ⟨i,j,rfl,rfl,k _ H c f .refl (.bl _)⟩
   | _=>cases eq
 | str i=>cases ry with
   | str j=>cases eq;exact .inr ⟨i,j,rfl,rfl,k _ H c f .refl (.bl _)⟩
   | _=>cases eq
 | _=>cases eq
theorem ML:A9 K (Gw (λi j=>decide (i < j)) λi j=>decide (i < j)) ltA:=Hv
theorem JF:A9 K (Gw (λi j=>decide (i<=j)) λi j=>!(decide (j < i))) leA:=Hv
theorem TF:A9 K (Gw (λi j=>decide (j < i)) λi j=>decide (j < i)) gtA:=Hv
theorem TD:A9 K (Gw (λi j=>decide (j<=i)) λi j=>!(decide (i < j))) geA:=Hv
end
variable {fa:Addr}{fd:FuncData}
theorem U0 {P:Program}{w:World}{mg:Str->Option Value}{base:Heap}{qual:Str}{st:Stmt}{N ps:List Str}{m:Nat}{g:M Out}(e1:ps.length=n)(e2:N.length=m)(F:Fun K x qual st fa fd)(S:FnScope N ps (Ay st))
 (hb:∀(cdv:Value) (A:Around) (outer:List Env) (s:Shared) (H:Hp) (E:XK),Room k (A.deeper (PyProof.Rows.envOfC qual (Ay st) s.heap.objs.size fa cdv))->
   PSs (D3 CX0 P w K mg base N qual (Ay st) fa cdv A outer s H E).nox (By st) (RS K g)):FnOk P w K mg base CX0 (k + 1) fa fd ps (spF K (fnOf n m g)):=by
 subst e1 e2;exact WL F S hb
theorem VZ {P:Program}{w:World}{mg:Str->Option Value}{base:Heap}{ps:List Str}{f g:Fn}(e:f=g)(h:FnOk P w K mg base CX0 k fa fd ps (spF K g)):FnOk P w K mg base CX0 k fa fd ps (spF K f):=by rw [e];exact h
theorem N9:bootBuiltins "len" = some (.builtin "len"):=by decide +kernel
theorem Kc:bootBuiltins "isinstance" = some (.builtin "isinstance"):=by decide +kernel
theorem UD:bootBuiltins "ord" = some (.builtin "ord"):=by decide +kernel
theorem UC:bootBuiltins "min" = some (.builtin "min"):=by decide +kernel
theorem Oa:bootBuiltins "max" = some (.builtin "max"):=by decide +kernel
theorem UF:bootBuiltins "sum" = some (.builtin "sum"):=by decide +kernel
theorem N8:bootBuiltins "int" = some (.type "int"):=by decide +kernel
theorem UE:bootBuiltins "str" = some (.type "str"):=by decide +kernel
theorem R1:bootBuiltins "bool" = some (.type "bool"):=by decide +kernel
theorem Mn:bootBuiltins "list" = some (.type "list"):=by decide +kernel
theorem KK:bootBuiltins "tuple" = some (.type "tuple"):=by decide +kernel
noncomputable def A5:Expr->Bool
 | .Starred _ _=>true
 | _=>false
theorem AT {e:Expr}{env:Env}(h:A5 e=false):starEach (e :: es) env=(false,eval e env) :: starEach es env:=by
 cases e <;> first | rfl | cases h
def AZ (es:List Expr):Bool:=es.all λe=>!A5 e
theorem AS:∀{es:List Expr} {env:Env} {p:Pos},AZ es=true->(backTo p (starEach es env)).any (·.1)=false/\(backTo p (starEach es env)).all (λx=>!x.1)=true
 | [],env,p,_=>⟨rfl,rfl⟩
 | e :: es,env,p,h=>by
   have h':A5 e=false/\AZ es=true:=by
    rw [AZ,ul7,uh7] at h;exact ⟨by simpa using h.1,h.2⟩
   obtain ⟨h1,h2⟩:=AS (es:=es) (env:=env) (p:=p) h'.2;rw [AT h'.1];refine ⟨?_,?_⟩
   ·show (false || (backTo p (starEach es env)).any (·.1))=false;rw [h1];rfl
   ·show (!false && (backTo p (starEach es env)).all (λx=>!x.1))=true;rw [h2];rfl
variable {f:M (List D)}{p:Pos}{id:String}{R:List V->Hp->VK->Prop}
section
variable {X:Cx}{e a b:Expr}{es:List Expr}{pos:Pos}
theorem P3 {f:M D}{g:M (List D)}(ha:PE X e (RE X.K f))(hr:PA X es (RA X.K g))(hs:A5 e=false:=by rfl):PA X (e :: es) (RA X.K (Aa f g)):=R5 ha hr (AT hs)
theorem Lb {ps:List Str}{g:Fn}(F:FnOk X.prog X.w X.K X.mg X.base CX0 k fa fd ps (spF X.K g))(hr:Room k X.A)(hg:Gl X x)(hm:X.mg x=some (.ref fa))(hk:PySem.W.keepIn X.K (.ref fa)=true)(hb:Binds X.K fd ps [])
 (ha:PA X (e :: es) (RA X.K f)) (hdb:(x == ("__debug__" : Str))=false:=by decide) (h1:A5 e=false:=by rfl) (h2:AZ es=true:=by rfl) :
 PE X (.Call (.Name x p) (e :: es) [] pos) (RE X.K (Ae g f)):=R6 F hr hg hm hk hb ha hdb (AT h1) (AS h2).1
theorem Fi {h:List D->M D}(hc:BI X (.builtin id) R)(s:Dy X.K R h)(hg:Gl X x)(hm:X.mg x=none)(hv:bootBuiltins x=some (.builtin id))(ha:PA X (e :: es) (RA X.K f))(hn:x≠"__name__":=by decide)(hdb:(x == ("__debug__" : Str))=false:=by decide)
 (h1:A5 e=false:=by rfl) (h2:AZ es=true:=by rfl):PE X (.Call (.Name x p) (e :: es) [] pos) (RE X.K (fB f h)):=Yc hc s hg hm hv ha hn hdb (AT h1) (AS h2).1
theorem Rs {h:List D->M D}(hc:BI X (.type id) R)(s:Dy X.K R h)(hg:Gl X x)(hm:X.mg x=none)(hv:bootBuiltins x=some (.type id))(ha:PA X (e :: es) (RA X.K f))(hn:x≠"__name__":=by decide)(hdb:(x == ("__debug__" : Str))=false:=by decide)
 (h1:A5 e=false:=by rfl) (h2:AZ es=true:=by rfl):PE X (.Call (.Name x p) (e :: es) [] pos) (RE X.K (fB f h)):=Yd hc s hg hm hv ha hn hdb (AT h1) (AS h2).1
theorem WI {h:List D->M (List D)}(hc:BI X (.type id) R)(s:Kk X.K R h)(hg:Gl X x)(hm:X.mg x=none)(hv:bootBuiltins x=some (.type id))(ha:PA X (e :: es) (RA X.K f))(hn:x≠"__name__":=by decide)(hdb:(x == ("__debug__" : Str))=false:=by decide)
 (h1:A5 e=false:=by rfl) (h2:AZ es=true:=by rfl):PE X (.Call (.Name x p) (e :: es) [] pos) (RF X.K (fBF f h)):=Ye hc s hg hm hv ha hn hdb (AT h1) (AS h2).1
theorem Na (hg:Gl X "range")(hm:X.mg "range" = none)(ha:PA X [a] (RA X.K f))(h1:A5 a=false:=by rfl):PI X tg (.Call (.Name "range" p) [a] [] pos) (RI X.K (A3 f)):=Ou hg hm ha (AT h1)
theorem Nb (hg:Gl X "range")(hm:X.mg "range" = none)(ha:PA X [a,b] (RA X.K f))(h1:A5 a=false:=by rfl)(h2:A5 b=false:=by rfl):PI X tg (.Call (.Name "range" p) [a,b] [] pos) (RI X.K (Fh f)):=
 Ov hg hm ha (by rw [AT h1,AT h2];rfl) (AT h2)
theorem Os {cpos:Pos}(h1:A5 e=false)(h2:AZ es=true)(h3:es.length < 20):((backTo cpos (starEach (e :: es) X.env)).all (λx=>!x.1) && (backToKw cpos (keywordEach [] X.env)).all (λx=>x.1.isSome) && decide ((e :: es).length + ([]:List Keyword).length + (if ([]:List Keyword).isEmpty then 0 else 1) < 30))=true:=by
 rw [(AS (es:=e :: es) (env:=X.env) (p:=cpos) (by rw [AZ,ul7,h1];exact h2)).2];show (true && true && decide (es.length + 1 + 0 + 0 < 30))=true;simp;lia
theorem Nd {μ:Cf->Hp->D->(V->Hp->Prop)->Prop}(i:Nat){x:Str}{g:M (List D)}{px apos cpos:Pos}(ha:PA X (e :: es) (RA X.K g))(hN:X.N[i]?=some x:=by rfl)(hv:Vis X.env.scope x:=by first | exact Or.inl rfl | exact Or.inr (Or.inl rfl) | exact Or.inr (Or.inr rfl))(hd:(x == ("__debug__" : Str))=false:=by decide)
 (hcd:(x == ("__classdict__" : Str))=false:=by decide) (hline:(apos.endLine == cpos.line)=true:=by rfl) (h1:A5 e=false:=by rfl) (h2:AZ es=true:=by rfl) (h3:es.length < 20:=by decide) :
 PS X (.Expr (.Call (.Attribute (.Name x px) "append" apos) (e :: es) [] cpos) pos) (RSg X.K μ (ownM i EG g)):=Ow i ha hN hv hd hcd rfl (Os h1 h2 h3) hline (AT h1) (AS h2).1
theorem Nf {μ:Cf->Hp->D->(V->Hp->Prop)->Prop}(i:Nat){x:Str}{g:M (List D)}{px apos cpos:Pos}(ha:PA X (e :: es) (RA X.K g))(hN:X.N[i]?=some x:=by rfl)(hv:Vis X.env.scope x:=by first | exact Or.inl rfl | exact Or.inr (Or.inl rfl) | exact Or.inr (Or.inr rfl))(hd:(x == ("__debug__" : Str))=false:=by decide)
 (hcd:(x == ("__classdict__" : Str))=false:=by decide) (hline:(apos.endLine == cpos.line)=true:=by rfl) (h1:A5 e=false:=by rfl) (h2:AZ es=true:=by rfl) (h3:es.length < 20:=by decide) :
 PS X (.Expr (.Call (.Attribute (.Name x px) "extend" apos) (e :: es) [] cpos) pos) (RSg X.K μ (ownM i Fo g)):=Ox i ha hN hv hd hcd rfl (Os h1 h2 h3) hline (AT h1) (AS h2).1
end
end F2
namespace HT
open PySem PySem.Spec L2 PyProof.Rows
section
variable {prog:Program}{w:World}{A:Around}{E:Value->Shared->Prop}{s:Shared}
end
end HT
namespace L2
open PySem PySem.Spec PyProof.Rows
section
variable {X:Cx}{e ek:Expr}{p2 pos:Pos}{te:TE}{tk:TO}
end
section
variable {X:Cx}
theorem GJ:∀{ys:List Str} {us:List Value},Vals (ys.map V.str) us->CarriedAll us (ys.map PyData.str)
 | [],_,r=>by cases r;exact .nil
 | _ :: _,_,r=>by
   cases r with
   | cons r1 r2=>obtain ⟨t,rfl⟩:=r1;exact .cons (.str _ _) (GJ r2)
def RC (K:PySem.W.Frag):V->List V->Hp->VK->Prop:=λx xs H Q=>∃z a ys,x = .str z/\xs=[.ref a]/\SqL K H a (ys.map V.str)/\(∀y∈ys,y.length<=8)/\z.length<=8/\ys.length<=1048576/\Q (.str (Txt.join z ys)) H
theorem SH:MtR X "str.join" (RC X.K):=by
 intro pins s Z H x xs v us Q I rx rs h;obtain ⟨z,a,ys,rfl,rfl,ha,h1,h2,h3,q⟩:=h;obtain ⟨t,rfl⟩:=rx;obtain ⟨u,rfl,ru⟩:=Dm rs
 cases ru
 obtain ⟨its,r,pl,_⟩:=I.list ha;refine join_madeW (l:=ys) (g:=id) 8 pl.isList (by rw [List.map_id];exact GJ r) h1 h3 (by lia) λt' k=>?_;rw [List.map_id];exact ⟨.str _,H,I.tok _,⟨_,rfl⟩,q⟩
end
section
variable {X:Cx}
end
section
variable {X:Cx}
theorem Vg {ns:List Int}{M N:Int}(h1:M∈ns)(h2:∀a,a∈ns->a<=M)(h:ns.max?=some N):M=N:=by
 have:=List.max?_eq_some_iff.mp h;exact Int.le_antisymm (this.2 M h1) (h2 N this.1)
theorem Of (hc:X.calm=true):BI X (.builtin "max") (λxs H Q=>∃(a:Addr) (ns:List Int) (M:Int),xs=[.ref a]/\SqL X.K H a (ns.map V.int)/\ns.max?=some M/\Q (.int M) H):=by
 intro pins s Z H xs us Q I r h;obtain ⟨a,ns,N,rfl,ha,hN,q⟩:=h;obtain ⟨u,rfl,ru⟩:=Dm r
 cases ru
 obtain ⟨its,r',pl,_⟩:=I.list ha;have hi:IntsAre its ns:=Ng r';have hne:0 < ns.length:=List.length_pos_iff.mpr λe=>by subst e;cases hN
 have hl:=pl.isList;obtain ⟨xs,e⟩:=hi.allInts.items;have hns:ns=xs.toList.map (·.1):=by
  rw [<-hi.numsOf,<-nums_intItems,<-e]
 have hsz:0 < xs.size:=by
  have h3:=hne;rw [hns,uj7,ue2] at h3;exact h3
 rw [e] at hl;refine max_intList (I.ok.hd hc) hl hsz λv h' tk hv hk=>?_;obtain ⟨t,rfl⟩:=intItems_at hv;obtain ⟨h1,h2⟩:=argBest_gt (numAt xs) (xs.size - 1);have m1:numAt xs (argBest (λi j=>decide (numAt xs i > numAt xs j)) (xs.size - 1))∈ns:=by
  rw [hns,numAt_eq];exact getD_mem (by rw [uj7,ue2];lia)
 have m2:∀a,a∈ns->a<=numAt xs (argBest (λi j=>decide (numAt xs i > numAt xs j)) (xs.size - 1)):=λa ha=>by
  rw [hns] at ha;obtain ⟨j,hj,rfl⟩:=mem_getD ha;rw [uj7,ue2] at hj;rw [<-numAt_eq];exact h2 j (by lia)
 have em:=Vg m1 m2 hN;refine ⟨.int N,H,I.kept hk,⟨t,?_⟩,q⟩;rw [<-em]
end
end L2
namespace F2
open PySem L2 PySem.Spec
section
variable {X:Cx}{K:PySem.W.Frag}
noncomputable def E6:List D->Option (List Str)
 | []=>some []
 | .str x :: r=>if x.length<=8 then (E6 r).map (x :: ·) else none
 | _=>none
def joinM (f:M D)(g:M (List D)):M D:=bnd f λo=>bnd g λas=>match o,as with
 | .str z,[.lst ds]=>λt=>match E6 ds with
   | some ys=>if z.length<=8/\ys.length<=1048576 then some (.str (Txt.join z ys),t) else none
   | none=>none
 | _,_=>fail
theorem L3 {c:Cf}{H:Hp}:∀{ds:List D} {vs:List V} {ys:List Str},Reps K c H vs ds->E6 ds=some ys->vs=ys.map V.str/\∀y∈ys,y.length<=8
 | [],_,ys,r,e=>by
   cases r
   cases e
   exact ⟨rfl,λ_ h=>nomatch h⟩
 | d :: ds,_,ys,r,e=>by
   cases r with
   | cons r1 r2=>
     cases r1 with
     | str x=>
       unfold E6 at e
       split at e
       ·next hx=>
        obtain ⟨zs,e1,rfl⟩:=uc1.mp e;obtain ⟨h1,h2⟩:=L3 r2 e1;refine ⟨by rw [h1];rfl,λy hy=>?_⟩;rcases ul5.mp hy with rfl | hy
        ·exact hx
        ·exact h2 y hy
       ·cases e
     | _=>cases e
theorem RE.joinM {f:M D}{g:M (List D)}{Z:L2.St}{H:Hp}{Q:VK}(q:RE K (F2.joinM f g) Z H Q):tBM K "str" (RC K) (RE K f) (RA K g) Z H Q:=by
 obtain ⟨Oo,c,t,fi,r,t',eq,k⟩:=q;obtain ⟨d,t1,e1,eq⟩:=Ai eq;obtain ⟨as,t2,e2,eq⟩:=Ai eq;refine ⟨Oo,c,t,fi,d,t1,e1,λv H1 c1 f1 s1 rv=>?_⟩
 split at eq
 ·next z ds=>
  cases rv
  refine ⟨rfl,Oo,c1,t1,f1,_,t2,e2,λus H2 c2 f2 s2 rus=>?_⟩;obtain ⟨w,rfl,rw'⟩:=Dk rus
  split at eq
  ·next ys ey=>
   split at eq
   ·next hz=>
    cases eq
    cases rw' with
    | @lst p vs ds h1 h2 h3=>
      obtain ⟨h4,h5⟩:=L3 h3 ey;subst h4;exact ⟨_,p,ys,rfl,rfl,SqL.of h1,h5,hz.1,hz.2,k _ _ c2 f2 (s1.trans s2) (.str _)⟩
   ·cases eq
  ·cases eq
 ·cases eq
theorem R7 {o e:Expr}{es:List Expr}{f:M D}{g:M (List D)}{apos cpos:Pos}(ho:PE X o (RE X.K f))(ha:PA X (e :: es) (RA X.K g))
 (hbase:attributeBase o "join" X.env (eval o X.env)=eval o X.env:=by rfl)
 (hfew:((backTo cpos (starEach (e :: es) X.env)).all (λx=>!x.1) && (backToKw cpos (keywordEach [] X.env)).all (λx=>x.1.isSome) && decide ((e :: es).length + ([]:List Keyword).length + (if ([]:List Keyword).isEmpty then 0 else 1) < 30))=true:=by rfl)
 (hline:(apos.endLine == cpos.line)=true:=by rfl) (hs:starEach (e :: es) X.env=(false,eval e X.env) :: starEach es X.env:=by rfl) (hplain:(backTo cpos (starEach es X.env)).any (·.1)=false:=by rfl) :
 PE X (.Call (.Attribute o "join" apos) (e :: es) [] cpos) (RE X.K (joinM f g)):=
 AL (Nx PySem.F.plainAttrs_str PySem.F.slot_str_join PySem.F.type_str_join SH ho ha hbase hfew hline hs hplain) λ_ _ _ q=>RE.joinM q
def CN:List D->Option (List Int)
 | []=>some []
 | .int i :: r=>(CN r).map (i :: ·)
 | _=>none
def Fk:List D->M D
 | [.lst ds]=>λt=>match CN ds with
   | some ns=>match ns.max? with
     | some m=>some (.int m,t)
     | none=>none
   | none=>none
 | _=>fail
theorem HY {c:Cf}{H:Hp}:∀{ds:List D} {vs:List V} {ns:List Int},Reps K c H vs ds->CN ds=some ns->vs=ns.map V.int
 | [],_,ns,r,e=>by
   cases r
   cases e
   rfl
 | d :: ds,_,ns,r,e=>by
   cases r with
   | cons r1 r2=>
     cases r1 with
     | int i=>
       obtain ⟨zs,e1,rfl⟩:=uc1.mp e;rw [HY r2 e1];rfl
     | _=>cases e
theorem QU:Dy K (λxs H Q=>∃(a:Addr) (ns:List Int) (M:Int),xs=[.ref a]/\SqL K H a (ns.map V.int)/\ns.max?=some M/\Q (.int M) H) Fk:=λ{Oo c t Z H xs ds r t' Q} f rx eq k=>by
 unfold Fk at eq
 split at eq
 ·next ds=>
  obtain ⟨v,rfl,rv⟩:=Dk rx
  split at eq
  ·next ns en=>
   split at eq
   ·next m em=>
    cases eq
    cases rv with
    | @lst p vs ds h1 h2 h3=>
      have h4:=HY h3 en;subst h4;exact ⟨p,ns,m,rfl,SqL.of h1,em,k _ H c f .refl (.int _)⟩
   ·cases eq
  ·cases eq
 ·cases eq
end
end F2
namespace L2
open PySem PySem.Spec PyProof.Rows
section
variable {X:Cx}
end
end L2
namespace F2
open PySem L2 PySem.Spec
noncomputable def WS (kvs:List (Key×D))(k:Key):Option D:=(kvs.find? λkv=>decide (kv.1=k)).map (·.2)
def FN (i:Nat)(g:M D):M D:=λt=>match t.env[i]? with
 | some (some (.own _))=>bnd g (λj t1=>match j,t1.env[i]? with
   | .int j,some (some (.own xs))=>(atI xs j).map λd=>(d,t1)
   | _,_=>none) t
 | _=>none
section
variable {K:PySem.W.Frag}{c:Cf}{H:Hp}
end
section
variable {X:Cx}{pos:Pos}{e:Expr}
theorem P6 (i:Nat){x:Str}{ix:Expr}{g:M D}{px:Pos}(hi:PE X ix (RE X.K g))(hs:He ix)(hN:X.N[i]?=some x:=by rfl)(hv:Vis X.env.scope x:=by first | exact Or.inl rfl | exact Or.inr (Or.inl rfl) | exact Or.inr (Or.inr rfl))(hd:(x == ("__debug__" : Str))=false:=by decide)
 (hcd:(x == ("__classdict__" : Str))=false:=by decide):PE X (.Subscript (.Name x px) ix pos) (RE X.K (FN i g)):=
 AL (Ny ix_list (C8 hN hv hd hcd) hi hs) λZ H Q z9=>by
  obtain ⟨Oo,c,t,fi,r,t',eq,k⟩:=z9;unfold FN at eq
  split at eq
  ·next xs0 e0=>
   obtain ⟨j,t1,e1,eq⟩:=Ai eq;obtain ⟨a,vs0,h1,h2,h3,h4,h5⟩:=fi.own i xs0 e0;refine ⟨.ref a,h1,Oo,c,t,fi,j,t1,e1,λy H1 c1 f1 s1 ry=>?_⟩
   split at eq
   ·next j' xs ex=>
    obtain ⟨d,en,ez⟩:=uc1.mp eq
    cases ez
    cases ry
    obtain ⟨a',vs,g1,g2,g3,g4,g5⟩:=f1.own i xs ex;rw [h1] at g1;injection g1 with g1;injection g1 with g1;injection g1 with g1;subst g1
    obtain ⟨v,e3,e4⟩:=F7 g5 en;exact ⟨a,vs,j',v,rfl,rfl,SqL.of g4,e3,k _ H1 c1 f1 s1 e4⟩
   ·cases eq
  ·cases eq
end
end F2
namespace L2
open PySem PySem.Spec PyProof.Rows
section
variable {X:Cx}
end
end L2
namespace F2
open PySem L2 PySem.Spec
section
variable {X:Cx}{pos:Pos}{e:Expr}{es:List Expr}
end
end F2
namespace L2
open PySem PySem.Spec PyProof.Rows
section
variable {prog:Program}{w:World}{A:Around}{I:Addr}{fp wr:List Addr}{G:Array GenState->Array GenState->Prop}{n:Nat}{P:Nat->Value->Prop}{St:Nat->Shared->Prop}
end
section
variable {X:Cx}
end
end L2
namespace F2
open PySem L2 PySem.Spec PyProof.Rows
section
variable {X:Cx}{pos:Pos}{e:Expr}
end
end F2
namespace F2
open PySem L2 PySem.Spec
noncomputable def CP (f:M Bool)(b:M Out):Nat->M Out
 | 0=>λ_=>none
 | n + 1=>λt=>match f t with
   | none=>none
   | some (false,t1)=>some (.next,t1)
   | some (true,t1)=>match b t1 with
     | some (.next,t2)=>CP f b n t2
     | some (.cont,t2)=>CP f b n t2
     | some (.brk,t2)=>some (.next,t2)
     | some (.ret x,t2)=>some (.ret x,t2)
     | none=>none
def Kl:Nat:=1000000
def L8 (f:M Bool)(b:M Out):M Out:=CP f b Kl
theorem RS.while {μ:Cf->Hp->D->(V->Hp->Prop)->Prop}{K:PySem.W.Frag}{f:M Bool}{b:M Out}{E:Ends}{Z:L2.St}{H:Hp}(q:RSg K μ (L8 f b) E Z H):Po (RT K f) (RSg K μ b) E Z H:=by
 obtain ⟨Oo,c,t,fi,o,t',eq,k⟩:=q;refine ⟨λm Z' H'=>∃c' t2,FInv K Oo c' t2 Z' H'/\Stp Oo c H c' H'/\CP f b m t2=some (o,t'),⟨Kl,c,t,fi,.refl,eq⟩,?_⟩;rintro m Z' H' ⟨c',t2,f2,s2,e2⟩
 cases m with
 | zero=>cases e2
 | succ m=>
 rw [CP] at e2;dsimp only at e2
 cases ef:f t2 with
 | none=>rw [ef] at e2;cases e2
 | some p=>
 obtain ⟨r,t3⟩:=p;rw [ef] at e2;refine ⟨Oo,c',t2,f2,r,t3,ef,λH3 c3 f3 s3=>?_⟩
 cases r with
 | false=>
   cases e2
   exact k Z' H3 c3 f3 (s2.trans s3)
 | true=>
   rw [if_pos rfl];dsimp only at e2;refine ⟨λZ4 H4=>∃c4 t4,FInv K Oo c4 t4 Z4 H4/\Stp Oo c H c4 H4/\CP f b m t4=some (o,t'),λZ4 H4 h=>⟨m,uh9 m,h⟩,?_⟩
   cases eb:b t3 with
   | none=>rw [eb] at e2;cases e2
   | some p=>
   obtain ⟨ob,t4⟩:=p;rw [eb] at e2;refine ⟨Oo,c3,t3,f3,ob,t4,eb,λZ4 H4 c4 f4 s4=>?_⟩
   cases ob with
   | next=>exact ⟨c4,t4,f4,(s2.trans s3).trans s4,e2⟩
   | cont=>exact ⟨c4,t4,f4,(s2.trans s3).trans s4,e2⟩
   | brk=>
     cases e2
     exact k Z4 H4 c4 f4 ((s2.trans s3).trans s4)
   | ret x=>
     cases e2
     exact k Z4 H4 c4 f4 ((s2.trans s3).trans s4)
section
variable {X:Cx}{pos:Pos}
theorem Qc {μ:Cf->Hp->D->(V->Hp->Prop)->Prop}{e:Expr}{body:List Stmt}{f:M Bool}{b:M Out}(hp:PassesOwn (model X.prog X.w) X.A X.env X.xe)(hc:PT X e (RT X.K f))(hb:PSs X body (RSg X.K μ b)):PS X (.While e body [] pos) (RSg X.K μ (L8 f b)):=
 Bo (QG hp hc hb) λ_ _ _ q=>RS.while q
end
end F2
namespace L2
open PySem PySem.Spec PyProof.Rows
theorem HH (ns:List Int):∀n:Nat,n<=ns.length->preSum (λi=>ns.getD i 0) n=(ns.take n).sum
 | 0,_=>by simp [preSum]
 | n + 1,h=>by
   rw [preSum,HH ns n (by lia),List.take_succ,ub2 (by lia),List.sum_append];simp [ua6,ub2 (show n < ns.length by lia)]
theorem Oi {X:Cx}(hc:X.calm=true):BI X (.builtin "sum") (λxs H Q=>∃(p:Addr) (ns:List Int),xs=[.ref p]/\SqL X.K H p (ns.map V.int)/\Q (.int ns.sum) H):=by
 intro pins s Z H xs us Q I r h;obtain ⟨p,ns,rfl,hq,q⟩:=h;obtain ⟨u,rfl,rx⟩:=Dm r
 cases rx
 obtain ⟨its,rv,pl,hz⟩:=I.list hq;have hl:=rv.length;rw [uj7] at hl;have hlist:=pl.isList;have lp:p < s.heap.objs.size:=by obtain ⟨o,ho,_⟩:=hlist;exact um3 ho
 refine call_sum_walkAnyS (wpAny_pyIter_list hlist ?_);refine ⟨s.heap.objs.size,_,_,_,_,_,_,λi=>ns.getD i 0,rfl,(Walks.list (by simp [I.ok.hd hc]) s.heap.objs.size p (um4 lp) its.toArray).toS,⟨⟨_,ue3 _ rfl,rfl,rfl⟩,hlist.push _⟩,?_,?_,?_⟩
 ·intro b hb;simp only [ul5,ui2,or_false] at hb;show b < (s.heap.push _).objs.size;rw [Heap.size_push];rcases hb with rfl | rfl
  ·exact uh9 _
  ·exact ug7 lp
 ·intro i v e;have e':its[i]?=some v:=by simpa using e
  obtain ⟨hi,_⟩:=ua8.mp e';have hy:(ns.map V.int)[i]?=some (.int (ns.getD i 0)):=by
   rw [ug3,ua6,ub2 (by lia)];rfl
  obtain ⟨w',ew,rw'⟩:=rv.get hy;rw [e'] at ew;cases ew
  exact rw'
 ·intro s' t' mv;obtain ⟨h',g',d',tk',os'⟩:=s';obtain rfl:g'=s.gens:=mv.gens;obtain rfl:d'=s.drawn:=mv.drawn;obtain rfl:os'=s.os:=mv.os;have e:preSum (λi=>ns.getD i 0) its.toArray.size=ns.sum:=by
   rw [HH ns _ (by simp;lia),uc2 (by simp;lia)]
  refine ⟨.int ns.sum,H,I.kept (t':=tk') λb o e=>?_,⟨t',by rw [e]⟩,q⟩;have lb:=um3 e;exact mv.heap b o (by simp only [ul5,ui2,or_false];exact um4 lb) (ub8 _ e)
end L2
namespace F2
open PySem L2 PySem.Spec
def Ih:List D->M D
 | [.lst ds]=>λt=>match CN ds with
   | some ns=>some (.int ns.sum,t)
   | none=>none
 | _=>fail
theorem QX {K:PySem.W.Frag}:Dy K (λxs H Q=>∃(p:Addr) (ns:List Int),xs=[.ref p]/\SqL K H p (ns.map V.int)/\Q (.int ns.sum) H) Ih:=λ{Oo c t Z H xs ds r t' Q} f rx eq k=>by
 unfold Ih at eq
 split at eq
 ·next es=>
  split at eq
  ·next ns e=>
   cases eq
   obtain ⟨v,rfl,rv⟩:=Dk rx
   cases rv with
   | @lst a ws es g1 g2 g3=>
   have:=HY g3 e;subst this;exact ⟨a,ns,rfl,SqL.of g1,k _ H c f .refl (.int _)⟩
  ·cases eq
 ·cases eq
end F2
namespace L2
open PySem PySem.Spec PyProof.Rows
section
variable {X:Cx}{tg:Expr}
end
end L2
namespace F2
open PySem L2 PySem.Spec
section
variable {X:Cx}{pos:Pos}{e:Expr}{es:List Expr}
end
noncomputable def Ed (H:Hp)(a:Addr):Hp:=λb=>if b=a then none else H b
theorem Qv {H:Hp}{a:Addr}{o:HO}(h:H a=some o):upd (Ed H a) a o=H:=by
 funext b
 by_cases e:b=a
 ·subst e;rw [Au];exact h.symm
 ·rw [Am e];unfold Ed;rw [if_neg e]
section
variable {K:PySem.W.Frag}{Oo:Addr->Prop}{c:Cf}{t:T}{Z:L2.St}{H:Hp}
theorem FInv.out (f:FInv K Oo c t Z H){i:Nat}{ds:List D}(e:t.env[i]?=some (some (.own ds))){a:Addr}(ha:Z[i]?=some (some (.ref a))) :
 FInv K Oo ⟨c.ι,λb=>c.O b/\b≠a⟩ { t with env:=t.env.set i none } Z (Ed H a)/\Stp Oo c H ⟨c.ι,λb=>c.O b/\b≠a⟩ (Ed H a):=by
 obtain ⟨a',vs,g1,g2,g3,g4,g5⟩:=f.own i ds e;rw [ha] at g1;injection g1 with g1;injection g1 with g1;injection g1 with g1;subst g1
 have ni:a∉c.ι:=f.s.dis a g2;have ext:Ext c H ⟨c.ι,λb=>c.O b/\b≠a⟩ (Ed H a):=by
  refine ⟨λb o hb hn=>?_,λb o hb z=>?_,λk b h=>h⟩
  ·unfold Ed;rw [if_neg λz=>hn (by rw [z];exact .inr g2)];exact hb
  ·rcases z with z | z
   ·exact .inl z
   ·exact .inr z.1
 have stp:Stp Oo c H ⟨c.ι,λb=>c.O b/\b≠a⟩ (Ed H a):=⟨ext,λb hb=>by unfold Ed;rw [if_neg λz=>g3 (by rw [<-z];exact hb)]⟩;have old:∀{j:Nat} {x:Sl},(t.env.set i none)[j]?=some (some x)->j≠i/\t.env[j]?=some (some x):=λ{j x} q=>by
  by_cases h:j=i
  ·subst h;rw [ug8] at q
   split at q
   ·split at q <;> simp at q
   ·contradiction
  ·exact ⟨h,by rw [ud6 (Ne.symm h)] at q;exact q⟩
 refine ⟨⟨⟨f.s.len,f.s.nd,λk b o e1 e2=>?_,λb hb=>?_,λb hb=>f.s.dis b hb.1⟩,by simpa using f.len,λb hb=>⟨f.sub b hb,λz=>g3 (by rw [<-z];exact hb)⟩,λj d q=>?_,λj es q=>?_,λj k es fs b q1 q2 q3 q4=>?_⟩,stp⟩
 ·refine (f.s.obs k b o e1 e2).mono ext ?_;unfold Ed;rw [if_neg λz=>ni (by rw [<-z];exact ud7 e1)]
 ·obtain ⟨o,ho⟩:=f.s.trk b hb.1;exact ⟨o,by unfold Ed;rw [if_neg hb.2];exact ho⟩
 ·obtain ⟨v,h1,h2⟩:=f.val j d (old q).2;exact ⟨v,h1,h2.mono ext⟩
 ·obtain ⟨nj,q'⟩:=old q;obtain ⟨b,us,k1,k2,k3,k4,k5⟩:=f.own j es q';have nb:b≠a:=λz=>nj (f.inj j i es ds a q' e (by rw [k1,z]) ha);exact ⟨b,us,k1,⟨k2,nb⟩,k3,by unfold Ed;rw [if_neg nb];exact k4,k5.mono ext⟩
 ·exact f.inj j k es fs b (old q1).2 (old q2).2 q3 q4
end
noncomputable def FX (i:Nat):M Out:=λt=>match t.env[i]? with
 | some (some (.own xs))=>some (.ret (.lst xs),{ t with env:=t.env.set i none })
 | _=>none
def Gx (f:M (List D)):M Out:=bnd f λds=>ret (.ret (.lst ds))
variable {g:Fn}{k:Nat}{fa:Addr}{fd:FuncData}
section
variable {X:Cx}{pos:Pos}{e:Expr}{es:List Expr}
theorem Ms {f:M (List D)}(h:PE X e (RF X.K f)):PS X (.Return (some e) pos) (RSg X.K (μF X.K) (Gx f)):=
 Bo (G6 h) λE Z H z9=>by
  obtain ⟨Oo,c,t,fi,o,t',eq,k⟩:=z9;obtain ⟨ds,t1,e1,eq⟩:=Ai eq
  cases eq
  exact ⟨Oo,c,t,fi,ds,_,e1,λp us H1 c1 f1 s1 ru hp=>k Z H1 c1 f1 s1 p us hp ru⟩
theorem OB (i:Nat){x:Str}{px:Pos}(hN:X.N[i]?=some x:=by rfl)(hv:Vis X.env.scope x:=by first | exact Or.inl rfl | exact Or.inr (Or.inl rfl) | exact Or.inr (Or.inr rfl))(hd:(x == ("__debug__" : Str))=false:=by decide)
 (hcd:(x == ("__classdict__" : Str))=false:=by decide):PS X (.Return (some (.Name x px)) pos) (RSg X.K (μF X.K) (FX i)):=
 Bo (G6 (C8 hN hv hd hcd)) λE Z H z9=>by
  obtain ⟨Oo,c,t,fi,o,t',eq,k⟩:=z9;unfold FX at eq
  split at eq
  ·next xs ex=>
   cases eq
   obtain ⟨a,vs,h1,h2,h3,h4,h5⟩:=fi.own i xs ex;refine ⟨.ref a,h1,?_⟩;obtain ⟨f2,s2⟩:=fi.out ex h1;have:=k Z (Ed H a) _ f2 s2 a vs (by unfold Ed;rw [if_pos rfl]) (h5.mono s2.ext);rw [Qv h4] at this;exact this
  ·cases eq
def JG (K:PySem.W.Frag)(f:Fn):Sp:=λvs H Q _=>∃c ds S,SInv K c S H/\Reps K c H vs ds/\∃rs S',f ds S=some (.lst rs,S')/\
 ∀p us H' c',SInv K c' S' H'->Stp c.O c H c' H'->(∀b,c'.O b↔c.O b)->Reps K c' H' us rs->H' p=none->Q (.ref p) (upd H' p (.lst us))
def CM (g:Fn)(f:M (List D)):M (List D):=bnd f λds t=>match g ds t.S with
 | some (.lst rs,S')=>some (rs,{ t with S:=S' })
 | _=>none
theorem M5 {ds:List D}{t:T}{rs:List D}{t':T}(h:(match g ds t.S with | some (.lst rs,S')=>some (rs,{ t with S:=S' }) | _=>none:Option (List D×T))=some (rs,t')):∃S',g ds t.S=some (.lst rs,S')/\t' = { t with S:=S' }:=by
 split at h
 ·next rs' S' e=>cases h;exact ⟨S',e,rfl⟩
 ·cases h
theorem P9 {ps:List Str}{f:M (List D)}{x:Str}{p:Pos}(F:FnOk X.prog X.w X.K X.mg X.base CX0 k fa fd ps (JG X.K g))(hr:Room k X.A)(hg:Gl X x)(hm:X.mg x=some (.ref fa))(hk:PySem.W.keepIn X.K (.ref fa)=true)(hb:Binds X.K fd ps [])
 (ha:PA X (e :: es) (RA X.K f)) (hdb:(x == ("__debug__" : Str))=false:=by decide) (h1:A5 e=false:=by rfl) (h2:AZ es=true:=by rfl) :
 PE X (.Call (.Name x p) (e :: es) [] pos) (RF X.K (CM g f)):=
 AL (ME F hr hg hm hk hb .nil Nw ha hdb (AT h1) (AS h2).1) λZ H Q z9=>by
  obtain ⟨Oo,c,t,fi,rs,t',eq,kk⟩:=z9;obtain ⟨ds,t1,e1,eq⟩:=Ai eq;obtain ⟨S',e2,rfl⟩:=M5 eq;refine ⟨Oo,c,t,fi,ds,t1,e1,λvs H1 c1 f1 s1 rvs=>?_⟩;show JG X.K g (vs++[]) H1 Q E0;rw [uj4];refine ⟨c1,ds,t1.S,f1.s,rvs,rs,S',e2,λp us H' c' si st ho ru hp=>?_⟩;obtain ⟨f2,s2⟩:=f1.after si st ho;exact kk p us H' c' f2 (s1.trans s2) ru hp
end
theorem Sg {P:Program}{w:World}{K:PySem.W.Frag}{mg:Str->Option Value}{base:Heap}{x qual:Str}{st:Stmt}{N ps:List Str}{n m:Nat}{g:M Out}(e1:ps.length=n)(e2:N.length=m)(F:Fun K x qual st fa fd)(S:FnScope N ps (Ay st))
 (hb:∀(cdv:Value) (A:Around) (outer:List Env) (s:Shared) (H:Hp) (E:XK),Room k (A.deeper (PyProof.Rows.envOfC qual (Ay st) s.heap.objs.size fa cdv))->
   PSs (D3 CX0 P w K mg base N qual (Ay st) fa cdv A outer s H E).nox (By st) (RSg K (μF K) g)):FnOk P w K mg base CX0 (k + 1) fa fd ps (JG K (fnOf n m g)):=by
 subst e1 e2;have hlen:∀{ds:List D} {S:List Ob} {z:D×List Ob},fnOf ps.length N.length g ds S=some z->ds.length=ps.length:=λ{ds S z} h=>by
  unfold fnOf at h
  split at h
  ·next h1=>exact h1
  ·cases h
 refine F.ok S (λvs H Q E h=>?_) (λcdv A outer s H vs Q E hr h=>?_)
 ·obtain ⟨c,ds,S,si,rs,r,S',e,_⟩:=h;rw [rs.length];exact hlen e
 obtain ⟨c,ds,S0,si,rs,r,S',e,kk⟩:=h;refine ⟨RSg K (μF K) g,hb cdv A outer s H E hr,?_⟩;have hl:=hlen e;unfold fnOf at e;rw [if_pos hl] at e
 cases eg:g ⟨env0 N.length ds,S0⟩ with
 | none=>rw [eg] at e;cases e
 | some p=>
   obtain ⟨o,t⟩:=p;rw [eg] at e;refine ⟨c.O,c,_,Gh si rs,o,t,eg,λZ' H' c' f' s'=>?_⟩;obtain ⟨si',ext'⟩:=f'.leave;have st':Stp c.O c H ⟨c'.ι,c.O⟩ H':=⟨s'.ext.trans ext',s'.oo⟩
   cases o with
   | next=>cases e
   | ret d=>
     cases e
     exact λp us hp ru=>kk p us H' _ si' st' (λ_=>Iff.rfl) (ru.mono ext') hp
   | brk=>cases e
   | cont=>cases e
theorem Tx {P:Program}{w:World}{K:PySem.W.Frag}{mg:Str->Option Value}{base:Heap}{ps:List Str}{f:Fn}(e:f=g)(h:FnOk P w K mg base CX0 k fa fd ps (JG K g)):FnOk P w K mg base CX0 k fa fd ps (JG K f):=by rw [e];exact h
end F2
namespace L2
open PySem PySem.Spec PyProof.Rows
section
variable {X:Cx}
theorem SY {o:Expr}{to:TE}{apos cpos:Pos}(ho:PE X o to)(hbase:attributeBase o "bit_length" X.env (eval o X.env)=eval o X.env:=by rfl)(hline:(apos.endLine == cpos.line)=true:=by rfl) :
 PE X (.Call (.Attribute o "bit_length" apos) [] [] cpos) (λZ H Q=>to Z H λv H1=>∃i,v = .int i/\Q (.int (Builtin.Int.intBits i:Nat)) H1):=by
 intro pins s Z H Q I h;refine Call_method0 hbase hline (thn (ho pins s Z H _ I h) λu s1 z9=>?_);obtain ⟨v,H1,I1,rv,i,ex,q⟩:=z9;subst ex;obtain ⟨t,rfl⟩:=rv;exact ⟨"int", "int.bit_length",PySem.F.plainAttrs_int,ua3,PySem.F.type_int_bit_length,typeIs_int _ _ _,(λ_ e=>nomatch e),
  method0_gives ua3 PySem.F.entry_int_bit_length (typeIs_int _ _ _) (PySem.F.args_int_bit_length_1 _) (PySem.AutoIntG2.int_bit_length_int_0 i t) ⟨.int (Builtin.Int.intBits i:Nat),H1,I1.tok _,⟨_,rfl⟩,q⟩⟩
end
end L2
namespace F2
open PySem L2 PySem.Spec
def Iz:D->M D
 | .int i=>ret (.int (Builtin.Int.intBits i:Nat))
 | _=>fail
section
variable {X:Cx}{pos:Pos}{e:Expr}{es:List Expr}
theorem Op {o:Expr}{f:M D}{apos cpos:Pos}(ho:PE X o (RE X.K f))(hbase:attributeBase o "bit_length" X.env (eval o X.env)=eval o X.env:=by rfl)(hline:(apos.endLine == cpos.line)=true:=by rfl) :
 PE X (.Call (.Attribute o "bit_length" apos) [] [] cpos) (RE X.K (fUn f Iz)):=
 AL (SY ho hbase hline) λZ H Q z9=>by
  obtain ⟨Oo,c,t,fi,r,t',eq,k⟩:=z9;obtain ⟨d,t1,e1,eq⟩:=Ai eq;refine ⟨Oo,c,t,fi,d,t1,e1,λx H1 c1 f1 s1 rx=>?_⟩;unfold Iz at eq
  split at eq
  ·next i=>
   cases eq
   cases rx
   exact ⟨i,rfl,k _ H1 c1 f1 s1 (.int _)⟩
  ·cases eq
end
section
variable {X:Cx}{b elt:Expr}{pos:Pos}
end
end F2
namespace L2
open PySem PySem.Spec PyProof.Rows
end L2
namespace F2
open PySem L2 PySem.Spec
structure ItOk2 (K:PySem.W.Frag)(J:It)(c:Cf)(H:Hp)(ds:List D):Prop where
 go:∀c' H' (i:Nat),Ext c H c' H'->i < ds.length->J.go i H'
 yld:∀c' H' (i:Nat) x H'' d,Ext c H c' H'->ds[i]?=some d->J.yld i H' x H''->∃p vs es,x = .ref p/\H' p=none/\H''=upd H' p (.tup vs)/\d = .tup es/\Reps K c' H' vs es
 stop:∀c' H',Ext c H c' H'->J.stop ds.length H'
section
variable {X:Cx}{pos:Pos}{e:Expr}
end
end F2
namespace L2
open PySem PySem.Spec PyProof.Rows
section
variable {X:Cx}
end
end L2
namespace F2
open PySem L2 PySem.Spec
section
variable {X:Cx}{pos:Pos}{e:Expr}{es:List Expr}
end
end F2
namespace L2
open PySem PySem.Spec PyProof.Rows
section
variable {X:Cx}{e ek:Expr}{p2 pos:Pos}{te:TE}{tk:TO}
end
end L2
namespace F2
open PySem L2 PySem.Spec
section
variable {X:Cx}
end
end F2
namespace L2
open PySem PySem.Spec PyProof.Rows
section
variable {X:Cx}
theorem O3 {x:Str}{fa:Addr}{p:Pos}(hg:Gl X x)(hm:X.mg x=some (.ref fa))(hd:(x == ("__debug__" : Str))=false:=by decide):PE X (.Name x p) (λZ H Q=>Q (.ref fa) H):=
 λpins s Z H Q I h=>EC I hg hm ⟨.ref fa,H,I,rfl,h⟩ hd
theorem Qx {CX:CXT}{k1 k2:Nat}{f1 f2:Addr}{fd1 fd2:FuncData}{ps1 ps2:List Str}{sp1 sp2:Sp}{E:XK}{ef e:Expr}{es:List Expr}{te:TE}{t:TA}{pos:Pos}
 (F1:FnOk X.prog X.w X.K X.mg X.base CX k1 f1 fd1 ps1 sp1) (hr1:Room k1 X.A) (hk1:PySem.W.keepIn X.K (.ref f1)=true) (hb1:Binds X.K fd1 ps1 [])
 (F2:FnOk X.prog X.w X.K X.mg X.base CX k2 f2 fd2 ps2 sp2) (hr2:Room k2 X.A) (hk2:PySem.W.keepIn X.K (.ref f2)=true) (hb2:Binds X.K fd2 ps2 []) (hx:Iu CX X E)
 (hf:PE X ef te) (ha:PA X (e :: es) t) (he:starEach (e :: es) X.env=(false,eval e X.env) :: starEach es X.env) (hpl:(backTo pos (starEach es X.env)).any (·.1)=false)
 (hc:eval (ef.Call (e :: es) [] pos) X.env=(do
   let f <-eval ef X.env
   callWith pos f [] (backTo pos (starEach (e :: es) X.env)) (backToKw pos (keywordEach [] X.env)))) :
 PE X (.Call ef (e :: es) [] pos) (λZ H Q=>te Z H λv H1=>(v = .ref f1/\Kt sp1 [] E t Z H1 Q)\/(v = .ref f2/\Kt sp2 [] E t Z H1 Q)):=by
 intro pins s Z H Q I h;refine Call_ (thn (hf pins s Z H _ I h) λfv s1 z9=>?_) hc;obtain ⟨v,H1,I1,r1,q⟩:=z9;rcases q with ⟨rfl,q⟩ | ⟨rfl,q⟩
 ·cases r1
  refine uf5 (h₀:=X.base) I1.ok.mod.kin hk1 (thn (ha pos pins s1 Z H1 _ I1 q) λus s2 z9=>?_) he hpl;obtain ⟨vs,H2,I2,r,q2⟩:=z9;refine ⟨I2.kIn,?_⟩;exact LR F1 hr1 hb1 .nil hx I2 r q2
 ·cases r1
  refine uf5 (h₀:=X.base) I1.ok.mod.kin hk2 (thn (ha pos pins s1 Z H1 _ I1 q) λus s2 z9=>?_) he hpl;obtain ⟨vs,H2,I2,r,q2⟩:=z9;refine ⟨I2.kIn,?_⟩;exact LR F2 hr2 hb2 .nil hx I2 r q2
theorem Oc (hc:X.calm=true):BI X (.builtin "all") (λxs H Q=>∃(p:Addr) (bs:List Bool),xs=[.ref p]/\SqL X.K H p (bs.map V.bl)/\Q (.bl (bs.all id)) H):=by
 intro pins s Z H xs us Q I r h;obtain ⟨p,bs,rfl,hq,q⟩:=h;obtain ⟨u,rfl,rx⟩:=Dm r
 cases rx
 obtain ⟨its,rv,pl,hz⟩:=I.list hq;have hl:=rv.length;rw [uj7] at hl;have hlist:=pl.isList;have lp:p < s.heap.objs.size:=by obtain ⟨o,ho,_⟩:=hlist;exact um3 ho
 refine call_all_walkS (wpAny_pyIter_list hlist ?_);refine ⟨s.heap.objs.size,_,_,_,_,_,_,λi=>bs.getD i true,rfl,(Walks.list (by simp [I.ok.hd hc]) s.heap.objs.size p (um4 lp) its.toArray).toS,⟨⟨_,ue3 _ rfl,rfl,rfl⟩,hlist.push _⟩,?_,?_⟩
 ·intro i v s2 Q2 E2 e hQ;have e':its[i]?=some v:=by simpa using e
  obtain ⟨hi,_⟩:=ua8.mp e';have hy:(bs.map V.bl)[i]?=some (.bl (bs.getD i true)):=by
   rw [ug3,ua6,ub2 (by lia)];rfl
  obtain ⟨w',ew,rw'⟩:=rv.get hy;rw [e'] at ew;cases ew
  cases rw'
  exact wpAny_truthy_bool hQ
 ·intro s' mv;obtain ⟨h',g',d',tk',os'⟩:=s';obtain rfl:g'=s.gens:=mv.gens;obtain rfl:d'=s.drawn:=mv.drawn;obtain rfl:os'=s.os:=mv.os;have e:(List.range its.toArray.size).all (λi=>bs.getD i true)=bs.all id:=by
   rw [ug2,<-hl];clear q hq rv hl hz;rw [Bool.eq_iff_iff,ui1,ui1];constructor
   ·intro h b hb;obtain ⟨i,hi,rfl⟩:=List.mem_iff_getElem.mp hb;have:=h i (uk8.mpr hi);rw [ua6,ub2 hi] at this;exact this
   ·intro h i hi;rw [uk8] at hi;rw [ua6,ub2 hi];exact h _ (ui3 hi)
  refine ⟨.bl (bs.all id),H,I.kept (t':=tk') λb o e=>?_,by rw [e];rfl,q⟩;have lb:=um3 e;exact mv.heap b o (by simp only [ul5,ui2,or_false];exact um4 lb) (ub8 _ e)
end
end L2
namespace F2
open PySem L2 PySem.Spec
def F8:List D->Option (List Bool)
 | []=>some []
 | .bl b :: r=>(F8 r).map (b :: ·)
 | _=>none
theorem Mm {K:PySem.W.Frag}{c:Cf}{H:Hp}:∀{ds:List D} {vs:List V} {bs:List Bool},Reps K c H vs ds->F8 ds=some bs->vs=bs.map V.bl
 | [],_,bs,r,e=>by cases r;cases e;rfl
 | d :: ds,_,bs,r,e=>by
   cases r with
   | cons r1 r2=>
     cases r1 with
     | bl b=>
       rw [F8] at e;obtain ⟨bs',e1,rfl⟩:=uc1.mp e;rw [ul6,Mm r2 e1]
     | _=>cases e
def Jf:List D->M D
 | [.lst ds]=>λt=>match F8 ds with
   | some bs=>some (.bl (bs.all id),t)
   | none=>none
 | _=>fail
theorem QR {K:PySem.W.Frag}:Dy K (λxs H Q=>∃(p:Addr) (bs:List Bool),xs=[.ref p]/\SqL K H p (bs.map V.bl)/\Q (.bl (bs.all id)) H) Jf:=λ{Oo c t Z H xs ds r t' Q} f rx eq k=>by
 unfold Jf at eq
 split at eq
 ·next es=>
  split at eq
  ·next bs e=>
   cases eq
   obtain ⟨v,rfl,rv⟩:=Dk rx
   cases rv with
   | @lst a ws es g1 g2 g3=>
   have:=Mm g3 e;subst this;exact ⟨a,bs,rfl,SqL.of g1,k _ H c f .refl (.bl _)⟩
  ·cases eq
 ·cases eq
theorem UB:bootBuiltins "all" = some (.builtin "all"):=by decide +kernel
def GN (c1 c2:Fn)(fi:M D)(fa:M (List D)):M D:=bnd fi λi=>match i with
 | .int 0=>Ae c1 fa
 | .int 1=>Ae c2 fa
 | _=>fail
section
variable {X:Cx}{pos:Pos}
theorem P7 {k1 k2:Nat}{f1 f2:Addr}{fd1 fd2:FuncData}{ps1 ps2:List Str}{g1 g2:Fn}{x1 x2:Str}{p1 p2 lp sp:Pos}{ei e:Expr}{es:List Expr}{fi:M D}{fa:M (List D)}
 (Fa:FnOk X.prog X.w X.K X.mg X.base CX0 k1 f1 fd1 ps1 (spF X.K g1)) (hr1:Room k1 X.A) (hg1:Gl X x1) (hm1:X.mg x1=some (.ref f1)) (hk1:PySem.W.keepIn X.K (.ref f1)=true) (hb1:Binds X.K fd1 ps1 [])
 (Fb:FnOk X.prog X.w X.K X.mg X.base CX0 k2 f2 fd2 ps2 (spF X.K g2)) (hr2:Room k2 X.A) (hg2:Gl X x2) (hm2:X.mg x2=some (.ref f2)) (hk2:PySem.W.keepIn X.K (.ref f2)=true) (hb2:Binds X.K fd2 ps2 [])
 (hi:PE X ei (RE X.K fi)) (hpi:He ei) (ha:PA X (e :: es) (RA X.K fa)) (hd1:(x1 == ("__debug__" : Str))=false:=by decide) (hd2:(x2 == ("__debug__" : Str))=false:=by decide) (h1:A5 e=false:=by rfl) (h2:AZ es=true:=by rfl)
 (hc:eval (Expr.Call (.Subscript (.List [.Name x1 p1,.Name x2 p2] lp) ei sp) (e :: es) [] pos) X.env=(do
   let f <-eval (.Subscript (.List [.Name x1 p1,.Name x2 p2] lp) ei sp) X.env
   callWith pos f [] (backTo pos (starEach (e :: es) X.env)) (backToKw pos (keywordEach [] X.env))):=by rfl) :
 PE X (.Call (.Subscript (.List [.Name x1 p1,.Name x2 p2] lp) ei sp) (e :: es) [] pos) (RE X.K (GN g1 g2 fi fa)):=
 AL (Qx Fa hr1 hk1 hb1 Fb hr2 hk2 hb2 Nw (Ny ix_list (O4 (FS (O3 hg1 hm1 hd1) (FS (O3 hg2 hm2 hd2) IT (AT rfl)) (AT rfl))) hi hpi) ha (AT h1) (AS h2).1 hc) λZ H Q z9=>by
  obtain ⟨Oo,c,t,fin,r,t',eq,kk⟩:=z9;obtain ⟨di,t1,e1,eq⟩:=Ai eq;refine ⟨by show 2<=sizeLine;decide,λp hp=>?_⟩;have f1':=fin.laid (o:=.lst [.ref f1,.ref f2]) hp;have s1':=fin.stp_laid (o:=.lst [.ref f1,.ref f2]) hp;refine ⟨Oo,c,t,f1',di,t1,e1,λv H2 c2 fi2 s2 rv=>?_⟩;have hkeep:H2 p=some (.lst [.ref f1,.ref f2]):=s2.ext.keep _ _ Au (fin.s.free hp);have fin2:∀(gx:Fn) (fx:Addr) (E0':Ae gx fa t1=some (r,t')),Kt (spF X.K gx) [] E0 (RA X.K fa) Z H2 Q:=λgx fx E0'=>by
   obtain ⟨ds,t2,e2,eq2⟩:=Ai E0';obtain ⟨S',e3,rfl⟩:=GI eq2;refine ⟨Oo,c2,t1,fi2,ds,t2,e2,λvs H3 c3 f3 s3 rvs=>?_⟩;show spF X.K gx (vs++[]) H3 Q E0;rw [uj4];refine ⟨c3,ds,t2.S,f3.s,rvs,r,S',e3,λv H' c' si st ho rv=>?_⟩;obtain ⟨f4,s4⟩:=f3.after si st ho;exact kk v H' c' f4 (((s1'.trans s2).trans s3).trans s4) rv
  split at eq
  ·cases rv
   exact ⟨p,_,0,.ref f1,rfl,rfl,SqL.of hkeep,rfl,.inl ⟨rfl,fin2 g1 f1 eq⟩⟩
  ·cases rv
   exact ⟨p,_,1,.ref f2,rfl,rfl,SqL.of hkeep,rfl,.inr ⟨rfl,fin2 g2 f2 eq⟩⟩
  ·cases eq
end
end F2
namespace L2
open PySem PySem.Spec PyProof.Rows
theorem Ki {x y:Int}(h0:0 < y)(h1:y < 18446744073709551616):Builtin.divisionGoesByPylong x y=false:=by
 unfold Builtin.divisionGoesByPylong;have hl:y.natAbs.log2 < 64:=(Nat.log2_lt (by lia)).mpr (by show y.natAbs < 2 ^ 64;lia);have e:(y == 0)=false:=by rw [beq_eq_false_iff_ne];lia
 simp only [e,uf7,if_false];rw [ud3];left;rw [decide_eq_false_iff_not];lia
def Rk (i j:Int):Prop:=0 < j/\j < 18446744073709551616
section
variable {X:Cx}
theorem JT {i:Int}(h:i.natAbs < 2 ^ 512):Builtin.Int.intBits i<=2 ^ 20:=by
 unfold Builtin.Int.intBits
 split
 ·exact uo5 _
 ·next z=>
  have hz:i.natAbs≠0:=by
   intro e;have:i=0:=by lia
   subst this;exact z rfl
  have:=(Nat.log2_lt hz).mpr h;lia
def Rl (i j:Int):Prop:=i.natAbs < 2 ^ 512/\j.natAbs < 2 ^ 512
theorem SV:OpR X (binaryOp .Mult) (rI Rl λi j=>.int (i * j)):=opI λ_ _ _ _ _ _ _ hc q=>mul_int q (IntMulOk.of_bits (JT hc.1) (JT hc.2))
theorem Qt:OpR X (binaryOp .FloorDiv) (rI Rk λi j=>.int (i / j)):=opI λi j _ _ _ _ _ hc q=>by
 have h1:(0:Int) < j:=hc.1;exact floordiv_int (by lia) (by rw [ua4 i (by lia)];exact q) (.inl (Ki hc.1 hc.2))
end
end L2
namespace F2
open PySem L2 PySem.Spec
noncomputable def K9 (i j:Int):Bool:=decide (0 < j) && decide (j < 18446744073709551616)
def Hi:=i2C K9 λi j=>.int (i / j)
theorem Pk {K:PySem.W.Frag}:A9 K (rI Rk λi j=>.int (i / j)) Hi:=ED (λi j h=>by
 unfold K9 at h;rw [uh7,uh2,uh2] at h;exact h) λ_ _ _ _=>.int _
noncomputable def Lv (i j:Int):Bool:=decide (i.natAbs < 2 ^ 512) && decide (j.natAbs < 2 ^ 512)
def FA:=i2C Lv λi j=>.int (i * j)
theorem QW {K:PySem.W.Frag}:A9 K (rI Rl λi j=>.int (i * j)) FA:=ED (λi j h=>by
 unfold Lv at h;rw [uh7] at h;exact ⟨uh3 h.1,uh3 h.2⟩) λ_ _ _ _=>.int _
end F2
namespace L2
open PySem PySem.Spec PyProof.Rows
section
variable {P:Program}{w:World}{A:Around}{E:Value->Shared->Prop}{s:Shared}
structure ZT (h:Heap)(z TI TO i1 i2 t1 t2:Addr)(n:Nat):Prop where
 zz:IsZip h z TI TO .none
 ti:IsPair h TI (.ref i1) (.ref i2)
 ot:∃a b,IsPair h TO a b
 p1:h.IsTupleIter i1 t1 n
 p2:h.IsTupleIter i2 t2 n
end
section
variable {P:Program}{w:World}{A:Around}{E:Value->Shared->Prop}{s:Shared}
end
def Itz (K:PySem.W.Frag)(a b:Addr):It:=
 ⟨λi H=>∃xs ys x y,SqT K H a xs/\SqT K H b ys/\xs[i]?=some x/\ys[i]?=some y,λi H v H'=>∃p x y,v = .ref p/\H p=none/\(∀xs,SqT K H a xs->xs[i]?=some x)/\(∀ys,SqT K H b ys->ys[i]?=some y)/\H'=upd H p (.tup [x,y]),λi H=>∃xs ys,SqT K H a xs/\SqT K H b ys/\(xs.length<=i\/ys.length<=i)⟩
end L2
namespace F2
open PySem L2 PySem.Spec
noncomputable def Ze:List D->List D->List D
 | x :: xs,y :: ys=>.tup [x,y] :: Ze xs ys
 | _,_=>[]
section
variable {X:Cx}{e a b tg iter elt:Expr}{ifs:List Expr}{pos:Pos}{scope:Scope}{N':List Str}{n:Nat}{fr:List Nat}{f:M (List D)}{st:D->M Unit}{tst:M Bool}{el:M D}
def EA (i:Nat):M D:=λt=>match t.env[i]? with
 | some (some (.own xs))=>some (.int xs.length,t)
 | _=>none
theorem Oq (i:Nat){x:Str}{p px:Pos}(hg:Gl X "len")(hm:X.mg "len" = none)(hv:bootBuiltins "len" = some (.builtin "len"))(hN:X.N[i]?=some x:=by rfl)(hvi:Vis X.env.scope x:=by first | exact Or.inl rfl | exact Or.inr (Or.inl rfl) | exact Or.inr (Or.inr rfl))(hd:(x == ("__debug__" : Str))=false:=by decide)
 (hcd:(x == ("__classdict__" : Str))=false:=by decide):PE X (.Call (.Name "len" p) [.Name x px] [] pos) (RE X.K (EA i)):=
 AL (LB K0 hg hm hv (FS (C8 hN hvi hd hcd) IT (AT (e:=.Name x px) rfl)) (by decide) (by decide) (AT (e:=.Name x px) rfl) (AS (es:=[]) (by simp [AZ])).1) λZ H Q z9=>by
  obtain ⟨Oo,c,t,fi,r,t',eq,k⟩:=z9;unfold EA at eq
  split at eq
  ·next xs0 e0=>
   cases eq
   obtain ⟨a,vs0,q1,q2,q3,q4,q5⟩:=fi.own i xs0 e0;refine ⟨.ref a,q1,?_⟩;refine ⟨a,vs0,rfl,.inl (SqL.of q4),?_⟩;have h:=k (.int xs0.length) H c fi .refl (.int _);rw [<-q5.length] at h;exact h
  ·cases eq
end
end F2
namespace L2
open PySem PySem.Spec PyProof.Rows
section
variable {X:Cx}
end
section
variable {X:Cx}
end
section
variable {X:Cx}
end
end L2
namespace F2
open PySem L2 PySem.Spec
section
variable {X:Cx}{pos:Pos}{e:Expr}{es:List Expr}
end
end F2
namespace L2
open PySem PySem.Spec PyProof.Rows
section
variable {X:Cx}
end
end L2
namespace F2
open PySem L2 PySem.Spec
noncomputable def Ni:List (Key×D)->Option (List Int)
 | []=>some []
 | (.inl k,_) :: r=>(Ni r).map (k :: ·)
 | _=>none
section
variable {K:PySem.W.Frag}{c:Cf}{H:Hp}
end
section
variable {X:Cx}{pos:Pos}{e b:Expr}
end
end F2
namespace L2
open PySem PySem.Spec PyProof.Rows
noncomputable def tb (led:Bool)(pl:List Nat):SetTable:={ mask:=7,place:=pl.toArray,dummies:=#[],finger:=0,led:=led,moves:=0,plain:=true }
noncomputable def pls:Nat->List (List Nat)
 | 0=>[[]]
 | k + 1=>(pls k).flatMap λl=>(List.range 8).filterMap λj=>if l.all (· < j) then some (l++[j]) else none
section
variable {P:Program}{w:World}{A:Around}{E:Value->Shared->Prop}{s:Shared}
end
section
variable {P:Program}{w:World}{A:Around}{I:Addr}{fp wr:List Addr}{G:Array GenState->Array GenState->Prop}{n:Nat}{Pr:Nat->Value->Prop}{St:Nat->Shared->Prop}
end
section
variable {P:Program}{w:World}{A:Around}{E:Value->Shared->Prop}{s:Shared}
end
section
variable {prog:Program}{w:World}{A:Around}
end
section
variable {X:Cx}
end
end L2
namespace F2
open PySem L2 PySem.Spec PyProof.Rows
section
variable {X:Cx}{pos:Pos}{e:Expr}
end
end F2
namespace F2
open PySem L2 PySem.Spec
section
variable {X:Cx}{elt:Expr}{pos:Pos}{e:Expr}{es:List Expr}
end
end F2
namespace L2
open PySem PySem.Spec PyProof.Rows
section
variable {X:Cx}{pins:List (Addr×Obj)}{Z:St}{H:Hp}{s:Shared}{a:Addr}{kvs:List (Key×V)}{o:Obj}
end
section
variable {X:Cx}
end
section
variable {X:Cx}
end
end L2
namespace F2
open PySem L2 PySem.Spec SeqAt
def NU (K:PySem.W.Frag)(H:Hp)(v w:V):Prop:=∃c dv dw,Rep K c H v dv/\Rep K c H w dw/\eqN EQD dv dw=some true
def Up (K:PySem.W.Frag)(H:Hp)(v w:V):Prop:=NU K H v w\/∃a b us ts,v = .ref a/\w = .ref b/\H a=some (.dK us)/\H b=some (.dK ts)/\us.length=ts.length/\(∀kv∈us,∃n:Int,kv.1=Sum.inl n)/\(∀kv∈ts,∃n:Int,kv.1=Sum.inl n)/\∀kv∈us,∃z,Q8 ts kv.1=some z/\NU K H kv.2 z
def ZB (K:PySem.W.Frag)(b:Bool):R2:=λx y H Q=>∃p q vs ws,x = .ref p/\y = .ref q/\H p=some (.lst vs)/\H q=some (.lst ws)/\vs.length=ws.length/\(∀(j:Nat) v w,vs[j]?=some v->ws[j]?=some w->Up K H v w)/\Q (.bl b) H
def KI (S:List Ob)(x y:D):Bool:=CW (E4 S x) && CW (E4 S y) && decide (eqN EQD (E4 S x) (E4 S y)=some true)
def Zl (S:List Ob)(x y:D):Bool:=match x,y with
 | .obj m,.obj n=>match S[m]?,S[n]? with
   | some (.dct kvs),some (.dct lvs)=>kvs.length == lvs.length && (Ni kvs).isSome && (Ni lvs).isSome && kvs.all (λkv=>match WS lvs kv.1 with | some e=>KI S kv.2 e | none=>false)
   | _,_=>KI S x y
 | _,_=>KI S x y
end F2
namespace F2
open PySem L2 PySem.Spec
section
variable {X:Cx}{pos:Pos}
end
end F2
namespace L2
open PySem PySem.Spec PyProof.Rows
structure ZL (h:Heap)(z TI TO i1 i2 t1 t2:Addr)(n:Nat):Prop where
 zz:IsZip h z TI TO .none
 ti:IsPair h TI (.ref i1) (.ref i2)
 ot:∃a b,IsPair h TO a b
 p1:h.IsListIter i1 t1 n
 p2:h.IsListIter i2 t2 n
end L2
namespace F2
open PySem L2 PySem.Spec
section
variable {X:Cx}{a b:Expr}{pos:Pos}
end
end F2
namespace L2
open PySem PySem.Spec PyProof.Rows PySem.W
section
variable {prog:Program}{w:World}{A:Around}{h:Heap}{g:Array GenState}{d:Drawn}{t:Nat}{os:OsState}{R:Result->Shared->Prop}
variable {nm q:Str}{C N fI:Addr}{bs bm bmB:List Value}{hdct:Bool}{sn:List Str}{sub:List Value}{ab:Bool}{col:Option Bool}{dd:Option Addr}{k0 k1 k2 k3 k5:Option Value}{B newId initId:String}{mN:Str->Option Value}
abbrev excObj (C tp:Addr):Obj:={ cls:=.ref C,data:=.fields #[.ref tp,.none,.none,.none,.bool false,.none] }
abbrev DY (h:Heap)(C:Addr)(us:List Value):Heap:=(h.push { cls:=.type "tuple",data:=.seq us.toArray }).push (excObj C h.objs.size)
theorem Qp (F:ExcBaseFacts B newId initId bmB)(T:OwnTail h bmB bm){us:List Value}(hC:h.get? C=some (excClassObj nm q C N bs bm hdct sn sub ab col dd k0 k1 k2 k3 k5 newId))(hn:h.Ns N mN)(hni:mN "__init__" = some (.ref fI))
 (hb:Looks (model prog w) h (bindSpecial (.ref fI) (.ref (h.objs.size + 1))) (.ref fI,[.ref (h.objs.size + 1)])) (hus:us.length<=sizeLine)
 (hq:codeAny (model prog w) (A.under (.builtin "type.__call__" ⟨.ref C :: us,[]⟩)) (.call (.ref fI) ⟨.ref (h.objs.size + 1) :: us,[]⟩) (InitBack (h.objs.size + 1) R) ⟨DY h C us,g,d,t,os⟩) :
 codeAny (model prog w) A (.call (.ref C) ⟨us,[]⟩) R ⟨h,g,d,t,os⟩:=by
 have c1:=tc_lookup;have c2:=tc_bind (.ref C);have ty:(⟨h,g,d,t,os⟩:Shared).TypeIs (.ref C) "type":=⟨_,hC,rfl⟩;refine codeAny_of_tree ?_;show wpAny _ _ (callAny (.ref C) _) _ _ _
 repeat (any_goals (first
  | assumption
  | with_reducible refine wpAny_loadPart_at hC ?_
  | wp_step))
 refine ⟨rfl,codeAny_call_builtin_at (Code.quiet_builtin _ (by decide +kernel)) entry_typeCall (wpAny_check_type_call_sub hC ?_)⟩
 repeat (first
  | with_reducible refine wpAny_loadPart_at hC ?_
  | with_reducible refine wpAny_madeBy_exc hC ?_
  | wp_step)
 refine codeAny_call_builtin_code (Code.quiet_builtin _ F.quiet) (wpAny_check_new_subT F T hC (codeAny_exc_new_subT F T hC ?_ hus))
 change wpAny _ _ _ _ _ (Shared.mk (DY h C us) g d t os)
 have kp:∀b o,h.get? b=some o->(DY h C us).get? b=some o:=λb o e=>ub8 _ (ub8 _ e);have he:(DY h C us).get? (h.objs.size + 1)=some { cls:=.ref C,data:=.fields #[.ref h.objs.size,.none,.none,.none,.bool false,.none] }:=by heap_get
 have n1:(DY h C us).Ns N mN:=hn.keeps kp;have cC:(Value.ref C :: bm).contains (.ref C)=true:=by simp
 unfold isInstance
 repeat (first
  | with_reducible refine wpAny_loadPart_at he ?_
  | (with_reducible refine wpAny_isSubtype_exc (kp _ _ hC) ?_;rw [cC])
  | wp_step)
 show wpAny _ _ (typeLookup (.ref C) _) _ _ _;refine wpAny_typeLookup_tail (kp _ _ hC) n1 (T.keeps kp) F.mroIs F.init.lookup ?_;rw [hni];refine um2 (uo7 ((hb.keeps kp).at ?_));refine uo7 (wpAny_call (codeAny_mono hq λr s' z=>?_))
 cases r with
 | error e=>exact z
 | ok f=>
   cases f with
   | ret v=>
     obtain ⟨rfl,z⟩:=z;exact uo8 (uo8 z)
   | _=>exact z.elim
end
end L2
namespace L2
open PySem PySem.Spec PyProof.Rows PySem.W PySem.Builtin PySem.Builtin.ObjectAttr
theorem Pi (self:Value):refuseLoop self "__setattr__" [.type "ValueError",.type "Exception",.type "BaseException",.type "object"]=pure ():=by
 kernel_rfl
abbrev Fg (C P:Addr):List Value:=[.ref C,.ref P,.type "ValueError",.type "Exception",.type "BaseException",.type "object"]
theorem IV (self:Value)(C P:Addr):refuseLoop self "__setattr__" (Fg C P)=pure ():=by
 rw [Fg,refuseLoop_ref,refuseLoop_ref];exact Pi self
section
variable {prog:Program}{w:World}{A:Around}{s:Shared}{K:PySem.W.Frag}{x C P tp:Addr}{R:Result->Shared->Prop}{name:Str}{v:Value}{tk:Tok}{cd:ClassData}
theorem SW (X:K.In s.heap)(hx:s.heap.get? x=some (excObj C tp))(hc:clsIn K C=some cd)(hmr:cd.mro=Fg C P)(ha:findIn K (.ref C) name=some none)
 (h:wpAny (model prog w) A.in1 (storeInOwnDict (.ref x) (.ref C) (.str name tk) name v false) (λfin s'=>match fin with | .done f=>R (.ok f) s' | .again c'=>c'.quiet=true/\codeAny (model prog w) A c' R s') (λe s'=>R (.error e) s') s) :
 codeAny (model prog w) A (.call (.builtin "object.__setattr__") ⟨[.ref x,.str name tk,v],[]⟩) R s:=by
 have SF:=PySem.F.store_object;have I:InstAt s.heap x (excObj C tp) C none:=⟨hx,rfl,rfl,trivial⟩;have ob:Looks (model prog w) s.heap (isInstance (.ref x) (.type "object")) true:=I.type.andThen (looks_mroIn X (by unfold mroIn;rw [hc,Option.bind_some,hmr];rfl));refine codeAny_call_builtin SF.slot.plain SF.entry (@check_slot (model prog w) _ _ s "object.__setattr__" "object" "__setattr__" (.ref x) [.str name tk,v] [] _ SF.kind SF.split ob (SF.args (.ref x) (.str name tk) v) ?_);have mr:Looks (model prog w) s.heap (mroOf (.ref C)) (Fg C P):=by rw [<-hmr];exact (looks_clsIn X hc).andThen .now
 rw [osa_eq,refuse_eq];refine uo7 (uo7 (I.type.here (uo7 (mr.here ?_))));rw [IV];refine uo8 (uo7 (I.type.here (uo7 ((looks_findIn X ha).here ?_))));exact uo7 (uo8 h)
theorem T1 {E:Value->Shared->Prop}{Q:Unit->Shared->Prop}(X:K.In s.heap)(hx:s.heap.get? x=some (excObj C tp))(hs:findIn K (.ref C) "__setattr__" = some (some (.builtin "object.__setattr__")))(hc:clsIn K C=some cd)(hmr:cd.mro=Fg C P)(hd:cd.hasDict=true)(ha:findIn K (.ref C) name=some none)
 (h:∀h',(∀b o,b≠x->s.heap.get? b=some o->h'.get? b=some o)->h'.get? x=some { excObj C tp with dict:=some s.heap.objs.size }->h'.Ns1 s.heap.objs.size (λy=>if y=name then some v else none)->Q () { s with heap:=h',toks:=s.toks + 2 }) :
 wpAny (model prog w) A (setAttr (.ref x) name v) Q E s:=by
 have I:InstAt s.heap x (excObj C tp) C none:=⟨hx,rfl,rfl,trivial⟩;refine set_plain X I hs (SW (s:={ s with toks:=s.toks + 1 }) X hx hc hmr ha ?_);refine uo7 (uo8 (uo7 (uo7 (wpAny_loadPart (s:={ s with toks:=s.toks + 1 }) hx (uo7 (Looks.here (s:={ s with toks:=s.toks + 1 }) (looks_clsIn X hc) ?_))))));rw [hd,if_neg (by decide)];show wpAny _ _ (alloc _ >>= λdx=>update x _ >>= λ_=>pure (some dx)) _ _ _;have hx1:(s.heap.push emptyDict).get? x=some (excObj C tp):=ub8 _ hx;have hne:s.heap.objs.size≠x:=um7 (um3 hx);refine uo7 (wpAny_alloc (s:={ s with toks:=s.toks + 1 }) (uo7 (wpAny_update hx1 (uo8 ?_))));have hx2:((s.heap.push emptyDict).update x λo=>{ o with dict:=some s.heap.objs.size }).get? x=some { excObj C tp with dict:=some s.heap.objs.size }:=ud1 _ hx1 rfl;have hk:∀b o,b≠x->s.heap.get? b=some o->((s.heap.push emptyDict).update x λo=>{ o with dict:=some s.heap.objs.size }).get? b=some o:=λb o hb e=>(uc0 _ _ (Ne.symm hb)).trans (ub8 _ e);have hdx:((s.heap.push emptyDict).update x λo=>{ o with dict:=some s.heap.objs.size }).get? s.heap.objs.size=some emptyDict:=(uc0 _ _ (Ne.symm hne)).trans (ue3 _ rfl);have n1:((s.heap.push emptyDict).update x λo=>{ o with dict:=some s.heap.objs.size }).Ns1 s.heap.objs.size λ_=>none:=⟨_,#[],_,hdx,rfl,(λe he=>by simp at he),(by simp [UniqKeys]),λ_=>rfl⟩;refine uo7 (uo8 (uo7 ?_));refine wpAny_nsSet1 n1 λh' n2 sb=>?_;obtain ⟨oD,esD,epD,hoD,hdD,hcD⟩:=n2.count (PySem.Within.cons name v (ns:=[]) (λy u=>absurd rfl u));refine uo7 (wpAny_lookBehind hoD (by rw [hdD];exact pastItsLine_dict (um5 hcD (by show 1<=_;decide))) ?_);exact uo8 (h h' (λb o hb e=>by
  by_cases hb2:b=s.heap.objs.size
  ·subst hb2;exact absurd (um3 e) (ul4 _)
  ·exact (sb.2 b hb2).trans (hk b o hb e)) ((sb.2 x (Ne.symm hne)).trans hx2) n2)
end
end L2
namespace L2
open PySem PySem.Spec PyProof.Rows PySem.W
variable {qx:Bool}
def XRec (qx:Bool)(h:Heap)(x C:Addr)(dx:Option Addr)(tb:Value):Prop:=∃(o:Obj) (vs:Array Value),h.get? x=some o/\o.cls = .ref C/\o.dict=dx/\o.data = .fields vs/\vs[1]?=some tb/\(qx=true->vs[2]?=some .none/\4 < vs.size)
theorem UI {qx:Bool}{vs:Array Value}{v:Value}(h:qx=true->vs[2]?=some .none/\4 < vs.size):qx=true->(vs.setIfInBounds 1 v)[2]?=some .none/\4 < (vs.setIfInBounds 1 v).size:=λz=>by
 rw [Array.getElem?_setIfInBounds_ne (by decide),Array.size_setIfInBounds];exact h z
theorem XRec.to {qx:Bool}{h:Heap}{x C:Addr}{dx:Option Addr}{tb:Value}(r:XRec true h x C dx tb):XRec qx h x C dx tb:=by
 obtain ⟨o,vs,h1,h2,h3,h4,h5,h6⟩:=r;exact ⟨o,vs,h1,h2,h3,h4,h5,λ_=>h6 rfl⟩
def XTb (h:Heap)(T:Addr):Prop:=∃(o:Obj) (ts:Array Value),h.get? T=some o/\o.data = .fields ts/\ts[3]?=some .none
structure XKeep (fs ch:List Addr)(h h':Heap):Prop where
 keep:∀b o,b∉ch->b∉fs->h.get? b=some o->h'.get? b=some o
 slot:∀b o,b∉ch->h.get? b=some o->∃sl,h'.get? b=some { o with slots:=sl }
section
variable {M:Model}{A:Around}{E:Value->Shared->Prop}{s:Shared}{env:Env}{outer:List Env}{base:Heap}{L x C:Addr}{dx:Option Addr}{tb:Value}{Q:Unit->Shared->Prop}
theorem Ls {o:Obj}{vs:Array Value}(hd:o.data = .fields vs)(f:Array Value->Array Value):(o.mapFields f).data = .fields (f vs)/\(o.mapFields f).cls=o.cls/\(o.mapFields f).dict=o.dict:=by
 obtain ⟨c,d,dt,sl⟩:=o
 cases hd
 exact ⟨rfl,rfl,rfl⟩
end
end L2
namespace L2
open PySem PySem.Spec PyProof.Rows PySem.W
variable {qx:Bool}
abbrev VE:List Value:=[.type "ValueError",.type "Exception",.type "BaseException",.type "object"]
structure XCl (K:PySem.W.Frag)(C:Addr)(bm:List Value):Prop where
 ex:∃cd dd k0 k1 k2 k3 k5,K.lookup C=some { cls:=.type "type",dict:=dd,data:=.cls cd,slots:=#[k0,k1,k2,k3,some (.builtin "ValueError.__new__"),k5] }/\cd.mro = .ref C :: bm/\cd.hasDel=false/\cd.hasDict=true/\nsOkIn K cd.ns=true
 tl:tailIn K VE bm=true
noncomputable def Ku (K:PySem.W.Frag)(C:Addr)(bm:List Value):Bool:=tailIn K VE bm && match K.lookup C with
 | some ⟨.type "type",_,.cls cd,sl⟩=>(match sl.toList with
   | [_,_,_,_,some (.builtin n),_]=>n == "ValueError.__new__" && cd.mro == .ref C :: bm && !cd.hasDel && cd.hasDict && nsOkIn K cd.ns
   | _=>false)
 | _=>false
variable {K:PySem.W.Frag}{C:Addr}{bm:List Value}
theorem XCl.of_in (q:Ku K C bm=true):XCl K C bm:=by
 unfold Ku at q;rw [uh7] at q;refine ⟨?_,q.1⟩;have q:=q.2
 split at q
 ·rename_i dd cd sl ho
  split at q
  ·rename_i k0 k1 k2 k3 n k5 hs;simp only [uh7,beq_iff_eq,ug9] at q;obtain ⟨⟨⟨⟨rfl,h1⟩,h2⟩,h3⟩,h4⟩:=q;have hsl:sl=#[k0,k1,k2,k3,some (.builtin "ValueError.__new__"),k5]:=by
    cases sl
    exact congrArg Array.mk hs
   exact ⟨cd,dd,k0,k1,k2,k3,k5,by rw [ho,hsl],h1,h2,h3,h4⟩
  ·cases q
 ·cases q
theorem XCl.obj {K:PySem.W.Frag}{C:Addr}{bm:List Value}{h:Heap}(c:XCl K C bm)(X:K.In h):∃nm q N bs sn sub ab col dd k0 k1 k2 k3 k5,h.get? C=some (excClassObj nm q C N bs bm true sn sub ab col dd k0 k1 k2 k3 k5 "ValueError.__new__")/\h.Ns N (h.nsMap N):=by
 obtain ⟨⟨nm,bs,mro,ns,qn,hd,sn,sub,ab,col,del⟩,dd,k0,k1,k2,k3,k5,h1,h2,h3,h4,h5⟩:=c.ex;dsimp only at h2 h3 h4 h5;subst h2 h3 h4;exact ⟨nm,qn,ns,bs,sn,sub,ab,col,dd,k0,k1,k2,k3,k5,X _ _ h1,.of_isNs (isNs_of_in X h5)⟩
variable {h:Heap}
theorem XCl.tail (c:XCl K C bm)(X:K.In h):OwnTail h VE bm:=tail_of_in X c.tl
theorem XCl.has (c:XCl K C bm)(X:K.In h):(Value.ref C :: bm).contains (.type "BaseException")=true:=by
 rw [List.contains_cons,(c.tail X).hasType (b:=true) (by decide +kernel),Bool.or_true]
section
variable {M:Model}{A:Around}{E:Value->Shared->Prop}{env:Env}{K:PySem.W.Frag}{C:Addr}{bm:List Value}{s:Shared}
theorem QO {t:Sem Value}{Q:Flow->Shared->Prop}(c:XCl K C bm)(hh:A.handled=none)
 (h:wpAny M A t (λv s1=>∃x dx,v = .ref x/\K.In s1.heap/\XRec qx s1.heap x C dx .none/\E v s1) E s):wpAny M A (raiseStmt env (some t) none) Q E s:=by
 unfold raiseStmt;refine uo7 (uo9 h (λv s1 q=>?_) λ_ _ z=>z);obtain ⟨x,dx,rfl,X,⟨o,vs,hx,hc,hd,hdt,h1,_⟩,hE⟩:=q;obtain ⟨nm,q,N,bs,sn,sub,ab,col,dd,k0,k1,k2,k3,k5,hC,_⟩:=c.obj X;have hb:=c.has X;obtain ⟨hp,g,d,tk,os⟩:=s1
 repeat (first
  | (with_reducible refine wpAny_loadPart_at hx ?_;rw [hc])
  | with_reducible refine wpAny_loadPart_at hC ?_
  | (with_reducible refine wpAny_isSubtype_exc hC ?_;rw [hb])
  | with_reducible refine uo6 hx hdt h1 ?_
  | wp_step)
 exact wpAny_raiseNew_none hh hE
end
def CX1 (qx:Bool)(P:Program)(w:World):CXT:=λouter H s E e s'=>∃(x C:Addr) (dx:Option Addr) (T:Addr) (H':Hp),e = .ref x/\s'.os=s.os/\AllBare s'.gens/\Un (frs outer) [] H H' s.heap s'.heap/\HOk P w H' s'.heap/\
 H' x=some (.ext (F2.XIs qx x C dx))/\s.heap.objs.size<=x/\s.heap.objs.size<=T/\T≠x/\H' T=none/\XRec qx s'.heap x C dx (.ref T)/\XTb s'.heap T/\E (.ref x) dx H'
variable {x:Addr}{dx:Option Addr}
theorem XRec.is {tb:Value}(r:XRec qx h x C dx tb):F2.XIs qx x C dx h:=by
 obtain ⟨o,vs,h1,h2,h3,h4,_,h5⟩:=r;exact ⟨o,vs,h1,h2,h3,h4,h5⟩
theorem XIs.stay {h1 h2:Heap}(r:F2.XIs qx x C dx h1)(k:∀o,h1.get? x=some o->h2.get? x=some o):F2.XIs qx x C dx h2:=by
 obtain ⟨o,vs,e,q⟩:=r;exact ⟨o,vs,k o e,q⟩
theorem La {P:Program}{w:World}{H:Hp}(r:F2.XIs qx x C dx h):ObjOk P w H h x (.ext (F2.XIs qx x C dx)):=
 ⟨r,let ⟨o,_,e,_⟩:=r;⟨o,e⟩,λ_ _ q k=>XIs.stay q k⟩
section
variable {X:Cx}{pins:List (Addr×Obj)}{Z:St}{H H':Hp}{s s':Shared}{h':Heap}{x C T:Addr}{dx:Option Addr}{ch:List Addr}
theorem Q7 (k:XKeep (frs X.stack) ch s.heap h')(hT:∀b∈ch,b=x\/b=T):Un (frs X.stack) (x :: T :: []) H H s.heap h':=by
 have nch:∀b:Addr,b∉(x :: T :: [])->b∉ch:=λb hb z=>hb (by rcases hT b z with rfl | rfl <;> simp);refine ⟨λb o e n hb hx=>k.keep b o (nch b hx) hb e,λb o e n hb hx=>k.slot b o (nch b hx) e,λb o e n _=>n,λb o e hx=>?_,λ_ _ e=>e,λ_ _ _ e=>e,λb ps e=>⟨#[],by rw [e];simp⟩⟩;obtain ⟨sl,q⟩:=k.slot b o (nch b hx) e;exact ⟨_,q⟩
theorem Inv.left (I:Inv X pins Z H s)(hx:H x=some (.ext (F2.XIs qx x C dx)))(hT:H T=none)(nx:X.s₀.heap.objs.size<=x)(nT:X.s₀.heap.objs.size<=T)(k:XKeep (frs X.stack) ch s.heap h')(hc:∀b∈ch,b=x\/b=T)(r:F2.XIs qx x C dx h')
 (oT:∀y c,X.env.cells.lookup y=some c->c≠T) (lT:T≠X.env.locals) (pT:∀p∈X.pn++pins,p.1≠T):Inv X pins Z H { s with heap:=h' }:=by
 have nfr:∀b u,H b=some u->b∉frs X.stack:=λb u e z=>by rw [I.stkFree b z] at e;cases e
 refine I.call (g':=s.gens) (t':=s.toks) (d':=s.drawn) (ch:=[x,T]) (Q7 k hc) (λb u e=>?_) I.bare λb hb=>?_
 ·by_cases hb:b=x
  ·subst hb;rw [hx] at e;cases e;exact La r
  ·refine (I.hok b u e).stay (λc v hcc q=>k.keep c v ?_ ?_ q) (λ_ q=>q) λ_ _ q=>q
   ·intro z;rcases hcc with rfl | hcc
    ·rcases hc c z with q | q
     ·exact hb q
     ·rw [q,hT] at e;cases e
    ·rcases hc c z with q | q
     ·rw [q,hx] at hcc;cases hcc
     ·rw [q,hT] at hcc;cases hcc
   ·rcases hcc with rfl | hcc
    ·exact nfr _ _ e
    ·exact nfr _ _ hcc
 ·have q:b=x\/b=T:=by simpa using hb
  rcases q with rfl | rfl
  ·exact ⟨.inr nx,(λz=>by rw [z,I.free] at hx;cases hx),(λy c e z=>by subst z;rw [I.freeC y c e] at hx;cases hx),λp hp z=>by rw [<-z,(I.pin p hp).2.1] at hx;cases hx⟩
  ·exact ⟨.inr nT,lT,oT,pT⟩
theorem Inv.raised (I:Inv X pins Z H s){E:XK}{e:Value}(q:CX1 qx X.prog X.w X.stack H s E e s'):∃(x C:Addr) (dx:Option Addr) (T:Addr) (H':Hp),e = .ref x/\Inv X pins Z H' s'/\H' x=some (.ext (F2.XIs qx x C dx))/\s.heap.objs.size<=x/\s.heap.objs.size<=T/\T≠x/\H' T=none/\XRec qx s'.heap x C dx (.ref T)/\XTb s'.heap T/\E (.ref x) dx H':=by
 obtain ⟨x,C,dx,T,H',he,os,bare,un,hok,hx,nx,nT,ne,hT,r,tb,q⟩:=q;obtain ⟨hh,g,d,t,os'⟩:=s';obtain rfl:os'=s.os:=os;exact ⟨x,C,dx,T,H',he,I.call (h':=hh) (g':=g) (d':=d) (t':=t) (ch:=[]) un hok bare (λb z=>absurd z (by simp)),hx,nx,nT,ne,hT,r,tb,q⟩
theorem Inv.newT (I:Inv X pins Z H s)(h:s.heap.objs.size<=T):T≠X.env.locals/\(∀y c,X.env.cells.lookup y=some c->c≠T)/\∀p∈X.pn++pins,p.1≠T:=by
 have far:∀b o,s.heap.get? b=some o->b≠T:=λb o e z=>absurd (uf0 (um3 e) h) (by rw [z];exact ul4 _);refine ⟨λz=>absurd I.lt (by rw [<-z];exact Nat.not_lt.mpr h),λy c e=>?_,λp hp=>far _ _ (I.pin p hp).1⟩;obtain ⟨v,o,ho,_⟩:=I.cell y c e;exact far c o ho
end
section
variable {P:Program}{w:World}{K:PySem.W.Frag}{mg:Str->Option Value}{base:Heap}{N:List Str}{qual:Str}{scope:Scope}{f:Addr}{cd:Value}{A:Around}{outer:List Env}{s₀:Shared}{H₀:Hp}{E:XK}
end
end L2
namespace L2
open PySem PySem.Spec PyProof.Rows PySem.W
noncomputable def exO (x C tp:Addr):HO:=.ext λh=>h.get? x=some (excObj C tp)
noncomputable def HU (x C tp dx:Addr):HO:=.ext λh=>h.get? x=some { excObj C tp with dict:=some dx }
theorem UK {P:Program}{w:World}{H:Hp}{h:Heap}{x C tp:Addr}(e:h.get? x=some (excObj C tp)):ObjOk P w H h x (exO x C tp):=⟨e,⟨_,e⟩,λ_ _ p k=>k _ p⟩
theorem R4 {P:Program}{w:World}{H:Hp}{h:Heap}{x C tp dx:Addr}(e:h.get? x=some { excObj C tp with dict:=some dx }):ObjOk P w H h x (HU x C tp dx):=⟨e,⟨_,e⟩,λ_ _ p k=>k _ p⟩
structure XAt (K:PySem.W.Frag)(C P:Addr)(f:Str):Prop where
 cl:XCl K C (.ref P :: VE)
 set:findIn K (.ref C) "__setattr__" = some (some (.builtin "object.__setattr__"))
 no:findIn K (.ref C) f=some none
theorem XCl.cls {K:PySem.W.Frag}{C:Addr}{bm:List Value}(c:XCl K C bm):∃cd,clsIn K C=some cd/\cd.mro = .ref C :: bm/\cd.hasDict=true:=by
 obtain ⟨cd,dd,k0,k1,k2,k3,k5,h1,h2,_,h4,_⟩:=c.ex;exact ⟨cd,by unfold clsIn;rw [h1],h2,h4⟩
def sXF (K:PySem.W.Frag)(P:Addr)(ta tv:TE)(f:Str):TS:=λD Z H=>tv Z H λy H1=>ta Z H1 λx H2=>∃a C tp,x = .ref a/\H2 a=some (exO a C tp)/\XAt K C P f/\
 ∀dx,H2 dx=none->dx≠a->D.nx Z (upd (upd H2 dx (.xd [(f,y)])) a (HU a C tp dx))
theorem WZ {X:Cx}{P:Addr}{o value:Expr}{ta tv:TE}{f:Str}{pos' pos:Pos}(ha:PE X o ta)(hv:PE X value tv)(hs:swapsWith value (some (.Attribute o f pos')) pos.line X.env=pure false):PS X (.Assign [.Attribute o f pos'] value pos) (sXF X.K P ta tv f):=by
 intro pins s Z H D I h;refine plainObj_wpAny_Assign_Attribute (thn (hv pins s Z H _ I h) λu s1 ⟨y,H1,I1,ry,q⟩=>thn (ha pins s1 Z H1 _ I1 q) λov s2 z9=>?_) hs;obtain ⟨x,H2,I2,rx,a,C,tp,ex,ea,c,q2⟩:=z9;subst ex;obtain rfl:ov=Value.ref a:=rx;obtain ⟨cd,c1,c2,c3⟩:=c.cl.cls;have hx:s2.heap.get? a=some (excObj C tp):=(I2.hok a _ ea).1;refine T1 I2.kIn hx c.set c1 c2 c3 c.no λh' k e n=>?_;have fr:=I2.hok.fresh (uo3 s2.heap.objs.size);have ne:s2.heap.objs.size≠a:=(λz=>by rw [z,ea] at fr;cases fr)
 have nn:∀b u,H2 b=some u->b≠s2.heap.objs.size:=λb u z=>AB z fr;have na:∀b u,s2.heap.get? b=some u->H2 b=none->b≠a:=λb u _ z w'=>by rw [w',ea] at z;cases z
 refine ⟨Z,_,I2.un (h':=h') (t':=s2.toks + 2) ⟨λb u e1 e2 _ _=>k b u (na b u e1 e2) e1,λb u e1 e2 _ _=>⟨u.slots,k b u (na b u e1 e2) e1⟩,λb u e1 e2 _=>?_,λb u e1 _=>?_,λb xs e1=>?_,λb o' u e1=>?_,λb ps e1=>⟨#[],?_⟩⟩ λb u e1=>?_,q2 s2.heap.objs.size fr ne⟩
 ·rw [Am (na b u e1 e2),Am (um4 (um3 e1))];exact e2
 ·by_cases hb:b=a
  ·subst hb;exact ⟨_,e⟩
  ·exact ⟨_,k b u hb e1⟩
 ·rw [Am (λz=>by rw [z,ea] at e1;cases e1),Am (nn _ _ e1)];exact e1
 ·rw [Am (λz=>by rw [z,ea] at e1;cases e1),Am (nn _ _ e1)];exact e1
 ·rw [Am (λz=>by rw [z,ea] at e1;cases e1),Am (nn _ _ e1),e1];simp
 ·by_cases hb:b=a
  ·subst hb;rw [Au] at e1;cases e1;exact R4 e
  ·rw [Am hb] at e1
   by_cases hb2:b=s2.heap.objs.size
   ·subst hb2;rw [Au] at e1;cases e1
    refine ⟨_,n,λg=>?_⟩
    by_cases hg:g=f
    ·subst hg;simp only [List.lookup,ui9,if_true];exact ry
    ·have hgb:(g == f)=false:=beq_eq_false_iff_ne.mpr hg;simp only [List.lookup,hgb,if_neg hg];trivial
   ·rw [Am hb2] at e1;refine (I2.hok b u e1).stay (λz v hz q=>k z v ?_ q) (λz q=>?_) λz xs q=>?_
    ·rcases hz with rfl | hz
     ·exact hb
     ·intro w';rw [w',ea] at hz;cases hz
    ·rw [Am (λz=>by rw [z,ea] at q;cases q),Am (nn _ _ q)];exact q
    ·rw [Am (λz=>by rw [z,ea] at q;cases q),Am (nn _ _ q)];exact q
variable {qx:Bool}
theorem Nr {K:PySem.W.Frag}{h:Heap}{N:Addr}{m:Str->Option Value}{n:Str}{v:Value}(X:K.In h)(G:h.Ns N m)(e:nsIn K N n=some (some v)):m n=some v:=by
 obtain ⟨o,es,ep,ho,hd,_,hf⟩:=G;unfold nsIn at e
 split at e
 ·next c d es' n' sl q=>
  have z:=X _ _ q;rw [ho] at z
  cases z
  cases hd
  split at e
  ·next en he=>
   rw [<-hf];unfold nsFind findBy;rw [<-uf4,he];simpa using e
  ·split at e <;> cases e
 ·cases e
structure XMk (K:PySem.W.Frag)(C P f:Addr):Prop where
 cl:XCl K C (.ref P :: VE)
 init:∃cd,clsIn K C=some cd/\nsIn K cd.ns "__init__" = some (some (.ref f))
 fn:isFn K (.ref f)=true
 kp:keepIn K (.ref C)=true
section
variable {X:Cx}{k:Nat}{f C P:Addr}{fd:FuncData}{pins:List (Addr×Obj)}{Z:St}{H:Hp}{s:Shared}{Q:Value->Shared->Prop}{us:List Value}{vs:List V}{a:Str}{ps:List Str}{v:V}{u:Value}
end
end L2
namespace L2
open PySem PySem.Spec PyProof.Rows PySem.W
variable {qx:Bool}
section
variable {M:Model}{A:Around}{E:Value->Shared->Prop}{K:PySem.W.Frag}{s:Shared}{x C C':Addr}{bm bm':List Value}{dx:Option Addr}{tb:Value}
end
end L2
namespace L2
open PySem PySem.Spec PyProof.Rows PySem.W
variable {qx:Bool}
def PH (h:Heap)(T:Addr)(fl:Value):Prop:=∃(o:Obj) (ts:Array Value),h.get? T=some o/\o.data = .fields ts/\ts[3]?=some fl
section
variable {M:Model}{A:Around}{E:Value->Shared->Prop}{s:Shared}{env:Env}{outer:List Env}{base:Heap}{L x C:Addr}{dx:Option Addr}{tb:Value}{Q:Unit->Shared->Prop}
theorem JW {hadNext:Bool}{hd:Value}(hfr:A.frames=some (env :: outer))(hl:s.heap.FunFrames base (env :: outer))(hf:env.frame=some L)(hx:XRec qx s.heap x C dx tb)
 (h:∀h' T,s.heap.objs.size<=T->T≠x->XRec qx h' x C dx (.ref T)->PH h' T (rawInt L)->XKeep (frs (env :: outer)) [x] s.heap h'->Q () { s with heap:=h' }) :
 wpAny M A (do let fo <-frameOf env;let at' <-entryPlaceOf L hadNext;let en <-EntryCells.newEntry hd fo .none (rawInt L) .none at';setField (.ref x) 1 en) Q E s:=by
 obtain ⟨ox,vs,gx,cx,dxe,dtx,tbx,xc⟩:=hx;have v1:1 < vs.size:=(ua7.mp tbx).1;have nfr:x∉frs (env :: outer):=λz=>by
  obtain ⟨_,o2,g2,n2⟩:=hl.mem z;rw [gx] at g2;cases g2
  exact n2 vs dtx
 refine uo7 (wpAny_frameOf_fun hfr hl hf λh1 so=>?_);refine uo7 (wpAny_entryPlaceOf λat' ip=>?_);unfold EntryCells.newEntry newFields;refine uo7 (wpAny_newObj_type ?_ (ip.sizeOk5 _ _ _ _ _));generalize hne:(Obj.mk (Value.type "traceback") none (Data.fields ([hd,Value.ref L,Value.none,rawInt L,Value.none]++if at'.isEmpty=true then List.replicate 6 Value.none else at').toArray) #[])=nob;have dn:nob.data = .fields ([hd,Value.ref L,Value.none,rawInt L,Value.none]++if at'.isEmpty=true then List.replicate 6 Value.none else at').toArray:=by rw [<-hne]
 have gx1:h1.get? x=some ox:=(so.2.1 x nfr).trans gx;have gx2:(h1.push nob).get? x=some ox:=ub8 _ gx1;have nex:h1.objs.size≠x:=um7 (um3 gx1);refine wpAny_setField gx2 dtx v1 ?_;obtain ⟨m1,m2,m3⟩:=Ls dtx (·.setIfInBounds 1 (Value.ref h1.objs.size));have gx3:=ud1 (Obj.mapFields (·.setIfInBounds 1 (Value.ref h1.objs.size))) gx2 (Obj.isFreed_of_fields m1);have gT2:(h1.push nob).get? h1.objs.size=some nob:=ue3 h1 (Obj.isFreed_of_fields dn);have gT3:=(uc0 (h1.push nob) (Obj.mapFields (·.setIfInBounds 1 (Value.ref h1.objs.size))) (Ne.symm nex)).trans gT2;have vx:(vs.setIfInBounds 1 (Value.ref h1.objs.size))[1]?=some (.ref h1.objs.size):=by simp [v1]
 have old:∀b o,b≠x->h1.get? b=some o->((h1.push nob).update x (Obj.mapFields (·.setIfInBounds 1 (Value.ref h1.objs.size)))).get? b=some o:=λb o hb e=>by
  rw [uc0 _ _ (Ne.symm hb)];exact ub8 _ e
 refine h _ h1.objs.size (un1 so.1.symm) nex ⟨_,_,gx3,m2.trans cx,m3.trans dxe,m1,vx,UI xc⟩ ⟨_,_,gT3,dn,?_⟩ ⟨λb o hb hbf e=>old b o (λz=>hb (by simp [z])) ((so.2.1 b hbf).trans e),λb o hb e=>?_⟩
 ·rw [List.getElem?_toArray];rfl
 ·obtain ⟨sl,e1⟩:=so.2.2 b o e;exact ⟨sl,old b _ (λz=>hb (by simp [z])) e1⟩
end
structure XOn (qx:Bool)(X:Cx)(pins:List (Addr×Obj))(H:Hp)(s:Shared)(x C:Addr)(dx:Option Addr)(T:Option Addr)(fl:Value):Prop where
 hx:H x=some (.ext (F2.XIs qx x C dx))
 nx:X.s₀.heap.objs.size<=x
 rc:XRec qx s.heap x C dx (match T with | some a=>.ref a | none=>.none)
 tb:∀a,T=some a->a≠x/\H a=none/\X.s₀.heap.objs.size<=a/\(a≠X.env.locals/\(∀y c,X.env.cells.lookup y=some c->c≠a)/\∀p∈X.pn++pins,p.1≠a)/\PH s.heap a fl
 fo:fl = .none\/fl=rawInt X.env.locals
section
variable {M:Model}{A:Around}{Er:Value->Shared->Prop}{X:Cx}{pins:List (Addr×Obj)}{Z:St}{H:Hp}{s:Shared}{x C:Addr}{dx T:Option Addr}{fl:Value}{Q:Unit->Shared->Prop}
theorem MM (fr:Option Addr)(I:Inv X pins Z H s){a:Addr}(o:XOn qx X pins H s x C dx (some a) fl)(hfr:fr=none\/fr=some X.env.locals)
 (k:∀h',Inv X pins Z H { s with heap:=h' }->XOn qx X pins H { s with heap:=h' } x C dx (some a) (fr.elim Value.none λf=>rawInt f)->Q () { s with heap:=h' }):wpAny M A (setFlight (.ref x) fr) Q Er s:=by
 obtain ⟨ox,vs,gx,cx,dxe,dtx,tbx,xc⟩:=id o.rc;obtain ⟨ne,hT,nT,oT,ot,ts,gT,dT,t3⟩:=o.tb a rfl;unfold setFlight;refine uo7 (uo6 gx dtx tbx ?_);rw [if_pos (show (Value.ref a != Value.none)=true from rfl)];refine wpAny_setField gT dT (ua7.mp t3).1 ?_;obtain ⟨m1,m2,m3⟩:=Ls dT (·.setIfInBounds 3 (fr.elim Value.none λf=>rawInt f));have gT2:=ud1 (Obj.mapFields (·.setIfInBounds 3 (fr.elim Value.none λf=>rawInt f))) gT (Obj.isFreed_of_fields m1);have oth:∀b,b≠a->(s.heap.update a (Obj.mapFields (·.setIfInBounds 3 (fr.elim Value.none λf=>rawInt f)))).get? b=s.heap.get? b:=λb z=>uc0 _ _ (Ne.symm z);have rc':XRec qx (s.heap.update a (Obj.mapFields (·.setIfInBounds 3 (fr.elim Value.none λf=>rawInt f)))) x C dx (.ref a):=⟨ox,vs,(oth x (Ne.symm ne)).trans gx,cx,dxe,dtx,tbx,xc⟩;refine k _ (I.left o.hx hT o.nx nT (ch:=[a]) ⟨λb u hb _ e=>(oth b (by simpa using hb)).trans e,λb u hb e=>⟨u.slots,(oth b (by simpa using hb)).trans e⟩⟩ (λb hb=>.inr (by simpa using hb)) rc'.is oT.2.1 oT.1 oT.2.2) ⟨o.hx,o.nx,rc',λa' e=>?_,?_⟩
 ·cases e
  exact ⟨ne,hT,nT,oT,_,_,gT2,m1,by rw [Array.getElem?_setIfInBounds_self,if_pos (ua7.mp t3).1]⟩
 ·rcases hfr with rfl | rfl
  ·exact .inl rfl
  ·exact .inr rfl
theorem Lx (hA:A.frames=some X.stack)(I:Inv X pins Z H s)(hs:X.stack=X.env :: X.outer)(hf:X.env.frame=some X.env.locals)(o:XOn qx X pins H s x C dx T fl)
 (k:∀h' a,Inv X pins Z H { s with heap:=h' }->XOn qx X pins H { s with heap:=h' } x C dx (some a) (rawInt X.env.locals)->Q () { s with heap:=h' }):wpAny M A (noteFrame (.ref x) X.env) Q Er s:=by
 obtain ⟨ox,vs,gx,cx,dxe,dtx,tbx,xc⟩:=id o.rc;have fin:∀(s1:Shared) (hh:∃h1,s1 = { s with heap:=h1 }) (ch:List Addr) (h':Heap) (a:Addr),Inv X pins Z H s1->s1.heap.objs.size<=a->a≠x->XRec qx h' x C dx (.ref a)->PH h' a (rawInt X.env.locals)->XKeep (frs (X.env :: X.outer)) [x] s1.heap h'->Q () { s1 with heap:=h' }:=by
  rintro s1 ⟨h1,rfl⟩ ch h' a I1 l1 l2 l3 l4 l5;obtain ⟨o1,o2,o3⟩:=I1.newT l1;have J:=I1.left o.hx (I1.hok.fresh l1) o.nx (um5 I1.sz l1) (ch:=[x]) (hs ▸ l5) (λb hb=>.inl (by simpa using hb)) l3.is o2 o1 o3;exact k h' a J ⟨o.hx,o.nx,l3,λa' e=>by cases e;exact ⟨l2,I1.hok.fresh l1,um5 I1.sz l1,⟨o1,o2,o3⟩,l4⟩,.inr rfl⟩
 unfold noteFrame;simp only [hf];refine uo7 (uo6 gx dtx tbx ?_)
 cases T with
 | none=>
   rw [if_neg (by decide)];exact JW (hA.trans (congrArg some hs)) (hs ▸ I.stack) hf o.rc λh' a l1 l2 l3 l4 l5=>fin s ⟨s.heap,rfl⟩ [] h' a I l1 l2 l3 l4 l5
 | some T₀=>
   obtain ⟨ne,hT,nT,oT,ot,ts,gT,dT,t3⟩:=o.tb T₀ rfl;rw [if_pos (show (Value.ref T₀ != Value.none)=true from rfl)];refine uo7 (uo6 gT dT t3 ?_);rcases o.fo with rfl | rfl
   ·rw [if_neg (show ¬((Value.none == rawInt X.env.locals)=true) from by simp [rawInt])];refine uo7 (wpAny_setField gT dT (ua7.mp t3).1 ?_);have oth:∀b,b≠T₀->(s.heap.update T₀ (Obj.mapFields (·.setIfInBounds 3 Value.none))).get? b=s.heap.get? b:=λb z=>uc0 _ _ (Ne.symm z);have rc':XRec qx (s.heap.update T₀ (Obj.mapFields (·.setIfInBounds 3 Value.none))) x C dx (.ref T₀):=⟨ox,vs,(oth x (Ne.symm ne)).trans gx,cx,dxe,dtx,tbx,xc⟩;have J:=I.left o.hx hT o.nx nT (ch:=[T₀]) ⟨λb u hb _ e=>(oth b (by simpa using hb)).trans e,λb u hb e=>⟨u.slots,(oth b (by simpa using hb)).trans e⟩⟩ (λb hb=>.inr (by simpa using hb)) rc'.is oT.2.1 oT.1 oT.2.2;exact JW (s:={ s with heap:=s.heap.update T₀ (Obj.mapFields (·.setIfInBounds 3 Value.none)) }) (hA.trans (congrArg some hs)) (hs ▸ J.stack) hf rc' λh' a l1 l2 l3 l4 l5=>fin _ ⟨_,rfl⟩ [] h' a J l1 l2 l3 l4 l5
   ·rw [if_pos (show (rawInt X.env.locals == rawInt X.env.locals)=true from by first | (simp;done) | exact ui9 _)];exact uo8 (k s.heap T₀ I ⟨o.hx,o.nx,o.rc,o.tb,.inr rfl⟩)
end
def XE (qx:Bool)(X:Cx)(E:St->XK):Value->Shared->Prop:=λe s=>∃pins Z H x C dx T fl,e = .ref x/\Inv X pins Z H s/\XOn qx X pins H s x C dx T fl/\E Z (.ref x) dx H
def FJ (CX:CXT)(X:Cx)(E:St->XK):Prop:=∀(pins:List (Addr×Obj)) (Z:St) (H:Hp) (s:Shared) (e:Value) (s':Shared),Inv X pins Z H s->CX X.stack H s (E Z) e s'->X.xe e s'
section
variable {M:Model}{X:Cx}{E:St->XK}
theorem XE.own (hs:X.stack=X.env :: X.outer)(hf:X.env.frame=some X.env.locals):PassesOwn M X.A X.env (XE qx X E):=by
 rintro e s ⟨pins,Z,H,x,C,dx,T,fl,rfl,I,o,q⟩;refine Lx I.ok.frames I hs hf o λh' a I' o'=>?_;obtain ⟨ox,vs,gx,cx,dxe,dtx,tbx,xc⟩:=id o'.rc;unfold cameBackBy;refine uo7 (uo6 gx dtx tbx ?_);rw [if_neg (show ¬((Value.ref a == Value.none)=true) from by intro z;cases z)]
 rw [hf];exact MM _ I' o' (.inr rfl) λh'' I'' o''=>⟨pins,Z,H,x,C,dx,some a,_,rfl,I'',o'',q⟩
theorem XE.pass:FJ (CX1 qx X.prog X.w) (X.wish (XE qx X E)) E:=by
 intro pins Z H s e s' I q;obtain ⟨x,C,dx,T,H',rfl,J,hx,nx,nT,ne,hT,r,tb,q⟩:=I.unwish.raised q;exact ⟨pins,Z,H',x,C,dx,some T,.none,rfl,J,⟨hx,um5 I.sz nx,r,λa e=>by cases e;exact ⟨ne,hT,um5 I.sz nT,I.unwish.newT nT,tb⟩,.inl rfl⟩,q⟩
end
section
variable {P:Program}{w:World}{K:PySem.W.Frag}{mg:Str->Option Value}{base:Heap}
abbrev cxX (qx:Bool)(P:Program)(w:World)(K:PySem.W.Frag)(mg:Str->Option Value)(base:Heap)(N:List Str)(qual:Str)(scope:Scope)(f:Addr)(cd:Value)(A:Around)(outer:List Env)(s:Shared)(H:Hp)(E:XK):Cx:=
 (D3 (CX1 qx P w) P w K mg base N qual scope f cd A outer s H E).wish (XE qx (D3 (CX1 qx P w) P w K mg base N qual scope f cd A outer s H E) λ_=>E)
theorem XE.leaves {N:List Str}{qual:Str}{scope:Scope}{f:Addr}{cd:Value}{A:Around}{outer:List Env}{s₀:Shared}{H₀:Hp}{E:XK}{e:Value}{s:Shared}
 (h:XE qx (D3 (CX1 qx P w) P w K mg base N qual scope f cd A outer s₀ H₀ E) (λ_=>E) e s):(D3 (CX1 qx P w) P w K mg base N qual scope f cd A outer s₀ H₀ E).xe e s:=by
 obtain ⟨pins,Z,H,x,C,dx,T,fl,rfl,I,o,q⟩:=h;refine uo7 (Lx I.ok.frames I rfl rfl o λh' a I' o'=>?_);refine MM none I' o' (.inl rfl) λh'' I'' o''=>?_;obtain ⟨ne,hT,nT,oT,tb⟩:=o''.tb a rfl;exact ⟨x,C,dx,a,H,rfl,I''.os,I''.bare,I''.base,I''.hok,o''.hx,o''.nx,nT,ne,hT,o''.rc,tb,q⟩
theorem Fun.okX {x qual:Str}{st:Stmt}{f:Addr}{fd:FuncData}{N ps:List Str}{k:Nat}{sp:Sp}(F:Fun K x qual st f fd)(S:FnScope N ps (Ay st))(len:∀vs H Q E,sp vs H Q E->vs.length=ps.length)
 (hbody:∀(cdv:Value) (A:Around) (outer:List Env) (s:Shared) (H:Hp) (vs:List V) (Q:VK) (E:XK),Room k (A.deeper (envOfC qual (Ay st) s.heap.objs.size f cdv))->sp vs H Q E->
   ∃t,PSs (cxX qx P w K mg base N qual (Ay st) f cdv A outer s H E) (By st) t/\t { nx:=λ_ H'=>Q .non H',rt:=Q } (Dw N vs) H):FnOk P w K mg base (CX1 qx P w) (k + 1) f fd ps sp:=by
 obtain ⟨oc,od,kV,doc,pm,an,cdv,ct,osl,rfl,lk,hcd⟩:=F.ex;refine Rt lk hcd S len λA outer s H vs Q E hr hsp=>?_;obtain ⟨t,h,q⟩:=hbody cdv A outer s H vs Q E hr hsp;exact ⟨t,λpins s1 Z H1 D I hw=>uo9 (h pins s1 Z H1 D (I.wish _) hw) (λ_ _ q=>q.unwish) λ_ _ z=>z.leaves,q⟩
theorem FnOk.calm {k:Nat}{f:Addr}{fd:FuncData}{ps:List Str}{sp sp':Sp}(F:FnOk P w K mg base (CX1 qx P w) k f fd ps sp)(h:∀vs H Q E,sp' vs H Q E->sp vs H Q E0):FnOk P w K mg base CX0 k f fd ps sp':=by
 refine ⟨λvs H Q E q=>F.len vs H Q E0 (h _ _ _ _ q),λA outer s H args us vs Q E hr he hb hv hs=>codeAny_mono (F.run A outer s H args us vs Q E0 hr he hb hv (h _ _ _ _ hs)) λr s' q=>?_⟩
 cases r with
 | error e=>obtain ⟨_,_,_,_,_,_,_,_,_,_,_,_,_,_,_,_,_,z⟩:=q;exact z.elim
 | ok fl=>cases fl <;> exact q
end
section
variable {X:Cx}{CX:CXT}{k:Nat}{f:Addr}{fd:FuncData}{ps:List Str}{sp:Sp}{E:St->XK}{x:Str}{p pos:Pos}{e:Expr}{es:List Expr}{t:TA}
def Wb (sp:Sp)(E:St->XK)(t:TA):TE:=λZ H Q=>t Z H λvs H1=>sp vs H1 Q (E Z)
theorem Qy (F:FnOk X.prog X.w X.K X.mg X.base CX k f fd ps sp)(hr:Room k X.A)(hg:Gl X x)(hm:X.mg x=some (.ref f))(hk:PySem.W.keepIn X.K (.ref f)=true)(hb:Binds X.K fd ps [])(hx:FJ CX X E)
 (ha:PA X (e :: es) t) (hdb:(x == ("__debug__" : Str))=false:=by decide) (he:starEach (e :: es) X.env=(false,eval e X.env) :: starEach es X.env:=by rfl) (hpl:(backTo pos (starEach es X.env)).any (·.1)=false:=by rfl) :
 PE X (.Call (.Name x p) (e :: es) [] pos) (Wb sp E t):=by
 intro pins s Z H Q I h;refine wpAny_Call_Name_kw (EC I hg hm ?_ hdb);refine uf5 (h₀:=X.base) I.ok.mod.kin hk (thn (ha pos pins s Z H _ I h) λus s1 z9=>?_) he hpl;obtain ⟨vs,H1,I1,r,q⟩:=z9;refine ⟨I1.kIn,?_⟩;have hl:(us++[]).length=ps.length:=by rw [uj4,<-r.length];exact F.len _ _ _ _ q
 refine wpAny_call (codeAny_mono (F.run X.A X.stack s1 H1 ⟨us,[]⟩ us vs Q (E Z) hr I1.env0 (by have:=hb s1 us I1.kIn hl;rwa [uj4] at this) r q) λr s' hq=>?_)
 cases r with
 | error e=>exact hx pins Z H1 s1 e s' I1 hq
 | ok fl=>
   cases fl with
   | ret u=>exact I1.after hq
   | next=>exact False.elim hq
   | brk=>exact False.elim hq
   | cont=>exact False.elim hq
end
end L2
namespace L2
open PySem PySem.Spec PyProof.Rows PySem.W
variable {qx:Bool}
def PM (qx:Bool)(X:Cx)(e:Expr)(C:Addr)(t:St->Hp->(Addr->Option Addr->Hp->Prop)->Prop):Prop:=
 ∀(pins:List (Addr×Obj)) (s:Shared) (Z:St) (H:Hp) (Q:Addr->Option Addr->Hp->Prop),Inv X pins Z H s->t Z H Q->
  wpAny (model X.prog X.w) X.A (eval e X.env) (λv s1=>∃x dx H1,v = .ref x/\Inv X pins Z H1 s1/\H1 x=some (.ext (F2.XIs qx x C dx))/\X.s₀.heap.objs.size<=x/\XRec true s1.heap x C dx .none/\Q x dx H1) X.xe s
def GG (qx:Bool)(X:Cx)(E:St->XK):Prop:=∀(pins:List (Addr×Obj)) (Z:St) (H:Hp) (s:Shared) (x C:Addr) (dx:Option Addr),Inv X pins Z H s->XOn qx X pins H s x C dx none .none->E Z (.ref x) dx H->X.xe (.ref x) s
theorem XE.raises {X:Cx}{E:St->XK}:GG qx (X.wish (XE qx X E)) E:=λpins Z H s x C dx I o q=>⟨pins,Z,H,x,C,dx,none,.none,rfl,I.unwish,⟨o.hx,o.nx,o.rc,o.tb,o.fo⟩,q⟩
theorem LF {X:Cx}{e:Expr}{C:Addr}{bm:List Value}{t:St->Hp->(Addr->Option Addr->Hp->Prop)->Prop}{E:St->XK}{pos:Pos}(hc:X.calm=true)(c:XCl X.K C bm)(hx:GG qx X E)(h:PM qx X e C t)
 (ho:evalOpt (some e) X.env=some (eval e X.env):=by rfl):PS X (.Raise (some e) none pos) (λ_ Z H=>t Z H λx dx H1=>E Z (.ref x) dx H1):=by
 intro pins s Z H D I q;rw [arm_exec_Raise,ho];refine uo7 (wpAny_standAt ?_);refine QO (qx:=true) c (I.ok.hd hc) ?_;refine uo7 (uo9 (h pins s Z H _ I q) (λv s1 z9=>?_) λ_ _ z=>z);obtain ⟨x,dx,H1,e1,I1,hx1,nx,r,q1⟩:=z9;subst e1;refine uo7 (wpAny_standAt (uo8 ⟨x,dx,rfl,I1.kIn,r,hx pins Z H1 s1 x C dx I1 ⟨hx1,nx,r.to,(λa e=>by cases e),.inl rfl⟩ q1⟩))
theorem Nq {K:PySem.W.Frag}{h:Heap}{N:Addr}{m:Str->Option Value}{n:Str}(X:K.In h)(G:h.Ns N m)(e:nsIn K N n=some none):m n=none:=by
 obtain ⟨o,es,ep,ho,hd,_,hf⟩:=G;unfold nsIn at e
 split at e
 ·next c d es' n' sl q=>
  have z:=X _ _ q;rw [ho] at z
  cases z
  cases hd
  split at e
  ·cases e
  ·next he=>rw [<-hf];unfold nsFind findBy;rw [<-uf4,he];rfl
 ·cases e
section
variable {prog:Program}{w:World}{A:Around}{E:Value->Shared->Prop}{h:Heap}{g:Array GenState}{d:Drawn}{t:Nat}{os:OsState}{Q:Value->Shared->Prop}
variable {nm q:Str}{C N:Addr}{bs bm bmB:List Value}{hdct:Bool}{sn:List Str}{sub:List Value}{ab:Bool}{col:Option Bool}{dd:Option Addr}{k0 k1 k2 k3 k5:Option Value}{B newId initId:String}{mN:Str->Option Value}
theorem OM (F:ExcBaseFacts B newId initId bmB)(T:OwnTail h bmB bm){us:List Value}(hC:h.get? C=some (excClassObj nm q C N bs bm hdct sn sub ab col dd k0 k1 k2 k3 k5 newId))(hn:h.Ns N mN)(hni:mN "__init__" = none)(hus:us.length<=sizeLine)
 (hq:∀h' tp,(∀b o,h.get? b=some o->h'.get? b=some o)->h'.get? (h.objs.size + 1)=some (excObj C tp)->Q (.ref (h.objs.size + 1)) ⟨h',g,d,t,os⟩) :
 wpAny (model prog w) A (call (.ref C) us) Q E ⟨h,g,d,t,os⟩:=by
 have c1:=tc_lookup;have c2:=tc_bind (.ref C);have ty:(⟨h,g,d,t,os⟩:Shared).TypeIs (.ref C) "type":=⟨_,hC,rfl⟩;refine wpAny_call (codeAny_of_tree ?_);show wpAny _ _ (callAny (.ref C) _) _ _ _
 repeat (any_goals (first
  | assumption
  | with_reducible refine wpAny_loadPart_at hC ?_
  | wp_step))
 refine ⟨rfl,codeAny_call_builtin_at (Code.quiet_builtin _ (by decide +kernel)) entry_typeCall (wpAny_check_type_call_sub hC ?_)⟩
 repeat (first
  | with_reducible refine wpAny_loadPart_at hC ?_
  | with_reducible refine wpAny_madeBy_exc hC ?_
  | wp_step)
 refine codeAny_call_builtin_code (Code.quiet_builtin _ F.quiet) (wpAny_check_new_subT F T hC (codeAny_exc_new_subT F T hC ?_ hus))
 change wpAny _ _ _ _ _ (Shared.mk (DY h C us) g d t os)
 have kp:∀b o,h.get? b=some o->(DY h C us).get? b=some o:=λb o e=>ub8 _ (ub8 _ e);have he:(DY h C us).get? (h.objs.size + 1)=some { cls:=.ref C,data:=.fields #[.ref h.objs.size,.none,.none,.none,.bool false,.none] }:=by heap_get
 have n1:(DY h C us).Ns N mN:=hn.keeps kp;have cC:(Value.ref C :: bm).contains (.ref C)=true:=by simp
 unfold isInstance
 repeat (first
  | with_reducible refine wpAny_loadPart_at he ?_
  | (with_reducible refine wpAny_isSubtype_exc (kp _ _ hC) ?_;rw [cC])
  | wp_step)
 show wpAny _ _ (typeLookup (.ref C) _) _ _ _;refine wpAny_typeLookup_tail (kp _ _ hC) n1 (T.keeps kp) F.mroIs F.init.lookup ?_;rw [hni];refine um2 (uo7 (wpAny_of_eq (F.init.bind _) (uo7 (wpAny_call (codeAny_call_builtin F.init.plain F.initEntry (wpAny_check_init_subT F (T.keeps kp) (kp _ _ hC) he rfl ?_))))))
 wp_walk
 refine hq _ ((DY h C us).objs.size) (λb o hb=>?_) ?_
 ·rw [uc0 _ _ (um7 (ug7 (um3 hb)))];exact ub8 _ (kp b o hb)
 ·rw [ud1 _ (ub8 _ he) rfl];rfl
end
section
variable {X:Cx}{k:Nat}{f C P:Addr}{fd:FuncData}{a:Str}{ps:List Str}{n:Str}{p pos:Pos}{e:Expr}{es:List Expr}
theorem Ti {t:TA}{bm:List Value}{cd:ClassData}(c:XCl X.K C bm)(hk:keepIn X.K (.ref C)=true)(hcd:clsIn X.K C=some cd)(hni:nsIn X.K cd.ns "__init__" = some none)(hg:Gl X n)(hm:X.mg n=some (.ref C))(ha:PA X (e :: es) t)
 (hdb:(n == ("__debug__" : Str))=false:=by decide) (h1:starEach (e :: es) X.env=(false,eval e X.env) :: starEach es X.env:=by rfl) (hpl:(backTo pos (starEach es X.env)).any (·.1)=false:=by rfl) :
 PM qx X (.Call (.Name n p) (e :: es) [] pos) C (λZ H Q=>t Z H λvs H1=>vs.length<=1000/\∀x,H1 x=none->Q x none (upd H1 x (.ext (F2.XIs qx x C none)))):=by
 intro pins s Z H Q I h;refine wpAny_Call_Name_kw (EC I hg hm ?_ hdb);refine uf5 (h₀:=X.base) I.ok.mod.kin hk (thn (ha pos pins s Z H _ I h) λus s1 z9=>?_) h1 hpl;obtain ⟨vs,H1,I1,r,hl,q⟩:=z9;refine ⟨I1.kIn,?_⟩;obtain ⟨nm,q',N,bs,sn,sub,ab,col,dd,k0,k1,k2,k3,k5,hC,hN⟩:=c.obj I1.kIn;have hni':s1.heap.nsMap N "__init__" = none:=by
  unfold clsIn at hcd
  split at hcd
  ·next l=>
   cases hcd
   have z:=I1.kIn _ _ l;rw [hC] at z
   cases z
   exact Nq I1.kIn hN hni
  ·cases hcd
 obtain ⟨hh,g,d,tk,os⟩:=s1;refine OM PySem.F.excBase_ValueError (c.tail I1.kIn) hC hN hni' (by show us.length<=sizeLine;rw [<-r.length];exact um5 hl (by decide)) λh' tp kp ht=>?_;have xr:XRec true h' (hh.objs.size + 1) C none .none:=⟨_,_,ht,rfl,rfl,rfl,rfl,λ_=>⟨rfl,by show 4 < 6;decide⟩⟩;exact ⟨_,none,_,rfl,I1.laid (h':=h') (t':=tk) kp (uo4 _) (La xr.to.is),Au,um5 I1.sz (uo4 _),xr,q _ (I1.hok.fresh (uo4 _))⟩
end
end L2
namespace L2
open PySem PySem.Spec PyProof.Rows PySem.W
variable {qx:Bool}
section
variable {X:Cx}{pins:List (Addr×Obj)}{Z:St}{H:Hp}{s:Shared}{D:Ends}
end
section
variable {X:Cx}{n v:Str}{C':Addr}{bm':List Value}{p pos:Pos}{b₀:Stmt}{suite:List Stmt}{rest:List ExceptHandler}{ts:Addr->TS}{tr:Addr->Addr->Option Addr->TS}{i:Nat}
end
end L2
namespace F2
open PySem L2 PySem.Spec
variable {qx:Bool}
noncomputable def A8:D->Bool
 | .exc _ _=>true
 | _=>false
def exE (E:XK)(v:V)(H:Hp):Prop:=∀x dx,v = .ref x->E (.ref x) dx H
section
variable (K:PySem.W.Frag)
def RX (E:L2.St->XK)(f:M D):TE:=λZ H Q=>∃Oo c t,FInv K Oo c t Z H/\∃r t',f t=some (r,t')/\∀v H' c',FInv K Oo c' t' Z H'->Stp Oo c H c' H'->Rep K c' H' v r->if A8 r=true then exE (E Z) v H' else Q v H'
def μX (E:XK):Cf->Hp->D->(V->Hp->Prop)->Prop:=λc H r rt=>∀v,Rep K c H v r->if A8 r=true then exE E v H else rt v H
def RSX (E:L2.St->XK)(f:M Out):TS:=λD Z H=>∃Oo c t,FInv K Oo c t Z H/\∃o t',f t=some (o,t')/\∀Z' H' c',FInv K Oo c' t' Z' H'->Stp Oo c H c' H'->
 match o with
 | .next=>D.nx Z' H'
 | .brk=>D.bk Z' H'
 | .cont=>D.ct Z' H'
 | .ret r=>∀v,Rep K c' H' v r->if A8 r=true then exE (E Z') v H' else D.rt v H'
def spX (f:Fn):Sp:=λvs H Q E=>∃c ds S,SInv K c S H/\Reps K c H vs ds/\∃r S',f ds S=some (r,S')/\
 ∀v H' c',SInv K c' S' H'->Stp c.O c H c' H'->(∀b,c'.O b↔c.O b)->Rep K c' H' v r->if A8 r=true then exE E v H' else Q v H'
end
def Dp (g:Fn):Fn:=λds S=>match g ds S with
 | some (r,S')=>if A8 r=true then none else some (r,S')
 | none=>none
variable {g:Fn}{r:D}
theorem OY {ds:List D}{S S':List Ob}(h:Dp g ds S=some (r,S')):g ds S=some (r,S')/\A8 r=false:=by
 unfold Dp at h
 split at h
 ·next r' S1 e=>
  by_cases hx:A8 r'=true
  ·rw [if_pos hx] at h;cases h
  ·rw [if_neg hx] at h;cases h;exact ⟨e,by simpa using hx⟩
 ·cases h
variable {k:Nat}{fa:Addr}{fd:FuncData}{x:Str}
section
variable {P:Program}{w:World}{K:PySem.W.Frag}{mg:Str->Option Value}{base:Heap}
theorem WC {ps:List Str}(F:FnOk P w K mg base (CX1 qx P w) k fa fd ps (spX K g)):FnOk P w K mg base CX0 k fa fd ps (spF K (Dp g)):=
 F.calm λvs H Q E z9=>by
  obtain ⟨c,ds,S,si,rs,r,S',e,kk⟩:=z9;obtain ⟨e1,e2⟩:=OY e;exact ⟨c,ds,S,si,rs,r,S',e1,λv H' c' a1 a2 a3 a4=>by rw [if_neg (by rw [e2];decide)];exact kk v H' c' a1 a2 a3 a4⟩
theorem Si {qual:Str}{st:Stmt}{N ps:List Str}{n m:Nat}{g:M Out}(e1:ps.length=n)(e2:N.length=m)(F:Fun K x qual st fa fd)(S:FnScope N ps (Ay st))
 (hb:∀(cdv:Value) (A:Around) (outer:List Env) (s:Shared) (H:Hp) (E:XK),Room k (A.deeper (PyProof.Rows.envOfC qual (Ay st) s.heap.objs.size fa cdv))->
   FJ (CX1 qx P w) (cxX qx P w K mg base N qual (Ay st) fa cdv A outer s H E) (λ_=>E)->GG qx (cxX qx P w K mg base N qual (Ay st) fa cdv A outer s H E) (λ_=>E)->
   PassesOwn (model P w) (cxX qx P w K mg base N qual (Ay st) fa cdv A outer s H E).A (cxX qx P w K mg base N qual (Ay st) fa cdv A outer s H E).env (cxX qx P w K mg base N qual (Ay st) fa cdv A outer s H E).xe->
   PSs (cxX qx P w K mg base N qual (Ay st) fa cdv A outer s H E) (By st) (RSg K (μX K E) g)):FnOk P w K mg base (CX1 qx P w) (k + 1) fa fd ps (spX K (fnOf n m g)):=by
 subst e1 e2;have hlen:∀{ds:List D} {S:List Ob} {z:D×List Ob},fnOf ps.length N.length g ds S=some z->ds.length=ps.length:=λ{ds S z} h=>by
  unfold fnOf at h
  split at h
  ·next h1=>exact h1
  ·cases h
 refine F.okX S (λvs H Q E h=>?_) (λcdv A outer s H vs Q E hr h=>?_)
 ·obtain ⟨c,ds,S,si,rs,r,S',e,_⟩:=h;rw [rs.length];exact hlen e
 obtain ⟨c,ds,S0,si,rs,r,S',e,kk⟩:=h;refine ⟨RSg K (μX K E) g,hb cdv A outer s H E hr XE.pass XE.raises (XE.own rfl rfl),?_⟩;have hl:=hlen e;unfold fnOf at e;rw [if_pos hl] at e
 cases eg:g ⟨env0 N.length ds,S0⟩ with
 | none=>rw [eg] at e;cases e
 | some p=>
   obtain ⟨o,t⟩:=p;rw [eg] at e;refine ⟨c.O,c,_,Gh si rs,o,t,eg,λZ' H' c' f' s'=>?_⟩;obtain ⟨si',ext'⟩:=f'.leave;have st':Stp c.O c H ⟨c'.ι,c.O⟩ H':=⟨s'.ext.trans ext',s'.oo⟩
   cases o with
   | next=>cases e;exact kk .non H' _ si' st' (λ_=>Iff.rfl) .non
   | ret d=>cases e;exact λv rv=>kk v H' _ si' st' (λ_=>Iff.rfl) (rv.mono ext')
   | brk=>cases e
   | cont=>cases e
theorem Ty {ps:List Str}{f:Fn}(e:f=g)(h:FnOk P w K mg base (CX1 qx P w) k fa fd ps (spX K g)):FnOk P w K mg base (CX1 qx P w) k fa fd ps (spX K f):=by rw [e];exact h
end
variable {f:M D}
section
variable {X:Cx}{e a b:Expr}{es:List Expr}{pos:Pos}{E:L2.St->XK}{st:Stmt}
theorem Hu {E:XK}{f:M Out}(h:PS X st (RSX X.K (λ_=>E) f)):PS X st (RSg X.K (μX X.K E) f):=Bo h λD Z H z9=>by
 obtain ⟨Oo,c,t,fi,o,t',eq,k⟩:=z9;refine ⟨Oo,c,t,fi,o,t',eq,λZ' H' c' f' s'=>?_⟩;have q:=k Z' H' c' f' s'
 cases o <;> exact q
theorem Sr {ps:List Str}{f:M (List D)}{p:Pos}(F:FnOk X.prog X.w X.K X.mg X.base (CX1 qx X.prog X.w) k fa fd ps (spX X.K g))(hr:Room k X.A)(hg:Gl X x)(hm:X.mg x=some (.ref fa))(hk:PySem.W.keepIn X.K (.ref fa)=true)(hb:Binds X.K fd ps [])
 (hx:FJ (CX1 qx X.prog X.w) X E) (ha:PA X (e :: es) (RA X.K f)) (hdb:(x == ("__debug__" : Str))=false:=by decide) (h1:A5 e=false:=by rfl) (h2:AZ es=true:=by rfl) :
 PE X (.Call (.Name x p) (e :: es) [] pos) (RX X.K E (Ae g f)):=
 AL (Qy F hr hg hm hk hb hx ha hdb (AT h1) (AS h2).1) λZ H Q z9=>by
  obtain ⟨Oo,c,t,fi,r,t',eq,kk⟩:=z9;obtain ⟨ds,t1,e1,eq⟩:=Ai eq;obtain ⟨S',e2,rfl⟩:=GI eq;refine ⟨Oo,c,t,fi,ds,t1,e1,λvs H1 c1 f1 s1 rvs=>?_⟩;refine ⟨c1,ds,t1.S,f1.s,rvs,r,S',e2,λv H' c' si st ho rv=>?_⟩;obtain ⟨f2,s2⟩:=f1.after si st ho;exact kk v H' c' f2 (s1.trans s2) rv
def nxD (f:M D):M D:=bnd f λd=>if A8 d=true then fail else ret d
theorem Lz {t t':T}(h:nxD f t=some (r,t')):f t=some (r,t')/\A8 r=false:=by
 obtain ⟨d,t1,e1,h⟩:=Ai h
 by_cases hx:A8 d=true
 ·rw [if_pos hx] at h;cases h
 ·rw [if_neg hx] at h;cases h;exact ⟨e1,by simpa using hx⟩
theorem OE {A B:Prop}(h:A8 r=false)(q:if A8 r=true then A else B):B:=by rw [if_neg (by rw [h];decide)] at q;exact q
def Jj (g:M D)(h:D->M D):M D:=bnd g λy=>if A8 y=true then ret y else nxD (h y)
theorem RX.bind {K:PySem.W.Frag}{g:M D}{h:D->M D}{Z:L2.St}{H:Hp}{Q:VK}{Oo:Addr->Prop}{c:Cf}{t t':T}(fi:FInv K Oo c t Z H)(eq:Jj g h t=some (r,t'))
 (k:∀v H' c',FInv K Oo c' t' Z H'->Stp Oo c H c' H'->Rep K c' H' v r->if A8 r=true then exE (E Z) v H' else Q v H') {R:V->Hp->Prop}
 (s:∀y dy t1 H1 c1,FInv K Oo c1 t1 Z H1->Stp Oo c H c1 H1->Rep K c1 H1 y dy->h dy t1=some (r,t')->(∀v H' c',FInv K Oo c' t' Z H'->Stp Oo c1 H1 c' H'->Rep K c' H' v r->Q v H')->R y H1):RX K E g Z H R:=by
 obtain ⟨dy,t1,e1,eq⟩:=Ai eq;refine ⟨Oo,c,t,fi,dy,t1,e1,λy H1 c1 f1 s1 ry=>?_⟩
 by_cases hx:A8 dy=true
 ·rw [if_pos hx] at eq ⊢
  cases eq
  have:=k y H1 c1 f1 s1 ry;rw [if_pos hx] at this;exact this
 ·rw [if_neg hx] at eq ⊢;obtain ⟨e2,e3⟩:=Lz eq;exact s y dy t1 H1 c1 f1 s1 ry e2 λv H' c' f' s' rv=>OE e3 (k v H' c' f' (s1.trans s') rv)
def Hh (f g:M D)(h:D->D->M D):M D:=bnd f λx=>Jj g λy=>h x y
theorem RX.two {K:PySem.W.Frag}{g:M D}{h:D->D->M D}{R:R2}(s:A9 K R h){Z:L2.St}{H:Hp}{Q:VK}(q:RX K E (Hh f g h) Z H Q):tOp R (RE K f) (RX K E g) Z H Q:=by
 obtain ⟨Oo,c,t,fi,r,t',eq,k⟩:=q;obtain ⟨dx,t1,e1,eq⟩:=Ai eq;refine ⟨Oo,c,t,fi,dx,t1,e1,λx H1 c1 f1 s1 rx=>?_⟩;exact RX.bind f1 eq (λv H' c' f' s' rv=>k v H' c' f' (s1.trans s') rv) λy dy t2 H2 c2 f2 s2 ry e2 kk=>s f2 (rx.mono s2.ext) ry e2 kk
theorem WP {op:Operator}{R:R2}{g:M D}{h:D->D->M D}(ho:OpR X (binaryOp op) R)(s:A9 X.K R h)(ha:PE X a (RE X.K f))(hb:PE X b (RX X.K E g)):PE X (.BinOp a op b pos) (RX X.K E (Hh f g h)):=
 AL (Nz ho ha hb) λ_ _ _ q=>RX.two s q
def Zt (f g:M D)(h:D->D->M D):M D:=Jj f λx=>bnd g λy=>h x y
def Zm (g:Fn)(f:M D):M D:=Jj f λd t=>match g [d] t.S with
 | some (r,S')=>some (r,{ t with S:=S' })
 | none=>none
theorem Mu (h:PE X e (RX X.K E f)):PS X (.Return (some e) pos) (RSX X.K E (Ak f)):=
 Bo (G6 h) λD Z H z9=>by
  obtain ⟨Oo,c,t,fi,o,t',eq,k⟩:=z9;obtain ⟨d,t1,e1,eq⟩:=Ai eq
  cases eq
  exact ⟨Oo,c,t,fi,d,_,e1,λv H1 c1 f1 s1 rv=>k Z H1 c1 f1 s1 v rv⟩
def D1 (i:Nat)(f:M D):M Out:=bnd f λd=>if A8 d=true then ret (.ret d) else bnd (Aw i d) λ_=>ret .next
theorem Sm {i:Nat}{pos':Pos}(hN:X.N.Nodup)(hi:X.N[i]?=some x)(hx:Loc X.env.scope x)(he:PE X e (RX X.K E f))(hs:swapsWith e (some (.Name x pos')) pos.line X.env=pure false:=by rfl)(hf:X.fn x=true\/X.env.scope.names.lookup x=some .local:=by first | exact .inl rfl | exact .inr rfl | assumption) :
 PS X (.Assign [.Name x pos'] e pos) (RSX X.K E (D1 i f)):=Bo (LG hN hi hx he hs hf) λD Z H z9=>by
 obtain ⟨Oo,c,t,fi,o,t',eq,k⟩:=z9;obtain ⟨d,t1,e1,eq⟩:=Ai eq;refine ⟨Oo,c,t,fi,d,t1,e1,λv H1 c1 f1 s1 rv=>?_⟩
 by_cases hx:A8 d=true
 ·rw [if_pos hx] at eq ⊢
  cases eq
  have:=k Z H1 c1 f1 s1 v rv;rw [if_pos hx] at this;exact this
 ·rw [if_neg hx] at eq ⊢
  cases eq
  exact k _ H1 c1 (f1.set rv) s1
def Zs (f:M D):M Out:=bnd f λd=>if A8 d=true then ret (.ret d) else ret .next
def Zy (f:M D)(g:D->M Unit):M Out:=bnd f λd=>if A8 d=true then ret (.ret d) else bnd (g d) λ_=>ret .next
end
end F2
namespace L2
open PySem PySem.Spec PyProof.Rows PySem.W PySem.Builtin PySem.Builtin.ObjectAttr
structure XGet (K:PySem.W.Frag)(C:Addr):Prop where
 ga:findIn K (.ref C) "__getattribute__" = some (some (.builtin "BaseException.__getattribute__"))
 gt:findIn K (.ref C) "__getattr__" = some none
 mb:mroIn K C (.type "BaseException")=some true
 mo:mroIn K C (.type "object")=some true
 hd:hasDictIn K C=true
section
variable {prog:Program}{w:World}{A:Around}{E:Value->Shared->Prop}{s:Shared}{K:PySem.W.Frag}{x C:Addr}{ox:Obj}{od:Option Obj}{name:Str}{tk:Tok}{Q:Value->Shared->Prop}{R:Result->Shared->Prop}
end
end L2
namespace L2
open PySem PySem.Spec PyProof.Rows PySem.W
end L2
namespace F2
open PySem L2 PySem.Spec PySem.W
variable {qx:Bool}
abbrev Ci:List Str:=["NoValue", "Short", "Broken"]
structure XM (K:PySem.W.Frag)(mg:Str->Option Value)(P:Addr)(ca:Str->Addr):Prop where
 pm:mg "ParleyError" = some (.ref P)
 pc:XCl K P VE
 ns:∀n∈Ci,nsIn K mainGlobals n=some (some (.ref (ca n)))
 ms:∀n∈Ci,mg n=some (.ref (ca n))
 cl:∀n∈Ci,XCl K (ca n) (.ref P :: VE)
 inj:∀n∈Ci,∀m∈Ci,ca n=ca m->n=m
 np:∀n∈Ci,ca n≠P
 kp:∀n∈Ci,keepIn K (.ref (ca n))=true
 gt:∀n∈Ci,XGet K (ca n)
 gc:∀n∈Ci,findIn K (.ref (ca n)) "__class__" = some (some (.builtin "object.__class__"))
 na:∀n∈Ci,findIn K (.ref (ca n)) "at" = some none
 nd:∀n∈Ci,findIn K (.ref (ca n)) "side" = some none
noncomputable def Q0 (n m:Str):Bool:=m == "ParleyError" || m == "ValueError" || n == m
section
variable {K:PySem.W.Frag}{mg:Str->Option Value}{P:Addr}{ca:Str->Addr}
end
section
variable {X:Cx}{e:Expr}{es:List Expr}{pos p pos2:Pos}{E:L2.St->XK}{P:Addr}{ca:Str->Addr}
def Zo (n:Str)(f:M (List D)):M Out:=bnd f λds=>match ds with
 | [d]=>ret (.ret (.exc n [d]))
 | _=>fail
def XN0 (K:PySem.W.Frag)(C:Addr):Prop:=∃cd,clsIn K C=some cd/\nsIn K cd.ns "__init__" = some none
def El (n:Str)(f:M (List D)):M Out:=bnd f λds=>if ds.length<=1000 then ret (.ret (.exc n [])) else fail
theorem JZ {n:Str}{f:M (List D)}(x:XM X.K X.mg P ca)(hn:n∈Ci)(hf:Qb n=[])(xn:XN0 X.K (ca n))(hc:X.calm=true)(hx:GG qx X E)(hg:Gl X n)(ha:PA X (e :: es) (RA X.K f))
 (hdb:(n == ("__debug__" : Str))=false:=by decide) (h1:A5 e=false:=by rfl) (h2:AZ es=true:=by rfl):PS X (.Raise (some (.Call (.Name n p) (e :: es) [] pos)) none pos2) (RSX X.K E (El n f)):=by
 obtain ⟨cd,hcd,hni⟩:=xn;refine Bo (LF hc (x.cl n hn) hx (Ti (x.cl n hn) (x.kp n hn) hcd hni hg (x.ms _ hn) ha hdb (AT h1) (AS h2).1)) λD Z H z9=>?_;obtain ⟨Oo,c,t,fi,o,t',eq,k⟩:=z9;obtain ⟨ds,t1,e1,eq⟩:=Ai eq;refine ⟨Oo,c,t,fi,ds,t1,e1,λvs H1 c1 f1 s1 rvs=>?_⟩
 split at eq
 ·next hl=>
  cases eq
  refine ⟨by rw [rvs.length];exact hl,λy hy=>?_⟩;have f3:=f1.laid (o:=.ext (XIs qx y (ca n) none)) hy;exact k Z _ c1 f3 (s1.trans (f1.stp_laid hy)) (.ref y) (.exc (x.ns _ hn) Au (f1.s.free hy) (vs:=[]) rfl .nil) y none rfl
 ·cases eq
end
section
variable {X:Cx}{pos p:Pos}{P:Addr}{ca:Str->Addr}{μ:Cf->Hp->D->(V->Hp->Prop)->Prop}
noncomputable def unE (i:Nat)(t:T):T:={ t with env:=t.env.set i none }
def hAs (n':Str)(i:Nat)(s:M Out)(r:D->M Out):D->M Out:=λe t=>match e with
 | .exc n ds=>if Q0 n n'=true then (match s { t with env:=t.env.set i (some (.val (.exc n ds))) } with
   | some (o,t2)=>some (o,unE i t2)
   | none=>none) else r (.exc n ds) t
 | _=>none
def hNo (n':Str)(s:M Out)(r:D->M Out):D->M Out:=λe t=>match e with
 | .exc n ds=>if Q0 n n'=true then s t else r (.exc n ds) t
 | _=>none
noncomputable def ZD (b:M Out)(h:D->M Out):M Out:=λt=>match b t with
 | some (.ret (.exc n ds),t1)=>if n∈Ci then h (.exc n ds) t1 else none
 | z=>z
end
end F2
namespace F2
open PySem L2 PySem.Spec PySem.W
variable {qx:Bool}
def ZA (n:Str):D->M D
 | .exc m _=>if m∈Ci then ret (.bl (Q0 m n)) else fail
 | .non=>ret (.bl false)
 | .bl _=>ret (.bl false)
 | .int _=>ret (.bl false)
 | .str _=>ret (.bl false)
 | .lst _=>ret (.bl false)
 | .tup _=>ret (.bl false)
 | .dic=>ret (.bl false)
 | _=>fail
section
variable {X:Cx}{P:Addr}{ca:Str->Addr}{a:Expr}{f:M D}{p pos q:Pos}
def Zz (nm:Str):D->M D
 | .exc n ds=>if n∈Ci then (match ((Qb n).zip ds).lookup nm with
   | some d=>ret d
   | none=>fail) else fail
 | _=>fail
end
end F2
namespace F2
open PySem L2 PySem.Spec PySem.W
variable {qx:Bool}
def NT (K:PySem.W.Frag)(P c:Addr):Bool:=Ku K c (.ref P :: VE) && keepIn K (.ref c) && findIn K (.ref c) "__getattribute__" == some (some (.builtin "BaseException.__getattribute__")) && findIn K (.ref c) "__getattr__" == some none && mroIn K c (.type "BaseException") == some true
 && mroIn K c (.type "object") == some true && hasDictIn K c && findIn K (.ref c) "__class__" == some (some (.builtin "object.__class__")) && findIn K (.ref c) "at" == some none && findIn K (.ref c) "side" == some none
structure XOne (K:PySem.W.Frag)(P c:Addr):Prop where
 cl:XCl K c (.ref P :: VE)
 kp:keepIn K (.ref c)=true
 gt:XGet K c
 gc:findIn K (.ref c) "__class__" = some (some (.builtin "object.__class__"))
 na:findIn K (.ref c) "at" = some none
 nd:findIn K (.ref c) "side" = some none
variable {K:PySem.W.Frag}
theorem JN {P c:Addr}(h:NT K P c=true):XOne K P c:=by
 unfold NT at h;simp only [uh7,beq_iff_eq] at h;obtain ⟨⟨⟨⟨⟨⟨⟨⟨⟨h1,h2⟩,h3⟩,h4⟩,h5⟩,h6⟩,h7⟩,h8⟩,h9⟩,h10⟩:=h;exact ⟨.of_in h1,h2,⟨h3,h4,h5,h6,h7⟩,h8,h9,h10⟩
noncomputable def Jo (c1 c2 c3:Addr):Str->Addr:=λn=>if n = "NoValue" then c1 else if n = "Short" then c2 else c3
theorem Co {Q:Str->Prop}(h1:Q "NoValue")(h2:Q "Short")(h3:Q "Broken"):∀n∈Ci,Q n:=by
 intro n hn;simp only [Ci,ul5,ui2,or_false] at hn;rcases hn with rfl | rfl | rfl <;> assumption
def NS (K:PySem.W.Frag)(P:Addr)(cs:List Addr):Bool:=Ku K P VE && cs.all (NT K P)
theorem XS {h:Heap}{mg:Str->Option Value}{P c1 c2 c3:Addr}(X:K.In h)(G:h.Ns mainGlobals mg)(p:nsIn K mainGlobals "ParleyError" = some (some (.ref P)))(a1:nsIn K mainGlobals "NoValue" = some (some (.ref c1)))(a2:nsIn K mainGlobals "Short" = some (some (.ref c2)))(a3:nsIn K mainGlobals "Broken" = some (some (.ref c3)))(q:NS K P [c1,c2,c3]=true)(nd:[P,c1,c2,c3].Nodup):XM K mg P (Jo c1 c2 c3):=by
 unfold NS at q;simp only [ul7,List.all_nil,ul8,uh7] at q;obtain ⟨q0,q1,q2,q3⟩:=q;have o1:=JN q1;have o2:=JN q2;have o3:=JN q3;have inj:∀n∈Ci,∀m∈Ci,Jo c1 c2 c3 n=Jo c1 c2 c3 m->n=m:=by
  simp only [uj5,ul5,ui2,or_false,not_or,List.nodup_nil,and_true] at nd;obtain ⟨⟨n1,n2,n3⟩,⟨m12,m13⟩,m23,_⟩:=nd;have h1:Jo c1 c2 c3 "NoValue" = c1:=rfl;have h2:Jo c1 c2 c3 "Short" = c2:=rfl;have h3:Jo c1 c2 c3 "Broken" = c3:=rfl;refine Co ?_ ?_ ?_ <;> refine Co ?_ ?_ ?_ <;> intro e <;> first | rfl | (exfalso;rw [h1] at e) | (exfalso;rw [h2] at e) | (exfalso;rw [h3] at e)
  all_goals (first | rw [h1] at e | rw [h2] at e | rw [h3] at e)
  all_goals (first | contradiction | (have e:=e.symm;contradiction))
 refine ⟨mg_of X G p,.of_in q0,Co a1 a2 a3,Co (mg_of X G a1) (mg_of X G a2) (mg_of X G a3),Co o1.cl o2.cl o3.cl,inj,?_,
  Co o1.kp o2.kp o3.kp,Co o1.gt o2.gt o3.gt,Co o1.gc o2.gc o3.gc,Co o1.na o2.na o3.na,Co o1.nd o2.nd o3.nd⟩
 simp only [uj5,ul5,ui2,or_false,not_or] at nd;obtain ⟨⟨n1,n2,n3⟩,_⟩:=nd;exact Co (Ne.symm n1) (Ne.symm n2) (Ne.symm n3)
noncomputable def Eh (s:Stmt)(k:Nat):Stmt:=match s with
 | .ClassDef _ _ _ body _ _ _ _ _ _ _=>body.getD k (.Pass ⟨0,0,0,0⟩)
 | _=>.Pass ⟨0,0,0,0⟩
noncomputable def Lj (K:PySem.W.Frag)(C f:Addr):Bool:=match clsIn K C with
 | some cd=>nsIn K cd.ns "__init__" == some (some (.ref f))
 | none=>false
noncomputable def IQ (K:PySem.W.Frag)(C:Addr):Bool:=match clsIn K C with
 | some cd=>nsIn K cd.ns "__init__" == some none
 | none=>false
theorem Pz {C:Addr}(h:IQ K C=true):XN0 K C:=by
 unfold IQ at h
 split at h
 ·next cd e=>exact ⟨cd,e,beq_iff_eq.mp h⟩
 ·cases h
end F2
namespace F2
open PySem L2 PySem.Spec PySem.W
inductive Kd where
 | pl | fr | ex | er
abbrev okK (k:Kd)(P:Program)(w:World)(K:PySem.W.Frag)(mg:Str->Option Value)(base:Heap)(n:Nat)(fa:Addr)(fd:FuncData)(ps:List Str)(f:Fn):Prop:=match k with
 | .pl=>FnOk P w K mg base CX0 n fa fd ps (spF K f)
 | .fr=>FnOk P w K mg base CX0 n fa fd ps (JG K f)
 | .ex=>FnOk P w K mg base (CX1 true P w) n fa fd ps (spX K f)
 | .er=>FnOk P w K mg base (CX1 false P w) n fa fd ps (spX K f)
section
variable {X:Cx}{e a b:Expr}{pos:Pos}{f g:M D}
theorem Mt {E:XK}(h:PE X e (RE X.K f)):PS X (.Return (some e) pos) (RSg X.K (μX X.K E) (Ak (nxD f))):=
 Bo (G6 h) λD Z H z9=>by
  obtain ⟨Oo,c,t,fi,o,t',eq,k⟩:=z9;obtain ⟨d,t1,e1,eq⟩:=Ai eq
  cases eq
  obtain ⟨e2,e3⟩:=Lz e1;exact ⟨Oo,c,t,fi,d,_,e2,λv H1 c1 f1 s1 rv=>OE e3 (k Z H1 c1 f1 s1 v rv)⟩
end
variable {qx:Bool}
section
variable {X:Cx}{P:Addr}{ca:Str->Addr}{a:Expr}{es:List Expr}{f:M D}{p pos q:Pos}{i:Nat}{ns:List Str}
end
end F2
namespace F2
open PySem L2 PySem.Spec SeqAt
end F2
namespace L2
open PySem PySem.Spec PyProof.Rows PySem.W PySem.Builtin PySem.Builtin.ObjectAttr
variable {qx:Bool}
section
variable {prog:Program}{w:World}{A:Around}{s:Shared}{K:PySem.W.Frag}{x C P dx:Addr}{ox:Obj}{od:Option Obj}{R:Result->Shared->Prop}{name:Str}{v:Value}{tk:Tok}{cd:ClassData}
theorem Qu (X:K.In s.heap)(I:InstAt s.heap x ox C od)(hc:clsIn K C=some cd)(hmr:cd.mro=Fg C P)(ha:findIn K (.ref C) name=some none)
 (h:wpAny (model prog w) A.in1 (storeInOwnDict (.ref x) (.ref C) (.str name tk) name v false) (λfin s'=>match fin with | .done f=>R (.ok f) s' | .again c'=>c'.quiet=true/\codeAny (model prog w) A c' R s') (λe s'=>R (.error e) s') s) :
 codeAny (model prog w) A (.call (.builtin "object.__setattr__") ⟨[.ref x,.str name tk,v],[]⟩) R s:=by
 have SF:=PySem.F.store_object;have ob:Looks (model prog w) s.heap (isInstance (.ref x) (.type "object")) true:=I.type.andThen (looks_mroIn X (by unfold mroIn;rw [hc,Option.bind_some,hmr];rfl));refine codeAny_call_builtin SF.slot.plain SF.entry (@check_slot (model prog w) _ _ s "object.__setattr__" "object" "__setattr__" (.ref x) [.str name tk,v] [] _ SF.kind SF.split ob (SF.args (.ref x) (.str name tk) v) ?_);have mr:Looks (model prog w) s.heap (mroOf (.ref C)) (Fg C P):=by rw [<-hmr];exact (looks_clsIn X hc).andThen .now
 rw [osa_eq,refuse_eq];refine uo7 (uo7 (I.type.here (uo7 (mr.here ?_))));rw [IV];refine uo8 (uo7 (I.type.here (uo7 ((looks_findIn X ha).here ?_))));exact uo7 (uo8 h)
theorem QZ {E:Value->Shared->Prop}{Q:Unit->Shared->Prop}{m:Str->Option Value}{a:Str}{oD:Obj}(X:K.In s.heap)(hx:s.heap.get? x=some ox)(hcl:ox.cls = .ref C)(hno:notCls ox=true)(hod:ox.dict=some dx)(hdx:s.heap.get? dx=some oD)(n1:s.heap.Ns1 dx m)(hm:PySem.Within m [a])(hs:findIn K (.ref C) "__setattr__" = some (some (.builtin "object.__setattr__")))(hc:clsIn K C=some cd)(hmr:cd.mro=Fg C P)(hd:cd.hasDict=true)(ha:findIn K (.ref C) name=some none)
 (h:∀h',(∀b o,b≠dx->s.heap.get? b=some o->h'.get? b=some o)->h'.Ns1 dx (λy=>if y=name then some v else m y)->Q () { s with heap:=h',toks:=s.toks + 2 }) :
 wpAny (model prog w) A (setAttr (.ref x) name v) Q E s:=by
 have I:InstAt s.heap x ox C (some oD):=⟨hx,hcl,hno,by rw [hod];exact hdx⟩;refine set_plain X I hs (Qu (s:={ s with toks:=s.toks + 1 }) X I hc hmr ha ?_);refine uo7 (uo8 (uo7 (uo7 (wpAny_loadPart (s:={ s with toks:=s.toks + 1 }) hx ?_))));rw [hod,hcl];refine uo7 (Looks.here (s:={ s with toks:=s.toks + 1 }) (looks_clsIn X hc) ?_);rw [hd,if_neg (by decide)];refine uo8 ?_;refine uo7 (uo8 (uo7 ?_));refine wpAny_nsSet1 n1 λh' n2 sb=>?_;obtain ⟨oD,esD,epD,hoD,hdD,hcD⟩:=n2.count (PySem.Within.cons name v hm);refine uo7 (wpAny_lookBehind hoD (by rw [hdD];exact pastItsLine_dict (um5 hcD (by show 2<=_;decide))) ?_);exact uo8 (h h' (λb o hb e=>(sb.2 b hb).trans e) n2)
end
def Yn (K:PySem.W.Frag)(P:Addr)(ta tv:TE)(f1 f:Str):TS:=λD Z H=>tv Z H λy H1=>ta Z H1 λx H2=>∃a C tp dx y1,x = .ref a/\H2 a=some (HU a C tp dx)/\H2 dx=some (.xd [(f1,y1)])/\dx≠a/\XAt K C P f/\D.nx Z (upd H2 dx (.xd [(f1,y1),(f,y)]))
theorem VF {X:Cx}{P:Addr}{o value:Expr}{ta tv:TE}{f1 f:Str}{pos' pos:Pos}(hf:f1≠f)(ha:PE X o ta)(hv:PE X value tv)(hs:swapsWith value (some (.Attribute o f pos')) pos.line X.env=pure false):PS X (.Assign [.Attribute o f pos'] value pos) (Yn X.K P ta tv f1 f):=by
 intro pins s Z H D I h;refine plainObj_wpAny_Assign_Attribute (thn (hv pins s Z H _ I h) λu s1 ⟨y,H1,I1,ry,q⟩=>thn (ha pins s1 Z H1 _ I1 q) λov s2 z9=>?_) hs;obtain ⟨x,H2,I2,rx,a,C,tp,dx,y1,ex,ea,ed,ne,c,q2⟩:=z9;subst ex;obtain rfl:ov=Value.ref a:=rx;obtain ⟨cd,c1,c2,c3⟩:=c.cl.cls;have hx:s2.heap.get? a=some { excObj C tp with dict:=some dx }:=(I2.hok a _ ea).1;obtain ⟨m,n1,rm⟩:=(show ObjOk X.prog X.w H2 s2.heap dx (.xd [(f1,y1)]) from I2.hok dx _ ed);obtain ⟨oD,ho,_⟩:=J1 n1;have hw:PySem.Within m [f1]:=λg hg=>by
  by_cases e:g=f1
  ·simp [e]
  ·exfalso;have z:=rm g;have hgb:(g == f1)=false:=beq_eq_false_iff_ne.mpr e;simp only [List.lookup,hgb] at z
   cases hm:m g with
   | none=>exact hg hm
   | some u=>rw [hm] at z;exact z
 refine QZ I2.kIn hx rfl rfl rfl ho n1 hw c.set c1 c2 c3 c.no λh' k n=>?_;have na:∀b u,s2.heap.get? b=some u->H2 b=none->b≠dx:=λb u _ z w'=>by rw [w',ed] at z;cases z
 refine ⟨Z,_,I2.un (h':=h') (t':=s2.toks + 2) ⟨λb u e1 e2 _ _=>k b u (na b u e1 e2) e1,λb u e1 e2 _ _=>⟨u.slots,k b u (na b u e1 e2) e1⟩,λb u e1 e2 _=>?_,λb u e1 _=>?_,λb xs e1=>?_,λb o' u e1=>?_,λb ps e1=>⟨#[],?_⟩⟩ λb u e1=>?_,q2⟩
 ·rw [Am (na b u e1 e2)];exact e2
 ·by_cases hb:b=dx
  ·subst hb;obtain ⟨od',es,ep,e,_⟩:=n;exact ⟨_,e⟩
  ·exact ⟨_,k b u hb e1⟩
 ·rw [Am (λz=>by rw [z,ed] at e1;cases e1)];exact e1
 ·rw [Am (λz=>by rw [z,ed] at e1;cases e1)];exact e1
 ·rw [Am (λz=>by rw [z,ed] at e1;cases e1),e1];simp
 ·by_cases hb:b=dx
  ·subst hb;rw [Au] at e1;cases e1
   refine ⟨_,n,λg=>?_⟩
   by_cases hg:g=f
   ·subst hg;have hgb:(g == f1)=false:=beq_eq_false_iff_ne.mpr (Ne.symm hf);simp only [List.lookup,hgb,ui9,if_true];exact ry
   ·have hgb:(g == f)=false:=beq_eq_false_iff_ne.mpr hg;have z:=rm g
    by_cases hg1:g=f1
    ·subst hg1;simp only [List.lookup,ui9] at z;simp only [List.lookup,ui9,if_neg hg];exact z
    ·have hgb1:(g == f1)=false:=beq_eq_false_iff_ne.mpr hg1;simp only [List.lookup,hgb1] at z;simp only [List.lookup,hgb,hgb1,if_neg hg];exact z
  ·rw [Am hb] at e1;refine (I2.hok b u e1).stay (λz v hz q=>k z v ?_ q) (λz q=>?_) λz xs q=>?_
   ·rcases hz with rfl | hz
    ·exact hb
    ·intro w';rw [w',ed] at hz;cases hz
   ·rw [Am (λz=>by rw [z,ed] at q;cases q)];exact q
   ·rw [Am (λz=>by rw [z,ed] at q;cases q)];exact q
def NJ (K:PySem.W.Frag)(P:Addr)(a b:Str):Sp:=λvs H Q _=>∃x C tp v u,vs=[.ref x,v,u]/\H x=some (exO x C tp)/\XAt K C P a/\XAt K C P b/\∀dx,H dx=none->dx≠x->Q .non (upd (upd H dx (.xd [(a,v),(b,u)])) x (HU x C tp dx))
section
variable {X:Cx}{k:Nat}{f C P:Addr}{fd:FuncData}{pins:List (Addr×Obj)}{Z:St}{H:Hp}{s:Shared}{Q:Value->Shared->Prop}{us:List Value}{vs:List V}{a b:Str}{ps:List Str}{v v2:V}{u u2:Value}
theorem NG (M:XMk X.K C P f)(ha:XAt X.K C P a)(hab:XAt X.K C P b)(F:FnOk X.prog X.w X.K X.mg X.base CX0 k f fd ps (NJ X.K P a b))(hr:Room (k + 1) X.A)(hb:Binds X.K fd ps [])(I:Inv X pins Z H s)(r:RelV v u)(rr:RelV v2 u2)
 (h:∀s' x dx,Inv X pins Z (upd (upd H dx (.xd [(a,v),(b,v2)])) x (.ext (F2.XIs qx x C (some dx)))) s'->H x=none->H dx=none->dx≠x->s.heap.objs.size<=x->XRec true s'.heap x C (some dx) .none->Q (.ref x) s'):wpAny (model X.prog X.w) X.A (call (.ref C) [u,u2]) Q X.xe s:=by
 obtain ⟨nm,q,N,bs,sn,sub,ab,col,dd,k0,k1,k2,k3,k5,hC,hN⟩:=M.cl.obj I.kIn;have hni:s.heap.nsMap N "__init__" = some (.ref f):=by
  obtain ⟨cd,c1,c2⟩:=M.init;refine Nr I.kIn hN ?_;unfold clsIn at c1
  split at c1
  ·next l=>
   cases c1
   have z:=I.kIn _ _ l;rw [hC] at z
   cases z
   exact c2
  ·cases c1
 have I1:Inv X pins Z (upd H (s.heap.objs.size + 1) (exO (s.heap.objs.size + 1) C s.heap.objs.size)) { s with heap:=DY s.heap C [u,u2] }:=by
  refine I.laid (t':=s.toks) (λb o e=>ub8 _ (ub8 _ e)) (uo4 _) (UK ?_);show ((s.heap.push _).push _).get? _=_
  heap_get
 have hx0:=I.hok.fresh (uo4 s.heap.objs.size);have r2:Vals [V.ref (s.heap.objs.size + 1),v,v2] [Value.ref (s.heap.objs.size + 1),u,u2]:=.cons rfl (.cons r (.cons rr .nil));have hsp:NJ X.K P a b [V.ref (s.heap.objs.size + 1),v,v2] (upd H (s.heap.objs.size + 1) (exO (s.heap.objs.size + 1) C s.heap.objs.size))
  (λw' H'=>w' = .non/\∃dx,H dx=none/\dx≠s.heap.objs.size + 1/\H'=upd (upd H dx (.xd [(a,v),(b,v2)])) (s.heap.objs.size + 1) (HU (s.heap.objs.size + 1) C s.heap.objs.size dx)) E0:=by
  refine ⟨_,C,s.heap.objs.size,v,v2,rfl,Au,ha,hab,λdx h1 h2=>⟨rfl,dx,by rw [Am h2] at h1;exact h1,h2,?_⟩⟩
  funext b
  by_cases e1:b=s.heap.objs.size + 1
  ·subst e1;rw [Au,Au]
  ·by_cases e2:b=dx
   ·subst e2;rw [Am e1,Am e1,Au,Au]
   ·rw [Am e1,Am e1,Am e2,Am e2,Am e1]
 have hl:([Value.ref (s.heap.objs.size + 1),u,u2]++[]).length=ps.length:=by
  have e:=F.len _ _ _ _ hsp;simpa using e
 obtain ⟨hh,g,d,t,os⟩:=s;refine wpAny_call (Qp PySem.F.excBase_ValueError (M.cl.tail I.kIn) hC hN hni ((bind_fn I.kIn _ (beq_iff_eq.mp M.fn))) (by show 2<=sizeLine;decide) ?_);refine codeAny_mono (F.run _ X.stack _ _ ⟨[Value.ref (hh.objs.size + 1),u,u2],[]⟩ [Value.ref (hh.objs.size + 1),u,u2] _ _ E0 (hr.make C [u,u2] []) (I1.env0.make C [u,u2] []) (by have:=hb _ [Value.ref (hh.objs.size + 1),u,u2] I1.kIn hl;simpa using this) r2 hsp) λr s' hq'=>?_
 cases r with
 | error e=>exact hq'.elim
 | ok fl=>
   cases fl with
   | ret w'=>
     obtain ⟨v',H',I3,rv,rfl,dx,d1,d2,rfl⟩:=I1.after hq';refine ⟨rv,?_⟩;have hx:=(I3.hok (hh.objs.size + 1) _ Au).1;have hx:s'.heap.get? (hh.objs.size + 1)=some { excObj C hh.objs.size with dict:=some dx }:=hx;have xr:XRec true s'.heap (hh.objs.size + 1) C (some dx) .none:=⟨_,_,hx,rfl,rfl,rfl,rfl,λ_=>⟨rfl,by show 4 < 6;decide⟩⟩;have I4:=I3.write (x:=hh.objs.size + 1) (e:=hh.objs.size + 1) (o:=.ext (F2.XIs qx (hh.objs.size + 1) C (some dx))) (h':=s'.heap) (t':=s'.toks) (by rw [Au];trivial) (.inl rfl) (λ_ _ _ z=>z) ⟨_,hx⟩ (La xr.to.is);rw [T9] at I4;exact h s' (hh.objs.size + 1) dx I4 hx0 d1 d2 (uo4 _) xr
   | next=>exact False.elim hq'
   | brk=>exact False.elim hq'
   | cont=>exact False.elim hq'
end
section
variable {X:Cx}{k:Nat}{f C P:Addr}{fd:FuncData}{a b:Str}{ps:List Str}{n:Str}{p pos:Pos}{e e':Expr}
theorem VC {t:TA}(M:XMk X.K C P f)(ha:XAt X.K C P a)(hab:XAt X.K C P b)(F:FnOk X.prog X.w X.K X.mg X.base CX0 k f fd ps (NJ X.K P a b))(hr:Room (k + 1) X.A)(hb:Binds X.K fd ps [])(hg:Gl X n)(hm:X.mg n=some (.ref C))(hA:PA X [e,e'] t)
 (hdb:(n == ("__debug__" : Str))=false:=by decide) (h1:starEach [e,e'] X.env=(false,eval e X.env) :: starEach [e'] X.env:=by rfl) (hpl:(backTo pos (starEach [e'] X.env)).any (·.1)=false:=by rfl) :
 PM qx X (.Call (.Name n p) [e,e'] [] pos) C (λZ H Q=>t Z H λvs H1=>∃v u,vs=[v,u]/\∀x dx,H1 x=none->H1 dx=none->dx≠x->Q x (some dx) (upd (upd H1 dx (.xd [(a,v),(b,u)])) x (.ext (F2.XIs qx x C (some dx))))):=by
 intro pins s Z H Q I h;refine wpAny_Call_Name_kw (EC I hg hm ?_ hdb);refine uf5 (h₀:=X.base) I.ok.mod.kin M.kp (thn (hA pos pins s Z H _ I h) λus s1 z9=>?_) h1 hpl;obtain ⟨vs,H1,I1,r,v,u,ev,q⟩:=z9;refine ⟨I1.kIn,?_⟩;subst ev
 cases r with
 | cons r0 rs=>
   cases rs with
   | cons r1 rs=>
     cases rs
     exact NG M ha hab F hr hb I1 r0 r1 λs' x dx I' hx hdx ne nx rc=>⟨x,some dx,_,rfl,I',Au,um5 I1.sz nx,rc,q x dx hx hdx ne⟩
end
end L2
namespace F2
open PySem L2 PySem.Spec PySem.W
variable {qx:Bool}
section
variable {X:Cx}{e e':Expr}{pos p pos2:Pos}{E:L2.St->XK}{P:Addr}{ca:Str->Addr}
def XN2 (prog:Program)(w:World)(K:PySem.W.Frag)(mg:Str->Option Value)(base:Heap)(C P:Addr):Prop:=
 ∃(f:Addr) (fd:FuncData) (ps:List Str),XMk K C P f/\XAt K C P "at"/\XAt K C P "side"/\Binds K fd ps []/\FnOk prog w K mg base CX0 1 f fd ps (NJ K P "at" "side")
def FT (n:Str)(f:M (List D)):M Out:=bnd f λds=>match ds with
 | [d,d']=>ret (.ret (.exc n [d,d']))
 | _=>fail
theorem Oz {f:M (List D)}(x:XM X.K X.mg P ca)(xn:XN2 X.prog X.w X.K X.mg X.base (ca "Broken") P)(hr:L2.Room 2 X.A)(hc:X.calm=true)(hx:GG qx X E)(hg:Gl X "Broken")(ha:PA X [e,e'] (RA X.K f))
 (h1:A5 e=false:=by rfl) (h2:AZ [e']=true:=by rfl):PS X (.Raise (some (.Call (.Name "Broken" p) [e,e'] [] pos)) none pos2) (RSX X.K E (FT "Broken" f)):=by
 obtain ⟨fa,fd,ps,M,A,A2,B,F⟩:=xn;have hn:("Broken" : Str)∈Ci:=by decide
 refine Bo (LF hc M.cl hx (VC M A A2 F hr B hg (x.ms _ hn) ha (by decide) (AT h1) (AS h2).1)) λD Z H z9=>?_;obtain ⟨Oo,c,t,fi,o,t',eq,k⟩:=z9;obtain ⟨ds,t1,e1,eq⟩:=Ai eq;refine ⟨Oo,c,t,fi,ds,t1,e1,λvs H1 c1 f1 s1 rvs=>?_⟩;rcases ds with _ | ⟨d,_ | ⟨d',_ | ⟨_,_⟩⟩⟩
 ·cases eq
 ·cases eq
 ·cases rvs with
  | @cons v0 _ _ _ rv r=>
  cases r with
  | @cons v1 _ _ _ rv1 r=>
  cases r
  cases eq
  refine ⟨_,_,rfl,λy dx hy hdx ne=>?_⟩;have f2:=f1.laid (o:=.xd [("at",v0),("side",v1)]) hdx;have hy2:upd H1 dx (.xd [("at",v0),("side",v1)]) y=none:=by rw [Am (Ne.symm ne)];exact hy
  have f3:=f2.laid (o:=.ext (XIs qx y (ca "Broken") (some dx))) hy2;have ex:=(f1.stp_laid (o:=.xd [("at",v0),("side",v1)]) hdx).ext.trans (f2.stp_laid (o:=.ext (XIs qx y (ca "Broken") (some dx))) hy2).ext;have s3:=s1.trans ((f1.stp_laid (o:=.xd [("at",v0),("side",v1)]) hdx).trans (f2.stp_laid (o:=.ext (XIs qx y (ca "Broken") (some dx))) hy2));refine k Z _ c1 f3 s3 (.ref y) (.exc (x.ns _ hn) Au (f2.s.free hy2) ?_ (.cons (rv.mono ex) (.cons (rv1.mono ex) .nil))) y (some dx) rfl;exact ⟨by rw [Am ne,Au];rfl,f1.s.free hdx⟩
 ·cases eq
end
def XF2 (K:PySem.W.Frag)(C P:Addr)(qual:Str)(st:Stmt):Prop:=∃(f:Addr) (fd:FuncData),XMk K C P f/\XAt K C P "at"/\XAt K C P "side"/\Binds K fd ["self", "at", "side"] []/\Fun K "__init__" qual st f fd
theorem WA {K:PySem.W.Frag}{C P f:Addr}{qual:Str}{st:Stmt}{od an:Option Addr}{sl:Array (Option Value)}{oc kV dc pm cd ct:Value}(o:XOne K P C)(i:Lj K C f=true)(hf:isFn K (.ref f)=true)(hs:findIn K (.ref C) "__setattr__" = some (some (.builtin "object.__setattr__")))
 (l:K.lookup f=some ⟨oc,od,.func (PySem.W.fnOf "__init__" qual (DJ st) (By st) (Ay st) .none kV dc pm an cd ct),sl⟩) (c:codeIn K cd qual=true) (k:keepIn K (.ref f)=true)
 (hb:∀(kV doc pm:Value) (an:Option Addr) (cdv ct:Value) (us:List Value),us.length=3->bindArgs (PySem.W.fnOf "__init__" qual (DJ st) (By st) (Ay st) .none kV doc pm an cdv ct) ⟨us,[]⟩=pure ((["self", "at", "side"]:List Str).zip us)):XF2 K C P qual st:=by
 refine ⟨f,_,⟨o.cl,?_,hf,o.kp⟩,⟨o.cl,hs,o.na⟩,⟨o.cl,hs,o.nd⟩,(IH (st:=st) l c k).binds (ps:=["self", "at", "side"]) hb,IH (st:=st) l c k⟩;unfold Lj at i
 split at i
 ·next cd' e=>exact ⟨cd',e,beq_iff_eq.mp i⟩
 ·cases i
theorem Qf {prog:Program}{w:World}{K:PySem.W.Frag}{mg:Str->Option Value}{base:Heap}{C P:Addr}{qual:Str}{st:Stmt}{p1 p2 p3 p4 p5 p6 p7 p8:Pos}(hbd:By st=[.Assign [.Attribute (.Name "self" p1) "at" p2] (.Name "at" p3) p4,.Assign [.Attribute (.Name "self" p5) "side" p6] (.Name "side" p7) p8])(S:FnScope ["self", "at", "side"] ["self", "at", "side"] (Ay st))
 (s1:(Ay st).names.lookup ("self" : Str)=some NameKind.local) (s2:(Ay st).names.lookup ("at" : Str)=some NameKind.local) (s3:(Ay st).names.lookup ("side" : Str)=some NameKind.local) (x:XF2 K C P qual st):XN2 prog w K mg base C P:=by
 obtain ⟨f,fd,M,A,A2,B,F⟩:=x;refine ⟨f,fd,_,M,A,A2,B,F.ok (k:=0) S (λvs H Q E h=>?_) λcdv A' outer s H vs Q E hr h=>?_⟩
 ·obtain ⟨y,C',tp,v,u,rfl,_⟩:=h;rfl
 ·rw [hbd];refine ⟨_,LH (WZ (P:=P) (C8 (i:=0) rfl (.inl s1) (by decide) (by decide)) (C8 (i:=1) rfl (.inl s2) (by decide) (by decide)) rfl) (MH (VF (P:=P) (f1:="at") (by decide) (C8 (i:=0) rfl (.inl s1) (by decide) (by decide)) (C8 (i:=2) rfl (.inl s3) (by decide) (by decide)) rfl)),?_⟩;obtain ⟨y,C',tp,v,u,rfl,hy,ha,ha2,k⟩:=h;refine ⟨v,rfl,.ref y,rfl,y,C',tp,rfl,hy,ha,λdx h1 h2=>⟨u,rfl,.ref y,rfl,y,C',tp,dx,v,rfl,Au,by rw [Am h2,Au],h2,ha2,?_⟩⟩;have z:=k dx h1 h2;have e:upd (upd (upd H dx (.xd [("at",v)])) y (HU y C' tp dx)) dx (.xd [("at",v),("side",u)])=upd (upd H dx (.xd [("at",v),("side",u)])) y (HU y C' tp dx):=by
   funext b
   by_cases e1:b=dx
   ·subst e1;rw [Au,Am h2,Au]
   ·by_cases e2:b=y
    ·subst e2;rw [Am e1,Au,Au]
    ·rw [Am e1,Am e2,Am e1,Am e2,Am e1]
  rw [e];exact z
end F2
namespace L2
open PySem PySem.Spec PyProof.Rows PySem.W
end L2
namespace F2
open PySem L2 PySem.Spec
section
variable {X:Cx}{a b:Expr}{pos:Pos}
end
end F2
namespace L2
open PySem PySem.Spec PyProof.Rows PySem.W
section
variable {prog:Program}{w:World}{A:Around}{E:Value->Shared->Prop}{env:Env}{K:PySem.W.Frag}{C:Addr}{bm:List Value}{s:Shared}
end
section
variable {X:Cx}{pins:List (Addr×Obj)}{Z:St}{H:Hp}{s s':Shared}{qx:Bool}{x C:Addr}{dx T:Option Addr}{fl:Value}
end
section
variable {X:Cx}{n v:Str}{C' C2:Addr}{bm' bm2:List Value}{p pos p2:Pos}{e cN:Expr}{rest:List ExceptHandler}{t:St->Hp->(Addr->Option Addr->Hp->Prop)->Prop}{tr:Addr->Addr->Option Addr->TS}{i:Nat}{E:St->XK}
end
structure FnOkH (P:Program)(w:World)(K:PySem.W.Frag)(mg:Str->Option Value)(base:Heap)(CX:CXT)(k:Nat)(f:Addr)(fd:FuncData)(ps:List Str)(sp:Sp):Prop where
 len:∀vs H Q E,sp vs H Q E->vs.length=ps.length
 run:∀(z:Addr) (A:Around) (outer:List Env) (s:Shared) (H:Hp) (args:Args) (us:List Value) (vs:List V) (Q:VK) (E:XK),Room k A->Env0 P w K mg base A outer s H->BindsTo s fd args (ps.zip us)->Vals vs us->sp vs H Q E->
  codeAny (model P w) (A.mark (some (.ref z))) (.call (.ref f) args) (CR CX outer P w H s Q E) s
section
variable {qx:Bool}{X:Cx}{k:Nat}{f C P:Addr}{fd:FuncData}{pins:List (Addr×Obj)}{Z:St}{H:Hp}{s:Shared}{Q:Value->Shared->Prop}{us:List Value}{vs:List V}{a b:Str}{ps:List Str}{v v2:V}{u u2:Value}{n:Str}{p pos:Pos}{e e':Expr}
end
end L2
namespace F2
open PySem L2 PySem.Spec PySem.W
section
variable {X:Cx}{pos p p2 p3 p4:Pos}{P:Addr}{ca:Str->Addr}{E:XK}{e e' cN:Expr}
end
end F2
namespace L2
open PySem PySem.Spec PyProof.Rows
section
variable {prog:Program}{w:World}{A:Around}{E:Value->Shared->Prop}{s:Shared}
variable {I:Addr}{fp wr:List Addr}{G:Array GenState->Array GenState->Prop}{n:Nat}{P:Nat->Value->Prop}{St:Nat->Shared->Prop}
def Zj (prog:Program)(w:World)(h:Heap)(no:List Addr)(k:Key)(x v:Value):Prop:=∃(p:Addr) (o:Obj) (kv:Value) (q:Nat),v = .ref p/\p∉no/\h.get? p=some o/\o.cls = .type "tuple"/\o.data = .seq #[kv,x] q/\(Jz prog w).is k kv=true
end
section
variable {X:Cx}
end
end L2
namespace F2
open PySem L2 PySem.Spec PyProof.Rows
section
variable {X:Cx}{pos:Pos}{e:Expr}
end
end F2
namespace L2
open PySem PySem.Spec PyProof.Rows
section
variable {X:Cx}
end
end L2
namespace F2
open PySem L2 PySem.Spec PyProof.Rows
section
variable {K:PySem.W.Frag}
end
section
variable {X:Cx}{pos:Pos}{e:Expr}
end
end F2
namespace F2
open PySem L2 PySem.Spec PySem.W
section
variable {X:Cx}
end
section
variable {K:PySem.W.Frag}{c:Cf}{H:Hp}
end
end F2
namespace L2
open PySem PySem.Spec PySem.W PyProof.Rows
section
variable {X:Cx}{CX:CXT}{k:Nat}{f C:Addr}{fd:FuncData}{ps:List Str}{sp:Sp}{E:St->XK}{x m:Str}{p pos apos:Pos}{e o:Expr}{es:List Expr}{ta:TE}{t:TA}
structure ByCls (K:PySem.W.Frag)(C:Addr)(m:Str)(f:Addr):Prop where
 ga:specialIn K (.ref C) "__getattribute__" = some (some (.builtin "type.__getattribute__"))
 rd:readsIn K C (.type "type")=true
 at_:(match findCls K (.ref C) (.type "type") m with | some (.val (.ref g))=>g == f | _=>false)=true
 kp:keepIn K (.ref f)=true
end
end L2
namespace F2
open PySem L2 PySem.Spec PySem.W
section
variable {X:Cx}{e o a value:Expr}{es:List Expr}{pos pos' apos p:Pos}{f:Str}{g gv ga:M D}{fl:M (List D)}{C:Addr}
structure MAt (K:PySem.W.Frag)(n m:Str)(C fa:Addr):Prop where
 cl:n∈UG
 at_:nsIn K mainGlobals n=some (some (.ref C))
 me:Meth K C m fa
 na:m∉atN
section
variable {k:Nat}{fa:Addr}{fd:FuncData}{ps:List Str}{h:Fn}{n m:Str}{qx:Bool}{E:L2.St->XK}
end
end
theorem Vi {k:Kd}{P:Program}{w:World}{K:PySem.W.Frag}{mg:Str->Option Value}{base:Heap}{n:Nat}{fa:Addr}{fd:FuncData}{ps:List Str}{f:Fn}(h:okK k P w K mg base n fa fd ps f):okK k P w K mg base (n + 1) fa fd ps f:=by
 cases k <;> exact FnOk.mono h (uo4 _)
end F2
namespace L2
open PySem PySem.Spec PyProof.Rows
def mkT (sp:Sp)(K:PySem.W.Frag)(l:Addr)(all:List V):List V->V×Int->Hp->VK->Prop
 | [],b,H,Q=>Q b.1 H
 | x :: r,b,H,Q=>sp [x] H (λkv H'=>∃i,kv = .int i/\SqL K H' l all/\mkT sp K l all r (if i < b.2 then (x,i) else b) H' Q) E0
def IU (sp:Sp)(K:PySem.W.Frag):List V->Hp->VK->Prop:=λxs H Q=>∃l x r,xs=[.ref l]/\SqL K H l (x :: r)/\sp [x] H (λkv H'=>∃i,kv = .int i/\SqL K H' l (x :: r)/\mkT sp K l (x :: r) r (x,i) H' Q) E0
section
variable {X:Cx}{k:Nat}{f l I S:Addr}{fd:FuncData}{ps:List Str}{sp:Sp}{pins:List (Addr×Obj)}{Z:St}{H:Hp}{s:Shared}{Q:VK}{oS oI oS' oI':Obj}{h':Heap}{t':Nat}
theorem MK {u:Value}{x:V}{E:Value->Shared->Prop}(F:FnOk X.prog X.w X.K X.mg X.base CX0 k f fd ps sp)(hr:Room (k + 1) X.A)(hb:Binds X.K fd ps [])(i:Inv X pins Z H s)(r:RelV x u)(h:sp [x] H Q E0):wpAny (model X.prog X.w) X.A.in1 (call (.ref f) [u]) (EP X pins Z Q) E s:=by
 have r2:Vals [x] [u]:=.cons r .nil;have hl:([u]++[]).length=ps.length:=F.len _ _ _ _ h;refine wpAny_call (codeAny_mono (F.run X.A.in1 X.stack s H ⟨[u],[]⟩ ([u]++[]) [x] Q E0 hr.in1 i.env0.in1 (hb s [u] i.kIn hl) r2 h) λr s' hq=>?_)
 cases r with
 | error e=>exact False.elim hq
 | ok fl=>
   cases fl with
   | ret u=>exact i.after hq
   | next=>exact False.elim hq
   | brk=>exact False.elim hq
   | cont=>exact False.elim hq
theorem Hr (i:Inv X (pins++[(S,oS),(I,oI)]) Z H s):s.heap.get? S=some oS/\H S=none/\S≠X.env.locals/\S∉X.fs/\∀v,oS.data≠.cell v:=i.pin (S,oS) (uc9 _ (uc9 _ (.head _)))
theorem Hq (i:Inv X (pins++[(S,oS),(I,oI)]) Z H s):s.heap.get? I=some oI/\H I=none/\I≠X.env.locals/\I∉X.fs/\∀v,oI.data≠.cell v:=i.pin (I,oI) (uc9 _ (uc9 _ (.tail _ (.head _))))
def FpS (X:Cx)(pins:List (Addr×Obj))(b:Addr):Prop:=(b∈X.ex\/X.s₀.heap.objs.size<=b)/\(∀x c,X.env.cells.lookup x=some c->c≠b)/\∀p∈X.pn++pins,p.1≠b
theorem Ps (i:Inv X (pins++[(S,oS),(I,oI)]) Z H s)(fI:FpS X pins I)(hSI:S≠I)(k:∀b o,b∉[I]->s.heap.get? b=some o->h'.get? b=some o)(g:h'.get? I=some oI')(nc:∀v,oI'.data≠.cell v):Inv X (pins++[(S,oS),(I,oI')]) Z H { s with heap:=h',toks:=t' }:=by
 have pI:=Hq i;have pS:=Hr i;have i1:=i.unpinned.turned (t':=t') (it:=I) (λb o hb e=>k b o (by simpa using hb) e) pI.2.1 pI.2.2.1 fI.1 fI.2.1 fI.2.2;refine i1.pins_of λp hp=>?_;rcases uj1.mp hp with hp | hp
 ·exact i1.pin p (uc9 _ hp)
 ·rcases ul5.mp hp with rfl | hp
  ·exact ⟨k S oS (by simpa using hSI) pS.1,pS.2⟩
  ·rw [uf8.mp hp];exact ⟨g,pI.2.1,pI.2.2.1,pI.2.2.2.1,nc⟩
theorem Pt (i:Inv X (pins++[(S,oS),(I,oI)]) Z H s)(fS:FpS X pins S)(hSI:S≠I)(k:∀b o,b≠S->s.heap.get? b=some o->h'.get? b=some o)(g:h'.get? S=some oS')(nc:∀v,oS'.data≠.cell v):Inv X (pins++[(S,oS'),(I,oI)]) Z H { s with heap:=h',toks:=t' }:=by
 have pI:=Hq i;have pS:=Hr i;have i1:=i.unpinned.turned (t':=t') (it:=S) k pS.2.1 pS.2.2.1 fS.1 fS.2.1 fS.2.2;refine i1.pins_of λp hp=>?_;rcases uj1.mp hp with hp | hp
 ·exact i1.pin p (uc9 _ hp)
 ·rcases ul5.mp hp with rfl | hp
  ·exact ⟨g,pS.2.1,pS.2.2.1,pS.2.2.2.1,nc⟩
  ·rw [uf8.mp hp];exact ⟨k I oI (Ne.symm hSI) pI.1,pI.2⟩
theorem E8 {hp:Heap}{F:Obj->Obj}{b:Addr}{o:Obj}(hb:b≠S)(e:hp.get? b=some o):(hp.update S F).get? b=some o:=((Heap.SameBut.update hp S F).2 b hb).trans e
theorem OQ {all:List V}(F:FnOk X.prog X.w X.K X.mg X.base CX0 k f fd ps sp)(hr:Room (k + 1) X.A)(hb:Binds X.K fd ps [])(hlI:l≠I)(hSI:S≠I)(fI:FpS X pins I)(fS:FpS X pins S) :
 ∀(r:List V) (j:Nat) (b:V×Int) (H:Hp) (s:Shared) (vb:Value) (tb:Tok) (c:Nat) (oI:Obj),all.drop (j + 1)=r->j + 1<=all.length->Inv X (pins++[(S,seqObj "list" #[vb,.int b.2 tb] c),(I,oI)]) Z H s->SqL X.K H l all->RelV b.1 vb->s.heap.IsListIter I l (j + 1)->mkT sp X.K l all r b H Q->
  codeAny (model X.prog X.w) X.A (.builtin "min.loop" ⟨[.ref I,.ref f,.ref S],[]⟩) (λr s'=>match r with | .ok (.ret v)=>EP X pins Z Q v s' | .ok _=>False | .error e=>X.xe e s') s:=by
 have hname:(toString "min"++toString ".loop" : String) = "min.loop":=by decide
 have hh:X.A.handled=none:=hr.hd;intro r
 induction r with
 | nil=>
   intro j b H s vb tb c oI hd hj i hs rb hit h;obtain ⟨its,rv,pl,hz⟩:=i.list hs;have hlen:its.toArray.size=all.length:=by rw [ug2];exact rv.length.symm
   have hin:all.length=j + 1:=by have:=List.drop_eq_nil_iff.mp hd;lia
   have W:=Walks.list (prog:=X.prog) (w:=X.w) (A:=X.A.in1) hh I l hlI its.toArray;have pS:=Hr i;obtain ⟨hp,gn,dr,tk,os⟩:=s;refine codeAny_builtin uc3 ?_;rw [Around.under_plainId uc4 _];show wpAny _ X.A.in1 (seqItems? (.ref S) >>= _) _ _ _;refine uo7 (wpAny_seqItems pS.1 rfl ?_);show wpAny _ X.A.in1 (tryCatch (pyNext (.ref I)) _ >>= _) _ _ _;refine uo7 (wpAny_tryCatch (W.done _ _ _ ⟨by rw [hlen,hin];exact hit,pl.isList⟩ λh' tk' hk'=>?_));have i1:=i.unpinned.turned (t':=tk') (it:=I) (λb o hb e=>hk' b o (by simpa using hb) e) (Hq i).2.1 (Hq i).2.2.1 fI.1 fI.2.1 fI.2.2;have hS':=hk' S _ (by simpa using hSI) pS.1;show wpAny _ X.A.in1 (updateSeq S (λ_=>#[]) >>= _) _ _ _;refine uo7 ?_;refine wpAny_updateSeq hS' rfl (uo7 (wpAny_letGo (uo8 ?_)));exact ⟨b.1,H,i1.turned (t':=_) (it:=S) (λb o hb e=>E8 hb e) pS.2.1 pS.2.2.1 fS.1 fS.2.1 fS.2.2,rb,h⟩
 | cons x r ih=>
   intro j b H s vb tb c oI hd hj i hs rb hit h;obtain ⟨its,rv,pl,hz⟩:=i.list hs;have hlen:its.toArray.size=all.length:=by rw [ug2];exact rv.length.symm
   have hx:all[j + 1]?=some x:=by rw [<-List.head?_drop,hd];rfl
   have hlt:j + 1 < all.length:=(ua8.mp hx).1;have hd2:all.drop (j + 1 + 1)=r:=by rw [<-List.drop_drop,hd];rfl
   have W:=Walks.list (prog:=X.prog) (w:=X.w) (A:=X.A.in1) hh I l hlI its.toArray;have pS:=Hr i;obtain ⟨hp,gn,dr,tk,os⟩:=s;refine codeAny_builtin uc3 ?_;rw [Around.under_plainId uc4 _];show wpAny _ X.A.in1 (seqItems? (.ref S) >>= _) _ _ _;refine uo7 (wpAny_seqItems pS.1 rfl ?_);show wpAny _ X.A.in1 (tryCatch (pyNext (.ref I)) _ >>= _) _ _ _;refine uo7 (wpAny_tryCatch (W.item (j + 1) _ _ _ (by rw [hlen];exact hlt) ⟨hit,pl.isList⟩ λv h' tk' hP hst' hk'=>?_));obtain ⟨v',ev,rv'⟩:=rv.get hx;have hv:v'=v:=by
    have e:its[j + 1]?=some v:=by simpa using hP
    rw [ev] at e;exact uj2 e
   subst hv;obtain ⟨oI',hoI',hoc,hod⟩:=id hst'.1;have i2:=Ps (t':=tk') i fI hSI hk' hoI' (by rw [hod];intro v z;cases z)
   show wpAny _ X.A.in1 (tryCatch (holding [v'] (call (.ref f) [v'])) _ >>= _) _ _ _;refine uo7 (wpAny_tryCatch (um2 (uo9 (MK F hr hb i2 rv' h) (λu s3 he=>?_) λ_ _ hF=>hF)));obtain ⟨kv,H3,i3,rk,n,rfl,hs3,h3⟩:=he;obtain ⟨t2,rfl⟩:=rk;have pS3:=Hr i3;have pI3:=Hq i3;have hit3:s3.heap.IsListIter I l (j + 1 + 1):=⟨oI',pI3.1,hoc,hod⟩;obtain ⟨hp3,gn3,dr3,tk3,os3⟩:=s3;show wpAny _ X.A.in1 (tryCatch (holding [v',.int n t2] (richCompare .Lt (.int n t2) (.int b.2 tb) >>= _)) _ >>= _) _ _ _;refine uo7 (wpAny_tryCatch (um2 (uo7 (CmpOf.ints_lt (prog:=X.prog) (w:=X.w) (A:=X.A.in1) (P:=λi v=>∃t,v = .int ([n,b.2].getD i 0) t) (λi=>[n,b.2].getD i 0) (λi v h=>h) 0 1 _ _ _ _ _ ⟨t2,rfl⟩ ⟨tb,rfl⟩ ?_))));refine uo7 (um2 (wpAny_truthy_bool ?_));refine uo7 (wpAny_letGo (uo8 ?_));have e01:((λi=>[n,b.2].getD i 0) 0 < (λi=>[n,b.2].getD i 0) 1)↔n < b.2:=Iff.rfl
   by_cases hlt2:n < b.2
   ·rw [if_pos hlt2] at h3;have hlt3:(λi=>[n,b.2].getD i 0) 0 < (λi=>[n,b.2].getD i 0) 1:=hlt2;obtain ⟨c2,hc2⟩:∃c2,(hp3.update S (Obj.mapSeq λ_=>#[v',.int n t2])).get? S=some (seqObj "list" #[v',.int n t2] c2):=⟨_,get?_update_seq pS3.1 λ_=>#[v',.int n t2]⟩;simp only [hlt3,decide_true,if_true];refine uo7 ?_;refine wpAny_updateSeq pS3.1 rfl (uo7 (wpAny_letGo ?_));rw [hname];refine uo8 ⟨plainId_quiet uc4 _,ih (j + 1) (x,n) H3 _ v' t2 c2 oI' hd2 hlt (Pt (t':=_) i3 fS hSI (λb o hb e=>E8 hb e) hc2 (by intro v z;cases z)) hs3 rv' ⟨oI',E8 (Ne.symm hSI) pI3.1,hoc,hod⟩ h3⟩
   ·rw [if_neg hlt2] at h3;have hlt3:¬(λi=>[n,b.2].getD i 0) 0 < (λi=>[n,b.2].getD i 0) 1:=hlt2;simp only [hlt3,decide_false,uf7,if_false];refine uo7 (wpAny_letGo ?_);rw [hname];exact uo8 ⟨plainId_quiet uc4 _,ih (j + 1) b H3 _ vb tb c oI' hd2 hlt (i3.tok _) hs3 rb hit3 h3⟩
theorem Oh {u:Value}{x0:V}(F:FnOk X.prog X.w X.K X.mg X.base CX0 k f fd ps sp)(hr:Room (k + 1) X.A)(hb:Binds X.K fd ps [])(i:Inv X pins Z H s)(r0:RelV x0 u)(h:IU sp X.K [x0] H Q):wpAny (model X.prog X.w) X.A (call (.builtin "min") [u] [(Str.ofString "key",.ref f)]) (EP X pins Z Q) X.xe s:=by
 have hname:(toString "min"++toString ".loop" : String) = "min.loop":=by decide
 have hh:X.A.handled=none:=hr.hd;obtain ⟨l,x,r,e0,hs,h⟩:=h
 cases e0
 obtain rfl:u = .ref l:=r0;obtain ⟨its,rv,pl,hz⟩:=i.list hs;have hls:=pl.isList;have hll:l < s.heap.objs.size:=by obtain ⟨o,ho,_⟩:=hls;exact um3 ho
 obtain ⟨hp,gn,dr,tk,os⟩:=s;refine kmk_tree PySem.F.kind_min PySem.F.plain_min PySem.F.entry_min (kmk_min_key _ _) ?_;show wpAny _ X.A.in1 (Builtin.Builtins.bindParams "min" ["key", "default"] 0 ⟨[],[(Str.ofString "key",.ref f)]⟩ >>= _) _ _ _;refine uo7 (wpAny_of_eq (show Builtin.Builtins.bindParams "min" ["key", "default"] 0 ⟨[],[(Str.ofString "key",.ref f)]⟩=pure [some (.ref f),none] from rfl) ?_);refine uo7 (uo8 ?_);refine uo7 (wpAny_pyIter_list hls ?_);refine uo7 (wpAny_newList ?_ (uo5 _));rw [hname];have hS:(hp.push { cls:=.type "list_iterator",data:=.fields #[.ref l,.int 0 0] }).objs.size=hp.objs.size + 1:=size_push' ..;have hlI:l≠hp.objs.size:=um4 hll;have hSI:(hp.push { cls:=.type "list_iterator",data:=.fields #[.ref l,.int 0 0] }).objs.size≠hp.objs.size:=by rw [hS];exact um7 (uh9 _)
 refine uo8 ⟨plainId_quiet uc4 _,?_⟩;have gI:((hp.push { cls:=.type "list_iterator",data:=.fields #[.ref l,.int 0 0] }).push (seqObj "list" #[] 0)).get? hp.objs.size=some { cls:=.type "list_iterator",data:=.fields #[.ref l,.int 0 0] }:=
  ub8 _ (ue3 _ rfl)
 have gS:((hp.push { cls:=.type "list_iterator",data:=.fields #[.ref l,.int 0 0] }).push (seqObj "list" #[] 0)).get? (hp.push { cls:=.type "list_iterator",data:=.fields #[.ref l,.int 0 0] }).objs.size=some (seqObj "list" #[] 0):=ue3 _ rfl;have gl:((hp.push { cls:=.type "list_iterator",data:=.fields #[.ref l,.int 0 0] }).push (seqObj "list" #[] 0)).IsList l its.toArray:=(hls.push _).push _;have zI:H hp.objs.size=none:=i.hok.fresh (uo3 _);have zS:H (hp.push { cls:=.type "list_iterator",data:=.fields #[.ref l,.int 0 0] }).objs.size=none:=i.hok.fresh (by rw [hS];exact uo4 _);have fI:=i.fpOk (b:=hp.objs.size) (uo3 _) zI;have fS:=i.fpOk (b:=(hp.push { cls:=.type "list_iterator",data:=.fields #[.ref l,.int 0 0] }).objs.size) (by rw [hS];exact uo4 _) zS;generalize (hp.push { cls:=.type "list_iterator",data:=.fields #[.ref l,.int 0 0] }).objs.size=S at hSI gS zS fS ⊢;have ik:∀t',Inv X pins Z H { heap:=(hp.push { cls:=.type "list_iterator",data:=.fields #[.ref l,.int 0 0] }).push (seqObj "list" #[] 0),gens:=gn,drawn:=dr,toks:=t',os:=os }:=λt'=>i.kept (t':=t') λb o e=>ub8 _ (ub8 _ e);have i1:∀t',Inv X (pins++[(S,seqObj "list" #[] 0),(hp.objs.size,{ cls:=.type "list_iterator",data:=.fields #[.ref l,.int 0 0] })]) Z H { heap:=(hp.push { cls:=.type "list_iterator",data:=.fields #[.ref l,.int 0 0] }).push (seqObj "list" #[] 0),gens:=gn,drawn:=dr,toks:=t',os:=os }:=λt'=>(ik t').pins_of λp hp'=>by
  rcases uj1.mp hp' with hp' | hp'
  ·exact (ik t').pin p (uc9 _ hp')
  ·rcases ul5.mp hp' with rfl | hp'
   ·exact ⟨gS,fS.1,fS.2.1,fS.2.2.1,by intro v z;cases z⟩
   ·rw [uf8.mp hp'];exact ⟨gI,fI.1,fI.2.1,fI.2.2.1,by intro v z;cases z⟩
 generalize (hp.push { cls:=.type "list_iterator",data:=.fields #[.ref l,.int 0 0] }).push (seqObj "list" #[] 0)=hq at gI gS gl i1 ⊢;generalize hp.objs.size=I at *;have W:=Walks.list (prog:=X.prog) (w:=X.w) (A:=X.A.in1) hh I l hlI its.toArray;refine codeAny_builtin uc3 ?_;rw [Around.under_plainId uc4 _];show wpAny _ X.A.in1 (seqItems? (.ref _) >>= _) _ _ _;refine uo7 (wpAny_seqItems gS rfl ?_);show wpAny _ X.A.in1 (tryCatch (pyNext (.ref I)) _ >>= _) _ _ _;have hlen:its.length=r.length + 1:=by have:=rv.length;rw [ui4] at this;lia
 refine uo7 (wpAny_tryCatch (W.item 0 _ _ _ (by rw [ug2,hlen];lia) ⟨⟨_,gI,rfl,rfl⟩,gl⟩ λv h' tk' hP hst' hk'=>?_));obtain ⟨v',ev,rv'⟩:=rv.get (i:=0) (x:=x) rfl;have hv:v'=v:=by
  have e:its[0]?=some v:=by simpa using hP
  rw [ev] at e;exact uj2 e
 subst hv;obtain ⟨oI',hoI',hoc,hod⟩:=id hst'.1;have i2:=Ps (t':=tk') (i1 _) fI.2.2.2 hSI hk' hoI' (by rw [hod];intro v z;cases z)
 show wpAny _ X.A.in1 (tryCatch (holding [v'] (call (.ref f) [v'])) _ >>= _) _ _ _;refine uo7 (wpAny_tryCatch (um2 (uo9 (MK F hr hb i2 rv' h) (λu s3 he=>?_) λ_ _ hF=>hF)));obtain ⟨kv,H3,i3,rk,n,rfl,hs3,h3⟩:=he;obtain ⟨t2,rfl⟩:=rk;have pS3:=Hr i3;have pI3:=Hq i3;obtain ⟨hp3,gn3,dr3,tk3,os3⟩:=s3;obtain ⟨c2,hc2⟩:∃c2,(hp3.update S (Obj.mapSeq λ_=>#[v',.int n t2])).get? S=some (seqObj "list" #[v',.int n t2] c2):=⟨_,get?_update_seq pS3.1 λ_=>#[v',.int n t2]⟩;show wpAny _ X.A.in1 (updateSeq S (λ_=>#[v',.int n t2]) >>= _) _ _ _;refine uo7 ?_;refine wpAny_updateSeq pS3.1 rfl ?_;rw [hname];exact uo8 ⟨plainId_quiet uc4 _,OQ F hr hb hlI hSI fI.2.2.2 fS.2.2.2 r 0 (x,n) H3 _ v' t2 c2 oI' rfl (by rw [ui4];lia) (Pt (t':=_) i3 fS.2.2.2 hSI (λb o hb e=>E8 hb e) hc2 (by intro v z;cases z)) hs3 rv' ⟨oI',E8 (Ne.symm hSI) pI3.1,hoc,hod⟩ h3⟩
def Xa (sp:Sp)(K:PySem.W.Frag)(t:TE):TE:=λZ H Q=>t Z H λv H1=>IU sp K [v] H1 Q
theorem Tc {e:Expr}{te:TE}{y:Str}{p p2 kp pos:Pos}(F:FnOk X.prog X.w X.K X.mg X.base CX0 k f fd ps sp)(hr:Room (k + 1) X.A)(hg:Gl X "min")(hm:X.mg "min" = none)(hy:Gl X y)(hmy:X.mg y=some (.ref f))(hb:Binds X.K fd ps [])(ha:PE X e te)
 (hdy:(y == ("__debug__" : Str))=false:=by decide) (hst:starEach [e] X.env=(false,eval e X.env) :: starEach [] X.env:=by rfl) :
 PE X (.Call (.Name "min" p) [e] [⟨some "key",.Name y p2,kp⟩] pos) (Xa sp X.K te):=by
 intro pins s Z H Q i h;refine wpAny_Call_Name_kw (FQ i hg hm (u:=.builtin "min") rfl ?_ (by decide) (by decide));refine callWith_kw (id:="min") (e:=e) (rest:=[]) ?_ (by rw [hst];rfl) (by rw [hst];rfl) (by rfl) (by rfl);refine thn ((FS ha IT hst) pos pins s Z H (λvs H1=>IU sp X.K vs H1 Q) i h) λus s1 z9=>?_;obtain ⟨vs,H1,i1,r1,q1⟩:=z9;refine thn ((Th (nm:=some "key") (kpos:=kp) (JA hy hmy (v:=.ref f) rfl hdy (pos:=p2)) VB) pos pins s1 Z H1 (λzs H2=>zs=[.ref f]/\IU sp X.K vs H2 Q) i1 ⟨rfl,q1⟩) λws s2 z9=>?_;obtain ⟨zs,H2,i2,rz,ez,q2⟩:=z9;subst ez;obtain ⟨w,rfl,rw'⟩:=Dm rz;obtain rfl:w = .ref f:=rw';obtain ⟨l,x,r,e0,q3⟩:=id q2;subst e0;obtain ⟨u,rfl,ru⟩:=Dm r1;exact Oh F hr hb i2 ru q2
end
end L2
namespace F2
open PySem L2 PySem.Spec PySem.W
def Hm (g:Fn):List D->D×Int->M D
 | [],b=>λt=>some (b.1,t)
 | x :: r,b=>λt=>match g [x] t.S with
   | some (.int i,S')=>Hm g r (if i < b.2 then (x,i) else b) { t with S:=S' }
   | _=>none
def Kr (g:Fn)(d:D):M D:=match d with
 | .lst (x :: r)=>λt=>match g [x] t.S with
   | some (.int i,S')=>Hm g r (x,i) { t with S:=S' }
   | _=>none
 | _=>fail
def Ko (g:Fn)(f:M D):M D:=bnd f (Kr g)
section
variable {K:PySem.W.Frag}{g:Fn}
theorem OP {Oo:Addr->Prop}{l:Addr}{all:List V}{dall:List D}{Z:L2.St}{Q:VK}{r:D}{t':T}:∀{vs:List V} {ds:List D} {b:V×Int} {bd:D} {c:Cf} {t:T} {H:Hp},FInv K Oo c t Z H->Rep K c H (.ref l) (.lst dall)->H l=some (.lst all)->¬c.A l->Reps K c H vs ds->Rep K c H b.1 bd->Hm g ds (bd,b.2) t=some (r,t')->
 (∀v H' c',FInv K Oo c' t' Z H'->Stp Oo c H c' H'->Rep K c' H' v r->Q v H')->mkT (spF K g) K l all vs b H Q:=by
 intro vs
 induction vs with
 | nil=>
   intro ds b bd c t H f ra hl ha rs rb eq k
   cases rs
   cases eq
   exact k _ H c f .refl rb
 | cons x vs ih=>
   intro ds b bd c t H f ra hl ha rs rb eq k
   cases rs with
   | @cons _ d _ ds rx rs=>
   unfold Hm at eq
   split at eq
   ·next i S' e=>
    refine ⟨c,[d],t.S,f.s,.cons rx .nil,.int i,S',e,λv H' c' si st ho rv=>?_⟩
    cases rv
    obtain ⟨f2,s2⟩:=f.after si st ho;have hl2:H' l=some (.lst all):=s2.ext.keep l _ hl ha;have ha2:¬c'.A l:=λz=>ha (s2.ext.av l _ hl z);refine ⟨i,rfl,SqL.of hl2,ih (bd:=if i < b.2 then d else bd) f2 (ra.mono s2.ext) hl2 ha2 (rs.mono s2.ext) ?_ ?_ λv H3 c3 f3 s3 rv=>k v H3 c3 f3 (s2.trans s3) rv⟩
    ·split
     ·exact rx.mono s2.ext
     ·exact rb.mono s2.ext
    ·rw [<-eq]
     congr 1
     split <;> rfl
   ·cases eq
theorem OO {Oo:Addr->Prop}{c:Cf}{t:T}{Z:L2.St}{H:Hp}{Q:VK}{v:V}{d r:D}{t':T}(f:FInv K Oo c t Z H)(rv:Rep K c H v d)(eq:Kr g d t=some (r,t'))(k:∀v H' c',FInv K Oo c' t' Z H'->Stp Oo c H c' H'->Rep K c' H' v r->Q v H'):IU (spF K g) K [v] H Q:=by
 unfold Kr at eq
 split at eq
 ·next x rs=>
  split at eq
  ·next i S' e=>
   cases rv with
   | @lst a ws es g1 g2 g3=>
   cases g3 with
   | @cons x0 _ ws _ rx rs'=>
   refine ⟨a,x0,ws,rfl,SqL.of g1,c,[x],t.S,f.s,.cons rx .nil,.int i,S',e,λv H' c' si st ho rv=>?_⟩
   cases rv
   obtain ⟨f2,s2⟩:=f.after si st ho;have hl2:H' a=some (.lst (x0 :: ws)):=s2.ext.keep a _ g1 g2;have ha2:¬c'.A a:=λz=>g2 (s2.ext.av a _ g1 z);have rs2:=rs'.mono s2.ext;have rx2:=rx.mono s2.ext;exact ⟨i,rfl,SqL.of hl2,OP f2 (.lst hl2 ha2 (.cons rx2 rs2)) hl2 ha2 rs2 rx2 eq λv H3 c3 f3 s3 rv=>k v H3 c3 f3 (s2.trans s3) rv⟩
  ·cases eq
 ·cases eq
theorem R8 {X:Cx}{k:Nat}{fa:Addr}{fd:FuncData}{ps:List Str}{f:M D}{e:Expr}{y:Str}{p p2 kp pos:Pos}(F:FnOk X.prog X.w X.K X.mg X.base CX0 k fa fd ps (spF X.K g))(hr:Room (k + 1) X.A)(hg:Gl X "min")(hm:X.mg "min" = none)(hy:Gl X y)(hmy:X.mg y=some (.ref fa))(hb:Binds X.K fd ps [])(ha:PE X e (RE X.K f))(hdy:(y == ("__debug__" : Str))=false:=by decide)(h1:A5 e=false:=by rfl) :
 PE X (.Call (.Name "min" p) [e] [⟨some "key",.Name y p2,kp⟩] pos) (RE X.K (Ko g f)):=
 AL (Tc F hr hg hm hy hmy hb ha hdy (AT h1)) λZ H Q z9=>by
  obtain ⟨Oo,c,t,fi,r,t',eq,kk⟩:=z9;obtain ⟨d,t1,e1,eq⟩:=Ai eq;exact ⟨Oo,c,t,fi,d,t1,e1,λv H1 c1 f1 s1 rv=>OO f1 rv eq λv H' c' f' s' r'=>kk v H' c' f' (s1.trans s') r'⟩
end
end F2
namespace LW
open PySem L2 F2
def Fw:M Out:=
 (Ak (Cn (fB (Aa (Ab 0) (Aa (fC (.ty "int")) Ad)) C3) (Ge (fB (Aa (Ab 0) (Aa (fC (.ty "bool")) Ad)) C3))))
def C4 (KU:Fn):M Out:=
 (Ak (Cn (Ae KU (Aa (Ab 0) Ad)) (Ej (Ab 1) (Ab 0) (Ab 2) leA leA)))
def Lr (Jl KR KQ KS CS:Fn):M Out:=
 (Ah (Av 2 (Ac (Ab 0) (fC (.int 0)) ixD))
 (Ah (ifS (Aj (Ac (Ab 2) (fC (.str "nothing")) (eqS id)))
   (Ak (Ac (Ab 1) (fC .non) isC))
   An)
 (Ah (ifS (Aj (Ac (Ab 2) (fC (.str "number")) (eqS id)))
   (Ak (Ae CS (Aa (Ab 1) (Aa (Ac (Ab 0) (fC (.int 1)) ixD) (Aa (Ac (Ab 0) (fC (.int 2)) ixD) Ad)))))
   An)
 (Ah (ifS (Aj (Ac (Ab 2) (fC (.str "text")) (eqS id)))
   (Ak (Ae KS (Aa (Ab 0) (Aa (Ab 1) Ad))))
   An)
 (Ah (ifS (Aj (Ac (Ab 2) (fC (.str "list")) (eqS id)))
   (Ak (Ae KQ (Aa (Ab 0) (Aa (Ab 1) Ad))))
   An)
 (Ah (ifS (Aj (Ac (Ab 2) (fC (.str "pair")) (eqS id)))
   (Ak (Ae KR (Aa (Ab 0) (Aa (Ab 1) Ad))))
   An)
 (Ak (Ae Jl (Aa (Ab 0) (Aa (Ab 1) Ad))))))))))
def Fv (F9:Fn):M Out:=
 (Ah (ifS (fOr (BU (Aj (fB (Aa (Ab 1) (Aa (fC (.ty "str")) Ad)) C3))) (Aj (Ac (fB (Aa (Ab 1) Ad) AK) (Ac (Ab 0) (fC (.int 1)) ixD) gtA)))
   (Ak (fC (.bl false)))
   An)
 (Ah (BG (B4 (Ab 1)) (Aw 2)
   (ifS (BU (Aj (Ae F9 (Aa (fB (Aa (Ab 2) Ad) Ic) Ad))))
   (Ak (fC (.bl false)))
   An))
 (Ak (fC (.bl true)))))
def GY:M Out:=
 (Ak (Cn (Ej (fC (.int 32)) (Ab 0) (fC (.int 126)) leA leA) (Ac (Ab 0) (fC (.int 37)) (eqS λb=>!b))))
def Ft (Bi:Fn):M Out:=
 (Ah (ifS (fOr (BU (Aj (fB (Aa (Ab 1) (Aa (fC (.ty "list")) Ad)) C3))) (Aj (Ac (fB (Aa (Ab 1) Ad) AK) (Ac (Ab 0) (fC (.int 2)) ixD) gtA)))
   (Ak (fC (.bl false)))
   An)
 (Ah (BG (B4 (Ab 1)) (Aw 2)
   (ifS (BU (Aj (Ae Bi (Aa (Ac (Ab 0) (fC (.int 1)) ixD) (Aa (Ab 2) Ad)))))
   (Ak (fC (.bl false)))
   An))
 (Ak (fC (.bl true)))))
def Fu (Bi:Fn):M Out:=
 (Ah (ifS (fOr (BU (Aj (fB (Aa (Ab 1) (Aa (fC (.ty "tuple")) Ad)) C3))) (Aj (Ac (fB (Aa (Ab 1) Ad) AK) (fC (.int 2)) (eqS λb=>!b))))
   (Ak (fC (.bl false)))
   An)
 (Ak (Cn (Ae Bi (Aa (Ac (Ab 0) (fC (.int 1)) ixD) (Aa (Ac (Ab 1) (fC (.int 0)) ixD) Ad))) (Ae Bi (Aa (Ac (Ab 0) (fC (.int 2)) ixD) (Aa (Ac (Ab 1) (fC (.int 1)) ixD) Ad))))))
def Eo (Bi CS:Fn):M Out:=
 (Ah (ifS (fOr (BU (Aj (fB (Aa (Ab 1) (Aa (fC (.ty "tuple")) Ad)) C3))) (Aj (Ac (fB (Aa (Ab 1) Ad) AK) (fC (.int 3)) (eqS λb=>!b))))
   (Ak (fC (.bl false)))
   An)
 (Ah (ifS (fOr (BU (Aj (fB (Aa (Ac (Ab 1) (fC (.int 0)) ixD) (Aa (fC (.ty "str")) Ad)) C3))) (Aj (Ac (Ac (Ab 1) (fC (.int 0)) ixD) (fC (.str "of")) (eqS λb=>!b))))
   (Ak (fC (.bl false)))
   An)
 (Ah (ifS (BU (Aj (Ae CS (Aa (Ac (Ab 1) (fC (.int 1)) ixD) (Aa (fC (.int 0)) (Aa (Ac (fB (Aa (Ac (Ab 0) (fC (.int 1)) ixD) Ad) AK) (fC (.int 1)) BH) Ad))))))
   (Ak (fC (.bl false)))
   An)
 (Ak (Ae Bi (Aa (Ac (Ac (Ab 0) (fC (.int 1)) ixD) (Ac (Ab 1) (fC (.int 1)) ixD) ixD) (Aa (Ac (Ab 1) (fC (.int 2)) ixD) Ad)))))))
def DW (AU Cr IB:Fn):M Out:=
 (Ah (Av 2 (Ac (Ab 0) (fC (.int 0)) ixD))
 (Ah (ifS (Aj (Ac (Ab 2) (fC (.str "nothing")) (eqS id)))
   (Gx (AI Ad))
   An)
 (Ah (ifS (Aj (Ac (Ab 2) (fC (.str "number")) (eqS id)))
   (Gx (CM IB (Aa (Ac (Ab 1) (Ac (Ab 0) (fC (.int 1)) ixD) BH) (Aa (Ae Cr (Aa (Ac (Ac (Ab 0) (fC (.int 2)) ixD) (Ac (Ab 0) (fC (.int 1)) ixD) BH) Ad)) Ad))))
   An)
 (Ah (ifS (Aj (Ac (Ab 2) (fC (.str "text")) (eqS id)))
   (Gx (bnd (Aq (AI (Aa (fB (Aa (Ab 1) Ad) AK) Ad))) λx=>bnd (Aq (AA 1 [] (B4 (Ab 1)) (Aw 0) Ba (fB (Aa (Ab 0) Ad) Ic))) λy=>HN x y))
   An)
 (Ah (ifS (Aj (Ac (Ab 2) (fC (.str "list")) (eqS id)))
   (Ah (C6 3 (AI (Aa (fB (Aa (Ab 1) Ad) AK) Ad)))
 (Ah (BG (B4 (Ab 1)) (Aw 4)
   (ownM 3 Fo (Aa (Aq (CM AU (Aa (Ac (Ab 0) (fC (.int 1)) ixD) (Aa (Ab 4) Ad)))) Ad)))
 (FX 3)))
   An)
 (Ah (ifS (Aj (Ac (Ab 2) (fC (.str "pair")) (eqS id)))
   (Gx (bnd (Aq (CM AU (Aa (Ac (Ab 0) (fC (.int 1)) ixD) (Aa (Ac (Ab 1) (fC (.int 0)) ixD) Ad)))) λx=>bnd (Aq (CM AU (Aa (Ac (Ab 0) (fC (.int 2)) ixD) (Aa (Ac (Ab 1) (fC (.int 1)) ixD) Ad)))) λy=>HN x y))
   An)
 (Gx (bnd (Aq (AI (Aa (Ac (Ab 1) (fC (.int 1)) ixD) Ad))) λx=>bnd (Aq (CM AU (Aa (Ac (Ac (Ab 0) (fC (.int 1)) ixD) (Ac (Ab 1) (fC (.int 1)) ixD) ixD) (Aa (Ac (Ab 1) (fC (.int 2)) ixD) Ad)))) λy=>HN x y))))))))
def Es:M Out:=
 (Ak (Ac (Ac (fUn (Ab 0) Iz) (fC (.int 7)) Ar) (fC (.int 8)) Gg))
def Ec (Ga:Fn):M Out:=
 (Gx (AA 1 [0,1] (Fh (Aa (fC (.int 1)) (Aa (Ac (Ab 1) (fC (.int 1)) Ar) Ad))) (Aw 0) Ba (Ac (Ae Ga (Aa (Ab 1) (Aa (Ac (Ab 2) (Ab 0) BH) Ad))) (fC (.int 256)) EY)))
def G0:M Out:=
 (Ak (Ac (Ab 0) (Ac (fC (.int 8)) (Ab 1) D0) LX))
def Fy (AH HE:Fn):M Out:=
 (Ah (Av 2 (Ac (Ab 0) (fC (.int 0)) ixD))
 (Ah (ifS (Aj (Ac (Ab 2) (Ac (Ab 1) (fC (.int 0)) ixD) (eqS λb=>!b)))
   (Ak (fC (.bl false)))
   An)
 (Ah (ifS (Aj (Ac (Ab 2) (fC (.str "nothing")) (eqS id)))
   (Ak (fC (.bl true)))
   An)
 (Ah (ifS (Aj (Ac (Ab 2) (fC (.str "number")) (eqS id)))
   (Ak (Cn (Ac (Ac (Ab 0) (fC (.int 1)) ixD) (Ac (Ab 1) (fC (.int 1)) ixD) (eqS id)) (Cn (Ac (Ae HE (Aa (Ab 0) Ad)) (Ae HE (Aa (Ab 1) Ad)) (eqS id)) (Ac (Ac (Ab 0) (fC (.int 2)) ixD) (Ac (Ab 1) (fC (.int 2)) ixD) leA))))
   An)
 (Ah (ifS (Aj (Ac (Ab 2) (fC (.str "text")) (eqS id)))
   (Ak (Ac (Ac (Ab 0) (fC (.int 1)) ixD) (Ac (Ab 1) (fC (.int 1)) ixD) leA))
   An)
 (Ah (ifS (Aj (Ac (Ab 2) (fC (.str "list")) (eqS id)))
   (Ak (Cn (Ac (Ac (Ab 0) (fC (.int 2)) ixD) (Ac (Ab 1) (fC (.int 2)) ixD) leA) (HV (Ac (Ac (Ab 0) (fC (.int 2)) ixD) (fC (.int 0)) (eqS id)) (Ae AH (Aa (Ac (Ab 0) (fC (.int 1)) ixD) (Aa (Ac (Ab 1) (fC (.int 1)) ixD) Ad))))))
   An)
 (Ah (ifS (Aj (Ac (Ab 2) (fC (.str "pair")) (eqS id)))
   (Ak (Cn (Ae AH (Aa (Ac (Ab 0) (fC (.int 1)) ixD) (Aa (Ac (Ab 1) (fC (.int 1)) ixD) Ad))) (Ae AH (Aa (Ac (Ab 0) (fC (.int 2)) ixD) (Aa (Ac (Ab 1) (fC (.int 2)) ixD) Ad)))))
   An)
 (Ak (Cn (Ac (fB (Aa (Ac (Ab 0) (fC (.int 1)) ixD) Ad) AK) (fB (Aa (Ac (Ab 1) (fC (.int 1)) ixD) Ad) AK) leA) (fB (Aa (Aq (AA 1 [0,1] (A3 (Aa (fB (Aa (Ac (Ab 0) (fC (.int 1)) ixD) Ad) AK) Ad)) (Aw 0) Ba (Ae AH (Aa (Ac (Ac (Ab 1) (fC (.int 1)) ixD) (Ab 0) ixD) (Aa (Ac (Ac (Ab 2) (fC (.int 1)) ixD) (Ab 0) ixD) Ad))))) Ad) Jf))))))))))
def Gr (Cr:Fn):M Out:=
 (Ak (Ae Cr (Aa (Ac (Ac (Ab 0) (fC (.int 2)) ixD) (Ac (Ab 0) (fC (.int 1)) ixD) BH) Ad)))
def ET:M Out:=
 (Ah (Av 2 (fC (.int 0)))
 (Ah (ifS (Aj (Ac (Ab 1) (fB (Aa (Ab 0) Ad) AK) ltA))
   (Av 2 (Ac (Ab 0) (Ab 1) ixD))
   An)
 (Ah (ifS (Aj (Ac (Ab 2) (Ac (fC (.int 10)) (fC (.int 18)) EZ) geA))
   (Ak (Gf (AI (Aa (Ac (Ab 2) (Ac (fC (.int 10)) (fC (.int 18)) EZ) BH) (Aa (fC (.int 1)) (Aa (fC (.int 0)) Ad))))))
   An)
 (Ak (Gf (AI (Aa (Ab 2) (Aa (fC (.int 0)) (Aa (Ac (fC (.int 13)) (Ab 1) D0) Ad)))))))))
def DV:M Out:=
 (Ah (ifS (Aj (Ac (Ac (Ab 0) (fC (.int 1)) ixD) (fC (.int 1)) (eqS id)))
   (Ah (Av 2 (Ac (Ac (Ab 0) (fC (.int 0)) ixD) (Ab 1) EY))
 (Ah (EH (Ac (Ac (Ab 0) (fC (.int 0)) ixD) (Ab 1) Hi) (stD (Ab 0) (fC (.int 0))))
 (Ak (Ab 2))))
   An)
 (Ah (EH (Ac (Ac (Ab 0) (fC (.int 2)) ixD) (fC (.int 1)) Ar) (stD (Ab 0) (fC (.int 2))))
 (Ah (Av 3 (Ac (Ab 0) (fC (.int 2)) ixD))
 (Ah (Av 4 (Ac (Ac (Ac (Ac (Ab 0) (fC (.int 0)) ixD) (fC (.int 9999999769)) EY) (fC (.int 733)) Ar) (Ac (Ac (fC (.int 9)) (Ab 3) FA) (fC (.int 31)) Ar) FA))
 (Ah (Av 4 (Ac (Ab 4) (Ac (Ac (fC (.int 2917)) (Ab 3) FA) (Ab 3) FA) Ar))
 (Ah (Av 4 (Ac (Ac (Ab 4) (Ab 4) FA) (fC (.int 99999999821)) EY))
 (Ak (Ac (Ac (Ac (Ac (Ab 4) (Ac (Ab 4) (fC (.int 17)) Ar) FA) (fC (.int 99999999947)) EY) (fC (.int 61)) Hi) (Ab 1) EY))))))))
def DT (Ag:Fn):M Out:=
 (Ah (Av 1 (Ae Ag (Aa (Ab 0) (Aa (fC (.int 6)) Ad))))
 (Ah (ifS (Aj (Ac (Ab 1) (fC (.int 0)) (eqS id)))
   (Ak (As (Aa (fC (.str "nothing")) Ad)))
   An)
 (Ah (ifS (Aj (Ac (Ab 1) (fC (.int 1)) (eqS id)))
   (Ak (As (Aa (fC (.str "text")) (Aa (Ac (Aq (AI (Aa (Ae Ag (Aa (Ab 0) (Aa (fC (.int 4)) Ad))) (Aa (Ae Ag (Aa (Ab 0) (Aa (fC (.int 251)) Ad))) (Aa (fC (.int 250)) Ad))))) (Ae Ag (Aa (Ab 0) (Aa (fC (.int 3)) Ad))) ixD) Ad))))
   An)
 (Ah (Av 2 (Ac (Aq (AI (Aa (Ac (Ae Ag (Aa (Ab 0) (Aa (fC (.int 9)) Ad))) (fC (.int 4)) BH) (Aa (Ac (Ae Ag (Aa (Ab 0) (Aa (Ac (fC (.int 2)) (Ac (fC (.int 10)) (fC (.int 17)) EZ) D0) Ad))) (Ac (fC (.int 10)) (fC (.int 17)) EZ) BH) Ad)))) (Ae Ag (Aa (Ab 0) (Aa (fC (.int 2)) Ad))) ixD))
 (Ah (Av 3 (Aq (AI (Aa (fC (.int 0)) (Aa (fC (.int 1)) (Aa (Ac (fC (.int 254)) (Ae Ag (Aa (Ab 0) (Aa (fC (.int 4)) Ad))) Ar) (Aa (Ac (fC (.int 65534)) (Ae Ag (Aa (Ab 0) (Aa (fC (.int 4)) Ad))) Ar) (Aa (Ae Ag (Aa (Ab 0) (Aa (fC (.int 1000)) Ad))) Ad))))))))
 (Ak (As (Aa (fC (.str "number")) (Aa (Ab 2) (Aa (Ac (Ab 2) (Ac (Ac (Ab 3) (Aq (AI (Aa (Ae Ag (Aa (Ab 0) (Aa (Ac (fC (.int 10)) (fC (.int 17)) EZ) Ad))) Ad))) Ar) (Ae Ag (Aa (Ab 0) (Aa (fC (.int 6)) Ad))) ixD) Ar) Ad))))))))))
def ES (Ag AE DR:Fn):M Out:=
 (Ah (Av 2 (Ae Ag (Aa (Ab 0) (Aa (fC (.int 8)) Ad))))
 (Ah (ifS (fOr (Aj (Ac (Ab 1) (fC (.int 0)) (eqS id))) (Aj (Ac (Ab 2) (fC (.int 3)) ltA)))
   (Ak (Ae AE (Aa (Ab 0) Ad)))
   An)
 (Ah (Av 3 (Ae DR (Aa (Ab 0) (Aa (Ac (Ab 1) (fC (.int 1)) BH) Ad))))
 (Ah (ifS (Aj (Ac (Ab 2) (fC (.int 3)) (eqS id)))
   (Ah (Av 4 (Aq (AI (Aa (Ae Ag (Aa (Ab 0) (Aa (fC (.int 4)) Ad))) (Aa (Ae Ag (Aa (Ab 0) (Aa (fC (.int 251)) Ad))) Ad)))))
 (Ak (As (Aa (fC (.str "list")) (Aa (Ab 3) (Aa (Ac (Ab 4) (Ae Ag (Aa (Ab 0) (Aa (fC (.int 2)) Ad))) ixD) Ad))))))
   An)
 (Ah (ifS (Aj (Ac (Ab 2) (fC (.int 6)) ltA))
   (Ak (As (Aa (fC (.str "pair")) (Aa (Ab 3) (Aa (Ae DR (Aa (Ab 0) (Aa (Ac (Ab 1) (fC (.int 1)) BH) Ad))) Ad)))))
   An)
 (Ah (Av 4 (Aq (AA 1 [0] (A3 (Aa (Ae Ag (Aa (Ab 0) (Aa (fC (.int 9)) Ad))) Ad)) (Aw 0) Ba (Ae AE (Aa (Ab 1) Ad)))))
 (Ah (Av 5 (Ae Ag (Aa (Ab 0) (Aa (Ac (fB (Aa (Ab 4) Ad) AK) (fC (.int 1)) Ar) Ad))))
 (Ak (As (Aa (fC (.str "choice")) (Aa (fB (Aa (Ac (Ac (fSl (Ab 4) fNo (B2 (Ab 5)) BR) (Aq (AI (Aa (Ab 3) Ad))) Ar) (fSl (Ab 4) (B2 (Ab 5)) fNo BR) Ar) Ad) FC) Ad)))))))))))
def Ea (AE:Fn):M Out:=
 (Ah (Av 1 (Ae AE (Aa (Ab 0) Ad)))
 (Ah (BG (A3 (Aa (fC (.int 3)) Ad)) (Aw 2)
   (Av 1 (As (Aa (fC (.str "pair")) (Aa (Ae AE (Aa (Ab 0) Ad)) (Aa (Ab 1) Ad))))))
 (Ak (Ab 1))))
def ER (Ag De AE:Fn):M Out:=
 (Ah (C6 1 (AI Ad))
 (Ah (BG (A3 (Aa (Ac (fC (.int 4)) (Ae Ag (Aa (Ab 0) (Aa (fC (.int 5)) Ad))) Ar) Ad)) (Aw 2)
   (Ah (Av 3 (Ae AE (Aa (Ab 0) Ad)))
 (Ah (Av 4 (Ae AE (Aa (Ab 0) Ad)))
 (Ah (Av 5 (Aq (AI (Aa (Ab 3) (Aa (As (Aa (fC (.str "pair")) (Aa (Ab 3) (Aa (Ab 4) Ad)))) (Aa (As (Aa (fC (.str "list")) (Aa (Ab 3) (Aa (Ae Ag (Aa (Ab 0) (Aa (fC (.int 4)) Ad))) Ad)))) (Aa (As (Aa (fC (.str "choice")) (Aa (As (Aa (Ab 3) (Aa (Ab 4) Ad))) Ad))) Ad)))))))
 (ownM 1 EG (Aa (Ac (Ac (Ab 5) (Aq (AI (Aa (Ae De (Aa (Ab 0) Ad)) Ad))) Ar) (Ae Ag (Aa (Ab 0) (Aa (fC (.int 5)) Ad))) ixD) Ad))))))
 (Ak (As (Aa (fC (.str "choice")) (Aa (fB (Aa (Ab 1) Ad) FC) Ad))))))
def DA (Ag De AE DR:Fn):M Out:=
 (Ah (Av 1 (Ae DR (Aa (Ab 0) (Aa (Ae Ag (Aa (Ab 0) (Aa (fC (.int 4)) Ad))) Ad))))
 (Ah (BG (A3 (Aa (Ac (Aq (AI (Aa (fC (.int 0)) (Aa (fC (.int 0)) (Aa (fC (.int 1)) (Aa (fC (.int 2)) Ad)))))) (Ae Ag (Aa (Ab 0) (Aa (fC (.int 4)) Ad))) ixD) Ad)) (Aw 2)
   (Ah (Av 3 (Ae AE (Aa (Ab 0) Ad)))
 (Ah (Av 4 (Aq (AI (Aa (As (Aa (fC (.str "list")) (Aa (Ab 1) (Aa (Ae Ag (Aa (Ab 0) (Aa (fC (.int 4)) Ad))) Ad)))) (Aa (As (Aa (fC (.str "pair")) (Aa (Ab 3) (Aa (Ab 1) Ad)))) (Aa (As (Aa (fC (.str "pair")) (Aa (Ab 1) (Aa (Ab 3) Ad)))) Ad))))))
 (Av 1 (Ac (Ac (Ab 4) (Aq (AI (Aa (As (Aa (fC (.str "choice")) (Aa (As (Aa (Ab 3) (Aa (Ab 1) Ad))) Ad))) (Aa (As (Aa (fC (.str "choice")) (Aa (As (Aa (Ab 1) (Aa (Ab 3) Ad))) Ad))) Ad)))) Ar) (Ae Ag (Aa (Ab 0) (Aa (fC (.int 5)) Ad))) ixD)))))
 (Ah (ifS (Aj (Ac (Ae Ag (Aa (Ab 0) (Aa (fC (.int 8)) Ad))) (fC (.int 0)) (eqS id)))
   (Av 1 (As (Aa (fC (.str "pair")) (Aa (Ae De (Aa (Ab 0) Ad)) (Aa (Ae De (Aa (Ab 0) Ad)) Ad)))))
   An)
 (Ak (Ab 1)))))
def Ct (Ag:Fn):M Out:=
 (Ah (Av 3 (Aq (AI (Aa (As (Aa (Ab 1) (Aa (Ac (Ab 2) (fC (.int 1)) Ar) Ad))) (Aa (As (Aa (Ab 1) (Aa (Ac (Ab 2) (fC (.int 1)) BH) Ad))) (Aa (As (Aa (Ac (Ab 1) (fC (.int 1)) BH) (Aa (Ab 2) Ad))) (Aa (As (Aa (Ac (Ab 1) (fC (.int 1)) Ar) (Aa (Ab 2) Ad))) (Aa (As (Aa (Ab 1) (Aa (Ac (Ab 2) (fC (.int 255)) Ar) Ad))) (Aa (As (Aa (Ab 1) (Aa (Ab 1) Ad))) Ad)))))))))
 (Ah (EH (Ac (Ab 3) (Ae Ag (Aa (Ab 0) (Aa (fC (.int 6)) Ad))) ixD) (unS 2 (BK (Aw 4) (BK (Aw 5) E1))))
 (Ak (As (Aa (fC (.str "number")) (Aa (fB (Aa (Ab 4) (Aa (Ab 5) Ad)) DZ) (Aa (Ab 5) Ad)))))))
def Cs (Bh Ag AE:Fn):M Out:=
 (Ah (Av 2 (Ae Ag (Aa (Ab 0) (Aa (fC (.int 4)) Ad))))
 (Ah (ifS (Dn (Aj (Ac (Ab 2) (fC (.int 0)) (eqS id))) (Aj (Ac (fB (Aa (Ab 1) Ad) AK) (fC (.int 1)) gtA)))
   (Ak (As (Aa (fC (.str "choice")) (Aa (fSl (Ab 1) fNo (B2 (fUn (fC (.int 1)) H9)) BR) Ad))))
   An)
 (Ah (ifS (Dn (Aj (Ac (Ab 2) (fC (.int 1)) (eqS id))) (Aj (Ac (fB (Aa (Ab 1) Ad) AK) (fC (.int 9)) ltA)))
   (Ak (As (Aa (fC (.str "choice")) (Aa (Ac (Ab 1) (As (Aa (Ae AE (Aa (Ab 0) Ad)) Ad)) Ar) Ad))))
   An)
 (Ah (Av 3 (Ae Ag (Aa (Ab 0) (Aa (fB (Aa (Ab 1) Ad) AK) Ad))))
 (Ah (BG (A3 (Aa (fB (Aa (Ab 1) Ad) AK) Ad)) (Aw 4)
   (ifS (Dn (Aj (Ac (Ab 2) (fC (.int 2)) (eqS id))) (Aj (Ac (Ac (Ac (Ab 1) (Ab 4) ixD) (fC (.int 0)) ixD) (Aq (AI (Aa (fC (.str "list")) (Aa (fC (.str "pair")) (Aa (fC (.str "choice")) Ad))))) (inD false))))
   (Av 3 (Ab 4))
   An))
 (Ak (As (Aa (fC (.str "choice")) (Aa (Ac (Ac (fSl (Ab 1) fNo (B2 (Ab 3)) BR) (As (Aa (Ae Bh (Aa (Ab 0) (Aa (Ac (Ab 1) (Ab 3) ixD) Ad))) Ad)) Ar) (fSl (Ab 1) (B2 (Ac (Ab 3) (fC (.int 1)) Ar)) fNo BR) Ar) Ad)))))))))
def Eb (Ag Bh FL FM AE:Fn):M Out:=
 (Ah (ifS (fOr (Aj (Ac (Ac (Ab 1) (fC (.int 0)) ixD) (fC (.str "nothing")) (eqS id))) (Aj (Ac (Ae Ag (Aa (Ab 0) (Aa (fC (.int 8)) Ad))) (fC (.int 0)) (eqS id))))
   (Ak (Ae AE (Aa (Ab 0) Ad)))
   An)
 (Ah (ifS (Aj (Ac (Ac (Ab 1) (fC (.int 0)) ixD) (fC (.str "number")) (eqS id)))
   (Ak (Ae FM (Aa (Ab 0) (Aa (Ac (Ab 1) (fC (.int 1)) ixD) (Aa (Ac (Ab 1) (fC (.int 2)) ixD) Ad)))))
   An)
 (Ah (ifS (Aj (Ac (Ac (Ab 1) (fC (.int 0)) ixD) (fC (.str "choice")) (eqS id)))
   (Ak (Ae FL (Aa (Ab 0) (Aa (Ac (Ab 1) (fC (.int 1)) ixD) Ad))))
   An)
 (Ah (ifS (Aj (Ac (Ac (Ab 1) (fC (.int 0)) ixD) (fC (.str "pair")) (eqS id)))
   (Ah (Av 2 (Ac (fC (.int 1)) (Ae Ag (Aa (Ab 0) (Aa (fC (.int 2)) Ad))) Ar))
 (Ak (Ac (Ac (fSl (Ab 1) fNo (B2 (Ab 2)) BR) (As (Aa (Ae Bh (Aa (Ab 0) (Aa (Ac (Ab 1) (Ab 2) ixD) Ad))) Ad)) Ar) (fSl (Ab 1) (B2 (Ac (Ab 2) (fC (.int 1)) Ar)) fNo BR) Ar)))
   An)
 (Ah (ifS (Dn (Aj (Ac (Ac (Ab 1) (fC (.int 0)) ixD) (fC (.str "list")) (eqS id))) (Aj (Ac (Ae Ag (Aa (Ab 0) (Aa (fC (.int 3)) Ad))) (fC (.int 0)) gtA)))
   (Ak (As (Aa (fC (.str "list")) (Aa (Ae Bh (Aa (Ab 0) (Aa (Ac (Ab 1) (fC (.int 1)) ixD) Ad))) (Aa (Ac (Ab 1) (fC (.int 2)) ixD) Ad)))))
   An)
 (Ak (Ac (fSl (Ab 1) fNo (B2 (fUn (fC (.int 1)) H9)) BR) (As (Aa (fB (Aa (fC (.int 0)) (Aa (fB (Aa (fC (.int 250)) (Aa (Ac (Ac (Ac (Ab 1) (fUn (fC (.int 1)) H9) ixD) (Ae Ag (Aa (Ab 0) (Aa (fC (.int 5)) Ad))) Ar) (fC (.int 2)) BH) Ad)) DZ) Ad)) G2) Ad)) Ar)))))))
def Do:M Out:=
 (Ah (Av 2 (fC (.int 0)))
 (Ah (Av 3 (Ac (Ab 1) (Ab 0) BH))
 (Ah (L8 (Aj (Ac (Ab 3) (fC (.int 0)) gtA))
   (Ah (Av 3 (Ac (Ab 3) (fC (.int 256)) Gg))
 (Av 2 (Ac (Ab 2) (fC (.int 1)) Ar))))
 (Ak (Ab 2)))))
def DB (B5 Ag:Fn):M Out:=
 (Ah (ifS (Aj (Ac (Ac (Ab 1) (fC (.int 0)) ixD) (fC (.str "number")) (eqS id)))
   (Ak (Ac (Aq (AI (Aa (Ac (Ab 1) (fC (.int 1)) ixD) (Aa (Ac (Ab 1) (fC (.int 2)) ixD) (Aa (Ac (Ac (Ab 1) (fC (.int 1)) ixD) (Ae Ag (Aa (Ab 0) (Aa (Ac (Ac (Ac (Ab 1) (fC (.int 2)) ixD) (Ac (Ab 1) (fC (.int 1)) ixD) BH) (fC (.int 1)) Ar) Ad))) Ar) Ad))))) (Ae Ag (Aa (Ab 0) (Aa (fC (.int 3)) Ad))) ixD))
   An)
 (Ah (ifS (Aj (Ac (Ac (Ab 1) (fC (.int 0)) ixD) (fC (.str "text")) (eqS id)))
   (Ah (Av 2 (fC (.str " abzAZ019~\"-,;:()[]#")))
 (Ak (joinM (fC (.str "")) (Aa (Aq (AA 1 [2,0] (A3 (Aa (fB (Aa (Ac (Ab 1) (fC (.int 1)) ixD) (Aa (Ae Ag (Aa (Ab 0) (Aa (fC (.int 4)) Ad))) Ad)) DZ) Ad)) (Aw 0) Ba (Ac (Ab 1) (Ae Ag (Aa (Ab 2) (Aa (fC (.int 20)) Ad))) ixD))) Ad))))
   An)
 (Ah (ifS (Aj (Ac (Ac (Ab 1) (fC (.int 0)) ixD) (fC (.str "list")) (eqS id)))
   (Ak (Aq (AA 1 [0,1] (A3 (Aa (fB (Aa (Ac (Ab 1) (fC (.int 2)) ixD) (Aa (Ae Ag (Aa (Ab 0) (Aa (fC (.int 3)) Ad))) Ad)) DZ) Ad)) (Aw 0) Ba (Ae B5 (Aa (Ab 1) (Aa (Ac (Ab 2) (fC (.int 1)) ixD) Ad))))))
   An)
 (Ah (ifS (Aj (Ac (Ac (Ab 1) (fC (.int 0)) ixD) (fC (.str "pair")) (eqS id)))
   (Ak (As (Aa (Ae B5 (Aa (Ab 0) (Aa (Ac (Ab 1) (fC (.int 1)) ixD) Ad))) (Aa (Ae B5 (Aa (Ab 0) (Aa (Ac (Ab 1) (fC (.int 2)) ixD) Ad))) Ad))))
   An)
 (Ah (ifS (Aj (Ac (Ac (Ab 1) (fC (.int 0)) ixD) (fC (.str "choice")) (eqS id)))
   (Ah (Av 3 (Ae Ag (Aa (Ab 0) (Aa (fB (Aa (Ac (Ab 1) (fC (.int 1)) ixD) Ad) AK) Ad))))
 (Ak (As (Aa (fC (.str "of")) (Aa (Ab 3) (Aa (Ae B5 (Aa (Ab 0) (Aa (Ac (Ac (Ab 1) (fC (.int 1)) ixD) (Ab 3) ixD) Ad))) Ad))))))
   An)
 (Ak (fC .non)))))))
def EU (Cp Ag AE FK:Fn):M Out:=
 (Ah (ifS (Aj (Ac (Ac (Ab 1) (fC (.int 0)) ixD) (fC (.str "number")) (eqS id)))
   (Ah (Av 2 (Ac (Ac (Ab 1) (fC (.int 2)) ixD) (Ac (Aq (AI (Aa (fC (.int 1)) (Aa (fC (.int 2)) (Aa (fC (.int 100)) Ad))))) (Ae Ag (Aa (Ab 0) (Aa (fC (.int 3)) Ad))) ixD) Ar))
 (Ak (Ac (Aq (AI (Aa (Ab 1) (Aa (As (Aa (fC (.str "number")) (Aa (Ac (Ab 1) (fC (.int 1)) ixD) (Aa (Ab 2) Ad)))) Ad)))) (fB (Aa (Ac (Ae FK (Aa (Ac (Ab 1) (fC (.int 1)) ixD) (Aa (Ab 2) Ad))) (Ae FK (Aa (Ac (Ab 1) (fC (.int 1)) ixD) (Aa (Ac (Ab 1) (fC (.int 2)) ixD) Ad))) (eqS id)) Ad) GR) ixD)))
   An)
 (Ah (ifS (Aj (Ac (Ac (Ab 1) (fC (.int 0)) ixD) (fC (.str "text")) (eqS id)))
   (Ak (As (Aa (fC (.str "text")) (Aa (fB (Aa (fC (.int 250)) (Aa (Ac (Ac (Ab 1) (fC (.int 1)) ixD) (Ae Ag (Aa (Ab 0) (Aa (fC (.int 3)) Ad))) Ar) Ad)) DZ) Ad))))
   An)
 (Ah (ifS (Dn (Aj (Ac (Ac (Ab 1) (fC (.int 0)) ixD) (fC (.str "list")) (eqS id))) (Aj (Ac (Ac (Ab 1) (fC (.int 2)) ixD) (fC (.int 0)) (eqS id))))
   (Ak (As (Aa (fC (.str "list")) (Aa (Ae AE (Aa (Ab 0) Ad)) (Aa (Ae Ag (Aa (Ab 0) (Aa (fC (.int 3)) Ad))) Ad)))))
   An)
 (Ah (ifS (Aj (Ac (Ac (Ab 1) (fC (.int 0)) ixD) (fC (.str "list")) (eqS id)))
   (Ak (As (Aa (fC (.str "list")) (Aa (Ae Cp (Aa (Ab 0) (Aa (Ac (Ab 1) (fC (.int 1)) ixD) Ad))) (Aa (fB (Aa (fC (.int 250)) (Aa (Ac (Ac (Ab 1) (fC (.int 2)) ixD) (Ae Ag (Aa (Ab 0) (Aa (fC (.int 3)) Ad))) Ar) Ad)) DZ) Ad)))))
   An)
 (Ah (ifS (Aj (Ac (Ac (Ab 1) (fC (.int 0)) ixD) (fC (.str "pair")) (eqS id)))
   (Ak (As (Aa (fC (.str "pair")) (Aa (Ae Cp (Aa (Ab 0) (Aa (Ac (Ab 1) (fC (.int 1)) ixD) Ad))) (Aa (Ae Cp (Aa (Ab 0) (Aa (Ac (Ab 1) (fC (.int 2)) ixD) Ad))) Ad)))))
   An)
 (Ah (ifS (Aj (Ac (Ac (Ab 1) (fC (.int 0)) ixD) (fC (.str "choice")) (eqS id)))
   (Ah (Av 3 (fB (Aa (Aq (AA 1 [0] (A3 (Aa (fB (Aa (Ac (fC (.int 9)) (fB (Aa (Ac (Ab 1) (fC (.int 1)) ixD) Ad) AK) BH) (Aa (Ae Ag (Aa (Ab 0) (Aa (fC (.int 2)) Ad))) Ad)) DZ) Ad)) (Aw 0) Ba (Ae AE (Aa (Ab 1) Ad)))) Ad) FC))
 (Ak (As (Aa (fC (.str "choice")) (Aa (Ac (fB (Aa (Aq (AA 1 [0] (B4 (Ac (Ab 1) (fC (.int 1)) ixD)) (Aw 0) Ba (Ae Cp (Aa (Ab 1) (Aa (Ab 0) Ad))))) Ad) FC) (Ab 3) Ar) Ad)))))
   An)
 (Ak (Ab 1))))))))
def Fs (Ag GB Bh:Fn):M Out:=
 (Ah (Av 1 (Ae GB (Aa (Ab 0) Ad)))
 (Ah (Av 2 (Ab 1))
 (Ah (BG (A3 (Aa (Ae Ag (Aa (Ab 0) (Aa (fC (.int 4)) Ad))) Ad)) (Aw 3)
   (Av 2 (Ae Bh (Aa (Ab 0) (Aa (Ab 2) Ad)))))
 (Ah (ifS (Aj (Ac (Ae Ag (Aa (Ab 0) (Aa (fC (.int 4)) Ad))) (fC (.int 0)) (eqS id)))
   (Av 2 (Ae GB (Aa (Ab 0) Ad)))
   An)
 (Ak (Ac (Aq (AI (Aa (As (Aa (Ab 1) (Aa (Ab 2) Ad))) (Aa (As (Aa (Ab 2) (Aa (Ab 1) Ad))) Ad)))) (Ae Ag (Aa (Ab 0) (Aa (fC (.int 2)) Ad))) ixD))))))
def En (Ag Bh KO:Fn):M Out:=
 (Ah (Av 1 (Ae KO (Aa (Ab 0) Ad)))
 (Ah (C6 2 (fBF (Aa (Ac (Ab 1) (fC (.int 1)) ixD) Ad) GX))
 (Ah (BG (A3 (Aa (Ac (fC (.int 1)) (Ae Ag (Aa (Ab 0) (Aa (fC (.int 2)) Ad))) Ar) Ad)) (Aw 3)
   (Ah (Av 4 (Ae Ag (Aa (Ab 0) (Aa (EA 2) Ad))))
 (EH (Ae Bh (Aa (Ab 0) (Aa (FN 2 (Ab 4)) Ad))) (Hx 2 (Ab 4)))))
 (Ak (As (Aa (Ab 1) (Aa (As (Aa (fC (.str "choice")) (Aa (fB (Aa (Ab 2) Ad) FC) Ad))) Ad)))))))
def CV (Jm KY KW KZ Jn:Fn):M Out:=
 (Ah (Av 3 (Ac (Ab 0) (fC (.int 0)) ixD))
 (Ah (ifS (Aj (Ac (Ab 3) (fC (.str "nothing")) (eqS id)))
   (Ak (nxD (As (Aa (fC .non) (Aa (Ab 2) Ad)))))
   An)
 (Ah (ifS (Aj (Ac (Ab 3) (fC (.str "number")) (eqS id)))
   (Ak (Ae Jn (Aa (Ab 0) (Aa (Ab 1) (Aa (Ab 2) Ad)))))
   An)
 (Ah (ifS (Aj (Ac (Ab 3) (fC (.str "text")) (eqS id)))
   (Ak (Ae KZ (Aa (Ab 0) (Aa (Ab 1) (Aa (Ab 2) Ad)))))
   An)
 (Ah (ifS (Aj (Ac (Ab 3) (fC (.str "list")) (eqS id)))
   (Ak (Ae KW (Aa (Ab 0) (Aa (Ab 1) (Aa (Ab 2) Ad)))))
   An)
 (Ah (ifS (Aj (Ac (Ab 3) (fC (.str "pair")) (eqS id)))
   (Ak (Ae KY (Aa (Ab 0) (Aa (Ab 1) (Aa (Ab 2) Ad)))))
   An)
 (Ak (Ae Jm (Aa (Ab 0) (Aa (Ab 1) (Aa (Ab 2) Ad)))))))))))
def EO:M Out:=
 (Ah (ifS (Aj (Ac (Ab 1) (fB (Aa (Ab 0) Ad) AK) geA))
   (El "Short" (Aa (fC (.str "the bytes end within a value")) Ad))
   An)
 (Ak (nxD (Ac (Ab 0) (Ab 1) ixD))))
def DS (DQ:Fn):M Out:=
 (Ah (D1 3 (Ae DQ (Aa (Ab 1) (Aa (Ab 2) Ad))))
 (Ah (ifS (Aj (Ac (Ab 3) (Ab 0) gtA))
   (FT "Broken" (Aa (Ab 2) (Aa (fC .non) Ad)))
   An)
 (Ak (nxD (Ab 3)))))
def CG (Ga DQ Cr:Fn):M Out:=
 (Ah (Av 3 (Ac (Ac (Ab 0) (fC (.int 2)) ixD) (Ac (Ab 0) (fC (.int 1)) ixD) BH))
 (Ah (Av 4 (Ae Cr (Aa (Ab 3) Ad)))
 (Ah (Av 5 (fC (.int 0)))
 (Ah (BG (A3 (Aa (Ab 4) Ad)) (Aw 6)
   (Ah (D1 5 (Hh (Ac (Ab 5) (fC (.int 256)) D0) (Ae DQ (Aa (Ab 1) (Aa (Ac (Ab 2) (Ab 6) Ar) Ad))) Ar))
 (ifS (Aj (Ac (Ab 5) (Ae Ga (Aa (Ab 3) (Aa (Ac (Ac (Ab 4) (fC (.int 1)) BH) (Ab 6) BH) Ad))) gtA))
   (FT "Broken" (Aa (Ac (Ab 2) (Ab 6) Ar) (Aa (fC .non) Ad)))
   An)))
 (Ak (nxD (As (Aa (Ac (Ac (Ab 0) (fC (.int 1)) ixD) (Ab 5) Ar) (Aa (Ac (Ab 2) (Ab 4) Ar) Ad)))))))))
def Dj (M4 CL:Fn):M Out:=
 (Ah (D1 3 (Ae CL (Aa (Ac (Ab 0) (fC (.int 1)) ixD) (Aa (Ab 1) (Aa (Ab 2) Ad)))))
 (Ah (Av 4 (Ac (Ab 2) (fC (.int 1)) Ar))
 (Ah (Av 5 (fC (.str "")))
 (Ah (BG (A3 (Aa (Ab 3) Ad)) (Aw 6)
   (D1 5 (Hh (Ab 5) (Ae M4 (Aa (Ab 1) (Aa (Ac (Ab 4) (Ab 6) Ar) Ad))) Ar)))
 (Ak (nxD (As (Aa (Ab 5) (Aa (Ac (Ab 4) (Ab 3) Ar) Ad)))))))))
def EX (F9 DQ:Fn):M Out:=
 (Ah (D1 2 (Ae DQ (Aa (Ab 0) (Aa (Ab 1) Ad))))
 (Ah (ifS (BU (Aj (Ae F9 (Aa (Ab 2) Ad))))
   (FT "Broken" (Aa (Ab 1) (Aa (fC .non) Ad)))
   An)
 (Ak (nxD (Ac (fC (.str " !\"#$ &'()*+,-./0123456789:;<=>?@ABCDEFGHIJKLMNOPQRSTUVWXYZ[\\]^_`abcdefghijklmnopqrstuvwxyz{|}~")) (Ac (Ab 2) (fC (.int 32)) BH) ixD)))))
def Dh (Bs CL:Fn):M Out:=
 (Ah (D1 3 (Ae CL (Aa (Ac (Ab 0) (fC (.int 2)) ixD) (Aa (Ab 1) (Aa (Ab 2) Ad)))))
 (Ah (Av 4 (Ac (Ab 2) (fC (.int 1)) Ar))
 (Ah (C6 5 (AI Ad))
 (Ah (BG (A3 (Aa (Ab 3) Ad)) (Aw 6)
   (Ah (D1 7 (Ae Bs (Aa (Ac (Ab 0) (fC (.int 1)) ixD) (Aa (Ab 1) (Aa (Ab 4) Ad)))))
 (Ah (ownM 5 EG (Aa (Ac (Ab 7) (fC (.int 0)) ixD) Ad))
 (Av 4 (Ac (Ab 7) (fC (.int 1)) ixD)))))
 (Ak (nxD (As (Aa (Ab 5) (Aa (Ab 4) Ad)))))))))
def Di (Bs:Fn):M Out:=
 (Ah (D1 3 (Ae Bs (Aa (Ac (Ab 0) (fC (.int 1)) ixD) (Aa (Ab 1) (Aa (Ab 2) Ad)))))
 (Ah (D1 4 (Ae Bs (Aa (Ac (Ab 0) (fC (.int 2)) ixD) (Aa (Ab 1) (Aa (Ac (Ab 3) (fC (.int 1)) ixD) Ad)))))
 (Ak (nxD (As (Aa (As (Aa (Ac (Ab 3) (fC (.int 0)) ixD) (Aa (Ac (Ab 4) (fC (.int 0)) ixD) Ad))) (Aa (Ac (Ab 4) (fC (.int 1)) ixD) Ad)))))))
def CF (Bs CL:Fn):M Out:=
 (Ah (D1 3 (Ae CL (Aa (Ac (fB (Aa (Ac (Ab 0) (fC (.int 1)) ixD) Ad) AK) (fC (.int 1)) BH) (Aa (Ab 1) (Aa (Ab 2) Ad)))))
 (Ah (D1 4 (Ae Bs (Aa (Ac (Ac (Ab 0) (fC (.int 1)) ixD) (Ab 3) ixD) (Aa (Ab 1) (Aa (Ac (Ab 2) (fC (.int 1)) Ar) Ad)))))
 (Ak (nxD (As (Aa (As (Aa (fC (.str "of")) (Aa (Ab 3) (Aa (Ac (Ab 4) (fC (.int 0)) ixD) Ad)))) (Aa (Ac (Ab 4) (fC (.int 1)) ixD) Ad)))))))
def DC (AU Bi:Fn):M Out:=
 (Ah (ifS (BU (Aj (Ae Bi (Aa (Ab 0) (Aa (Ab 1) Ad)))))
   (El "NoValue" (Aa (fC (.str "the value does not fit the shape")) Ad))
   An)
 (Ak (nxD (Aq (CM AU (Aa (Ab 0) (Aa (Ab 1) Ad)))))))
def G1 (CZ HM Fl AH:Fn):M Out:=
 (Ah (ifS (Aj (Ae AH (Aa (Ab 0) (Aa (Ab 1) Ad))))
   (El "NoValue" (Aa (fC (.str "each value of the shape has the same bytes by the other one")) Ad))
   An)
 (Ak (nxD (Ae Fl (Aa (Aq (AA 1 [0,1] (B4 (Ae CZ (Aa (Ab 0) (Aa (Ab 1) Ad)))) (Aw 0) (Aj (Ae HM (Aa (Ab 1) (Aa (Ab 2) (Aa (Ab 0) Ad))))) (Ab 0))) Ad)))))
def DX (Bi AU:Fn):M Out:=
 (Ak (HV (Ge (Ae Bi (Aa (Ab 1) (Aa (Ab 2) Ad)))) (Ac (Aq (CM AU (Aa (Ab 0) (Aa (Ab 2) Ad)))) (Aq (CM AU (Aa (Ab 1) (Aa (Ab 2) Ad)))) (eqS λb=>!b))))
def Jy (IA Kg Kf AH AM:Fn):M Out:=
 (Ah (Av 2 (Ac (Ab 0) (fC (.int 0)) ixD))
 (Ah (ifS (Aj (Ac (Ab 2) (Ac (Ab 1) (fC (.int 0)) ixD) (eqS λb=>!b)))
   (Ak (Aq (AI (Aa (Ae AM (Aa (Ab 0) Ad)) Ad))))
   An)
 (Ah (ifS (Aj (Ae AH (Aa (Ab 0) (Aa (Ab 1) Ad))))
   (Ak (Aq (AI Ad)))
   An)
 (Ah (ifS (Aj (Ac (Ab 2) (fC (.str "number")) (eqS id)))
   (Ak (Aq (AI (Aa (Ac (Ab 0) (fC (.int 1)) ixD) (Aa (Ac (Ab 0) (fC (.int 2)) ixD) Ad)))))
   An)
 (Ah (ifS (Aj (Ac (Ab 2) (fC (.str "text")) (eqS id)))
   (Ak (Aq (AI (Aa (Ac (fC (.str "a")) (Ac (Ac (Ab 1) (fC (.int 1)) ixD) (fC (.int 1)) Ar) D0) Ad))))
   An)
 (Ah (ifS (Aj (Ac (Ab 2) (fC (.str "list")) (eqS id)))
   (Ak (Ae Kf (Aa (Ab 0) (Aa (Ab 1) Ad))))
   An)
 (Ah (ifS (Aj (Ac (Ab 2) (fC (.str "pair")) (eqS id)))
   (Ak (Ae Kg (Aa (Ab 0) (Aa (Ab 1) Ad))))
   An)
 (Ak (Ae IA (Aa (Ab 0) (Aa (Ab 1) Ad)))))))))))
def EV (AM CZ:Fn):M Out:=
 (Ah (C6 2 (AA 1 [] (B4 (Ae CZ (Aa (Ac (Ab 0) (fC (.int 1)) ixD) (Aa (Ac (Ab 1) (fC (.int 1)) ixD) Ad)))) (Aw 0) Ba (Aq (AI (Aa (Ab 0) Ad)))))
 (Ah (ifS (Aj (Ac (Ac (Ab 0) (fC (.int 2)) ixD) (Ac (Ab 1) (fC (.int 2)) ixD) gtA))
   (ownM 2 EG (Aa (Aq (AA 1 [0] (A3 (Aa (Ac (Ac (Ab 1) (fC (.int 2)) ixD) (fC (.int 1)) Ar) Ad)) (Aw 0) Ba (Ae AM (Aa (Ac (Ab 1) (fC (.int 1)) ixD) Ad)))) Ad))
   An)
 (Ak (Ab 2))))
def EW (CZ AM:Fn):M Out:=
 (Ah (C6 2 (AA 1 [0] (B4 (Ae CZ (Aa (Ac (Ab 0) (fC (.int 1)) ixD) (Aa (Ac (Ab 1) (fC (.int 1)) ixD) Ad)))) (Aw 0) Ba (As (Aa (Ab 0) (Aa (Ae AM (Aa (Ac (Ab 1) (fC (.int 2)) ixD) Ad)) Ad)))))
 (Ah (ownM 2 Fo (Aa (Aq (AA 1 [0] (B4 (Ae CZ (Aa (Ac (Ab 0) (fC (.int 2)) ixD) (Aa (Ac (Ab 1) (fC (.int 2)) ixD) Ad)))) (Aw 0) Ba (As (Aa (Ae AM (Aa (Ac (Ab 1) (fC (.int 1)) ixD) Ad)) (Aa (Ab 0) Ad))))) Ad))
 (Ak (Ab 2))))
def D8 (CZ AM:Fn):M Out:=
 (Ah (C6 2 (AA 1 [0] (Fh (Aa (fB (Aa (Ac (Ab 1) (fC (.int 1)) ixD) Ad) AK) (Aa (fB (Aa (Ac (Ab 0) (fC (.int 1)) ixD) Ad) AK) Ad))) (Aw 0) Ba (As (Aa (fC (.str "of")) (Aa (Ab 0) (Aa (Ae AM (Aa (Ac (Ac (Ab 1) (fC (.int 1)) ixD) (Ab 0) ixD) Ad)) Ad))))))
 (Ah (BG (A3 (Aa (fB (Aa (fB (Aa (Ac (Ab 0) (fC (.int 1)) ixD) Ad) AK) (Aa (fB (Aa (Ac (Ab 1) (fC (.int 1)) ixD) Ad) AK) Ad)) DZ) Ad)) (Aw 3)
   (ownM 2 Fo (Aa (Aq (AA 1 [3] (B4 (Ae CZ (Aa (Ac (Ac (Ab 0) (fC (.int 1)) ixD) (Ab 3) ixD) (Aa (Ac (Ac (Ab 1) (fC (.int 1)) ixD) (Ab 3) ixD) Ad)))) (Aw 0) Ba (As (Aa (fC (.str "of")) (Aa (Ab 1) (Aa (Ab 0) Ad)))))) Ad)))
 (Ak (Ab 2))))
def Ep (AM Fl:Fn):M Out:=
 (Ah (Av 1 (Ac (Ab 0) (fC (.int 0)) ixD))
 (Ah (ifS (Aj (Ac (Ab 1) (fC (.str "nothing")) (eqS id)))
   (Ak (fC .non))
   An)
 (Ah (ifS (Aj (Ac (Ab 1) (fC (.str "number")) (eqS id)))
   (Ak (Ac (Ab 0) (fC (.int 1)) ixD))
   An)
 (Ah (ifS (Aj (Ac (Ab 1) (fC (.str "text")) (eqS id)))
   (Ak (fC (.str "")))
   An)
 (Ah (ifS (Aj (Ac (Ab 1) (fC (.str "list")) (eqS id)))
   (Ak (Aq (AI Ad)))
   An)
 (Ah (ifS (Aj (Ac (Ab 1) (fC (.str "pair")) (eqS id)))
   (Ak (As (Aa (Ae AM (Aa (Ac (Ab 0) (fC (.int 1)) ixD) Ad)) (Aa (Ae AM (Aa (Ac (Ab 0) (fC (.int 2)) ixD) Ad)) Ad))))
   An)
 (Ak (Ae Fl (Aa (Aq (AA 1 [0] (A3 (Aa (fB (Aa (Ac (Ab 0) (fC (.int 1)) ixD) Ad) AK) Ad)) (Aw 0) Ba (As (Aa (fC (.str "of")) (Aa (Ab 0) (Aa (Ae AM (Aa (Ac (Ac (Ab 1) (fC (.int 1)) ixD) (Ab 0) ixD) Ad)) Ad)))))) Ad)))))))))
def Gq (Cq:Fn):M Out:=
 (Ak (Ko Cq (Ab 0)))
def Fz (Cq:Fn):M Out:=
 (Ah (ifS (Aj (fB (Aa (Ab 0) (Aa (fC (.ty "list")) Ad)) C3))
   (Ak (Ac (fC (.int 1)) (fB (Aa (Aq (AA 1 [] (B4 (Ab 0)) (Aw 0) Ba (Ae Cq (Aa (Ab 0) Ad)))) Ad) Ih) Ar))
   An)
 (Ah (ifS (BU (Aj (fB (Aa (Ab 0) (Aa (fC (.ty "tuple")) Ad)) C3)))
   (Ak (fC (.int 1)))
   An)
 (Ah (ifS (Aj (Ac (fB (Aa (Ab 0) Ad) AK) (fC (.int 2)) (eqS id)))
   (Ak (Ac (Ac (fC (.int 1)) (Ae Cq (Aa (Ac (Ab 0) (fC (.int 0)) ixD) Ad)) Ar) (Ae Cq (Aa (Ac (Ab 0) (fC (.int 1)) ixD) Ad)) Ar))
   An)
 (Ak (Ac (fC (.int 1)) (Ae Cq (Aa (Ac (Ab 0) (fC (.int 2)) ixD) Ad)) Ar)))))
def EQ (Bs Bx Ag Bi:Fn):M Out:=
 (Ah (ifS (fOr (BU (Aj (Ae Bi (Aa (Ab 0) (Aa (Ab 2) Ad))))) (BU (Aj (Ae Bi (Aa (Ab 1) (Aa (Ab 2) Ad))))))
   (Ak (fC (.bl false)))
   An)
 (Ah (Av 4 (Ae (Dp Bx) (Aa (Ab 0) (Aa (Ab 2) Ad))))
 (Ah (Av 5 (Aq (AA 1 [3] (A3 (Aa (Ae Ag (Aa (Ab 3) (Aa (fC (.int 4)) Ad))) Ad)) (Aw 0) Ba (Ae Ag (Aa (Ab 1) (Aa (fC (.int 256)) Ad))))))
 (Ah (Av 6 (Ac (Ac (Ab 5) (Ab 4) Ar) (Aq (AA 1 [3] (A3 (Aa (Ae Ag (Aa (Ab 3) (Aa (fC (.int 3)) Ad))) Ad)) (Aw 0) Ba (Ae Ag (Aa (Ab 1) (Aa (fC (.int 256)) Ad))))) Ar))
 (Ah (ifS (Aj (Ac (Ae (Dp Bx) (Aa (Ab 1) (Aa (Ab 2) Ad))) (Ab 4) (eqS λb=>!b)))
   (Ak (fC (.bl false)))
   An)
 (Ak (Ac (Ae (Dp Bs) (Aa (Ab 1) (Aa (Ab 6) (Aa (fB (Aa (Ab 5) Ad) AK) Ad)))) (As (Aa (Ab 2) (Aa (Ac (fB (Aa (Ab 5) Ad) AK) (fB (Aa (Ab 4) Ad) AK) Ar) Ad))) (eqS id))))))))
def D9 (Bx Bi AH M3:Fn):M Out:=
 (Ah (ifS (Aj (Ae AH (Aa (Ab 0) (Aa (Ab 1) Ad))))
   (Ak (fC (.bl true)))
   An)
 (Ah (Av 2 (Ae (Dp M3) (Aa (Ab 0) (Aa (Ab 1) Ad))))
 (Ah (ifS (BU (Aj (Ae Bi (Aa (Ab 0) (Aa (Ab 2) Ad)))))
   (Ak (fC (.bl false)))
   An)
 (Ah (BG (B4 (Aq (AI (Aa (As (Aa (As (Aa (fC (.str "list")) (Aa (Ab 0) (Aa (fC (.int 1)) Ad)))) (Aa (As (Aa (fC (.str "list")) (Aa (Ab 1) (Aa (fC (.int 9)) Ad)))) Ad))) (Aa (As (Aa (As (Aa (fC (.str "choice")) (Aa (As (Aa (Ab 0) Ad)) Ad))) (Aa (As (Aa (fC (.str "choice")) (Aa (As (Aa (Ab 1) (Aa (Ab 0) Ad))) Ad))) Ad))) Ad))))) (unS 2 (BK (Aw 3) (BK (Aw 4) E1)))
   (Ah (ifS (Aj (Ae AH (Aa (Ab 3) (Aa (Ab 4) Ad))))
   (Ak (fC (.bl false)))
   An)
 (Ah (Av 5 (Ac (Aq (AI (Aa (fC (.str "")) (Aa (Aq (AI (Aa (Ab 2) Ad))) (Aa (As (Aa (fC (.str "of")) (Aa (fC (.int 0)) (Aa (Ab 2) Ad)))) Ad))))) (Ac (fC (.int 1)) (fB (Aa (Ac (Ac (Ab 3) (fC (.int 0)) ixD) (fC (.str "choice")) (eqS id)) Ad) GR) Ar) ixD))
 (ifS (Dn (Aj (Ae Bi (Aa (Ab 4) (Aa (Ab 5) Ad)))) (Aj (Ac (Ae (Dp Bx) (Aa (Ab 4) (Aa (Ab 5) Ad))) (Ae (Dp Bx) (Aa (Ab 3) (Aa (Ab 5) Ad))) (eqS id))))
   (Ak (fC (.bl false)))
   An))))
 (Ah (Av 3 (As (Aa (fC (.str "pair")) (Aa (As (Aa (fC (.str "nothing")) Ad)) (Aa (Ab 0) Ad)))))
 (Ah (Av 4 (As (Aa (fC (.str "pair")) (Aa (As (Aa (fC (.str "nothing")) Ad)) (Aa (Ab 1) Ad)))))
 (Ah (ifS (Aj (Ae AH (Aa (Ab 3) (Aa (Ab 4) Ad))))
   (Ak (fC (.bl false)))
   An)
 (Ah (ifS (BU (Aj (Ae Bi (Aa (Ab 4) (Aa (As (Aa (fC .non) (Aa (Ab 2) Ad))) Ad)))))
   (Ak (fC (.bl true)))
   An)
 (Ak (Ac (Ae (Dp Bx) (Aa (Ab 4) (Aa (As (Aa (fC .non) (Aa (Ab 2) Ad))) Ad))) (Ae (Dp Bx) (Aa (Ab 3) (Aa (As (Aa (fC .non) (Aa (Ab 2) Ad))) Ad))) (eqS λb=>!b)))))))))))
def DU (EJ:Fn):M Out:=
 (Ah (Av 1 (Aq (AI Ad)))
 (Ah (ifS (Aj (Ac (Ac (Ab 0) (fC (.int 0)) ixD) (fC (.str "list")) (eqS id)))
   (Av 1 (Aq (AI (Aa (Ac (Ab 0) (fC (.int 1)) ixD) Ad))))
   An)
 (Ah (ifS (Aj (Ac (Ac (Ab 0) (fC (.int 0)) ixD) (fC (.str "pair")) (eqS id)))
   (Av 1 (Aq (AI (Aa (Ac (Ab 0) (fC (.int 1)) ixD) (Aa (Ac (Ab 0) (fC (.int 2)) ixD) Ad)))))
   An)
 (Ah (ifS (Aj (Ac (Ac (Ab 0) (fC (.int 0)) ixD) (fC (.str "choice")) (eqS id)))
   (Av 1 (Aq (fBF (Aa (Ac (Ab 0) (fC (.int 1)) ixD) Ad) GX)))
   An)
 (Ah (Av 2 (Aq (AA 1 [] (B4 (Ab 1)) (Aw 0) Ba (Ae EJ (Aa (Ab 0) Ad)))))
 (Ah (Av 3 (fB (Aa (Ac (Aq (AI (Aa (fC (.int 0)) Ad))) (Aq (AA 1 [] (B4 (Ab 2)) (Aw 0) Ba (Ac (Ab 0) (fC (.int 2)) ixD))) Ar) Ad) Fk))
 (Ah (ifS (Aj (Ac (Ac (Ab 0) (fC (.int 0)) ixD) (fC (.str "list")) (eqS id)))
   (Av 3 (fB (Aa (Ab 3) (Aa (Ac (Ab 0) (fC (.int 2)) ixD) Ad)) G2))
   An)
 (Ak (As (Aa (Ac (fC (.int 1)) (fB (Aa (Ac (Aq (AI (Aa (fC (.int 0)) Ad))) (Aq (AA 1 [] (B4 (Ab 2)) (Aw 0) Ba (Ac (Ab 0) (fC (.int 0)) ixD))) Ar) Ad) Fk) Ar) (Aa (Ac (fC (.int 1)) (fB (Aa (Aq (AA 1 [] (B4 (Ab 2)) (Aw 0) Ba (Ac (Ab 0) (fC (.int 1)) ixD))) Ad) Ih) Ar) (Aa (Ab 3) Ad))))))))))))
def Fr (EJ:Fn):M Out:=
 (Ah (EH (Ae EJ (Aa (Ab 0) Ad)) (unS 3 (BK (Aw 1) (BK (Aw 2) (BK (Aw 3) E1)))))
 (Ak (Cn (Ac (Ab 1) (fC (.int 6)) ltA) (Cn (Ac (Ab 2) (fC (.int 29)) ltA) (Ac (Ab 3) (fC (.int 6)) ltA)))))
def GZ (HD Jk AH B5 KN Cp Ag L9 Ke KP:Fn):M Out:=
 (Ah (BG (A3 (Aa (fB (Aa (fC (.int 1)) (Aa (fB (Aa (fC (.int 20)) (Aa (fB (Aa (Ab 0) Ad) AK) Ad)) DZ) Ad)) G2) Ad)) (Aw 1)
   (Ah (Av 2 (Ae KP (Aa (Ab 0) (Aa (Ab 1) Ad))))
 (Ah (EH (GN L9 Ke (Ae Ag (Aa (Ab 2) (Aa (fC (.int 2)) Ad))) (Aa (Ab 2) Ad)) (unS 2 (BK (Aw 3) (BK (Aw 4) E1))))
 (Ah (Av 5 (Ae Cp (Aa (Ab 2) (Aa (Ab 3) Ad))))
 (Ah (ifS (fOr (BU (Aj (Ae AH (Aa (Ab 3) (Aa (Ab 3) Ad))))) (BU (Aj (Ae AH (Aa (Ab 3) (Aa (Ab 5) Ad))))))
   (Ak (fC (.bl false)))
   An)
 (Ah (BG (B4 (Aq (AI (Aa (Ab 4) (Aa (Ab 5) Ad))))) (Aw 6)
   (BG (A3 (Aa (Ac (fC (.int 4)) (fB (Aa (Ae AH (Aa (Ab 3) (Aa (Ab 6) Ad))) Ad) GR) D0) Ad)) (Aw 7)
   (ifS (BU (Aj (Ae KN (Aa (Ab 3) (Aa (Ab 6) (Aa (Ae B5 (Aa (Ab 2) (Aa (Ab 3) Ad))) (Aa (Ab 2) Ad)))))))
   (Ak (fC (.bl false)))
   An)))
 (ifS (Dn (Aj (Ae HD (Aa (Ab 3) Ad))) (Dn (Aj (Ae HD (Aa (Ab 4) Ad))) (BU (Aj (Ae Jk (Aa (Ab 3) (Aa (Ab 4) Ad)))))))
   (Ak (fC (.bl false)))
   An)))))))
 (Ak (fC (.bl true))))
end LW
namespace F2
open PySem L2
def W {α:Type}(m:M α)(t:T)(P:α->T->Prop):Prop:=∃a t',m t=some (a,t')/\P a t'
def Wf (g:Fn)(ds:List D)(S:List Ob)(P:D->List Ob->Prop):Prop:=∃r S',g ds S=some (r,S')/\P r S'
theorem W.mono {α:Type}{m:M α}{t:T}{P Q:α->T->Prop}(h:W m t P)(i:∀a t',P a t'->Q a t'):W m t Q:=by
 obtain ⟨a,t',e,p⟩:=h;exact ⟨a,t',e,i a t' p⟩
theorem Wf.mono {g:Fn}{ds:List D}{S:List Ob}{P Q:D->List Ob->Prop}(h:Wf g ds S P)(i:∀r S',P r S'->Q r S'):Wf g ds S Q:=by
 obtain ⟨a,t',e,p⟩:=h;exact ⟨a,t',e,i a t' p⟩
section
variable {α β:Type}
theorem Ax {m:M α}{t:T}{P:α->T->Prop}{a:α}{t':T}(e:m t=some (a,t')):W m t P↔P a t':=by
 constructor
 ·rintro ⟨a',t1,e',p⟩;rw [e] at e';cases e';exact p
 ·exact λp=>⟨a,t',e,p⟩
theorem DP {m:M α}{t:T}{P:α->T->Prop}(e:m t=none):W m t P↔False:=by
 constructor
 ·rintro ⟨a',t1,e',p⟩;rw [e] at e';cases e'
 ·exact False.elim
@[simp] theorem W_ret {a:α} {t:T} {P:α->T->Prop}:W (ret a) t P↔P a t:=Ax rfl
@[simp] theorem W_fail {t:T} {P:α->T->Prop}:W (fail:M α) t P↔False:=DP rfl
@[simp] theorem W_bnd {f:M α} {g:α->M β} {t:T} {P:β->T->Prop}:W (bnd f g) t P↔W f t λa t1=>W (g a) t1 P:=by
 constructor
 ·rintro ⟨b,t',e,p⟩;obtain ⟨a,t1,e1,e2⟩:=Ai e;exact ⟨a,t1,e1,b,t',e2,p⟩
 ·rintro ⟨a,t1,e1,b,t',e2,p⟩;exact ⟨b,t',by unfold bnd;rw [e1];exact e2,p⟩
@[simp] theorem Rn {c:Prop} [Decidable c] {f g:M α} {t:T} {P:α->T->Prop}:W (if c then f else g) t P↔if c then W f t P else W g t P:=by split <;> rfl
@[simp] theorem Zr {n:Nat} {a:α} {t:T} {P:α->T->Prop}:W (lim n a) t P↔n<=LIM/\P a t:=by
 unfold lim;constructor
 ·rintro ⟨a',t',e,p⟩
  split at e
  ·cases e;exact ⟨by assumption,p⟩
  ·cases e
 ·rintro ⟨h,p⟩;exact ⟨a,t,by simp only [h,if_true],p⟩
end
variable {t:T}{env:List (Option Sl)}{S:List Ob}
@[simp] theorem W_fC {d:D} {P:D->T->Prop}:W (fC d) t P↔P d t:=Ax rfl
@[simp] theorem N7 {i:Nat} {P:D->T->Prop}:W (Ab i) t P↔match t.env[i]? with
 | some (some (.val d))=>P d t
 | some (some (.own ds))=>P (.lst ds) ⟨t.env.set i (some (.val (.lst ds))),t.S⟩
 | _=>False:=by
 cases e:t.env[i]? with
 | none=>exact DP (by unfold Ab;simp [e])
 | some o=>
   cases o with
   | none=>exact DP (by unfold Ab;simp [e])
   | some sl=>
     cases sl with
     | val d=>exact Ax (by unfold Ab;simp [e])
     | own ds=>exact Ax (by unfold Ab;simp [e])
@[simp] theorem W_fBin {f g:M D} {h:D->D->M D} {P:D->T->Prop}:W (Ac f g h) t P↔W f t λx t1=>W g t1 λy t2=>W (h x y) t2 P:=by simp [Ac]
@[simp] theorem W_fUn {f:M D} {h:D->M D} {P:D->T->Prop}:W (fUn f h) t P↔W f t λx t1=>W (h x) t1 P:=by simp [fUn]
@[simp] theorem W_toB {b:Bool} {P:Bool->T->Prop}:W (toB (.bl b)) t P↔P b t:=Ax rfl
@[simp] theorem W_fTst {f:M D} {P:Bool->T->Prop}:W (Aj f) t P↔W f t λx t1=>W (toB x) t1 P:=by simp [Aj]
@[simp] theorem W_fChain {f g w:M D} {h h':D->D->M D} {P:D->T->Prop}:W (Ej f g w h h') t P↔W f t λx t1=>W g t1 λy t2=>W (h x y) t2 λk t3=>W (toB k) t3 λk t4=>if k=true then W w t4 λz t5=>W (h' y z) t5 P else P (.bl false) t4:=by
 simp [Ej]
@[simp] theorem W_fAnd {f g:M Bool} {P:Bool->T->Prop}:W (Dn f g) t P↔W f t λk t1=>if k=true then W g t1 P else P false t1:=by simp [Dn]
@[simp] theorem W_fOr {f g:M Bool} {P:Bool->T->Prop}:W (fOr f g) t P↔W f t λk t1=>if k=true then P true t1 else W g t1 P:=by simp [fOr]
@[simp] theorem W_fNot {f:M Bool} {P:Bool->T->Prop}:W (BU f) t P↔W f t λk t1=>P (!k) t1:=by simp [BU]
@[simp] theorem W_fAndV {f g:M D} {P:D->T->Prop}:W (Cn f g) t P↔W f t λx t1=>W (toB x) t1 λk t2=>if k=true then W g t2 P else P (.bl false) t2:=by simp [Cn]
@[simp] theorem W_fOrV {f g:M D} {P:D->T->Prop}:W (HV f g) t P↔W f t λx t1=>W (toB x) t1 λk t2=>if k=true then P (.bl true) t2 else W g t2 P:=by simp [HV]
@[simp] theorem W_fNotV {f:M D} {P:D->T->Prop}:W (Ge f) t P↔W f t λx t1=>W (toB x) t1 λk t2=>P (.bl (!k)) t2:=by simp [Ge]
@[simp] theorem Zq {f:M Bool} {g h:M D} {P:D->T->Prop}:W (fIf f g h) t P↔W f t λk t1=>if k=true then W g t1 P else W h t1 P:=by simp [fIf]
@[simp] theorem W_fNil {P:List D->T->Prop}:W Ad t P↔P [] t:=Ax rfl
@[simp] theorem W_fCons {f:M D} {g:M (List D)} {P:List D->T->Prop}:W (Aa f g) t P↔W f t λd t1=>W g t1 λds t2=>P (d :: ds) t2:=by simp [Aa]
@[simp] theorem W_fTup {f:M (List D)} {P:D->T->Prop}:W (As f) t P↔W f t λds t1=>ds.length<=LIM/\P (.tup ds) t1:=by simp [As]
@[simp] theorem W_fLst {f:M (List D)} {P:List D->T->Prop}:W (AI f) t P↔W f t λds t1=>ds.length<=LIM/\P ds t1:=by simp [AI]
@[simp] theorem W_fPure {f:M (List D)} {P:D->T->Prop}:W (Aq f) t P↔W f t λds t1=>P (.lst ds) t1:=by simp [Aq]
@[simp] theorem W_newOb {o:Ob} {P:D->T->Prop}:W (Np o) t P↔P (.obj t.S.length) ⟨t.env,t.S++[o]⟩:=Ax rfl
@[simp] theorem UA {f:M (List D)} {P:D->T->Prop}:W (Gf f) t P↔W f t λds t1=>W (Np (.lst ds)) t1 P:=by simp [Gf]
@[simp] theorem W_fCall {g:Fn} {f:M (List D)} {P:D->T->Prop}:W (Ae g f) t P↔W f t λds t1=>Wf g ds t1.S λr S'=>P r ⟨t1.env,S'⟩:=by
 unfold Ae;rw [W_bnd];constructor
 ·rintro ⟨ds,t1,e1,r,t',e2,p⟩;refine ⟨ds,t1,e1,?_⟩;dsimp only at e2
  cases e:g ds t1.S with
  | none=>rw [e] at e2;cases e2
  | some z=>obtain ⟨r',S'⟩:=z;rw [e] at e2;cases e2;exact ⟨r,_,e,p⟩
 ·rintro ⟨ds,t1,e1,r,S',e2,p⟩;exact ⟨ds,t1,e1,r,_,by simp only [e2],p⟩
@[simp] theorem W_fB {f:M (List D)} {h:List D->M D} {P:D->T->Prop}:W (fB f h) t P↔W f t λds t1=>W (h ds) t1 P:=by simp [fB]
@[simp] theorem W_fBF {f:M (List D)} {h:List D->M (List D)} {P:List D->T->Prop}:W (fBF f h) t P↔W f t λds t1=>W (h ds) t1 P:=by simp [fBF]
@[simp] theorem W_seqS {f g:M Out} {P:Out->T->Prop}:W (Ah f g) t P↔W f t λo t1=>match o with
 | .next=>W g t1 P
 | .brk=>P .brk t1
 | .cont=>P .cont t1
 | .ret d=>P (.ret d) t1:=by
 unfold Ah;constructor
 ·rintro ⟨o,t',e,p⟩;dsimp only at e
  cases e1:f t with
  | none=>rw [e1] at e;cases e
  | some z=>
    obtain ⟨o1,t1⟩:=z;rw [e1] at e;refine ⟨o1,t1,e1,?_⟩
    cases o1 with
    | next=>exact ⟨o,t',e,p⟩
    | brk=>cases e;exact p
    | cont=>cases e;exact p
    | ret d=>cases e;exact p
 ·rintro ⟨o,t1,e,p⟩
  cases o with
  | next=>obtain ⟨o,t',e',p⟩:=p;exact ⟨o,t',by simp only [e];exact e',p⟩
  | brk=>exact ⟨_,_,by simp only [e],p⟩
  | cont=>exact ⟨_,_,by simp only [e],p⟩
  | ret d=>exact ⟨_,_,by simp only [e],p⟩
@[simp] theorem W_skipS {P:Out->T->Prop}:W An t P↔P .next t:=Ax rfl
@[simp] theorem W_retS {f:M D} {P:Out->T->Prop}:W (Ak f) t P↔W f t λd t1=>P (.ret d) t1:=by simp [Ak]
@[simp] theorem Zf {f:M D} {P:Out->T->Prop}:W (Rr f) t P↔W f t λd t1=>P .next t1:=by simp [Rr]
@[simp] theorem W_ifS {f:M Bool} {g h:M Out} {P:Out->T->Prop}:W (ifS f g h) t P↔W f t λk t1=>if k=true then W g t1 P else W h t1 P:=by simp [ifS]
@[simp] theorem W_putV {i:Nat} {d:D} {P:Unit->T->Prop}:W (Aw i d) t P↔P () ⟨t.env.set i (some (.val d)),t.S⟩:=Ax rfl
@[simp] theorem W_setS {i:Nat} {f:M D} {P:Out->T->Prop}:W (Av i f) t P↔W f t λd t1=>P .next ⟨t1.env.set i (some (.val d)),t1.S⟩:=by
 simp only [Av,W_bnd,W_ret,W_putV]
@[simp] theorem W_ownS {i:Nat} {f:M (List D)} {P:Out->T->Prop}:W (C6 i f) t P↔W f t λds t1=>P .next ⟨t1.env.set i (some (.own ds)),t1.S⟩:=by
 unfold C6;rw [W_bnd];have:∀(ds:List D) (t1:T),W (λt:T=>some (Out.next,({ t with env:=t.env.set i (some (.own ds)) }:T))) t1 P↔P .next ⟨t1.env.set i (some (.own ds)),t1.S⟩:=λds t1=>Ax rfl;simp only [this]
@[simp] theorem W_asgS {f:M D} {g:D->M Unit} {P:Out->T->Prop}:W (EH f g) t P↔W f t λd t1=>W (g d) t1 λ_ t2=>P .next t2:=by simp [EH]
@[simp] theorem W_putNil {P:Unit->T->Prop}:W (E1 []) t P↔P () t:=Ax rfl
@[simp] theorem W_putCons {f:D->M Unit} {g:List D->M Unit} {d:D} {ds:List D} {P:Unit->T->Prop}:W (BK f g (d :: ds)) t P↔W (f d) t λ_ t1=>W (g ds) t1 P:=by simp [BK]
@[simp] theorem XV {n:Nat} {g:List D->M Unit} {ds:List D} {P:Unit->T->Prop}:W (unS n g (.lst ds)) t P↔ds.length=n/\W (g ds) t P:=by
 unfold unS;simp only [Rn,W_fail];split <;> simp [*]
@[simp] theorem W_unS_tup {n:Nat} {g:List D->M Unit} {ds:List D} {P:Unit->T->Prop}:W (unS n g (.tup ds)) t P↔ds.length=n/\W (g ds) t P:=by
 unfold unS;simp only [Rn,W_fail];split <;> simp [*]
@[simp] theorem W_forS {f:M (List D)} {st:D->M Unit} {b:M Out} {P:Out->T->Prop}:W (BG f st b) t P↔W f t λds t1=>W (CT st b ds) t1 P:=by simp [BG]
@[simp] theorem W_forL_nil {st:D->M Unit} {b:M Out} {P:Out->T->Prop}:W (CT st b []) t P↔P .next t:=Ax rfl
theorem W_forL_cons {st:D->M Unit}{b:M Out}{d:D}{r:List D}{P:Out->T->Prop}:W (CT st b (d :: r)) t P↔W (st d) t λ_ t1=>W b t1 λo t2=>match o with
 | .next=>W (CT st b r) t2 P
 | .cont=>W (CT st b r) t2 P
 | .brk=>P .next t2
 | .ret x=>P (.ret x) t2:=by
 constructor
 ·rintro ⟨o,t',e,p⟩;unfold CT at e
  cases e1:st d t with
  | none=>rw [e1] at e;cases e
  | some z=>
    obtain ⟨u,t1⟩:=z;rw [e1] at e
    try dsimp only at e
    refine ⟨u,t1,e1,?_⟩
    cases e2:b t1 with
    | none=>rw [e2] at e;cases e
    | some z=>
      obtain ⟨o2,t2⟩:=z;rw [e2] at e
      try dsimp only at e
      refine ⟨o2,t2,e2,?_⟩
      cases o2 with
      | next=>exact ⟨o,t',e,p⟩
      | cont=>exact ⟨o,t',e,p⟩
      | brk=>cases e;exact p
      | ret x=>cases e;exact p
 ·rintro ⟨u,t1,e1,o,t2,e2,p⟩
  cases o with
  | next=>obtain ⟨o,t',e',p⟩:=p;exact ⟨o,t',by unfold CT;simp only [e1,e2];exact e',p⟩
  | cont=>obtain ⟨o,t',e',p⟩:=p;exact ⟨o,t',by unfold CT;simp only [e1,e2];exact e',p⟩
  | brk=>exact ⟨_,_,by unfold CT;simp only [e1,e2],p⟩
  | ret x=>exact ⟨_,_,by unfold CT;simp only [e1,e2],p⟩
theorem B1 {st:D->M Unit}{b:M Out}{P:Out->T->Prop}(I:List D->T->Prop):∀(ds:List D) (t:T),I ds t->
 (∀d r t,I (d :: r) t->d∈ds->W (st d) t λ_ t1=>W b t1 λo t2=>match o with
   | .next=>I r t2
   | .cont=>I r t2
   | .brk=>P .next t2
   | .ret x=>P (.ret x) t2)->(∀t,I [] t->P .next t)->W (CT st b ds) t P
 | [],t,h,_,fin=>W_forL_nil.mpr (fin t h)
 | d :: r,t,h,turn,fin=>by
   rw [W_forL_cons];refine (turn d r t h uf1).mono λ_ t1 h1=>h1.mono λo t2 h2=>?_
   cases o with
   | next=>exact B1 I r t2 h2 (λd' r' t' h' m=>turn d' r' t' h' (ud4 _ m)) fin
   | cont=>exact B1 I r t2 h2 (λd' r' t' h' m=>turn d' r' t' h' (ud4 _ m)) fin
   | brk=>exact h2
   | ret x=>exact h2
@[simp] theorem W_fComp {n:Nat} {fr:List Nat} {f:M (List D)} {st:D->M Unit} {tst:M Bool} {elt:M D} {P:List D->T->Prop}:W (AA n fr f st tst elt) t P↔W f t λds t1=>W (Bm st tst elt ds) ⟨cenv n fr t1.env,t1.S⟩ λxs t'=>xs.length<=LIM/\P xs ⟨t1.env,t'.S⟩:=by
 unfold AA;rw [W_bnd];constructor
 ·rintro ⟨ds,t1,e1,xs,t',e2,p⟩;refine ⟨ds,t1,e1,?_⟩;dsimp only at e2
  cases e:Bm st tst elt ds ⟨cenv n fr t1.env,t1.S⟩ with
  | none=>rw [e] at e2;cases e2
  | some z=>
    obtain ⟨ys,t3⟩:=z;rw [e] at e2;dsimp only at e2
    split at e2
    ·cases e2;exact ⟨_,_,e,by assumption,p⟩
    ·cases e2
 ·rintro ⟨ds,t1,e1,xs,t',e2,h,p⟩;exact ⟨ds,t1,e1,xs,_,by simp only [e2,h,if_true],p⟩
@[simp] theorem W_compL_nil {st:D->M Unit} {tst:M Bool} {elt:M D} {P:List D->T->Prop}:W (Bm st tst elt []) t P↔P [] t:=Ax rfl
theorem GH {st:D->M Unit}{tst:M Bool}{elt:M D}{d:D}{r:List D}{P:List D->T->Prop}:W (Bm st tst elt (d :: r)) t P↔W (st d) t λ_ t1=>W tst t1 λk t2=>
 if k=true then W elt t2 λx t3=>W (Bm st tst elt r) t3 λxs t4=>P (x :: xs) t4 else W (Bm st tst elt r) t2 P:=by
 rw [Bm];simp
theorem CY {st:D->M Unit}{tst:M Bool}{elt:M D}{P:List D->T->Prop}(I:List D->List D->T->Prop):∀(ds:List D) (acc:List D) (t:T),I acc ds t->
 (∀acc d r t,I acc (d :: r) t->d∈ds->W (st d) t λ_ t1=>W tst t1 λk t2=>if k=true then W elt t2 λx t3=>I (acc++[x]) r t3 else I acc r t2)->
 (∀acc t,I acc [] t->P acc t)->W (Bm st tst elt ds) t λxs t'=>P (acc++xs) t'
 | [],acc,t,h,_,fin=>W_compL_nil.mpr (by rw [uj4];exact fin acc t h)
 | d :: r,acc,t,h,turn,fin=>by
   rw [GH];have turn':∀acc d' r' t',I acc (d' :: r') t'->d'∈r->_:=λacc d' r' t' h' m=>turn acc d' r' t' h' (ud4 _ m);refine (turn acc d r t h uf1).mono λ_ t1 h1=>h1.mono λk t2 h2=>?_
   cases k with
   | true=>
     rw [if_pos rfl] at h2 ⊢;refine h2.mono λx t3 h3=>(CY I r (acc++[x]) t3 h3 turn' fin).mono λxs t4 h4=>?_;rw [ug5] at h4;exact h4
   | false=>
     rw [if_neg uf2] at h2 ⊢;exact CY I r acc t2 h2 turn' fin
theorem Ap {n m:Nat}{g:M Out}{ds:List D}{P:D->List Ob->Prop}(h:ds.length=n)(w:W g ⟨env0 m ds,S⟩ λo t=>match o with
 | .ret r=>P r t.S
 | .next=>P .non t.S
 | _=>False):Wf (fnOf n m g) ds S P:=by
 obtain ⟨o,t,e,p⟩:=w
 cases o with
 | ret r=>exact ⟨r,t.S,by unfold fnOf;rw [if_pos h,e],p⟩
 | next=>exact ⟨.non,t.S,by unfold fnOf;rw [if_pos h,e],p⟩
 | brk=>exact p.elim
 | cont=>exact p.elim
@[simp] theorem W_tTru {P:Bool->T->Prop}:W Ba t P↔P true t:=Ax rfl
@[simp] theorem Zk {P:D->T->Prop}:W Yb t P↔P .dic t:=Ax rfl
end F2
namespace F2
open PySem L2
variable {t:T}{P:D->T->Prop}
theorem Iy {α β:Type}{o:Option β}{g:β->α×T}{Q:α->T->Prop}{m:M α}(e:m t=o.map g):W m t Q↔∃b,o=some b/\Q (g b).1 (g b).2:=by
 constructor
 ·rintro ⟨a,t',e',p⟩;rw [e] at e';obtain ⟨b,h1,h2⟩:=uc1.mp e';exact ⟨b,h1,by rw [h2];exact p⟩
 ·rintro ⟨b,h,p⟩;exact ⟨_,_,by rw [e,h];rfl,p⟩
theorem M0 {α:Type}{c:Prop}[Decidable c]{z:α×T}{Q:α->T->Prop}{m:M α}(e:m t=if c then some z else none):W m t Q↔c/\Q z.1 z.2:=by
 constructor
 ·rintro ⟨a,t',e',p⟩;rw [e] at e'
  split at e'
  ·cases e';exact ⟨by assumption,p⟩
  ·cases e'
 ·rintro ⟨h,p⟩;exact ⟨_,_,by rw [e,if_pos h],p⟩
theorem KH {α β:Type}{o:Option β}(f:β->α){Q:α->T->Prop}{m:M α}(e:m t=o.map λb=>(f b,t)):W m t Q↔∃b,o=some b/\Q (f b) t:=Iy (g:=λb=>(f b,t)) e
theorem F5 {α:Type}{c:Prop}[Decidable c]{a:α}{Q:α->T->Prop}{m:M α}(e:m t=if c then some (a,t) else none):W m t Q↔c/\Q a t:=M0 (z:=(a,t)) e
@[simp] theorem W_ix_tup {ds:List D} {i:Int}:W (ixD (.tup ds) (.int i)) t P↔∃d,atI ds i=some d/\P d t:=KH id rfl
@[simp] theorem W_ix_lst {ds:List D} {i:Int}:W (ixD (.lst ds) (.int i)) t P↔∃d,atI ds i=some d/\P d t:=KH id rfl
@[simp] theorem W_ix_scr {ns:List Int} {i:Int}:W (ixD (.scr ns) (.int i)) t P↔∃n,atI ns i=some n/\P (.int n) t:=KH D.int rfl
@[simp] theorem W_ix_str {x:Str} {i:Int}:W (ixD (.str x) (.int i)) t P↔x.length<=LIM/\∃n,atI x.cps.toList i=some n/\P (.str ⟨#[n]⟩) t:=by
 by_cases h:x.length<=LIM
 ·have:ixD (.str x) (.int i) t=(atI x.cps.toList i).map λn=>(.str ⟨#[n]⟩,t):=by simp only [ixD,h,if_true]
  rw [Iy this];simp [h]
 ·rw [DP (by simp only [ixD,h,if_false])];simp [h]
@[simp] theorem W_ix_obj {k:Nat} {i:Int}:W (ixD (.obj k) (.int i)) t P↔∃ds,t.S[k]?=some (.lst ds)/\∃d,atI ds i=some d/\P d t:=by
 cases e:t.S[k]? with
 | none=>rw [DP (by simp only [ixD,e])];simp
 | some o=>
   cases o with
   | dct _ | ins _ _=>rw [DP (by simp only [ixD,e])];simp
   | lst ds=>
     have:ixD (.obj k) (.int i) t=(atI ds i).map λd=>(d,t):=by simp only [ixD,e]
     rw [Iy this];simp
@[simp] theorem M2 {α:Type} {a:α} {r:List α}:atI (a :: r) 0=some a:=by simp [atI,ixN]
@[simp] theorem Rp {α:Type} {a b:α} {r:List α}:atI (a :: b :: r) 1=some b:=by
 have:(1:Int) < ((a :: b :: r).length:Nat):=by simp;lia
 simp only [atI,ixN,this,if_true,show (0:Int)<=1 by decide];rfl
@[simp] theorem Rq {α:Type} {a b c:α} {r:List α}:atI (a :: b :: c :: r) 2=some c:=by
 have:(2:Int) < ((a :: b :: c :: r).length:Nat):=by simp;lia
 simp only [atI,ixN,this,if_true,show (0:Int)<=2 by decide];rfl
theorem RZ {α:Type}{xs:List α}{i:Int}(h0:0<=i)(h1:i < xs.length):∃d,atI xs i=some d/\d∈xs/\xs[i.toNat]?=some d:=by
 have hl:i.toNat < xs.length:=by lia
 refine ⟨xs[i.toNat],?_,ui3 hl,ub2 hl⟩;simp [atI,ixN,h0,h1,hl]
@[simp] theorem W_len_lst {ds:List D}:W (AK [.lst ds]) t P↔P (.int ds.length) t:=Ax rfl
@[simp] theorem W_len_tup {ds:List D}:W (AK [.tup ds]) t P↔P (.int ds.length) t:=Ax rfl
@[simp] theorem W_len_scr {ds:List Int}:W (AK [.scr ds]) t P↔P (.int ds.length) t:=Ax rfl
@[simp] theorem W_len_str {x:Str}:W (AK [.str x]) t P↔x.length<=LIM/\P (.int x.length) t:=by simp [AK]
@[simp] theorem W_isi {d:D} {m:String}:W (C3 [d,.ty m]) t P↔∃n,tyD d=some n/\∃b,Jv n m=some b/\P (.bl b) t:=by
 cases e:tyD d with
 | none=>rw [DP (by simp only [C3,e])];simp
 | some n=>
   have:C3 [d,.ty m] t=(Jv n m).map λb=>(.bl b,t):=by simp only [C3,e]
   rw [Iy this];simp
noncomputable def Gm:D->Bool
 | .non=>true
 | _=>false
noncomputable def Yj (b:Bool):D->Bool
 | .bl c=>c == b
 | _=>false
@[simp] theorem W_is_non {x:D}:W (isC x .non) t P↔P (.bl (Gm x)) t:=Ax (by cases x <;> rfl)
@[simp] theorem Zi {x:D} {b:Bool}:W (isC x (.bl b)) t P↔P (.bl (Yj b x)) t:=Ax (by cases x <;> rfl)
@[simp] theorem Zh {x y:D}:W (OH x y) t P↔W (isC x y) t λd t1=>W (toB d) t1 λb t2=>P (.bl (!b)) t2:=by
 unfold OH;rw [W_bnd];constructor
 ·exact λh=>h.mono λd t1 h1=>by
   cases d with
   | bl b=>simpa using h1
   | _=>exact (W_fail.mp h1).elim
 ·exact λh=>h.mono λd t1 h1=>by
   cases d with
   | bl b=>simpa using h1
   | _=>obtain ⟨_,_,e,_⟩:=h1;cases e
@[simp] theorem W_add_int {i j:Int}:W (Ar (.int i) (.int j)) t P↔P (.int (i + j)) t:=Ax rfl
@[simp] theorem W_sub_int {i j:Int}:W (BH (.int i) (.int j)) t P↔P (.int (i - j)) t:=Ax rfl
@[simp] theorem W_lt_int {i j:Int}:W (ltA (.int i) (.int j)) t P↔P (.bl (decide (i < j))) t:=Ax rfl
@[simp] theorem W_le_int {i j:Int}:W (leA (.int i) (.int j)) t P↔P (.bl (decide (i<=j))) t:=Ax rfl
@[simp] theorem W_gt_int {i j:Int}:W (gtA (.int i) (.int j)) t P↔P (.bl (decide (j < i))) t:=Ax rfl
@[simp] theorem W_ge_int {i j:Int}:W (geA (.int i) (.int j)) t P↔P (.bl (decide (j<=i))) t:=Ax rfl
@[simp] theorem X1 {i j:Str}:W (ltA (.str i) (.str j)) t P↔P (.bl (decide (i.cps.toList < j.cps.toList))) t:=Ax rfl
@[simp] theorem XZ {i j:Str}:W (gtA (.str i) (.str j)) t P↔P (.bl (decide (j.cps.toList < i.cps.toList))) t:=Ax rfl
@[simp] theorem W_neg {i:Int}:W (H9 (.int i)) t P↔P (.int (-i)) t:=Ax rfl
@[simp] theorem W_fdiv {i j:Int}:W (Gg (.int i) (.int j)) t P↔(0 < j/\j < 1073741824)/\P (.int (i / j)) t:=by
 rw [M0 (m:=Gg (.int i) (.int j)) (c:=Kn i j=true) (z:=(.int (i / j),t)) rfl];simp [Kn]
@[simp] theorem W_mod {i j:Int}:W (EY (.int i) (.int j)) t P↔0 < j/\P (.int (i % j)) t:=by
 rw [M0 (m:=EY (.int i) (.int j)) (c:=decide (0 < j)=true) (z:=(.int (i % j),t)) rfl];simp
@[simp] theorem W_pow {i j:Int}:W (EZ (.int i) (.int j)) t P↔Ks i j=true/\P (.int (i ^ j.toNat)) t:=F5 rfl
@[simp] theorem W_mul_int {i j:Int}:W (D0 (.int i) (.int j)) t P↔Ex i j=true/\P (.int (i * j)) t:=F5 rfl
@[simp] theorem W_mul_str {x:Str} {k:Int}:W (D0 (.str x) (.int k)) t P↔(BL k=true/\x.length * k.toNat<=LIM/\k<=LIM/\x.length<=LIM)/\P (.str (Txt.mul x k)) t:=F5 rfl
theorem Hn {i j:Int}(h1 : -18446744073709551616 < i)(h2:i < 18446744073709551616):Ex i j=true:=by simp [Ex,h1,h2]
theorem SI {i j:Int}(h1 : -18446744073709551616 < j)(h2:j < 18446744073709551616):Ex i j=true:=by simp [Ex,h1,h2]
theorem Bf {k:Int}(h1 : -4611686018427387904<=k)(h2:k < 4611686018427387904):BL k=true:=by simp [BL,h1,h2]
@[simp] theorem W_add_str {x y:Str}:W (Ar (.str x) (.str y)) t P↔x.length + y.length<=LIM/\P (.str (x++y)) t:=by
 have:Ar (.str x) (.str y)=lim (x.length + y.length) (.str (x++y)):=rfl;rw [this];simp
@[simp] theorem W_add_lst {x y:List D}:W (Ar (.lst x) (.lst y)) t P↔x.length + y.length<=LIM/\P (.lst (x++y)) t:=by
 have:Ar (.lst x) (.lst y)=lim (x.length + y.length) (.lst (x++y)):=rfl;rw [this];simp
@[simp] theorem W_add_tup {d:D} {x y:List D}:W (Ar (.tup (d :: x)) (.tup y)) t P↔x.length + 1 + y.length<=LIM/\P (.tup (d :: x++y)) t:=by
 have:Ar (.tup (d :: x)) (.tup y) t=if (d :: x).isEmpty=false/\(d :: x).length + y.length<=LIM then some (.tup (d :: x++y),t) else none:=rfl;rw [M0 this];simp
@[simp] theorem W_add_tup0 {y:List D}:W (Ar (.tup []) (.tup y)) t P↔P (.tup y) t:=Ax rfl
@[simp] theorem W_cat {x y:List D} {Q:List D->T->Prop}:W (HN (.lst x) (.lst y)) t Q↔x.length + y.length<=LIM/\Q (x++y) t:=by
 have:HN (.lst x) (.lst y)=lim (x.length + y.length) (x++y):=rfl;rw [this];simp
@[simp] theorem Zp {i:Int}:W (X4 [.int i]) t P↔P (.int (if i < 0 then -i else i)) t:=Ax rfl
@[simp] theorem W_min {i j:Int}:W (DZ [.int i,.int j]) t P↔P (.int (if j < i then j else i)) t:=Ax rfl
@[simp] theorem W_max {i j:Int}:W (G2 [.int i,.int j]) t P↔P (.int (if j > i then j else i)) t:=Ax rfl
@[simp] theorem XT {i:Int}:W (GR [.int i]) t P↔P (.int i) t:=Ax rfl
@[simp] theorem W_int_bl {b:Bool}:W (GR [.bl b]) t P↔P (.int (if b then 1 else 0)) t:=Ax rfl
@[simp] theorem W_ord {x:Str}:W (Ic [.str x]) t P↔x.length=1/\P (.int (x.cps.getD 0 0:Nat)) t:=F5 rfl
@[simp] theorem W_tup_lst {ds:List D}:W (FC [.lst ds]) t P↔P (.tup ds) t:=Ax rfl
@[simp] theorem XU {ds:List D} {Q:List D->T->Prop}:W (GX [.lst ds]) t Q↔Q ds t:=Ax rfl
@[simp] theorem W_lst_tup {ds:List D} {Q:List D->T->Prop}:W (GX [.tup ds]) t Q↔Q ds t:=Ax rfl
@[simp] theorem W_eq_str {g:Bool->Bool} {x y:Str}:W (eqS g (.str x) (.str y)) t P↔P (.bl (g (x == y))) t:=Ax rfl
@[simp] theorem W_eq_int {g:Bool->Bool} {x y:Int}:W (eqS g (.int x) (.int y)) t P↔P (.bl (g (x == y))) t:=Ax rfl
@[simp] theorem Zg {g:Bool->Bool} {x y:Bool}:W (eqS g (.bl x) (.bl y)) t P↔P (.bl (g (x == y))) t:=Ax rfl
@[simp] theorem XY {g:Bool->Bool} {x:List D}:W (eqS g (.lst x) (.lst [])) t P↔P (.bl (g x.isEmpty)) t:=by
 refine Ax ?_
 cases x <;> rfl
@[simp] theorem W_sl_lst {ds:List D} {lo hi:Option Int}:W (BR (.lst ds) lo hi) t P↔P (.lst (Bp ds lo hi)) t:=Ax rfl
@[simp] theorem X2 {ds:List Int} {lo hi:Option Int}:W (BR (.scr ds) lo hi) t P↔P (.lst ((Bp ds lo hi).map .int)) t:=Ax rfl
@[simp] theorem X3 {x:Str} {lo hi:Option Int}:W (BR (.str x) lo hi) t P↔x.length<=LIM/\P (.str (Txt.slice x lo hi)) t:=by
 have:BR (.str x) lo hi=lim x.length (.str (Txt.slice x lo hi)):=rfl;rw [this];simp
@[simp] theorem W_sl_tup {ds:List D} {lo hi:Option Int}:W (BR (.tup ds) lo hi) t P↔P (.tup (Bp ds lo hi)) t:=Ax rfl
@[simp] theorem W_fSl {f:M D} {l u:M (Option Int)} {h:D->Option Int->Option Int->M D}:W (fSl f l u h) t P↔W f t λx t1=>W l t1 λlo t2=>W u t2 λhi t3=>W (h x lo hi) t3 P:=by simp [fSl]
@[simp] theorem W_fNo {Q:Option Int->T->Prop}:W fNo t Q↔Q none t:=Ax rfl
@[simp] theorem W_asI {i:Int} {Q:Option Int->T->Prop}:W (asI (.int i)) t Q↔Q (some i) t:=Ax rfl
@[simp] theorem W_fPart {f:M D} {Q:Option Int->T->Prop}:W (B2 f) t Q↔W f t λx t1=>W (asI x) t1 Q:=by simp [B2]
@[simp] theorem W_fItA {f:M D} {Q:List D->T->Prop}:W (B4 f) t Q↔W f t λx t1=>W (Dr x) t1 Q:=by simp [B4]
@[simp] theorem W_it_lst {ds:List D} {Q:List D->T->Prop}:W (Dr (.lst ds)) t Q↔Q ds t:=Ax rfl
@[simp] theorem W_it_tup {ds:List D} {Q:List D->T->Prop}:W (Dr (.tup ds)) t Q↔Q ds t:=Ax rfl
@[simp] theorem X0 {ds:List Int} {Q:List D->T->Prop}:W (Dr (.scr ds)) t Q↔Q (ds.map .int) t:=Ax rfl
@[simp] theorem W_it_str {x:Str} {Q:List D->T->Prop}:W (Dr (.str x)) t Q↔Q (x.cps.toList.map λc=>.str ⟨#[c]⟩) t:=Ax rfl
@[simp] theorem W_fRng1 {f:M (List D)} {Q:List D->T->Prop}:W (A3 f) t Q↔W f t λx t1=>W (JD x) t1 Q:=by simp [A3]
@[simp] theorem W_fRng2 {f:M (List D)} {Q:List D->T->Prop}:W (Fh f) t Q↔W f t λx t1=>W (JE x) t1 Q:=by simp [Fh]
@[simp] theorem W_rng1 {j:Int} {Q:List D->T->Prop}:W (JD [.int j]) t Q↔BL j=true/\Q (AX 0 j.toNat) t:=F5 rfl
@[simp] theorem W_rng2 {i j:Int} {Q:List D->T->Prop}:W (JE [.int i,.int j]) t Q↔(BL i && BL j)=true/\Q (AX i (j - i).toNat) t:=F5 rfl
@[simp] theorem W_in_lst {neg:Bool} {x:D} {ds:List D}:W (inD neg x (.lst ds)) t P↔(Fj x=true/\ds.all Fj=true)/\P (.bl (if neg then !inV (toV x) (ds.map toV) else inV (toV x) (ds.map toV))) t:=F5 rfl
@[simp] theorem W_ownM {i:Nat} {h:List D->List D->Option (List D)} {g:M (List D)} {Q:Out->T->Prop}:W (ownM i h g) t Q↔(∃xs,t.env[i]?=some (some (.own xs)))/\W g t λds t1=>∃xs,t1.env[i]?=some (some (.own xs))/\∃ys,h xs ds=some ys/\Q .next ⟨t1.env.set i (some (.own ys)),t1.S⟩:=by
 constructor
 ·rintro ⟨o,t',e,p⟩;unfold ownM at e
  split at e
  ·next xs e0=>
   refine ⟨⟨xs,e0⟩,?_⟩;obtain ⟨ds,t1,e1,e⟩:=Ai e;refine ⟨ds,t1,e1,?_⟩
   split at e
   ·next ys e2=>
    obtain ⟨zs,e3,e4⟩:=uc1.mp e
    cases e4
    exact ⟨ys,e2,zs,e3,p⟩
   ·cases e
  ·cases e
 ·rintro ⟨⟨xs,e0⟩,ds,t1,e1,ys,e2,zs,e3,p⟩;exact ⟨_,_,by unfold ownM bnd;simp only [e0,e1,e2,e3,uk0],p⟩
@[simp] theorem app1_one {xs:List D} {d:D} {ys:List D}:EG xs [d]=some ys↔xs.length < LIM/\xs++[d]=ys:=by
 unfold EG;split <;> simp [*]
@[simp] theorem W_stD {f g:M D} {d:D} {Q:Unit->T->Prop}:W (stD f g d) t Q↔W f t λo t1=>W g t1 λi t2=>W (FB o i d) t2 Q:=by simp [stD]
@[simp] theorem W_stOb {k:Nat} {j:Int} {d:D} {Q:Unit->T->Prop}:W (FB (.obj k) (.int j) d) t Q↔∃xs,t.S[k]?=some (.lst xs)/\∃n,ixN xs.length j=some n/\Q () ⟨t.env,t.S.set k (.lst (xs.set n d))⟩:=by
 cases e:t.S[k]? with
 | none=>rw [DP (by simp only [FB,e])];simp
 | some o=>
   cases o with
   | dct _ | ins _ _=>rw [DP (by simp only [FB,e])];simp
   | lst ds=>
     have:FB (.obj k) (.int j) d t=(ixN ds.length j).map λn=>((),{ t with S:=t.S.set k (.lst (ds.set n d)) }):=by simp only [FB,e]
     rw [Iy this];simp
end F2
namespace F2
open PySem L2
variable {t:T}{P:D->T->Prop}{Q:List D->T->Prop}{R:Out->T->Prop}{B:Bool->T->Prop}{U:Unit->T->Prop}
def EM (k:Bool)(A B:Prop):Prop:=if k=true then A else B
variable {k:Bool}
theorem Fq {A B:Prop}(h:k=true)(a:A):EM k A B:=by unfold EM;rw [if_pos h];exact a
theorem Jw {A B:Prop}(h:k=false)(b:B):EM k A B:=by unfold EM;rw [if_neg (by rw [h];exact uf2)];exact b
theorem AV {A B:Prop}(a:k=true->A)(b:k=false->B):EM k A B:=by cases h:k with
 | true=>exact Fq rfl (a h)
 | false=>exact Jw rfl (b h)
def QY (g:M Out)(R:Out->T->Prop)(o:Out)(t1:T):Prop:=match o with
 | .next=>W g t1 R
 | o=>R o t1
variable {t1:T}
theorem Cc {g:M Out}(h:W g t1 R):QY g R .next t1:=h
theorem LU {g:M Out}{d:D}(h:R (.ret d) t1):QY g R (.ret d) t1:=h
theorem Y3 {f g:M Out}(h:W f t (QY g R)):W (Ah f g) t R:=W_seqS.mpr (h.mono λo t1 h1=>by cases o <;> exact h1)
theorem HA (h:R .next t):W An t R:=W_skipS.mpr h
variable {f:M D}
theorem Y2 (h:W f t λd t1=>R (.ret d) t1):W (Ak f) t R:=W_retS.mpr h
theorem wIf {f:M Bool}{g h:M Out}(w:W f t λk t1=>EM k (W g t1 R) (W h t1 R)):W (ifS f g h) t R:=W_ifS.mpr w
theorem Y4 {i:Nat}(h:W f t λd t1=>R .next ⟨t1.env.set i (some (.val d)),t1.S⟩):W (Av i f) t R:=W_setS.mpr h
theorem Y0 {i:Nat}{f:M (List D)}(h:W f t λd t1=>R .next ⟨t1.env.set i (some (.own d)),t1.S⟩):W (C6 i f) t R:=W_ownS.mpr h
theorem YD {g:D->M Unit}(h:W f t λd t1=>W (g d) t1 λ_ t2=>R .next t2):W (EH f g) t R:=W_asgS.mpr h
theorem YG {f:M (List D)}{st:D->M Unit}{b:M Out}(h:W f t λds t1=>W (CT st b ds) t1 R):W (BG f st b) t R:=W_forS.mpr h
theorem wC {d:D}(h:P d t):W (fC d) t P:=W_fC.mpr h
theorem Ef {i:Nat}{d:D}(e:t.env[i]?=some (some (.val d)))(h:P d t):W (Ab i) t P:=by rw [N7,e];exact h
variable {ds:List D}
theorem XO {i:Nat}(e:t.env[i]?=some (some (.own ds)))(h:P (.lst ds) ⟨t.env.set i (some (.val (.lst ds))),t.S⟩):W (Ab i) t P:=by rw [N7,e];exact h
variable {g:M D}
theorem JH {h:D->D->M D}(w:W f t λx t1=>W g t1 λy t2=>W (h x y) t2 P):W (Ac f g h) t P:=W_fBin.mpr w
theorem wUn {h:D->M D}(w:W f t λx t1=>W (h x) t1 P):W (fUn f h) t P:=W_fUn.mpr w
theorem Ee {α β:Type}{f:M α}{g:α->M β}{K:β->T->Prop}(w:W f t λx t1=>W (g x) t1 K):W (bnd f g) t K:=W_bnd.mpr w
theorem NP {b:Bool}(h:B b t):W (toB (.bl b)) t B:=W_toB.mpr h
theorem NQ (h:W f t λx t1=>W (toB x) t1 B):W (Aj f) t B:=W_fTst.mpr h
theorem Wn {w:M D}{h h':D->D->M D}(q:W f t λx t1=>W g t1 λy t2=>W (h x y) t2 λk t3=>W (toB k) t3 λk t4=>EM k (W w t4 λz t5=>W (h' y z) t5 P) (P (.bl false) t4)):W (Ej f g w h h') t P:=W_fChain.mpr q
theorem YA {f g:M Bool}(h:W f t λk t1=>EM k (W g t1 B) (B false t1)):W (Dn f g) t B:=W_fAnd.mpr h
theorem wOr {f g:M Bool}(h:W f t λk t1=>EM k (B true t1) (W g t1 B)):W (fOr f g) t B:=W_fOr.mpr h
theorem YX {f:M Bool}(h:W f t λk t1=>B (!k) t1):W (BU f) t B:=W_fNot.mpr h
theorem Xm (h:W f t λx t1=>W (toB x) t1 λk t2=>EM k (W g t2 P) (P (.bl false) t2)):W (Cn f g) t P:=W_fAndV.mpr h
theorem YZ (h:W f t λx t1=>W (toB x) t1 λk t2=>EM k (P (.bl true) t2) (W g t2 P)):W (HV f g) t P:=W_fOrV.mpr h
theorem XB (h:W f t λx t1=>W (toB x) t1 λk t2=>P (.bl (!k)) t2):W (Ge f) t P:=W_fNotV.mpr h
theorem Il (h:Q [] t):W Ad t Q:=W_fNil.mpr h
theorem Dx {g:M (List D)}(h:W f t λd t1=>W g t1 λds t2=>Q (d :: ds) t2):W (Aa f g) t Q:=W_fCons.mpr h
def Gp (n:Nat)(A:Prop):Prop:=n<=LIM/\A
variable {n:Nat}
theorem AC {A:Prop}(h:n<=LIM)(a:A):Gp n A:=⟨h,a⟩
theorem Y9 {f:M (List D)}(h:W f t λds t1=>Gp ds.length (P (.tup ds) t1)):W (As f) t P:=W_fTup.mpr h
theorem YS {f:M (List D)}(h:W f t λds t1=>Gp ds.length (Q ds t1)):W (AI f) t Q:=W_fLst.mpr h
theorem XF {f:M (List D)}(h:W f t λds t1=>P (.lst ds) t1):W (Aq f) t P:=W_fPure.mpr h
theorem YY {f:M (List D)}(h:W f t λds t1=>P (.obj t1.S.length) ⟨t1.env,t1.S++[.lst ds]⟩):W (Gf f) t P:=by rw [UA];exact h.mono λds t1 h=>W_newOb.mpr h
theorem IZ {g:Fn}{f:M (List D)}(h:W f t λds t1=>Wf g ds t1.S λr S'=>P r ⟨t1.env,S'⟩):W (Ae g f) t P:=W_fCall.mpr h
theorem wB {f:M (List D)}{h:List D->M D}(w:W f t λds t1=>W (h ds) t1 P):W (fB f h) t P:=W_fB.mpr w
theorem wBF {f:M (List D)}{h:List D->M (List D)}(w:W f t λds t1=>W (h ds) t1 Q):W (fBF f h) t Q:=W_fBF.mpr w
theorem E9 {i:Nat}{d:D}(h:U () ⟨t.env.set i (some (.val d)),t.S⟩):W (Aw i d) t U:=W_putV.mpr h
theorem Uh (h:U () t):W (E1 []) t U:=W_putNil.mpr h
theorem Rc {f:D->M Unit}{g:List D->M Unit}{d:D}(h:W (f d) t λ_ t1=>W (g ds) t1 U):W (BK f g (d :: ds)) t U:=W_putCons.mpr h
theorem Za {g:List D->M Unit}(e:ds.length=n)(h:W (g ds) t U):W (unS n g (.tup ds)) t U:=W_unS_tup.mpr ⟨e,h⟩
theorem Xq {fr:List Nat}{f:M (List D)}{st:D->M Unit}{tst:M Bool}{elt:M D}(h:W f t λds t1=>W (Bm st tst elt ds) ⟨cenv n fr t1.env,t1.S⟩ λxs t'=>Gp xs.length (Q xs ⟨t1.env,t'.S⟩)):W (AA n fr f st tst elt) t Q:=W_fComp.mpr h
theorem FE (h:B true t):W Ba t B:=W_tTru.mpr h
variable {i:Int}
theorem DE {d:D}(e:atI ds i=some d)(h:P d t):W (ixD (.tup ds) (.int i)) t P:=W_ix_tup.mpr ⟨d,e,h⟩
theorem Dq {d:D}(e:atI ds i=some d)(h:P d t):W (ixD (.lst ds) (.int i)) t P:=W_ix_lst.mpr ⟨d,e,h⟩
theorem JJ {k:Nat}{d:D}(e0:t.S[k]?=some (.lst ds))(e:atI ds i=some d)(h:P d t):W (ixD (.obj k) (.int i)) t P:=W_ix_obj.mpr ⟨ds,e0,d,e,h⟩
theorem Xu (h:P (.int ds.length) t):W (AK [.lst ds]) t P:=W_len_lst.mpr h
theorem Xw (h:P (.int ds.length) t):W (AK [.tup ds]) t P:=W_len_tup.mpr h
theorem Xv {ds:List Int}(h:P (.int ds.length) t):W (AK [.scr ds]) t P:=W_len_scr.mpr h
variable {x:Str}
theorem RU (e:x.length<=LIM)(h:P (.int x.length) t):W (AK [.str x]) t P:=W_len_str.mpr ⟨e,h⟩
theorem YL {d:D}{m n:String}{b:Bool}(e:tyD d=some n)(e':Jv n m=some b)(h:P (.bl b) t):W (C3 [d,.ty m]) t P:=W_isi.mpr ⟨n,e,b,e',h⟩
theorem YK {x:D}(h:P (.bl (Gm x)) t):W (isC x .non) t P:=W_is_non.mpr h
variable {j:Int}
theorem Xj (h:P (.int (i + j)) t):W (Ar (.int i) (.int j)) t P:=W_add_int.mpr h
theorem XJ (h:P (.int (i - j)) t):W (BH (.int i) (.int j)) t P:=W_sub_int.mpr h
theorem YT (h:P (.bl (decide (i < j))) t):W (ltA (.int i) (.int j)) t P:=W_lt_int.mpr h
theorem YR (h:P (.bl (decide (i<=j))) t):W (leA (.int i) (.int j)) t P:=W_le_int.mpr h
theorem YI (h:P (.bl (decide (j < i))) t):W (gtA (.int i) (.int j)) t P:=W_gt_int.mpr h
theorem YH (h:P (.bl (decide (j<=i))) t):W (geA (.int i) (.int j)) t P:=W_ge_int.mpr h
theorem YW (h:P (.int (-i)) t):W (H9 (.int i)) t P:=W_neg.mpr h
theorem YF (h1:0 < j)(h2:j < 1073741824)(h:P (.int (i / j)) t):W (Gg (.int i) (.int j)) t P:=W_fdiv.mpr ⟨⟨h1,h2⟩,h⟩
theorem Rb (h1:0 < j)(h:P (.int (i % j)) t):W (EY (.int i) (.int j)) t P:=W_mod.mpr ⟨h1,h⟩
theorem Y1 (h1:Ks i j=true)(h:P (.int (i ^ j.toNat)) t):W (EZ (.int i) (.int j)) t P:=W_pow.mpr ⟨h1,h⟩
theorem I9 (h1:Ex i j=true)(h:P (.int (i * j)) t):W (D0 (.int i) (.int j)) t P:=W_mul_int.mpr ⟨h1,h⟩
theorem XA {k:Int}(h1:BL k=true/\x.length * k.toNat<=LIM/\k<=LIM/\x.length<=LIM)(h:P (.str (Txt.mul x k)) t):W (D0 (.str x) (.int k)) t P:=W_mul_str.mpr ⟨h1,h⟩
theorem Xl {y:Str}(h:Gp (x.length + y.length) (P (.str (x++y)) t)):W (Ar (.str x) (.str y)) t P:=W_add_str.mpr h
variable {y:List D}
theorem Xk {x:List D}(h:Gp (x.length + y.length) (P (.lst (x++y)) t)):W (Ar (.lst x) (.lst y)) t P:=W_add_lst.mpr h
theorem RP {d:D}{x:List D}(h:Gp (x.length + 1 + y.length) (P (.tup (d :: x++y)) t)):W (Ar (.tup (d :: x)) (.tup y)) t P:=W_add_tup.mpr h
theorem Pv (h:P (.tup y) t):W (Ar (.tup []) (.tup y)) t P:=W_add_tup0.mpr h
theorem YE {x:List D}(h:Gp (x.length + y.length) (Q (x++y) t)):W (HN (.lst x) (.lst y)) t Q:=W_cat.mpr h
theorem YV (h:P (.int (if j < i then j else i)) t):W (DZ [.int i,.int j]) t P:=W_min.mpr h
theorem YU (h:P (.int (if j > i then j else i)) t):W (G2 [.int i,.int j]) t P:=W_max.mpr h
theorem Xr {i:Bool}(h:P (.int (if i then 1 else 0)) t):W (GR [.bl i]) t P:=W_int_bl.mpr h
theorem Wq (e:x.length=1)(h:P (.int (x.cps.getD 0 0:Nat)) t):W (Ic [.str x]) t P:=W_ord.mpr ⟨e,h⟩
theorem XL (h:P (.tup ds) t):W (FC [.lst ds]) t P:=W_tup_lst.mpr h
theorem Xx (h:Q ds t):W (GX [.tup ds]) t Q:=W_lst_tup.mpr h
theorem Q9 {g:Bool->Bool}{y:Str}(h:P (.bl (g (x == y))) t):W (eqS g (.str x) (.str y)) t P:=W_eq_str.mpr h
theorem Wp {g:Bool->Bool}{x y:Int}(h:P (.bl (g (x == y))) t):W (eqS g (.int x) (.int y)) t P:=W_eq_int.mpr h
theorem Y6 {lo hi:Option Int}(h:P (.lst (Bp ds lo hi)) t):W (BR (.lst ds) lo hi) t P:=W_sl_lst.mpr h
theorem Y7 {lo hi:Option Int}(h:P (.tup (Bp ds lo hi)) t):W (BR (.tup ds) lo hi) t P:=W_sl_tup.mpr h
theorem wSl {l u:M (Option Int)}{h:D->Option Int->Option Int->M D}(w:W f t λx t1=>W l t1 λlo t2=>W u t2 λhi t3=>W (h x lo hi) t3 P):W (fSl f l u h) t P:=W_fSl.mpr w
variable {K:Option Int->T->Prop}
theorem wNo (h:K none t):W fNo t K:=W_fNo.mpr h
theorem YC (h:K (some i) t):W (asI (.int i)) t K:=W_asI.mpr h
theorem XD (h:W f t λx t1=>W (asI x) t1 K):W (B2 f) t K:=W_fPart.mpr h
theorem YM (h:W f t λx t1=>W (Dr x) t1 Q):W (B4 f) t Q:=W_fItA.mpr h
theorem YN (h:Q ds t):W (Dr (.lst ds)) t Q:=W_it_lst.mpr h
theorem YQ (h:Q ds t):W (Dr (.tup ds)) t Q:=W_it_tup.mpr h
theorem YO (h:Q (x.cps.toList.map λc=>.str ⟨#[c]⟩) t):W (Dr (.str x)) t Q:=W_it_str.mpr h
theorem XG {f:M (List D)}(h:W f t λx t1=>W (JD x) t1 Q):W (A3 f) t Q:=W_fRng1.mpr h
theorem XH {f:M (List D)}(h:W f t λx t1=>W (JE x) t1 Q):W (Fh f) t Q:=W_fRng2.mpr h
theorem Cm (e:BL j=true)(h:Q (AX 0 j.toNat) t):W (JD [.int j]) t Q:=W_rng1.mpr ⟨e,h⟩
theorem Re (e:(BL i && BL j)=true)(h:Q (AX i (j - i).toNat) t):W (JE [.int i,.int j]) t Q:=W_rng2.mpr ⟨e,h⟩
theorem YJ {neg:Bool}{x:D}(e:Fj x=true/\ds.all Fj=true)(h:P (.bl (if neg then !inV (toV x) (ds.map toV) else inV (toV x) (ds.map toV))) t):W (inD neg x (.lst ds)) t P:=W_in_lst.mpr ⟨e,h⟩
variable {xs:List D}
theorem XC {i:Nat}{h:List D->List D->Option (List D)}{g:M (List D)}(e:t.env[i]?=some (some (.own xs)))(w:W g t λds t1=>∃xs,t1.env[i]?=some (some (.own xs))/\∃ys,h xs ds=some ys/\R .next ⟨t1.env.set i (some (.own ys)),t1.S⟩):W (ownM i h g) t R:=W_ownM.mpr ⟨⟨xs,e⟩,w⟩
theorem YB {i:Nat}{d:D}{A:List D->Prop}(e:t1.env[i]?=some (some (.own xs)))(w:Gp (xs.length + 1) (A (xs++[d]))):∃xs,t1.env[i]?=some (some (.own xs))/\∃ys,EG xs [d]=some ys/\A ys:=
 ⟨xs,e,_,app1_one.mpr ⟨w.1,rfl⟩,w.2⟩
theorem Y8 {d:D}(h:W f t λo t1=>W g t1 λi t2=>W (FB o i d) t2 U):W (stD f g d) t U:=W_stD.mpr h
theorem RV {k:Nat}{d:D}(e:t.S[k]?=some (.lst xs))(e':ixN xs.length j=some n)(h:U () ⟨t.env,t.S.set k (.lst (xs.set n d))⟩):W (FB (.obj k) (.int j) d) t U:=W_stOb.mpr ⟨xs,e,n,e',h⟩
end F2
namespace F2
open PySem L2
variable {i:Nat}{g:Fn}{d':D}
section
variable {t:T}{P:D->T->Prop}{B:Bool->T->Prop}{Q:List D->T->Prop}
theorem XN {n:Int}{ds:List D}{d:D}(e:t.env[i]?=some (some (.val (.tup ds))))(a:atI ds n=some d)(h:P d t):W (Ac (Ab i) (fC (.int n)) ixD) t P:=JH (Ef e (wC (DE a h)))
theorem Xt {x y:Str}{ds:List D}{g:Bool->Bool}(e:t.env[i]?=some (some (.val (.tup (.str y :: ds)))))(h:B (g (y == x)) t):W (Aj (Ac (Ac (Ab i) (fC (.int 0)) ixD) (fC (.str x)) (eqS g))) t B:=NQ (JH (JH (Ef e (wC (DE M2 (wC (Q9 (NP h))))))))
theorem Wv {x y:Str}{g:Bool->Bool}(e:t.env[i]?=some (some (.val (.str y))))(h:B (g (y == x)) t):W (Aj (Ac (Ab i) (fC (.str x)) (eqS g))) t B:=NQ (JH (Ef e (wC (Q9 (NP h)))))
theorem Wu {x y:Int}{g:Bool->Bool}(e:t.env[i]?=some (some (.val (.int y))))(h:B (g (y == x)) t):W (Aj (Ac (Ab i) (fC (.int x)) (eqS g))) t B:=NQ (JH (Ef e (wC (Wp (NP h)))))
theorem Ua {d:D}(e:t.env[i]?=some (some (.val d)))(h:Wf g [d] t.S λr S'=>P r ⟨t.env,S'⟩):W (Ae g (Aa (Ab i) Ad)) t P:=IZ (Dx (Ef e (Il h)))
theorem Ub {j:Nat}{d:D}(e:t.env[i]?=some (some (.val d)))(e':t.env[j]?=some (some (.val d')))(h:Wf g [d,d'] t.S λr S'=>P r ⟨t.env,S'⟩):W (Ae g (Aa (Ab i) (Aa (Ab j) Ad))) t P:=IZ (Dx (Ef e (Dx (Ef e' (Il h)))))
theorem Ud {d:D}(e:t.env[i]?=some (some (.val d)))(h:Wf g [d,d'] t.S λr S'=>P r ⟨t.env,S'⟩):W (Ae g (Aa (Ab i) (Aa (fC d') Ad))) t P:=IZ (Dx (Ef e (Dx (wC (Il h)))))
theorem Uc {j k:Nat}{d d'':D}(e:t.env[i]?=some (some (.val d)))(e':t.env[j]?=some (some (.val d')))(e'':t.env[k]?=some (some (.val d'')))(h:Wf g [d,d',d''] t.S λr S'=>P r ⟨t.env,S'⟩):W (Ae g (Aa (Ab i) (Aa (Ab j) (Aa (Ab k) Ad)))) t P:=IZ (Dx (Ef e (Dx (Ef e' (Dx (Ef e'' (Il h)))))))
end
end F2
set_option maxHeartbeats 1000000
namespace LW
open PySem L2 F2
set_option compiler.extract_closed false
local macro_rules | `(tactic| clear 31 $t*)=>`(tactic| with_reducible first $[| refine $t ?_]*)
local macro_rules | `(tactic| clear 32 $t*)=>`(tactic| ((with_reducible first $[| refine' $t ?wv ?_]*);(case wv=>exact rfl)))
local macro_rules | `(tactic| clear 33 $t*)=>`(tactic| ((with_reducible first $[| refine' $t ?wv ?_]*);(case wv=>decide)))
local macro_rules | `(tactic| walk_at "w1")=>`(tactic| first
 | clear 32 Xt Wv Ua
 | clear 32 Wu Ud
 | ((with_reducible refine' XN ?wv ?wu ?_);(case wv=>exact rfl);(case wu=>first | exact rfl | exact M2 | exact Rp | exact Rq))
 | ((with_reducible refine' Ub ?wv ?wu ?_);(case wv=>exact rfl);(case wu=>exact rfl))
 | ((with_reducible refine' Uc ?wv ?wu ?wt ?_);(case wv=>exact rfl);(case wu=>exact rfl);(case wt=>exact rfl))
 | clear 31 Y3 Cc LU Y4 JH wC Dx Il wIf NQ NP Y2 IZ Q9 Wp wEqB Xj XJ HA wB wBF XF Y9 YS YY YD YG YA wOr YX Xm YZ XB wIfE Wn wUn YW YK wIsB wIsNot YT YR YI YH wLtS wGtS Xu Xw Xv wAbs YV YU wInt Xr XL wLstL Xx Xl Xk RP Pv YE wEqNil wSl wNo XD YC Y6 wSlR wSlS Y7 YM YN YQ wItR YO XG XH E9 Uh Rc Xq FE wDic Y0 Ee wDrop Y8
 | clear 32 Ef Fq wUnL XC YB
 | clear 32 Jw XO Za
 | ((with_reducible first | refine' DE ?wv ?_ | refine' Dq ?wv ?_);(case wv=>first | exact rfl | exact M2 | exact Rp | exact Rq))
 | ((with_reducible refine AC ?wv ?_);(case wv=>exact Nat.le_of_ble_eq_true rfl))
 | ((with_reducible refine' YL ?wv ?wu ?_);(case wv=>exact rfl);(case wu=>exact rfl))
 | ((with_reducible refine YF ?wv ?wu ?_);(case wv=>decide);(case wu=>decide))
 | clear 33 Y1 Rb Cm Re)
local macro_rules | `(tactic| right)=>`(tactic| repeat (walk_at "w1"))
structure DeckAt (k c:Nat)(S:List Ob):Prop where
 ne:k≠c
 at_:∃(cells:List Int) (par pos:Int),S[k]?=some (.lst [.obj c,.int par,.int pos])/\S[c]?=some (.lst (cells.map .int))/\cells≠[]/\0<=pos
def Zw (k c:Nat)(S S':List Ob):Prop:=S'.length=S.length/\∀j:Nat,j≠k->j≠c->S'[j]?=S[j]?
variable {n:Nat}{i:Int}
theorem EB (h0:0<=i)(h1:i < n):ixN n i=some i.toNat:=by simp [ixN,h0,h1]
variable {S:List Ob}{k:Nat}
theorem Ss {o o':Ob}(h:S[k]?=some o):(S.set k o')[k]?=some o':=by
 obtain ⟨hl,_⟩:=ua8.mp h;exact ub7 hl
inductive Sh where
 | nothing | number (lo hi:Int) | text (m:Int) | list (s:Sh) (m:Int) | pair (s r:Sh) | choice (ss:List Sh)
mutual
noncomputable def Sh.d:Sh->D
 | .nothing=>.tup [.str "nothing"]
 | .number lo hi=>.tup [.str "number",.int lo,.int hi]
 | .text m=>.tup [.str "text",.int m]
 | .list s m=>.tup [.str "list",s.d,.int m]
 | .pair s r=>.tup [.str "pair",s.d,r.d]
 | .choice ss=>.tup [.str "choice",.tup (shD ss)]
noncomputable def shD:List Sh->List D
 | []=>[]
 | s :: r=>s.d :: shD r
end
mutual
noncomputable def Sh.depth:Sh->Nat
 | .nothing=>1
 | .number _ _=>1
 | .text _=>1
 | .list s _=>s.depth + 1
 | .pair s r=>max s.depth r.depth + 1
 | .choice ss=>AG ss + 1
noncomputable def AG:List Sh->Nat
 | []=>0
 | s :: r=>max s.depth (AG r)
end
theorem AJ:∀ss:List Sh,(shD ss).length=ss.length
 | []=>rfl
 | s :: r=>by simp [shD,AJ r]
theorem FY:∀(ss:List Sh) (k:Nat),(shD ss)[k]?=(ss[k]?).map Sh.d
 | [],k=>by simp [shD]
 | s :: r,0=>by simp [shD]
 | s :: r,k + 1=>by simp [shD,FY r k]
theorem Cv:∀(ss:List Sh) (k:Nat) (s:Sh),ss[k]?=some s->s.depth<=AG ss
 | [],k,s,h=>by simp at h
 | s :: r,0,s',h=>by simp at h;subst h;simp [AG];lia
 | s :: r,k + 1,s',h=>by
   have:=Cv r k s' (by simpa using h);simp [AG];lia
theorem Sh.depth_pos (s:Sh):1<=s.depth:=by cases s <;> simp [Sh.depth]
noncomputable def Bw (n:Nat):Bool:=decide (32<=n) && decide (n<=126) && decide (n≠37)
noncomputable def Gn:Str->Bool:=λo=>o == ("of" : Str)
mutual
def Af:Sh->D->Bool
 | .nothing,d=>Gm d
 | .number lo hi,d=>match d with
   | .int i=>decide (lo<=i) && decide (i<=hi)
   | _=>false
 | .text m,d=>match d with
   | .str x=>decide ((x.length:Int)<=m) && x.cps.toList.all Bw
   | _=>false
 | .list s m,d=>match d with
   | .lst ds=>decide ((ds.length:Int)<=m) && ds.all λe=>Af s e
   | _=>false
 | .pair s r,d=>match d with
   | .tup [a,b]=>Af s a && Af r b
   | _=>false
 | .choice ss,d=>match d with
   | .tup [.str o,.int k,x]=>Gn o && (decide (0<=k) && decide (k < ss.length)) && Hj ss k.toNat x
   | _=>false
def Hj:List Sh->Nat->D->Bool
 | [],_,_=>false
 | s :: _,0,d=>Af s d
 | _ :: r,k + 1,d=>Hj r k d
end
theorem Bu:∀(ss:List Sh) (k:Nat) (s:Sh) (d:D),ss[k]?=some s->Hj ss k d=Af s d
 | [],k,s,d,h=>by simp at h
 | s :: r,0,s',d,h=>by simp at h;subst h;simp [Hj]
 | s :: r,k + 1,s',d,h=>by rw [Hj];exact Bu r k s' d (by simpa using h)
mutual
noncomputable def okD:D->Bool
 | .str x=>decide (x.length<=90000)
 | .tup xs=>oks xs
 | .lst xs=>oks xs
 | .obj _=>false
 | .scr _=>false
 | .exc _ _=>false
 | .ty _=>false
 | _=>true
noncomputable def oks:List D->Bool
 | []=>true
 | d :: r=>okD d && oks r
end
theorem Ho:∀{xs:List D},oks xs=true->∀d∈xs,okD d=true
 | x :: r,h,d,m=>by
   rw [oks,uh7] at h;rcases ul5.mp m with z | z
   ·subst z;exact h.1
   ·exact Ho h.2 d z
abbrev Pure1 (f:Fn)(ds:List D)(r:D):Prop:=∀S,Wf f ds S λv S'=>v=r/\S'=S
variable {ds:List D}
theorem Pure1.use {f:Fn}{r:D}(h:Pure1 f ds r){S:List Ob}{P:D->List Ob->Prop}(p:P r S):Wf f ds S P:=(h S).mono λ_ _ ⟨e1,e2⟩=>by subst e1 e2;exact p
noncomputable def OG:D->Bool
 | .int _=>true
 | _=>false
theorem Ll {d:D}(h:okD d=true):Pure1 (fnOf 1 1 Fw) [d] (.bl (OG d)):=by
 intro S;refine Ap rfl ?_;unfold Fw
 cases d <;> first | (simp [okD] at h;done) | (right;exact ⟨rfl,rfl⟩)
noncomputable def EF (lo hi:Int):D->Bool
 | .int i=>decide (lo<=i) && decide (i<=hi)
 | _=>false
def Mh (f:Fn):Prop:=∀d,okD d=true->Pure1 f [d] (.bl (OG d))
def F6 (f:Fn):Prop:=∀d lo hi,okD d=true->Pure1 f [d,.int lo,.int hi] (.bl (EF lo hi d))
variable {c:Fn}
theorem Py (hc:Mh c):F6 (fnOf 3 3 (C4 c)):=by
 intro d lo hi h S;refine Ap rfl ?_;unfold C4;right;refine (hc d h).use ?_
 cases d with
 | int i=>
   right;refine AV (λe=>?_) λe=>?_
   ·right;exact ⟨by simp only [EF,e,ul9],rfl⟩
   ·exact ⟨by simp only [EF,e,uk9],rfl⟩
 | _=>right;exact ⟨rfl,rfl⟩
def Iw (f:Fn):Prop:=∀n:Nat,Pure1 f [.int n] (.bl (Bw n))
theorem Nh:Iw (fnOf 1 1 GY):=by
 intro n S;refine Ap rfl ?_;unfold GY;right;have c1:decide ((32:Int)<=n)=decide (32<=n):=decide_eq_decide.mpr (by lia);have c2:decide ((n:Int)<=126)=decide (n<=126):=decide_eq_decide.mpr (by lia);have c3:(!((n:Int) == 37))=decide (n≠37):=by
  by_cases h:n=37
  ·subst h;rfl
  ·have:¬((n:Int)=37):=by lia
   simp [h,this]
 rw [c1];refine AV (λe=>?_) λe=>?_
 ·right;rw [c2];refine AV (λe'=>?_) λe'=>?_
  ·right;exact ⟨by simp only [Bw,e,e',c3,ul9],rfl⟩
  ·exact ⟨by simp only [Bw,e,e',uk9,ul0],rfl⟩
 ·right;exact ⟨by simp only [Bw,e,uk9],rfl⟩
def KF (f:Fn):Prop:=∀m d,okD d=true->Pure1 f [(Sh.text m).d,d] (.bl (Af (.text m) d))
theorem Le (hc:Iw c):KF (fnOf 2 3 (Fv c)):=by
 intro m d h S;refine Ap rfl ?_;unfold Fv;rw [Sh.d]
 cases d with
 | str x=>
   have hx:x.length<=LIM:=um5 (by simpa [okD] using h) (show 90000<=LIM by decide);right;refine RU hx ?_;right;refine AV (λe=>?_) λe=>?_
   ·right;have:¬((x.length:Int)<=m):=by have:=uh3 e;lia
    exact ⟨by simp [Af,this],rfl⟩
   ·right;have e':(x.length:Int)<=m:=by have:=of_decide_eq_false e;lia
    refine B1 (λr t=>t.S=S/\∃cs:List Nat,r=cs.map (λc=>D.str ⟨#[c]⟩)/\(x.cps.toList.all Bw=cs.all Bw)/\∃z,t.env=[some (.val (.tup [.str "text",.int m])),some (.val (.str x)),z]) _ _ ⟨rfl,x.cps.toList,rfl,rfl,_,rfl⟩ ?_ ?_
    ·rintro d r t ⟨hs,cs,hr,hall,z,ht⟩ _;obtain ⟨env,S2⟩:=t;subst hs ht
     cases cs with
     | nil=>simp at hr
     | cons c cs=>
       simp only [ul6,uk2] at hr;obtain ⟨rfl,rfl⟩:=hr;right;refine Wq rfl ?_;right;refine (hc c).use ?_;right;refine AV (λq=>?_) λq=>?_
       ·right;have q':Bw c=false:=by simpa using q
        refine ⟨?_,rfl⟩;simp only [Af,hall,ul7,q',uk9,ul0]
       ·right;have q':Bw c=true:=by simpa using q
        exact ⟨rfl,cs,rfl,by rw [hall,ul7,q',ul9],_,rfl⟩
    ·rintro t ⟨hs,cs,hr,hall,z,ht⟩;obtain ⟨env,S2⟩:=t;subst hs ht;have:cs=[]:=by cases cs with | nil=>rfl | cons _ _=>simp at hr
     subst this;right;exact ⟨by simp [Af,e',hall],rfl⟩
 | obj _=>simp [okD] at h
 | scr _=>simp [okD] at h
 | ty _=>simp [okD] at h
 | exc _ _=>simp [okD] at h
 | _=>right;exact ⟨by simp [Af],rfl⟩
def DN (f:Fn)(n:Nat):Prop:=∀s:Sh,s.depth<=n->∀d,okD d=true->Pure1 f [s.d,d] (.bl (Af s d))
def NW (f:Fn)(n:Nat):Prop:=∀(s:Sh) (m:Int),s.depth<=n->∀d,okD d=true->Pure1 f [(Sh.list s m).d,d] (.bl (Af (.list s m) d))
theorem Lc (hc:DN c n):NW (fnOf 2 3 (Ft c)) n:=by
 intro s m hs d h S;refine Ap rfl ?_;unfold Ft;rw [Sh.d]
 cases d with
 | lst ds=>
   have hx:∀d∈ds,okD d=true:=Ho (by simpa [okD] using h);right;refine AV (λe=>?_) λe=>?_
   ·right;have:¬((ds.length:Int)<=m):=by have:=uh3 e;lia
    exact ⟨by simp [Af,this],rfl⟩
   ·right;have e':(ds.length:Int)<=m:=by have:=of_decide_eq_false e;lia
    refine B1 (λr t=>t.S=S/\(ds.all (λe=>Af s e)=r.all λe=>Af s e)/\∃z,t.env=[some (.val (.tup [.str "list",s.d,.int m])),some (.val (.lst ds)),z]) _ _ ⟨rfl,rfl,_,rfl⟩ ?_ ?_
    ·rintro d r t ⟨hS,hall,z,ht⟩ hm;obtain ⟨env,S2⟩:=t;subst hS ht;right;refine (hc s hs d (hx d hm)).use ?_;right;refine AV (λq=>?_) λq=>?_
     ·right;have q':Af s d=false:=by simpa using q
      refine ⟨?_,rfl⟩;simp only [Af,hall,ul7,q',uk9,ul0]
     ·right;have q':Af s d=true:=by simpa using q
      exact ⟨rfl,by rw [hall,ul7,q',ul9],_,rfl⟩
    ·rintro t ⟨hS,hall,z,ht⟩;obtain ⟨env,S2⟩:=t;subst hS ht;right;exact ⟨by simp only [Af,e',decide_true,hall,List.all_nil,ul9],rfl⟩
 | obj _=>simp [okD] at h
 | scr _=>simp [okD] at h
 | ty _=>simp [okD] at h
 | exc _ _=>simp [okD] at h
 | _=>right;exact ⟨by simp [Af],rfl⟩
def N6 (f:Fn)(n:Nat):Prop:=∀(s r:Sh),s.depth<=n->r.depth<=n->∀d,okD d=true->Pure1 f [(Sh.pair s r).d,d] (.bl (Af (.pair s r) d))
theorem Ld (hc:DN c n):N6 (fnOf 2 2 (Fu c)) n:=by
 intro s r hs hr d h S;refine Ap rfl ?_;unfold Fu;rw [Sh.d]
 cases d with
 | tup ds=>
   have hx:∀d∈ds,okD d=true:=Ho (by simpa [okD] using h);right
   match ds,hx with
   | [],_=>right;exact ⟨by simp [Af],rfl⟩
   | [a],_=>right;exact ⟨by simp [Af],rfl⟩
   | [a,b],hx=>
     right;refine (hc s hs a (hx a (by simp))).use ?_;right;refine AV (λe=>?_) λe=>?_
     ·right;refine (hc r hr b (hx b (by simp))).use ?_;exact ⟨by simp only [Af,e,ul9],rfl⟩
     ·exact ⟨by simp only [Af,e,uk9],rfl⟩
   | a :: b :: e :: l,_=>
     refine Fq ?_ ?_
     ·show (!(((a :: b :: e :: l).length:Int) == 2))=true;simp;lia
     right;exact ⟨by simp [Af],rfl⟩
 | obj _=>simp [okD] at h
 | scr _=>simp [okD] at h
 | ty _=>simp [okD] at h
 | exc _ _=>simp [okD] at h
 | _=>right;exact ⟨by simp [Af],rfl⟩
def Kx (f:Fn)(n:Nat):Prop:=∀(ss:List Sh),AG ss<=n->∀d,okD d=true->Pure1 f [(Sh.choice ss).d,d] (.bl (Af (.choice ss) d))
theorem Js {c':Fn}(hc:DN c n)(hw:F6 c'):Kx (fnOf 2 2 (Eo c c')) n:=by
 intro ss hs d h S;refine Ap rfl ?_;unfold Eo;rw [Sh.d]
 cases d with
 | tup ds=>
   have hx:∀d∈ds,okD d=true:=Ho (by simpa [okD] using h);right
   match ds,hx with
   | [],_=>right;exact ⟨by simp [Af],rfl⟩
   | [a],_=>right;exact ⟨by simp [Af],rfl⟩
   | [a,b],_=>right;exact ⟨by simp [Af],rfl⟩
   | [a,b,e],hx=>
     right;have ha:=hx a (by simp)
     cases a with
     | str o=>
       right;refine AV (λq=>?_) λq=>?_
       ·right;have q':Gn o=false:=by simpa [Gn] using q
        refine ⟨?_,rfl⟩
        cases b <;> simp only [Af,q',uk9]
       ·right;have q':Gn o=true:=by simpa [Gn] using q
        refine (hw b 0 _ (hx b (by simp))).use ?_;right
        cases b with
        | int k=>
          refine AV (λq=>?_) λq=>?_
          ·right;refine ⟨?_,rfl⟩;have:(decide (0<=k) && decide (k < (ss.length:Int)))=false:=by
            have q2:k < 0\/((shD ss).length:Int) - 1 < k:=by simpa [EF] using q
            rw [AJ] at q2;simp;lia
           simp only [Af,this,uk9,ul0]
          ·have q2:0<=k/\k<=((shD ss).length:Int) - 1:=by simpa [EF] using q
           have q3:=q2;rw [AJ] at q3;have hk:k.toNat < ss.length:=by lia
           have e1:ss[k.toNat]?=some ss[k.toNat]:=ub2 hk;have e2:atI (shD ss) k=some (ss[k.toNat]).d:=by
            unfold atI;rw [AJ,EB q3.1 (by lia)];simp [FY,e1]
           right;refine DE e2 ?_;right;refine (hc _ (um5 (Cv ss _ _ e1) hs) e (hx e (by simp))).use ?_;refine ⟨?_,rfl⟩;have:(decide (0<=k) && decide (k < (ss.length:Int)))=true:=by simp;lia
           simp only [Af,q',this,ul9,Bu ss _ _ e e1]
        | _=>
          right;exact ⟨by simp [Af],rfl⟩
     | obj _=>simp [okD] at ha
     | scr _=>simp [okD] at ha
     | ty _=>simp [okD] at ha
     | exc _ _=>simp [okD] at ha
     | _=>right;exact ⟨by simp [Af],rfl⟩
   | a :: b :: e :: f :: l,_=>
     refine Fq ?_ ?_
     ·show (!(((a :: b :: e :: f :: l).length:Int) == 3))=true;simp;lia
     right;exact ⟨by simp [Af],rfl⟩
 | obj _=>simp [okD] at h
 | scr _=>simp [okD] at h
 | ty _=>simp [okD] at h
 | exc _ _=>simp [okD] at h
 | _=>right;exact ⟨by simp [Af],rfl⟩
variable {cc cp cl ct cw:Fn}
theorem Se (h1:Kx cc n)(h2:N6 cp n)(h3:NW cl n)(h4:KF ct)(h5:F6 cw):DN (fnOf 2 3 (Lr cc cp cl ct cw)) (n + 1):=by
 intro s hs d h S;refine Ap rfl ?_;unfold Lr
 cases s with
 | nothing=>
   rw [Sh.d];right;exact ⟨by rw [Af],rfl⟩
 | number lo hi=>
   rw [Sh.d];right;refine (h5 d lo hi h).use ⟨?_,rfl⟩
   cases d <;> simp [Af,EF]
 | text m=>
   rw [Sh.d];right;exact (h4 m d h).use ⟨rfl,rfl⟩
 | list s m=>
   rw [Sh.depth] at hs;have q:=h3 s m (by lia) d h;rw [Sh.d] at q ⊢;right;exact q.use ⟨rfl,rfl⟩
 | pair s r=>
   rw [Sh.depth] at hs;have q:=h2 s r (by lia) (by lia) d h;rw [Sh.d] at q ⊢;right;exact q.use ⟨rfl,rfl⟩
 | choice ss=>
   rw [Sh.depth] at hs;have q:=h1 ss (by lia) d h;rw [Sh.d] at q ⊢;right;exact q.use ⟨rfl,rfl⟩
theorem JY (x:Array Nat):∀(n:Nat) (acc:Array Nat),((List.replicate n x).foldl (·++·) acc).toList=acc.toList++(List.replicate n x.toList).flatten
 | 0,acc=>by simp
 | n + 1,acc=>by
   rw [ue4,uj8,JY x n,ue4,ug4];simp
theorem OT {x:Str}{k:Int}:(Txt.mul x k).cps.toList=(List.replicate k.toNat x.cps.toList).flatten:=by
 unfold Txt.mul
 split
 ·have:k.toNat=0:=by lia
  rw [this];rfl
 ·split
  ·next h=>
   rw [uk1] at h;rcases h with h | h
   ·have:k=1:=by simpa using h
    subst this;simp
   ·have:x.cps.toList=[]:=by
     have h':x.length=0:=by simpa using h
     exact ua1 (by simpa [Str.length] using h')
    rw [this];simp
  ·have:=JY x.cps k.toNat #[];simpa using this
theorem GV (x:Str):x.length=x.cps.toList.length:=by simp [Str.length]
theorem JO (x y:Str):(x++y).cps.toList=x.cps.toList++y.cps.toList:=by
 show (x.cps++y.cps).toList=_;simp
variable {α:Type}
theorem Tw (a:α)(k:Nat):(List.replicate k [a]).flatten=List.replicate k a:=by
 induction k with
 | zero=>rfl
 | succ k ih=>rw [ue4,ug4,ih,ue4];rfl
variable {fr:List (Option Sl)}{elt:M D}{z:Option Sl}
theorem DH {f:D->D}(h:∀d∈ds,W elt ⟨some (.val d) :: fr,S⟩ λx t'=>x=f d/\t'=⟨some (.val d) :: fr,S⟩) :
 W (Bm (Aw 0) Ba elt ds) ⟨z :: fr,S⟩ λxs t'=>xs=ds.map f/\t'.S=S:=by
 refine (CY (P:=λxs t'=>xs=ds.map f/\t'.S=S) (λacc r t=>acc++r.map f=ds.map f/\∃z,t=⟨z :: fr,S⟩) ds [] _ ⟨rfl,z,rfl⟩ ?_ ?_).mono λxs t' h=>h
 ·rintro acc d r t ⟨h1,z,rfl⟩ hm;refine E9 (FE ?_);rw [if_pos rfl];refine (h d hm).mono λx t' z9=>?_;obtain ⟨e1,e2⟩:=z9;subst e1 e2;exact ⟨by rw [ug5];exact h1,_,rfl⟩
 ·rintro acc t ⟨h1,z,rfl⟩;exact ⟨by simpa using h1,rfl⟩
theorem KG {p:D->Bool}{tst:M Bool}(h:∀d∈ds,W tst ⟨some (.val d) :: fr,S⟩ λb t'=>b=p d/\t'=⟨some (.val d) :: fr,S⟩) :
 W (Bm (Aw 0) tst (Ab 0) ds) ⟨z :: fr,S⟩ λxs t'=>xs=ds.filter p/\t'.S=S:=by
 refine (CY (P:=λxs t'=>xs=ds.filter p/\t'.S=S) (λacc r t=>acc++r.filter p=ds.filter p/\∃z,t=⟨z :: fr,S⟩) ds [] _ ⟨rfl,z,rfl⟩ ?_ ?_).mono λxs t' h=>h
 ·rintro acc d r t ⟨h1,z,rfl⟩ hm;refine E9 ((h d hm).mono λb t' z9=>?_);obtain ⟨e1,e2⟩:=z9;subst e1 e2
  by_cases hp:p d=true
  ·rw [if_pos hp];refine Ef (d:=d) rfl ⟨?_,_,rfl⟩;rw [List.filter_cons,if_pos hp] at h1;rw [ug5];exact h1
  ·rw [if_neg hp];rw [List.filter_cons,if_neg hp] at h1;exact ⟨h1,_,rfl⟩
 ·rintro acc t ⟨h1,z,rfl⟩;exact ⟨by simpa using h1,rfl⟩
mutual
noncomputable def sz:D->Nat
 | .tup xs=>szs xs + 1
 | .lst xs=>szs xs + 1
 | _=>1
noncomputable def szs:List D->Nat
 | []=>0
 | d :: r=>sz d + szs r
end
theorem T5 {x y:Str}(h:x.cps.toList=y.cps.toList):x=y:=by
 cases x;cases y
 congr
 exact Array.toList_inj.mp h
mutual
noncomputable def wf:Sh->Bool
 | .nothing=>true
 | .number lo hi=>decide (-1000000000000000000 < lo) && decide (lo<=hi) && decide (hi < 1000000000000000000)
 | .text m=>decide (0<=m) && decide (m<=250)
 | .list s m=>decide (0<=m) && decide (m<=250) && wf s
 | .pair s r=>wf s && wf r
 | .choice ss=>decide (1<=ss.length) && decide (ss.length<=9) && wfs ss
noncomputable def wfs:List Sh->Bool
 | []=>true
 | s :: r=>wf s && wfs r
end
mutual
noncomputable def cnt:Sh->Nat
 | .list s _=>cnt s + 1
 | .pair s r=>cnt s + cnt r + 1
 | .choice ss=>cnts ss + 1
 | _=>1
noncomputable def cnts:List Sh->Nat
 | []=>0
 | s :: r=>cnt s + cnts r
end
theorem BB:∀{ss:List Sh},wfs ss=true->∀s∈ss,wf s=true
 | x :: r,h,s,m=>by
   rw [wfs,uh7] at h;rcases ul5.mp m with z | z
   ·subst z;exact h.1
   ·exact BB h.2 s z
theorem Px:∀{ss:List Sh},(∀s∈ss,wf s=true)->wfs ss=true
 | [],_=>rfl
 | x :: r,h=>by rw [wfs,h x uf1,Px λs m=>h s (ud4 _ m)];rfl
theorem BZ:∀ss:List Sh,shD ss=ss.map Sh.d
 | []=>rfl
 | s :: r=>by rw [shD,BZ r];rfl
theorem AN:∀{ss:List Sh} {s:Sh},s∈ss->s.depth<=AG ss
 | x :: r,s,m=>by
   rw [AG];rcases ul5.mp m with z | z
   ·subst z;lia
   ·have:=AN z;lia
variable {xs:List D}
theorem Et (h0:0<=i)(h1:i < xs.length){p:D->Prop}(h:∀d∈xs,p d):∃d,atI xs i=some d/\p d:=by
 obtain ⟨d,e,m,_⟩:=RZ h0 h1;exact ⟨d,e,h d m⟩
def MT (k c l:Nat)(S S':List Ob):Prop:=S'.length=S.length/\∀j:Nat,j≠k->j≠c->j≠l->S'[j]?=S[j]?
noncomputable def NI (deep:Int):Int:=if deep < 2 then 0 else 2 * deep + 4
def bd (deep x:Int):Int:=if deep < 2 then 1 else max x 1 + NI deep - (if deep + 1<=x then 1 else 0)
def tb (deep y i:Int):Int:=if deep=2 then i else if i=0 then 0 else y + NI (deep - 1) + i - 1 - (if deep<=y then 1 else 0)
structure ShapeRes (k c l:Nat)(S:List Ob)(deep x:Int)(s:Sh)(S':List Ob):Prop where
 w:wf s=true
 dep:(s.depth:Int)<=max deep 1
 lft:S'[l]?=some (.lst [.int (x - cnt s)])
 one:x<=1->cnt s=1
 few:(cnt s:Int)<=max x 1 + NI deep
 deck:DeckAt k c S'
 kp:MT k c l S S'
 few2:(cnt s:Int)<=bd deep x
theorem Ym {k:Int}:(Txt.mul ⟨#[n]⟩ k).cps.toList=List.replicate k.toNat n:=by rw [OT];exact Tw n k.toNat
structure Sep (ks:List (Nat×Nat)):Prop where
 sep:∀p∈ks,∀q∈ks,p=q\/(q.1≠p.1/\q.1≠p.2/\q.2≠p.1/\q.2≠p.2)
variable {t:T}{P:D->T->Prop}
theorem Xy {ns:List Int}{m:Int}(e:CN ds=some ns)(e2:ns.max?=some m)(h:P (.int m) t):W (Fk [.lst ds]) t P:=
 ⟨_,_,by simp only [Fk,e,e2],h⟩
mutual
noncomputable def dpt:D->Nat
 | .lst ds=>PY ds + 1
 | .tup ds=>PY ds + 1
 | _=>1
noncomputable def PY:List D->Nat
 | []=>0
 | d :: r=>max (dpt d) (PY r)
end
mutual
noncomputable def smD:D->Bool
 | .str x=>decide (x.length<=300)
 | .int i=>decide (-1000000000000000000000000 < i) && decide (i < 1000000000000000000000000)
 | .tup xs=>decide (xs.length<=300) && sms xs
 | .lst xs=>decide (xs.length<=300) && sms xs
 | .obj _=>false
 | .scr _=>false
 | .ty _=>false
 | .exc _ _=>false
 | _=>true
noncomputable def sms:List D->Bool
 | []=>true
 | d :: r=>smD d && sms r
end
theorem Ei {f:D->D->Option Bool}:∀{xs:List D},(∀d∈xs,f d d=some true)->Ch f xs xs=some true
 | [],_=>rfl
 | x :: r,h=>by
   rw [Ch,h x uf1,Ei λd m=>h d (ud4 _ m)];rfl
theorem Ue {d:D}{g:Bool->Bool}(h0:Lk d=false)(h:eqN EQD d d=some true)(p:P (.bl (g true)) t):W (eqS g d d) t P:=⟨_,_,by simp [eqS,h0,h],p⟩
theorem IL:∀ns:List Int,CN (ns.map .int)=some ns
 | []=>rfl
 | n :: r=>by rw [ul6,CN,IL r];rfl
variable {f:M D}
theorem Xs {g:M (List D)}(h:W f t λo t1=>W g t1 λas t2=>∃z ds ys,o = .str z/\as=[.lst ds]/\E6 ds=some ys/\(z.length<=8/\ys.length<=1048576)/\P (.str (Txt.join z ys)) t2):W (joinM f g) t P:=by
 refine Ee (h.mono λo t1 h1=>Ee (h1.mono λas t2 h2=>?_));obtain ⟨z,ds,ys,rfl,rfl,e,hl,p⟩:=h2;refine ⟨_,_,?_,p⟩;simp only [e];rw [if_pos hl]
theorem G7:∀ns:List Nat,E6 (ns.map λn=>D.str ⟨#[n]⟩)=some (ns.map λn=>(⟨#[n]⟩:Str))
 | []=>rfl
 | n :: r=>by
   rw [ul6,E6,if_pos (Nat.le_of_ble_eq_true rfl),G7 r];rfl
theorem IJ:∀(ns:List Nat) (acc:Array Nat),((ns.map λn=>(⟨#[n]⟩:Str)).foldl (λacc p=>acc++(Str.ofString "").cps++p.cps) acc).toList=acc.toList++ns
 | [],acc=>by simp
 | n :: r,acc=>by
   have e:(Str.ofString "").cps=#[]:=by decide +kernel
   rw [ul6,uj8,IJ r,e];simp
theorem IN (ns:List Nat):(Txt.join (Str.ofString "") (ns.map λn=>(⟨#[n]⟩:Str))).cps.toList=ns:=by
 show (List.foldl (λ(acc:Array Nat) (p:Str)=>acc++(Str.ofString "").cps++p.cps) (((ns.map λn=>(⟨#[n]⟩:Str)).headD Str.empty).cps) ((ns.map λn=>(⟨#[n]⟩:Str)).drop 1)).toList=ns
 cases ns with
 | nil=>rfl
 | cons n r=>
   rw [ul6,List.drop_one,List.tail_cons,IJ];rfl
structure ValueRes (k c l:Nat)(S:List Ob)(s:Sh)(r:D)(S':List Ob):Prop where
 fit:Af s r=true
 lft:∃a b:Int,S'[l]?=some (.lst [.int a,.int b])
 deck:DeckAt k c S'
 kp:MT k c l S S'
theorem Hz {f:M (List D)}{P:Out->T->Prop}(h:W f t λds t1=>P (.ret (.lst ds)) t1):W (Gx f) t P:=W_bnd.mpr (h.mono λ_ _ p=>W_ret.mpr p)
theorem Em {g:Fn}{f:M (List D)}{P:List D->T->Prop}(h:W f t λds t1=>Wf g ds t1.S λr S'=>∃rs,r = .lst rs/\P rs ⟨t1.env,S'⟩):W (CM g f) t P:=by
 refine W_bnd.mpr (h.mono λds t1 z9=>?_);obtain ⟨r,S',e,rs,er,p⟩:=z9;subst er;exact ⟨rs,⟨t1.env,S'⟩,by simp only [e],p⟩
theorem Ul {i:Nat}{P:Out->T->Prop}(e:t.env[i]?=some (some (.own xs)))(h:P (.ret (.lst xs)) ⟨t.env.set i none,t.S⟩):W (FX i) t P:=⟨_,_,by simp only [FX,e],h⟩
theorem Xo (h:P (.int (Builtin.Int.intBits i:Nat)) t):W (Iz (.int i)) t P:=⟨_,_,rfl,h⟩
theorem Y5 {j:Int}(h0:0<=j)(h:P (.int (i / 2 ^ j.toNat)) t):W (LX (.int i) (.int j)) t P:=⟨_,_,by simp [LX,i2C,h0],h⟩
variable {ys:List D}
theorem Ra {i:Nat}{t1:T}{A:List D->Prop}(e:t1.env[i]?=some (some (.own xs)))(l:xs.length + ys.length<=LIM)(w:A (xs++ys)):∃xs,t1.env[i]?=some (some (.own xs))/\∃zs,Fo xs [.lst ys]=some zs/\A zs:=
 ⟨xs,e,xs++ys,by simp [Fo,l],w⟩
theorem HL {f:M Bool}{b:M Out}{P:Out->T->Prop}(I:Nat->T->Prop)(turn:∀n t,I n t->W f t λk t1=>match k with
 | true=>∃m,n=m + 1/\W b t1 λo t2=>match o with
   | .next=>I m t2
   | .cont=>I m t2
   | .brk=>P .next t2
   | .ret x=>P (.ret x) t2
 | false=>P .next t1):∀(fuel n:Nat) (t:T),n < fuel->I n t->W (CP f b fuel) t P
 | 0,n,t,h,_=>absurd h (uk3 _)
 | fuel + 1,n,t,h,i=>by
   obtain ⟨k,t1,e1,p⟩:=turn n t i
   cases k with
   | false=>exact ⟨_,_,by simp only [CP,e1],p⟩
   | true=>
     obtain ⟨m,rfl,o,t2,e2,p⟩:=p
     cases o with
     | next=>obtain ⟨o,t',e',p⟩:=HL I turn fuel m t2 (by lia) p;exact ⟨o,t',by simp only [CP,e1,e2];exact e',p⟩
     | cont=>obtain ⟨o,t',e',p⟩:=HL I turn fuel m t2 (by lia) p;exact ⟨o,t',by simp only [CP,e1,e2];exact e',p⟩
     | brk=>exact ⟨_,_,by simp only [CP,e1,e2],p⟩
     | ret x=>exact ⟨_,_,by simp only [CP,e1,e2],p⟩
noncomputable def wid (n:Nat):Nat:=if n=0 then 0 else n.log2 / 8 + 1
theorem OL (h:2<=n):n.log2=(n / 2).log2 + 1:=by rw [Nat.log2_def,if_pos h]
theorem Qo (h:n < 2):n.log2=0:=by rw [Nat.log2_def,if_neg (by lia)]
theorem Lp:∀(k:Nat) {n:Nat},2 ^ k<=n->n.log2=(n / 2 ^ k).log2 + k
 | 0,n,_=>by rw [un2,Nat.div_one,Nat.add_zero]
 | k + 1,n,h=>by
   have h2:2 ^ k * 2<=n:=by rw [<-un3];exact h
   have h3:2<=n / 2 ^ k:=(Nat.le_div_iff_mul_le (Nat.pow_pos (by decide))).mpr (by rw [un0];exact h2);rw [Lp k (um5 (Nat.le_mul_of_pos_right _ (by decide)) h2),OL h3,uc5,<-un3,um0,um9 1 k]
theorem Qm (h:256<=n):n.log2=(n / 256).log2 + 8:=Lp 8 h
theorem Qn (h:n < 256):n.log2 < 8:=by
 by_cases z:n=0
 ·subst z;rw [Qo (by lia)];lia
 ·exact (Nat.log2_lt z).mpr h
theorem Fd (h:0 < n):wid n=wid (n / 256) + 1:=by
 unfold wid;rw [if_neg (by lia)]
 by_cases z:n < 256
 ·have:=Qn z;rw [if_pos (by lia)];lia
 ·rw [if_neg (by lia),Qm (by lia)];lia
theorem F3:∀(k n:Nat),n < 256 ^ k->wid n<=k
 | 0,n,h=>by
   have:n=0:=by simpa using h
   subst this;decide
 | k + 1,n,h=>by
   by_cases z:n=0
   ·subst z;exact uo5 _
   ·rw [Fd (by lia)];have:=F3 k (n / 256) (Nat.div_lt_of_lt_mul (by rw [un3] at h;lia));lia
theorem PN (n:Nat):((Builtin.Int.intBits (n:Int):Nat) + 7) / 8=wid n:=by
 unfold Builtin.Int.intBits wid
 by_cases z:n=0
 ·subst z;rfl
 ·have:((n:Int) == 0)=false:=by simp;exact z
  rw [this,if_neg (by simp),if_neg z,Int.natAbs_natCast];lia
noncomputable def nb:Nat->Nat->List D
 | 0,_=>[]
 | w + 1,n=>nb w (n / 256)++[.int ((n % 256:Nat):Int)]
theorem Ds:∀w n,(nb w n).length=w
 | 0,n=>rfl
 | w + 1,n=>by rw [nb,uf6,Ds];rfl
theorem OV:∀w n:Nat,(List.range w).map (λk=>D.int ((n / 2 ^ (8 * (w - 1 - k)) % 256:Nat):Int))=nb w n
 | 0,n=>rfl
 | w + 1,n=>by
   rw [List.range_succ,uk4,nb,<-OV w (n / 256)]
   congr 1
   ·refine ue5 λk hk=>?_;rw [uk8] at hk;have e:8 * (w + 1 - 1 - k)=8 + 8 * (w - 1 - k):=by lia
    rw [e,Nat.pow_add,uc5]
   ·simp
mutual
def Ao:Sh->D->List D
 | .nothing,_=>[]
 | .number lo hi,d=>match d with
   | .int i=>nb (wid (hi - lo).toNat) (i - lo).toNat
   | _=>[]
 | .text _,d=>match d with
   | .str x=>.int (x.length:Nat) :: x.cps.toList.map λn=>D.int (n:Nat)
   | _=>[]
 | .list s _,d=>match d with
   | .lst ds=>.int (ds.length:Nat) :: (ds.map λd=>Ao s d).flatten
   | _=>[]
 | .pair s r,d=>match d with
   | .tup [a,b]=>Ao s a++Ao r b
   | _=>[]
 | .choice ss,d=>match d with
   | .tup [_,.int k,x]=>.int k :: Hg ss k.toNat x
   | _=>[]
def Hg:List Sh->Nat->D->List D
 | [],_,_=>[]
 | s :: _,0,d=>Ao s d
 | _ :: r,k + 1,d=>Hg r k d
end
theorem Bg:∀(ss:List Sh) (k:Nat) (s:Sh) (d:D),ss[k]?=some s->Hg ss k d=Ao s d
 | [],k,s,d,h=>by simp at h
 | s :: r,0,s',d,h=>by simp at h;subst h;simp [Hg]
 | s :: r,k + 1,s',d,h=>by rw [Hg];exact Bg r k s' d (by simpa using h)
def FH (f:Fn)(n:Nat):Prop:=∀(s:Sh),s.depth<=n->wf s=true->∀d,Af s d=true->(Ao s d).length<=LIM->Pure1 f [s.d,d] (.lst (Ao s d))
def GD (f:Fn):Prop:=∀(n j:Nat),j<=1000->Pure1 f [.int n,.int j] (.int ((n / 2 ^ (8 * j):Nat):Int))
theorem SD:GD (fnOf 2 2 G0):=by
 intro n j hj S;refine Ap rfl ?_;unfold G0;right;refine I9 (Hn (by decide) (by decide)) ?_;refine Y5 (by lia) ?_;refine ⟨?_,rfl⟩;have:(8 * (j:Int)).toNat=8 * j:=by lia
 rw [this];simp
def Hf (f:Fn):Prop:=∀n:Nat,n < 256 ^ 9->Pure1 f [.int n] (.int (wid n:Nat))
theorem Rg:Hf (fnOf 1 1 Es):=by
 intro n _ S;refine Ap rfl ?_;unfold Es;right;refine Xo ?_;right;refine ⟨?_,rfl⟩;rw [<-PN];simp
def Ky (f:Fn):Prop:=∀(n w:Nat),w<=1000->Pure1 f [.int n,.int w] (.lst (nb w n))
theorem Ht (i:Int)(n:Nat):AX i n=(List.range n).map λk:Nat=>D.int (i + k):=by
 rfl
theorem SN (hc:GD c):Ky (fnOf 2 2 (Ec c)):=by
 intro n w hw S;have hL:LIM=100000:=rfl;refine Ap rfl ?_;unfold Ec;refine Hz ?_;right;refine Re (by rw [Bf (by decide) (by decide),Bf (by lia) (by lia)];rfl) ?_;refine (DH (f:=λd=>match d with | .int k=>.int ((n / 2 ^ (8 * (w - k.toNat)) % 256:Nat):Int) | _=>d) (fr:=[some (.val (.int n)),some (.val (.int w))]) ?_).mono ?_
 ·intro d m;rw [Ht] at m;obtain ⟨k,hk,rfl⟩:=un4.mp m;rw [uk8] at hk;right;have e:((w:Int) - (1 + (k:Int)))=((w - (1 + k):Nat):Int):=by lia
  rw [e];refine (hc n (w - (1 + k)) (by lia)).use ?_;right;refine ⟨?_,rfl⟩;have e2:(1 + (k:Int)).toNat=1 + k:=by lia
  dsimp only;rw [e2];simp
 ·rintro xs t' ⟨rfl,hS⟩;have hn:((w:Int) + 1 - 1).toNat=w:=by lia
  rw [Ht,hn];refine AC (by simp only [uj7,List.length_range,hL];lia) ?_;refine ⟨?_,hS⟩;rw [<-OV w n,un5]
  congr 1
  refine ue5 λk hk=>?_;rw [uk8] at hk;have e2:(1 + (k:Int)).toNat=1 + k:=by lia
  have e3:w - (1 + k)=w - 1 - k:=by lia
  simp only [Function.comp,e2,e3]
variable {lo hi:Int}
theorem MN (h:wf (.number lo hi)=true):(hi - lo).toNat < 256 ^ 9:=by
 simp only [wf,uh7,uh2] at h;have:(256:Nat) ^ 9=4722366482869645213696:=by decide
 lia
theorem Oj (x:Str):(x.cps.toList.map λc=>D.str ⟨#[c]⟩).map (λd=>match d with | .str y=>D.int (y.cps.getD 0 0:Nat) | _=>d)=x.cps.toList.map λn=>D.int (n:Nat):=by
 rw [un5];refine ue5 λn _=>?_;rfl
variable {cn:Fn}
theorem Sd (hc:FH c n)(hw:Hf cw)(hn:Ky cn):FH (fnOf 2 5 (DW c cw cn)) (n + 1):=by
 intro s hs hwf d hf hlen S;have hL:LIM=100000:=rfl;refine Ap rfl ?_;unfold DW
 cases s with
 | nothing=>
   rw [Sh.d];right;refine Hz ?_;right;exact ⟨by rw [Ao],rfl⟩
 | number lo hi=>
   have hsp:=MN hwf;have hwd:=F3 9 _ hsp;simp only [wf,uh7,uh2] at hwf
   cases d <;> simp [Af] at hf
   rename_i i;rw [Sh.d];right;refine Hz (Em ?_);right;have e1:hi - lo=(((hi - lo).toNat:Nat):Int):=by lia
   have e2:i - lo=(((i - lo).toNat:Nat):Int):=by lia
   rw [e1,e2];refine (hw _ hsp).use ?_;right;refine (hn _ _ (by lia)).use ?_;exact ⟨_,rfl,by rw [Ao],rfl⟩
 | text q=>
   simp only [wf,uh7,uh2] at hwf
   cases d <;> simp [Af] at hf
   rename_i x;rw [Sh.d];right;refine Hz ?_;refine Ee ?_;right;refine RU (by rw [hL];lia) ?_;right;refine (DH (f:=λd=>match d with | .str y=>D.int (y.cps.getD 0 0:Nat) | _=>d) (fr:=[]) ?_).mono ?_
   ·intro d m;obtain ⟨k,hk,rfl⟩:=un4.mp m;right;refine Wq rfl ?_;exact ⟨rfl,rfl⟩
   ·rintro xs t' ⟨rfl,hS⟩;rw [Oj];have hl:x.cps.toList.length<=250:=by rw [<-GV];lia
    refine AC (by rw [uj7,hL];lia) ?_;right;refine AC (by simp only [uj7,ui4,uk5,hL];lia) ?_;exact ⟨by rw [Ao];rfl,hS⟩
 | list s q=>
   simp only [wf,uh7,uh2] at hwf;rw [Sh.depth] at hs
   cases d <;> simp only [Af,uf7] at hf
   rename_i ds;rw [uh7,uh2,ui1] at hf;rw [Ao] at hlen ⊢;rw [Sh.d];right;refine B1 (λr t=>∃(z:Option Sl) (acc:List D),t=⟨[some (.val (.tup [.str "list",s.d,.int q])),some (.val (.lst ds)),some (.val (.str "list")),some (.own acc),z],S⟩/\acc++(r.map λd=>Ao s d).flatten = .int (ds.length:Nat) :: (ds.map λd=>Ao s d).flatten) _ _ ⟨_,_,rfl,rfl⟩ ?_ ?_
   ·rintro d r t ⟨z,acc,rfl,hacc⟩ m;rw [ul6,ug4,<-ug5] at hacc;have hl:acc.length + (Ao s d).length<=LIM:=by
     have:=congrArg List.length hacc;rw [uf6,uf6] at this;lia
    right;refine Em ?_;right;refine (hc s (uc6 hs) hwf.2 d (hf.2 d m) (um5 (Nat.le_add_left _ _) hl)).use ⟨_,rfl,?_⟩;right;refine Ra rfl hl ?_;exact ⟨_,_,rfl,hacc⟩
   ·rintro t ⟨z,acc,rfl,hacc⟩;rw [um8,List.flatten_nil,uj4] at hacc;right;refine Ul rfl ?_;exact ⟨by rw [hacc],rfl⟩
 | pair s r=>
   simp only [wf,uh7] at hwf;rw [Sh.depth] at hs;unfold Af at hf
   split at hf
   case h_2=>cases hf
   case h_1 a b=>
    rw [uh7] at hf;rw [Ao] at hlen ⊢;rw [uf6] at hlen;rw [Sh.d];right;refine Hz ?_;refine Ee ?_;right;refine Em ?_;right;refine (hc s (um5 (Nat.le_max_left _ _) (uc6 hs)) hwf.1 a hf.1 (um5 (ui0 _ _) hlen)).use ⟨_,rfl,?_⟩;refine Ee ?_;right;refine Em ?_;right;refine (hc r (um5 (Nat.le_max_right _ _) (uc6 hs)) hwf.2 b hf.2 (um5 (Nat.le_add_left _ _) hlen)).use ⟨_,rfl,?_⟩;right;refine AC hlen ?_;exact ⟨rfl,rfl⟩
 | choice ss=>
   simp only [wf,uh7,uh2] at hwf;rw [Sh.depth] at hs;unfold Af at hf
   split at hf
   case h_2=>cases hf
   case h_1 o k x=>
    simp only [uh7,uh2] at hf;obtain ⟨⟨ho,k0,k1⟩,hf⟩:=hf;have hk:k.toNat < ss.length:=by lia
    have e1:ss[k.toNat]?=some ss[k.toNat]:=ub2 hk;have hl:=AJ ss;have e2:atI (shD ss) k=some (ss[k.toNat]).d:=by
     unfold atI;rw [EB k0 (by lia)];show (shD ss)[k.toNat]?=_;rw [FY,e1];rfl
    rw [Bu ss _ _ _ e1] at hf;rw [Ao] at hlen ⊢;rw [Bg ss _ _ _ e1] at hlen ⊢;rw [ui4] at hlen;rw [Sh.d];right;refine Hz ?_;right;refine Em ?_;right;refine DE e2 ?_;right;refine (hc _ (um5 (Cv ss _ _ e1) (uc6 hs)) (BB hwf.2 _ (ui3 hk)) x hf (Nat.le_of_succ_le hlen)).use ⟨_,rfl,?_⟩;right;refine AC (by simp only [ui4,uk5];lia) ?_;exact ⟨rfl,rfl⟩
theorem Gd {k:Int}(h0:0<=k)(h1:k<=xs.length):Bp xs none (some k)=xs.take k.toNat:=by
 have:HT.sIx xs.length xs.length (some k)=k.toNat:=by simp only [HT.sIx];rw [if_neg (by lia)];lia
 unfold Bp;rw [this];simp [HT.sIx]
theorem Gc {k:Int}(h0:0<=k)(h1:k<=xs.length):Bp xs (some k) none=xs.drop k.toNat:=by
 have:HT.sIx xs.length 0 (some k)=k.toNat:=by simp only [HT.sIx];rw [if_neg (by lia)];lia
 unfold Bp;rw [this];simp only [HT.sIx];rw [uc2 (by simp)]
variable {g:M D}
theorem Wr {i:Nat}{xs0:List D}(e:t.env[i]?=some (some (.own xs0)))(h:W g t λj t1=>∃n xs d,j = .int n/\t1.env[i]?=some (some (.own xs))/\atI xs n=some d/\P d t1):W (FN i g) t P:=by
 obtain ⟨j,t1,e1,n,xs,d,rfl,e2,e3,p⟩:=h;refine ⟨d,t1,?_,p⟩;unfold FN;simp only [e];show bnd g _ t=_;unfold bnd;simp only [e1,e2,e3];rfl
theorem Wt {i:Nat}{d:D}{xs0:List D}{U:Unit->T->Prop}(e:t.env[i]?=some (some (.own xs0)))(h:W g t λj t1=>∃n xs k,j = .int n/\t1.env[i]?=some (some (.own xs))/\ixN xs.length n=some k/\U () { t1 with env:=t1.env.set i (some (.own (xs.set k d))) }):W (Hx i g d) t U:=by
 obtain ⟨j,t1,e1,n,xs,k,rfl,e2,e3,p⟩:=h;refine ⟨(),_,?_,p⟩;unfold Hx;simp only [e];show bnd g _ t=_;unfold bnd;simp only [e1,e2,e3];rfl
structure St where
 rest:Int
 mixed:Bool
 turn:Int
noncomputable def St.ob (s:St):Ob:=.dct [(.inr (Str.ofString "rest"),.int s.rest),(.inr (Str.ofString "mixed"),.bl s.mixed),(.inr (Str.ofString "turn"),.int s.turn)]
noncomputable def take (s:St)(m:Int):Int×St:=
 if s.mixed=false then (s.rest % m,⟨s.rest / m,s.mixed,s.turn⟩)
 else
  let stir:=(s.rest % 2147483579 + 70001 * (s.turn + 1)) % 2147483579
  let rest:=(stir * stir % 2147483563 * 50021 + 7) % 2147483579
  (rest / 5 % m,⟨rest,s.mixed,s.turn + 1⟩)
theorem AO (a:Int)(n:Nat):(AX a n).length=n:=by simp [AX]
inductive GS where
 | fin
 | st (side:Str) (ws:List (Str×Sh×Int))
def wdD (w:Str×Sh×Int):D:=.tup [.str w.1,w.2.1.d,.int w.2.2]
def GS.d:GS->D
 | .fin=>.tup [.str (Str.ofString "end")]
 | .st side ws=>.tup [.str side,.lst (ws.map wdD)]
noncomputable def GS.isFin:GS->Bool
 | .fin=>true
 | _=>false
variable {j:Nat}
theorem LQ {a:Int}{d:D}{r:List D}(e:d :: r=(AX a n).drop j):d = .int (a + j)/\r=(AX a n).drop (j + 1)/\j < n:=by
 have hj:j < (AX a n).length:=by
  rcases Nat.lt_or_ge j (AX a n).length with h | h
  ·exact h
  ·rw [uc7 h] at e;cases e
 rw [ub0 hj] at e;injection e with e1 e2
 rw [AO] at hj;refine ⟨?_,e2,hj⟩;rw [e1];simp [AX]
mutual
def G3:Sh->Bool
 | .number lo hi=>decide (hi - lo < 1000000000)
 | .list s _=>G3 s
 | .pair s r=>G3 s && G3 r
 | .choice ss=>Mz ss
 | _=>true
def Mz:List Sh->Bool
 | []=>true
 | s :: r=>G3 s && Mz r
end
def nmB (x:Str):Bool:=decide (1<=x.length) && decide (x.length<=8) && x.cps.toList.all λc=>decide (97<=c) && decide (c<=122)
structure WOk (n:Int)(w:Str×Sh×Int):Prop where
 ok:wf w.2.1=true
 dep:w.2.1.depth<=3
 nar:G3 w.2.1=true
 few:cnt w.2.1<=13
 lo:0<=w.2.2
 hi:w.2.2 < n
 nm:w.1.length<=90000
 isn:nmB w.1=true
inductive GSOk (n:Int):GS->Prop
 | fin:GSOk n .fin
 | st {side:Str} {ws:List (Str×Sh×Int)}:(side=Str.ofString "left"\/side=Str.ofString "right")->0 < ws.length->ws.length<=9->(ws.map (·.1)).Nodup->(∀w∈ws,WOk n w)->GSOk n (.st side ws)
def c3:Nat->Nat
 | 0=>1
 | d + 1=>1 + 3 * c3 d
structure GOk (g:List GS):Prop where
 ne:0 < g.length
 le:g.length<=30
 all:∀x∈g,GSOk g.length x
def GS.words:GS->D
 | .fin=>.tup []
 | .st _ ws=>.lst (ws.map wdD)
noncomputable def GS.ws:GS->List (Str×Sh×Int)
 | .fin=>[]
 | .st _ ws=>ws
noncomputable def GS.side:GS->Str
 | .fin=>Str.ofString "end"
 | .st s _=>s
noncomputable def Li (g:List GS)(q:Nat):GS:=g.getD q .fin
def Zc (g:List GS)(q p:Nat):Str×Sh×Int:=(Li g q).ws.getD p (Str.ofString "",.nothing,0)
structure MvOk (g:List GS)(q:Nat)(p:Nat)(v:D):Prop where
 lt:q < g.length
 pl:p < (Li g q).ws.length
 fit:Af (Zc g q p).2.1 v=true
theorem MC:∀{xs:List D},(∀d∈xs,okD d=true)->oks xs=true
 | [],_=>by rw [oks]
 | d :: r,h=>by rw [oks,h d uf1,MC λx m=>h x (ud4 _ m)];rfl
theorem Cz:∀(n:Nat) (s:Sh),s.depth<=n->wf s=true->∀v,Af s v=true->okD v=true
 | 0,s,h,_,_,_=>absurd s.depth_pos (by lia)
 | n + 1,s,hd,hw,v,h=>by
   cases s with
   | nothing=>cases v <;> first | rfl | (simp [Af,Gm] at h;done)
   | number lo hi=>cases v <;> first | rfl | (simp [Af] at h;done)
   | text q=>
     simp only [wf,uh7,uh2] at hw
     cases v <;> simp only [Af,uf7] at h
     simp only [uh7,uh2] at h;rw [okD,uh2];lia
   | list s q=>
     rw [Sh.depth] at hd;simp only [wf,uh7,uh2] at hw
     cases v <;> simp only [Af,uf7] at h
     simp only [uh7,uh2,ui1] at h;rw [okD];exact MC λd m=>Cz n s (by lia) hw.2 d (h.2 d m)
   | pair a b=>
     rw [Sh.depth] at hd;simp only [wf,uh7] at hw;unfold Af at h
     split at h
     ·rw [uh7] at h;rw [okD,oks,oks,oks,Cz n a (by lia) hw.1 _ h.1,Cz n b (by lia) hw.2 _ h.2];rfl
     ·cases h
   | choice ss=>
     rw [Sh.depth] at hd;simp only [wf,uh7,uh2] at hw;unfold Af at h
     split at h
     ·next o k x=>
      simp only [uh7,uh2] at h;have hk:k.toNat < ss.length:=by lia
      have e1:ss[k.toNat]?=some ss[k.toNat]:=ub2 hk;have h2:=h.2;rw [Bu ss _ _ _ e1] at h2;have ho:o=("of" : Str):=eq_of_beq h.1.1;have hx:=Cz n _ (um5 (Cv ss _ _ e1) (by lia)) (BB hw.2 _ (ui3 hk)) x h2;subst ho;have hl:okD (.str ("of" : Str))=true:=by decide +kernel
      rw [okD,oks,oks,oks,oks,hl,hx];rfl
     ·cases h
theorem Im {ns:List Int}(e:CN ds=some ns)(h:P (.int ns.sum) t):W (Ih [.lst ds]) t P:=⟨_,_,by simp only [Ih,e],h⟩
theorem DO {l:List α}{ι f:α->D}(h:∀a∈l,W elt ⟨some (.val (ι a)) :: fr,S⟩ λx t'=>x=f a/\t'=⟨some (.val (ι a)) :: fr,S⟩) :
 W (Bm (Aw 0) Ba elt (l.map ι)) ⟨z :: fr,S⟩ λxs t'=>xs=l.map f/\t'.S=S:=by
 induction l generalizing z with
 | nil=>exact W_compL_nil.mpr ⟨rfl,rfl⟩
 | cons a r ih=>
   rw [ul6,GH];refine E9 (FE ?_);rw [if_pos rfl];refine (h a uf1).mono λx t' z9=>?_;obtain ⟨e1,e2⟩:=z9;subst e1 e2;refine (ih (z:=some (.val (ι a))) λb hb=>h b (ud4 _ hb)).mono λxs t' z9=>?_;obtain ⟨e1,e2⟩:=z9;subst e1;exact ⟨rfl,e2⟩
abbrev Wd:=Str×Sh×Int
def Zb (g:List GS):Nat->Nat->List (List Str)
 | 0,s=>if (Li g s).isFin then [[]] else []
 | n + 1,s=>((Li g s).ws.map λw=>(Zb g n w.2.2.toNat).map (w.1 :: ·)).flatten
inductive Tr (g:List GS):Nat->List Str->List (Nat×Nat)->Nat->Prop
 | nil {s:Nat}:s < g.length->Tr g s [] [] s
 | cons {s p:Nat} {w:Wd} {r:List Str} {st:List (Nat×Nat)} {e:Nat}:s < g.length->(Li g s).ws[p]?=some w->Tr g w.2.2.toNat r st e->Tr g s (w.1 :: r) ((s,p) :: st) e
mutual
def Al:Sh->Sh->Bool
 | .nothing,r=>match r with
   | .nothing=>true
   | _=>false
 | .number l h,r=>match r with
   | .number l' h'=>decide (l=l') && ((wid (h - l).toNat == wid (h' - l').toNat) && decide (h<=h'))
   | _=>false
 | .text q,r=>match r with
   | .text q'=>decide (q<=q')
   | _=>false
 | .list s q,r=>match r with
   | .list s' q'=>decide (q<=q') && (decide (q=0) || Al s s')
   | _=>false
 | .pair a b,r=>match r with
   | .pair a' b'=>Al a a' && Al b b'
   | _=>false
 | .choice ss,r=>match r with
   | .choice rs=>decide (ss.length<=rs.length) && AD ss rs
   | _=>false
def AD:List Sh->List Sh->Bool
 | [],_=>true
 | s :: ss,rs=>match rs with
   | r :: rs=>Al s r && AD ss rs
   | []=>true
end
def Az:Sh->Nat
 | .nothing=>0
 | .number _ _=>1
 | .text _=>2
 | .list _ _=>3
 | .pair _ _=>4
 | .choice _=>5
def kinds:List Str:=["nothing", "number", "text", "list", "pair", "choice"]
def Kq (s:Sh):Str:=kinds.getD (Az s) ""
theorem Ln (s:Sh):Az s < 6:=by cases s <;> simp [Az]
theorem Qh:kinds.Nodup:=by decide +kernel
variable {s:Sh}
theorem J0 {r:Sh}(h:Kq s=Kq r):Az s=Az r:=by
 have h1:Az s < kinds.length:=Ln s;have h2:Az r < kinds.length:=Ln r;unfold Kq at h;rw [ua6,ub2 h1,ua6,ub2 h2] at h;exact (uh4 Qh).mp h
theorem GK (s:Sh):∃ds,s.d = .tup (.str (Kq s) :: ds):=by cases s <;> exact ⟨_,by rw [Sh.d];rfl⟩
theorem FF {r:Sh}(h:Az s≠Az r):Al s r=false:=by
 cases s <;> cases r <;> first | exact absurd rfl h | (unfold Al;rfl)
theorem CQ:∀(n:Nat) (s:Sh),s.depth<=n->Al s s=true
 | 0,s,h=>absurd s.depth_pos (by lia)
 | n + 1,s,h=>by
   cases s with
   | nothing=>rw [Al]
   | number l h'=>rw [Al];simp
   | text q=>rw [Al];simp
   | list s q=>rw [Sh.depth] at h;rw [Al,CQ n s (by lia)];simp
   | pair a b=>rw [Sh.depth] at h;rw [Al,CQ n a (by lia),CQ n b (by lia)];rfl
   | choice ss=>
     rw [Sh.depth] at h;rw [Al,uh7];refine ⟨by simp,?_⟩;have key:∀l:List Sh,(∀x∈l,x∈ss)->AD l l=true:=by
      intro l
      induction l with
      | nil=>intro _;rw [AD]
      | cons x l ih=>
        intro hl;rw [AD,CQ n x (um5 (AN (hl x uf1)) (by lia)),ih λy m=>hl y (ud4 _ m)];rfl
     exact key ss λ_ m=>m
theorem FG:∀{ss rs:List Sh} {k:Nat} {s r:Sh},AD ss rs=true->ss[k]?=some s->rs[k]?=some r->Al s r=true
 | s :: ss,r :: rs,0,s',r',h,e1,e2=>by
   rw [AD,uh7] at h
   cases e1;cases e2;exact h.1
 | s :: ss,r :: rs,k + 1,s',r',h,e1,e2=>by
   rw [AD,uh7] at h;exact FG h.2 (by simpa using e1) (by simpa using e2)
 | [],_,k,_,_,_,e1,_=>by simp at e1
 | _ :: _,[],k,_,_,_,_,e2=>by simp at e2
theorem Dv:∀(n:Nat) (s r:Sh),s.depth<=n->Al s r=true->∀v,Af s v=true->Af r v=true/\Ao s v=Ao r v
 | 0,s,_,h,_,_,_=>absurd s.depth_pos (by lia)
 | n + 1,s,r,hd,h,v,hf=>by
   have hk:Az s=Az r:=by
    by_cases z:Az s=Az r
    ·exact z
    ·rw [FF z] at h;cases h
   cases s with
   | nothing=>
     cases r <;> first | (simp [Az] at hk;done) | skip
     exact ⟨hf,rfl⟩
   | number l hi=>
     cases r <;> first | (simp [Az] at hk;done) | skip
     rw [Al,uh7,uh7,uh2,uh2,beq_iff_eq] at h;obtain ⟨rfl,hw,hh⟩:=h
     cases v <;> simp only [Af,uf7] at hf
     simp only [Af,uh7,uh2] at hf ⊢;refine ⟨⟨hf.1,un6 hf.2 hh⟩,?_⟩;rw [Ao,Ao,hw]
   | text q=>
     cases r <;> first | (simp [Az] at hk;done) | skip
     rw [Al,uh2] at h
     cases v <;> simp only [Af,uf7] at hf
     simp only [Af,uh7,uh2] at hf ⊢;exact ⟨⟨un6 hf.1 h,hf.2⟩,by rw [Ao,Ao]⟩
   | list s q=>
     cases r <;> first | (simp [Az] at hk;done) | skip
     rename_i s' q';rw [Sh.depth] at hd;rw [Al,uh7,uk1,uh2,uh2] at h
     cases v <;> simp only [Af,uf7] at hf
     rename_i ds;simp only [Af,uh7,uh2,ui1] at hf ⊢;have key:∀x∈ds,Af s' x=true/\Ao s x=Ao s' x:=λx hx=>by
      rcases h.2 with z | z
      ·subst z;have:ds.length=0:=by lia
       rw [ub5.mp this] at hx;cases hx
      ·exact Dv n s s' (by lia) z x (hf.2 x hx)
     refine ⟨⟨un6 hf.1 h.1,λx hx=>(key x hx).1⟩,?_⟩;rw [Ao,Ao]
     congr 2
     exact ue5 λx hx=>(key x hx).2
   | pair a b=>
     cases r <;> first | (simp [Az] at hk;done) | skip
     rename_i a' b';rw [Sh.depth] at hd;rw [Al,uh7] at h;unfold Af at hf
     split at hf
     ·next x y=>
      rw [uh7] at hf;have k1:=Dv n a a' (by lia) h.1 x hf.1;have k2:=Dv n b b' (by lia) h.2 y hf.2;refine ⟨by simp only [Af,k1.1,k2.1,Bool.and_self],?_⟩;rw [Ao,Ao,k1.2,k2.2]
     ·cases hf
   | choice ss=>
     cases r <;> first | (simp [Az] at hk;done) | skip
     rename_i rs;rw [Sh.depth] at hd;rw [Al,uh7,uh2] at h;unfold Af at hf
     split at hf
     ·next o k x=>
      simp only [uh7,uh2] at hf;have hk1:k.toNat < ss.length:=by lia
      have hk2:k.toNat < rs.length:=by lia
      have e1:ss[k.toNat]?=some ss[k.toNat]:=ub2 hk1;have e2:rs[k.toNat]?=some rs[k.toNat]:=ub2 hk2;have hf2:=hf.2;rw [Bu ss _ _ _ e1] at hf2;have k1:=Dv n _ _ (um5 (Cv ss _ _ e1) (by lia)) (FG h.2 e1 e2) x hf2;refine ⟨?_,?_⟩
      ·simp only [Af,uh7,uh2];exact ⟨⟨hf.1.1,hf.1.2.1,by lia⟩,by rw [Bu rs _ _ _ e2];exact k1.1⟩
      ·rw [Ao,Ao,Bg ss _ _ _ e1,Bg rs _ _ _ e2,k1.2]
     ·cases hf
def MZ (f:Fn):Prop:=∀lo hi:Int,lo<=hi->hi - lo < 4000000000000000000->Pure1 f [.tup [.str "number",.int lo,.int hi]] (.int (wid (hi - lo).toNat:Nat))
theorem Mg (hw:Hf cw):MZ (fnOf 1 1 (Gr cw)):=by
 intro lo hi h h2 S;refine Ap rfl ?_;unfold Gr;right;have:=hw (hi - lo).toNat (by have:(256:Nat) ^ 9=4722366482869645213696:=(by decide);lia);rw [ue6 (by lia)] at this;exact this.use ⟨rfl,rfl⟩
def F4 (f:Fn)(n:Nat):Prop:=∀s r:Sh,s.depth<=n->wf s=true->wf r=true->Pure1 f [s.d,r.d] (.bl (Al s r))
theorem Yz {bs:List Bool}(e:F8 ds=some bs)(h:P (.bl (bs.all id)) t):W (Jf [.lst ds]) t P:=⟨_,_,by simp only [Jf,e],h⟩
theorem JU:∀bs:List Bool,F8 (bs.map D.bl)=some bs
 | []=>rfl
 | b :: r=>by rw [ul6,F8,JU r];rfl
variable {ss:List Sh}
theorem Ey (h:k < ss.length):atI (shD ss) (k:Int)=some (ss[k]).d:=by
 unfold atI;rw [EB (by lia) (by rw [AJ];lia)];show (shD ss)[(k:Int).toNat]?=_;rw [uh0,FY,ub2 h];rfl
theorem HI:∀{ss rs:List Sh},ss.length<=rs.length->((List.range ss.length).map λk=>Al (ss.getD k .nothing) (rs.getD k .nothing)).all id=AD ss rs
 | [],_,_=>by rw [AD];rfl
 | s :: ss,[],h=>by simp at h
 | s :: ss,r :: rs,h=>by
   rw [AD,ui4,List.range_succ_eq_map,ul6,un5,ul7,<-HI (ss:=ss) (rs:=rs) (by simpa using h)];rfl
theorem Lm {ci:Fn}(hw:MZ cw)(hi:n=0\/F4 ci n):F4 (fnOf 2 3 (Fy ci cw)) (n + 1):=by
 intro s r hd hs hr S;have hL:LIM=100000:=rfl;refine Ap rfl ?_;unfold Fy;have rec_:∀{a b:Sh},a.depth<=n->wf a=true->wf b=true->Pure1 ci [a.d,b.d] (.bl (Al a b)):=λ{a b} h1 h2 h3=>by
  rcases hi with rfl | hi
  ·exact absurd a.depth_pos (by lia)
  ·exact hi a b h1 h2 h3
 by_cases hk:Az s=Az r
 ·cases s with
  | nothing=>
    cases r <;> first | (simp [Az] at hk;done) | skip
    rw [Sh.d];right;exact ⟨by rw [Al],rfl⟩
  | number l h=>
    cases r <;> first | (simp [Az] at hk;done) | skip
    rename_i l' h';simp only [wf,uh7,uh2] at hs hr;rw [Sh.d,Sh.d];right;rw [Al];refine AV (λz=>?_) λz=>?_
    ·have z':l=l':=by simpa using z
     right;refine (hw l h hs.1.2 (by lia)).use ?_;right;refine (hw l' h' hr.1.2 (by lia)).use ?_;right;refine AV (λy=>?_) λy=>?_
     ·have y':wid (h - l).toNat=wid (h' - l').toNat:=by have:=eq_of_beq y;lia
      right;exact ⟨by rw [ul3 z',y'];simp,rfl⟩
     ·have y':¬wid (h - l).toNat=wid (h' - l').toNat:=λq=>(beq_eq_false_iff_ne.mp y) (by rw [q]);exact ⟨by rw [beq_eq_false_iff_ne.mpr y'];simp,rfl⟩
    ·have z':¬l=l':=by simpa using z
     exact ⟨by rw [uk7 z'];simp,rfl⟩
  | text q=>
    cases r <;> first | (simp [Az] at hk;done) | skip
    rw [Sh.d,Sh.d];right;exact ⟨by rw [Al],rfl⟩
  | list s q=>
    cases r <;> first | (simp [Az] at hk;done) | skip
    rename_i s' q';rw [Sh.depth] at hd;simp only [wf,uh7,uh2] at hs hr;rw [Sh.d,Sh.d];right;rw [Al];refine AV (λz=>?_) λz=>?_
    ·right;refine AV (λy=>?_) λy=>?_
     ·have y':q=0:=by simpa using y
      exact ⟨by rw [z,ul3 y'];rfl,rfl⟩
     ·have y':¬q=0:=by simpa using y
      right;refine (rec_ (by lia) hs.2 hr.2).use ?_;exact ⟨by rw [z,uk7 y'];rfl,rfl⟩
    ·exact ⟨by rw [z];rfl,rfl⟩
  | pair a b=>
    cases r <;> first | (simp [Az] at hk;done) | skip
    rename_i a' b';rw [Sh.depth] at hd;simp only [wf,uh7] at hs hr;rw [Sh.d,Sh.d];right;rw [Al];refine (rec_ (by lia) hs.1 hr.1).use ?_;right;refine AV (λz=>?_) λz=>?_
    ·right;refine (rec_ (by lia) hs.2 hr.2).use ?_;exact ⟨by rw [z];rfl,rfl⟩
    ·exact ⟨by rw [z];rfl,rfl⟩
  | choice ss=>
    cases r <;> first | (simp [Az] at hk;done) | skip
    rename_i rs;rw [Sh.depth] at hd;simp only [wf,uh7,uh2] at hs hr;rw [Sh.d,Sh.d];right;rw [AJ,AJ,Al];refine AV (λz=>?_) λz=>?_
    ·have z':ss.length<=rs.length:=by have:=uh3 z;lia
     right;rw [AJ];refine Cm (Bf (by lia) (by lia)) ?_;rw [uh0];refine (DO (l:=List.range ss.length) (ι:=λi:Nat=>D.int (0 + (i:Int))) (f:=λk=>.bl (Al (ss.getD k .nothing) (rs.getD k .nothing))) (fr:=[some (.val (.tup [.str "choice",.tup (shD ss)])),some (.val (.tup [.str "choice",.tup (shD rs)]))]) ?_).mono ?_
     ·intro k hk;rw [uk8] at hk;have hk2:k < rs.length:=by lia
      rw [un7];right;refine DE (Ey hk) ?_;right;refine DE (Ey hk2) ?_;right;refine (rec_ (um5 (AN (ui3 hk)) (by lia)) (BB hs.2 _ (ui3 hk)) (BB hr.2 _ (ui3 hk2))).use ?_;refine ⟨?_,rfl⟩;rw [ua6,ub2 hk,ua6,ub2 hk2];rfl
     ·rintro xs t' ⟨rfl,hS⟩;refine AC (by rw [uj7,List.length_range,hL];lia) ?_;right;refine Yz (bs:=(List.range ss.length).map λk=>Al (ss.getD k .nothing) (rs.getD k .nothing)) ?_ ⟨?_,hS⟩
      ·rw [<-JU,un5];rfl
      ·rw [HI z',ul3 z'];rfl
    ·have z':¬ss.length<=rs.length:=by have:=of_decide_eq_false z;lia
     exact ⟨by rw [uk7 z'];rfl,rfl⟩
 ·obtain ⟨ds,e⟩:=GK s;obtain ⟨es,e'⟩:=GK r;rw [e,e'];right;refine Fq (by rw [ug9,beq_eq_false_iff_ne];exact λz=>hk (J0 z)) ?_;right;exact ⟨by rw [FF hk],rfl⟩
def Room (k r:Nat)(S:List Ob):Prop:=∃a b c:Int,S[k]?=some (.lst [.int a,.int b,.int c])/\0<=c/\c + r<=1000000000000000000000000000000
variable {r:Nat}
theorem Room.mono {r':Nat}(h:Room k r S)(e:r'<=r):Room k r' S:=by
 obtain ⟨a,b,c,h1,h2,h3⟩:=h;exact ⟨a,b,c,h1,h2,by lia⟩
variable {m:Nat}
theorem Room.drop (h:Room k (r + m) S):Room k r S:=h.mono (ui0 _ _)
theorem Hy {j:Int}(h1:i.natAbs < 2 ^ 512)(h2:j.natAbs < 2 ^ 512)(h:P (.int (i * j)) t):W (FA (.int i) (.int j)) t P:=
 ⟨_,_,by simp only [FA,i2C,Lv,ul3 h1,ul3 h2];rfl,h⟩
theorem RQ {j:Int}(h1:0 < j)(h2:j < 18446744073709551616)(h:P (.int (i / j)) t):W (Hi (.int i) (.int j)) t P:=
 ⟨_,_,by simp only [Hi,i2C,K9,ul3 h1,ul3 h2];rfl,h⟩
def PTakeOk (f:Fn):Prop:=∀(k r:Nat) (S:List Ob) (m:Int),0 < m->m < 4611686018427387904->Room k (r + 1) S->Wf f [.obj k,.int m] S λv S'=>(∃i,v = .int i/\0<=i/\i < m)/\Room k r S'
theorem PTakeOk.use {f:Fn}(h:PTakeOk f){k r:Nat}{S:List Ob}{m:Int}(many:Int)(d:Room k (r + 1) S){P:D->List Ob->Prop}(p:∀i S',0<=i->i < many->Room k r S'->P (.int i) S')(e:m=many:=by first | rfl | decide)(h1:0 < many:=by decide)(h2:many < 4611686018427387904:=by decide):Wf f [.obj k,.int m] S P:=by
 subst e;exact (h k r S m h1 h2 d).mono λv S' ⟨⟨i,e,i0,i1⟩,q⟩=>by subst e;exact p i S' i0 i1 q
theorem LC {o o':Ob}(h:S[k]?=some o):(S.set k o')[k]?=some o':=Ss h
theorem Eg (h0:0<=i)(h:i < 10000000000000000000000000000000000000000000000000000000000000000000000000000000):i.natAbs < 2 ^ 512:=by
 have:(10000000000000000000000000000000000000000000000000000000000000000000000000000000:Nat)<=2 ^ 512:=by decide
 lia
theorem QI:PTakeOk (fnOf 2 5 DV):=by
 intro k n S m hm0 hm1 ⟨a,b,c,hS,c0,c1⟩;refine Ap rfl ?_;unfold DV;right;refine JJ hS (by rfl) ?_;right;refine AV (λz=>?_) λz=>?_
 ·right;refine JJ hS (by rfl) ?_;right;refine Rb hm0 ?_;right;refine JJ hS (by rfl) ?_;right;refine RQ hm0 (by lia) ?_;right;refine RV (n:=0) hS (by rfl) ?_;right;exact ⟨⟨_,rfl,uk6 _ (by lia),uf9 _ hm0⟩,_,_,_,LC hS,c0,by lia⟩
 ·right;refine JJ hS (by rfl) ?_;right;refine RV (n:=2) hS (by rfl) ?_;have g1:(S.set k (.lst [.int a,.int b,.int (c + 1)]))[k]?=some (.lst [.int a,.int b,.int (c + 1)]):=LC hS;refine Cc ?_
  change W _ ⟨[some (.val (.obj k)),some (.val (.int m)),none,none,none],S.set k (.lst [.int a,.int b,.int (c + 1)])⟩ _
  generalize S.set k (.lst [.int a,.int b,.int (c + 1)])=S1 at g1 ⊢;right;refine JJ g1 (by rfl) ?_;right;refine JJ g1 (by rfl) ?_;right;have a0:=uk6 a (b:=9999999769) (by decide);have a1:=uf9 a (b:=9999999769) (by decide);generalize a % 9999999769=x at a0 a1;obtain ⟨s,es⟩:∃s,s=c + 1:=⟨_,rfl⟩;rw [<-es];have s0:0<=s:=by lia
  have s1:s<=1000000000000000000000000000000:=by lia
  refine Hy (by decide) (Eg s0 (by lia)) ?_;right;refine Hy (Eg (by lia) (by lia)) (Eg (by lia) (by lia)) ?_;right;refine Hy (by decide) (Eg s0 (by lia)) ?_;right;refine Hy (Eg (by lia) (by lia)) (Eg s0 (by lia)) ?_;right;have p1:0<=(x + 733) * (9 * s + 31):=Int.mul_nonneg (by lia) (by lia);have p2:(x + 733) * (9 * s + 31)<=10000000502 * 9000000000000000000000000000031:=Int.mul_le_mul (by lia) (by lia) (by lia) (by lia);have p3:0<=2917 * s * s:=Int.mul_nonneg (by lia) s0;have p4:2917 * s * s<=2917000000000000000000000000000000 * 1000000000000000000000000000000:=Int.mul_le_mul (by lia) s1 s0 (by lia);generalize (x + 733) * (9 * s + 31)=y1 at p1 p2;generalize 2917 * s * s=y2 at p3 p4;refine Hy (Eg (by lia) (by lia)) (Eg (by lia) (by lia)) ?_;right;have b0:=uk6 ((y1 + y2) * (y1 + y2)) (b:=99999999821) (by decide);have b1:=uf9 ((y1 + y2) * (y1 + y2)) (b:=99999999821) (by decide);generalize (y1 + y2) * (y1 + y2) % 99999999821=z1 at b0 b1;refine Hy (Eg (by lia) (by lia)) (Eg (by lia) (by lia)) ?_;right;refine RQ (by decide) (by decide) ?_;right;refine Rb hm0 ?_;exact ⟨⟨_,rfl,uk6 _ (by lia),uf9 _ hm0⟩,_,_,_,g1,by lia,by lia⟩
theorem Ml {x:Ob}:(S++[x])[S.length]?=some x:=by simp
def Jd (f:Fn):Prop:=∀(ns:List Int) (k:Nat) (S:List Ob),k<=1000->Wf f [.scr ns,.int k] S λr S'=>r = .obj S.length/\Room S.length 900000000000000000000000000000 S'
theorem QF:Jd (fnOf 2 3 ET):=by
 intro ns k S hk;refine Ap rfl ?_;unfold ET;right;have fin:∀c:Int,W (Ah (ifS (Aj (Ac (Ab 2) (Ac (fC (.int 10)) (fC (.int 18)) EZ) geA))
  (Ak (Gf (AI (Aa (Ac (Ab 2) (Ac (fC (.int 10)) (fC (.int 18)) EZ) BH) (Aa (fC (.int 1)) (Aa (fC (.int 0)) Ad))))))
  An)
 (Ak (Gf (AI (Aa (Ab 2) (Aa (fC (.int 0)) (Aa (Ac (fC (.int 13)) (Ab 1) D0) Ad))))))) ⟨[some (.val (.scr ns)),some (.val (.int k)),some (.val (.int c))],S⟩ λo t=>match o with
   | .ret r=>r = .obj S.length/\Room S.length 900000000000000000000000000000 t.S
   | .next=>D.non = .obj S.length/\Room S.length 900000000000000000000000000000 t.S
   | _=>False:=by
   intro c;right;refine AV (λz=>?_) λz=>?_
   ·right;exact ⟨rfl,_,_,_,Ml,Int.le_refl 0,by decide⟩
   ·right;refine I9 (Hn (by decide) (by decide)) ?_;right;exact ⟨rfl,_,_,_,Ml,by lia,by lia⟩
 refine AV (λz=>?_) λz=>?_
 ·have z':k < ns.length:=by have:=uh3 z;lia
  right;refine W_ix_scr.mpr ⟨ns[k],?_,?_⟩
  ·unfold atI;rw [EB (by lia) (by lia)];show ns[(k:Int).toNat]?=_;rw [uh0,ub2 z']
  ·refine Cc ?_;exact fin _
 ·refine HA ?_;refine Cc ?_;exact fin 0
mutual
def wfB (B:Int):Sh->Bool
 | .nothing=>true
 | .number lo hi=>decide (-B<=lo) && decide (lo<=hi) && decide (hi<=B)
 | .text m=>decide (0<=m) && decide (m<=250)
 | .list s m=>decide (0<=m) && decide (m<=250) && wfB B s
 | .pair s r=>wfB B s && wfB B r
 | .choice ss=>decide (1<=ss.length) && decide (ss.length<=9) && Ip B ss
def Ip (B:Int):List Sh->Bool
 | []=>true
 | s :: r=>wfB B s && Ip B r
end
theorem GA {B:Int}:∀{ss:List Sh},Ip B ss=true->∀s∈ss,wfB B s=true
 | x :: r,h,s,m=>by
   rw [Ip,uh7] at h;rcases ul5.mp m with e | m
   ·subst e;exact h.1
   ·exact GA h.2 s m
theorem JL {B:Int}:∀{ss:List Sh},(∀s∈ss,wfB B s=true)->Ip B ss=true
 | [],_=>by rw [Ip]
 | x :: r,h=>by rw [Ip,h x uf1,JL λs m=>h s (ud4 _ m)];rfl
theorem A1 {B C:Int}(hBC:B<=C):∀(n:Nat) (s:Sh),s.depth<=n->wfB B s=true->wfB C s=true
 | 0,s,h,_=>absurd s.depth_pos (by lia)
 | n + 1,s,hd,h=>by
   cases s with
   | nothing=>rw [wfB]
   | number lo hi=>simp only [wfB,uh7,uh2] at h ⊢;lia
   | text q=>exact h
   | list s q=>
     rw [Sh.depth] at hd;simp only [wfB,uh7,uh2] at h ⊢;exact ⟨h.1,A1 hBC n s (by lia) h.2⟩
   | pair a b=>
     rw [Sh.depth] at hd;simp only [wfB,uh7] at h ⊢;exact ⟨A1 hBC n a (by lia) h.1,A1 hBC n b (by lia) h.2⟩
   | choice ss=>
     rw [Sh.depth] at hd;simp only [wfB,uh7,uh2] at h ⊢;exact ⟨h.1,JL λx m=>A1 hBC n x (um5 (AN m) (by lia)) (GA h.2 x m)⟩
theorem Fc {B:Int}(hB:B < 1000000000000000000):∀(n:Nat) (s:Sh),s.depth<=n->wfB B s=true->wf s=true
 | 0,s,h,_=>absurd s.depth_pos (by lia)
 | n + 1,s,hd,h=>by
   cases s with
   | nothing=>rw [wf]
   | number lo hi=>simp only [wfB,wf,uh7,uh2] at h ⊢;lia
   | text q=>simp only [wfB,wf,uh7,uh2] at h ⊢;exact h
   | list s q=>
     rw [Sh.depth] at hd;simp only [wfB,wf,uh7,uh2] at h ⊢;exact ⟨h.1,Fc hB n s (by lia) h.2⟩
   | pair a b=>
     rw [Sh.depth] at hd;simp only [wfB,wf,uh7] at h ⊢;exact ⟨Fc hB n a (by lia) h.1,Fc hB n b (by lia) h.2⟩
   | choice ss=>
     rw [Sh.depth] at hd;simp only [wfB,wf,uh7,uh2] at h ⊢;exact ⟨h.1,Px λx m=>Fc hB n x (um5 (AN m) (by lia)) (GA h.2 x m)⟩
def B0:Int:=300000000000000000
structure Drawn (k r:Nat)(dp:Nat)(v:D)(S':List Ob):Prop where
 ex:∃s:Sh,v=s.d/\s.depth<=dp/\wfB B0 s=true
 pool:Room k r S'
theorem Hl {a b c:Int}(h:a < b)(h2:b<=c):a<=c:=un6 (un8 h) h2
def PLeafOk (f:Fn):Prop:=∀(k r:Nat) (S:List Ob),Room k (r + 20) S->Wf f [.obj k] S λv S'=>Drawn k r 1 v S'
variable {B:Int}
theorem Io {m:Int}(h0:0<=m)(h1:m<=250):wfB B (.text m)=true:=by rw [wfB,ul3 h0,ul3 h1];rfl
theorem HB (h0 : -B<=lo)(h1:lo<=hi)(h2:hi<=B):wfB B (.number lo hi)=true:=by rw [wfB,ul3 h0,ul3 h1,ul3 h2];rfl
theorem DF {m:Int}(h0:0<=m)(h1:m<=250)(h:wfB B s=true):wfB B (.list s m)=true:=by rw [wfB,ul3 h0,ul3 h1,h];rfl
variable {b:Sh}
theorem CK {a:Sh}(h0:wfB B a=true)(h1:wfB B b=true):wfB B (.pair a b)=true:=by rw [wfB,h0,h1];rfl
theorem F0 (h0:1<=ss.length)(h1:ss.length<=9)(h:∀x∈ss,wfB B x=true):wfB B (.choice ss)=true:=by rw [wfB,ul3 h0,ul3 h1,JL h];rfl
theorem JK {a:Sh}(h0:wfB B a=true)(h1:wfB B b=true):wfB B (.choice [a,b])=true:=F0 (by simp) (by simp) (by simp [h0,h1])
theorem X9 (m:Int):(Sh.text m).depth<=1:=by simp [Sh.depth]
theorem X8 (lo hi:Int):(Sh.number lo hi).depth<=1:=by simp [Sh.depth]
theorem X7:Sh.nothing.depth<=1:=by simp [Sh.depth]
theorem PX {m:Int}(h:s.depth<=n):(Sh.list s m).depth<=n + 1:=by rw [Sh.depth];exact ui5 h
theorem Jq {a:Sh}(h:a.depth<=n)(h2:b.depth<=n):(Sh.pair a b).depth<=n + 1:=by rw [Sh.depth];exact ui5 (Nat.max_le.mpr ⟨h,h2⟩)
theorem Jp (h:∀x∈ss,x.depth<=n):(Sh.choice ss).depth<=n + 1:=by
 rw [Sh.depth];refine ui5 ?_
 induction ss with
 | nil=>rw [AG];exact uo5 _
 | cons x r ih=>rw [AG];exact Nat.max_le.mpr ⟨h x uf1,ih λy m=>h y (ud4 _ m)⟩
theorem M7 {a:Sh}(h:a.depth<=n)(h2:b.depth<=n):(Sh.choice [a,b]).depth<=n + 1:=Jp (by simp [h,h2])
theorem Ek (h:s.depth<=1):s.depth<=n + 1:=um5 h (ui5 (uo5 _))
theorem QD (ht:PTakeOk ct):PLeafOk (fnOf 1 4 (DT ct)):=by
 intro k r S hp;refine Ap rfl ?_;unfold DT;right;refine ht.use 6 hp λi S1 i0 i1 p1=>?_;right;refine AV (λz=>?_) λz=>?_
 ·right;exact ⟨⟨.nothing,by rw [Sh.d],X7,by rw [wfB]⟩,p1.drop⟩
 right;refine AV (λy=>?_) λy=>?_
 ·right;refine ht.use 4 p1 λa S2 a0 a1 p2=>?_;right;refine ht.use 251 p2 λb S3 b0 b1 p3=>?_;right;refine ht.use 3 p3 λg S4 z0 z1 p4=>?_;obtain ⟨d,ed,m,rfl,m0,m1⟩:=Et (xs:=[D.int a,D.int b,D.int 250]) z0 (by simpa using z1) (p:=λd=>∃m:Int,d = .int m/\0<=m/\m<=250) (by
   simp only [ud9];exact ⟨⟨_,rfl,a0,Hl a1 (by decide)⟩,⟨_,rfl,b0,ue0 b1⟩,⟨_,rfl,by decide,by decide⟩,λ_ z=>nomatch z⟩)
  refine Dq ed ?_;right;exact ⟨⟨.text m,by rw [Sh.d],X9 m,Io m0 m1⟩,p4.drop⟩
 ·right;refine ht.use 9 p1 λa S2 a0 a1 p2=>?_;right;refine I9 (Hn (by decide) (by decide)) ?_;right;refine ht.use 200000000000000000 p2 λb S3 b0 b1 p3=>?_;right;refine ht.use 2 p3 λg S4 z0 z1 p4=>?_;have e17:(10:Int) ^ (17:Int).toNat=100000000000000000:=by decide
  rw [e17];obtain ⟨d,ed,lo,rfl,l0,l1⟩:=Et (xs:=[D.int (a - 4),D.int (b - 100000000000000000)]) z0 (by simpa using z1) (p:=λd=>∃m:Int,d = .int m/\-100000000000000000<=m/\m<=100000000000000000) (by
   simp only [ud9];clear z0 z1 ht p4;exact ⟨⟨_,rfl,by lia,by lia⟩,⟨_,rfl,by lia,by lia⟩,λ_ z=>nomatch z⟩)
  refine Dq ed ?_;right;refine ht.use 4 p4 λu S5 u0 u1 p5=>?_;right;refine ht.use 4 p5 λv S6 v0 v1 p6=>?_;right;refine ht.use 1000 p6 λw S7 w0 w1 p7=>?_;right;refine ht.use 100000000000000000 p7 λx S8 x0 x1 p8=>?_;right;refine ht.use 6 p8 λh S9 h0 h1 p9=>?_;obtain ⟨d,ed,hi,rfl,m0,m1⟩:=Et (xs:=[D.int 0,D.int 1,D.int (254 + u),D.int (65534 + v),D.int w]++[D.int x]) h0 (by simpa using h1) (p:=λd=>∃m:Int,d = .int m/\0<=m/\m<=100000000000000000) (by
   simp only [ui6,uj9,ud9];exact ⟨⟨_,rfl,by decide,by decide⟩,⟨_,rfl,by decide,by decide⟩,⟨_,rfl,ul2 (by decide) u0,un6 (Int.add_le_add_left (un8 u1) _) (by decide)⟩,⟨_,rfl,ul2 (by decide) v0,un6 (Int.add_le_add_left (un8 v1) _) (by decide)⟩,⟨_,rfl,w0,Hl w1 (by decide)⟩,⟨_,rfl,x0,un8 x1⟩,λ_ z=>nomatch z⟩)
  refine Dq ed ?_;right;have hB:B0=300000000000000000:=rfl;refine ⟨⟨.number lo (lo + hi),by rw [Sh.d],X8 _ _,HB (un6 (by decide) l0) (Int.le_add_of_nonneg_right m0) (un6 (Int.add_le_add l1 m1) (by decide))⟩,p9.drop⟩
theorem PLeafOk.use {f:Fn}(h:PLeafOk f){k r:Nat}{S:List Ob}(d:Room k (r + 20) S){P:D->List Ob->Prop}(p:∀s S',s.depth<=1->wfB B0 s=true->Room k r S'->P s.d S'):Wf f [.obj k] S P:=
 (h k r S d).mono λv S' ⟨⟨s,e,h1,h2⟩,q⟩=>by subst e;exact p s S' h1 h2 q
def pt:Nat->Nat
 | 0=>21
 | d + 1=>163 + pt d + pt d + 1
def Hc (f:Fn)(m:Nat):Prop:=∀(d k r:Nat) (S:List Ob),d < m->Room k (r + pt d) S->Wf f [.obj k,.int d] S λv S'=>Drawn k r (d + 1) v S'
theorem Dc (h:n<=m)(hm:m<=1000:=by decide):BL (n:Int)=true:=Bf (by lia) (by lia)
theorem W0:∀d,d < 4->pt d<=1316:=by decide
theorem K8 {l:List α}{x:α}{c:Int}(h0:0<=c)(hc:c < (l.length:Int) + 1):(l.take c.toNat++[x]++l.drop c.toNat).length=l.length + 1:=by
 rw [uf6,uf6,uh5,uh6];simp only [ui4,uk5];lia
variable {a l:Nat}
theorem MO {b:Nat}(h:a<=b + 1)(h2:b + (l + 1)<=n):a + l<=n:=by lia
theorem Room.loop {q:Nat}(h:Room k (r + q * (m + 1)) S):Room k (r + q * m + q) S:=by rw [Nat.mul_succ,<-um0] at h;exact h
theorem EN {l:List α}{x:α}(h:l.length + (m + 1)=n):(l++[x]).length + m=n:=by rw [uf6,<-h];simp only [ui4,uk5];lia
theorem DK {l:List α}{x:α}{p:α->Prop}(h:∀y∈l,p y)(hx:p x):∀y∈l++[x],p y:=λy hy=>by
 rcases uj1.mp hy with h' | h'
 ·exact h y h'
 ·rw [uf8] at h';subst h';exact hx
theorem SE {l:List α}{x:α}{p:α->Prop}{c:Nat}(h:∀y∈l,p y)(hx:p x):∀y∈l.take c++[x]++l.drop c,p y:=λy hy=>by
 rcases uj1.mp hy with h' | h'
 ·exact DK (λz hz=>h z (List.mem_of_mem_take hz)) hx y h'
 ·exact h y (List.mem_of_mem_drop h')
theorem Cb (h:a<=n)(hn:n<=100000:=by decide):a<=LIM:=um5 h hn
theorem QE (ht:PTakeOk ct)(hl:PLeafOk cl)(hp:m=0\/Hc cp m):Hc (fnOf 2 6 (ES ct cl cp)) (m + 1):=by
 intro d k r S hd p0;refine Ap rfl ?_;unfold ES;right
 cases d with
 | zero=>
   change Room k (r + 20 + 1) S at p0
   refine ht.use 8 p0 λi S1 i0 i1 p1=>?_;right;exact hl.use p1 λs S2 h1 h2 p2=>⟨⟨s,rfl,h1,h2⟩,p2⟩
 | succ d=>
   rw [pt,<-um0,<-um0,<-um0] at p0;refine ht.use 8 p0 λi S1 i0 i1 p1=>?_;have e0:(((d + 1:Nat):Int) - 1)=(d:Int):=by lia
   have hrec:∀{r':Nat} {S':List Ob} {P:D->List Ob->Prop},Room k (r' + pt d) S'->(∀s S'',s.depth<=d + 1->wfB B0 s=true->Room k r' S''->P s.d S'')->Wf cp [.obj k,.int d] S' P:=λ{r' S' P} q p=>by
    rcases hp with rfl | hp
    ·exact absurd (uc8 hd) (uk3 _)
    ·exact (hp d k r' S' (uc8 hd) q).mono λv S'' ⟨⟨s,e,h1,h2⟩,q⟩=>by subst e;exact p s S'' h1 h2 q
   right;refine AV (λz=>?_) λz=>?_
   ·right;exact hl.use (r:=r + 143) p1.drop.drop λs S2 h1 h2 p2=>⟨⟨s,rfl,Ek h1,h2⟩,p2.drop⟩
   right;rw [e0];refine hrec p1 λone S2 o1 o2 p2=>?_;right;refine AV (λy=>?_) λy=>?_
   ·right;refine ht.use (r:=r + 162) 4 p2.drop λa S3 a0 a1 p3=>?_;right;refine ht.use (r:=r + 161) 251 p3 λb S4 b0 b1 p4=>?_;right;refine ht.use (r:=r + 160) 2 p4 λg S5 z0 z1 p5=>?_;obtain ⟨dd,ed,q,rfl,m0,m1⟩:=Et (xs:=[D.int a,D.int b]) z0 (by simpa using z1) (p:=λd=>∃m:Int,d = .int m/\0<=m/\m<=250) (by
     simp only [ud9];exact ⟨⟨_,rfl,a0,Hl a1 (by decide)⟩,⟨_,rfl,b0,ue0 b1⟩,λ_ z=>nomatch z⟩)
    refine Dq ed ?_;right;exact ⟨⟨.list one q,by rw [Sh.d],PX o1,DF m0 m1 o2⟩,p5.drop⟩
   right;refine AV (λx=>?_) λx=>?_
   ·right;rw [e0];refine hrec p2 λtwo S3 t1 t2 p3=>?_;right;exact ⟨⟨.pair one two,by rw [Sh.d],Jq o1 t1,CK o2 t2⟩,p3.drop⟩
   right;refine ht.use (r:=r + 162) 9 p2.drop λa S3 a0 a1 p3=>?_;right;obtain ⟨n,rfl⟩:=ub6 a0;have a8:n<=8:=by clear p0 p1 p2 p3;lia
   refine Cm (Dc a8) ?_;refine (CY (P:=λxs t'=>∃ss:List Sh,xs=ss.map Sh.d/\ss.length=n/\(∀s∈ss,s.depth<=1/\wfB B0 s=true)/\Room k (r + 2) t'.S) (λacc q t=>∃(ss:List Sh) (S':List Ob) (z:Option Sl),acc=ss.map Sh.d/\ss.length + q.length=n/\(∀s∈ss,s.depth<=1/\wfB B0 s=true)/\Room k (r + 2 + 20 * q.length) S'/\t=⟨[z,some (.val (.obj k))],S'⟩) _ [] _ ⟨[],S3,_,rfl,by simp [AX],by simp,p3.mono (by rw [AO,uh0,um0];exact ue7 (ue7 (ue8 _ a8) _) _),rfl⟩ ?_ ?_).mono ?_
   ·rintro acc d' q t ⟨ss,S',z,rfl,h1,h2,h3,rfl⟩ _;rw [ui4] at h1 h3;refine E9 (FE ?_);rw [if_pos rfl];right;refine hl.use h3.loop λs S5 q1 q2 q3=>?_;exact ⟨ss++[s],S5,_,by rw [uk4];rfl,EN h1,DK h2 ⟨q1,q2⟩,q3,rfl⟩
   ·rintro acc t ⟨ss,S',z,rfl,h1,h2,h3,rfl⟩;exact ⟨ss,rfl,h1,h2,h3.drop⟩
   ·rintro xs t' ⟨ss,hxs,h1,h2,h3⟩;rw [uj9] at hxs;subst hxs;have h8:(ss.map Sh.d).length<=8:=by rw [uj7,h1];exact a8
    refine AC (Cb h8) ?_;right;rw [uj7];have s8:ss.length<=8:=by rw [h1];exact a8
    refine ht.use (r:=r + 1) ((ss.length:Int) + 1) h3 (λc S5 c0 c1 p5=>?_) rfl (by clear p0 p1 p2 p3;lia) (by clear p0 p1 p2 p3;lia);right;have c1':c < ((ss.map Sh.d).length:Int) + 1:=by rw [uj7];exact c1
    have cl:=K8 (x:=one.d) c0 c1';rw [Gd c0 (ue0 c1')];refine AC (Cb (n:=9) (ui5 (um5 (List.length_take_le' _ _) h8))) ?_;right;rw [Gc c0 (ue0 c1')];refine AC (Cb (n:=9) (by rw [<-uf6,cl];exact ui5 h8)) ?_;right;have hmem:∀x∈ss.take c.toNat++[one]++ss.drop c.toNat,x.depth<=d + 1/\wfB B0 x=true:=SE (λx hx=>⟨Ek (h2 x hx).1,(h2 x hx).2⟩) ⟨o1,o2⟩;have cl':=K8 (x:=one) c0 c1;refine ⟨⟨.choice (ss.take c.toNat++[one]++ss.drop c.toNat),?_,Jp λx hx=>(hmem x hx).1,F0 (by rw [cl'];exact ui5 (uo5 _)) (by rw [cl'];exact ui5 s8) λx hx=>(hmem x hx).2⟩,p5.drop⟩;rw [Sh.d,BZ,uk4,uk4,List.map_take,List.map_drop];rfl
def PRecOk (f:Fn):Prop:=∀(k r:Nat) (S:List Ob),Room k (r + 80) S->Wf f [.obj k] S λv S'=>Drawn k r 4 v S'
theorem Tl (hl:PLeafOk cl):PRecOk (fnOf 1 3 (Ea cl)):=by
 intro k r S p0;refine Ap rfl ?_;unfold Ea;right;refine hl.use (r:=r + 60) p0 λs S1 h1 h2 p1=>?_;right;refine B1 (λq t=>∃(s:Sh) (S':List Ob) (e2:Option Sl),s.depth + q.length<=4/\wfB B0 s=true/\Room k (r + 20 * q.length) S'/\t=⟨[some (.val (.obj k)),some (.val s.d),e2],S'⟩) _ _ ⟨s,S1,none,Nat.add_le_add_right h1 3,h2,p1,rfl⟩ ?_ ?_
 ·rintro d q t ⟨s,S',e2,hd,hw,p,rfl⟩ _;rw [ui4] at hd p;right;refine hl.use p.loop λl S5 q1 q2 q3=>?_;right;refine ⟨.pair l s,S5,some (.val d),MO (Jq (um5 q1 s.depth_pos) (uo3 _)) hd,CK q2 hw,q3,?_⟩;rw [Sh.d];rfl
 ·rintro t ⟨s,S',e2,hd,hw,p,rfl⟩;right;exact ⟨⟨s,rfl,hd,hw⟩,p⟩
theorem PRecOk.use {f:Fn}(h:PRecOk f){k r:Nat}{S:List Ob}(d:Room k (r + 80) S){P:D->List Ob->Prop}(p:∀s S',s.depth<=4->wfB B0 s=true->Room k r S'->P s.d S'):Wf f [.obj k] S P:=
 (h k r S d).mono λv S' ⟨⟨s,e,h1,h2⟩,q⟩=>by subst e;exact p s S' h1 h2 q
theorem t6m {a0 e2 e3 e4 e5:Option Sl}{X Y:List D}(h:X=Y):(⟨[a0,some (.own X),e2,e3,e4,e5],S⟩:T)=⟨[a0,some (.own Y),e2,e3,e4,e5],S⟩:=by subst h;rfl
def KA (f:Fn):Prop:=∀(k r:Nat) (S:List Ob),Room k (r + 3000) S->Wf f [.obj k] S λv S'=>Drawn k r 6 v S'
variable {cr:Fn}
theorem Pf (ht:PTakeOk ct)(hr:PRecOk cr)(hl:PLeafOk cl)(hp:Hc cp 4):KA (fnOf 1 5 (DA ct cr cl cp)):=by
 intro k r S p0;refine Ap rfl ?_;unfold DA;right;refine ht.use (r:=r + 2999) 4 p0 λi S1 i0 i1 p1=>?_;right;obtain ⟨d,rfl⟩:=ub6 i0;have d4:d < 4:=un9.mp i1;have hpt:=W0 d d4;refine (hp d k (r + 300) S1 d4 (p1.mono (um0 r 300 _ ▸ ue7 (um5 (ue7 hpt 300) (by decide)) r))).mono λv S2 z9=>?_;obtain ⟨⟨s,e,h1,h2⟩,p2⟩:=z9;subst e;right;refine ht.use (r:=r + 299) 4 p2 λg S3 z0 z1 p3=>?_;obtain ⟨dd,ed,m,rfl,m1⟩:=Et (xs:=[D.int 0,D.int 0,D.int 1,D.int 2]) z0 (by simpa using z1) (p:=λd=>∃m:Nat,d = .int m/\m<=2) (by
  simp only [ud9];exact ⟨⟨0,rfl,by decide⟩,⟨0,rfl,by decide⟩,⟨1,rfl,by decide⟩,⟨2,rfl,by decide⟩,λ_ z=>nomatch z⟩)
 refine Dq ed ?_;right;refine Cm (Dc m1) ?_;refine B1 (λq t=>∃(s:Sh) (S':List Ob) (e2 e3 e4:Option Sl),s.depth + q.length<=6/\wfB B0 s=true/\Room k (r + 200 + 22 * q.length) S'/\t=⟨[some (.val (.obj k)),some (.val s.d),e2,e3,e4],S'⟩) _ _ ⟨s,S3,none,none,none,by rw [AO,uh0];exact Nat.add_le_add (um5 h1 d4) m1,h2,p3.mono (by rw [AO,uh0,um0];exact ue7 (um5 (ue7 (ue8 _ m1) _) (by decide)) _),rfl⟩ ?_ ?_
 ·rintro d' q t ⟨s,S',e2,e3,e4,hd,hw,p,rfl⟩ _;rw [ui4] at hd p;right;refine hl.use (r:=r + 200 + 22 * q.length + 2) p.loop λl S5 q1 q2 p5=>?_;right;refine ht.use (r:=r + 200 + 22 * q.length + 1) 4 p5 λq' S6 q0 q3 p6=>?_;right;refine ht.use 5 p6 λg2 S7 y0 y1 p7=>?_;obtain ⟨dd,ed,x,rfl,x1,x2⟩:=Et (xs:=[(Sh.list s q').d,(Sh.pair l s).d,(Sh.pair s l).d]++[(Sh.choice [l,s]).d,(Sh.choice [s,l]).d]) y0 (by simpa using y1) (p:=λd=>∃y:Sh,d=y.d/\y.depth<=s.depth + 1/\wfB B0 y=true) (by
   have ls:=um5 q1 s.depth_pos;have ss:=uo3 s.depth;simp only [ui6,uj9,ud9];exact ⟨⟨_,rfl,PX ss,DF q0 (Hl q3 (by decide)) hw⟩,⟨_,rfl,Jq ls ss,CK q2 hw⟩,⟨_,rfl,Jq ss ls,CK hw q2⟩,⟨_,rfl,M7 ls ss,JK q2 hw⟩,⟨_,rfl,M7 ss ls,JK hw q2⟩,λ_ z=>nomatch z⟩)
  rw [Sh.d,Sh.d,Sh.d,Sh.d,Sh.d,shD,shD,shD,shD,shD] at ed;refine Dq ed ?_;right;exact ⟨x,S7,_,_,_,MO x1 hd,x2,p7,rfl⟩
 ·rintro t ⟨s,S',e2,e3,e4,hd,hw,p,rfl⟩;replace p:Room k (r + 200) S':=p;right;refine ht.use (r:=r + 199) 8 p λg2 S7 y0 y1 p7=>?_;right;refine AV (λz=>?_) λz=>?_
  ·right;refine hr.use (r:=r + 119) p7 λa S8 a1 a2 p8=>?_;right;refine hr.use (r:=r + 39) p8 λb S9 b1 b2 p9=>?_;right;exact ⟨⟨.pair a b,by rw [Sh.d],Jq (uh1 a1) (uh1 b1),CK a2 b2⟩,p9.drop⟩
  ·right;exact ⟨⟨s,rfl,hd,hw⟩,p7.drop⟩
def GF (f:Fn):Prop:=∀lo hi:Int,lo<=hi->hi - lo < 4000000000000000000->Pure1 f [.int lo,.int hi] (.int (wid (hi - lo).toNat:Nat))
theorem NC:GF (fnOf 2 4 Do):=by
 intro lo hi h1 h2 S;have hb:(hi - lo).toNat < 256 ^ 9:=by
  have:(256:Nat) ^ 9=4722366482869645213696:=by decide
  lia
 have hn:wid (hi - lo).toNat < Kl:=ug0 (F3 9 _ hb) (by decide);refine Ap rfl ?_;unfold Do;right;have e0:hi - lo=((hi - lo).toNat:Int):=by lia
 rw [e0];generalize (hi - lo).toNat=n at hn;rw [uh0];refine HL (λk t=>∃m:Nat,k=wid m/\t=⟨[some (.val (.int lo)),some (.val (.int hi)),some (.val (.int ((wid n - wid m:Nat):Int))),some (.val (.int m))],S⟩/\wid m<=wid n) ?_ Kl (wid n) _ hn ⟨n,rfl,by rw [uo0];rfl,uo3 _⟩;rintro k t ⟨m,rfl,rfl,hm⟩;right
 by_cases z:0 < m
 ·rw [ul3 (by lia:(0:Int) < m)];refine ⟨_,Fd z,?_⟩;have:=Fd z;right;refine ⟨m / 256,rfl,?_,by lia⟩;have e:((wid n - wid (m / 256):Nat):Int)=((wid n - wid m:Nat):Int) + 1:=by lia
  rw [e];rfl
 ·have:m=0:=by lia
  subst this;rw [uk7 (by lia)];right;exact ⟨by simp [wid],rfl⟩
def stB:Nat->Nat
 | 0=>41
 | m + 1=>21 + stB m * 9
theorem Room.sA (h:Room k (r + stB (m + 1)) S):Room k (r + 21) S:=h.mono (by rw [stB];lia)
theorem Room.sB (h:Room k (r + stB (m + 1)) S):Room k (r + 1 + stB m) S:=h.mono (by rw [stB];lia)
theorem Room.sC (h:Room k (r + stB (m + 1)) S):Room k (r + stB m + stB m) S:=h.mono (by rw [stB];lia)
theorem Room.sD (h:Room k (r + stB (m + 1)) S):Room k (r + stB m * 9 + 20 + 1) S:=h.mono (by rw [stB];lia)
theorem EE {x y:List D}(hl:x.length + y.length<=LIM)(h:P (.tup (x++y)) t):W (Ar (.tup x) (.tup y)) t P:=by
 cases x with
 | nil=>exact Pv h
 | cons d x=>exact RP (AC (by rw [ui4] at hl;exact hl) h)
theorem Hb {x y:Sh}:∀{a b:List Sh},a.length=b.length->AD (a++[x]) (b++[y])=(AD a b && Al x y)
 | [],[],_=>by simp [AD]
 | [],_ :: _,h=>by simp at h
 | _ :: _,[],h=>by simp at h
 | s :: a,r :: b,h=>by
   rw [ui6,ui6,AD,AD,Hb (by simpa using h),Bool.and_assoc]
theorem Ha {m:List Sh}:∀{a b:List Sh},a.length=b.length->AD a (b++m)=AD a b
 | [],_,_=>by rw [AD,AD]
 | _ :: _,[],h=>by simp at h
 | s :: a,r :: b,h=>by rw [ui6,AD,AD,Ha (by simpa using h)]
variable {s':Sh}{q q':Int}
theorem PZ (h:s'.depth<=s.depth):(Sh.list s' q').depth<=(Sh.list s q).depth:=by rw [Sh.depth,Sh.depth];exact ui5 h
theorem P0 {a a' b':Sh}(h:a'.depth<=a.depth)(h2:b'.depth<=b.depth):(Sh.pair a' b').depth<=(Sh.pair a b).depth:=by rw [Sh.depth,Sh.depth];lia
variable {rs:List Sh}
theorem Ya (h:∀x∈rs,x.depth<=AG ss):(Sh.choice rs).depth<=(Sh.choice ss).depth:=by
 rw [Sh.depth.eq_def (.choice ss)];exact Jp h
theorem P2 (h:(Sh.list s q).depth<=m + 1):s.depth<=m:=by rw [Sh.depth] at h;exact uc6 h
theorem M8 {a:Sh}(h:(Sh.pair a b).depth<=m + 1):a.depth<=m/\b.depth<=m:=by rw [Sh.depth] at h;lia
theorem P1 (h:(Sh.choice ss).depth<=m + 1):∀x∈ss,x.depth<=m:=λx hx=>by rw [Sh.depth] at h;exact um5 (AN hx) (uc6 h)
theorem Wx (h:wfB B (.list s q)=true):0<=q/\q<=250/\wfB B s=true:=by simp only [wfB,uh7,uh2] at h;exact ⟨h.1.1,h.1.2,h.2⟩
theorem Zd (h:wfB B (.text q)=true):0<=q/\q<=250:=by simp only [wfB,uh7,uh2] at h;exact h
theorem Wy (h:wfB B (.number lo hi)=true) : -B<=lo/\lo<=hi/\hi<=B:=by simp only [wfB,uh7,uh2] at h;exact ⟨h.1.1,h.1.2,h.2⟩
theorem Wz {a:Sh}(h:wfB B (.pair a b)=true):wfB B a=true/\wfB B b=true:=by simp only [wfB,uh7] at h;exact h
theorem Ww (h:wfB B (.choice ss)=true):1<=ss.length/\ss.length<=9/\∀x∈ss,wfB B x=true:=by simp only [wfB,uh7,uh2] at h;exact ⟨h.1.1,h.1.2,GA h.2⟩
theorem Vh (hw : -B<=lo/\lo<=hi/\hi<=B)(hB1:B < 900000000000000000)(q0:1<=q)(q1:q<=100):lo<=hi + q/\hi + q - lo < 4000000000000000000/\hi - lo < 4000000000000000000/\-(B + 100)<=lo/\hi + q<=B + 100/\hi<=B + 100:=by lia
theorem NR (z:wid (hi + q - lo).toNat=wid (hi - lo).toNat)(q0:1<=q):Al (.number lo hi) (.number lo (hi + q))=true:=by
 rw [Al,z];simp;lia
theorem ON {g:Int}(h0:0<=q)(h1:q<=250)(hg:0<=g):0<=(if q + g < 250 then q + g else 250)/\(if q + g < 250 then q + g else 250)<=250/\q<=(if q + g < 250 then q + g else 250):=by split <;> lia
theorem Yl {g:Int}(h:n<=9)(h0:0<=g)(h1:g < 2):∃m:Nat,(if g < 9 - (n:Int) then g else 9 - (n:Int))=m/\m<=1/\m + n<=9:=⟨(if g < 9 - (n:Int) then g else 9 - (n:Int)).toNat,by split <;> lia⟩
theorem Ri (h:B0<=B):B0<=B + 100:=by lia
theorem J7 (h:1<=ss.length):1<=AG ss:=by
 cases ss with
 | nil=>exact absurd h (by decide)
 | cons x r=>rw [AG];exact um5 x.depth_pos (Nat.le_max_left _ _)
theorem Ql {l:List α}(h:j < l.length):(l.drop j).length=(l.drop (j + 1)).length + 1:=by rw [ub0 h,ui4]
structure Stepped (k r:Nat)(B:Int)(s:Sh)(v:D)(S':List Ob):Prop where
 ex:∃r':Sh,v=r'.d/\r'.depth<=s.depth/\wfB (B + 100) r'=true/\Al s r'=true
 pool:Room k r S'
def Hd (f:Fn)(m:Nat):Prop:=∀(s:Sh) (k r:Nat) (B:Int) (S:List Ob),s.depth<=m->wfB B s=true->B0<=B->B < 900000000000000000->Room k (r + stB m) S->Wf f [.obj k,s.d] S λv S'=>Stepped k r B s v S'
variable {cs:Fn}
theorem QH (ht:PTakeOk ct)(hl:PLeafOk cl)(hp:GF cp)(hs:m=0\/Hd cs m):Hd (fnOf 2 4 (EU cs ct cl cp)) (m + 1):=by
 intro s k r B S hd hw hB0 hB1 p0;have rec_:∀{s':Sh} {r':Nat} {S':List Ob} {P:D->List Ob->Prop},s'.depth<=m->wfB B s'=true->Room k (r' + stB m) S'->(∀v S'',v.depth<=s'.depth->wfB (B + 100) v=true->Al s' v=true->Room k r' S''->P v.d S'')->Wf cs [.obj k,s'.d] S' P:=λ{s' r' S' P} h1 h2 q p=>by
  rcases hs with rfl | hs
  ·exact absurd (uf0 s'.depth_pos h1) (uk3 _)
  ·exact (hs s' k r' B S' h1 h2 hB0 hB1 q).mono λv S'' ⟨⟨r',e,g1,g2,g3⟩,q⟩=>by subst e;exact p r' S'' g1 g2 g3 q
 refine Ap rfl ?_;unfold EU
 cases s with
 | nothing=>
   rw [Sh.d];right;exact ⟨⟨.nothing,by rw [Sh.d],uo3 _,by rw [wfB],by rw [Al]⟩,p0.drop⟩
 | number lo hi=>
   replace hw:=Wy hw;rw [Sh.d];right;refine ht.use (r:=r + 20) 3 p0.sA λg S1 z0 z1 p1=>?_;obtain ⟨d,ed,q,rfl,q0,q1⟩:=Et (xs:=[D.int 1,D.int 2,D.int 100]) z0 (by simpa using z1) (p:=λd=>∃m:Int,d = .int m/\1<=m/\m<=100) (by
    simp only [ud9];exact ⟨⟨_,rfl,by decide,by decide⟩,⟨_,rfl,by decide,by decide⟩,⟨_,rfl,by decide,by decide⟩,λ_ z=>nomatch z⟩)
   have N:=Vh hw hB1 q0 q1;refine Dq ed ?_;right;refine (hp lo (hi + q) N.1 N.2.1).use ?_;right;refine (hp lo hi hw.2.1 N.2.2.1).use ?_;right
   by_cases z:wid (hi + q - lo).toNat=wid (hi - lo).toNat
   ·have e:((((wid (hi + q - lo).toNat:Nat):Int)) == ((wid (hi - lo).toNat:Nat):Int))=true:=by rw [beq_iff_eq,z]
    rw [show id ((((wid (hi + q - lo).toNat:Nat):Int)) == ((wid (hi - lo).toNat:Nat):Int))=true from e,if_pos rfl];refine Dq (d:=.tup [.str "number",.int lo,.int (hi + q)]) rfl ?_;exact ⟨⟨.number lo (hi + q),by rw [Sh.d],by simp [Sh.depth],HB N.2.2.2.1 N.1 N.2.2.2.2.1,NR z q0⟩,p1.drop⟩
   ·have e:((((wid (hi + q - lo).toNat:Nat):Int)) == ((wid (hi - lo).toNat:Nat):Int))=false:=by rw [beq_eq_false_iff_ne];exact λh=>z (Int.ofNat.inj h)
    rw [show id ((((wid (hi + q - lo).toNat:Nat):Int)) == ((wid (hi - lo).toNat:Nat):Int))=false from e,if_neg uf2];refine Dq (d:=.tup [.str "number",.int lo,.int hi]) rfl ?_;exact ⟨⟨.number lo hi,by rw [Sh.d],uo3 _,HB N.2.2.2.1 hw.2.1 N.2.2.2.2.2,CQ 1 _ (by simp [Sh.depth])⟩,p1.drop⟩
 | text q=>
   replace hw:=Zd hw;rw [Sh.d];right;refine ht.use (r:=r + 20) 3 p0.sA λg S1 z0 z1 p1=>?_;right;have M:=ON hw.1 hw.2 z0;exact ⟨⟨.text (if q + g < 250 then q + g else 250),by rw [Sh.d],by simp [Sh.depth],Io M.1 M.2.1,by rw [Al];exact ul3 M.2.2⟩,p1.drop⟩
 | list s q=>
   obtain ⟨w0,w1,w2⟩:=Wx hw;rw [Sh.d];right;refine AV (λz=>?_) λz=>?_
   ·have z':q=0:=by simpa using z
    subst z';right;refine hl.use (r:=r + 1) p0.sA λl S1 l1 l2 p1=>?_;right;refine ht.use 3 p1 λg S2 z0 z1 p2=>?_;right;exact ⟨⟨.list l g,by rw [Sh.d],PZ (um5 l1 s.depth_pos),DF z0 (Hl z1 (by decide)) (A1 (Ri hB0) 1 l l1 l2),by rw [Al,ul3 z0];simp⟩,p2⟩
   ·right;refine rec_ (P2 hd) w2 p0.sB λr' S1 g1 g2 g3 p1=>?_;right;refine ht.use 3 p1 λg S2 z0 z1 p2=>?_;right;have M:=ON w0 w1 z0;exact ⟨⟨.list r' (if q + g < 250 then q + g else 250),by rw [Sh.d],PZ g1,DF M.1 M.2.1 g2,by rw [Al,g3,Bool.or_true,ul8];exact ul3 M.2.2⟩,p2⟩
 | pair a b=>
   have D:=M8 hd;replace hw:=Wz hw;rw [Sh.d];right;refine rec_ D.1 hw.1 p0.sC λa' S1 g1 g2 g3 p1=>?_;right;refine rec_ D.2 hw.2 p1 λb' S2 f1 f2 f3 p2=>?_;right;exact ⟨⟨.pair a' b',by rw [Sh.d],P0 g1 f1,CK g2 f2,by rw [Al,g3,f3];rfl⟩,p2⟩
 | choice ss=>
   have hd':=P1 hd;obtain ⟨w0,w1,w2⟩:=Ww hw;rw [Sh.d];right;rw [AJ];refine ht.use 2 p0.sD λg S1 z0 z1 p1=>?_;right;obtain ⟨n,en,n1,n9⟩:=Yl w1 z0 z1;rw [en];refine Cm (Dc n1) ?_;refine (CY (P:=λxs t'=>∃ms:List Sh,xs=ms.map Sh.d/\ms.length=n/\(∀s∈ms,s.depth<=1/\wfB B0 s=true)/\Room k (r + stB m * 9) t'.S) (λacc q t=>∃(ms:List Sh) (S':List Ob) (z:Option Sl),acc=ms.map Sh.d/\ms.length + q.length=n/\(∀s∈ms,s.depth<=1/\wfB B0 s=true)/\Room k (r + stB m * 9 + 20 * q.length) S'/\t=⟨[z,some (.val (.obj k))],S'⟩) _ [] _ ⟨[],S1,_,rfl,by simp [AX],by simp,p1.mono (by rw [AO,uh0];exact ue7 (ue8 20 n1) _),rfl⟩ ?_ ?_).mono ?_
   ·rintro acc d' q t ⟨ms,S',z,rfl,h1,h2,h3,rfl⟩ _;rw [ui4] at h1 h3;refine E9 (FE ?_);rw [if_pos rfl];right;exact hl.use h3.loop λs S5 q1 q2 q3=>⟨ms++[s],S5,_,by rw [uk4];rfl,EN h1,DK h2 ⟨q1,q2⟩,q3,rfl⟩
   ·rintro acc t ⟨ms,S',z,rfl,h1,h2,h3,rfl⟩;exact ⟨ms,rfl,h1,h2,h3.drop⟩
   rintro xs t' ⟨ms,hxs,hm1,hm2,hm3⟩;rw [uj9] at hxs;subst hxs hm1;refine AC (Cb (n:=1) (by rw [uj7];exact n1)) ?_;right;refine (CY (P:=λxs t'=>∃rs:List Sh,xs=rs.map Sh.d/\rs.length=ss.length/\(∀s∈rs,s.depth<=AG ss/\wfB (B + 100) s=true)/\AD ss rs=true/\Room k r t'.S) (λacc q t=>∃(rs:List Sh) (j:Nat) (S':List Ob) (z:Option Sl),acc=rs.map Sh.d/\rs.length=j/\j<=ss.length/\q=(ss.drop j).map Sh.d/\(∀s∈rs,s.depth<=AG ss/\wfB (B + 100) s=true)/\AD (ss.take j) rs=true/\Room k (r + stB m * (ss.drop j).length) S'/\t=⟨[z,some (.val (.obj k))],S'⟩) _ [] _ ⟨[],0,t'.S,_,rfl,rfl,uo5 _,by rw [BZ];rfl,by simp,by rw [List.take_zero,AD],hm3.mono (ue7 (ue8 _ w1) _),rfl⟩ ?_ ?_).mono ?_
   ·rintro acc d' q t ⟨rs,j,S',z,rfl,h1,h2,hr,h4,h5,h6,rfl⟩ _;have hjl:j < ss.length:=by
     rcases Nat.lt_or_ge j ss.length with h | h
     ·exact h
     ·rw [uc7 h] at hr;cases hr
    rw [Ql hjl] at h6;rw [ub0 hjl,ul6] at hr;injection hr with e1 e2
    have ew:ss[j]?=some ss[j]:=ub2 hjl;have hmem:=ui3 hjl;generalize ss[j]=x at e1 ew hmem;subst e1 e2;refine E9 (FE ?_);rw [if_pos rfl];right;refine rec_ (hd' x hmem) (w2 x hmem) h6.loop λr' S5 g1 g2 g3 p5=>?_;refine ⟨rs++[r'],j + 1,S5,_,by rw [uk4];rfl,by rw [uf6,h1];rfl,hjl,rfl,DK h4 ⟨um5 g1 (AN hmem),g2⟩,?_,p5,rfl⟩;rw [List.take_add_one,ew];show AD (ss.take j++[x]) (rs++[r'])=true;rw [Hb (by rw [uh5,h1];exact Nat.min_eq_left h2),h5,g3];rfl
   ·rintro acc t ⟨rs,j,S',z,rfl,h1,h2,hr,h4,h5,h6,rfl⟩;have hj':j=ss.length:=by
     have:=congrArg List.length hr;rw [uk5,uj7,uh6] at this;exact Nat.le_antisymm h2 (Nat.le_of_sub_eq_zero this.symm)
    subst hj';rw [List.take_length] at h5;exact ⟨rs,rfl,h1,h4,h5,h6.drop⟩
   rintro xs t2 ⟨rs,hxs,hr1,hr2,hr3,hr4⟩;rw [uj9] at hxs;subst hxs;refine AC (Cb (n:=9) (by rw [uj7,hr1];exact w1)) ?_;right;refine EE (Cb (n:=9) (by rw [uj7,uj7,hr1,um9];exact n9)) ?_;right;have hmem:∀x∈rs++ms,x.depth<=AG ss/\wfB (B + 100) x=true:=λx hx=>by
    rcases uj1.mp hx with h | h
    ·exact hr2 x h
    ·have h1:=hm2 x h;exact ⟨um5 h1.1 (J7 w0),A1 (Ri hB0) 1 x h1.1 h1.2⟩
   have e9:(rs++ms).length=ss.length + ms.length:=by rw [uf6,hr1]
   refine ⟨⟨.choice (rs++ms),by rw [Sh.d,BZ,uk4],Ya λx hx=>(hmem x hx).1,F0 (by rw [e9];exact um5 w0 (ui0 _ _)) (by rw [e9,um9];exact n9) λx hx=>(hmem x hx).2,?_⟩,hr4⟩;rw [Al,Ha hr1.symm,hr3,ul8,uh2,uf6,hr1];exact ui0 _ _
structure Vary (k r:Nat)(B:Int)(dp:Nat)(v:D)(S':List Ob):Prop where
 ex:∃r':Sh,v=r'.d/\r'.depth<=dp/\wfB (B + 255) r'=true
 pool:Room k r S'
def Je (f:Fn):Prop:=∀(lo hi:Int) (k r:Nat) (B:Int) (S:List Ob),(-B<=lo/\lo<=hi/\hi<=B)->Room k (r + 1) S->Wf f [.obj k,.int lo,.int hi] S λv S'=>Vary k r B 1 v S'
theorem Xi (h : -B<=lo/\lo<=hi/\hi<=B):(-(B + 255)<=lo/\-(B + 255)<=lo - 1/\-(B + 255)<=lo + 1/\lo<=B + 255)/\(-(B + 255)<=hi/\hi<=B + 255)/\(-(B + 255)<=hi + 1/\hi + 1<=B + 255)/\(-(B + 255)<=hi - 1/\hi - 1<=B + 255)/\-(B + 255)<=hi + 255/\hi + 255<=B + 255:=by (repeat' apply And.intro) <;> lia
theorem Wm {C a b:Int}(h1 : -C<=a)(h2 : -C<=b)(h3:b<=C):wfB C (.number (if b < a then b else a) b)=true:=HB (by split <;> assumption) (by split <;> lia) h3
theorem QK (ht:PTakeOk ct):Je (fnOf 3 6 (Ct ct)):=by
 intro lo hi k r B S h1 p0;refine Ap rfl ?_;unfold Ct;right;refine ht.use 6 p0 λg S1 z0 z1 p1=>?_;obtain ⟨N1,N2,N3,N4,N5⟩:=Xi h1;obtain ⟨d,ed,a,b,rfl,q1,q2,q3⟩:=Et (xs:=[D.tup [.int lo,.int (hi + 1)],D.tup [.int lo,.int (hi - 1)],D.tup [.int (lo - 1),.int hi],D.tup [.int (lo + 1),.int hi],D.tup [.int lo,.int (hi + 255)],D.tup [.int lo,.int lo]]) z0 (by simpa using z1) (p:=λd=>∃a b:Int,d = .tup [.int a,.int b]/\-(B + 255)<=a/\-(B + 255)<=b/\b<=B + 255) (by
  simp only [ud9];exact ⟨⟨_,_,rfl,N1.1,N3⟩,⟨_,_,rfl,N1.1,N4⟩,⟨_,_,rfl,N1.2.1,N2⟩,⟨_,_,rfl,N1.2.2.1,N2⟩,⟨_,_,rfl,N1.1,N5⟩,⟨_,_,rfl,N1.1,N1.1,N1.2.2.2⟩,λ_ z=>nomatch z⟩)
 refine Dq ed ?_;right;exact ⟨⟨.number (if b < a then b else a) b,by rw [Sh.d],by simp [Sh.depth],Wm q1 q2 q3⟩,p1⟩
def FI (f:Fn)(m:Nat):Prop:=∀(s:Sh) (k r:Nat) (B:Int) (S:List Ob),s.depth<=m->wfB B s=true->B0<=B->Room k (r + 60 * m) S->Wf f [.obj k,s.d] S λv S'=>Vary k r B s.depth v S'
theorem Rh (h:0<=i)(h1:i < 2):i=0\/i=1:=by lia
theorem NV (h:B0<=B):B0<=B + 255:=by lia
theorem Kv:B<=B + 255:=by lia
theorem HS {l:List α}{x:α}(h:a < l.length):(l.take a++[x]++l.drop (a + 1)).length=l.length:=by
 rw [uf6,uf6,uh5,uh6];simp only [ui4,uk5];lia
theorem Qq {l:List α}{x:α}{p:α->Prop}{c d:Nat}(h:∀y∈l,p y)(hx:p x):∀y∈l.take c++[x]++l.drop d,p y:=λy hy=>by
 rcases uj1.mp hy with h' | h'
 ·exact DK (λz hz=>h z (List.mem_of_mem_take hz)) hx y h'
 ·exact h y (List.mem_of_mem_drop h')
theorem Km {g:Int}:0<=(if (if q + g - 2 < 250 then q + g - 2 else 250) > 0 then (if q + g - 2 < 250 then q + g - 2 else 250) else 0)/\(if (if q + g - 2 < 250 then q + g - 2 else 250) > 0 then (if q + g - 2 < 250 then q + g - 2 else 250) else 0)<=250:=by (repeat' split) <;> lia
variable {x:D}
theorem HR:Bp (xs++[x]) none (some (-1))=xs:=by
 have e:HT.sIx (xs++[x]).length (xs++[x]).length (some (-1))=xs.length:=by
  simp only [HT.sIx];rw [if_pos (by decide),uf6];simp only [ui4,uk5];lia
 have e0:HT.sIx (xs++[x]).length 0 none=0:=rfl;unfold Bp;rw [e,e0,Nat.sub_zero,ul1,List.take_left'];rfl
def NZ (f:Fn)(m:Nat):Prop:=∀(ss:List Sh) (k r:Nat) (B:Int) (S:List Ob),(∀x∈ss,x.depth<=m/\wfB B x=true)->1<=ss.length->ss.length<=9->B0<=B->Room k (r + 60 * m + 30) S->Wf f [.obj k,.tup (shD ss)] S λv S'=>Vary k r B (AG ss + 1) v S'
theorem FD {dp:Nat}{S':List Ob}(h1:1<=rs.length)(h2:rs.length<=9)(h:∀x∈rs,x.depth<=dp/\wfB (B + 255) x=true)(p:Room k r S'){ds:List D}(e:ds=rs.map Sh.d):Vary k r B (dp + 1) (.tup [.str "choice",.tup ds]) S':=
 ⟨⟨.choice rs,by rw [Sh.d,BZ,e],Jp λx hx=>(h x hx).1,F0 h1 h2 λx hx=>(h x hx).2⟩,p⟩
variable {cv:Fn}
theorem Tt (hv:FI cv m)(ht:PTakeOk ct)(hl:PLeafOk cl):NZ (fnOf 2 5 (Cs cv ct cl)) m:=by
 intro ss k r B S hw h1 h9 hB0 p0;have hm1:=J7 h1;have hall:∀x∈ss,x.depth<=AG ss/\wfB (B + 255) x=true:=λx hx=>⟨AN hx,A1 Kv (AG ss) x (AN hx) (hw x hx).2⟩;refine Ap rfl ?_;unfold Cs;right;refine ht.use (r:=r + 60 * m + 29) 4 p0 λw S1 w0 w1 p1=>?_;have last:∀(a:Nat) (e4:Option Sl) (S5:List Ob),a < ss.length->Room k (r + 60 * m) S5->W (Ak (As (Aa (fC (.str "choice")) (Aa (Ac (Ac (fSl (Ab 1) fNo (B2 (Ab 3)) BR) (As (Aa (Ae cv (Aa (Ab 0) (Aa (Ac (Ab 1) (Ab 3) ixD) Ad))) Ad)) Ar) (fSl (Ab 1) (B2 (Ac (Ab 3) (fC (.int 1)) Ar)) fNo BR) Ar) Ad)))) ⟨[some (.val (.obj k)),some (.val (.tup (shD ss))),some (.val (.int w)),some (.val (.int a)),e4],S5⟩ λo t=>match o with
  | .ret v=>Vary k r B (AG ss + 1) v t.S
  | .next=>Vary k r B (AG ss + 1) .non t.S
  | _=>False:=by
  intro a e4 S5 ha p5;have hx:=ui3 ha;right;rw [Gd (uf3 a) (by rw [AJ];exact uo1.mpr (um6 ha)),uh0];right;refine DE (Ey ha) ?_;right;refine (hv ss[a] k r B S5 (hw _ hx).1 (hw _ hx).2 hB0 p5).mono λv S6 z9=>?_;obtain ⟨⟨r',e,g1,g2⟩,p6⟩:=z9;subst e;right;refine EE (Cb (n:=10) (ui5 (um5 (List.length_take_le' _ _) (by rw [AJ];exact h9)))) ?_;right;rw [show (a:Int) + 1=((a + 1:Nat):Int) from rfl,Gc (uf3 _) (by rw [AJ];exact uo1.mpr ha),uh0];refine EE (Cb (n:=9) (by rw [<-uf6,HS (by rw [AJ];exact ha),AJ];exact h9)) ?_;right;refine FD (rs:=ss.take a++[r']++ss.drop (a + 1)) (by rw [HS ha];exact h1) (by rw [HS ha];exact h9) (Qq hall ⟨um5 g1 (AN hx),g2⟩) p6 ?_
  ·rw [BZ,uk4,uk4,List.map_take,List.map_drop];rfl
 have loop:∀(S3:List Ob),Room k (r + 60 * m + 1) S3->W (Ah (Av 3 (Ae ct (Aa (Ab 0) (Aa (fB (Aa (Ab 1) Ad) AK) Ad))))
 (Ah (BG (A3 (Aa (fB (Aa (Ab 1) Ad) AK) Ad)) (Aw 4)
   (ifS (Dn (Aj (Ac (Ab 2) (fC (.int 2)) (eqS id))) (Aj (Ac (Ac (Ac (Ab 1) (Ab 4) ixD) (fC (.int 0)) ixD) (Aq (AI (Aa (fC (.str "list")) (Aa (fC (.str "pair")) (Aa (fC (.str "choice")) Ad))))) (inD false))))
   (Av 3 (Ab 4))
   An))
 (Ak (As (Aa (fC (.str "choice")) (Aa (Ac (Ac (fSl (Ab 1) fNo (B2 (Ab 3)) BR) (As (Aa (Ae cv (Aa (Ab 0) (Aa (Ac (Ab 1) (Ab 3) ixD) Ad))) Ad)) Ar) (fSl (Ab 1) (B2 (Ac (Ab 3) (fC (.int 1)) Ar)) fNo BR) Ar) Ad)))))) ⟨[some (.val (.obj k)),some (.val (.tup (shD ss))),some (.val (.int w)),none,none],S3⟩ λo t=>match o with
   | .ret v=>Vary k r B (AG ss + 1) v t.S
   | .next=>Vary k r B (AG ss + 1) .non t.S
   | _=>False:=by
   intro S3 p3;right;rw [AJ];refine ht.use (ss.length:Int) p3 (λa S5 a0 a1 p5=>?_) rfl (un9.mpr h1) (Int.lt_of_le_of_lt (uo1.mpr h9) (by decide));obtain ⟨a,rfl⟩:=ub6 a0;right;rw [AJ];refine Cm (Dc h9) ?_;refine B1 (λq t=>∃(j a:Nat) (e4:Option Sl),a < ss.length/\q=(AX 0 ((ss.length:Nat):Int).toNat).drop j/\t=⟨[some (.val (.obj k)),some (.val (.tup (shD ss))),some (.val (.int w)),some (.val (.int a)),e4],S5⟩) _ _ ⟨0,a,none,un9.mp a1,rfl,rfl⟩ ?_ ?_
   ·rintro d q t ⟨j,b,e4,hb,hr,rfl⟩ _;obtain ⟨rfl,hr',hjn⟩:=LQ hr;rw [uh0] at hjn;rw [un7];right;refine AV (λz=>?_) λz=>?_
    ·right;refine DE (Ey hjn) ?_;obtain ⟨es,ee⟩:=GK ss[j];rw [ee];right;refine YJ ⟨rfl,rfl⟩ ?_;right;refine AV (λy=>?_) λy=>?_
     ·right;exact ⟨j + 1,j,_,hjn,hr',rfl⟩
     ·right;exact ⟨j + 1,b,_,hb,hr',rfl⟩
    ·right;exact ⟨j + 1,b,_,hb,hr',rfl⟩
   ·rintro t ⟨j,b,e4,hb,hr,rfl⟩;refine Cc ?_;exact last b e4 S5 hb p5
 have ends:W (Ah (ifS (Dn (Aj (Ac (Ab 2) (fC (.int 1)) (eqS id))) (Aj (Ac (fB (Aa (Ab 1) Ad) AK) (fC (.int 9)) ltA)))
  (Ak (As (Aa (fC (.str "choice")) (Aa (Ac (Ab 1) (As (Aa (Ae cl (Aa (Ab 0) Ad)) Ad)) Ar) Ad))))
  An)
 (Ah (Av 3 (Ae ct (Aa (Ab 0) (Aa (fB (Aa (Ab 1) Ad) AK) Ad))))
 (Ah (BG (A3 (Aa (fB (Aa (Ab 1) Ad) AK) Ad)) (Aw 4)
   (ifS (Dn (Aj (Ac (Ab 2) (fC (.int 2)) (eqS id))) (Aj (Ac (Ac (Ac (Ab 1) (Ab 4) ixD) (fC (.int 0)) ixD) (Aq (AI (Aa (fC (.str "list")) (Aa (fC (.str "pair")) (Aa (fC (.str "choice")) Ad))))) (inD false))))
   (Av 3 (Ab 4))
   An))
 (Ak (As (Aa (fC (.str "choice")) (Aa (Ac (Ac (fSl (Ab 1) fNo (B2 (Ab 3)) BR) (As (Aa (Ae cv (Aa (Ab 0) (Aa (Ac (Ab 1) (Ab 3) ixD) Ad))) Ad)) Ar) (fSl (Ab 1) (B2 (Ac (Ab 3) (fC (.int 1)) Ar)) fNo BR) Ar) Ad))))))) ⟨[some (.val (.obj k)),some (.val (.tup (shD ss))),some (.val (.int w)),none,none],S1⟩ λo t=>match o with
   | .ret v=>Vary k r B (AG ss + 1) v t.S
   | .next=>Vary k r B (AG ss + 1) .non t.S
   | _=>False:=by
   right;refine AV (λz=>?_) λz=>?_
   ·right;rw [AJ];refine AV (λy=>?_) λy=>?_
    ·have y':ss.length < 9:=by have:=uh3 y;lia
     right;refine hl.use (r:=r + 60 * m + 9) p1 λl S2 l1 l2 p2=>?_;right;refine EE (Cb (n:=10) (by rw [AJ];exact ui5 h9)) ?_;right;have el:(ss++[l]).length=ss.length + 1:=by rw [uf6];rfl
     refine FD (rs:=ss++[l]) (by rw [el];exact ui5 (uo5 _)) (by rw [el];exact y') (DK hall ⟨um5 l1 hm1,A1 (NV hB0) 1 l l1 l2⟩) p2.drop.drop ?_
     ·rw [BZ,uk4];rfl
    ·refine HA ?_;refine Cc ?_;exact loop S1 (p1.drop (r:=r + 60 * m + 1) (m:=28))
   ·refine HA ?_;refine Cc ?_;exact loop S1 (p1.drop (r:=r + 60 * m + 1) (m:=28))
 right;refine AV (λz=>?_) λz=>?_
 ·right;rw [AJ];refine AV (λy=>?_) λy=>?_
  ·have y':1 < ss.length:=by have:=uh3 y;lia
   right;obtain ⟨xs,x,rfl⟩:∃xs x,ss=xs++[x]:=⟨ss.dropLast,ss.getLast (by intro e;rw [e] at h1;simp at h1),(List.dropLast_concat_getLast _).symm⟩;rw [BZ,uk4,show (xs.map Sh.d++[x].map Sh.d)=xs.map Sh.d++[x.d] from rfl,HR];rw [uf6] at y' h9;simp only [ui4,uk5] at y' h9;exact FD (rs:=xs) (Nat.le_of_lt_succ y') (Nat.le_of_succ_le h9) (λy hy=>hall y (ud5 _ hy)) p1.drop.drop rfl
  ·refine HA ?_;refine Cc ?_;exact ends
 ·refine HA ?_;refine Cc ?_;exact ends
theorem Ts (ht:PTakeOk ct)(hv:m=0\/FI cv m)(hc:NZ cc m)(hn:Je cn)(hl:PLeafOk cl):FI (fnOf 2 3 (Eb ct cv cc cn cl)) (m + 1):=by
 intro s k r B S hd hw hB0 p0;have rec_:∀{s':Sh} {r':Nat} {S':List Ob} {P:D->List Ob->Prop},s'.depth<=m->wfB B s'=true->Room k (r' + 60 * m) S'->(∀v S'',v.depth<=s'.depth->wfB (B + 255) v=true->Room k r' S''->P v.d S'')->Wf cv [.obj k,s'.d] S' P:=λ{s' r' S' P} h1 h2 q p=>by
  rcases hv with rfl | hv
  ·exact absurd (uf0 s'.depth_pos h1) (uk3 _)
  ·exact (hv s' k r' B S' h1 h2 hB0 q).mono λv S'' ⟨⟨r',e,g1,g2⟩,q⟩=>by subst e;exact p r' S'' g1 g2 q
 have sp:=s.depth_pos;replace p0:=p0.loop;have leaf:∀{S':List Ob},Room k (r + 60 * m + 59) S'->Wf cl [.obj k] S' λv S''=>Vary k r B s.depth v S'':=λ{S'} q=>hl.use (r:=r + 60 * m + 39) q λl S'' l1 l2 p=>⟨⟨l,rfl,um5 l1 sp,A1 (NV hB0) 1 l l1 l2⟩,p.drop.drop⟩;refine Ap rfl ?_;unfold Eb
 cases s with
 | nothing=>
   rw [Sh.d];right;exact leaf (p0.drop (r:=r + 60 * m + 59) (m:=1))
 | number lo hi=>
   replace hw:=Wy hw;rw [Sh.d];right;refine ht.use (r:=r + 60 * m + 59) 8 p0 λg S1 z0 z1 p1=>?_;right;refine AV (λz=>?_) λz=>?_
   ·right;exact leaf p1
   right;exact (hn lo hi k (r + 60 * m + 58) B S1 hw p1).mono λv S2 ⟨⟨r',e,g1,g2⟩,p2⟩=>⟨⟨r',e,um5 g1 sp,g2⟩,p2.drop.drop⟩
 | text q=>
   rw [Sh.d];right;refine ht.use (r:=r + 60 * m + 59) 8 p0 λg S1 z0 z1 p1=>?_;right;refine AV (λz=>?_) λz=>?_
   ·right;exact leaf p1
   right;refine ht.use (r:=r + 60 * m + 58) 5 p1 λg2 S2 y0 y1 p2=>?_;right;rw [show Bp [D.str "text",D.int q] none (some (-1))=[D.str "text"] from HR (xs:=[D.str "text"])];right;refine ⟨⟨.text (if (if q + g2 - 2 < 250 then q + g2 - 2 else 250) > 0 then (if q + g2 - 2 < 250 then q + g2 - 2 else 250) else 0),by rw [Sh.d];rfl,by simp [Sh.depth],Io Km.1 Km.2⟩,p2.drop.drop⟩
 | list s q=>
   have hw':=Wx hw;rw [Sh.d];right;refine ht.use (r:=r + 60 * m + 59) 8 p0 λg S1 z0 z1 p1=>?_;right;refine AV (λz=>?_) λz=>?_
   ·right;exact leaf p1
   right;refine ht.use (r:=r + 60 * m + 58) 3 p1 λg3 S3 x0 x1 p3=>?_;right;refine AV (λy=>?_) λy=>?_
   ·right;refine rec_ (P2 hd) hw'.2.2 p3.drop λr' S4 g1 g2 p4=>?_;right;exact ⟨⟨.list r' q,by rw [Sh.d],PZ g1,DF hw'.1 hw'.2.1 g2⟩,p4⟩
   ·right;refine ht.use (r:=r + 60 * m + 57) 5 p3 λg2 S2 y0 y1 p2=>?_;right;rw [show Bp [D.str "list",s.d,D.int q] none (some (-1))=[D.str "list",s.d] from HR (xs:=[D.str "list",s.d])];right;refine ⟨⟨.list s (if (if q + g2 - 2 < 250 then q + g2 - 2 else 250) > 0 then (if q + g2 - 2 < 250 then q + g2 - 2 else 250) else 0),by rw [Sh.d];rfl,uo3 _,DF Km.1 Km.2 (A1 Kv s.depth s (uo3 _) hw'.2.2)⟩,p2.drop.drop⟩
 | pair a b=>
   have DD:=M8 hd;replace hw:=Wz hw;rw [Sh.d];right;refine ht.use (r:=r + 60 * m + 59) 8 p0 λg S1 z0 z1 p1=>?_;right;refine AV (λz=>?_) λz=>?_
   ·right;exact leaf p1
   right;refine ht.use (r:=r + 60 * m + 58) 2 p1 λi S2 i0 i1 p2=>?_;have hi:=Rh i0 i1;rcases hi with rfl | rfl
   ·right;refine rec_ DD.1 hw.1 p2.drop λr' S4 g1 g2 p4=>?_;right;rw [show Bp [D.str "pair",a.d,b.d] none (some (1 + 0))=[D.str "pair"] from by rw [Gd (by decide) (by simp)];rfl];right;rw [show Bp [D.str "pair",a.d,b.d] (some (1 + 0 + 1)) none=[b.d] from by rw [Gc (by decide) (by simp)];rfl];refine EE (Cb (n:=3) (by simp)) ?_;right;exact ⟨⟨.pair r' b,by rw [Sh.d];rfl,P0 g1 (uo3 _),CK g2 (A1 Kv b.depth b (uo3 _) hw.2)⟩,p4⟩
   ·right;refine rec_ DD.2 hw.2 p2.drop λr' S4 g1 g2 p4=>?_;right;rw [show Bp [D.str "pair",a.d,b.d] none (some (1 + 1))=[D.str "pair",a.d] from by rw [Gd (by decide) (by simp)];rfl];right;rw [show Bp [D.str "pair",a.d,b.d] (some (1 + 1 + 1)) none=[] from by rw [Gc (by decide) (by simp)];rfl];refine EE (Cb (n:=3) (by simp)) ?_;right;exact ⟨⟨.pair a r',by rw [Sh.d];rfl,P0 (uo3 _) g1,CK (A1 Kv a.depth a (uo3 _) hw.1) g2⟩,p4⟩
 | choice ss=>
   have hd':=P1 hd;obtain ⟨w0,w1,w2⟩:=Ww hw;rw [Sh.d];right;refine ht.use (r:=r + 60 * m + 59) 8 p0 λg S1 z0 z1 p1=>?_;right;refine AV (λz=>?_) λz=>?_
   ·right;exact leaf p1
   right;exact (hc ss k r B S1 (λx hx=>⟨hd' x hx,w2 x hx⟩) w0 w1 hB0 (p1.drop (r:=r + 60 * m + 30) (m:=29))).mono λv S2 ⟨⟨r',e,g1,g2⟩,p2⟩=>⟨⟨r',e,by rw [Sh.depth];exact g1,g2⟩,p2⟩
def sg20:Str:=" abzAZ019~\"-,;:()[]#"
theorem T2 (h0:0<=i)(h1:i < 20):∃c,atI sg20.cps.toList i=some c/\Bw c=true:=by
 have hl:sg20.cps.toList.length=20:=by decide +kernel
 have ha:sg20.cps.toList.all Bw=true:=by decide +kernel
 have hi:i.toNat < sg20.cps.toList.length:=by lia
 refine ⟨sg20.cps.toList[i.toNat],?_,ui1.mp ha _ (ui3 hi)⟩;unfold atI;rw [EB h0 (by lia)];show sg20.cps.toList[i.toNat]?=_;rw [ub2 hi]
noncomputable def vB:Nat->Nat
 | 0=>10
 | m + 1=>10 + vB m * 2
theorem Room.vA (h:Room k (r + vB (m + 1)) S):Room k (r + 10) S:=h.mono (by rw [vB];lia)
theorem Room.vL (h:Room k (r + vB (m + 1)) S):Room k (r + vB m * 2 + 1) S:=h.mono (by rw [vB];lia)
theorem Room.vP (h:Room k (r + vB (m + 1)) S):Room k (r + vB m + vB m) S:=h.mono (by rw [vB];lia)
theorem Room.vC (h:Room k (r + vB (m + 1)) S):Room k (r + vB m + 1) S:=h.mono (by rw [vB];lia)
theorem RN (h:n<=10):n<=vB (m + 1):=by rw [vB];lia
theorem Yx (h:n<=vB m * 2):n + 1<=vB (m + 1):=by rw [vB];lia
theorem Yy {p:Nat}(h:n<=vB m)(h2:p<=vB m):n + p<=vB (m + 1):=by rw [vB];lia
theorem Yw (h:n<=vB m):n + 1<=vB (m + 1):=by rw [vB];lia
theorem Sf {A v b c:Nat}(h:A + b * (l + 1)<=c)(hv:v<=b):A + v + b * l<=c:=by rw [Nat.mul_succ] at h;lia
theorem IR (h:wf (.number lo hi)=true):lo<=hi/\0 < hi - lo + 1/\hi - lo + 1 < 4611686018427387904/\wid (hi - lo).toNat<=8:=by
 simp only [wf,uh7,uh2] at h;refine ⟨by lia,by lia,by lia,F3 8 _ ?_⟩;have:(256:Nat) ^ 8=18446744073709551616:=by decide
 lia
theorem SM {g:Int}(z0:0<=g)(z1:g < hi - lo + 1):lo<=lo + g/\lo + g<=hi:=by lia
theorem Rw {g:Int}(c:Nat)(g0:0<=g)(q0:0<=q)(g1:g < (c:Int) + 1):∃m:Nat,(if g < q then g else q)=m/\m<=c/\(m:Int)<=q:=⟨(if g < q then g else q).toNat,by split <;> lia⟩
structure Val (k r:Nat)(s:Sh)(c:Nat)(v:D)(S':List Ob):Prop where
 fit:Af s v=true
 len:(Ao s v).length<=c
 pool:Room k r S'
def Ir (f:Fn)(m:Nat):Prop:=∀(s:Sh) (k r:Nat) (S:List Ob),s.depth<=m->wf s=true->Room k (r + vB m) S->Wf f [.obj k,s.d] S λv S'=>Val k r s (vB m) v S'
theorem Tq (ht:PTakeOk ct)(hv:m=0\/Ir cv m):Ir (fnOf 2 4 (DB cv ct)) (m + 1):=by
 intro s k r S hd hw p0;have rec_:∀{s':Sh} {r':Nat} {S':List Ob} {P:D->List Ob->Prop},s'.depth<=m->wf s'=true->Room k (r' + vB m) S'->(∀v S'',Af s' v=true->(Ao s' v).length<=vB m->Room k r' S''->P v S'')->Wf cv [.obj k,s'.d] S' P:=λ{s' r' S' P} h1 h2 q p=>by
  rcases hv with rfl | hv
  ·exact absurd (uf0 s'.depth_pos h1) (uk3 _)
  ·exact (hv s' k r' S' h1 h2 q).mono λv S'' ⟨g1,g2,g3⟩=>p v S'' g1 g2 g3
 refine Ap rfl ?_;unfold DB
 cases s with
 | nothing=>
   rw [Sh.d];right;exact ⟨by rw [Af];rfl,by rw [Ao];exact uo5 _,p0.drop⟩
 | number lo hi=>
   obtain ⟨w0,w1,w2,w3⟩:=IR hw;rw [Sh.d];right;refine ht.use (r:=r + 9) (hi - lo + 1) p0.vA (λg S1 z0 z1 p1=>?_) rfl w1 w2;right;refine ht.use (r:=r + 8) 3 p1 λi S2 i0 i1 p2=>?_;obtain ⟨d,ed,q,rfl,q0,q1⟩:=Et (xs:=[D.int lo,D.int hi,D.int (lo + g)]) i0 (by simpa using i1) (p:=λd=>∃m:Int,d = .int m/\lo<=m/\m<=hi) (by
    simp only [ud9];exact ⟨⟨_,rfl,Int.le_refl _,w0⟩,⟨_,rfl,w0,Int.le_refl _⟩,⟨_,rfl,SM z0 z1⟩,λ_ z=>nomatch z⟩)
   refine Dq ed ?_;exact ⟨by simp only [Af,uh7,uh2];exact ⟨q0,q1⟩,by rw [Ao,Ds];exact RN (um5 w3 (by decide)),p2.drop⟩
 | text q=>
   simp only [wf,uh7,uh2] at hw;rw [Sh.d];right;refine Xs ?_;right;refine ht.use (r:=r + 9) 4 p0.vA λg S1 z0 z1 p1=>?_;right;obtain ⟨n,en,n3,nq⟩:=Rw 3 z0 hw.1 z1;rw [en];refine Cm (Dc n3) ?_;refine (CY (P:=λxs t'=>∃ns:List Nat,xs=ns.map (λn=>D.str ⟨#[n]⟩)/\ns.all Bw=true/\ns.length=n/\Room k r t'.S) (λacc q t=>∃(ns:List Nat) (S':List Ob) (z:Option Sl),acc=ns.map (λn=>D.str ⟨#[n]⟩)/\ns.all Bw=true/\ns.length + q.length=n/\Room k (r + 1 * q.length) S'/\t=⟨[z,some (.val (.str sg20)),some (.val (.obj k))],S'⟩) _ [] _ ⟨[],S1,_,rfl,rfl,by simp [AX],p1.mono (by rw [AO,uh0];exact ue7 (um5 (ue8 1 n3) (by decide)) _),rfl⟩ ?_ ?_).mono ?_
   ·rintro acc d q t ⟨ns,S',z,rfl,h1,h2,h3,rfl⟩ _;rw [ui4] at h2 h3;refine E9 (FE ?_);rw [if_pos rfl];right;refine ht.use 20 h3.loop λi S5 i0 i1 p5=>?_;obtain ⟨c,ec,hc⟩:=T2 i0 i1;refine W_ix_str.mpr ⟨by decide +kernel,c,ec,?_⟩;refine ⟨ns++[c],S5,_,by rw [uk4];rfl,by simp [List.all_append,h1,hc],EN h2,p5,rfl⟩
   ·rintro acc t ⟨ns,S',z,rfl,h1,h2,h3,rfl⟩;exact ⟨ns,rfl,h1,h2,h3.drop⟩
   ·rintro xs t' ⟨ns,e,h1,h2,h3⟩;rw [uj9] at e;subst e h2;refine AC (Cb (n:=3) (by rw [uj7];exact n3)) ?_;right;refine ⟨_,_,_,rfl,rfl,G7 ns,⟨by decide +kernel,by rw [uj7];clear p0 p1;lia⟩,?_⟩;refine LU ?_;refine ⟨?_,?_,h3⟩
    ·rw [Af];simp only [uh7,uh2];rw [GV,IN];exact ⟨nq,h1⟩
    ·rw [Ao,ui4,uj7,IN];exact RN (um5 (ui5 n3) (by decide))
 | list s q=>
   simp only [wf,uh7,uh2] at hw;rw [Sh.d];right;refine ht.use 3 p0.vL λg S1 z0 z1 p1=>?_;right;obtain ⟨n,en,n2,nq⟩:=Rw 2 z0 hw.1.1 z1;rw [en];have nb2:vB m * n<=vB m * 2:=ue8 _ n2;refine Cm (Dc n2) ?_;refine (CY (P:=λxs t'=>(∀x∈xs,Af s x=true)/\xs.length=n/\((xs.map λd=>Ao s d).flatten).length<=vB m * 2/\Room k r t'.S) (λacc l t=>∃(S':List Ob) (z:Option Sl),(∀x∈acc,Af s x=true)/\acc.length + l.length=n/\((acc.map λd=>Ao s d).flatten).length + vB m * l.length<=vB m * 2/\Room k (r + vB m * l.length) S'/\t=⟨[z,some (.val (.obj k)),some (.val (.tup [.str "list",s.d,.int q]))],S'⟩) _ [] _ ⟨S1,_,by simp,by simp [AX],by rw [AO,uh0];exact um5 (un1 (uo2 _)) nb2,p1.mono (by rw [AO,uh0];exact ue7 nb2 _),rfl⟩ ?_ ?_).mono ?_
   ·rintro acc d l t ⟨S',z,h1,h2,h3,h4,rfl⟩ _;rw [ui4] at h2 h3 h4;refine E9 (FE ?_);rw [if_pos rfl];right;refine rec_ (P2 hd) hw.2 h4.loop λv S5 f1 f2 p5=>?_;refine ⟨S5,_,DK h1 f1,EN h2,?_,p5,rfl⟩;rw [uk4,List.flatten_append,uf6];simp only [ul6,um8,ug4,List.flatten_nil,uj4];exact Sf h3 f2
   ·rintro acc t ⟨S',z,h1,h2,h3,h4,rfl⟩;exact ⟨h1,h2,h3,h4.drop⟩
   ·rintro xs t' ⟨h1,h2,h3,h4⟩;rw [uj9] at h1 h2 h3;subst h2;refine AC (Cb (n:=2) n2) ?_;refine ⟨?_,by rw [Ao,ui4];exact Yx h3,h4⟩;rw [Af,uh7,uh2,ui1];exact ⟨nq,h1⟩
 | pair a b=>
   simp only [wf,uh7] at hw;rw [Sh.d];right;refine rec_ (M8 hd).1 hw.1 p0.vP λv S1 f1 f2 p1=>?_;right;refine rec_ (M8 hd).2 hw.2 p1 λu S2 g1 g2 p2=>?_;right;exact ⟨by simp only [Af,f1,g1,Bool.and_self],by rw [Ao,uf6];exact Yy f2 g2,p2⟩
 | choice ss=>
   simp only [wf,uh7,uh2] at hw;rw [Sh.d];right;rw [AJ];refine ht.use (ss.length:Int) p0.vC (λi S1 i0 i1 p1=>?_) rfl (by clear p0;lia) (by clear p0;lia);obtain ⟨j,rfl⟩:=ub6 i0;have hj:j < ss.length:=un9.mp i1;have e1:ss[j]?=some ss[j]:=ub2 hj;right;refine DE (Ey hj) ?_;right;refine rec_ (P1 hd _ (ui3 hj)) (BB hw.2 _ (ui3 hj)) p1 λv S2 f1 f2 p2=>?_;right;have hof:Gn (Str.ofString "of")=true:=by decide +kernel
   refine ⟨?_,?_,p2⟩
   ·simp only [Af,uh7,uh2];exact ⟨⟨hof,i0,i1⟩,by rw [uh0,Bu ss _ _ _ e1];exact f1⟩
   ·rw [Ao,uh0,Bg ss _ _ _ e1,ui4];exact Yw f2
variable {c2:Fn}
theorem Ws {c1:Fn}{fi:M D}{fa:M (List D)}(h:W fi t λi t1=>(i = .int 0/\W (Ae c1 fa) t1 P)\/(i = .int 1/\W (Ae c2 fa) t1 P)):W (GN c1 c2 fi fa) t P:=by
 refine W_bnd.mpr (h.mono λi t1 q=>?_);rcases q with ⟨rfl,q⟩ | ⟨rfl,q⟩
 ·exact q
 ·exact q
theorem J3:∀w n,∀x∈nb w n,∃i:Int,x = .int i
 | 0,n=>λx h=>by simp [nb] at h
 | w + 1,n=>λx h=>by
   rw [nb] at h;rcases uj1.mp h with h | h
   ·exact J3 w _ x h
   ·rw [uf8] at h;exact ⟨_,h⟩
theorem BS:∀(n:Nat) (s:Sh),s.depth<=n->∀d,Af s d=true->∀x∈Ao s d,∃i:Int,x = .int i
 | 0,s,h,_,_=>absurd s.depth_pos (by lia)
 | n + 1,s,hs,d,hf=>by
   intro x hx
   cases s with
   | nothing=>simp [Ao] at hx
   | number lo hi=>cases d <;> simp only [Ao,ui2] at hx;exact J3 _ _ x hx
   | text q=>
     cases d <;> simp only [Ao,ui2] at hx
     rcases ul5.mp hx with h | h
     ·exact ⟨_,h⟩
     ·obtain ⟨k,_,e⟩:=un4.mp h;exact ⟨_,e.symm⟩
   | list s q=>
     rw [Sh.depth] at hs
     cases d <;> simp only [Af,uf7] at hf
     simp only [uh7,ui1] at hf;rw [Ao] at hx;rcases ul5.mp hx with h | h
     ·exact ⟨_,h⟩
     ·obtain ⟨l,hl,hx⟩:=List.mem_flatten.mp h;obtain ⟨d',hd',rfl⟩:=un4.mp hl;exact BS n s (by lia) d' (hf.2 d' hd') x hx
   | pair s r=>
     rw [Sh.depth] at hs;unfold Af at hf
     split at hf
     ·rw [uh7] at hf;rw [Ao] at hx;rcases uj1.mp hx with h | h
      ·exact BS n s (by lia) _ hf.1 x h
      ·exact BS n r (by lia) _ hf.2 x h
     ·cases hf
   | choice ss=>
     rw [Sh.depth] at hs;unfold Af at hf
     split at hf
     ·next o k y=>
      simp only [uh7,uh2] at hf;have hk:k.toNat < ss.length:=by lia
      have e1:ss[k.toNat]?=some ss[k.toNat]:=ub2 hk;have h2:=hf.2;rw [Bu ss _ _ _ e1] at h2;rw [Ao,Bg ss _ _ _ e1] at hx;rcases ul5.mp hx with h | h
      ·exact ⟨_,h⟩
      ·exact BS n _ (um5 (Cv ss _ _ e1) (by lia)) _ h2 x h
     ·cases hf
theorem m20 (n:Nat):∃m:Nat,(if (if (n:Int) < 20 then (n:Int) else 20) > 1 then (if (n:Int) < 20 then (n:Int) else 20) else 1)=m/\m<=20:=⟨(if (if (n:Int) < 20 then (n:Int) else 20) > 1 then (if (n:Int) < 20 then (n:Int) else 20) else 1).toNat,by (repeat' split) <;> lia⟩
theorem Uf {i:Nat}(e:t.env[i]?=some (some (.own xs)))(h:P (.int xs.length) t):W (EA i) t P:=⟨_,_,by unfold EA;rw [e],h⟩
theorem Qg (h:a < m):ixN m (a:Int)=some a:=by
 have e:=EB (n:=m) (uf3 a) (un9.mpr h);rw [uh0] at e;exact e
def B3:Int:=B0 + 765
def Two (v:D):Prop:=∃s t:Sh,v = .tup [s.d,t.d]/\(s.depth<=6/\wfB B3 s=true)/\(t.depth<=6/\wfB B3 t=true)
def KC (f:Fn):Prop:=∀(k r:Nat) (S:List Ob),Room k (r + 8000) S->Wf f [.obj k] S λv S'=>Two v/\Room k r S'
theorem Rj (h:j<=3):B0 + 255 * (j:Int)<=B3:=by unfold B3;lia
theorem Uq:B0<=B0 + 255 * (j:Int):=by lia
theorem Kw:B0 + 255 * ((j + 1:Nat):Int)=B0 + 255 * (j:Int) + 255:=by lia
theorem OJ (h:j + (l + 1)=n):j + 1 + l=n:=by lia
theorem two_pick {x:Sh}(hs:s.depth<=6/\wfB B3 s=true)(hx:x.depth<=6/\wfB B3 x=true):∀d∈[D.tup [s.d,x.d],D.tup [x.d,s.d]],Two d:=by
 simp only [ud9];exact ⟨⟨s,x,rfl,hs,hx⟩,⟨x,s,rfl,hx,hs⟩,λ_ z=>nomatch z⟩
theorem To (ht:PTakeOk ct)(hs:KA cs)(hv:FI cv 6):KC (fnOf 1 4 (Fs ct cs cv)):=by
 intro k r S p0;refine Ap rfl ?_;unfold Fs;right;refine (hs k (r + 5000) S p0).mono λv S1 z9=>?_;obtain ⟨⟨s,e,sd,sw⟩,p1⟩:=z9;subst e;have s3:=A1 (C:=B3) (by decide) 6 s sd sw;right;refine ht.use (r:=r + 4999) 4 p1 λi S2 i0 i1 p2=>?_;right;obtain ⟨n,rfl⟩:=ub6 i0;have n3:n<=3:=Nat.le_of_lt_succ (un9.mp i1);refine Cm (Dc n3) ?_;refine B1 (λq t=>∃(x:Sh) (j:Nat) (S':List Ob) (e3:Option Sl),j + q.length=n/\x.depth<=6/\wfB (B0 + 255 * (j:Int)) x=true/\Room k (r + 3500 + 360 * q.length) S'/\t=⟨[some (.val (.obj k)),some (.val s.d),some (.val x.d),e3],S'⟩) _ _ ⟨s,0,S2,none,by rw [AO,uh0,uo2],sd,sw,p2.mono (by rw [AO,uh0,um0];exact ue7 (um5 (ue7 (ue8 _ n3) _) (by decide)) _),rfl⟩ ?_ ?_
 ·rintro d q t ⟨x,j,S',e3,hj,xd,xw,p,rfl⟩ _;rw [ui4] at hj p;right;refine (hv x k (r + 3500 + 360 * q.length) (B0 + 255 * (j:Int)) S' xd xw Uq p.loop).mono λv S'' z9=>?_;obtain ⟨⟨y,e,yd,yw⟩,p'⟩:=z9;subst e;exact ⟨y,j + 1,S'',_,OJ hj,um5 yd xd,by rw [Kw];exact yw,p',rfl⟩
 ·rintro t ⟨x,j,S',e3,hj,xd,xw,p,rfl⟩;replace hj:j=n:=hj;subst hj;have x3:=A1 (Rj n3) 6 x xd xw;replace p:Room k (r + 3500) S':=p.drop;right;refine ht.use (r:=r + 3499) 4 p λg S3 z0 z1 p3=>?_;right;refine AV (λz=>?_) λz=>?_
  ·right;refine (hs k (r + 499) S3 p3).mono λv S4 z9=>?_;obtain ⟨⟨y,e,yd,yw⟩,p4⟩:=z9;subst e;right;refine ht.use (r:=r + 498) 2 p4 λg S5 z0 z1 p5=>?_;obtain ⟨dd,ed,hT⟩:=Et (xs:=[D.tup [s.d,y.d],D.tup [y.d,s.d]]) z0 (by simpa using z1) (p:=Two) (two_pick ⟨sd,s3⟩ ⟨yd,A1 (C:=B3) (by decide) 6 y yd yw⟩);refine Dq ed ?_;exact ⟨hT,p5.drop⟩
  ·right;refine ht.use (r:=r + 3498) 2 p3 λg S5 z0 z1 p5=>?_;obtain ⟨dd,ed,hT⟩:=Et (xs:=[D.tup [s.d,x.d],D.tup [x.d,s.d]]) z0 (by simpa using z1) (p:=Two) (two_pick ⟨sd,s3⟩ ⟨xd,x3⟩);refine Dq ed ?_;exact ⟨hT,p5.drop⟩
def HJ (f:Fn):Prop:=∀(k r:Nat) (S:List Ob),Room k (r + 3000) S->Wf f [.obj k] S λv S'=>(∃ss:List Sh,v = .tup [.str "choice",.tup (ss.map Sh.d)]/\4<=ss.length/\ss.length<=8/\∀x∈ss,x.depth<=5/\wfB B0 x=true)/\Room k r S'
theorem O8 (ht:PTakeOk ct)(hr:PRecOk cr)(hl:PLeafOk cl):HJ (fnOf 1 6 (ER ct cr cl)):=by
 intro k r S p0;refine Ap rfl ?_;unfold ER;right;refine ht.use (r:=r + 2999) 5 p0 λi S1 i0 i1 p1=>?_;right;obtain ⟨n,e⟩:=ub6 (ul2 (by decide:(0:Int)<=4) i0);have n4:4<=n/\n<=8:=by clear p0 p1;lia
 rw [e];refine Cm (Dc n4.2) ?_;refine B1 (λq t=>∃(ss:List Sh) (S':List Ob) (e2 e3 e4 e5:Option Sl),ss.length + q.length=n/\(∀s∈ss,s.depth<=5/\wfB B0 s=true)/\Room k (r + 122 * q.length) S'/\t=⟨[some (.val (.obj k)),some (.own (ss.map Sh.d)),e2,e3,e4,e5],S'⟩) _ _ ⟨[],S1,none,none,none,none,by simp [AX],by simp,p1.mono (by rw [AO,uh0];exact ue7 (um5 (ue8 _ n4.2) (by decide)) _),rfl⟩ ?_ ?_
 ·rintro d q t ⟨ss,S',e2,e3,e4,e5,hl1,hs,p,rfl⟩ _;rw [ui4] at hl1 p;right;refine hl.use (r:=r + 122 * q.length + 102) p.loop λa S2 a1 a2 p2=>?_;right;refine hl.use (r:=r + 122 * q.length + 82) p2 λb S3 b1 b2 p3=>?_;right;refine ht.use (r:=r + 122 * q.length + 81) 4 p3 λq' S4 q0 q1 p4=>?_;right;refine hr.use (r:=r + 122 * q.length + 1) p4 λc S5 c1 c2 p5=>?_;right;refine ht.use 5 p5 λg S6 z0 z1 p6=>?_;obtain ⟨dd,ed,x,rfl,x1,x2⟩:=Et (xs:=[a.d,(Sh.pair a b).d,(Sh.list a q').d,(Sh.choice [a,b]).d]++[c.d]) z0 (by simpa using z1) (p:=λd=>∃s:Sh,d=s.d/\s.depth<=5/\wfB B0 s=true) (by
   simp only [ui6,uj9,ud9];exact ⟨⟨_,rfl,Ek a1,a2⟩,⟨_,rfl,Jq (Ek a1) (Ek b1),CK a2 b2⟩,⟨_,rfl,PX (Ek a1),DF q0 (Hl q1 (by decide)) a2⟩,⟨_,rfl,M7 (Ek a1) (Ek b1),JK a2 b2⟩,⟨_,rfl,uh1 c1,c2⟩,λ_ z=>nomatch z⟩)
  rw [Sh.d,Sh.d,Sh.d,shD,shD,shD] at ed;refine Dq ed ?_;right;refine AC (Cb (n:=8) (by rw [uj7];exact um5 (ue7 (ui5 (uo5 _)) _) (um5 (un1 hl1) n4.2))) ?_;exact ⟨ss++[x],S6,_,_,_,_,EN hl1,DK hs ⟨x1,x2⟩,p6,t6m (by rw [uk4];rfl)⟩
 ·rintro t ⟨ss,S',e2,e3,e4,e5,hl1,hs,p,rfl⟩;replace hl1:ss.length=n:=hl1;subst hl1;right;exact ⟨⟨ss,rfl,n4.1,n4.2,hs⟩,p.drop⟩
theorem two_menus {xs:List Sh}(j3:j<=3)(l4:4<=ss.length)(l8:ss.length<=8)(hl:xs.length=ss.length)(h:∀x∈ss,x.depth<=5/\wfB B0 x=true)(h':∀x∈xs,x.depth<=5/\wfB (B0 + 255 * (j:Int)) x=true):Two (.tup [.tup [.str "choice",.tup (ss.map Sh.d)],.tup [.str "choice",.tup (xs.map Sh.d)]]):=
 ⟨.choice ss,.choice xs,by rw [Sh.d,Sh.d,BZ,BZ],⟨Jp λx hx=>(h x hx).1,F0 (um5 (by decide) l4) (uh1 l8) λx hx=>A1 (C:=B3) (by decide) 5 x (h x hx).1 (h x hx).2⟩,
  ⟨Jp λx hx=>(h' x hx).1,F0 (by rw [hl];exact um5 (by decide) l4) (by rw [hl];exact uh1 l8) λx hx=>A1 (Rj j3) 5 x (h' x hx).1 (h' x hx).2⟩⟩
def HK (f:Fn):Prop:=∀(k r:Nat) (S:List Ob),Room k (r + 4000) S->Wf f [.obj k] S λv S'=>Two v/\Room k r S'
theorem t5m {a0 a1 e3 e4:Option Sl}{X Y:List D}(h:X=Y):(⟨[a0,a1,some (.own X),e3,e4],S⟩:T)=⟨[a0,a1,some (.own Y),e3,e4],S⟩:=by subst h;rfl
theorem Pa {cm:Fn}(ht:PTakeOk ct)(hv:FI cv 6)(hm:HJ cm):HK (fnOf 1 5 (En ct cv cm)):=by
 intro k r S p0;refine Ap rfl ?_;unfold En;right;refine (hm k (r + 1000) S p0).mono λv S1 z9=>?_;obtain ⟨⟨ss,e,l4,l8,hall⟩,p1⟩:=z9;subst e;right;refine ht.use (r:=r + 999) 2 p1 λi S2 i0 i1 p2=>?_;right;obtain ⟨n,e⟩:=ub6 (ul2 (by decide:(0:Int)<=1) i0);have n2:n<=2:=by clear p0 p1 p2;lia
 rw [e];refine Cm (Dc n2) ?_;refine B1 (λq t=>∃(xs:List Sh) (j:Nat) (S':List Ob) (e3 e4:Option Sl),j + q.length=n/\xs.length=ss.length/\(∀x∈xs,x.depth<=5/\wfB (B0 + 255 * (j:Int)) x=true)/\Room k (r + 361 * q.length) S'/\t=⟨[some (.val (.obj k)),some (.val (.tup [.str "choice",.tup (ss.map Sh.d)])),some (.own (xs.map Sh.d)),e3,e4],S'⟩) _ _ ⟨ss,0,S2,none,none,by rw [AO,uh0,uo2],rfl,hall,p2.mono (by rw [AO,uh0];exact ue7 (um5 (ue8 _ n2) (by decide)) _),rfl⟩ ?_ ?_
 ·rintro d q t ⟨xs,j,S',e3,e4,hj,hl,hx,p,rfl⟩ _;rw [ui4] at hj p;right;refine Uf rfl ?_;right;rw [uj7];refine ht.use (r:=r + 361 * q.length + 360) (xs.length:Int) p.loop (λa S3 a0 a1 p3=>?_) rfl (by rw [hl];exact un9.mpr (uf0 (by decide) l4)) (by rw [hl];exact Int.lt_of_le_of_lt (uo1.mpr l8) (by decide));obtain ⟨a,rfl⟩:=ub6 a0;have ha:a < xs.length:=un9.mp a1;have hm':=ui3 ha;have eix:ixN (xs.map Sh.d).length (a:Int)=some a:=Qg (by rw [uj7];exact ha);right;refine Wr rfl ?_;right;refine ⟨_,_,(xs[a]).d,rfl,rfl,by unfold atI;rw [eix];show (xs.map Sh.d)[a]?=_;rw [ug3,ub2 ha];rfl,?_⟩;right;refine (hv xs[a] k (r + 361 * q.length) (B0 + 255 * (j:Int)) S3 (uh1 (hx _ hm').1) (hx _ hm').2 Uq p3).mono λv S4 z9=>?_;obtain ⟨⟨y,e,yd,yw⟩,p4⟩:=z9;subst e;right;refine Wt rfl ?_;right;refine ⟨_,_,a,rfl,rfl,eix,?_⟩;refine ⟨xs.set a y,j + 1,S4,some (.val d),some (.val (.int a)),OJ hj,by rw [List.length_set];exact hl,λx h=>?_,p4,?_⟩
  ·rcases List.mem_or_eq_of_mem_set h with h | h
   ·exact ⟨(hx x h).1,by rw [Kw];exact A1 Kv 5 x (hx x h).1 (hx x h).2⟩
   ·subst h;exact ⟨um5 yd (hx _ hm').1,by rw [Kw];exact yw⟩
  ·exact t5m (List.map_set ..).symm
 ·rintro t ⟨xs,j,S',e3,e4,hj,hl,hx,p,rfl⟩;replace hj:j=n:=hj;subst hj;right;exact ⟨two_menus (uh1 n2) l4 l8 hl hall hx,p.drop⟩
theorem IW (a:Int)(n:Nat):(AX a n).length=n:=by simp [AX]
theorem JB {a:Int}{d:D}{r:List D}(e:d :: r=(AX a n).drop j):d = .int (a + j)/\r=(AX a n).drop (j + 1)/\j < n:=by
 have hj:j < (AX a n).length:=by
  rcases Nat.lt_or_ge j (AX a n).length with h | h
  ·exact h
  ·rw [uc7 h] at e;cases e
 rw [ub0 hj] at e;injection e with e1 e2
 rw [IW] at hj;refine ⟨?_,e2,hj⟩;rw [e1];simp [AX]
noncomputable def sgs:Str:=" !\"#$ &'()*+,-./0123456789:;<=>?@ABCDEFGHIJKLMNOPQRSTUVWXYZ[\\]^_`abcdefghijklmnopqrstuvwxyz{|}~"
theorem V6 {c:Nat}(h:Bw c=true):atI sgs.cps.toList ((c:Int) - 32)=some c:=by
 have hl:sgs.cps.toList.length=95:=by decide +kernel
 have hall:(List.range 127).all (λc=>!Bw c || decide (sgs.cps.toList[c - 32]?=some c))=true:=by decide +kernel
 have h':=h;simp only [Bw,uh7,uh2] at h';have:=ui1.mp hall c (uk8.mpr (by lia));rw [h,Bool.not_true,Bool.false_or,uh2] at this;rw [show ((c:Int) - 32)=((c - 32:Nat):Int) by lia];exact Ji this
section
variable {t:T}{P:D->T->Prop}{R:Out->T->Prop}
def ZC (h:D->M Out)(R:Out->T->Prop)(o:Out)(t1:T):Prop:=match o with
 | .ret (.exc n ds)=>n∈Ci/\W (h (.exc n ds)) t1 R
 | o=>R o t1
def xK (d:D)(A B:Prop):Prop:=if A8 d=true then A else B
theorem XR {d:D}{A B:Prop}(e:A8 d=false)(b:B):xK d A B:=by unfold xK;rw [if_neg (by rw [e];decide)];exact b
theorem XQ {d:D}{A B:Prop}(e:A8 d=true)(a:A):xK d A B:=by unfold xK;rw [if_pos e];exact a
theorem XI {i:Nat}(w:W f t λd t1=>xK d (R (.ret d) t1) (R .next ⟨t1.env.set i (some (.val d)),t1.S⟩)):W (D1 i f) t R:=by
 refine Ee (w.mono λd t1 q=>?_);unfold xK at q
 split at q
 ·next h=>rw [if_pos h];exact ⟨_,_,rfl,q⟩
 ·next h=>rw [if_neg h];exact ⟨_,_,rfl,q⟩
theorem wNx (w:W f t λd t1=>A8 d=false/\P d t1):W (nxD f) t P:=by
 refine Ee (w.mono λd t1 z9=>?_);obtain ⟨h,q⟩:=z9;rw [if_neg (by rw [h];decide)];exact ⟨_,_,rfl,q⟩
theorem Xp {h:D->M D}(w:W g t λy t1=>xK y (P y t1) (W (h y) t1 λd t2=>A8 d=false/\P d t2)):W (Jj g h) t P:=by
 refine Ee (w.mono λy t1 q=>?_);unfold xK at q
 split at q
 ·next z=>rw [if_pos z];exact ⟨_,_,rfl,q⟩
 ·next z=>rw [if_neg z];exact wNx q
theorem Xn {h:D->D->M D}(w:W f t λx t1=>W (Jj g (h x)) t1 P):W (Hh f g h) t P:=Ee w
theorem Ui {n:Str}{f:M (List D)}(w:W f t λds t1=>ds.length<=1000/\R (.ret (.exc n [])) t1):W (El n f) t R:=
 Ee (w.mono λds t1 ⟨e,q⟩=>by rw [if_pos e];exact ⟨_,_,rfl,q⟩)
theorem Uk {n:Str}(w:W f t λ_ t1=>R (.ret (.exc n [])) t1):W (El n (Aa f Ad)) t R:=Ui (Dx (w.mono λd t1 q=>Il ⟨by show 1<=1000;decide,q⟩))
theorem Ro {g:Fn}{Q:D->List Ob->Prop}(w:Wf g ds S λr S'=>A8 r=false/\Q r S'):Wf (Dp g) ds S Q:=by
 obtain ⟨r,S',e,h,q⟩:=w;exact ⟨r,S',by unfold Dp;rw [e];dsimp only;rw [if_neg (by rw [h];decide)],q⟩
theorem Pure1.ok {g:Fn}{r:D}(h:Pure1 g ds r)(e:A8 r=false):Pure1 (Dp g) ds r:=λS=>Ro ((h S).mono λ_ _ ⟨e1,e2⟩=>⟨by rw [e1];exact e,e1,e2⟩)
end
theorem Uj {n:Str}{R:Out->T->Prop}(w:W f t λa t1=>W g t1 λb t2=>R (.ret (.exc n [a,b])) t2):W (FT n (Aa f (Aa g Ad))) t R:=
 Ee (Dx (w.mono λa t1 q=>Dx (q.mono λb t2 q=>Il ⟨_,_,rfl,q⟩)))
local macro_rules | `(tactic| walk_at "x1")=>`(tactic| first
 | walk_at "w1"
 | clear 31 wTry XI wDropX wAsgX wNx Xn wBinY Xp wCallY tryK_next
 | clear 33 tryK_ex | clear 32 XR | clear 32 XQ
 | clear 31 wRaiseT Uk | clear 33 wHAs | clear 33 wHAsN | clear 33 wHNo | clear 33 wHNoN
 | clear 33 wIsiX | clear 31 wIsiXN | ((with_reducible refine' wAttX ?wv ?wu ?_);(case wv=>decide);(case wu=>exact rfl)))
local macro_rules | `(tactic| left)=>`(tactic| repeat (walk_at "x1"))
inductive Rd where
 | done (v:D)
 | need (ok:Nat->Bool) (nx:Nat->Rd)
inductive RR where
 | told (v:D) (a:Nat)
 | short
 | broken (a:Nat)
noncomputable def Rd.run:Rd->List Nat->Nat->RR
 | .done v,_,a=>.told v a
 | .need ok nx,w,a=>match w[a]? with
   | none=>.short
   | some b=>if ok b=true then (nx b).run w (a + 1) else .broken a
noncomputable def Rd.bnd:Rd->(D->Rd)->Rd
 | .done v,k=>k v
 | .need ok nx,k=>.need ok λb=>(nx b).bnd k
def RR.thn (r:RR)(w:List Nat)(k:D->Rd):RR:=match r with
 | .told v a=>(k v).run w a
 | .short=>.short
 | .broken a=>.broken a
variable {w:List Nat}
theorem Da {ok:Nat->Bool}{nx:Nat->Rd}(h:w[a]?=none):(Rd.need ok nx).run w a = .short:=by rw [Rd.run,h]
theorem Bz {ok:Nat->Bool}{nx:Nat->Rd}{b:Nat}(h:w[a]?=some b):(Rd.need ok nx).run w a=if ok b=true then (nx b).run w (a + 1) else .broken a:=by rw [Rd.run,h]
theorem DL (k:D->Rd)(w:List Nat):∀(p:Rd) (a:Nat),(p.bnd k).run w a=(p.run w a).thn w k:=by
 intro p
 induction p with
 | done v=>intro a;rfl
 | need ok nx ih=>
   intro a;rw [Rd.bnd]
   cases h:w[a]? with
   | none=>rw [Da h,Da h];rfl
   | some b=>
     rw [Bz h,Bz h]
     by_cases q:ok b=true
     ·rw [if_pos q,if_pos q];exact ih b (a + 1)
     ·rw [if_neg q,if_neg q];rfl
variable {v:D}
theorem MP {b:Nat}:∀(p:Rd) (a:Nat),a<=w.length->p.run w a = .told v b->a<=b/\b<=w.length:=by
 intro p
 induction p with
 | done v'=>intro a ha h;cases h;exact ⟨uo3 _,ha⟩
 | need ok nx ih=>
   intro a ha h
   cases e:w[a]? with
   | none=>rw [Da e] at h;cases h
   | some c=>
     rw [Bz e] at h;have hl:=(ua8.mp e).1
     by_cases q:ok c=true
     ·rw [if_pos q] at h;have:=ih c (a + 1) hl h;lia
     ·rw [if_neg q] at h;cases h
noncomputable def Gu (lo:Int)(M:Nat):Nat->Nat->Rd
 | 0,x=>.done (.int (lo + x))
 | r + 1,x=>.need (λb=>decide (x * 256 + b<=M / 2 ^ (8 * r))) λb=>Gu lo M r (x * 256 + b)
def G4:Nat->List Nat->Rd
 | 0,cs=>.done (.str ⟨cs.toArray⟩)
 | n + 1,cs=>.need Bw λc=>G4 n (cs++[c])
def Gs (p:Rd):Nat->List D->Rd
 | 0,ds=>.done (.lst ds)
 | n + 1,ds=>p.bnd λv=>Gs p n (ds++[v])
def pSh:Nat->Sh->Rd
 | 0,_=>.done .non
 | _ + 1,.nothing=>.done .non
 | _ + 1,.number lo hi=>Gu lo (hi - lo).toNat (wid (hi - lo).toNat) 0
 | _ + 1,.text q=>.need (λb=>decide ((b:Int)<=q)) λb=>G4 b []
 | n + 1,.list s q=>.need (λb=>decide ((b:Int)<=q)) λb=>Gs (pSh n s) b []
 | n + 1,.pair s r=>(pSh n s).bnd λv=>(pSh n r).bnd λu=>.done (.tup [v,u])
 | n + 1,.choice ss=>.need (λb=>decide (b < ss.length)) λb=>(pSh n (ss.getD b .nothing)).bnd λv=>.done (.tup [.str "of",.int b,v])
theorem OU:∀(w n m:Nat),n < 256 ^ w->m < 256 ^ w->nb w n=nb w m->n=m
 | 0,n,m,h1,h2,_=>by
   rw [un2] at h1 h2;lia
 | w + 1,n,m,h1,h2,e=>by
   rw [nb,nb] at e;obtain ⟨e1,e2⟩:=List.append_inj e (by rw [Ds,Ds]);rw [un3] at h1 h2;have h3:=OU w (n / 256) (m / 256) (by lia) (by lia) e1;injection e2 with e3
   injection e3 with e4
   lia
mutual
noncomputable def plD:D->Bool
 | .lst xs=>pls xs
 | .tup xs=>pls xs
 | .obj _=>false
 | .scr _=>false
 | .ty _=>false
 | .exc _ _=>false
 | .dic=>false
 | _=>true
noncomputable def pls:List D->Bool
 | []=>true
 | d :: r=>plD d && pls r
end
noncomputable def pos (i:Int):Int:=if 0 < i then i else 0
structure ValueRes2 (k c l:Nat)(S:List Ob)(s:Sh)(a b:Int)(r:D)(S':List Ob):Prop where
 fit:Af s r=true
 lft:∃a' b':Int,S'[l]?=some (.lst [.int a',.int b'])/\((Ao s r).length:Int)<=9 * (a - a') + (pos b - pos b')/\pos b'<=pos b/\1<=a - a'/\a - a'<=cnt s + (14 * (s.depth:Int)) * pos a
 deck:DeckAt k c S'
 kp:MT k c l S S'
mutual
noncomputable def szE:D->Nat
 | .lst xs=>1 + Q3 xs
 | .tup xs=>1 + Q3 xs
 | _=>1
noncomputable def Q3:List D->Nat
 | []=>0
 | d :: r=>szE d + Q3 r
end
structure VOk (s:Sh)(v:D):Prop where
 fit:Af s v=true
 len:(Ao s v).length<=14809
local macro_rules | `(tactic| walk_at "y1")=>`(tactic| first | walk_at "x1" | clear 31 Uj)
local macro_rules | `(tactic| symm)=>`(tactic| repeat (walk_at "y1"))
noncomputable def wD (w:List Nat):List D:=w.map λ(n:Nat)=>D.int (n:Int)
theorem Ce (w:List Nat):(wD w).length=w.length:=by unfold wD;rw [uj7]
theorem Wo {b:Nat}(h:w[a]?=some b):(wD w)[a]?=some (.int (b:Int)):=by unfold wD;rw [ug3,h];rfl
abbrev exS:D:=.exc "Short" []
abbrev exB (a:Nat):D:=.exc "Broken" [.int (a:Int),.non]
noncomputable def rrD:RR->D
 | .told v b=>.tup [v,.int (b:Int)]
 | .short=>exS
 | .broken a=>exB a
noncomputable def byX:Option Nat->D
 | none=>exS
 | some b=>.int (b:Int)
noncomputable def upX (m:Int)(a:Nat):Option Nat->D
 | none=>exS
 | some b=>if (b:Int)<=m then .int (b:Int) else exB a
def sgX (a:Nat):Option Nat->D
 | none=>exS
 | some c=>if Bw c=true then .str ⟨#[c]⟩ else exB a
def BX (f:Fn):Prop:=∀(w:List Nat) (a:Nat),Pure1 f [.lst (wD w),.int (a:Int)] (byX w[a]?)
theorem WB:BX (fnOf 2 2 EO):=by
 intro w a S;refine Ap rfl ?_;unfold EO;have hl:=Ce w
 cases h:w[a]? with
 | none=>
   have:=List.getElem?_eq_none_iff.mp h;symm;refine Fq (ul3 (by lia)) ?_;symm;exact ⟨rfl,rfl⟩
 | some b=>
   obtain ⟨hj,_⟩:=ua8.mp h;symm;refine Jw (uk7 (by lia)) ?_;symm;refine Dq (Ji (Wo h)) ?_;exact ⟨rfl,rfl,rfl⟩
def UX (f:Fn):Prop:=∀(m:Int) (w:List Nat) (a:Nat),Pure1 f [.int m,.lst (wD w),.int (a:Int)] (upX m a w[a]?)
theorem Xg (hc:BX c):UX (fnOf 3 4 (DS c)):=by
 intro m w a S;refine Ap rfl ?_;unfold DS;have hb:=hc w a
 cases h:w[a]? with
 | none=>
   rw [h,byX] at hb;symm;refine hb.use ?_;symm;exact ⟨rfl,rfl⟩
 | some b=>
   rw [h,byX] at hb;symm;refine hb.use ?_;symm;rw [upX]
   by_cases q:(b:Int)<=m
   ·rw [if_pos q];refine Jw (uk7 (by lia)) ?_;symm;exact ⟨rfl,rfl,rfl⟩
   ·rw [if_neg q];refine Fq (ul3 (by lia)) ?_;symm;exact ⟨rfl,rfl⟩
def SX (f:Fn):Prop:=∀(w:List Nat) (a:Nat),Pure1 f [.lst (wD w),.int (a:Int)] (sgX a w[a]?)
variable {cb:Fn}
theorem W7 (hs:Iw cs)(hb:BX cb):SX (fnOf 2 3 (EX cs cb)):=by
 intro w a S;refine Ap rfl ?_;unfold EX;have hb:=hb w a
 cases h:w[a]? with
 | none=>
   rw [h,byX] at hb;symm;refine hb.use ?_;symm;exact ⟨rfl,rfl⟩
 | some c=>
   rw [h,byX] at hb;symm;refine hb.use ?_;symm;refine (hs c).use ?_;rw [sgX]
   by_cases q:Bw c=true
   ·rw [if_pos q,q];symm;refine W_ix_str.mpr ⟨by decide +kernel,c,V6 q,?_⟩;exact ⟨rfl,rfl,rfl⟩
   ·have q':Bw c=false:=by simpa using q
    rw [if_neg q,q'];symm;exact ⟨rfl,rfl⟩
theorem W4 (hl:GD cl)(hb:BX cb)(hw:Hf cw){lo hi:Int}(hwf:wf (.number lo hi)=true)(w:List Nat)(a:Nat):Pure1 (fnOf 3 7 (CG cl cb cw)) [(Sh.number lo hi).d,.lst (wD w),.int (a:Int)] (rrD ((Gu lo (hi - lo).toNat (wid (hi - lo).toNat) 0).run w a)):=by
 intro S;have hsp:=MN hwf;have hwd:=F3 9 _ hsp;refine Ap rfl ?_;unfold CG;rw [Sh.d];have em:hi - lo=(((hi - lo).toNat:Nat):Int):=by
  simp only [wf,uh7,uh2] at hwf;lia
 have hww:=λS P p=>(hw (hi - lo).toNat hsp).use (S:=S) (P:=P) p;rw [<-em] at hww;generalize (hi - lo).toNat=M at *;generalize hW:wid M=n at *;symm;refine hww _ _ ?_;rw [em];symm;refine Cm (Bf (by lia) (by lia)) ?_;refine B1 (λr t=>∃(j x:Nat) (e6:Option Sl),j<=n/\r=(AX 0 ((n:Nat):Int).toNat).drop j/\(Gu lo M n 0).run w a=(Gu lo M (n - j) x).run w (a + j)/\t=⟨[some (.val (.tup [.str "number",.int lo,.int hi])),some (.val (.lst (wD w))),some (.val (.int a)),some (.val (.int M)),some (.val (.int n)),some (.val (.int x)),e6],S⟩) _ _ ⟨0,0,none,uo5 _,rfl,rfl,rfl⟩ ?_ ?_
 ·rintro d r t ⟨j,x,e6,hj,hr,hrun,rfl⟩ _;obtain ⟨rfl,hr',hjn⟩:=JB hr;rw [uh0] at hjn;rw [un7];obtain ⟨e,he⟩:∃e,n - j=e + 1:=⟨n - j - 1,by lia⟩;rw [he,Gu] at hrun;have hby:=hb w (a + j);symm;refine I9 (SI (by decide) (by decide)) ?_;symm;rw [show ((a:Int) + (j:Int))=((a + j:Nat):Int) by lia]
  cases h:w[a + j]? with
  | none=>
    rw [h,byX] at hby;rw [Da h] at hrun;refine hby.use ?_;symm;exact ⟨by rw [hrun];rfl,rfl⟩
  | some b=>
    rw [h,byX] at hby;rw [Bz h] at hrun;refine hby.use ?_;symm;refine ⟨rfl,?_⟩;symm;rw [show ((n:Int) - 1 - (j:Int))=((e:Nat):Int) by lia,show ((x:Int) * 256 + (b:Int))=((x * 256 + b:Nat):Int) by lia];refine (hl M e (by lia)).use ?_;symm
    by_cases q:x * 256 + b<=M / 2 ^ (8 * e)
    ·rw [if_pos (ul3 q)] at hrun;refine Jw (uk7 (by lia)) ?_;symm;exact ⟨j + 1,x * 256 + b,_,hjn,hr',by rw [show n - (j + 1)=e by lia,hrun,um0],rfl⟩
    ·rw [if_neg (by rw [uh2];exact q)] at hrun;refine Fq (ul3 (by lia)) ?_;symm;exact ⟨by rw [hrun];rfl,rfl⟩
 ·rintro t ⟨j,x,e6,hj,hr,hrun,rfl⟩;have hj':j=n:=by
   have:=congrArg List.length hr;rw [uk5,uh6,IW,uh0] at this;lia
  subst hj';rw [uo0,Gu,Rd.run] at hrun;symm;exact ⟨rfl,by rw [hrun];rfl,rfl⟩
variable {cu:Fn}
theorem VY {ca:Fn}(ha:SX ca)(hu:UX cu){q:Int}(hwf:wf (.text q)=true)(n:Nat)(w:List Nat)(a:Nat):Pure1 (fnOf 3 7 (Dj ca cu)) [(Sh.text q).d,.lst (wD w),.int (a:Int)] (rrD ((pSh (n + 1) (.text q)).run w a)):=by
 intro S;have hL:LIM=100000:=rfl;refine Ap rfl ?_;unfold Dj;rw [Sh.d,pSh];simp only [wf,uh7,uh2] at hwf;have hup:=hu q w a;symm
 cases h:w[a]? with
 | none=>
   rw [h,upX] at hup;rw [Da h];refine hup.use ?_;symm;exact ⟨rfl,rfl⟩
 | some b=>
   rw [h,upX] at hup;rw [Bz h]
   by_cases hb:(b:Int)<=q
   ·rw [if_pos hb] at hup;rw [if_pos (ul3 hb)];refine hup.use ?_;symm;refine Cm (Bf (by lia) (by lia)) ?_;refine B1 (λr t=>∃(j:Nat) (y:Str) (e6:Option Sl),j<=b/\r=(AX 0 ((b:Nat):Int).toNat).drop j/\y.cps.toList.length=j/\(G4 b []).run w (a + 1)=(G4 (b - j) y.cps.toList).run w (a + 1 + j)/\t=⟨[some (.val (.tup [.str "text",.int q])),some (.val (.lst (wD w))),some (.val (.int a)),some (.val (.int b)),some (.val (.int ((a:Int) + 1))),some (.val (.str y)),e6],S⟩) _ _ ⟨0,Str.ofString "",none,uo5 _,rfl,by decide +kernel,by rw [Nat.sub_zero,Nat.add_zero,show (Str.ofString "").cps.toList=[] by decide +kernel],rfl⟩ ?_ ?_
    ·rintro d r t ⟨j,y,e6,hj,hr,hyl,hrun,rfl⟩ _;obtain ⟨rfl,hr',hjn⟩:=JB hr;rw [uh0] at hjn;rw [un7];obtain ⟨e,he⟩:∃e,b - j=e + 1:=⟨b - j - 1,by lia⟩;rw [he,G4] at hrun;have hsg:=ha w (a + 1 + j);symm;rw [show ((a:Int) + 1 + (j:Int))=((a + 1 + j:Nat):Int) by lia]
     cases h2:w[a + 1 + j]? with
     | none=>
       rw [h2,sgX] at hsg;rw [Da h2] at hrun;refine hsg.use ?_;symm;exact ⟨by rw [hrun];rfl,rfl⟩
     | some c=>
       rw [h2,sgX] at hsg;rw [Bz h2] at hrun
       by_cases hc:Bw c=true
       ·rw [if_pos hc] at hsg hrun;refine hsg.use ?_;symm;refine AC (by rw [GV y,hyl,hL];show j + 1<=_;lia) ?_;refine ⟨rfl,?_⟩;symm;refine ⟨j + 1,_,_,hjn,hr',?_,?_,rfl⟩
        ·rw [JO,uf6,hyl];rfl
        ·rw [hrun,JO,show b - (j + 1)=e by lia,um0 (a + 1)]
       ·rw [if_neg hc] at hsg hrun;refine hsg.use ?_;symm;exact ⟨by rw [hrun];rfl,rfl⟩
    ·rintro t ⟨j,y,e6,hj,hr,hyl,hrun,rfl⟩;have hj':j=b:=by
      have:=congrArg List.length hr;rw [uk5,uh6,IW,uh0] at this;lia
     subst hj';rw [uo0,G4,Rd.run] at hrun;have ey:(⟨y.cps.toList.toArray⟩:Str)=y:=T5 (by simp);rw [ey] at hrun;symm;refine ⟨rfl,?_,rfl⟩;rw [hrun,rrD,show ((a:Int) + 1 + (j:Int))=((a + 1 + j:Nat):Int) by lia]
   ·rw [if_neg hb] at hup;rw [if_neg (by rw [uh2];exact hb)];refine hup.use ?_;symm;exact ⟨rfl,rfl⟩
def RX (c:Fn)(s:Sh)(p:Rd):Prop:=∀(w:List Nat) (a:Nat),a<=w.length->Pure1 c [s.d,.lst (wD w),.int (a:Int)] (rrD (p.run w a))
theorem VW {p:Rd}(hu:UX cu)(hq2:q<=250)(hc:RX c s p)(w:List Nat)(a:Nat):Pure1 (fnOf 3 8 (Dh c cu)) [(Sh.list s q).d,.lst (wD w),.int (a:Int)] (rrD ((Rd.need (λb=>decide ((b:Int)<=q)) λb=>Gs p b []).run w a)):=by
 intro S;have hL:LIM=100000:=rfl;refine Ap rfl ?_;unfold Dh;rw [Sh.d];have hup:=hu q w a;symm
 cases h:w[a]? with
 | none=>
   rw [h,upX] at hup;rw [Da h];refine hup.use ?_;symm;exact ⟨rfl,rfl⟩
 | some b=>
   have hal:=(ua8.mp h).1;rw [h,upX] at hup;rw [Bz h]
   by_cases hb:(b:Int)<=q
   ·rw [if_pos hb] at hup;rw [if_pos (ul3 hb)];refine hup.use ?_;symm;refine Cm (Bf (by lia) (by lia)) ?_;refine B1 (λr t=>∃(j a':Nat) (ds:List D) (e6 e7:Option Sl),j<=b/\r=(AX 0 ((b:Nat):Int).toNat).drop j/\ds.length=j/\a'<=w.length/\(Gs p b []).run w (a + 1)=(Gs p (b - j) ds).run w a'/\t=⟨[some (.val (.tup [.str "list",s.d,.int q])),some (.val (.lst (wD w))),some (.val (.int a)),some (.val (.int b)),some (.val (.int (a':Int))),some (.own ds),e6,e7],S⟩) _ _ ⟨0,a + 1,[],none,none,uo5 _,rfl,rfl,hal,rfl,rfl⟩ ?_ ?_
    ·rintro d r t ⟨j,a',ds,e6,e7,hj,hr,hdl,ha',hrun,rfl⟩ _;obtain ⟨rfl,hr',hjn⟩:=JB hr;rw [uh0] at hjn;obtain ⟨e,he⟩:∃e,b - j=e + 1:=⟨b - j - 1,by lia⟩;rw [he,Gs,DL] at hrun;have hcc:=hc w a' ha'
     cases h2:p.run w a' with
     | short=>
       rw [h2] at hrun hcc;symm;refine hcc.use ?_;rw [rrD];symm;exact ⟨by rw [hrun];rfl,rfl⟩
     | broken k=>
       rw [h2] at hrun hcc;symm;refine hcc.use ?_;rw [rrD];symm;exact ⟨by rw [hrun];rfl,rfl⟩
     | told v a2=>
       have hle:=MP p a' ha' h2;rw [h2] at hrun hcc;symm;refine hcc.use ?_;rw [rrD];symm;refine AC (by rw [hdl,hL];lia) ?_;symm;exact ⟨j + 1,a2,ds++[v],_,_,hjn,hr',by rw [uf6,hdl];rfl,hle.2,by rw [hrun,show b - (j + 1)=e by lia];rfl,rfl⟩
    ·rintro t ⟨j,a',ds,e6,e7,hj,hr,hdl,ha',hrun,rfl⟩;have hj':j=b:=by
      have:=congrArg List.length hr;rw [uk5,uh6,IW,uh0] at this;lia
     subst hj';rw [uo0,Gs,Rd.run] at hrun;symm;exact ⟨rfl,by rw [hrun];rfl,rfl⟩
   ·rw [if_neg hb] at hup;rw [if_neg (by rw [uh2];exact hb)];refine hup.use ?_;symm;exact ⟨rfl,rfl⟩
theorem VX {r:Sh}{p p':Rd}(hs:RX c s p)(hr:RX c r p')(w:List Nat)(a:Nat)(ha:a<=w.length):Pure1 (fnOf 3 5 (Di c)) [(Sh.pair s r).d,.lst (wD w),.int (a:Int)] (rrD ((p.bnd λv=>p'.bnd λu=>.done (.tup [v,u])).run w a)):=by
 intro S;refine Ap rfl ?_;unfold Di;rw [Sh.d,DL];have h1:=hs w a ha
 cases e1:p.run w a with
 | short=>
   rw [e1] at h1;symm;refine h1.use ?_;rw [rrD];symm;exact ⟨rfl,rfl⟩
 | broken k=>
   rw [e1] at h1;symm;refine h1.use ?_;rw [rrD];symm;exact ⟨rfl,rfl⟩
 | told v a'=>
   have hle:=MP p a ha e1;rw [e1] at h1;have h2:=hr w a' hle.2;rw [RR.thn,DL];symm;refine h1.use ?_;rw [rrD];symm;refine h2.use ?_
   cases e2:p'.run w a' with
   | short=>rw [rrD];symm;exact ⟨rfl,rfl⟩
   | broken k=>rw [rrD];symm;exact ⟨rfl,rfl⟩
   | told u a2=>rw [rrD];symm;exact ⟨rfl,rfl,rfl⟩
theorem QP {p:Nat->Rd}(hu:UX cu)(hc:∀(k:Nat) (h:k < ss.length),RX c ss[k] (p k))(w:List Nat)(a:Nat):Pure1 (fnOf 3 5 (CF c cu)) [(Sh.choice ss).d,.lst (wD w),.int (a:Int)] (rrD ((Rd.need (λb=>decide (b < ss.length)) λb=>(p b).bnd λv=>.done (.tup [.str "of",.int b,v])).run w a)):=by
 intro S;refine Ap rfl ?_;unfold CF;rw [Sh.d];have hup:=hu ((ss.length:Int) - 1) w a;symm;rw [AJ];refine hup.use ?_
 cases h:w[a]? with
 | none=>
   rw [Da h,upX];symm;exact ⟨rfl,rfl⟩
 | some b=>
   have hal:=(ua8.mp h).1;rw [Bz h,upX]
   by_cases hb:b < ss.length
   ·rw [if_pos (show (b:Int)<=(ss.length:Int) - 1 by lia),if_pos (ul3 hb),DL];have e0:ss[b]?=some ss[b]:=ub2 hb;have hsd:atI (shD ss) (b:Int)=some ss[b].d:=Ji (by rw [FY,e0];rfl);have h2:=hc b hb w (a + 1) hal;symm;refine DE hsd ?_;symm;rw [show ((a:Int) + 1)=((a + 1:Nat):Int) by lia];refine h2.use ?_
    cases e2:(p b).run w (a + 1) with
    | short=>rw [rrD];symm;exact ⟨rfl,rfl⟩
    | broken k=>rw [rrD];symm;exact ⟨rfl,rfl⟩
    | told u a2=>rw [rrD];symm;exact ⟨rfl,rfl,rfl⟩
   ·rw [if_neg (show ¬(b:Int)<=(ss.length:Int) - 1 by lia),if_neg (by rw [uh2];exact hb)];symm;exact ⟨rfl,rfl⟩
def Iv (f:Fn)(n:Nat):Prop:=∀s:Sh,s.depth<=n->wf s=true->RX f s (pSh n s)
theorem QQ (hn:∀lo hi,wf (.number lo hi)=true->RX cn (.number lo hi) (pSh (n + 1) (.number lo hi)))(ht:∀q,wf (.text q)=true->RX ct (.text q) (pSh (n + 1) (.text q)))
 (hl:∀s q,q<=250->s.depth<=n->wf s=true->RX cl (.list s q) (pSh (n + 1) (.list s q))) (hp:∀s r,s.depth<=n->r.depth<=n->wf s=true->wf r=true->RX cp (.pair s r) (pSh (n + 1) (.pair s r)))
 (hc:∀ss:List Sh,(∀(k:Nat) (h:k < ss.length),ss[k].depth<=n/\wf ss[k]=true)->RX cc (.choice ss) (pSh (n + 1) (.choice ss))):Iv (fnOf 3 4 (CV cc cp cl ct cn)) (n + 1):=by
 intro s hs hwf w a ha S;refine Ap rfl ?_;unfold CV
 cases s with
 | nothing=>
   rw [Sh.d,pSh,Rd.run,rrD];symm;exact ⟨rfl,rfl,rfl⟩
 | number lo hi=>
   have h:=hn lo hi hwf w a ha;rw [Sh.d] at h ⊢;symm;exact h.use ⟨rfl,rfl⟩
 | text q=>
   have h:=ht q hwf w a ha;rw [Sh.d] at h ⊢;symm;exact h.use ⟨rfl,rfl⟩
 | list s q=>
   simp only [wf,uh7,uh2] at hwf;rw [Sh.depth] at hs;have h:=hl s q hwf.1.2 (by lia) hwf.2 w a ha;rw [Sh.d] at h ⊢;symm;exact h.use ⟨rfl,rfl⟩
 | pair s r=>
   simp only [wf,uh7] at hwf;rw [Sh.depth] at hs;have h:=hp s r (by lia) (by lia) hwf.1 hwf.2 w a ha;rw [Sh.d] at h ⊢;symm;exact h.use ⟨rfl,rfl⟩
 | choice ss=>
   simp only [wf,uh7,uh2] at hwf;rw [Sh.depth] at hs;have h:=hc ss (λk hk=>⟨um5 (Cv ss _ _ (ub2 hk)) (by lia),BB hwf.2 _ (ui3 hk)⟩) w a ha;rw [Sh.d] at h ⊢;symm;exact h.use ⟨rfl,rfl⟩
theorem Ph {ca cl':Fn}(e1:cc=fnOf 3 5 (CF c cu))(e2:cp=fnOf 3 5 (Di c))(e3:cl=fnOf 3 8 (Dh c cu))(e4:ct=fnOf 3 7 (Dj ca cu))(e5:cn=fnOf 3 7 (CG cl' cb cw))
 (hu:UX cu) (ha:SX ca) (hl':GD cl') (hb:BX cb) (hw:Hf cw) (hc:Iv c n):Iv (fnOf 3 4 (CV cc cp cl ct cn)) (n + 1):=by
 subst e1 e2 e3 e4 e5;refine QQ (λlo hi h w a _=>?_) (λq h w a _=>VY ha hu h n w a) (λs q h2 hd h w a _=>?_) (λs r d1 d2 w1 w2 w a ha=>?_) λss h w a _=>?_
 ·rw [pSh];exact W4 hl' hb hw h w a
 ·rw [pSh];exact VW hu h2 (hc s hd h) w a
 ·rw [pSh];exact VX (hc s d1 w1) (hc r d2 w2) w a ha
 ·rw [pSh];refine QP hu (p:=λb=>pSh n (ss.getD b .nothing)) (λk hk=>?_) w a;show RX c ss[k] (pSh n (ss.getD k .nothing));rw [ua6,ub2 hk,Option.getD_some];exact hc _ (h k hk).1 (h k hk).2
noncomputable def seg (w:List Nat)(a b:Nat):List Nat:=(w.drop a).take (b - a)
theorem G8 (x y:List Nat):wD (x++y)=wD x++wD y:=by unfold wD;rw [uk4]
theorem MB:∀(r y:Nat),nb (r + 1) y = .int ((y / 256 ^ r % 256:Nat):Int) :: nb r y
 | 0,y=>by rw [nb,nb,nb,un2,Nat.div_one];rfl
 | r + 1,y=>by
   rw [show nb (r + 1 + 1) y=nb (r + 1) (y / 256)++[.int ((y % 256:Nat):Int)] from rfl,MB r (y / 256),ui6,show nb (r + 1) y=nb r (y / 256)++[.int ((y % 256:Nat):Int)] from rfl,uc5,show 256 * 256 ^ r=256 ^ (r + 1) by rw [un3,un0]]
def At (w:List Nat)(a:Nat)(xs:List D):Prop:=∃p q,wD w=p++(xs++q)/\p.length=a
theorem At.left (h:At w a (xs++ys)):At w a xs:=by
 obtain ⟨p,q,e,l⟩:=h;exact ⟨p,ys++q,by rw [e,ug5],l⟩
theorem At.right (h:At w a (xs++ys)):At w (a + xs.length) ys:=by
 obtain ⟨p,q,e,l⟩:=h;exact ⟨p++xs,q,by rw [e,ug5,ug5],by rw [uf6,l]⟩
theorem At.head {c:Nat}(h:At w a (.int (c:Int) :: xs)):w[a]?=some c/\At w (a + 1) xs:=by
 refine ⟨?_,At.right (xs:=[.int (c:Int)]) h⟩;obtain ⟨p,q,e,l⟩:=h;have e1:(wD w)[a]?=some (.int (c:Int)):=by rw [e,ua5 (by lia),l,uo0];rfl
 unfold wD at e1;rw [ug3] at e1
 cases e2:w[a]? with
 | none=>rw [e2] at e1;cases e1
 | some x=>
   rw [e2] at e1;injection e1 with e1
   injection e1 with e1
   rw [show x=c by lia]
theorem Ly {lo:Int}{M:Nat}{w:List Nat}:∀(r x y a:Nat),y / 256 ^ r=x->y<=M->At w a (nb r y)->(Gu lo M r x).run w a = .told (.int (lo + y)) (a + r)
 | 0,x,y,a,hx,hy,h=>by
   rw [un2,Nat.div_one] at hx;subst hx;rfl
 | r + 1,x,y,a,hx,hy,h=>by
   rw [MB] at h;obtain ⟨h1,h2⟩:=h.head;have e:x * 256 + y / 256 ^ r % 256=y / 256 ^ r:=by
    rw [<-hx,un3,<-uc5];lia
   rw [Gu,Bz h1,if_pos (ul3 (by rw [e,Nat.pow_mul];exact Nat.div_le_div_right hy)),Ly r _ y (a + 1) e.symm hy h2]
   congr 1
   lia
theorem LY {w:List Nat}:∀(xs cs:List Nat) (a:Nat),(∀c∈xs,Bw c=true)->At w a (xs.map λ(n:Nat)=>D.int (n:Int))->(G4 xs.length cs).run w a = .told (.str ⟨(cs++xs).toArray⟩) (a + xs.length)
 | [],cs,a,_,_=>by rw [uj4];rfl
 | x :: r,cs,a,hs,h=>by
   obtain ⟨h1,h2⟩:=At.head h;rw [ui4,G4,Bz h1,if_pos (hs x uf1),LY r (cs++[x]) (a + 1) (λc hc=>hs c (ud4 _ hc)) h2,ug5]
   congr 1
   lia
theorem Lq {w:List Nat}{s:Sh}{p:Rd}(hp:∀(v:D) (a:Nat),Af s v=true->At w a (Ao s v)->p.run w a = .told v (a + (Ao s v).length)):∀(es ds:List D) (a:Nat),(∀e∈es,Af s e=true)->At w a (es.map λd=>Ao s d).flatten->(Gs p es.length ds).run w a = .told (.lst (ds++es)) (a + ((es.map λd=>Ao s d).flatten).length)
 | [],ds,a,_,_=>by rw [uj4];rfl
 | e :: r,ds,a,hf,h=>by
   rw [ul6,ug4] at h;rw [ui4,Gs,DL,hp e a (hf e uf1) h.left,RR.thn,Lq hp r (ds++[e]) _ (λx hx=>hf x (ud4 _ hx)) h.right,ug5,ul6,ug4,uf6]
   congr 1
   lia
theorem G9:∀(k n:Nat),wid n<=k->n < 256 ^ k
 | 0,n,h=>by
   by_cases z:n=0
   ·subst z;decide
   ·rw [Fd (by lia)] at h;lia
 | k + 1,n,h=>by
   by_cases z:n=0
   ·subst z;exact Nat.pow_pos (by decide)
   ·rw [Fd (by lia)] at h;have:=G9 k (n / 256) (by lia);rw [Nat.div_lt_iff_lt_mul (by decide)] at this;rw [un3];exact this
theorem Sz {o:Str}(h:Gn o=true):o=Str.ofString "of":=by
 unfold Gn at h;simpa using h
theorem back:∀(n:Nat) (s:Sh),s.depth<=n->wf s=true->∀(w:List Nat) (v:D) (a:Nat),Af s v=true->At w a (Ao s v)->(pSh n s).run w a = .told v (a + (Ao s v).length)
 | 0,s,hs,_,_,_,_,_,_=>absurd s.depth_pos (by lia)
 | n + 1,s,hs,hwf,w,v,a,hf,h=>by
   cases s with
   | nothing=>
     have:v = .non:=by cases v <;> simp [Af,Gm] at hf <;> rfl
     subst this;rfl
   | number lo hi=>
     simp only [wf,uh7,uh2] at hwf
     cases v with
     | int i=>
       simp only [Af,uh7,uh2] at hf;rw [Ao] at h ⊢;rw [pSh,Ly (wid (hi - lo).toNat) 0 (i - lo).toNat a ?_ (by lia) h,Ds]
       ·congr 2;lia
       ·exact Nat.div_eq_of_lt (ug0 (show (i - lo).toNat<=(hi - lo).toNat by lia) (G9 _ _ (uo3 _)))
     | _=>simp [Af] at hf
   | text q=>
     cases v with
     | str x=>
       simp only [Af,uh7,uh2,ui1] at hf;rw [Ao] at h ⊢;obtain ⟨h1,h2⟩:=At.head h;rw [pSh,Bz h1,if_pos (ul3 hf.1)];have hl:x.length=x.cps.toList.length:=rfl;rw [hl,LY x.cps.toList [] (a + 1) hf.2 h2,uj9,ui4,uj7]
       congr 1
       lia
     | _=>simp [Af] at hf
   | list s q=>
     simp only [wf,uh7,uh2] at hwf;rw [Sh.depth] at hs
     cases v with
     | lst ds=>
       rw [Af,uh7,uh2,ui1] at hf;rw [Ao] at h ⊢;obtain ⟨h1,h2⟩:=At.head h;rw [pSh,Bz h1,if_pos (ul3 hf.1),Lq (λv a=>back n s (by lia) hwf.2 w v a) ds [] (a + 1) hf.2 h2,uj9,ui4]
       congr 1
       lia
     | _=>simp [Af] at hf
   | pair s r=>
     simp only [wf,uh7] at hwf;rw [Sh.depth] at hs;unfold Af at hf
     split at hf
     ·rw [uh7] at hf;rw [Ao] at h ⊢;rw [pSh,DL,back n s (by lia) hwf.1 w _ a hf.1 h.left,RR.thn,DL,back n r (by lia) hwf.2 w _ _ hf.2 h.right,RR.thn,Rd.run,uf6,um0]
     ·cases hf
   | choice ss=>
     simp only [wf,uh7,uh2] at hwf;rw [Sh.depth] at hs;unfold Af at hf
     split at hf
     ·next o k x=>
      simp only [uh7,uh2] at hf;obtain ⟨j,rfl⟩:=ub6 hf.1.2.1;have hj:j < ss.length:=by have:=hf.1.2.2;lia
      have e1:ss[j]?=some ss[j]:=ub2 hj;have h2:=hf.2;rw [uh0,Bu ss _ _ _ e1] at h2;rw [Ao,uh0,Bg ss _ _ _ e1] at h ⊢;obtain ⟨h3,h4⟩:=At.head h;have ho:o=Str.ofString "of":=Sz hf.1.1;subst ho;rw [pSh,Bz h3,if_pos (ul3 hj),ua6,e1,Option.getD_some,DL,back n _ (um5 (Cv ss _ _ e1) (by lia)) (BB hwf.2 _ (ui3 hj)) w x (a + 1) h2 h4,RR.thn,Rd.run,ui4]
      congr 1
      lia
     ·cases hf
mutual
def vb:D->Nat
 | .int _=>8
 | .str x=>1 + x.length
 | .lst ds=>1 + vbs ds
 | .tup ds=>1 + vbs ds
 | _=>0
def vbs:List D->Nat
 | []=>0
 | d :: r=>vb d + vbs r
end
theorem Fp (h:Af .nothing v=true):v = .non:=by cases v <;> simp [Af,Gm] at h <;> rfl
theorem Dg (h:Af (.number lo hi) v=true):∃i,v = .int i/\lo<=i/\i<=hi:=by
 cases v <;> simp [Af] at h
 exact ⟨_,rfl,h⟩
theorem D6 (h:Af (.text q) v=true):∃x,v = .str x/\(x.length:Int)<=q:=by
 cases v <;> simp only [Af,uf7] at h
 simp only [uh7,uh2] at h;exact ⟨_,rfl,h.1⟩
theorem D4 (h:Af (.list s q) v=true):∃ds,v = .lst ds/\(ds.length:Int)<=q/\∀d∈ds,Af s d=true:=by
 cases v <;> simp only [Af,uf7] at h
 simp only [uh7,uh2,ui1] at h;exact ⟨_,rfl,h.1,h.2⟩
theorem D5 {a:Sh}(h:Af (.pair a b) v=true):∃x y,v = .tup [x,y]/\Af a x=true/\Af b y=true:=by
 unfold Af at h
 split at h
 ·rw [uh7] at h;exact ⟨_,_,rfl,h.1,h.2⟩
 ·cases h
theorem Df (h:Af (.choice ss) v=true):∃(k:Nat) (x:D) (hk:k < ss.length),v = .tup [.str ("of" : Str),.int (k:Nat),x]/\Af ss[k] x=true:=by
 unfold Af at h
 split at h
 ·next o k x=>
  simp only [uh7,uh2] at h;have hk:k.toNat < ss.length:=by lia
  have h2:=h.2;rw [Bu ss _ _ _ (ub2 hk)] at h2;have ho:o=("of" : Str):=eq_of_beq h.1.1;subst ho;exact ⟨k.toNat,x,hk,by rw [ue6 h.1.2.1],h2⟩
 ·cases h
theorem Mr {f:D->List D}:∀{ds:List D},(∀d∈ds,(f d).length<=vb d)->((ds.map f).flatten).length<=vbs ds
 | [],_=>uo5 _
 | d :: r,h=>by
   rw [ul6,ug4,uf6,vbs];exact Nat.add_le_add (h d uf1) (Mr λx m=>h x (ud4 _ m))
theorem DI:∀(n:Nat) (s:Sh),s.depth<=n->wf s=true->∀v,Af s v=true->(Ao s v).length<=vb v
 | 0,s,h,_,_,_=>absurd s.depth_pos (by lia)
 | n + 1,s,hd,hw,v,h=>by
   cases s with
   | nothing=>rw [Ao];exact uo5 _
   | number lo hi=>
     obtain ⟨i,rfl,_,_⟩:=Dg h;rw [Ao,Ds,vb];exact (IR hw).2.2.2
   | text q=>
     obtain ⟨x,rfl,_⟩:=D6 h;rw [Ao,vb,ui4,uj7];show x.cps.toList.length + 1<=1 + x.cps.toList.length;lia
   | list s q=>
     rw [Sh.depth] at hd;simp only [wf,uh7] at hw;obtain ⟨ds,rfl,_,hds⟩:=D4 h;rw [Ao,vb,ui4];have:=Mr (f:=λd=>Ao s d) (λd m=>DI n s (by lia) hw.2 d (hds d m));lia
   | pair a b=>
     rw [Sh.depth] at hd;simp only [wf,uh7] at hw;obtain ⟨x,y,rfl,h1,h2⟩:=D5 h;rw [Ao,vb,vbs,vbs,vbs,uf6];have:=DI n a (by lia) hw.1 x h1;have:=DI n b (by lia) hw.2 y h2;lia
   | choice ss=>
     rw [Sh.depth] at hd;simp only [wf,uh7] at hw;obtain ⟨k,x,hk,rfl,h1⟩:=Df h;rw [Ao,vb,vbs,vbs,vbs,vbs,ui4,uh0,Bg ss k _ x (ub2 hk)];have:=DI n _ (um5 (AN (ui3 hk)) (by lia)) (BB hw.2 _ (ui3 hk)) x h1;lia
theorem J2 {g:Fn}{S:List Ob}:∀{ds:List D} {b:D×Int} {env:List (Option Sl)} {P:D->T->Prop},(∀d∈ds,Wf g [d] S λr S'=>(∃i:Int,r = .int i)/\S'=S)->(∀x,(x=b.1\/x∈ds)->P x ⟨env,S⟩)->W (Hm g ds b) ⟨env,S⟩ P
 | [],b,env,P,_,h=>⟨_,_,rfl,h b.1 (.inl rfl)⟩
 | x :: r,b,env,P,hk,h=>by
   obtain ⟨v,S',e,⟨i,rfl⟩,rfl⟩:=hk x uf1;have w:=J2 (b:=if i < b.2 then (x,i) else b) (env:=env) (P:=P) (λd m=>hk d (ud4 _ m)) (λy hy=>h y (by
    rcases hy with hy | hy
    ·subst hy
     split
     ·exact .inr uf1
     ·exact .inl rfl
    ·exact .inr (ud4 _ hy)))
   obtain ⟨r',t',e',q⟩:=w;exact ⟨r',t',by unfold Hm;simp only [e];exact e',q⟩
theorem Xz {g:Fn}(h:W f t λd t1=>∃x r,d = .lst (x :: r)/\(∀d∈x :: r,Wf g [d] t1.S λr S'=>(∃i:Int,r = .int i)/\S'=t1.S)/\∀y∈x :: r,P y t1):W (Ko g f) t P:=by
 refine Ee (h.mono λd t1 z9=>?_);obtain ⟨x,r,e,hk,hp⟩:=z9;subst e;obtain ⟨env,S⟩:=t1;obtain ⟨v,S',e,⟨i,rfl⟩,rfl⟩:=hk x uf1;obtain ⟨r',t',e',q⟩:=J2 (b:=(x,i)) (env:=env) (P:=P) (λd m=>hk d (ud4 _ m)) (λy hy=>hp y (by
  rcases hy with rfl | hy
  ·exact uf1
  ·exact ud4 _ hy))
 exact ⟨r',t',by unfold Kr;simp only [e];exact e',q⟩
theorem Fe {p:D->Prop}(h:∀d∈ds,W elt ⟨some (.val d) :: fr,S⟩ λx t'=>p x/\t'=⟨some (.val d) :: fr,S⟩) :
 W (Bm (Aw 0) Ba elt ds) ⟨z :: fr,S⟩ λxs t'=>(xs.length=ds.length/\∀x∈xs,p x)/\t'.S=S:=by
 refine (CY (P:=λxs t'=>(xs.length=ds.length/\∀x∈xs,p x)/\t'.S=S) (λacc r t=>(acc.length + r.length=ds.length/\∀x∈acc,p x)/\∃z,t=⟨z :: fr,S⟩) ds [] _ ⟨⟨by simp,λ_ z=>nomatch z⟩,z,rfl⟩ ?_ ?_).mono λxs t' h=>h
 ·rintro acc d r t ⟨⟨h1,h2⟩,z,rfl⟩ hm;refine E9 (FE ?_);rw [if_pos rfl];refine (h d hm).mono λx t' z9=>?_;obtain ⟨hx,e⟩:=z9;subst e;refine ⟨⟨by rw [uf6,ud2];rw [ui4] at h1;lia,λy hy=>?_⟩,_,rfl⟩;rcases uj1.mp hy with hy | hy
  ·exact h2 y hy
  ·rw [uf8.mp hy];exact hx
 ·rintro acc t ⟨⟨h1,h2⟩,z,rfl⟩;exact ⟨⟨by simpa using h1,h2⟩,rfl⟩
theorem IK:∀{xs:List D},(∀x∈xs,∃i:Int,x = .int i)->∃ns,CN xs=some ns
 | [],_=>⟨[],rfl⟩
 | x :: r,h=>by
   obtain ⟨i,rfl⟩:=h x uf1;obtain ⟨ns,e⟩:=IK λy m=>h y (ud4 _ m);exact ⟨i :: ns,by simp [CN,e]⟩
def Ix (f:Fn)(n:Nat):Prop:=∀s:Sh,s.depth<=n->wf s=true->∀d,Af s d=true->∀S,Wf f [d] S λr S'=>(∃i:Int,r = .int i)/\S'=S
theorem Wl (hc:n=0\/Ix c n):Ix (fnOf 1 1 (Fz c)) (n + 1):=by
 intro s hs hw d hf S;have hL:LIM=100000:=rfl;have hc':∀x:Sh,x.depth<=n->Ix c n:=λx hx=>hc.resolve_left λz=>by subst z;exact absurd x.depth_pos (by lia)
 refine Ap rfl ?_;unfold Fz
 cases s with
 | nothing=>
   rw [Fp hf];left;exact ⟨⟨_,rfl⟩,rfl⟩
 | number lo hi=>
   obtain ⟨i,rfl,_,_⟩:=Dg hf;left;exact ⟨⟨_,rfl⟩,rfl⟩
 | text q=>
   obtain ⟨x,rfl,_⟩:=D6 hf;left;exact ⟨⟨_,rfl⟩,rfl⟩
 | list s q=>
   rw [Sh.depth] at hs;simp only [wf,uh7,uh2] at hw;obtain ⟨ds,rfl,hl,hds⟩:=D4 hf;left;refine (Fe (p:=λx=>∃i:Int,x = .int i) (fr:=[]) (λd m=>?_)).mono λxs t' ⟨⟨hl2,hx⟩,e⟩=>?_
   ·left;exact (hc' s (by lia) s (by lia) hw.2 d (hds d m) S).mono λr S' ⟨q1,q2⟩=>⟨q1,by rw [q2]⟩
   ·obtain ⟨ns,en⟩:=IK hx;refine AC (by rw [hL,hl2];lia) ?_;left;refine Im en ?_;left;exact ⟨⟨_,rfl⟩,e⟩
 | pair a b=>
   rw [Sh.depth] at hs;simp only [wf,uh7] at hw;obtain ⟨x,y,rfl,h1,h2⟩:=D5 hf;left;refine (hc' a (by lia) a (by lia) hw.1 x h1 S).mono λr S1 z9=>?_;obtain ⟨⟨i,e1⟩,e2⟩:=z9;subst e1 e2;left;refine (hc' a (by lia) b (by lia) hw.2 y h2 _).mono λr S2 z9=>?_;obtain ⟨⟨j,e1⟩,e2⟩:=z9;subst e1 e2;left;exact ⟨⟨_,rfl⟩,rfl⟩
 | choice ss=>
   rw [Sh.depth] at hs;simp only [wf,uh7] at hw;obtain ⟨k,x,hk,rfl,h1⟩:=Df hf;have hd:=um5 (AN (ui3 hk)) (show AG ss<=n by lia);left;refine (hc' _ hd _ hd (BB hw.2 _ (ui3 hk)) x h1 S).mono λr S1 z9=>?_;obtain ⟨⟨i,e1⟩,e2⟩:=z9;subst e1 e2;left;exact ⟨⟨_,rfl⟩,rfl⟩
def MX (f:Fn)(n:Nat):Prop:=∀s:Sh,s.depth<=n->wf s=true->∀x xs,(∀d∈x :: xs,Af s d=true)->∀S,Wf f [.lst (x :: xs)] S λr S'=>r∈x :: xs/\S'=S
theorem V8 (hc:Ix c n):MX (fnOf 1 1 (Gq c)) n:=by
 intro s hs hw x xs hx S;refine Ap rfl ?_;unfold Gq;left;refine Xz ?_;left;exact ⟨x,xs,rfl,λd m=>hc s hs hw d (hx d m) S,λy m=>⟨m,rfl⟩⟩
mutual
def lb:Sh->Nat
 | .nothing=>0
 | .number _ _=>8
 | .text _=>1
 | .list _ _=>1
 | .pair a b=>1 + lb a + lb b
 | .choice ss=>12 + lbs ss
def lbs:List Sh->Nat
 | []=>0
 | s :: r=>lb s + lbs r
end
theorem Mx:∀{ss:List Sh} {s:Sh},s∈ss->lb s<=lbs ss
 | s :: r,_,.head _=>by rw [lbs];lia
 | s :: r,x,.tail _ h=>by rw [lbs];have:=Mx h;lia
def DG (f:Fn)(n:Nat):Prop:=∀s:Sh,s.depth<=n->wf s=true->∀S,Wf f [s.d] S λr S'=>(Af s r=true/\vb r<=lb s)/\S'=S
theorem IG (hk:k < ss.length)(h:Af ss[k] x=true):Af (.choice ss) (.tup [.str ("of" : Str),.int (k:Nat),x])=true:=by
 rw [Af,uh0,Bu ss k _ x (ub2 hk),h];simp only [ul8,uh7,uh2];exact ⟨by decide +kernel,by lia,by lia⟩
theorem NO:vb (.tup [.str ("of" : Str),.int (k:Nat),x])=12 + vb x:=by
 rw [vb,vbs,vbs,vbs,vbs,vb,vb];rw [show (Str.ofString "of").length=2 from by decide +kernel];lia
theorem Qk (hc:n=0\/DG c n)(hs:MX cs (n + 1)):DG (fnOf 1 2 (Ep c cs)) (n + 1):=by
 intro s hd hw S;have hL:LIM=100000:=rfl;have hc':∀x:Sh,x.depth<=n->DG c n:=λx hx=>hc.resolve_left λz=>by subst z;exact absurd x.depth_pos (by lia)
 refine Ap rfl ?_;unfold Ep
 cases s with
 | nothing=>
   rw [Sh.d];left;exact ⟨⟨by rw [Af];rfl,by simp [vb]⟩,rfl⟩
 | number lo hi=>
   have:=(IR hw).1;rw [Sh.d];left;exact ⟨⟨by rw [Af];simp;lia,by rw [vb,lb];exact uo3 _⟩,rfl⟩
 | text q=>
   simp only [wf,uh7,uh2] at hw;rw [Sh.d];left;refine ⟨⟨?_,?_⟩,rfl⟩
   ·rw [Af,show (Str.ofString "").length=0 from by decide +kernel,show (Str.ofString "").cps.toList=[] from by decide +kernel];simp;lia
   ·rw [vb,lb,show (Str.ofString "").length=0 from by decide +kernel];lia
 | list s q=>
   simp only [wf,uh7,uh2] at hw;rw [Sh.d];left;exact ⟨⟨by rw [Af];simp;lia,by rw [vb,lb,vbs];lia⟩,rfl⟩
 | pair a b=>
   rw [Sh.depth] at hd;simp only [wf,uh7] at hw;rw [Sh.d];left;refine (hc' a (by lia) a (by lia) hw.1 S).mono λx S1 z9=>?_;obtain ⟨⟨h1,h2⟩,e⟩:=z9;subst e;left;refine (hc' a (by lia) b (by lia) hw.2 _).mono λy S2 z9=>?_;obtain ⟨⟨h3,h4⟩,e⟩:=z9;subst e;left;exact ⟨⟨by rw [Af,h1,h3];rfl,by rw [vb,vbs,vbs,vbs,lb];lia⟩,rfl⟩
 | choice ss=>
   have hw0:=hw;have hd0:=hd;rw [Sh.depth] at hd;simp only [wf,uh7,uh2] at hw;rw [Sh.d];left;rw [AJ];refine Cm (Bf (by lia) (by lia)) ?_;rw [uh0];refine (Fe (p:=λx=>Af (.choice ss) x=true/\vb x<=lb (.choice ss)) (λd m=>?_)).mono λxs t' ⟨⟨hl2,hx⟩,e⟩=>?_
   ·rw [Ht] at m;obtain ⟨k,hk,rfl⟩:=un4.mp m;have hk:=uk8.mp hk;have hd2:=um5 (AN (ui3 hk)) (show AG ss<=n by lia);rw [un7];left;refine DE (Ey hk) ?_;left;refine (hc' _ hd2 _ hd2 (BB hw.2 _ (ui3 hk)) S).mono λx S1 z9=>?_;obtain ⟨⟨h1,h2⟩,e⟩:=z9;subst e;left;exact ⟨⟨IG hk h1,by rw [NO,lb];have:=Mx (ui3 hk);lia⟩,rfl⟩
   ·rw [AO] at hl2;refine AC (by rw [hL,hl2];lia) ?_;left
    cases xs with
    | nil=>exact absurd hl2 (by rw [uk5];lia)
    | cons x xs=>
      rw [e];refine (hs _ hd0 hw0 x xs (λd m=>(hx d m).1) S).mono λr S1 z9=>?_;obtain ⟨h1,h2⟩:=z9;subst h2;left;exact ⟨hx r h1,rfl⟩
mutual
def sub:Sh->Sh->Bool
 | .nothing,r=>match r with
   | .nothing=>true
   | _=>false
 | .number l h,r=>match r with
   | .number l' h'=>decide (l'<=l) && decide (h<=h')
   | _=>false
 | .text q,r=>match r with
   | .text q'=>decide (q<=q')
   | _=>false
 | .list s q,r=>match r with
   | .list s' q'=>decide (q<=q') && (decide (q=0) || sub s s')
   | _=>false
 | .pair a b,r=>match r with
   | .pair a' b'=>sub a a' && sub b b'
   | _=>false
 | .choice ss,r=>match r with
   | .choice rs=>decide (ss.length<=rs.length) && Gy ss rs
   | _=>false
def Gy:List Sh->List Sh->Bool
 | [],_=>true
 | s :: ss,rs=>match rs with
   | r :: rs=>sub s r && Gy ss rs
   | []=>true
end
theorem SA {r:Sh}(h:Al s r=true):Az s=Az r:=by
 by_cases z:Az s=Az r
 ·exact z
 ·rw [FF z] at h;cases h
theorem Ig:∀{ss rs:List Sh},(∀k (h1:k < ss.length) (h2:k < rs.length),sub ss[k] rs[k]=true)->Gy ss rs=true
 | [],rs,_=>by rw [Gy]
 | s :: ss,[],_=>by rw [Gy]
 | s :: ss,r :: rs,h=>by
   rw [Gy,uh7];exact ⟨h 0 (ui7 _) (ui7 _),Ig λk h1 h2=>h (k + 1) (ui8 h1) (ui8 h2)⟩
theorem Lh:∀{ss rs:List Sh},Gy ss rs=true->∀k (h1:k < ss.length) (h2:k < rs.length),sub ss[k] rs[k]=true
 | s :: ss,r :: rs,h,0,_,_=>by rw [Gy,uh7] at h;exact h.1
 | s :: ss,r :: rs,h,k + 1,h1,h2=>by rw [Gy,uh7] at h;exact Lh h.2 k (uc8 h1) (uc8 h2)
 | [],_,_,k,h1,_=>absurd h1 (uk3 _)
 | _ :: _,[],_,k,_,h2=>absurd h2 (uk3 _)
theorem Jb:∀{ss rs:List Sh},(∀k (h1:k < ss.length) (h2:k < rs.length),Al ss[k] rs[k]=true)->AD ss rs=true
 | [],rs,_=>by rw [AD]
 | s :: ss,[],_=>by rw [AD]
 | s :: ss,r :: rs,h=>by
   rw [AD,uh7];exact ⟨h 0 (ui7 _) (ui7 _),Jb λk h1 h2=>h (k + 1) (ui8 h1) (ui8 h2)⟩
theorem D2:∀(n:Nat) (s r:Sh),s.depth<=n->Al s r=true->sub s r=true
 | 0,s,_,h,_=>absurd s.depth_pos (by lia)
 | n + 1,s,r,hd,h=>by
   have hk:=SA h
   cases s with
   | nothing=>
     cases r <;> first | (simp [Az] at hk;done) | skip
     rw [sub]
   | number l h'=>
     cases r <;> first | (simp [Az] at hk;done) | skip
     rw [Al,uh7,uh7,uh2,uh2] at h;rw [sub,uh7,uh2,uh2];exact ⟨by lia,h.2.2⟩
   | text q=>
     cases r <;> first | (simp [Az] at hk;done) | skip
     rw [Al] at h;rw [sub];exact h
   | list s q=>
     cases r <;> first | (simp [Az] at hk;done) | skip
     rw [Sh.depth] at hd;rw [Al,uh7,uk1] at h;rw [sub,uh7,uk1];exact ⟨h.1,h.2.imp id (D2 n _ _ (by lia))⟩
   | pair a b=>
     cases r <;> first | (simp [Az] at hk;done) | skip
     rw [Sh.depth] at hd;rw [Al,uh7] at h;rw [sub,uh7];exact ⟨D2 n _ _ (by lia) h.1,D2 n _ _ (by lia) h.2⟩
   | choice ss=>
     cases r <;> first | (simp [Az] at hk;done) | skip
     rw [Sh.depth] at hd;rw [Al,uh7] at h;rw [sub,uh7];exact ⟨h.1,Ig λk h1 h2=>D2 n _ _ (um5 (AN (ui3 h1)) (by lia)) (FG h.2 (ub2 h1) (ub2 h2))⟩
theorem Rf {b:Nat}(h:a<=b):wid a<=wid b:=F3 _ _ (ug0 h (G9 _ _ (uo3 _)))
theorem Lf {f g:D->List D}:∀{ds:List D},(∀d∈ds,(f d).length<=(g d).length)->((ds.map f).flatten).length<=((ds.map g).flatten).length
 | [],_=>uo3 _
 | d :: r,h=>by
   rw [ul6,ug4,uf6,ul6,ug4,uf6];exact Nat.add_le_add (h d uf1) (Lf λx m=>h x (ud4 _ m))
theorem Q1 {r:Sh}(h:sub s r=true):Az s=Az r:=by
 cases s <;> cases r <;> first | rfl | (unfold sub at h;cases h)
theorem Dl:∀(n:Nat) (s r:Sh),s.depth<=n->sub s r=true->∀v,Af s v=true->Af r v=true/\(Ao s v).length<=(Ao r v).length
 | 0,s,_,h,_,_,_=>absurd s.depth_pos (by lia)
 | n + 1,s,r,hd,h,v,hf=>by
   have hk:=Q1 h
   cases s with
   | nothing=>
     cases r <;> first | (simp [Az] at hk;done) | skip
     exact ⟨hf,uo3 _⟩
   | number l h'=>
     cases r <;> first | (simp [Az] at hk;done) | skip
     rename_i l2 h2;rw [sub,uh7,uh2,uh2] at h;obtain ⟨i,rfl,i1,i2⟩:=Dg hf;refine ⟨by rw [Af,uh7,uh2,uh2];lia,?_⟩;rw [Ao,Ao,Ds,Ds];exact Rf (by lia)
   | text q=>
     cases r <;> first | (simp [Az] at hk;done) | skip
     rw [sub,uh2] at h;obtain ⟨x,rfl,hx⟩:=D6 hf;rw [Af,uh7] at hf;refine ⟨by rw [Af,uh7,uh2];exact ⟨by lia,hf.2⟩,?_⟩;rw [Ao,Ao];exact uo3 _
   | list s q=>
     cases r <;> first | (simp [Az] at hk;done) | skip
     rw [Sh.depth] at hd;rw [sub,uh7,uk1,uh2,uh2] at h;obtain ⟨ds,rfl,hl,hds⟩:=D4 hf;have hs:∀d∈ds,Af s d=true->_:=λd m hd'=>(h.2.resolve_left (λz=>by
      have:ds.length=0:=by lia
      rw [ub5] at this;subst this;cases m))
     refine ⟨?_,?_⟩
     ·rw [Af,uh7,uh2,ui1];exact ⟨by lia,λd m=>(Dl n _ _ (by lia) (hs d m (hds d m)) d (hds d m)).1⟩
     ·rw [Ao,Ao,ui4,ui4];exact ui5 (Lf λd m=>(Dl n _ _ (by lia) (hs d m (hds d m)) d (hds d m)).2)
   | pair a b=>
     cases r <;> first | (simp [Az] at hk;done) | skip
     rw [Sh.depth] at hd;rw [sub,uh7] at h;obtain ⟨x,y,rfl,h1,h2⟩:=D5 hf;have q1:=Dl n _ _ (by lia) h.1 x h1;have q2:=Dl n _ _ (by lia) h.2 y h2;refine ⟨by rw [Af,q1.1,q2.1];rfl,?_⟩;rw [Ao,Ao,uf6,uf6];lia
   | choice ss=>
     cases r <;> first | (simp [Az] at hk;done) | skip
     rename_i rs;rw [Sh.depth] at hd;rw [sub,uh7,uh2] at h;obtain ⟨k,x,hk1,rfl,h1⟩:=Df hf;have hk2:k < rs.length:=by lia
     have q:=Dl n _ _ (um5 (AN (ui3 hk1)) (by lia)) (Lh h.2 k hk1 hk2) x h1;refine ⟨IG hk2 q.1,?_⟩;rw [Ao,Ao,ui4,ui4,uh0,Bg ss k _ x (ub2 hk1),Bg rs k _ x (ub2 hk2)];exact ui5 q.2
def Tp (s r:Sh)(vs:List D):Prop:=(∃v∈vs,Af r v=false)\/(sub s r=true/\(Al s r=false->∃v∈vs,Ao s v≠Ao r v))
def Parts (s r:Sh)(v:D):Prop:=Af r v=false\/Ao s v≠Ao r v
variable {vs:List D}
theorem Tp.parts {r:Sh}(h:Tp s r vs)(hw:Al s r=false):∃v∈vs,Parts s r v:=by
 rcases h with ⟨v,m,e⟩ | ⟨_,h⟩
 ·exact ⟨v,m,.inl e⟩
 ·obtain ⟨v,m,e⟩:=h hw;exact ⟨v,m,.inr e⟩
theorem Nj {r:Sh}(hk:Az s≠Az r){v:D}(h:Af s v=true):Af r v=false:=by
 cases s with
 | nothing=>rw [Fp h];cases r <;> first | exact absurd rfl hk | rfl
 | number l h'=>obtain ⟨i,rfl,_⟩:=Dg h;cases r <;> first | exact absurd rfl hk | rfl
 | text q=>obtain ⟨x,rfl,_⟩:=D6 h;cases r <;> first | exact absurd rfl hk | rfl
 | list s q=>obtain ⟨ds,rfl,_⟩:=D4 h;cases r <;> first | exact absurd rfl hk | rfl
 | pair a b=>obtain ⟨x,y,rfl,_⟩:=D5 h;cases r <;> first | exact absurd rfl hk | rfl | (unfold Af;rfl) | simp [Af]
 | choice ss=>obtain ⟨k,x,_,rfl,_⟩:=Df h;cases r <;> first | exact absurd rfl hk | rfl
theorem Pq {l h l' h':Int}(w:l<=h):Tp (.number l h) (.number l' h') [.int l,.int h]:=by
 by_cases q1:l < l'
 ·exact .inl ⟨.int l,uf1,by rw [Af];simp;lia⟩
 ·by_cases q2:h' < h
  ·exact .inl ⟨.int h,ud4 _ uf1,by rw [Af];simp;lia⟩
  ·refine .inr ⟨by rw [sub,uh7,uh2,uh2];lia,λhw=>⟨.int l,uf1,λe=>?_⟩⟩;rw [Ao,Ao] at e;have hlen:=congrArg List.length e;rw [Ds,Ds] at hlen;rw [hlen] at e;have:=OU _ _ _ (ug0 (show (l - l).toNat<=(h' - l').toNat by lia) (G9 _ _ (uo3 _))) (ug0 (show (l - l').toNat<=(h' - l').toNat by lia) (G9 _ _ (uo3 _))) e;have hl:l=l':=by lia
   have hww:Al (.number l h) (.number l' h')=true:=by
    rw [Al,uh7,uh7,uh2,uh2,beq_iff_eq];exact ⟨hl,hlen,by lia⟩
   rw [hww] at hw;cases hw
theorem Pd {x y x' y':List D}(e:x++y=x'++y')(h1:x.length<=x'.length)(h2:y.length<=y'.length):x=x'/\y=y':=by
 have hl:=congrArg List.length e;rw [uf6,uf6] at hl;exact List.append_inj e (by lia)
theorem T8 {a a' b':Sh}{va vb':List D}{y:D}(ha:Tp a a' va)(hb:Tp b b' vb')(hx:Af a x=true)(hy:Af b y=true)(ga:∀v∈va,Af a v=true)(gb:∀v∈vb',Af b v=true):Tp (.pair a b) (.pair a' b') (va.map (λv=>.tup [v,y])++vb'.map λv=>.tup [x,v]):=by
 by_cases q1:∃v∈va,Af a' v=false
 ·obtain ⟨v,m,e⟩:=q1;exact .inl ⟨.tup [v,y],ud5 _ (ue9 m),by rw [Af,e];rfl⟩
 ·by_cases q2:∃v∈vb',Af b' v=false
  ·obtain ⟨v,m,e⟩:=q2;exact .inl ⟨.tup [x,v],uc9 _ (ue9 m),by rw [Af,e,ul0]⟩
  ·obtain ⟨sa,ha⟩:=ha.resolve_left q1;obtain ⟨sb,hb⟩:=hb.resolve_left q2;refine .inr ⟨by rw [sub,sa,sb];rfl,λhw=>?_⟩;rw [Al,ud3] at hw;rcases hw with hw | hw
   ·obtain ⟨v,m,e⟩:=ha hw;refine ⟨.tup [v,y],ud5 _ (ue9 m),λz=>e ?_⟩;rw [Ao,Ao] at z;exact (Pd z (Dl _ _ _ (uo3 _) sa v (ga v m)).2 (Dl _ _ _ (uo3 _) sb y hy).2).1
   ·obtain ⟨v,m,e⟩:=hb hw;refine ⟨.tup [x,v],uc9 _ (ue9 m),λz=>e ?_⟩;rw [Ao,Ao] at z;exact (Pd z (Dl _ _ _ (uo3 _) sa x hx).2 (Dl _ _ _ (uo3 _) sb v (gb v m)).2).2
theorem T7 (hs:Tp s s' vs)(h1:1<=q)(h2:q<=q'):Tp (.list s q) (.list s' q') (vs.map λv=>.lst [v]):=by
 rcases hs with ⟨v,m,e⟩ | ⟨sa,h⟩
 ·exact .inl ⟨.lst [v],ue9 m,by rw [Af];simp [e]⟩
 ·refine .inr ⟨by rw [sub,sa];simp [h2],λhw=>?_⟩;rw [Al,ul3 h2,ul9,ud8] at hw;obtain ⟨v,m,e⟩:=h hw.2;refine ⟨.lst [v],ue9 m,λz=>e ?_⟩;rw [Ao,Ao] at z;simpa using z
theorem Q5 (h0:0<=q')(hd:ds.length=(q' + 1).toNat):Tp (.list s q) (.list s' q') (vs++[.lst ds]):=
 .inl ⟨.lst ds,uc9 _ uf1,by rw [Af,ud3];exact .inl (by simp;lia)⟩
theorem Pp (hl:ss.length<=rs.length)(h:∀k (h1:k < ss.length) (h2:k < rs.length),∃ws,Tp ss[k] rs[k] ws/\∀w∈ws,.tup [.str ("of" : Str),.int (k:Nat),w]∈vs):Tp (.choice ss) (.choice rs) vs:=by
 by_cases q:∃v∈vs,Af (.choice rs) v=false
 ·exact .inl q
 ·have hs:∀k (h1:k < ss.length) (h2:k < rs.length),sub ss[k] rs[k]=true/\(Al ss[k] rs[k]=false->∃w,.tup [.str ("of" : Str),.int (k:Nat),w]∈vs/\Ao ss[k] w≠Ao rs[k] w):=λk h1 h2=>by
   obtain ⟨ws,t,hm⟩:=h k h1 h2;obtain ⟨t1,t2⟩:=t.resolve_left (λ⟨v,m,e⟩=>q ⟨_,hm v m,by
    rw [Af,uh0,Bu rs k _ v (ub2 h2),e,ul0]⟩)
   exact ⟨t1,λz=>let ⟨v,m,e⟩:=t2 z;⟨v,hm v m,e⟩⟩
  refine .inr ⟨by rw [sub,ul3 hl,Ig λk h1 h2=>(hs k h1 h2).1];rfl,λhw=>?_⟩;rw [Al,ul3 hl,ul9] at hw;have:∃k,∃(h1:k < ss.length) (h2:k < rs.length),Al ss[k] rs[k]=false:=by
   refine Classical.byContradiction λz=>?_;rw [Jb λk h1 h2=>Classical.byContradiction λy=>z ⟨k,h1,h2,by simpa using y⟩] at hw
   cases hw
  obtain ⟨k,h1,h2,e⟩:=this;obtain ⟨w,m,ne⟩:=(hs k h1 h2).2 e;refine ⟨_,m,λz=>ne ?_⟩;rw [Ao,Ao,uh0,Bg ss k _ w (ub2 h1),Bg rs k _ w (ub2 h2)] at z;exact (List.cons.inj z).2
mutual
def tbq:Sh->Nat
 | .nothing=>0
 | .number _ _=>8
 | .text _=>252
 | .list s _=>1 + tbq s + 6 * lb s
 | .pair a b=>1 + tbq a + tbq b
 | .choice ss=>12 + Gz ss
def Gz:List Sh->Nat
 | []=>0
 | s :: r=>tbq s + Gz r
end
theorem Ii:∀{ss:List Sh} {s:Sh},s∈ss->tbq s<=Gz ss
 | s :: r,_,.head _=>by rw [Gz];lia
 | s :: r,x,.tail _ h=>by rw [Gz];have:=Ii h;lia
mutual
theorem Go:∀s:Sh,lb s<=tbq s
 | .nothing=>uo3 _
 | .number _ _=>uo3 _
 | .text _=>by rw [lb,tbq];lia
 | .list s q=>by rw [lb,tbq];lia
 | .pair a b=>by rw [lb,tbq];have:=Go a;have:=Go b;lia
 | .choice ss=>by rw [lb,tbq];have:=My ss;lia
theorem My:∀ss:List Sh,lbs ss<=Gz ss
 | []=>uo3 _
 | s :: r=>by rw [lbs,Gz];have:=Go s;have:=My r;lia
end
mutual
theorem IP:∀s:Sh,lb s<=12 * cnt s
 | .nothing=>by rw [lb,cnt];lia;all_goals simp
 | .number _ _=>by rw [lb,cnt];lia;all_goals simp
 | .text _=>by rw [lb,cnt];lia;all_goals simp
 | .list s q=>by rw [lb,cnt];lia
 | .pair a b=>by rw [lb,cnt];have:=IP a;have:=IP b;lia
 | .choice ss=>by rw [lb,cnt];have:=Mw ss;lia
theorem Mw:∀ss:List Sh,lbs ss<=12 * cnts ss
 | []=>uo3 _
 | s :: r=>by rw [lbs,cnts];have:=IP s;have:=Mw r;lia
end
mutual
theorem FZ:∀s:Sh,cnt s<=28->tbq s<=2280 * cnt s
 | .nothing,_=>by rw [tbq,cnt];lia;all_goals simp
 | .number _ _,_=>by rw [tbq,cnt];lia;all_goals simp
 | .text _,_=>by rw [tbq,cnt];lia;all_goals simp
 | .list s q,h=>by rw [cnt] at h;rw [tbq,cnt];have:=FZ s (by lia);have:=IP s;lia
 | .pair a b,h=>by rw [cnt] at h;rw [tbq,cnt];have:=FZ a (by lia);have:=FZ b (by lia);lia
 | .choice ss,h=>by rw [cnt] at h;rw [tbq,cnt];have:=L5 ss (by lia);lia
theorem L5:∀ss:List Sh,cnts ss<=28->Gz ss<=2280 * cnts ss
 | [],_=>uo3 _
 | s :: r,h=>by rw [cnts] at h;rw [Gz,cnts];have:=FZ s (by lia);have:=L5 r (by lia);lia
end
mutual
def mst:Sh->Nat
 | .list s q=>max (mst s) q.toNat
 | .pair a b=>max (mst a) (mst b)
 | .choice ss=>C5 ss
 | _=>0
def C5:List Sh->Nat
 | []=>0
 | s :: r=>max (mst s) (C5 r)
end
theorem Lu:∀{ss:List Sh} {s:Sh},s∈ss->mst s<=C5 ss
 | s :: r,_,.head _=>by rw [C5];lia
 | s :: r,x,.tail _ h=>by rw [C5];have:=Lu h;lia
theorem K6:∀{ss:List Sh} {s:Sh},s∈ss->cnt s<=cnts ss
 | s :: r,_,.head _=>by rw [cnts];lia
 | s :: r,x,.tail _ h=>by rw [cnts];have:=K6 h;lia
theorem IE {j:Int}:eqN n (.int i) (.int j)=some (i == j):=by cases n <;> rfl
theorem JX {m:Nat}:∀{xs ys:List D},(∀x∈xs,∃i:Int,x = .int i)->(∀x∈ys,∃i:Int,x = .int i)->xs.length=ys.length->∃b,Ch (eqN m) xs ys=some b/\(b=true↔xs=ys)
 | [],[],_,_,_=>⟨true,rfl,by simp⟩
 | x :: xs,y :: ys,h1,h2,hl=>by
   obtain ⟨i,rfl⟩:=h1 x uf1;obtain ⟨j,rfl⟩:=h2 y uf1;obtain ⟨b,e,q⟩:=JX (m:=m) (λx m=>h1 x (ud4 _ m)) (λx m=>h2 x (ud4 _ m)) (Nat.succ.inj hl);refine ⟨(i == j) && b,by rw [Ch,IE,e],?_⟩;rw [uh7,beq_iff_eq,q];constructor
   ·rintro ⟨rfl,rfl⟩;rfl
   ·intro z;injection z with z1 z2;injection z1 with z1;exact ⟨z1,z2⟩
 | [],_ :: _,_,_,hl=>by cases hl
 | _ :: _,[],_,_,hl=>by cases hl
theorem JI {g:Bool->Bool}(h1:∀x∈xs,∃i:Int,x = .int i)(h2:∀x∈ys,∃i:Int,x = .int i)(p:∀b,(b=true↔xs=ys)->P (.bl (g b)) t):W (eqS g (.lst xs) (.lst ys)) t P:=by
 by_cases hl:xs.length=ys.length
 ·obtain ⟨b,e,q⟩:=JX (m:=39) h1 h2 hl;refine ⟨_,_,?_,p b q⟩;have:eqN EQD (.lst xs) (.lst ys)=some b:=by show eqN (39 + 1) _ _=_;rw [eqN,if_pos hl];exact e
  simp [eqS,Lk,this]
 ·refine ⟨_,_,?_,p false ⟨λz=>(by cases z),λz=>absurd (congrArg List.length z) hl⟩⟩;have:eqN EQD (.lst xs) (.lst ys)=some false:=by show eqN (39 + 1) _ _=_;rw [eqN,if_neg hl]
  simp [eqS,Lk,this]
def Du (s r:Sh)(v:D):Bool:=@decide (Parts s r v) (Classical.propDecidable _)
theorem partsB_iff {r:Sh}:Du s r v=true↔Parts s r v:=by unfold Du;exact @decide_eq_true_iff _ (Classical.propDecidable _)
def Uy (f:Fn)(n:Nat):Prop:=∀s r:Sh,s.depth<=n->r.depth<=n->wf s=true->wf r=true->∀v,Af s v=true->vb v<=LIM->Pure1 f [s.d,r.d,v] (.bl (Du s r v))
variable {cf:Fn}
theorem W6 (hf:DN cf n)(hb:FH cb n):Uy (fnOf 3 3 (DX cf cb)) n:=by
 intro s r hs hr hw hw' v hv hl S;refine Ap rfl ?_;unfold DX;left;refine (hf r hr v (Cz n s hs hw v hv)).use ?_;left
 by_cases q:Af r v=true
 ·rw [q];left;refine Em ?_;left;refine (hb s hs hw v hv (um5 (DI n s hs hw v hv) hl)).use ⟨_,rfl,?_⟩;left;refine Em ?_;left;refine (hb r hr hw' v q (um5 (DI n r hr hw' v q) hl)).use ⟨_,rfl,?_⟩;left;refine JI (BS n s hs v hv) (BS n r hr v q) λb hb'=>?_;left;have e:(!b)=Du s r v:=by
   rw [Bool.eq_iff_iff,partsB_iff];unfold Parts;rw [q]
   cases b with
   | true=>simp [hb'.mp rfl]
   | false=>simpa using λz=>by cases hb'.mpr z
  rw [e];exact ⟨rfl,rfl⟩
 ·rw [ug6.mpr q];left;have e:Du s r v=true:=partsB_iff.mpr (.inl (ug6.mpr q));rw [e];exact ⟨rfl,rfl⟩
def Try (s r:Sh)(vs:List D):Prop:=vs.length<=2 * cnt s/\(∀v∈vs,Af s v=true/\vb v<=tbq s)/\Tp s r vs
def Ez (f:Fn)(n:Nat):Prop:=∀s r:Sh,s.depth<=n->wf s=true->wf r=true->cnt s<=28->mst r<=5->∀S,Wf f [s.d,r.d] S λq S'=>(∃vs,q = .lst vs/\Try s r vs)/\S'=S
theorem MQ:∀{ds:List D} {m:Nat},(∀d∈ds,vb d<=m)->vbs ds<=ds.length * m
 | [],m,_=>by rw [vbs];exact uo5 _
 | d :: r,m,h=>by
   rw [vbs,ui4,Nat.succ_mul];have:=h d uf1;have:=MQ λx mm=>h x (ud4 _ mm);lia
def Uu (f:Fn)(n:Nat):Prop:=∀(s r:Sh) (q q':Int),s.depth<=n->wf (.list s q)=true->wf (.list r q')=true->cnt (.list s q)<=28->mst (.list r q')<=5->Al (.list s q) (.list r q')=false->∀S,Wf f [(Sh.list s q).d,(Sh.list r q').d] S λx S'=>(∃vs,x = .lst vs/\Try (.list s q) (.list r q') vs)/\S'=S
theorem WT (hl:DG cl n)(ht:Ez ct n):Uu (fnOf 2 3 (EV cl ct)) n:=by
 intro s r q q' hd hw hw' hc hm hn S;have hL:LIM=100000:=rfl;have hw0:=hw;have hw0':=hw';simp only [wf,uh7,uh2] at hw hw';rw [cnt] at hc;rw [mst] at hm;have hq:1<=q:=by
  refine Classical.byContradiction λz=>?_;have:q=0:=by lia
  rw [Al,this,ud3] at hn;simp at hn;lia
 refine Ap rfl ?_;unfold EV;rw [Sh.d,Sh.d];left;refine (ht s r hd hw.2 hw'.2 (by lia) (by lia) S).mono λx S1 z9=>?_;obtain ⟨⟨vs,e,h1,h2,h3⟩,e1⟩:=z9;subst e e1;left;refine (DH (f:=λv=>.lst [v]) (fr:=[]) (λd m=>?_)).mono λxs t' ⟨e,e'⟩=>?_
 ·left;exact ⟨rfl,rfl⟩
 ·subst e;refine AC (by rw [uj7,hL];lia) ?_;have hf1:∀v∈vs.map (λv=>D.lst [v]),Af (.list s q) v=true/\vb v<=tbq (.list s q):=λv mv=>by
   obtain ⟨u,mu,rfl⟩:=un4.mp mv;have:=h2 u mu;refine ⟨by rw [Af];simp [this.1];lia,by rw [vb,vbs,vbs,tbq];lia⟩
  left
  by_cases hqq:q' < q
  ·refine Fq (by simpa using hqq) ?_;left;obtain ⟨m,hm1⟩:∃m:Nat,q' + 1=(m:Int):=⟨(q' + 1).toNat,by lia⟩;rw [hm1];refine Cm (Bf (by lia) (by lia)) ?_;rw [uh0,e'];refine (Fe (p:=λx=>Af s x=true/\vb x<=lb s) (λd md=>?_)).mono λys t2 ⟨⟨hl2,hy⟩,e2⟩=>?_
   ·left;refine (hl s hd hw.2 _).mono λy S2 z9=>?_;obtain ⟨h4,e⟩:=z9;subst e;exact ⟨h4,rfl⟩
   ·rw [AO] at hl2;refine AC (by rw [hL,hl2];lia) ?_;left;refine AC (by rw [uj7,hL];lia) ?_;left;refine ⟨⟨_,rfl,?_,?_,Q5 (by lia) (by rw [hl2];lia)⟩,e2⟩
    ·rw [uf6,uj7,ud2,cnt];lia
    ·intro v mv;rcases uj1.mp mv with mv | mv
     ·exact hf1 v mv
     ·rw [uf8.mp mv];refine ⟨?_,?_⟩
      ·rw [Af,uh7,uh2,ui1];exact ⟨by lia,λd md=>(hy d md).1⟩
      ·rw [vb,tbq];have:=MQ λd md=>(hy d md).2;have:ys.length * lb s<=6 * lb s:=Nat.mul_le_mul_right _ (by lia);lia
  ·refine Jw (by simpa using hqq) ?_;left;exact ⟨⟨_,rfl,by rw [uj7,cnt];lia,hf1,T7 h3 hq (by lia)⟩,e'⟩
def Ux (f:Fn)(n:Nat):Prop:=∀(a b a' b':Sh),a.depth<=n->b.depth<=n->wf (.pair a b)=true->wf (.pair a' b')=true->cnt (.pair a b)<=28->mst (.pair a' b')<=5->∀S,Wf f [(Sh.pair a b).d,(Sh.pair a' b').d] S λx S'=>(∃vs,x = .lst vs/\Try (.pair a b) (.pair a' b') vs)/\S'=S
theorem W1 (hl:DG cl n)(ht:Ez ct n):Ux (fnOf 2 3 (EW ct cl)) n:=by
 intro a b a' b' hd hd2 hw hw' hc hm S;have hL:LIM=100000:=rfl;simp only [wf,uh7] at hw hw';rw [cnt] at hc;rw [mst] at hm;obtain ⟨y,Sy,ey,⟨y1,y2⟩,ey2⟩:=hl b hd2 hw.2 S;obtain ⟨x,Sx,ex,⟨x1,x2⟩,ex2⟩:=hl a hd hw.1 S;rw [ey2] at ey;rw [ex2] at ex;clear ey2 ex2;refine Ap rfl ?_;unfold EW;rw [Sh.d,Sh.d];left;refine (ht a a' hd hw.1 hw'.1 (by lia) (by lia) S).mono λz S1 z9=>?_;obtain ⟨⟨va,e,h1,h2,h3⟩,e1⟩:=z9;subst e e1;left;refine (DH (f:=λv=>.tup [v,y]) (λd m=>?_)).mono λxs t' ⟨e,e'⟩=>?_
 ·left;refine ⟨_,_,ey,?_⟩;left;exact ⟨rfl,rfl⟩
 ·subst e;refine AC (by rw [uj7,hL];lia) ?_;left;rw [e'];refine (ht b b' hd2 hw.2 hw'.2 (by lia) (by lia) _).mono λz S1 z9=>?_;obtain ⟨⟨vc,e,h4,h5,h6⟩,e1⟩:=z9;subst e e1;left;refine (DH (f:=λv=>.tup [x,v]) (λd m=>?_)).mono λxs t' ⟨e,e'⟩=>?_
  ·left;refine ⟨_,_,ex,?_⟩;left;exact ⟨rfl,rfl⟩
  ·subst e;refine AC (by rw [uj7,hL];lia) ?_;left;refine Ra rfl (by rw [uj7,uj7,hL];lia) ?_;left;refine ⟨⟨_,rfl,?_,?_,T8 h3 h6 x1 y1 (λv m=>(h2 v m).1) (λv m=>(h5 v m).1)⟩,e'⟩
   ·rw [uf6,uj7,uj7,cnt];lia
   ·have:=Go a;have:=Go b;intro v mv;rcases uj1.mp mv with mv | mv
    ·obtain ⟨u,mu,rfl⟩:=un4.mp mv;have:=h2 u mu;exact ⟨by rw [Af,this.1,y1];rfl,by rw [vb,vbs,vbs,vbs,tbq];lia⟩
    ·obtain ⟨u,mu,rfl⟩:=un4.mp mv;have:=h5 u mu;exact ⟨by rw [Af,this.1,x1];rfl,by rw [vb,vbs,vbs,vbs,tbq];lia⟩
theorem K4 (s:Sh):1<=cnt s:=by cases s <;> simp [cnt]
theorem K5:∀ss:List Sh,ss.length<=cnts ss
 | []=>uo3 _
 | s :: r=>by rw [cnts,ui4];have:=K5 r;have:=K4 s;lia
theorem Ff:∀a b:List Sh,cnts (a++b)=cnts a + cnts b
 | [],b=>by rw [uj9,cnts,uo2]
 | s :: r,b=>by rw [ui6,cnts,cnts,Ff r b,um0]
def Ut (f:Fn)(n:Nat):Prop:=∀(ss rs:List Sh),(∀x∈ss,x.depth<=n)->wf (.choice ss)=true->wf (.choice rs)=true->cnt (.choice ss)<=28->mst (.choice rs)<=5->∀S,Wf f [(Sh.choice ss).d,(Sh.choice rs).d] S λx S'=>(∃vs,x = .lst vs/\Try (.choice ss) (.choice rs) vs)/\S'=S
theorem WD (hl:DG cl n)(ht:Ez ct n):Ut (fnOf 2 4 (D8 ct cl)) n:=by
 intro ss rs hd hw hw' hc hm S;have hL:LIM=100000:=rfl;simp only [wf,uh7,uh2] at hw hw';rw [cnt] at hc;rw [mst] at hm;refine Ap rfl ?_;unfold D8;rw [Sh.d,Sh.d];left;rw [AJ,AJ];refine Re (by rw [Bf (by lia) (by lia),Bf (by lia) (by lia)];rfl) ?_;refine (Fe (p:=λx=>(Af (.choice ss) x=true/\vb x<=tbq (.choice ss))/\Af (.choice rs) x=false) (λd m=>?_)).mono λxs t' ⟨⟨hl2,hx⟩,e'⟩=>?_
 ·rw [Ht] at m;obtain ⟨i,hi,rfl⟩:=un4.mp m;have hi:=uk8.mp hi;obtain ⟨k,hk⟩:∃k:Nat,(rs.length:Int) + (i:Int)=(k:Int):=⟨rs.length + i,by lia⟩;have hk1:k < ss.length:=by lia
  rw [hk];left;refine DE (Ey hk1) ?_;left;refine (hl _ (hd _ (ui3 hk1)) (BB hw.2 _ (ui3 hk1)) S).mono λx S1 z9=>?_;obtain ⟨⟨h1,h2⟩,e⟩:=z9;subst e;left;refine ⟨⟨⟨IG hk1 h1,?_⟩,?_⟩,rfl⟩
  ·rw [NO,tbq];have:=Ii (ui3 hk1);have:=Go ss[k];lia
  ·rw [Af];have:decide ((k:Int) < rs.length)=false:=uk7 (by lia);rw [this,ul0,ul0,uk9]
 ·rw [AO] at hl2;have hlen0:xs.length<=cnts (ss.drop rs.length):=by
   have:=K5 (ss.drop rs.length);rw [uh6] at this;lia
  have hcs:cnts (ss.take rs.length) + cnts (ss.drop rs.length)=cnts ss:=by rw [<-Ff,List.take_append_drop]
  refine AC (by rw [hL];lia) ?_;left;rw [AJ,AJ,e'];have hN:(if (rs.length:Int) < (ss.length:Int) then (rs.length:Int) else (ss.length:Int))=((min ss.length rs.length:Nat):Int):=by split <;> lia
  rw [hN];refine Cm (Bf (by lia) (by lia)) ?_;rw [uh0];refine B1 (λq t=>∃(j:Nat) (vs:List D) (e3:Option Sl),q=(AX 0 (min ss.length rs.length)).drop j/\j<=min ss.length rs.length/\vs.length<=cnts (ss.drop rs.length) + 2 * cnts (ss.take j)/\(∀v∈vs,Af (.choice ss) v=true/\vb v<=tbq (.choice ss))/\(∀v∈xs,v∈vs)/\(∀k (h1:k < ss.length) (h2:k < rs.length),k < j->∃ws,Tp ss[k] rs[k] ws/\∀w∈ws,.tup [.str ("of" : Str),.int (k:Nat),w]∈vs)/\t=⟨[some (.val (.tup [.str "choice",.tup (shD ss)])),some (.val (.tup [.str "choice",.tup (shD rs)])),some (.own vs),e3],S⟩) _ _ ⟨0,xs,none,by rw [ul1],uo5 _,by rw [List.take_zero,cnts];lia,λv m=>(hx v m).1,λv m=>m,λk h1 h2 h3=>absurd h3 (uk3 _),rfl⟩ ?_ ?_
  ·rintro d q t ⟨j,vs,e3,hq,hj,h1,h2,h3,h4,rfl⟩ _;obtain ⟨rfl,hq',hjn⟩:=LQ hq;have hj1:j < ss.length:=by lia
   have hj2:j < rs.length:=by lia
   rw [un7];left;refine DE (Ey hj1) ?_;left;refine DE (Ey hj2) ?_;left;have hcj:=K6 (ui3 hj1);have hmj:=Lu (ui3 hj2);refine (ht ss[j] rs[j] (hd _ (ui3 hj1)) (BB hw.2 _ (ui3 hj1)) (BB hw'.2 _ (ui3 hj2)) (by lia) (by lia) S).mono λz S1 z9=>?_;obtain ⟨⟨ws,e,k1,k2,k3⟩,e1⟩:=z9;subst e;rw [e1];left;refine (DH (f:=λw=>.tup [.str ("of" : Str),.int (j:Nat),w]) (λd m=>?_)).mono λys t2 ⟨e,e2⟩=>?_
   ·left;exact ⟨rfl,rfl⟩
   ·subst e;have htk:cnts (ss.take (j + 1))=cnts (ss.take j) + cnt ss[j]:=by
     rw [List.take_succ_eq_append_getElem hj1,Ff,cnts,cnts,Nat.add_zero]
    have htl:cnts (ss.take j)<=cnts ss:=by
     have:=Ff (ss.take j) (ss.drop j);rw [List.take_append_drop] at this;lia
    refine AC (by rw [uj7,hL];lia) ?_;left;refine Ra rfl (by rw [uj7,hL];lia) ?_;rw [e2];refine ⟨j + 1,_,_,hq',by lia,?_,?_,λv m=>ud5 _ (h3 v m),?_,rfl⟩
    ·rw [uf6,uj7,htk];lia
    ·intro v mv;rcases uj1.mp mv with mv | mv
     ·exact h2 v mv
     ·obtain ⟨u,mu,rfl⟩:=un4.mp mv;have:=k2 u mu;refine ⟨IG hj1 this.1,?_⟩;rw [NO,tbq];have:=Ii (ui3 hj1);lia
    ·intro k g1 g2 g3
     by_cases e:k=j
     ·subst e;exact ⟨ws,k3,λw m=>uc9 _ (ue9 m)⟩
     ·obtain ⟨ws',p1,p2⟩:=h4 k g1 g2 (by lia);exact ⟨ws',p1,λw m=>ud5 _ (p2 w m)⟩
  ·rintro t ⟨j,vs,e3,hq,hj,h1,h2,h3,h4,rfl⟩;have hj':j=min ss.length rs.length:=by
    have:=congrArg List.length hq;rw [uk5,uh6,AO] at this;lia
   left;refine ⟨⟨vs,rfl,?_,h2,?_⟩,rfl⟩
   ·rw [cnt];have:cnts (ss.take j)<=cnts (ss.take rs.length):=by
     by_cases z:rs.length<=ss.length
     ·rw [hj',Nat.min_eq_right z];exact uo3 _
     ·rw [hj',Nat.min_eq_left (by lia),List.take_length,uc2 (by lia)];exact uo3 _
    lia
   ·by_cases z:ss.length<=rs.length
    ·exact Pp z λk g1 g2=>h4 k g1 g2 (by lia)
    ·cases xs with
     | nil=>exact absurd hl2 (by rw [uk5];lia)
     | cons x xs=>exact .inl ⟨x,h3 x uf1,(hx x uf1).2⟩
theorem RM:(Txt.mul (Str.ofString "a") (m:Int)).cps.toList=List.replicate m 97:=by
 rw [show (Str.ofString "a")=⟨#[97]⟩ from by decide +kernel,Ym,uh0]
theorem Q6 {ce:Fn}(hc:Ut cc n)(hp:Ux cp n)(hl:Uu cl n)(hw:F4 cw (n + 1))(he:DG ce (n + 1)):Ez (fnOf 2 3 (Jy cc cp cl cw ce)) (n + 1):=by
 intro s r hd hs hr hcn hm S;have hL:LIM=100000:=rfl;have hwi:=hw s r hd hs hr;refine Ap rfl ?_;unfold Jy
 by_cases hk:Az s=Az r
 ·have triv:Al s r=true->Try s r []:=λh=>⟨uo5 _,(λ_ z=>nomatch z),.inr ⟨D2 _ _ _ (uo3 _) h,λz=>(by rw [h] at z;cases z)⟩⟩
  cases s with
  | nothing=>
    cases r <;> first | (simp [Az] at hk;done) | skip
    rw [Sh.d] at hwi ⊢;left;refine hwi.use ?_;rw [show Al .nothing .nothing=true by rw [Al]];left;exact ⟨⟨_,rfl,triv (by rw [Al])⟩,rfl⟩
  | number l h=>
    cases r <;> first | (simp [Az] at hk;done) | skip
    rename_i l' h';have hn:=(IR hs).1;rw [Sh.d,Sh.d] at hwi ⊢;left;refine hwi.use ?_
    cases e:Al (.number l h) (.number l' h') with
    | true=>
      left;exact ⟨⟨_,rfl,triv e⟩,rfl⟩
    | false=>
      left;refine ⟨⟨_,rfl,?_,?_,Pq hn⟩,rfl⟩
      ·simp [cnt]
      ·intro v mv;simp only [ul5,ui2,or_false] at mv;rcases mv with rfl | rfl
       ·exact ⟨by rw [Af];simp;lia,by rw [vb,tbq];exact uo3 _⟩
       ·exact ⟨by rw [Af];simp;lia,by rw [vb,tbq];exact uo3 _⟩
  | text q=>
    cases r <;> first | (simp [Az] at hk;done) | skip
    rename_i q';simp only [wf,uh7,uh2] at hs hr;rw [Sh.d,Sh.d] at hwi ⊢;left;refine hwi.use ?_
    cases e:Al (.text q) (.text q') with
    | true=>
      left;exact ⟨⟨_,rfl,triv e⟩,rfl⟩
    | false=>
      rw [Al,decide_eq_false_iff_not] at e;left;obtain ⟨m,hm1⟩:∃m:Nat,q' + 1=(m:Int):=⟨(q' + 1).toNat,by lia⟩;rw [hm1];have h1:(Str.ofString "a").length=1:=by decide +kernel
      refine XA ⟨Bf (by lia) (by lia),by rw [h1,uh0,hL];lia,by rw [hL];lia,by rw [h1,hL];lia⟩ ?_;left;have hlen:(Txt.mul (Str.ofString "a") (m:Int)).length=m:=by
       show (Txt.mul (Str.ofString "a") (m:Int)).cps.toList.length=m;rw [RM,ud0]
      refine ⟨⟨_,rfl,by simp [cnt],?_,.inl ⟨_,uf1,?_⟩⟩,rfl⟩
      ·intro v mv;rw [uf8.mp mv];refine ⟨?_,by rw [vb,tbq,hlen];lia⟩;rw [Af,hlen,RM,uh7,uh2,ui1];exact ⟨by lia,λc hc=>by rw [List.eq_of_mem_replicate hc];decide⟩
      ·rw [Af,hlen,ud3];exact .inl (by simp;lia)
  | list a q=>
    cases r <;> first | (simp [Az] at hk;done) | skip
    rename_i a' q';have hl':=hl a a' q q' (by rw [Sh.depth] at hd;lia) hs hr hcn hm;rw [Sh.d,Sh.d] at hwi hl' ⊢;left;refine hwi.use ?_
    cases e:Al (.list a q) (.list a' q') with
    | true=>
      left;exact ⟨⟨_,rfl,triv e⟩,rfl⟩
    | false=>
      left;refine (hl' e S).mono λx S1 h=>?_;left;exact h
  | pair a b=>
    cases r <;> first | (simp [Az] at hk;done) | skip
    rename_i a' b';have hp':=hp a b a' b' (by rw [Sh.depth] at hd;lia) (by rw [Sh.depth] at hd;lia) hs hr hcn hm;rw [Sh.d,Sh.d] at hwi hp' ⊢;left;refine hwi.use ?_
    cases e:Al (.pair a b) (.pair a' b') with
    | true=>
      left;exact ⟨⟨_,rfl,triv e⟩,rfl⟩
    | false=>
      left;refine (hp' S).mono λx S1 h=>?_;left;exact h
  | choice ss=>
    cases r <;> first | (simp [Az] at hk;done) | skip
    rename_i rs;have hc':=hc ss rs (λx hx=>by rw [Sh.depth] at hd;have:=AN hx;lia) hs hr hcn hm;rw [Sh.d,Sh.d] at hwi hc' ⊢;left;refine hwi.use ?_
    cases e:Al (.choice ss) (.choice rs) with
    | true=>
      left;exact ⟨⟨_,rfl,triv e⟩,rfl⟩
    | false=>
      left;refine (hc' S).mono λx S1 h=>?_;left;exact h
 ·obtain ⟨ds,e⟩:=GK s;obtain ⟨es,e'⟩:=GK r;have he':=he s hd hs S;rw [e] at he';rw [e,e'];left;refine Fq (by rw [ug9,beq_eq_false_iff_ne];exact λz=>hk (J0 z)) ?_;left;refine he'.mono λv S1 z9=>?_;obtain ⟨⟨h1,h2⟩,e1⟩:=z9;subst e1;left;refine ⟨⟨_,rfl,?_,?_,.inl ⟨v,uf1,Nj hk h1⟩⟩,rfl⟩
  ·have:=K4 s;rw [ud2];lia
  ·intro u mu;rw [uf8.mp mu];exact ⟨h1,um5 h2 (Go s)⟩
def KD (f:Fn)(n:Nat):Prop:=∀s r:Sh,s.depth<=n->r.depth<=n->wf s=true->wf r=true->cnt s<=28->mst r<=5->Al s r=false->∀S,Wf f [s.d,r.d] S λv S'=>((Af s v=true/\vb v<=63840)/\Parts s r v)/\S'=S
theorem Nv (ht:Ez ct n)(hp:Uy cp n)(hs:MX cs n)(hw:F4 cw n):KD (fnOf 2 2 (G1 ct cp cs cw)) n:=by
 intro s r hd hd' hws hwr hc hm hn S;have hL:LIM=100000:=rfl;have htb:tbq s<=63840:=by have:=FZ s hc;lia
 refine Ap rfl ?_;unfold G1;left;refine (hw s r hd hws hwr).use ?_;rw [hn];left;refine (ht s r hd hws hwr hc hm S).mono λq S1 z9=>?_;obtain ⟨⟨vs,e,h1,h2,h3⟩,e1⟩:=z9;subst e;rw [e1];left;refine (KG (p:=λv=>Du s r v) (λd m=>?_)).mono λxs t' ⟨e,e'⟩=>?_
 ·left;refine (hp s r hd hd' hws hwr d (h2 d m).1 (by have:=(h2 d m).2;rw [hL];lia)).use ?_;left;exact ⟨rfl,rfl⟩
 ·subst e;refine AC (by have:=List.length_filter_le (λv=>Du s r v) vs;rw [hL];lia) ?_;left;rw [e'];obtain ⟨v,mv,pv⟩:=h3.parts hn;have hall:∀d∈vs.filter (λv=>Du s r v),((Af s d=true/\vb d<=63840)/\Parts s r d):=λd md=>by
   obtain ⟨m1,m2⟩:=uj0.mp md;have:=h2 d m1;exact ⟨⟨this.1,by lia⟩,partsB_iff.mp m2⟩
  have hne:v∈vs.filter (λv=>Du s r v):=uj0.mpr ⟨mv,partsB_iff.mpr pv⟩;generalize vs.filter (λv=>Du s r v)=fs at hall hne
  cases fs with
  | nil=>cases hne
  | cons x xs=>
    refine (hs s hd hws x xs (λd m=>(hall d m).1.1) S).mono λq S2 z9=>?_;obtain ⟨m,e2⟩:=z9;have hq:=hall q m;have hx:A8 q=false:=by
     have hok:=Cz n s hd hws q hq.1.1
     cases q <;> first | rfl | (simp [okD] at hok;done)
    left;exact ⟨hx,hq,e2⟩
theorem GP:∀(n:Nat) (s:Sh),s.depth<=n->∀v,Af s v=true->∀m,n<=m->eqN m v v=some true
 | 0,s,h,_,_,_,_=>absurd s.depth_pos (by lia)
 | n + 1,s,hd,v,h,m,hm=>by
   obtain ⟨m,rfl⟩:∃k,m=k + 1:=Nat.exists_eq_add_of_le' (by lia);have hi:∀{i:Int},eqN m (.int i) (.int i)=some true:=λ{i}=>by rw [IE,ui9]
   have hstr:∀{x:Str} {k:Nat},eqN k (.str x) (.str x)=some true:=λ{x k}=>by cases k <;> (show some (x == x)=some true;rw [ui9])
   cases s with
   | nothing=>rw [Fp h];rfl
   | number lo hi=>obtain ⟨i,rfl,_⟩:=Dg h;rw [IE,ui9]
   | text q=>obtain ⟨x,rfl,_⟩:=D6 h;exact hstr
   | list s q=>
     rw [Sh.depth] at hd;obtain ⟨ds,rfl,_,hds⟩:=D4 h;rw [eqN,if_pos rfl];exact Ei λd md=>GP n s (by lia) d (hds d md) m (by lia)
   | pair a b=>
     rw [Sh.depth] at hd;obtain ⟨x,y,rfl,h1,h2⟩:=D5 h;have e:Ch (eqN m) [x,y] [x,y]=some true:=Ei λd md=>by
      simp only [ul5,ui2,or_false] at md;rcases md with rfl | rfl
      ·exact GP n a (by lia) _ h1 m (by lia)
      ·exact GP n b (by lia) _ h2 m (by lia)
     rw [eqN,e];simp
   | choice ss=>
     rw [Sh.depth] at hd;obtain ⟨k,x,hk,rfl,h1⟩:=Df h;have:=AN (ui3 hk);have e:Ch (eqN m) [.str ("of" : Str),.int (k:Nat),x] [.str ("of" : Str),.int (k:Nat),x]=some true:=Ei λd md=>by
      simp only [ul5,ui2,or_false] at md;rcases md with rfl | rfl | rfl
      ·exact hstr
      ·exact hi
      ·exact GP n _ (by lia) _ h1 m (by lia)
     rw [eqN,e];simp
theorem OW:∀w n,∀x∈nb w n,∃i:Nat,x = .int (i:Int)
 | 0,n,x,h=>by rw [nb] at h;cases h
 | w + 1,n,x,h=>by
   rw [nb] at h;rcases uj1.mp h with h | h
   ·exact OW w _ x h
   ·rw [uf8.mp h];exact ⟨_,rfl⟩
theorem EI:∀(n:Nat) (s:Sh),s.depth<=n->∀v,Af s v=true->∀x∈Ao s v,∃i:Nat,x = .int (i:Int)
 | 0,s,h,_,_=>absurd s.depth_pos (by lia)
 | n + 1,s,hd,v,h=>by
   cases s with
   | nothing=>rw [Ao];exact λ_ z=>nomatch z
   | number lo hi=>obtain ⟨i,rfl,_⟩:=Dg h;rw [Ao];exact OW _ _
   | text q=>
     obtain ⟨y,rfl,_⟩:=D6 h;rw [Ao];intro x hx;rcases ul5.mp hx with rfl | hx
     ·exact ⟨_,rfl⟩
     ·obtain ⟨c,_,rfl⟩:=un4.mp hx;exact ⟨c,rfl⟩
   | list s q=>
     rw [Sh.depth] at hd;obtain ⟨ds,rfl,_,hds⟩:=D4 h;rw [Ao];intro x hx;rcases ul5.mp hx with rfl | hx
     ·exact ⟨_,rfl⟩
     ·obtain ⟨l,ml,mx⟩:=List.mem_flatten.mp hx;obtain ⟨d,md,rfl⟩:=un4.mp ml;exact EI n s (by lia) d (hds d md) x mx
   | pair a b=>
     rw [Sh.depth] at hd;obtain ⟨y,z,rfl,h1,h2⟩:=D5 h;rw [Ao];intro x hx;rcases uj1.mp hx with hx | hx
     ·exact EI n a (by lia) y h1 x hx
     ·exact EI n b (by lia) z h2 x hx
   | choice ss=>
     rw [Sh.depth] at hd;obtain ⟨k,y,hk,rfl,h1⟩:=Df h;have:=AN (ui3 hk);rw [Ao,uh0,Bg ss k _ y (ub2 hk)];intro x hx;rcases ul5.mp hx with rfl | hx
     ·exact ⟨_,rfl⟩
     ·exact EI n _ (by lia) y h1 x hx
theorem MA:∀{xs:List D},(∀x∈xs,∃i:Nat,x = .int (i:Int))->∃w:List Nat,xs=wD w
 | [],_=>⟨[],rfl⟩
 | x :: r,h=>by
   obtain ⟨i,rfl⟩:=h x uf1;obtain ⟨w,e⟩:=MA λy m=>h y (ud4 _ m);exact ⟨i :: w,by rw [e];rfl⟩
def VBX (f:Fn)(n:Nat):Prop:=∀(s:Sh),s.depth<=n->wf s=true->∀d,Af s d=true->(Ao s d).length<=LIM->Pure1 f [s.d,d] (.lst (Ao s d))
theorem Wk (hc:FH c n)(hf:DN cf n):VBX (fnOf 2 2 (DC c cf)) n:=by
 intro s hs hwf d h hlen S;refine Ap rfl ?_;unfold DC;left;refine (hf s hs d (Cz n s hs hwf d h)).use ?_;rw [h];left;refine Em ?_;left;exact (hc s hs hwf d h hlen).use ⟨_,rfl,rfl,rfl,rfl⟩
theorem Pw (ht:PTakeOk ct){k r m:Nat}{S:List Ob}{z:Option Sl}(p:Room k (r + m) S)(hm:m<=1000):W (Bm (Aw 0) Ba (Ae ct (Aa (Ab 1) (Aa (fC (.int 256)) Ad))) (AX 0 m)) ⟨[z,some (.val (.obj k))],S⟩ λxs t'=>(∃w:List Nat,xs=wD w/\w.length=m)/\Room k r t'.S:=by
 refine (CY (P:=λxs t'=>(∃w:List Nat,xs=wD w/\w.length=m)/\Room k r t'.S) (λacc q t=>∃(w:List Nat) (S':List Ob) (z:Option Sl),acc=wD w/\w.length + q.length=m/\Room k (r + q.length) S'/\t=⟨[z,some (.val (.obj k))],S'⟩) _ [] _ ⟨[],S,z,rfl,by rw [AO,uk5,uo2],by rw [AO];exact p,rfl⟩ ?_ ?_).mono λxs t' h=>h
 ·rintro acc d q t ⟨w,S',z,rfl,h2,h3,rfl⟩ _;rw [ui4] at h2 h3;refine E9 (FE ?_);rw [if_pos rfl];left;refine ht.use 256 h3 λi S5 i0 i1 p5=>?_;obtain ⟨x,rfl⟩:=ub6 i0;exact ⟨w++[x],S5,_,by rw [G8];rfl,by rw [uf6,ud2];lia,p5,rfl⟩
 ·rintro acc t ⟨w,S',z,rfl,h2,h3,rfl⟩;rw [uk5] at h2 h3;exact ⟨⟨w,rfl,by lia⟩,h3⟩
def MU (f:Fn):Prop:=∀(s r:Sh) (v:D) (k R:Nat) (S:List Ob),s.depth<=6->r.depth<=6->wf s=true->wf r=true->Al s r=true->Af s v=true->(Ao s v).length<=50000->Room k (R + 20) S->Wf f [s.d,r.d,v,.obj k] S λx S'=>x = .bl true/\Room k R S'
theorem Qj (hr:Iv cr 6)(hb:VBX cb 6)(ht:PTakeOk ct)(hf:DN cf 6):MU (fnOf 4 7 (EQ cr cb ct cf)):=by
 intro s r v k R S hd hd' hw hw' hwi hv hlen p;have hL:LIM=100000:=rfl;obtain ⟨hv',hbe⟩:=Dv 6 s r hd hwi v hv;have hok:=Cz 6 s hd hw v hv;obtain ⟨wb,ewb⟩:=MA (EI 6 s hd v hv);have hlw:wb.length<=50000:=by rw [ewb,Ce] at hlen;exact hlen
 refine Ap rfl ?_;unfold EQ;left;refine (hf s hd v hok).use ?_;rw [hv];left;refine (hf r hd' v hok).use ?_;rw [hv'];left;refine ((hb s hd hw v hv (by rw [hL];lia)).ok rfl).use ?_;rw [ewb];left;refine ht.use (r:=R + 19) 4 p λi1 S1 z0 z1 p1=>?_;obtain ⟨m1,rfl⟩:=ub6 z0;left;refine Cm (Bf (by lia) (by lia)) ?_;rw [uh0];refine (Pw ht (r:=R + 10) (p1.mono (by lia)) (by lia)).mono λxs t' z9=>?_;obtain ⟨⟨w1,e1,l1⟩,p2⟩:=z9;subst e1;refine AC (by rw [Ce,hL];lia) ?_;left;refine AC (by rw [Ce,Ce,hL];lia) ?_;left;refine ht.use (r:=R + 9) 3 p2 λi2 S2 y0 y1 p3=>?_;obtain ⟨m2,rfl⟩:=ub6 y0;left;refine Cm (Bf (by lia) (by lia)) ?_;rw [uh0];refine (Pw ht (r:=R) (p3.mono (by lia)) (by lia)).mono λxs t' z9=>?_;obtain ⟨⟨w2,e2,l2⟩,p4⟩:=z9;subst e2;refine AC (by rw [Ce,hL];lia) ?_;left;refine AC (by rw [uf6,Ce,Ce,Ce,hL];lia) ?_;left;refine ((hb r hd' hw' v hv' (by rw [<-hbe,hL];lia)).ok rfl).use ?_;rw [<-hbe,ewb];left;refine JI (λx hx=>?_) (λx hx=>?_) λb hb'=>?_
 ·unfold wD at hx;obtain ⟨c,_,rfl⟩:=un4.mp hx;exact ⟨_,rfl⟩
 ·unfold wD at hx;obtain ⟨c,_,rfl⟩:=un4.mp hx;exact ⟨_,rfl⟩
 rw [hb'.mpr rfl];left;rw [Ce,<-G8,<-G8];have hat:At (w1++wb++w2) w1.length (Ao r v):=⟨wD w1,wD w2,by rw [<-hbe,ewb,G8,G8,ug5],Ce w1⟩;have hrd:=hr r hd' hw' (w1++wb++w2) w1.length (by rw [uf6,uf6];lia);rw [back 6 r hd' hw' _ v _ hv' hat,rrD,<-hbe,ewb,Ce] at hrd;refine (hrd.ok rfl).use ?_;left;rw [Ce,Ce];refine Ue rfl ?_ ⟨rfl,p4⟩;show eqN (39 + 1) _ _=_;rw [show ((w1.length + wb.length:Nat):Int)=(w1.length:Int) + (wb.length:Int) by lia];have e:Ch (eqN 39) [v,.int ((w1.length:Int) + (wb.length:Int))] [v,.int ((w1.length:Int) + (wb.length:Int))]=some true:=Ei λd md=>by
  simp only [ul5,ui2,or_false] at md;rcases md with rfl | rfl
  ·exact GP 6 s hd _ hv 39 (by decide)
  ·rw [IE,ui9]
 rw [eqN,e];simp
def szD (s:Sh):D:=.tup [.int (s.depth:Nat),.int (cnt s:Nat),.int (mst s:Nat)]
theorem Lg {g:Sh->Nat}{G:List Sh->Nat}(g0:G []=0)(g1:∀s r,G (s :: r)=max (g s) (G r)):∀(ss:List Sh) (a:Nat),(ss.map λs=>(g s:Int)).foldl max (a:Int)=((max a (G ss):Nat):Int)
 | [],a=>by rw [g0,um8,List.foldl_nil,Nat.max_zero]
 | s :: r,a=>by
   rw [ul6,uj8,show max (a:Int) (g s:Int)=((max a (g s):Nat):Int) from by lia,Lg g0 g1 r,g1,Nat.max_assoc]
theorem D7 (g:Sh->Nat)(ss:List Sh):CN (ss.map λs=>D.int (g s:Nat))=some (ss.map λs=>(g s:Int)):=by
 have:=IL (ss.map λs=>(g s:Int));rw [un5] at this;exact this
theorem CO {g:Sh->Nat}{G:List Sh->Nat}(g0:G []=0)(g1:∀s r,G (s :: r)=max (g s) (G r)){ss:List Sh}{t:T}{P:D->T->Prop}(p:P (.int (G ss:Nat)) t):W (Fk [.lst (.int 0 :: ss.map λs=>D.int (g s:Nat))]) t P:=by
 have e:=Lg g0 g1 ss 0;rw [Nat.zero_max] at e;refine Xy (ns:=0 :: ss.map λs=>(g s:Int)) (m:=(G ss:Nat)) (by rw [CN,D7];rfl) ?_ p;rw [List.max?_cons'];exact congrArg some e
theorem E7:∀ss:List Sh,(ss.map λs=>(cnt s:Int)).sum=(cnts ss:Nat)
 | []=>rfl
 | s :: r=>by rw [ul6,List.sum_cons,E7 r,cnts];lia
theorem lm (h:ss.length<=9)(f:Sh->α):(ss.map f).length<=LIM:=by rw [uj7];exact um5 h (by decide)
def MY (f:Fn)(n:Nat):Prop:=∀s:Sh,s.depth<=n->wf s=true->Pure1 f [s.d] (szD s)
theorem W8 (hc:n=0\/MY c n):MY (fnOf 1 4 (DU c)) (n + 1):=by
 intro s hs hw S;have hL:LIM=100000:=rfl;have cmp:∀(ss:List Sh) (z:Option Sl),(∀x∈ss,x.depth<=n/\wf x=true)->W (Bm (Aw 0) Ba (Ae c (Aa (Ab 0) Ad)) (ss.map Sh.d)) ⟨[z],S⟩ λxs t'=>xs=ss.map szD/\t'.S=S:=λss z h=>by
  refine DO λa m=>?_;obtain ⟨h1,h2⟩:=h a m;left;exact ((hc.resolve_left λz=>by subst z;exact absurd a.depth_pos (by lia)) a h1 h2).use ⟨rfl,rfl⟩
 have c0:∀(ss:List Sh) (z:Option Sl),W (Bm (Aw 0) Ba (Ac (Ab 0) (fC (.int 0)) ixD) (ss.map szD)) ⟨[z],S⟩ λxs t'=>xs=(ss.map λs=>D.int (s.depth:Nat))/\t'.S=S:=λss z=>by
  refine DO λa m=>?_;unfold szD;left;exact ⟨rfl,rfl⟩
 have c1:∀(ss:List Sh) (z:Option Sl),W (Bm (Aw 0) Ba (Ac (Ab 0) (fC (.int 1)) ixD) (ss.map szD)) ⟨[z],S⟩ λxs t'=>xs=(ss.map λs=>D.int (cnt s:Nat))/\t'.S=S:=λss z=>by
  refine DO λa m=>?_;unfold szD;left;exact ⟨rfl,rfl⟩
 have c2:∀(ss:List Sh) (z:Option Sl),W (Bm (Aw 0) Ba (Ac (Ab 0) (fC (.int 2)) ixD) (ss.map szD)) ⟨[z],S⟩ λxs t'=>xs=(ss.map λs=>D.int (mst s:Nat))/\t'.S=S:=λss z=>by
  refine DO λa m=>?_;unfold szD;left;exact ⟨rfl,rfl⟩
 refine Ap rfl ?_;unfold DU
 cases s with
 | nothing=>
   left;refine (cmp [] _ (λ_ z=>nomatch z)).mono λxs t' z9=>?_;obtain ⟨e1,e2⟩:=z9;subst e1;refine AC (lm (by decide) _) ?_;left;rw [e2];refine (c2 [] _).mono λxs t' z9=>?_;obtain ⟨e1,e2⟩:=z9;subst e1;refine AC (lm (by decide) _) ?_;left;refine CO (g:=mst) (G:=C5) (ss:=[]) rfl (λ_ _=>rfl) ?_;left;rw [e2];refine (c0 [] _).mono λxs t' z9=>?_;obtain ⟨e1,e2⟩:=z9;subst e1;refine AC (lm (by decide) _) ?_;left;refine CO (g:=Sh.depth) (G:=AG) (ss:=[]) rfl (λ_ _=>rfl) ?_;left;rw [e2];refine (c1 [] _).mono λxs t' z9=>?_;obtain ⟨e1,e2⟩:=z9;subst e1;refine AC (lm (by decide) _) ?_;left;refine Im (D7 cnt []) ?_;rw [E7];left;exact ⟨by simp only [szD,Sh.depth,cnt,mst,AG,cnts,C5,D.tup.injEq,uk2,D.int.injEq,and_true];lia,e2⟩
 | number lo hi=>
   left;refine (cmp [] _ (λ_ z=>nomatch z)).mono λxs t' z9=>?_;obtain ⟨e1,e2⟩:=z9;subst e1;refine AC (lm (by decide) _) ?_;left;rw [e2];refine (c2 [] _).mono λxs t' z9=>?_;obtain ⟨e1,e2⟩:=z9;subst e1;refine AC (lm (by decide) _) ?_;left;refine CO (g:=mst) (G:=C5) (ss:=[]) rfl (λ_ _=>rfl) ?_;left;rw [e2];refine (c0 [] _).mono λxs t' z9=>?_;obtain ⟨e1,e2⟩:=z9;subst e1;refine AC (lm (by decide) _) ?_;left;refine CO (g:=Sh.depth) (G:=AG) (ss:=[]) rfl (λ_ _=>rfl) ?_;left;rw [e2];refine (c1 [] _).mono λxs t' z9=>?_;obtain ⟨e1,e2⟩:=z9;subst e1;refine AC (lm (by decide) _) ?_;left;refine Im (D7 cnt []) ?_;rw [E7];left;exact ⟨by simp only [szD,Sh.depth,cnt,mst,AG,cnts,C5,D.tup.injEq,uk2,D.int.injEq,and_true];lia,e2⟩
 | text q=>
   left;refine (cmp [] _ (λ_ z=>nomatch z)).mono λxs t' z9=>?_;obtain ⟨e1,e2⟩:=z9;subst e1;refine AC (lm (by decide) _) ?_;left;rw [e2];refine (c2 [] _).mono λxs t' z9=>?_;obtain ⟨e1,e2⟩:=z9;subst e1;refine AC (lm (by decide) _) ?_;left;refine CO (g:=mst) (G:=C5) (ss:=[]) rfl (λ_ _=>rfl) ?_;left;rw [e2];refine (c0 [] _).mono λxs t' z9=>?_;obtain ⟨e1,e2⟩:=z9;subst e1;refine AC (lm (by decide) _) ?_;left;refine CO (g:=Sh.depth) (G:=AG) (ss:=[]) rfl (λ_ _=>rfl) ?_;left;rw [e2];refine (c1 [] _).mono λxs t' z9=>?_;obtain ⟨e1,e2⟩:=z9;subst e1;refine AC (lm (by decide) _) ?_;left;refine Im (D7 cnt []) ?_;rw [E7];left;exact ⟨by simp only [szD,Sh.depth,cnt,mst,AG,cnts,C5,D.tup.injEq,uk2,D.int.injEq,and_true];lia,e2⟩
 | pair a b=>
   rw [Sh.depth] at hs;simp only [wf,uh7] at hw;left;refine (cmp [a,b] _ (λx m=>by simp only [ul5,ui2,or_false] at m;rcases m with rfl | rfl;exact ⟨by lia,hw.1⟩;exact ⟨by lia,hw.2⟩)).mono λxs t' z9=>?_;obtain ⟨e1,e2⟩:=z9;subst e1;refine AC (lm (by show 2<=9;lia) _) ?_;left;rw [e2];refine (c2 [a,b] _).mono λxs t' z9=>?_;obtain ⟨e1,e2⟩:=z9;subst e1;refine AC (lm (by show 2<=9;lia) _) ?_;left;refine CO (g:=mst) (G:=C5) (ss:=[a,b]) rfl (λ_ _=>rfl) ?_;left;rw [e2];refine (c0 [a,b] _).mono λxs t' z9=>?_;obtain ⟨e1,e2⟩:=z9;subst e1;refine AC (lm (by show 2<=9;lia) _) ?_;left;refine CO (g:=Sh.depth) (G:=AG) (ss:=[a,b]) rfl (λ_ _=>rfl) ?_;left;rw [e2];refine (c1 [a,b] _).mono λxs t' z9=>?_;obtain ⟨e1,e2⟩:=z9;subst e1;refine AC (lm (by show 2<=9;lia) _) ?_;left;refine Im (D7 cnt [a,b]) ?_;rw [E7];left;exact ⟨by simp only [szD,Sh.depth,cnt,mst,AG,cnts,C5,D.tup.injEq,uk2,D.int.injEq,and_true];lia,e2⟩
 | choice ss=>
   rw [Sh.depth] at hs;simp only [wf,uh7,uh2] at hw;left;rw [BZ];refine (cmp ss _ (λx m=>⟨um5 (AN m) (by lia),BB hw.2 x m⟩)).mono λxs t' z9=>?_;obtain ⟨e1,e2⟩:=z9;subst e1;refine AC (lm hw.1.2 _) ?_;left;rw [e2];refine (c2 ss _).mono λxs t' z9=>?_;obtain ⟨e1,e2⟩:=z9;subst e1;refine AC (lm hw.1.2 _) ?_;left;refine AC (by rw [uj7,hL];show 1 + _<=_;lia) ?_;left;refine CO (g:=mst) (G:=C5) (ss:=ss) rfl (λ_ _=>rfl) ?_;left;rw [e2];refine (c0 ss _).mono λxs t' z9=>?_;obtain ⟨e1,e2⟩:=z9;subst e1;refine AC (lm hw.1.2 _) ?_;left;refine AC (by rw [uj7,hL];show 1 + _<=_;lia) ?_;left;refine CO (g:=Sh.depth) (G:=AG) (ss:=ss) rfl (λ_ _=>rfl) ?_;left;rw [e2];refine (c1 ss _).mono λxs t' z9=>?_;obtain ⟨e1,e2⟩:=z9;subst e1;refine AC (lm hw.1.2 _) ?_;left;refine Im (D7 cnt ss) ?_;rw [E7];left;exact ⟨by simp only [szD,Sh.depth,cnt,mst,AG,cnts,C5,D.tup.injEq,uk2,D.int.injEq,and_true];lia,e2⟩
 | list s q=>
   rw [Sh.depth] at hs;simp only [wf,uh7,uh2] at hw;left;refine (cmp [s] _ (λx m=>by rw [uf8.mp m];exact ⟨by lia,hw.2⟩)).mono λxs t' z9=>?_;obtain ⟨e1,e2⟩:=z9;subst e1;refine AC (lm (by show 1<=9;lia) _) ?_;left;rw [e2];refine (c2 [s] _).mono λxs t' z9=>?_;obtain ⟨e1,e2⟩:=z9;subst e1;refine AC (lm (by show 1<=9;lia) _) ?_;left;refine CO (g:=mst) (G:=C5) (ss:=[s]) rfl (λ_ _=>rfl) ?_;left;rw [e2];refine (c0 [s] _).mono λxs t' z9=>?_;obtain ⟨e1,e2⟩:=z9;subst e1;refine AC (lm (by show 1<=9;lia) _) ?_;left;refine CO (g:=Sh.depth) (G:=AG) (ss:=[s]) rfl (λ_ _=>rfl) ?_;left;rw [e2];refine (c1 [s] _).mono λxs t' z9=>?_;obtain ⟨e1,e2⟩:=z9;subst e1;refine AC (lm (by show 1<=9;lia) _) ?_;left;refine Im (D7 cnt [s]) ?_;rw [E7];left;exact ⟨by simp only [szD,Sh.depth,cnt,mst,AG,cnts,C5,D.tup.injEq,uk2,D.int.injEq,and_true];lia,e2⟩
def Rm (f:Fn):Prop:=∀s:Sh,s.depth<=6->wf s=true->∀S,Wf f [s.d] S λr S'=>(∃b,r = .bl b/\(b=true->cnt s<=28/\mst s<=5))/\S'=S
theorem UV (hc:MY c 6):Rm (fnOf 1 4 (Fr c)):=by
 intro s hs hw S;refine Ap rfl ?_;unfold Fr;left;refine (hc s hs hw).use ?_;unfold szD;left
 cases q1:decide ((s.depth:Int) < 6) with
 | false=>
   left;exact ⟨⟨_,rfl,λz=>by cases z⟩,rfl⟩
 | true=>
   left
   cases q2:decide ((cnt s:Int) < 29) with
   | false=>
     left;exact ⟨⟨_,rfl,λz=>by cases z⟩,rfl⟩
   | true=>
     left;refine ⟨⟨_,rfl,λz=>?_⟩,rfl⟩;have q2:=uh3 q2;have q3:=uh3 z;lia
def Jc (f:Fn):Prop:=∀s r:Sh,s.depth<=6->r.depth<=6->wf s=true->wf r=true->cnt s<=28->mst r<=5->Pure1 f [s.d,r.d] (.bl true)
theorem Nk (hb:VBX cb 7)(hf:DN cf 7)(hw:F4 cw 7)(hp:KD cp 6):Jc (fnOf 2 6 (D9 cb cf cw cp)):=by
 intro s r hd hd' hws hwr hc hm S;have hL:LIM=100000:=rfl;refine Ap rfl ?_;unfold D9;left;refine (hw s r (by lia) hws hwr).use ?_
 cases hn:Al s r with
 | true=>left;exact ⟨rfl,rfl⟩
 | false=>
   left;refine Ro ((hp s r hd hd' hws hwr hc hm hn S).mono λv S1 z9=>?_);obtain ⟨⟨⟨hv,hl⟩,hpt⟩,e⟩:=z9;have hok:=Cz 6 s hd hws v hv;refine ⟨by cases v <;> first | rfl | (simp [okD] at hok;done),?_⟩;subst e;left;refine (hf s (by lia) v hok).use ?_;rw [hv];left;have hs7:Af r v=true->Ao r v≠Ao s v:=λh=>by
    rcases hpt with z | z
    ·rw [h] at z;cases z
    ·exact λy=>z y.symm
   have ls:(Ao s v).length<=63840:=um5 (DI 6 s hd hws v hv) hl;have lr:Af r v=true->(Ao r v).length<=63840:=λh=>um5 (DI 6 r hd' hwr v h) hl;have ne:∀{c0 c1:Sh} {d:D} {t:T} {g:Bool->Bool} {P:D->T->Prop},c0.depth<=7->c1.depth<=7->Af c0 d=true->Af c1 d=true->Ao c1 d≠Ao c0 d->P (.bl (g false)) t->W (eqS g (.lst (Ao c1 d)) (.lst (Ao c0 d))) t P:=λ{c0 c1 d t g P} h1 h2 h3 h4 h5 p=>JI (BS 7 _ h2 _ h4) (BS 7 _ h1 _ h3) λb hb'=>by
    cases b with
    | false=>exact p
    | true=>exact absurd (hb'.mp rfl) h5
   have dl:(Sh.list s 1).depth<=7/\(Sh.list r 9).depth<=7:=by simp only [Sh.depth];lia
   have dc:(Sh.choice [s]).depth<=7/\(Sh.choice [r,s]).depth<=7:=by simp only [Sh.depth,AG];lia
   have dp:(Sh.pair .nothing s).depth<=7/\(Sh.pair .nothing r).depth<=7:=by simp only [Sh.depth];lia
   have wl:wf (Sh.list s 1)=true/\wf (Sh.list r 9)=true:=by simp [wf,hws,hwr]
   have wc:wf (Sh.choice [s])=true/\wf (Sh.choice [r,s])=true:=by simp [wf,wfs,hws,hwr]
   have wp:wf (Sh.pair .nothing s)=true/\wf (Sh.pair .nothing r)=true:=by simp [wf,hws,hwr]
   have fl:∀(x:Sh) (q:Int),1<=q->Af (.list x q) (.lst [v])=Af x v:=λx q h=>by simp [Af,h]
   have fp:∀x:Sh,Af (.pair .nothing x) (.tup [.non,v])=Af x v:=λx=>by simp [Af,Gm]
   have fc:∀(x:Sh) (y:List Sh),Af (.choice (x :: y)) (.tup [.str ("of" : Str),.int 0,v])=Af x v:=λx y=>by rw [Af,show Gn ("of" : Str)=true from rfl];simp [Hj]
   have bl:∀(x:Sh) (q:Int),Ao (.list x q) (.lst [v]) = .int (1:Nat) :: Ao x v:=λx q=>by simp [Ao]
   have bp:∀x:Sh,Ao (.pair .nothing x) (.tup [.non,v])=Ao x v:=λx=>by simp [Ao]
   have bc:∀(x:Sh) (y:List Sh),Ao (.choice (x :: y)) (.tup [.str ("of" : Str),.int 0,v]) = .int (0:Nat) :: Ao x v:=λx y=>by simp [Ao,Hg]
   have ql:=hf (.list r 9) dl.2 (.lst [v]) (by simp [okD,oks,hok]);rw [fl r 9 (by decide)] at ql;have qc:=hf (.choice [r,s]) dc.2 (.tup [.str ("of" : Str),.int 0,v]) (by simp [okD,oks,hok];decide);rw [fc r [s]] at qc;have qp:=hf (.pair .nothing r) dp.2 (.tup [.non,v]) (by simp [okD,oks,hok]);rw [fp r] at qp
   cases hr:Af r v with
   | false=>
     rw [hr] at ql qc qp;refine W_forL_cons.mpr ?_;left;rw [show D.tup [D.str "list",s.d,D.int 1]=(Sh.list s 1).d from rfl,show D.tup [D.str "list",r.d,D.int 9]=(Sh.list r 9).d from rfl];refine (hw (.list s 1) (.list r 9) dl.1 wl.1 wl.2).use ?_;rw [show Al (.list s 1) (.list r 9)=false from by simp [Al,hn]];left;refine ql.use ?_;left;refine W_forL_cons.mpr ?_;left;rw [show D.tup [D.str "choice",D.tup [s.d]]=(Sh.choice [s]).d from rfl,show D.tup [D.str "choice",D.tup [r.d,s.d]]=(Sh.choice [r,s]).d from rfl];refine (hw (.choice [s]) (.choice [r,s]) dc.1 wc.1 wc.2).use ?_;rw [show Al (.choice [s]) (.choice [r,s])=false from by simp [Al,AD,hn]];left;refine qc.use ?_;left;refine W_forL_nil.mpr ?_;left;rw [show D.tup [D.str "pair",D.tup [D.str "nothing"],s.d]=(Sh.pair .nothing s).d from rfl,show D.tup [D.str "pair",D.tup [D.str "nothing"],r.d]=(Sh.pair .nothing r).d from rfl];refine (hw (.pair .nothing s) (.pair .nothing r) dp.1 wp.1 wp.2).use ?_;rw [show Al (.pair .nothing s) (.pair .nothing r)=false from by simp [Al,hn]];left;refine qp.use ?_;left;exact ⟨rfl,rfl⟩
   | true=>
     rw [hr] at ql qc qp;refine W_forL_cons.mpr ?_;left;rw [show D.tup [D.str "list",s.d,D.int 1]=(Sh.list s 1).d from rfl,show D.tup [D.str "list",r.d,D.int 9]=(Sh.list r 9).d from rfl];refine (hw (.list s 1) (.list r 9) dl.1 wl.1 wl.2).use ?_;rw [show Al (.list s 1) (.list r 9)=false from by simp [Al,hn]];left;refine ql.use ?_;left;refine ((hb (.list r 9) dl.2 wl.2 (.lst [v]) (by rw [fl r 9 (by decide),hr]) (by rw [bl r 9,hL];have:=lr hr;(try simp only [ui4]);lia)).ok rfl).use ?_;left;refine ((hb (.list s 1) dl.1 wl.1 (.lst [v]) (by rw [fl s 1 (by decide),hv]) (by rw [bl s 1,hL];(try simp only [ui4]);lia)).ok rfl).use ?_;left;refine ne dl.1 dl.2 (by rw [fl s 1 (by decide),hv]) (by rw [fl r 9 (by decide),hr]) (by rw [bl r 9,bl s 1];intro z;exact hs7 hr (by simpa using z)) ?_;left;refine W_forL_cons.mpr ?_;left;rw [show D.tup [D.str "choice",D.tup [s.d]]=(Sh.choice [s]).d from rfl,show D.tup [D.str "choice",D.tup [r.d,s.d]]=(Sh.choice [r,s]).d from rfl];refine (hw (.choice [s]) (.choice [r,s]) dc.1 wc.1 wc.2).use ?_;rw [show Al (.choice [s]) (.choice [r,s])=false from by simp [Al,AD,hn]];left;refine qc.use ?_;left;refine ((hb (.choice [r,s]) dc.2 wc.2 (.tup [.str ("of" : Str),.int 0,v]) (by rw [fc r [s],hr]) (by rw [bc r [s],hL];have:=lr hr;(try simp only [ui4]);lia)).ok rfl).use ?_;left;refine ((hb (.choice [s]) dc.1 wc.1 (.tup [.str ("of" : Str),.int 0,v]) (by rw [fc s [],hv]) (by rw [bc s [],hL];(try simp only [ui4]);lia)).ok rfl).use ?_;left;refine ne dc.1 dc.2 (by rw [fc s [],hv]) (by rw [fc r [s],hr]) (by rw [bc r [s],bc s []];intro z;exact hs7 hr (by simpa using z)) ?_;left;refine W_forL_nil.mpr ?_;left;rw [show D.tup [D.str "pair",D.tup [D.str "nothing"],s.d]=(Sh.pair .nothing s).d from rfl,show D.tup [D.str "pair",D.tup [D.str "nothing"],r.d]=(Sh.pair .nothing r).d from rfl];refine (hw (.pair .nothing s) (.pair .nothing r) dp.1 wp.1 wp.2).use ?_;rw [show Al (.pair .nothing s) (.pair .nothing r)=false from by simp [Al,hn]];left;refine qp.use ?_;left;refine ((hb (.pair .nothing r) dp.2 wp.2 (.tup [.non,v]) (by rw [fp r,hr]) (by rw [bp r,hL];have:=lr hr;(try simp only [ui4]);lia)).ok rfl).use ?_;left;refine ((hb (.pair .nothing s) dp.1 wp.1 (.tup [.non,v]) (by rw [fp s,hv]) (by rw [bp s,hL];(try simp only [ui4]);lia)).ok rfl).use ?_;left;refine ne dp.1 dp.2 (by rw [fp s,hv]) (by rw [fp r,hr]) (by rw [bp r,bp s];intro z;exact hs7 hr (by simpa using z)) ?_;left;exact ⟨rfl,rfl⟩
theorem Ug {c1:Fn}{fi:M D}{fa:M (List D)}(h:W fi t λi t1=>(i = .int 0\/i = .int 1)/\∀c,(c=c1\/c=c2)->W (Ae c fa) t1 P):W (GN c1 c2 fi fa) t P:=Ws (h.mono λi t1 ⟨q,w⟩=>q.elim (λe=>.inl ⟨e,w _ (.inl rfl)⟩) λe=>.inr ⟨e,w _ (.inr rfl)⟩)
theorem Vb {cm:Fn}(hf:Rm cf)(hp:Jc cp)(hw:F4 cw 7)(hv:Ir cv 6)(hb:MU cb)(hs:Hd cs 6)(ht:PTakeOk ct)(h2:KC c2)(hm:HK cm)(hl:Jd cl){ns:List Int} :
 Wf (fnOf 1 8 (GZ cf cp cw cv cb cs ct c2 cm cl)) [.scr ns] [] λr _=>r = .bl true:=by
 refine Ap rfl ?_;unfold GZ;left;obtain ⟨n,en,n20⟩:=m20 ns.length;rw [en];refine Cm (Dc n20) ?_;refine B1 (λr t=>∃(S:List Ob) (e1 e2 e3 e4 e5 e6 e7:Option Sl),t=⟨[some (.val (.scr ns)),e1,e2,e3,e4,e5,e6,e7],S⟩) _ _ ⟨_,_,_,_,_,_,_,_,rfl⟩ ?_ ?_
 ·rintro d r t ⟨S,e1,e2,e3,e4,e5,e6,e7,rfl⟩ hd;obtain ⟨i,hi',rfl⟩:=un4.mp hd;rw [uk8] at hi';rw [un7];left;rw [uh0] at hi';refine (hl ns i S (um5 (um6 hi') (um5 n20 (by decide)))).mono λr0 S1 z9=>?_;obtain ⟨e,p1⟩:=z9;subst e;generalize S.length=k at p1;left;refine Ug ?_;left;refine ht.use (r:=100000000 + 8000) 2 (p1.mono (by decide)) λg S2 z0 z1 p2=>?_;refine ⟨(show g=0\/g=1 by lia).imp (congrArg _) (congrArg _),λc hc=>?_⟩;have hc':Wf c [.obj k] S2 λv S'=>Two v/\Room k 100000000 S':=by
   rcases hc with rfl | rfl
   ·exact h2 k _ S2 p2
   ·exact hm k _ S2 (p2.mono (by lia))
  left;refine hc'.mono λv S3 z9=>?_;obtain ⟨T3,p3⟩:=z9;obtain ⟨s,x,rfl,⟨sd,sw⟩,⟨xd,xw⟩⟩:=T3;have sw1:=Fc (B:=B3) (by decide) 6 s sd sw;have xw1:=Fc (B:=B3) (by decide) 6 x xd xw;left;refine (hs s k 70000000 B3 S3 sd sw (by decide) (by decide) (p3.mono (by decide))).mono λr1 S4 z9=>?_;obtain ⟨⟨r',e,rd,rw',sr⟩,p4⟩:=z9;subst e;have rd6:=um5 rd sd;have rw1:=Fc (B:=B3 + 100) (by decide) 6 r' rd6 rw';left;refine (hw s s (by lia) sw1 sw1).use ?_;rw [CQ 6 s sd];left;refine (hw s r' (by lia) sw1 rw1).use ?_;rw [sr];left;have hall:∀d∈[x.d,r'.d],∃y:Sh,d=y.d/\y.depth<=6/\wf y=true:=by
   simp only [ud9];exact ⟨⟨_,rfl,xd,xw1⟩,⟨_,rfl,rd6,rw1⟩,λ_ z=>nomatch z⟩
  have hLl:[x.d,r'.d].length=2:=rfl;generalize [x.d,r'.d]=L at hall hLl;generalize r'.d=rD;refine B1 (λl t=>∃(S:List Ob) (e6 e7:Option Sl),Room k (0 + 20000 * l.length) S/\t=⟨[some (.val (.scr ns)),some (.val (.int i)),some (.val (.obj k)),some (.val s.d),some (.val x.d),some (.val rD),e6,e7],S⟩) _ _ ⟨S4,_,_,p4.mono (by rw [hLl];decide),rfl⟩ ?_ ?_
  ·rintro d l t ⟨S,f6,f7,pS,rfl⟩ hd;obtain ⟨a,rfl,a1,a2⟩:=hall d hd;rw [ui4] at pS;replace pS:=pS.loop;generalize 0 + 20000 * l.length=N at pS ⊢;left;refine (hw s a (by lia) sw1 a2).use ?_;left;obtain ⟨m,em,m4,mw⟩:∃m:Nat,(4:Int) * (if Al s a=true then 1 else 0)=m/\m<=4/\(0 < m->Al s a=true):=by
    cases Al s a with
    | true=>exact ⟨4,rfl,uo3 _,λ_=>rfl⟩
    | false=>exact ⟨0,rfl,by decide,λz=>absurd z (by decide)⟩
   refine I9 (Hn (by decide) (by decide)) ?_;rw [em];left;refine Cm (Dc m4) ?_;rw [uh0];refine B1 (λl2 t=>∃(S:List Ob) (e7:Option Sl),Room k (N + 3000 * l2.length) S/\t=⟨[some (.val (.scr ns)),some (.val (.int i)),some (.val (.obj k)),some (.val s.d),some (.val x.d),some (.val rD),some (.val a.d),e7],S⟩) _ _ ⟨S,_,pS.mono (by rw [AO];lia),rfl⟩ ?_ ?_
   ·rintro d l2 t ⟨S5,g7,pX,rfl⟩ hd2;have hm:0 < m:=by
     have:=List.length_pos_of_mem hd2;rw [AO] at this;exact this
    have hwi:=mw hm;rw [ui4] at pX;replace pX:=pX.loop;generalize N + 3000 * l2.length=N2 at pX ⊢;left;refine (hv s k (N2 + 20) S5 sd sw1 (pX.mono (by rw [um0];exact ue7 (by decide) _))).mono λv Sy z9=>?_;obtain ⟨v1,v2,v3⟩:=z9;left;refine (hb s a v k N2 Sy sd a1 sw1 a2 hwi v1 (um5 v2 (by decide)) v3).mono λq S6 z9=>?_;obtain ⟨e,p6⟩:=z9;subst e;left;exact ⟨_,_,p6,rfl⟩
   ·rintro t ⟨S5,g7,pX,rfl⟩;exact ⟨_,_,_,pX,rfl⟩
  ·rintro t ⟨S,f6,f7,pS,rfl⟩;left;refine (hf s sd sw1 S).mono λq S' z9=>?_;obtain ⟨⟨b,e,hb1⟩,e'⟩:=z9;subst e;subst e';left
   cases b with
   | false=>
     left;exact ⟨_,_,_,_,_,_,_,_,rfl⟩
   | true=>
     left;refine (hf x xd xw1 _).mono λq S' z9=>?_;obtain ⟨⟨b,e,hb2⟩,e'⟩:=z9;subst e;subst e';left
     cases b with
     | false=>
       left;exact ⟨_,_,_,_,_,_,_,_,rfl⟩
     | true=>
       left;refine (hp s x sd xd sw1 xw1 (hb1 rfl).1 (hb2 rfl).2).use ?_;left;exact ⟨_,_,_,_,_,_,_,_,rfl⟩
 ·rintro t ⟨S,e1,e2,e3,e4,e5,e6,e7,rfl⟩;left;rfl
end LW
set_option maxHeartbeats 4000000
namespace F2
open PySem L2 PySem.Spec PySem.W
theorem Qs {k:Kd}{P:Program}{w:World}{K:PySem.W.Frag}{mg:Str->Option Value}{base:Heap}{n:Nat}{fa:Addr}{fd:FuncData}{ps:List Str}:okK k P w K mg base n fa fd ps (λ_ _=>none):=by
 cases k <;> exact ⟨λvs H Q E h=>(by obtain ⟨c,ds,S,_,_,r,S',e,_⟩:=h;cases e),λA' outer s H args us vs Q E _ _ _ _ h=>(by obtain ⟨c,ds,S,_,_,r,S',e,_⟩:=h;cases e)⟩
theorem us0 {n:Nat}:∀{us:List Value},us.length=n + 1->∃a vs,us=a :: vs/\vs.length=n
 | _ :: _,h=>⟨_,_,rfl,Nat.succ.inj h⟩
variable {us:List Value}
theorem us1 (h:us.length=1):∃a,us=[a]:=by
 obtain ⟨a,vs,rfl,q⟩:=us0 h;exact ⟨a,by rw [ua1 q]⟩
theorem us2 (h:us.length=2):∃a b,us=[a,b]:=by
 obtain ⟨_,vs,rfl,q⟩:=us0 h;obtain ⟨_,rfl⟩:=us1 q;exact ⟨_,_,rfl⟩
theorem us3 (h:us.length=3):∃a b c,us=[a,b,c]:=by
 obtain ⟨_,vs,rfl,q⟩:=us0 h;obtain ⟨_,_,rfl⟩:=us2 q;exact ⟨_,_,_,rfl⟩
theorem us4 (h:us.length=4):∃a b c d,us=[a,b,c,d]:=by
 obtain ⟨_,vs,rfl,q⟩:=us0 h;obtain ⟨_,_,_,rfl⟩:=us3 q;exact ⟨_,_,_,_,rfl⟩
theorem us5 (h:us.length=5):∃a b c d e,us=[a,b,c,d,e]:=by
 obtain ⟨_,vs,rfl,q⟩:=us0 h;obtain ⟨_,_,_,_,rfl⟩:=us4 q;exact ⟨_,_,_,_,_,rfl⟩
theorem us6 (h:us.length=6):∃a b c d e f,us=[a,b,c,d,e,f]:=by
 obtain ⟨_,vs,rfl,q⟩:=us0 h;obtain ⟨_,_,_,_,_,rfl⟩:=us5 q;exact ⟨_,_,_,_,_,_,rfl⟩
theorem us7 (h:us.length=7):∃a b c d e f g,us=[a,b,c,d,e,f,g]:=by
 obtain ⟨_,vs,rfl,q⟩:=us0 h;obtain ⟨_,_,_,_,_,_,rfl⟩:=us6 q;exact ⟨_,_,_,_,_,_,_,rfl⟩
end F2
namespace K52
open PySem L2 F2 LW
inductive Fx where
 | Ca | AR | CU | B9 | CB | Cy | CA | BV | Br | AY | Bc | Bv | CD | Bb | Cg | Bn | BY | CJ | Db | CH | CI | BW | Bd | Cw | C7 | BA | Dd | Ck | Cl | BM | AW | Cd | Be | B8 | AF | A4 | BO | Bq | B7 | Cj | AQ | A0 | A6 | BF | BC | BQ | Bt | B6 | BE | BP | C1 | A7 | law_
noncomputable def top (i:Nat):Stmt:=PySem.Challenge.pw_wireparley_k52_whole_values_of_both.main.body.getD i (.Pass ⟨0,0,0,0⟩)
noncomputable abbrev nm:Fx->Str
 | .Ca=>"is_number"
 | .AR=>"is_number_within"
 | .CU=>"fits"
 | .B9=>"fits_text"
 | .CB=>"is_sign"
 | .Cy=>"fits_list"
 | .CA=>"fits_pair"
 | .BV=>"fits_choice"
 | .Br=>"value_bytes"
 | .AY=>"fitting_bytes"
 | .Bc=>"width_up_to"
 | .Bv=>"number_bytes"
 | .CD=>"leading"
 | .Bb=>"read_value"
 | .Cg=>"byte_at"
 | .Bn=>"byte_up_to"
 | .BY=>"read_number"
 | .CJ=>"read_text"
 | .Db=>"sign_at"
 | .CH=>"read_list"
 | .CI=>"read_pair"
 | .BW=>"read_choice"
 | .Bd=>"is_within"
 | .Cw=>"width_of"
 | .C7=>"parting"
 | .BA=>"shows_parting"
 | .Dd=>"tries"
 | .Ck=>"list_tries"
 | .Cl=>"pair_tries"
 | .BM=>"choice_tries"
 | .AW=>"least_value"
 | .Cd=>"smallest"
 | .Be=>"values_in"
 | .B8=>"_law_pool"
 | .AF=>"_law_take"
 | .A4=>"_law_leaf"
 | .BO=>"_law_part"
 | .Bq=>"_law_record"
 | .B7=>"_law_menu"
 | .Cj=>"_law_shape"
 | .AQ=>"_law_varied_number"
 | .A0=>"_law_varied_choice"
 | .A6=>"_law_varied"
 | .BF=>"_law_places"
 | .BC=>"_law_value"
 | .BQ=>"_law_step"
 | .Bt=>"_law_two"
 | .B6=>"_law_both"
 | .BE=>"_law_parted"
 | .BP=>"_law_size"
 | .C1=>"_law_few"
 | .A7=>"_law_menus"
 | .law_=>"law"
abbrev st:Fx->Stmt
 | .Ca=>top 9
 | .AR=>top 10
 | .CU=>top 11
 | .B9=>top 12
 | .CB=>top 13
 | .Cy=>top 14
 | .CA=>top 15
 | .BV=>top 16
 | .Br=>top 19
 | .AY=>top 20
 | .Bc=>top 21
 | .Bv=>top 22
 | .CD=>top 23
 | .Bb=>top 24
 | .Cg=>top 25
 | .Bn=>top 26
 | .BY=>top 27
 | .CJ=>top 28
 | .Db=>top 29
 | .CH=>top 30
 | .CI=>top 31
 | .BW=>top 32
 | .Bd=>top 34
 | .Cw=>top 35
 | .C7=>top 36
 | .BA=>top 37
 | .Dd=>top 38
 | .Ck=>top 39
 | .Cl=>top 40
 | .BM=>top 41
 | .AW=>top 42
 | .Cd=>top 43
 | .Be=>top 44
 | .B8=>top 46
 | .AF=>top 47
 | .A4=>top 48
 | .BO=>top 49
 | .Bq=>top 50
 | .B7=>top 51
 | .Cj=>top 52
 | .AQ=>top 53
 | .A0=>top 54
 | .A6=>top 55
 | .BF=>top 56
 | .BC=>top 57
 | .BQ=>top 58
 | .Bt=>top 59
 | .B6=>top 60
 | .BE=>top 61
 | .BP=>top 62
 | .C1=>top 63
 | .A7=>top 64
 | .law_=>top 65
noncomputable abbrev ps:Fx->List Str
 | .Ca=>["thing"]
 | .AR=>["thing", "low", "high"]
 | .CU=>["s", "thing"]
 | .B9=>["s", "thing"]
 | .CB=>["number"]
 | .Cy=>["s", "thing"]
 | .CA=>["s", "thing"]
 | .BV=>["s", "thing"]
 | .Br=>["s", "value"]
 | .AY=>["s", "value"]
 | .Bc=>["most"]
 | .Bv=>["number", "width"]
 | .CD=>["number", "cut"]
 | .Bb=>["s", "wire", "at"]
 | .Cg=>["wire", "at"]
 | .Bn=>["most", "wire", "at"]
 | .BY=>["s", "wire", "at"]
 | .CJ=>["s", "wire", "at"]
 | .Db=>["wire", "at"]
 | .CH=>["s", "wire", "at"]
 | .CI=>["s", "wire", "at"]
 | .BW=>["s", "wire", "at"]
 | .Bd=>["s", "r"]
 | .Cw=>["s"]
 | .C7=>["s", "r"]
 | .BA=>["s", "r", "value"]
 | .Dd=>["s", "r"]
 | .Ck=>["s", "r"]
 | .Cl=>["s", "r"]
 | .BM=>["s", "r"]
 | .AW=>["s"]
 | .Cd=>["values"]
 | .Be=>["value"]
 | .B8=>["script", "k"]
 | .AF=>["pool", "many"]
 | .A4=>["pool"]
 | .BO=>["pool", "deep"]
 | .Bq=>["pool"]
 | .B7=>["pool"]
 | .Cj=>["pool"]
 | .AQ=>["pool", "low", "high"]
 | .A0=>["pool", "shapes"]
 | .A6=>["pool", "s"]
 | .BF=>["low", "high"]
 | .BC=>["pool", "s"]
 | .BQ=>["pool", "s"]
 | .Bt=>["pool"]
 | .B6=>["s", "r", "value", "pool"]
 | .BE=>["s", "r"]
 | .BP=>["s"]
 | .C1=>["s"]
 | .A7=>["pool"]
 | .law_=>["script"]
noncomputable abbrev ns:Fx->List Str
 | .Ca=>["thing"]
 | .AR=>["thing", "low", "high"]
 | .CU=>["s", "thing", "kind"]
 | .B9=>["s", "thing", "sign"]
 | .CB=>["number"]
 | .Cy=>["s", "thing", "part"]
 | .CA=>["s", "thing"]
 | .BV=>["s", "thing"]
 | .Br=>["s", "value"]
 | .AY=>["s", "value", "kind", "row", "thing"]
 | .Bc=>["most"]
 | .Bv=>["number", "width"]
 | .CD=>["number", "cut"]
 | .Bb=>["s", "wire", "at", "kind"]
 | .Cg=>["wire", "at"]
 | .Bn=>["most", "wire", "at", "byte"]
 | .BY=>["s", "wire", "at", "most", "width", "number", "k"]
 | .CJ=>["s", "wire", "at", "length", "place", "text", "k"]
 | .Db=>["wire", "at", "number"]
 | .CH=>["s", "wire", "at", "length", "place", "things", "k", "part"]
 | .CI=>["s", "wire", "at", "first", "second"]
 | .BW=>["s", "wire", "at", "k", "part"]
 | .Bd=>["s", "r", "kind"]
 | .Cw=>["s"]
 | .C7=>["s", "r"]
 | .BA=>["s", "r", "value"]
 | .Dd=>["s", "r", "kind"]
 | .Ck=>["s", "r", "values"]
 | .Cl=>["s", "r", "values"]
 | .BM=>["s", "r", "values", "k"]
 | .AW=>["s", "kind"]
 | .Cd=>["values"]
 | .Be=>["value"]
 | .B8=>["script", "k", "cell"]
 | .AF=>["pool", "many", "found", "step", "mark"]
 | .A4=>["pool", "kind", "low", "some"]
 | .BO=>["pool", "deep", "kind", "one", "some", "at"]
 | .Bq=>["pool", "found", "k"]
 | .B7=>["pool", "found", "k", "one", "other", "some"]
 | .Cj=>["pool", "found", "k", "leaf", "some"]
 | .AQ=>["pool", "low", "high", "some", "one", "other"]
 | .A0=>["pool", "shapes", "way", "at", "k"]
 | .A6=>["pool", "s", "at"]
 | .BF=>["low", "high", "many", "span"]
 | .BC=>["pool", "s", "signs", "k"]
 | .BQ=>["pool", "s", "high", "more"]
 | .Bt=>["pool", "s", "r", "k"]
 | .B6=>["s", "r", "value", "pool", "some", "ahead", "wire"]
 | .BE=>["s", "r", "value", "one", "other", "told"]
 | .BP=>["s", "inner", "sizes", "most"]
 | .C1=>["s", "deep", "many", "most"]
 | .A7=>["pool", "s", "shapes", "k", "at"]
 | .law_=>["script", "k", "pool", "s", "r", "wider", "other", "turn"]
def body (Φ:Fx->Fn):Fx->Fn
 | .Ca=>fnOf 1 1 (Fw)
 | .AR=>fnOf 3 3 (C4 (Φ .Ca))
 | .CU=>fnOf 2 3 (Lr (Φ .BV) (Φ .CA) (Φ .Cy) (Φ .B9) (Φ .AR))
 | .B9=>fnOf 2 3 (Fv (Φ .CB))
 | .CB=>fnOf 1 1 (GY)
 | .Cy=>fnOf 2 3 (Ft (Φ .CU))
 | .CA=>fnOf 2 2 (Fu (Φ .CU))
 | .BV=>fnOf 2 2 (Eo (Φ .CU) (Φ .AR))
 | .Br=>fnOf 2 2 (DC (Φ .AY) (Φ .CU))
 | .AY=>fnOf 2 5 (DW (Φ .AY) (Φ .Bc) (Φ .Bv))
 | .Bc=>fnOf 1 1 (Es)
 | .Bv=>fnOf 2 2 (Ec (Φ .CD))
 | .CD=>fnOf 2 2 (G0)
 | .Bb=>fnOf 3 4 (CV (Φ .BW) (Φ .CI) (Φ .CH) (Φ .CJ) (Φ .BY))
 | .Cg=>fnOf 2 2 (EO)
 | .Bn=>fnOf 3 4 (DS (Φ .Cg))
 | .BY=>fnOf 3 7 (CG (Φ .CD) (Φ .Cg) (Φ .Bc))
 | .CJ=>fnOf 3 7 (Dj (Φ .Db) (Φ .Bn))
 | .Db=>fnOf 2 3 (EX (Φ .CB) (Φ .Cg))
 | .CH=>fnOf 3 8 (Dh (Φ .Bb) (Φ .Bn))
 | .CI=>fnOf 3 5 (Di (Φ .Bb))
 | .BW=>fnOf 3 5 (CF (Φ .Bb) (Φ .Bn))
 | .Bd=>fnOf 2 3 (Fy (Φ .Bd) (Φ .Cw))
 | .Cw=>fnOf 1 1 (Gr (Φ .Bc))
 | .C7=>fnOf 2 2 (G1 (Φ .Dd) (Φ .BA) (Φ .Cd) (Φ .Bd))
 | .BA=>fnOf 3 3 (DX (Φ .CU) (Φ .AY))
 | .Dd=>fnOf 2 3 (Jy (Φ .BM) (Φ .Cl) (Φ .Ck) (Φ .Bd) (Φ .AW))
 | .Ck=>fnOf 2 3 (EV (Φ .AW) (Φ .Dd))
 | .Cl=>fnOf 2 3 (EW (Φ .Dd) (Φ .AW))
 | .BM=>fnOf 2 4 (D8 (Φ .Dd) (Φ .AW))
 | .AW=>fnOf 1 2 (Ep (Φ .AW) (Φ .Cd))
 | .Cd=>fnOf 1 1 (Gq (Φ .Be))
 | .Be=>fnOf 1 1 (Fz (Φ .Be))
 | .B8=>fnOf 2 3 (ET)
 | .AF=>fnOf 2 5 (DV)
 | .A4=>fnOf 1 4 (DT (Φ .AF))
 | .BO=>fnOf 2 6 (ES (Φ .AF) (Φ .A4) (Φ .BO))
 | .Bq=>fnOf 1 3 (Ea (Φ .A4))
 | .B7=>fnOf 1 6 (ER (Φ .AF) (Φ .Bq) (Φ .A4))
 | .Cj=>fnOf 1 5 (DA (Φ .AF) (Φ .Bq) (Φ .A4) (Φ .BO))
 | .AQ=>fnOf 3 6 (Ct (Φ .AF))
 | .A0=>fnOf 2 5 (Cs (Φ .A6) (Φ .AF) (Φ .A4))
 | .A6=>fnOf 2 3 (Eb (Φ .AF) (Φ .A6) (Φ .A0) (Φ .AQ) (Φ .A4))
 | .BF=>fnOf 2 4 (Do)
 | .BC=>fnOf 2 4 (DB (Φ .BC) (Φ .AF))
 | .BQ=>fnOf 2 4 (EU (Φ .BQ) (Φ .AF) (Φ .A4) (Φ .BF))
 | .Bt=>fnOf 1 4 (Fs (Φ .AF) (Φ .Cj) (Φ .A6))
 | .B6=>fnOf 4 7 (EQ (Φ .Bb) (Φ .Br) (Φ .AF) (Φ .CU))
 | .BE=>fnOf 2 6 (D9 (Φ .Br) (Φ .CU) (Φ .Bd) (Φ .C7))
 | .BP=>fnOf 1 4 (DU (Φ .BP))
 | .C1=>fnOf 1 4 (Fr (Φ .BP))
 | .A7=>fnOf 1 5 (En (Φ .AF) (Φ .A6) (Φ .B7))
 | .law_=>fnOf 1 8 (GZ (Φ .C1) (Φ .BE) (Φ .Bd) (Φ .BC) (Φ .B6) (Φ .BQ) (Φ .AF) (Φ .Bt) (Φ .A7) (Φ .B8))
def run:Nat->Fx->Fn
 | 0=>λ_ _ _=>none
 | n + 1=>body (run n)
structure Md (K:PySem.W.Frag)(mg:Str->Option Value)(A:Fx->Addr)(fd:Fx->FuncData):Prop where
 fn:∀x,Fun K (nm x) (nm x) (st x) (A x) (fd x)
 mgs:∀x,mg (nm x)=some (.ref (A x))
 bd:∀x,Binds K (fd x) (ps x) []
 aN:mg "all" = none
 aG:mg "bool" = none
 aI:mg "int" = none
 aA:mg "isinstance" = none
 aH:mg "len" = none
 aE:mg "list" = none
 aK:mg "max" = none
 aJ:mg "min" = none
 aP:mg "ord" = none
 aC:mg "range" = none
 aO:mg "str" = none
 aQ:mg "sum" = none
 aD:mg "tuple" = none
 a7:∃tk,mg "FIRST_SIGN" = some (.int 32 tk)
 a9:∃tk,mg "LAST_SIGN" = some (.int 126 tk)
 a6:∃tk,mg "PERCENT_SIGN" = some (.int 37 tk)
 aB:∃tk,mg "SIGNS" = some (.str " !\"#$ &'()*+,-./0123456789:;<=>?@ABCDEFGHIJKLMNOPQRSTUVWXYZ[\\]^_`abcdefghijklmnopqrstuvwxyz{|}~" tk)
 xm:∃(P:Addr) (ca:Str->Addr),XM K mg P ca/\XF2 K (ca "Broken") P "Broken.__init__" (Eh (top 4) 0)/\∀n∈(["NoValue", "Short"]:List Str),XN0 K (ca n)
noncomputable abbrev kd:Fx->Kd
 | .Ca=>.pl
 | .AR=>.pl
 | .CU=>.pl
 | .B9=>.pl
 | .CB=>.pl
 | .Cy=>.pl
 | .CA=>.pl
 | .BV=>.pl
 | .Br=>.ex
 | .AY=>.fr
 | .Bc=>.pl
 | .Bv=>.fr
 | .CD=>.pl
 | .Bb=>.ex
 | .Cg=>.ex
 | .Bn=>.ex
 | .BY=>.ex
 | .CJ=>.ex
 | .Db=>.ex
 | .CH=>.ex
 | .CI=>.ex
 | .BW=>.ex
 | .Bd=>.pl
 | .Cw=>.pl
 | .C7=>.ex
 | .BA=>.pl
 | .Dd=>.pl
 | .Ck=>.pl
 | .Cl=>.pl
 | .BM=>.pl
 | .AW=>.pl
 | .Cd=>.pl
 | .Be=>.pl
 | .B8=>.pl
 | .AF=>.pl
 | .A4=>.pl
 | .BO=>.pl
 | .Bq=>.pl
 | .B7=>.pl
 | .Cj=>.pl
 | .AQ=>.pl
 | .A0=>.pl
 | .A6=>.pl
 | .BF=>.pl
 | .BC=>.pl
 | .BQ=>.pl
 | .Bt=>.pl
 | .B6=>.pl
 | .BE=>.pl
 | .BP=>.pl
 | .C1=>.pl
 | .A7=>.pl
 | .law_=>.pl
theorem W5:FnScope ["self", "at", "side"] ["self", "at", "side"] (Ay (Eh (top 4) 0)):=⟨rfl,rfl,rfl,by decide +kernel,rfl,by decide +kernel,by decide +kernel⟩
section
variable {P:Program}{w:World}{K:PySem.W.Frag}{mg:Str->Option Value}{base:Heap}{A:Fx->Addr}{fd:Fx->FuncData}{n:Nat}
theorem IS {a:Kd}(k:Kd){P:Program}{w:World}{K:PySem.W.Frag}{mg:Str->Option Value}{base:Heap}{n:Nat}{fa:Addr}{fd:FuncData}{ps:List Str}{f:Fn}(h:okK a P w K mg base n fa fd ps f)(e:a=k):okK k P w K mg base n fa fd ps f:=e ▸ h
section
variable {X:Cx}{A:Fx->Addr}{fd:Fx->FuncData}{n k:Nat}{x:Fx}{s:Str}{e:Expr}{es:List Expr}{f:M (List D)}{p pos:Pos}{E:L2.St->XK}
theorem X6 (M:Md X.K X.mg A fd)(ih:∀x,okK (kd x) X.prog X.w X.K X.mg X.base k (A x) (fd x) (ps x) (run n x))(hr:Room k X.A)(ha:PA X (e :: es) (RA X.K f))(hk:kd x = .ex)(hs:nm x=s)(hg:Gl X s)(h1:A5 e=false)(h2:AZ es=true)(hd:(s == ("__debug__" : Str))=false):PE X (.Call (.Name s p) (e :: es) [] pos) (RE X.K (Ae (Dp (run n x)) f)):=by subst hs;exact Lb (WC (IS .ex (ih x) hk)) hr hg (M.mgs x) (Fun.kp (M.fn x)) (M.bd x) ha hd h1 h2
theorem cP (M:Md X.K X.mg A fd)(ih:∀x,okK (kd x) X.prog X.w X.K X.mg X.base k (A x) (fd x) (ps x) (run n x))(hr:Room k X.A)(ha:PA X (e :: es) (RA X.K f))(hk:kd x = .pl)(hs:nm x=s)(hg:Gl X s)(h1:A5 e=false)(h2:AZ es=true)(hd:(s == ("__debug__" : Str))=false):PE X (.Call (.Name s p) (e :: es) [] pos) (RE X.K (Ae (run n x) f)):=by subst hs;exact Lb (IS .pl (ih x) hk) hr hg (M.mgs x) (Fun.kp (M.fn x)) (M.bd x) ha hd h1 h2
theorem fF (M:Md X.K X.mg A fd)(ih:∀x,okK (kd x) X.prog X.w X.K X.mg X.base k (A x) (fd x) (ps x) (run n x))(hr:Room k X.A)(ha:PA X (e :: es) (RA X.K f))(hk:kd x = .fr)(hs:nm x=s)(hg:Gl X s)(h1:A5 e=false)(h2:AZ es=true)(hd:(s == ("__debug__" : Str))=false):PE X (.Call (.Name s p) (e :: es) [] pos) (RF X.K (CM (run n x) f)):=by subst hs;exact P9 (IS .fr (ih x) hk) hr hg (M.mgs x) (Fun.kp (M.fn x)) (M.bd x) ha hd h1 h2
theorem xex (M:Md X.K X.mg A fd)(ih:∀x,okK (kd x) X.prog X.w X.K X.mg X.base k (A x) (fd x) (ps x) (run n x))(hr:Room k X.A)(hp:FJ (CX1 true X.prog X.w) X E)(ha:PA X (e :: es) (RA X.K f))(hk:kd x = .ex)(hs:nm x=s)(hg:Gl X s)(h1:A5 e=false)(h2:AZ es=true)(hd:(s == ("__debug__" : Str))=false):PE X (.Call (.Name s p) (e :: es) [] pos) (RX X.K E (Ae (run n x) f)):=by subst hs;exact Sr (IS .ex (ih x) hk) hr hg (M.mgs x) (Fun.kp (M.fn x)) (M.bd x) hp ha hd h1 h2
end
seal PA PE PSs PS PT PG PIf PI PW PGs PO
theorem sc (x:Fx):FnScope (ns x) (ps x) (Ay (st x)):=by
 cases x <;> exact ⟨rfl,rfl,rfl,by decide +kernel,rfl,by decide +kernel,by decide +kernel⟩
local macro_rules | `(tactic| clear 30 $t)=>`(tactic| with_reducible refine (?_ : $t))
theorem step (M:Md K mg A fd)(ih0:∀x,okK (kd x) P w K mg base (2 * n + 2) (A x) (fd x) (ps x) (run n x))(y:Fx):okK (kd y) P w K mg base (2 * n + 2 + 1 + 1) (A y) (fd y) (ps y) (run (n + 1) y):=by
 have ih:=λx=>Vi (ih0 x);obtain ⟨_,a7⟩:=M.a7;obtain ⟨_,a9⟩:=M.a9;obtain ⟨_,a6⟩:=M.a6;obtain ⟨P',ca,x,xt,x0⟩:=M.xm;have xb:XN2 P w K mg base (ca "Broken") P':=Qf rfl W5 rfl rfl rfl xt;obtain ⟨_,aB⟩:=M.aB;have sy:=sc y;have nd:=sy.nd;have mf:=M.fn y
 cases y <;> first | (clear 30 (okK .pl ..);refine VZ (g:=fnOf _ _ _) rfl (U0 rfl rfl mf sy (λcdv A' outer s H E hr=>?_))) | (clear 30 (okK .ex ..);refine Ty (g:=fnOf _ _ _) rfl (Si rfl rfl mf sy (λcdv A' outer s H E hr hp hq ho=>?_))) | (clear 30 (okK .fr ..);refine Tx (g:=fnOf _ _ _) rfl (Sg rfl rfl mf sy (λcdv A' outer s H E hr=>?_)))
 all_goals repeat' first
  | (clear 30 (PA ..);first
    | refine @P3 _ _ _ _ _ ?_ ?_ rfl
    | exact UL)
  | (clear 30 (PE ..);first
    | (clear 30 (PE _ (.Name ..) ..);first
      | (clear 30 (PE _ _ (RE _ (Ab _)));exact (UU _))
      | (clear 30 (PE _ (.Name _ _) (RE _ (fC (.ty _))));exact (IF rfl M.aD KK))
      | (clear 30 (PE _ (.Name _ _) (RE _ (fC (.ty _))));exact (IF rfl M.aO UE))
      | (clear 30 (PE _ (.Name _ _) (RE _ (fC (.int _))));exact (Jr rfl a7))
      | (clear 30 (PE _ (.Name _ _) (RE _ (fC (.ty _))));exact (IF rfl M.aE Mn))
      | (clear 30 (PE _ (.Name _ _) (RE _ (fC (.ty _))));exact (IF rfl M.aI N8))
      | (clear 30 (PE _ (.Name _ _) (RE _ (fC (.ty _))));exact (IF rfl M.aG R1))
      | (clear 30 (PE _ (.Name _ _) (RE _ (fC (.int _))));exact (Jr rfl a9))
      | (clear 30 (PE _ (.Name _ _) (RE _ (fC (.int _))));exact (Jr rfl a6))
      | (clear 30 (PE _ _ (RE _ (fC (.str _))));exact (P5 rfl aB)))
    | (clear 30 (PE _ (.Constant ..) ..);first
      | (clear 30 (PE _ _ (RE _ (fC (.int _))));exact UN)
      | (clear 30 (PE _ _ (RE _ (fC (.str _))));exact US)
      | (clear 30 (PE _ _ (RE _ (fC (.bl _))));exact WE)
      | (clear 30 (PE _ _ (RE _ (fC .non)));exact UO))
    | (clear 30 (PE _ (.Subscript ..) ..);first
      | (clear 30 (PE _ _ (RE _ (Ac _ _ ixD)));refine WF U9 V4 ?_ ?_ (λ_ _=>rfl))
      | (clear 30 (PE _ _ (RE _ (fSl _ _ _ BR)));refine P8 sl3 TY ?_ ?_ ?_)
      | (clear 30 (PE _ _ (RE _ (FN _ _)));refine P6 2 ?_ (λ_ _=>rfl)))
    | (clear 30 (PE _ (.Call ..) ..);first
      | (clear 30 (PE _ _ (RE _ (Ae (run _ _) _)));refine @cP _ _ _ _ _ _ _ _ _ _ _ _ M ih hr ?_ (by rfl) (by rfl) (by rfl) (by rfl) (by rfl) (by decide))
      | (clear 30 (PE _ _ (RE _ (fB _ AK)));refine Fi PR TK rfl M.aH N9 ?_)
      | (clear 30 (PE _ _ (RX _ _ (Ae (run _ _) _)));refine @xex _ _ _ _ _ _ _ _ _ _ _ _ _ M ih hr hp ?_ (by rfl) (by rfl) (by rfl) (by rfl) (by rfl) (by decide))
      | (clear 30 (PE _ _ (RE _ (fB _ C3)));refine Fi PQ TJ rfl M.aA Kc ?_)
      | (clear 30 (PE _ _ (RE _ (fB _ DZ)));refine Fi (Og rfl) TN rfl M.aJ UC ?_)
      | (clear 30 (PE _ _ (RF _ (CM (run _ _) _)));refine @fF _ _ _ _ _ _ _ _ _ _ _ _ M ih hr ?_ (by rfl) (by rfl) (by rfl) (by rfl) (by rfl) (by decide))
      | (clear 30 (PE _ _ (RE _ (Ae (Dp (run _ _)) _)));refine X6 M ih hr ?_ (by rfl) (by rfl) (by rfl) (by rfl) (by rfl) (by decide))
      | (clear 30 (PE _ _ (RE _ (fB _ FC)));refine Rs Kh T0 rfl M.aD KK ?_)
      | (clear 30 (PE _ _ (RE _ (fB _ G2)));refine Fi (Oe rfl) TM rfl M.aK Oa ?_)
      | (clear 30 (PE _ _ (RE _ (fB _ GR)));refine Rs Od TH rfl M.aI N8 ?_)
      | (clear 30 (PE _ _ (RE _ (fB _ Ic)));refine Fi PU TV rfl M.aP UD ?_)
      | (clear 30 (PE _ _ (RE _ (fB _ Ih)));refine Fi (Oi rfl) QX rfl M.aQ UF ?_)
      | (clear 30 (PE _ _ (RF _ (fBF _ GX)));refine WI K1 TL rfl M.aE Mn ?_)
      | (clear 30 (PE _ _ (RE _ (fB _ Fk)));refine Fi (Of rfl) QU rfl M.aK Oa ?_)
      | (clear 30 (PE _ _ (RE _ (fUn _ Iz)));refine Op ?_)
      | (clear 30 (PE _ _ (RE _ (fB _ Jf)));refine Fi (Oc rfl) QR rfl M.aN UB ?_)
      | (clear 30 (PE _ _ (RE _ (Ko _ _)));refine R8 (ih0 .Be) hr rfl M.aJ rfl (M.mgs .Be) (M.bd .Be) ?_)
      | (clear 30 (PE _ _ (RE _ (joinM _ _)));refine R7 ?_ ?_)
      | (clear 30 (PE _ _ (RE _ (EA _)));exact (Oq _ rfl M.aH N9))
      | (clear 30 (PE _ _ (RE _ (GN _ _ _ _)));refine P7 (ih .Bt) hr rfl (M.mgs .Bt) (Fun.kp (M.fn .Bt)) (M.bd .Bt) (ih .A7) hr rfl (M.mgs .A7) (Fun.kp (M.fn .A7)) (M.bd .A7) ?_ (λ_ _=>rfl) ?_))
    | (clear 30 (PE _ (.Tuple ..) ..);first
      | refine @UT _ _ _ _ _ ?_)
    | (clear 30 (PE _ (.BinOp ..) ..);first
      | (clear 30 (PE _ _ (RE _ (Ac _ _ Ar)));refine Eu MD LS ?_ ?_)
      | (clear 30 (PE _ _ (RE _ (Ac _ _ BH)));refine Eu Vr TZ ?_ ?_)
      | (clear 30 (PE _ _ (RE _ (Ac _ _ EY)));refine Eu Vn TQ ?_ ?_)
      | (clear 30 (PE _ _ (RE _ (Ac _ _ D0)));refine Eu ST QV ?_ ?_)
      | (clear 30 (PE _ _ (RE _ (Ac _ _ FA)));refine Eu SV QW ?_ ?_)
      | (clear 30 (PE _ _ (RE _ (Ac _ _ EZ)));refine Eu Vo TW ?_ ?_)
      | (clear 30 (PE _ _ (RF _ _));refine WJ op_cat QS ?_ ?_)
      | (clear 30 (PE _ _ (RE _ (Ac _ _ Gg)));refine Eu SS QT ?_ ?_)
      | (clear 30 (PE _ _ (RX _ _ (Hh _ _ Ar)));refine WP MD LS ?_ ?_)
      | (clear 30 (PE _ _ (RE _ (Ac _ _ Hi)));refine Eu Qt Pk ?_ ?_)
      | (clear 30 (PE _ _ (RE _ (Ac _ _ LX)));refine Eu Vq TX ?_ ?_))
    | (clear 30 (PE _ (.List ..) ..);first
      | refine @UW _ _ _ _ ?_)
    | (clear 30 (PE _ (.BoolOp ..) ..);first
      | (clear 30 (PE _ _ (RE _ (Cn _ _)));refine UM ?_ ?_)
      | (clear 30 (PE _ _ (RE _ _));refine UR ?_)
      | (clear 30 (PE _ _ (RE _ (HV _ _)));refine WG ?_ ?_))
    | (clear 30 (PE _ (.Compare ..) ..);first
      | (clear 30 (PE _ (.Compare _ [.Eq] [_] _) (RE _ (Ac _ _ (eqS _))));refine GO (OZ hr.units) (Hw (g:=id)) ?_ ?_ (Dt _))
      | (clear 30 (PE _ _ (RE _ (Ac _ _ leA)));refine GO LA JF ?_ ?_ (Dt _))
      | (clear 30 (PE _ (.Compare _ [.NotEq] [_] _) (RE _ (Ac _ _ (eqS _))));refine GO (O2 hr.units) (Hw (g:=λb=>!b)) ?_ ?_ (Dt _))
      | (clear 30 (PE _ _ (RE _ (Ac _ _ ltA)));refine GO O1 ML ?_ ?_ (Dt _))
      | (clear 30 (PE _ _ (RE _ (Ej _ _ _ _ _)));refine P4 LA LA JF JF ?_ ?_ ?_)
      | (clear 30 (PE _ _ (RE _ (Ac _ _ isC)));refine GO Vm V3 ?_ ?_ (Dt _)))
    | (clear 30 (PE _ (.UnaryOp ..) ..);first
      | (clear 30 (PE _ _ (RE _ (fUn _ H9)));refine WH Wi TU ?_)
      | (clear 30 (PE _ _ (RE _ (Ge _)));refine UP ?_))
    | (clear 30 (PE _ (.ListComp ..) ..);first
      | (clear 30 (PE _ (.ListComp _ [⟨(.Name ("size" : Str) _),_,_,0⟩] _ _) (RF _ (AA _ [] _ _ _ _)));refine BJ (Bj ["size"] [] rfl rfl rfl rfl rfl) rfl ?_ (λ_ _ _ _ _=>?_) (λ_ _ _ _ _=>?_) (λ_ _ _ _ _=>?_))
      | (clear 30 (PE _ (.ListComp _ [⟨(.Name ("k" : Str) _),_,_,0⟩] _ _) (RF _ (AA _ [0] _ _ _ _)));refine BJ (Bj ["k"] [(0 , "s")] rfl rfl rfl rfl rfl) rfl ?_ (λ_ _ _ _ _=>?_) (λ_ _ _ _ _=>?_) (λ_ _ _ _ _=>?_))
      | (clear 30 (PE _ (.ListComp _ [⟨(.Name ("sign" : Str) _),_,_,0⟩] _ _) (RF _ (AA _ [] _ _ _ _)));refine BJ (Bj ["sign"] [] rfl rfl rfl rfl rfl) rfl ?_ (λ_ _ _ _ _=>?_) (λ_ _ _ _ _=>?_) (λ_ _ _ _ _=>?_))
      | (clear 30 (PE _ (.ListComp _ [⟨(.Name ("k" : Str) _),_,_,0⟩] _ _) (RF _ (AA _ [0,1] _ _ _ _)));refine BJ (Bj ["k"] [(0 , "number") ,(1 , "width")] rfl rfl rfl rfl rfl) rfl ?_ (λ_ _ _ _ _=>?_) (λ_ _ _ _ _=>?_) (λ_ _ _ _ _=>?_))
      | (clear 30 (PE _ (.ListComp _ [⟨(.Name ("k" : Str) _),_,_,0⟩] _ _) (RF _ (AA _ [0,1] _ _ _ _)));refine BJ (Bj ["k"] [(0 , "s") ,(1 , "r")] rfl rfl rfl rfl rfl) rfl ?_ (λ_ _ _ _ _=>?_) (λ_ _ _ _ _=>?_) (λ_ _ _ _ _=>?_))
      | (clear 30 (PE _ (.ListComp _ [⟨(.Name ("value" : Str) _),_,_,0⟩] _ _) (RF _ (AA _ [0,1] _ _ _ _)));refine BJ (Bj ["value"] [(0 , "s") ,(1 , "r")] rfl rfl rfl rfl rfl) rfl ?_ (λ_ _ _ _ _=>?_) (λ_ _ _ _ _=>?_) (λ_ _ _ _ _=>?_))
      | (clear 30 (PE _ (.ListComp _ [⟨(.Name ("value" : Str) _),_,_,0⟩] _ _) (RF _ (AA _ [0] _ _ _ _)));refine BJ (Bj ["value"] [(0 , "s")] rfl rfl rfl rfl rfl) rfl ?_ (λ_ _ _ _ _=>?_) (λ_ _ _ _ _=>?_) (λ_ _ _ _ _=>?_))
      | (clear 30 (PE _ (.ListComp _ [⟨(.Name ("value" : Str) _),_,_,0⟩] _ _) (RF _ (AA _ [3] _ _ _ _)));refine BJ (Bj ["value"] [(3 , "k")] rfl rfl rfl rfl rfl) rfl ?_ (λ_ _ _ _ _=>?_) (λ_ _ _ _ _=>?_) (λ_ _ _ _ _=>?_))
      | (clear 30 (PE _ (.ListComp _ [⟨(.Name ("thing" : Str) _),_,_,0⟩] _ _) (RF _ (AA _ [] _ _ _ _)));refine BJ (Bj ["thing"] [] rfl rfl rfl rfl rfl) rfl ?_ (λ_ _ _ _ _=>?_) (λ_ _ _ _ _=>?_) (λ_ _ _ _ _=>?_))
      | (clear 30 (PE _ _ (RF _ (AA _ [2,0] _ _ _ _)));refine BJ (Bj ["k"] [(2 , "signs") ,(0 , "pool")] rfl rfl rfl rfl rfl) rfl ?_ (λ_ _ _ _ _=>?_) (λ_ _ _ _ _=>?_) (λ_ _ _ _ _=>?_))
      | (clear 30 (PE _ (.ListComp _ [⟨(.Name ("k" : Str) _),_,_,0⟩] _ _) (RF _ (AA _ [0,1] _ _ _ _)));refine BJ (Bj ["k"] [(0 , "pool") ,(1 , "s")] rfl rfl rfl rfl rfl) rfl ?_ (λ_ _ _ _ _=>?_) (λ_ _ _ _ _=>?_) (λ_ _ _ _ _=>?_))
      | (clear 30 (PE _ (.ListComp _ [⟨(.Name ("k" : Str) _),_,_,0⟩] _ _) (RF _ (AA _ [0] _ _ _ _)));refine BJ (Bj ["k"] [(0 , "pool")] rfl rfl rfl rfl rfl) rfl ?_ (λ_ _ _ _ _=>?_) (λ_ _ _ _ _=>?_) (λ_ _ _ _ _=>?_))
      | (clear 30 (PE _ (.ListComp _ [⟨(.Name ("one" : Str) _),_,_,0⟩] _ _) (RF _ (AA _ [0] _ _ _ _)));refine BJ (Bj ["one"] [(0 , "pool")] rfl rfl rfl rfl rfl) rfl ?_ (λ_ _ _ _ _=>?_) (λ_ _ _ _ _=>?_) (λ_ _ _ _ _=>?_))
      | (clear 30 (PE _ (.ListComp _ [⟨(.Name ("k" : Str) _),_,_,0⟩] _ _) (RF _ (AA _ [3] _ _ _ _)));refine BJ (Bj ["k"] [(3 , "pool")] rfl rfl rfl rfl rfl) rfl ?_ (λ_ _ _ _ _=>?_) (λ_ _ _ _ _=>?_) (λ_ _ _ _ _=>?_)))
    | (clear 30 (PE _ _ (RE _ (Aq _)));refine R9 ?_)
    | (clear 30 (PE _ _ (RE _ (Gf _)));refine UQ ?_))
  | (clear 30 (PSs ..);first
    | refine @Qd _ _ _ _ _ _ ?_ ?_
    | refine @So _ _ _ _ ?_
    | exact Sn)
  | (clear 30 (PS ..);first
    | (clear 30 (PS _ (.Return ..) ..);first
      | (clear 30 (PS _ _ (RSg _ (μR _) (Ak _)));refine OA ?_)
      | (clear 30 (PS _ _ (RSg _ (μX _ _) (Ak (nxD _))));refine Mt ?_)
      | (clear 30 (PS _ _ (RSg _ (μF _) (Gx _)));refine Ms ?_)
      | (clear 30 (PS _ _ (RSg _ (μX _ _) (Ak _)));refine Hu (Mu ?_))
      | (clear 30 (PS _ _ (RSg _ (μF _) (FX _)));exact (OB _)))
    | (clear 30 (PS _ (.If ..) ..);first
      | refine WM ?_ ?_ ?_)
    | (clear 30 (PS _ (.Assign ..) ..);first
      | (clear 30 (PS _ (.Assign [.Name _ _] _ _) (RSg _ _ (Av _ _)));refine OC nd rfl (.inl rfl) ?_)
      | (clear 30 (PS _ _ (RSg _ (μX _ _) (D1 _ _)));refine Hu (Sm nd rfl (.inl rfl) ?_))
      | (clear 30 (PS _ _ (RSg _ _ (EH _ _)));refine U1 ?_ ?_)
      | (clear 30 (PS _ _ (RSg _ _ (C6 _ _)));refine U2 nd rfl (.inl rfl) ?_)
      | (clear 30 (PS _ _ (RSg _ _ (C6 _ (AA _ [] _ _ _ _))));refine Jt (Bj ["value"] [] rfl rfl rfl rfl rfl) rfl nd rfl rfl ?_ (λ_ _ _ _ _=>?_) (λ_ _ _ _ _=>?_) (λ_ _ _ _ _=>?_))
      | (clear 30 (PS _ (.Assign [.Name _ _] (.ListComp _ [⟨(.Name ("value" : Str) _),_,_,0⟩] _ _) _) (RSg _ _ (C6 _ (AA _ [0] _ _ _ _))));refine Jt (Bj ["value"] [(0 , "s")] rfl rfl rfl rfl rfl) rfl nd rfl rfl ?_ (λ_ _ _ _ _=>?_) (λ_ _ _ _ _=>?_) (λ_ _ _ _ _=>?_))
      | (clear 30 (PS _ (.Assign [.Name _ _] (.ListComp _ [⟨(.Name ("k" : Str) _),_,_,0⟩] _ _) _) (RSg _ _ (C6 _ (AA _ [0] _ _ _ _))));refine Jt (Bj ["k"] [(0 , "s")] rfl rfl rfl rfl rfl) rfl nd rfl rfl ?_ (λ_ _ _ _ _=>?_) (λ_ _ _ _ _=>?_) (λ_ _ _ _ _=>?_))
      | (clear 30 (PS _ _ (RSg _ _ (Av _ (Aq (AA _ [0] _ _ _ _)))));refine Ju (Bj ["k"] [(0 , "pool")] rfl rfl rfl rfl rfl) rfl nd rfl rfl ?_ (λ_ _ _ _ _=>?_) (λ_ _ _ _ _=>?_) (λ_ _ _ _ _=>?_))
      | (clear 30 (PS _ (.Assign [.Name _ _] _ _) (RSg _ _ (Av _ _)));refine OC nd rfl (.inr rfl) ?_)
      | (clear 30 (PS _ _ (RSg _ _ (Av _ (Aq (AA _ [3] _ _ _ _)))));refine Ju (Bj ["k"] [(3 , "pool")] rfl rfl rfl rfl rfl) rfl nd rfl rfl ?_ (λ_ _ _ _ _=>?_) (λ_ _ _ _ _=>?_) (λ_ _ _ _ _=>?_))
      | (clear 30 (PS _ _ (RSg _ _ (Av _ (Aq (AA _ [] _ _ _ _)))));refine Ju (Bj ["one"] [] rfl rfl rfl rfl rfl) rfl nd rfl rfl ?_ (λ_ _ _ _ _=>?_) (λ_ _ _ _ _=>?_) (λ_ _ _ _ _=>?_)))
    | (clear 30 (PS _ (.For ..) ..);first
      | (clear 30 (PS _ (.For _ _ _ [] _) (RSg _ _ (BG _ _ _)));refine Oy PassesOwn.never rfl ?_ ?_ ?_)
      | (clear 30 (PS _ (.For _ _ _ [] _) (RSg _ _ (BG _ _ _)));refine Oy ho rfl ?_ ?_ ?_))
    | (clear 30 (PS _ (.Expr ..) ..);first
      | (clear 30 (PS _ _ (RSg _ _ (ownM _ Fo _)));refine Nf _ ?_)
      | (clear 30 (PS _ _ (RSg _ _ (ownM _ EG _)));refine Nd _ ?_))
    | (clear 30 (PS _ (.Raise ..) ..);first
      | (clear 30 (PS _ _ (RSg _ (μX _ _) (FT _ _)));refine Hu (Oz x xb (hr.mono (by lia)) rfl hq rfl ?_))
      | (clear 30 (PS _ _ (RSg _ (μX _ _) (El ("NoValue" : Str) _)));refine Hu (JZ (n:="NoValue") x (by decide) rfl (x0 "NoValue" (by decide)) rfl hq rfl ?_))
      | (clear 30 (PS _ _ (RSg _ (μX _ _) (El ("Short" : Str) _)));refine Hu (JZ (n:="Short") x (by decide) rfl (x0 "Short" (by decide)) rfl hq rfl ?_)))
    | (clear 30 (PS _ (.While ..) ..);first
      | refine Qc PassesOwn.never ?_ ?_)
    | refine OA ?_
    | refine Ms ?_
    | refine Mt ?_
    | refine Hu (Mu ?_))
  | (clear 30 (PT ..);first
    | (clear 30 (PT _ (.Compare ..) ..);first
      | (clear 30 (PT _ (.Compare _ [.Eq] [_] _) (RT _ (Aj (Ac _ _ (eqS _)))));refine FO (OZ hr.units) (Hw (g:=id)) ?_ ?_ (Dt _))
      | (clear 30 (PT _ _ (RT _ (Aj (Ac _ _ gtA))));refine FO Vl TF ?_ ?_ (Dt _))
      | (clear 30 (PT _ (.Compare _ [.NotEq] [_] _) (RT _ (Aj (Ac _ _ (eqS _)))));refine FO (O2 hr.units) (Hw (g:=λb=>!b)) ?_ ?_ (Dt _))
      | (clear 30 (PT _ _ (RT _ (Aj (Ac _ _ ltA))));refine FO O1 ML ?_ ?_ (Dt _))
      | (clear 30 (PT _ _ (RT _ (Aj (Ac _ _ geA))));refine FO Vk TD ?_ ?_ (Dt _))
      | (clear 30 (PT _ _ (RT _ (Aj (Ac _ _ (inD _)))));refine FO O0 V2 ?_ ?_ (by with_unfolding_all rfl)))
    | (clear 30 (PT _ (.UnaryOp ..) ..);first
      | refine U3 ?_)
    | (clear 30 (PT _ (.BoolOp ..) ..);first
      | refine WN ?_)
    | (clear 30 (PT _ _ (RT _ (Aj _)));refine U4 ?_))
  | (clear 30 (PG ..);first
    | (clear 30 (PG _ (.Name ..) ..);first
      | (clear 30 (PG _ (.Name _ _) (RG _ (Aw _)));exact (Bk nd rfl (.inl rfl)))
      | (clear 30 (PG _ (.Name _ _) (RG _ (Aw _)));exact (Bk (by show List.Nodup [("k" : Str) ,("pool" : Str)] ;decide +kernel) rfl (.inl rfl)))
      | (clear 30 (PG _ (.Name _ _) (RG _ (Aw _)));exact (Bk (by show List.Nodup [("k" : Str) ,("s" : Str)] ;decide +kernel) rfl (.inl rfl)))
      | (clear 30 (PG _ (.Name _ _) (RG _ (Aw _)));exact (Bk (by show List.Nodup [("size" : Str)] ;decide +kernel) rfl (.inl rfl)))
      | (clear 30 (PG _ (.Name _ _) (RG _ (Aw _)));exact (Bk (by show List.Nodup [("value" : Str) ,("s" : Str)] ;decide +kernel) rfl (.inl rfl)))
      | (clear 30 (PG _ (.Name _ _) (RG _ (Aw _)));exact (Bk (by show List.Nodup [("sign" : Str)] ;decide +kernel) rfl (.inl rfl)))
      | (clear 30 (PG _ (.Name _ _) (RG _ (Aw _)));exact (Bk (by show List.Nodup [("k" : Str) ,("number" : Str) ,("width" : Str)] ;decide +kernel) rfl (.inl rfl)))
      | (clear 30 (PG _ (.Name _ _) (RG _ (Aw _)));exact (Bk (by show List.Nodup [("k" : Str) ,("s" : Str) ,("r" : Str)] ;decide +kernel) rfl (.inl rfl)))
      | (clear 30 (PG _ (.Name _ _) (RG _ (Aw _)));exact (Bk (by show List.Nodup [("value" : Str) ,("s" : Str) ,("r" : Str)] ;decide +kernel) rfl (.inl rfl)))
      | (clear 30 (PG _ (.Name _ _) (RG _ (Aw _)));exact (Bk (by show List.Nodup [("value" : Str)] ;decide +kernel) rfl (.inl rfl)))
      | (clear 30 (PG _ (.Name _ _) (RG _ (Aw _)));exact (Bk nd rfl (.inr rfl)))
      | (clear 30 (PG _ (.Name _ _) (RG _ (Aw _)));exact (Bk (by show List.Nodup [("value" : Str) ,("k" : Str)] ;decide +kernel) rfl (.inl rfl)))
      | (clear 30 (PG _ (.Name _ _) (RG _ (Aw _)));exact (Bk (by show List.Nodup [("thing" : Str)] ;decide +kernel) rfl (.inl rfl)))
      | (clear 30 (PG _ (.Name _ _) (RG _ (Aw _)));exact (Bk (by show List.Nodup [("k" : Str) ,("signs" : Str) ,("pool" : Str)] ;decide +kernel) rfl (.inl rfl)))
      | (clear 30 (PG _ (.Name _ _) (RG _ (Aw _)));exact (Bk (by show List.Nodup [("k" : Str) ,("pool" : Str) ,("s" : Str)] ;decide +kernel) rfl (.inl rfl)))
      | (clear 30 (PG _ (.Name _ _) (RG _ (Aw _)));exact (Bk (by show List.Nodup [("one" : Str) ,("pool" : Str)] ;decide +kernel) rfl (.inl rfl)))
      | (clear 30 (PG _ (.Name _ _) (RG _ (Aw _)));exact (Bk (by show List.Nodup [("one" : Str)] ;decide +kernel) rfl (.inl rfl))))
    | (clear 30 (PG _ (.Tuple ..) ..);first
      | refine WK rfl ?_)
    | (clear 30 (PG _ (.Subscript ..) ..);first
      | (clear 30 (PG _ _ (RG _ (stD _ _)));refine UY ?_ ?_)
      | (clear 30 (PG _ _ (RG _ (Hx _ _)));refine Ot 2 ?_)))
  | (clear 30 (PIf ..);first
    | exact Sb
    | (clear 30 (PIf _ [_] (RT _ _));refine Sc ?_))
  | (clear 30 (PI ..);first
    | (clear 30 (PI _ _ (.Call ..) ..);first
      | (clear 30 (PI _ _ _ (RI _ (A3 _)));refine Na rfl M.aC ?_)
      | (clear 30 (PI _ _ _ (RI _ (Fh _)));refine Nb rfl M.aC ?_))
    | (clear 30 (PI _ _ _ (RI _ (B4 _)));refine UZ ?_))
  | (clear 30 (PW ..);first
    | (clear 30 (PW _ (.BoolOp .Or (_ :: _ :: _) _) (RT _ (fOr _ _)));refine WO ?_ ?_)
    | (clear 30 (PW _ (.BoolOp .Or [_] _) (RT _ _));refine U6 ?_)
    | (clear 30 (PW _ (.BoolOp .And (_ :: _ :: _) _) (RT _ (Dn _ _)));refine U5 ?_ ?_)
    | (clear 30 (PW _ (.BoolOp .And [_] _) (RT _ _));refine Sq ?_))
  | (clear 30 (PGs ..);first
    | refine Qa ?_ ?_
    | exact Sa)
  | (clear 30 (PO ..);first
    | exact Sj
    | refine Sk ?_)
theorem all_ok (M:Md K mg A fd):∀(n:Nat) (x:Fx),okK (kd x) P w K mg base (2 * n + 2) (A x) (fd x) (ps x) (run n x)
 | 0,x=>Qs
 | n + 1,x=>by
   have ih:=all_ok M n;exact step M ih x
end
abbrev fno (x:Fx)(kV dc pm:Value)(an:Option Addr)(cd ct:Value):FuncData:=PySem.W.fnOf (nm x) (nm x) (DJ (st x)) (By (st x)) (Ay (st x)) .none kV dc pm an cd ct
structure At (K:PySem.W.Frag)(x:Fx)(f:Addr)(fd:FuncData):Prop where
 a:PySem.W.nsIn K mainGlobals (nm x)=some (some (.ref f))
 fn:Fun K (nm x) (nm x) (st x) f fd
 bd:Binds K fd (ps x) []
 eq:∃kV dc pm an cd ct,fd=fno x kV dc pm an cd ct
theorem at_mk {K:PySem.W.Frag}{x:Fx}{f:Addr}{od an:Option Addr}{sl:Array (Option Value)}{oc kV dc pm cd ct:Value}(a:PySem.W.nsIn K mainGlobals (nm x)=some (some (.ref f)))(l:K.lookup f=some ⟨oc,od,.func (fno x kV dc pm an cd ct),sl⟩)(c:PySem.W.codeIn K cd (nm x)=true)(k:PySem.W.keepIn K (.ref f)=true):∃p:Addr×FuncData,At K x p.1 p.2:=by
 refine ⟨(f,fno x kV dc pm an cd ct),a,IH (st:=st x) l c k,(IH (st:=st x) l c k).binds (ps:=ps x) λ_ _ _ _ _ _ us hl=>?_,_,_,_,_,_,_,rfl⟩
 cases x <;> first | (obtain ⟨_,rfl⟩:=us1 hl;rfl) | (obtain ⟨_,_,rfl⟩:=us2 hl;rfl) | (obtain ⟨_,_,_,rfl⟩:=us3 hl;rfl) | (obtain ⟨_,_,_,_,rfl⟩:=us4 hl;rfl) | (obtain ⟨_,_,_,_,_,rfl⟩:=us5 hl;rfl) | (obtain ⟨_,_,_,_,_,_,rfl⟩:=us6 hl;rfl) | (obtain ⟨_,_,_,_,_,_,_,rfl⟩:=us7 hl;rfl)
theorem xm_all {K:PySem.W.Frag}{h:Heap}{mg:Str->Option Value}{P c1 c2 c3:Addr}{f2:Addr}{od2 an2:Option Addr}{sl2:Array (Option Value)}{oc2 kV2 dc2 pm2 cd2 ct2:Value}(X:K.In h)(G:h.Ns mainGlobals mg)(p:PySem.W.nsIn K mainGlobals "ParleyError" = some (some (.ref P)))(a1:PySem.W.nsIn K mainGlobals "NoValue" = some (some (.ref c1)))(a2:PySem.W.nsIn K mainGlobals "Short" = some (some (.ref c2)))(a3:PySem.W.nsIn K mainGlobals "Broken" = some (some (.ref c3)))(q:NS K P [c1,c2,c3]=true)(nd:[P,c1,c2,c3].Nodup)(fi2:PySem.W.findIn K (.ref c3) "__init__" = some (some (.ref f2)))(l2:K.lookup f2=some ⟨oc2,od2,.func (PySem.W.fnOf "__init__" "Broken.__init__" (DJ (Eh (top 4) 0)) (By (Eh (top 4) 0)) (Ay (Eh (top 4) 0)) .none kV2 dc2 pm2 an2 cd2 ct2),sl2⟩)(ii2:Lj K c3 f2=true)(hf2:PySem.W.isFn K (.ref f2)=true)(hs2:PySem.W.findIn K (.ref c3) "__setattr__" = some (some (.builtin "object.__setattr__")))(cc2:PySem.W.codeIn K cd2 "Broken.__init__" = true)(k2:PySem.W.keepIn K (.ref f2)=true)(n1:IQ K c1=true)(n2:IQ K c2=true):∃(P:Addr) (ca:Str->Addr),XM K mg P ca/\XF2 K (ca "Broken") P "Broken.__init__" (Eh (top 4) 0)/\∀n∈(["NoValue", "Short"]:List Str),XN0 K (ca n):=by
 have x:=XS X G p a1 a2 a3 q nd;refine ⟨P,_,x,WA (C:=c3) (st:=(Eh (top 4) 0)) ⟨x.cl "Broken" (by decide),x.kp "Broken" (by decide),x.gt "Broken" (by decide),x.gc "Broken" (by decide),x.na "Broken" (by decide),x.nd "Broken" (by decide)⟩ ii2 hf2 hs2 l2 cc2 k2 (λ_ _ _ _ _ _ us hl=>by match us,hl with | [_,_,_],_=>rfl),?_⟩;intro n hn;simp only [ul5,ui2,or_false] at hn;rcases hn with rfl | rfl
 ·exact Pz n1
 ·exact Pz n2
theorem fin_mk {K:PySem.W.Frag}{h:Heap}{mg:Str->Option Value}{fa:Addr}(X:K.In h)(G:h.Ns mainGlobals mg)(hmg:mg "law" = some (.ref fa))(H:∀x:Fx,∃p:Addr×FuncData,At K x p.1 p.2)(aN:PySem.W.nsIn K mainGlobals "all" = some none)(aG:PySem.W.nsIn K mainGlobals "bool" = some none)(aI:PySem.W.nsIn K mainGlobals "int" = some none)(aA:PySem.W.nsIn K mainGlobals "isinstance" = some none)(aH:PySem.W.nsIn K mainGlobals "len" = some none)(aE:PySem.W.nsIn K mainGlobals "list" = some none)(aK:PySem.W.nsIn K mainGlobals "max" = some none)(aJ:PySem.W.nsIn K mainGlobals "min" = some none)(aP:PySem.W.nsIn K mainGlobals "ord" = some none)(aC:PySem.W.nsIn K mainGlobals "range" = some none)(aO:PySem.W.nsIn K mainGlobals "str" = some none)(aQ:PySem.W.nsIn K mainGlobals "sum" = some none)(aD:PySem.W.nsIn K mainGlobals "tuple" = some none){aL:Tok}(a7:PySem.W.nsIn K mainGlobals "FIRST_SIGN" = some (some (.int 32 aL))){aM:Tok}(a9:PySem.W.nsIn K mainGlobals "LAST_SIGN" = some (some (.int 126 aM))){aF:Tok}(a6:PySem.W.nsIn K mainGlobals "PERCENT_SIGN" = some (some (.int 37 aF))){aR:Tok}(aB:PySem.W.nsIn K mainGlobals "SIGNS" = some (some (.str " !\"#$ &'()*+,-./0123456789:;<=>?@ABCDEFGHIJKLMNOPQRSTUVWXYZ[\\]^_`abcdefghijklmnopqrstuvwxyz{|}~" aR)))(xm:∃(P:Addr) (ca:Str->Addr),XM K mg P ca/\XF2 K (ca "Broken") P "Broken.__init__" (Eh (top 4) 0)/\∀n∈(["NoValue", "Short"]:List Str),XN0 K (ca n)):∃(A:Fx->Addr) (fd:Fx->FuncData),Md K mg A fd/\A .law_=fa/\∀(s:Shared) (u:Value),BindsTo s (fd .law_) ⟨[u],[]⟩ [("script",u)]:=by
 obtain ⟨F,hF⟩:=Classical.axiomOfChoice H;refine ⟨λx=>(F x).1,λx=>(F x).2,{ fn:=λx=>(hF x).fn,mgs:=λx=>um1 X G (hF x).a,bd:=λx=>(hF x).bd,xm:=xm,aN:=ug1 X G aN,aG:=ug1 X G aG,aI:=ug1 X G aI,aA:=ug1 X G aA,aH:=ug1 X G aH,aE:=ug1 X G aE,aK:=ug1 X G aK,aJ:=ug1 X G aJ,aP:=ug1 X G aP,aC:=ug1 X G aC,aO:=ug1 X G aO,aQ:=ug1 X G aQ,aD:=ug1 X G aD,a7:=⟨aL,um1 X G a7⟩,a9:=⟨aM,um1 X G a9⟩,a6:=⟨aF,um1 X G a6⟩,aB:=⟨aR,um1 X G aB⟩ },?_,λs u=>?_⟩
 ·have e:=hmg.symm.trans (um1 X G (hF .law_).a)
  cases e
  rfl
 ·obtain ⟨_,_,_,_,_,_,e⟩:=(hF .law_).eq;show BindsTo s (F .law_).2 _ _;rw [e];exact .of_eq rfl
theorem walk {l:PySem.W.OpenLaw}{q:Program}{loose:List Str}{XP:(Str->Option Value)->Heap->Prop}{YP:World->Heap->Prop}{d:DefRec}{K:Params->PySem.W.Frag}(m:Nat)(hm:Room (2 * m + 2) callerA)(hn:l.most=some 63)(hdf:d.params.defaults=[])
 (hY:∀(w:World) (h:Heap),YP w h->(K w.params).In h) (lt:∀ns:List Int,ns.length<=63->∃S',run m .law_ [.scr ns] []=some (.bl true,S'))
 (F:∀(w:World) (mg:Str->Option Value) (fa:Addr) (h:Heap),(K w.params).In h->h.Ns mainGlobals mg->mg d.name=some (.ref fa)->
   ∃(A:Fx->Addr) (fd:Fx->FuncData),Md (K w.params) mg A fd/\A .law_=fa/\∀(s:Shared) (u:Value),BindsTo s (fd .law_) ⟨[u],[]⟩ [("script",u)]) :
 PySem.W.WalkO q loose XP YP l.row.toRowW d [] (λf vs=>PySem.call f vs):=
 L2.Um (n:=63) (k:=2 * m + 2) (x:="script") (CX:=λ_=>CX0) (sp:=λw=>spF (K w.params) (run m .law_)) hn (by decide) hdf hm hY
  (λw mg fa h KX G hmg=>by obtain ⟨A,fd,M,e,b⟩:=F w mg fa h KX G hmg;subst e;exact ⟨fd .law_,b,λbase _ _=>all_ok M m .law_⟩)
  (λw H a ns hl hO hS=>by obtain ⟨S',e⟩:=lt ns hl;exact OK hO hS e) λ_ _ _ _ _ z=>z
theorem SL (k:Nat):Mh (run (k + 1) .Ca):=λd h=>Ll h
theorem Ja (k:Nat):F6 (run (k + 2) .AR):=Py (SL k)
theorem LZ (k:Nat):Iw (run (k + 1) .CB):=Nh
theorem Q4 (k:Nat):KF (run (k + 2) .B9):=Le (LZ k)
theorem EL:∀(n k:Nat),2 * n + 3<=k->DN (run k .CU) n
 | 0,k,_=>λs hs=>absurd s.depth_pos (by lia)
 | n + 1,k,h=>by
   obtain ⟨j,rfl⟩:∃j,k=j + 4:=Nat.exists_eq_add_of_le' (by lia);have ih:=EL n (j + 2) (by lia);exact Se (Js ih (Ja j)) (Ld ih) (Lc ih) (Q4 (j + 1)) (Ja (j + 1))
theorem Lo (k:Nat):GD (run (k + 1) .CD):=SD
theorem Qr (k:Nat):Ky (run (k + 2) .Bv):=SN (Lo k)
theorem JM (k:Nat):Hf (run (k + 1) .Bc):=Rg
theorem HX:∀(n k:Nat),n + 3<=k->FH (run k .AY) n
 | 0,k,_=>λs hs=>absurd s.depth_pos (by lia)
 | n + 1,k,h=>by
   obtain ⟨j,rfl⟩:∃j,k=j + 3:=Nat.exists_eq_add_of_le' (by lia);exact Sd (HX n (j + 2) (by lia)) (JM (j + 1)) (Qr j)
theorem Uo (k:Nat):MZ (run (k + 2) .Cw):=Mg (JM k)
theorem FP:∀(n k:Nat),n + 2<=k->F4 (run k .Bd) n
 | 0,k,_=>λs r h=>absurd s.depth_pos (by lia)
 | n + 1,k,h=>by
   obtain ⟨j,rfl⟩:∃j,k=j + 3:=Nat.exists_eq_add_of_le' (by lia);exact Lm (Uo j) (.inr (FP n (j + 2) (by lia)))
theorem Bl (k:Nat):PTakeOk (run (k + 1) .AF):=QI
theorem Pc (k:Nat):Jd (run (k + 1) .B8):=QF
theorem C9 (k:Nat):PLeafOk (run (k + 2) .A4):=QD (Bl k)
theorem J5:∀(n k:Nat),n + 3<=k->Hc (run k .BO) n
 | 0,k,_=>λd k n S h=>absurd h (by lia)
 | n + 1,k,h=>by
   obtain ⟨j,rfl⟩:∃j,k=j + 4:=Nat.exists_eq_add_of_le' (by lia);exact QE (Bl (j + 2)) (C9 (j + 1)) (.inr (J5 n (j + 3) (by lia)))
theorem LD (k:Nat):PRecOk (run (k + 3) .Bq):=Tl (C9 k)
theorem O9 (k:Nat):HJ (run (k + 4) .B7):=O8 (Bl (k + 2)) (LD k) (C9 (k + 1))
theorem Mb (k:Nat):GF (run (k + 1) .BF):=NC
theorem J6:∀(n k:Nat),n + 3<=k->Hd (run k .BQ) n
 | 0,k,_=>λs k n B S h=>absurd s.depth_pos (by lia)
 | n + 1,k,h=>by
   obtain ⟨j,rfl⟩:∃j,k=j + 4:=Nat.exists_eq_add_of_le' (by lia);exact QH (Bl (j + 2)) (C9 (j + 1)) (Mb (j + 2)) (.inr (J6 n (j + 3) (by lia)))
theorem Pg (k:Nat):Je (run (k + 2) .AQ):=QK (Bl k)
theorem Gv:∀(n k:Nat),2 * n + 4<=k->FI (run k .A6) n
 | 0,k,_=>λs k n B S h=>absurd s.depth_pos (by lia)
 | n + 1,k,h=>by
   obtain ⟨j,rfl⟩:∃j,k=j + 5:=Nat.exists_eq_add_of_le' (by lia);exact Ts (Bl (j + 3)) (.inr (Gv n (j + 4) (by lia))) (Tt (Gv n (j + 3) (by lia)) (Bl (j + 2)) (C9 (j + 1))) (Pg (j + 2)) (C9 (j + 2))
theorem LJ:∀(n k:Nat),n + 2<=k->Ir (run k .BC) n
 | 0,k,_=>λs k n S h=>absurd s.depth_pos (by lia)
 | n + 1,k,h=>by
   obtain ⟨j,rfl⟩:∃j,k=j + 2:=Nat.exists_eq_add_of_le' (by lia);exact Tq (Bl j) (.inr (LJ n (j + 1) (by lia)))
theorem KL (k:Nat):BX (run (k + 1) .Cg):=WB
theorem Wj (k:Nat):UX (run (k + 2) .Bn):=Xg (KL k)
theorem Wa (k:Nat):SX (run (k + 2) .Db):=W7 (LZ k) (KL k)
theorem LM:∀(n k:Nat),2 * n + 4<=k->Iv (run k .Bb) n
 | 0,k,_=>λs hs=>absurd s.depth_pos (by lia)
 | n + 1,k,h=>by
   obtain ⟨j,rfl⟩:∃j,k=j + 5:=Nat.exists_eq_add_of_le' (by lia);exact Ph rfl rfl rfl rfl rfl (Wj (j + 1)) (Wa (j + 1)) (Lo (j + 2)) (KL (j + 2)) (JM (j + 2)) (LM n (j + 3) (by lia))
theorem MS:∀(n k:Nat),n<=k->Ix (run k .Be) n
 | 0,k,_=>λs hs=>absurd s.depth_pos (by lia)
 | n + 1,k,h=>by
   obtain ⟨j,rfl⟩:∃j,k=j + 1:=Nat.exists_eq_add_of_le' (by lia);exact Wl (.inr (MS n j (by lia)))
theorem J8 (n k:Nat)(h:n<=k):MX (run (k + 1) .Cd) n:=V8 (MS n k h)
theorem GU:∀(n k:Nat),n + 2<=k->DG (run k .AW) n
 | 0,k,_=>λs hs=>absurd s.depth_pos (by lia)
 | n + 1,k,h=>by
   obtain ⟨j,rfl⟩:∃j,k=j + 2:=Nat.exists_eq_add_of_le' (by lia);exact Qk (.inr (GU n (j + 1) (by lia))) (J8 (n + 1) j (by lia))
theorem Ka:∀(n k:Nat),2 * n + 3<=k->Ez (run k .Dd) n
 | 0,k,_=>λs r hs=>absurd s.depth_pos (by lia)
 | n + 1,k,h=>by
   obtain ⟨j,rfl⟩:∃j,k=j + 2:=Nat.exists_eq_add_of_le' (by lia);have hl:=GU n j (by lia);have ht:=Ka n j (by lia);exact Q6 (WD hl ht) (W1 hl ht) (WT hl ht) (FP (n + 1) (j + 1) (by lia)) (GU (n + 1) (j + 1) (by lia))
theorem Qw:KD (run 98 .C7) 6:=Nv (Ka 6 97 (by decide)) (W6 (EL 6 96 (by decide)) (HX 6 96 (by decide))) (J8 6 96 (by decide)) (FP 6 97 (by decide))
theorem MR (n:Nat)(h:n<=40):VBX (run 98 .Br) n:=Wk (HX n 97 (by lia)) (EL n 97 (by lia))
theorem Nu:Jc (run 99 .BE):=Nk (MR 7 (by decide)) (EL 7 98 (by decide)) (FP 7 98 (by decide)) Qw
theorem PP:MU (run 99 .B6):=Qj (LM 6 98 (by decide)) (MR 6 (by decide)) (Bl 97) (EL 6 98 (by decide))
theorem Pl:∀(n k:Nat),n<=k->MY (run k .BP) n
 | 0,k,_=>λs hs=>absurd s.depth_pos (by lia)
 | n + 1,k,h=>by
   obtain ⟨j,rfl⟩:∃j,k=j + 1:=Nat.exists_eq_add_of_le' (by lia);exact W8 (.inr (Pl n j (by lia)))
theorem QJ:KC (run 99 .Bt):=To (Bl 97) (Pf (Bl 96) (LD 94) (C9 95) (J5 4 97 (by decide))) (Gv 6 98 (by decide))
theorem NB:HK (run 99 .A7):=Pa (Bl 97) (Gv 6 98 (by decide)) (O9 94)
theorem law_true (ns:List Int)(h:ns.length<=63):∃S',run 100 .law_ [.scr ns] []=some (.bl true,S'):=by
 obtain ⟨r,S',e,p⟩:=Vb (UV (Pl 6 98 (by decide))) Nu (FP 7 99 (by decide)) (LJ 6 99 (by decide)) PP (J6 6 99 (by decide)) (Bl 98) QJ NB (Pc 98) (ns:=ns);subst p;exact ⟨S',e⟩
end K52
namespace PySem.W.Fast
def tw1001528753212538438:=0
def tw10029660476818337909:=0
def tw10044796328053045919:=0
def tw10077717040742605983:=0
def tw1009468308761518504:=0
def tw10097181583668728536:=0
def tw10100421065717335002:=0
def tw10106100517833522341:=0
def tw10137434087873415709:=0
def tw10190379818427270708:=0
def tw10263664600783542358:=0
def tw10336313380890691759:=0
def tw10337483289764353136:=0
def tw10443580003951819189:=0
def tw10489633166129674686:=0
def tw10492518938370285742:=0
def tw10495175961237500298:=0
def tw1062414673511487025:=0
def tw10692515628398119992:=0
def tw10754225240258191023:=0
def tw10759353505099207811:=0
def tw10769279498733992888:=0
def tw10865908052167740307:=0
def tw10943868899840288236:=0
def tw10946866584127463793:=0
def tw10948925766687589615:=0
def tw10975618174675373349:=0
def tw11065880555942680605:=0
def tw11085078292745300025:=0
def tw11094352211767670333:=0
def tw11162448676818599534:=0
def tw11242185177133362822:=0
def tw11251245985408005719:=0
def tw1125728308846997226:=0
def tw11328225458682853495:=0
def tw11360076560270518823:=0
def tw11387878012102938947:=0
def tw11413710246380377520:=0
def tw11444399374687818806:=0
def tw11471759479834523374:=0
def tw11547972347605768793:=0
def tw11558746112391358059:=0
def tw11635939304719517256:=0
def tw11640680216027906967:=0
def tw1167698219720371329:=0
def tw11677952128318819747:=0
def tw11712431580288162603:=0
def tw11761162303790845075:=0
def tw11853256280947445397:=0
def tw11862886462254070652:=0
def tw11897791022137583572:=0
def tw11911359983312017381:=0
def tw11984069376762499602:=0
def tw11989325182426366597:=0
def tw12028813582428095057:=0
def tw12067192903516200854:=0
def tw12113237630816917823:=0
def tw12164239586743002091:=0
def tw12460193821740793296:=0
def tw12472011105858941716:=0
def tw12530198776128144008:=0
def tw12596996595316042151:=0
def tw12597571021836656015:=0
def tw12642598070782430098:=0
def tw12642649478644991806:=0
def tw12732338963278585337:=0
def tw12764920789423142019:=0
def tw12807389493209659515:=0
def tw12846518288832883376:=0
def tw12852635697600273909:=0
def tw12863217399858449475:=0
def tw12867038807316382459:=0
def tw12963013812349189156:=0
def tw13064897788283447439:=0
def tw13072782579578805120:=0
def tw13116945526605114565:=0
def tw13207815610590201397:=0
def tw13208350384913251143:=0
def tw13467808665779960690:=0
def tw13468116488743394928:=0
def tw13486620950308525809:=0
def tw13510451127433701362:=0
def tw13662871888746694970:=0
def tw13709120163765692029:=0
def tw13730857416070952758:=0
def tw13737685186772268079:=0
def tw13761414877091174174:=0
def tw13823831175281291457:=0
def tw13859441623617108198:=0
def tw14015765095644026907:=0
def tw14030619833873169304:=0
def tw14069814537803127580:=0
def tw14095130029093639892:=0
def tw1410519489497875020:=0
def tw14209250717798209021:=0
def tw14246668435649714491:=0
def tw14250530983808627523:=0
def tw14307418611532983512:=0
def tw14347148120172176708:=0
def tw14348834975136711599:=0
def tw14371536527495275309:=0
def tw14405412489273663257:=0
def tw14416979656420683171:=0
def tw14489442334001712732:=0
def tw14504177357820524650:=0
def tw14508717966129812976:=0
def tw1453253767989422261:=0
def tw14581067034757408963:=0
def tw14598086549896486860:=0
def tw14669953309230490388:=0
def tw14676127447070731570:=0
def tw14720340205721674674:=0
def tw14720535953482266144:=0
def tw14720764142288202084:=0
def tw14742267243203711458:=0
def tw14795135619444325390:=0
def tw14856985550071705300:=0
def tw14878327293344571397:=0
def tw14933355724560241400:=0
def tw1494770946676031117:=0
def tw15013980753629439984:=0
def tw15216586616083121030:=0
def tw15301284965524107708:=0
def tw15304593377136193408:=0
def tw15471853555792502454:=0
def tw15487129125987292176:=0
def tw15563298097148859185:=0
def tw15569710814741293545:=0
def tw15586840809882349702:=0
def tw15636782844159584634:=0
def tw15657523938229092570:=0
def tw15677139174883757274:=0
def tw15687029024499450222:=0
def tw1571731317573303491:=0
def tw15727581259151713035:=0
def tw15787429988616186604:=0
def tw15807490477121014883:=0
def tw15904517928294570402:=0
def tw16084576239707073571:=0
def tw16114757211039026287:=0
def tw16143232100987596201:=0
def tw16170114004482760158:=0
def tw16209493644082463843:=0
def tw16209595113899736190:=0
def tw16248344550578185936:=0
def tw16311588351256364878:=0
def tw16323699910617900240:=0
def tw16366307897673806235:=0
def tw16371591689754369693:=0
def tw16434799339103299626:=0
def tw16435650657724121594:=0
def tw16477035453284322711:=0
def tw1649504963711097709:=0
def tw16547754389458354146:=0
def tw16564290770463546699:=0
def tw16635910441998973723:=0
def tw16829710794937905851:=0
def tw16843005567405752323:=0
def tw16872905710576593724:=0
def tw16969994695592696355:=0
def tw17002285747294265402:=0
def tw17050169318269538884:=0
def tw17099512757758605874:=0
def tw17138621038722927508:=0
def tw17145486196369975828:=0
def tw17316970386491059921:=0
def tw17323982557919874057:=0
def tw17323991488844984178:=0
def tw17340639539829679250:=0
def tw17354336230545223982:=0
def tw17355197723704641573:=0
def tw17383190765521749843:=0
def tw1750562690727325989:=0
def tw17658843316642430147:=0
def tw1766877894393250706:=0
def tw17689232853348289308:=0
def tw1770198298040535238:=0
def tw17752413674638881288:=0
def tw17780991089082887105:=0
def tw17781374749386057858:=0
def tw17788078841678060203:=0
def tw17844309442690650365:=0
def tw17961124150925206447:=0
def tw18050617127824864298:=0
def tw18068525684776096948:=0
def tw18073560431191042335:=0
def tw18157954330785839151:=0
def tw18172647683120654276:=0
def tw18172834692542915805:=0
def tw18197197252729818801:=0
def tw18216341713573102672:=0
def tw18254655378949124241:=0
def tw18261567154521351597:=0
def tw18266729725766900595:=0
def tw18365022952773528472:=0
def tw18366777650275011483:=0
def tw18389444818689780581:=0
def tw1854667055718862807:=0
def tw1863686362980275290:=0
def tw1965929072006668470:=0
def tw2066513516559103987:=0
def tw2084283273275847390:=0
def tw2101797872490853250:=0
def tw2113682985129085905:=0
def tw2115789610218785652:=0
def tw2136895011995326779:=0
def tw2144836251447939635:=0
def tw2150235552937328771:=0
def tw2154698230037437529:=0
def tw2201380193231715600:=0
def tw2232161210426852391:=0
def tw2250542298296089793:=0
def tw2255742491194044304:=0
def tw236026657349672465:=0
def tw2385689673815518453:=0
def tw241804975543551043:=0
def tw2450718153732464981:=0
def tw2524572853833911034:=0
def tw2525825070295495509:=0
def tw2533809440146025722:=0
def tw2942649121461711698:=0
def tw3051843941929952582:=0
def tw3059255426661117514:=0
def tw3108649659254253492:=0
def tw3170148953708534793:=0
def tw3172568157616285516:=0
def tw3209002707165475765:=0
def tw3315350702842284029:=0
def tw3316885241513561334:=0
def tw3319758719865053130:=0
def tw3352201778673352757:=0
def tw3379664814976340038:=0
def tw3397501942498599400:=0
def tw3397520926165268546:=0
def tw3400065465841834119:=0
def tw3432099936073936065:=0
def tw3434819282461795148:=0
def tw3453409135898843147:=0
def tw355065378587131573:=0
def tw3585335350097681565:=0
def tw360106461214601816:=0
def tw3676250114275908141:=0
def tw3680001459285367470:=0
def tw3786815424988942492:=0
def tw3852787857046876817:=0
def tw3854655010345323229:=0
def tw3888123171628187878:=0
def tw3983676521426951017:=0
def tw4004602254552892910:=0
def tw4016443894448004834:=0
def tw4020269150529780987:=0
def tw4056745193308492290:=0
def tw4064640751015117058:=0
def tw414155732749800036:=0
def tw4166725493232905669:=0
def tw4185813002846841662:=0
def tw4213970044228065891:=0
def tw4241376893965018318:=0
def tw4302739597051069452:=0
def tw4375679769476559614:=0
def tw445817445760629075:=0
def tw4478156469857457625:=0
def tw4497571067823769629:=0
def tw4529238193756125965:=0
def tw458436038397288755:=0
def tw4644164584469996745:=0
def tw4708944851414476181:=0
def tw4774714594328568674:=0
def tw4816561214211556192:=0
def tw488743035695597718:=0
def tw4959000466569241755:=0
def tw4977975129852026936:=0
def tw4993303959903171776:=0
def tw5027889964781768742:=0
def tw504469920011932154:=0
def tw5098685913438367821:=0
def tw5108574774033158602:=0
def tw5141075858276515397:=0
def tw5158869693773939533:=0
def tw5179636368678716213:=0
def tw5272632193730102319:=0
def tw5282436527739337106:=0
def tw5387191263684296060:=0
def tw5470822055282497033:=0
def tw5553042730676861547:=0
def tw5591189077554034003:=0
def tw5635499517291497706:=0
def tw5918239427319947031:=0
def tw5931306657290660581:=0
def tw5933515932351978755:=0
def tw6131949014606094563:=0
def tw6160067170260732009:=0
def tw6183925362289021744:=0
def tw6543504977573435983:=0
def tw6637366294981920828:=0
def tw6729607040147195999:=0
def tw6749571958138158683:=0
def tw6769231533009872170:=0
def tw6778983074380373130:=0
def tw6786119252443514449:=0
def tw6786999024911889996:=0
def tw6801313561171378556:=0
def tw6832035254061349934:=0
def tw6860303859710995377:=0
def tw6877394416177150019:=0
def tw6947354559236187452:=0
def tw6980658509613113157:=0
def tw6984920162910332359:=0
def tw7076894283093154467:=0
def tw7111718455035980073:=0
def tw7173499256230909531:=0
def tw7202902167653614794:=0
def tw7228984046735607424:=0
def tw7256456721648272179:=0
def tw7265391216041798673:=0
def tw7268005722693214240:=0
def tw7276704652151405807:=0
def tw7278670140584379042:=0
def tw7322446928794455471:=0
def tw739667767476847637:=0
def tw7431427674329406270:=0
def tw7433747003532893644:=0
def tw7463619685926257430:=0
def tw7627984060072905334:=0
def tw7652716716404199546:=0
def tw7711324996672809641:=0
def tw7744970763616013508:=0
def tw7781830202056987705:=0
def tw790493656202203596:=0
def tw7917869294588268597:=0
def tw7919852353514319536:=0
def tw7926922992197985635:=0
def tw7971930861076273033:=0
def tw7983749574383733039:=0
def tw8040369604656378271:=0
def tw8069538117296949674:=0
def tw8078408663756995166:=0
def tw8102423813502398322:=0
def tw8139564253955230222:=0
def tw8186368990573888161:=0
def tw8196146358643742755:=0
def tw8299603360521755807:=0
def tw8307310605985671899:=0
def tw8310512194528808586:=0
def tw8315978968119223223:=0
def tw8383981013816662594:=0
def tw8387396209954411407:=0
def tw8393991916863497333:=0
def tw8415101803007732464:=0
def tw8429645363497926972:=0
def tw8533790992224895158:=0
def tw8658620139247634706:=0
def tw8675510181089857608:=0
def tw8807138350815542056:=0
def tw8878106146754188912:=0
def tw8905511898378844689:=0
def tw8947797268068591668:=0
def tw8979521026294129704:=0
def tw902830201684387850:=0
def tw9031661158461682371:=0
def tw910419311734871173:=0
def tw9227289720388944364:=0
def tw9289992942755577783:=0
def tw9294285444472262242:=0
def tw933359605284031275:=0
def tw9385744757815268053:=0
def tw9520701840366846970:=0
def tw9528768956578847795:=0
def tw9623271039525418576:=0
def tw9629511604205108626:=0
def tw9637349096748255802:=0
def tw9652878165303726983:=0
def tw9664011690458272255:=0
def tw9669999344076550829:=0
def tw9675444036859928819:=0
def tw9683499677759655230:=0
def tw9689016443336508587:=0
def tw9801458803612636974:=0
def tw9820276365576815464:=0
def tw9878172950523314764:=0
def tw9902774766470465633:=0
def tw996644015421938951:=0
end PySem.W.Fast
open PySem PySem.W PyProof.Rows
set_option maxRecDepth 100000 in
set_option maxHeartbeats 0 in
theorem PySem.Challenge.cw_wireparley_k52_whole_values_of_both_holds : PySem.Challenge.rw_wireparley_k52_whole_values_of_both.Holds := by
 w_on;o_law;k_head;(case hw=>w_witness2)
 k_fill
 refine K52.walk (l:=PySem.Challenge.rw_wireparley_k52_whole_values_of_both) 100 ⟨rfl,by decide,by decide⟩ rfl rfl (λw h Y=>PySem.W.kIn_of Y) K52.law_true ?F
 case F=>
  intro w mg fa h KX G hmg;refine' K52.fin_mk KX G hmg ?H ?aN ?aG ?aI ?aA ?aH ?aE ?aK ?aJ ?aP ?aC ?aO ?aQ ?aD ?a7 ?a9 ?a6 ?aB ?xm
  (case H=>intro x;cases x <;> (refine' K52.at_mk ?a ?l ?c ?k;(case a=>k_is);(case l=>k_is);(case c=>k_is);(case k=>k_is)))
  (case aN=>k_is)
  (case aG=>k_is)
  (case aI=>k_is)
  (case aA=>k_is)
  (case aH=>k_is)
  (case aE=>k_is)
  (case aK=>k_is)
  (case aJ=>k_is)
  (case aP=>k_is)
  (case aC=>k_is)
  (case aO=>k_is)
  (case aQ=>k_is)
  (case aD=>k_is)
  (case a7=>k_is)
  (case a9=>k_is)
  (case a6=>k_is)
  (case aB=>k_is)
  (case xm=>refine' K52.xm_all KX G ?x_p ?x_a1 ?x_a2 ?x_a3 ?x_q ?x_nd ?y_fi ?y_l ?y_ii ?y_hf ?y_hs ?y_cc ?y_k ?x_n1 ?x_n2;(case x_p=>k_is);(case x_a1=>k_is);(case x_a2=>k_is);(case x_a3=>k_is);(case x_q=>kernel_rfl);(case x_nd=>decide);(case y_fi=>k_is);(case y_l=>k_is);(case y_ii=>kernel_rfl);(case y_hf=>k_is);(case y_hs=>k_is);(case y_cc=>k_is);(case y_k=>k_is);(case x_n1=>kernel_rfl);(case x_n2=>kernel_rfl))
