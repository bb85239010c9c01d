import PyProof.Rows.All
import Wide.All
import OpenK.AllK
import Wide.FinOn
import Lean
import PyProof.EqAt
import PyProof.EqKinds
import PyProof.TupleCall
import PyProof.NeKinds
import PyProof.ListMulRoad
import PyProof.MaxThree
import PyProof.Rows.StrJoinMade
import PyProof.ListStr
import PyProof.Rows.MinMaxN
import PyProof.Rows.Range3
import PyProof.ListRange
import PyProof.Rows.SetFrom
import PyProof.Rows.StrCase
import PyProof.SumAny
import PyProof.AutoIntG2
import PyProof.AutoListH
import PyProof.EnumStmt
import PyProof.EnumFor
import PyProof.EnumMake
import PyProof.Rows.EnumRows
import PyProof.ConsumeS
import PyProof.Rows.SortWalk
import KE.KDictSum
import PyProof.ZipIter
import KE.KEqDict
import PyProof.ExcClass2
import PyProof.RaisesMany
import PyProof.ExcBaseAll.ValueError
import PyProof.RulesDel
import PyProof.RulesAs
import PyProof.ExcArgs
import KE.KDictOf
import PyProof.AttrMissHeap
import PySem.Challenge.RW_wireparley_k26_talks_by_wires
noncomputable section
abbrev ua0:=@List.findIdx?_eq_some_iff_getElem
abbrev ua1:=@PyProof.Rows.slot_tuple_getitem
abbrev ua2:=@Array.getElem?_setIfInBounds_ne
abbrev ua3:=@List.eraseIdx_eq_take_drop_succ
abbrev ua4:=@List.eq_nil_of_length_eq_zero
abbrev ua5:=@PyProof.Rows.callWith_type1
abbrev ua6:=@PySem.F.slot_int_bit_length
abbrev ua7:=@Int.fdiv_eq_ediv_of_nonneg
abbrev ua8:=@List.getElem?_append_right
abbrev ua9:=@Array.getElem?_eq_some_iff
abbrev ub0:=@PySem.F.excBase_ValueError
abbrev ub1:=@List.getD_eq_getElem?_getD
abbrev ub2:=@List.getElem?_eq_some_iff
abbrev ub3:=@List.getElem?_append_left
abbrev ub4:=@List.drop_eq_getElem_cons
abbrev ub5:=@List.getElem?_eq_none_iff
abbrev ub6:=@PySem.F.args_tuple_add_2
abbrev ub7:=@List.getElem?_eq_getElem
abbrev ub8:=@Array.size_setIfInBounds
abbrev ub9:=@List.getElem?_replicate
abbrev uc0:=@PySem.F.entry_tuple_add
abbrev uc1:=@List.length_eq_zero_iff
abbrev uc2:=@PySem.F.plainAttrs_list
abbrev uc3:=@Int.eq_ofNat_of_zero_le
abbrev uc4:=@List.getElem?_set_self
abbrev uc5:=@PySem.Heap.get?_push_of_some
abbrev uc6:=@PySem.W.cellsFrom_some
abbrev uc7:=@PySem.F.slot_tuple_add
abbrev uc8:=@PySem.Heap.get?_update_other
abbrev uc9:=@Option.map_eq_some_iff
abbrev ud0:=@List.take_of_length_le
abbrev ud1:=@Nat.div_div_eq_div_mul
abbrev ud2:=@Nat.le_of_succ_le_succ
abbrev ud3:=@List.mem_append_right
abbrev ud4:=@List.length_replicate
abbrev ud5:=@List.length_singleton
abbrev ud6:=@Nat.le_of_ble_eq_true
abbrev ud7:=@PySem.Heap.get?_update_self
abbrev ud8:=@List.take_append_drop
abbrev ud9:=@List.mem_cons_of_mem
abbrev ue0:=@List.mem_append_left
abbrev ue1:=@List.getElem?_set_ne
abbrev ue2:=@List.mem_of_getElem?
abbrev ue3:=@List.forall_mem_cons
abbrev ue4:=@List.filterMap_cons
abbrev ue5:=@Array.length_toList
abbrev ue6:=@PySem.Heap.get?_push_size
abbrev ue7:=@List.replicate_succ
abbrev ue8:=@List.map_congr_left
abbrev ue9:=@Int.toNat_of_nonneg
abbrev uf0:=@List.take_succ_cons
abbrev uf1:=@Nat.add_le_add_left
abbrev uf2:=@Nat.lt_of_lt_of_le
abbrev uf3:=@List.mem_cons_self
abbrev uf4:=@Bool.false_ne_true
abbrev uf5:=@Array.find?_toList
abbrev uf6:=@PySem.W.callWith_K
abbrev uf7:=@List.length_append
abbrev uf8:=@Bool.false_eq_true
abbrev uf9:=@List.mem_singleton
abbrev ug0:=@Int.emod_lt_of_pos
abbrev ug1:=@List.getElem?_take
abbrev ug2:=@PySem.W.mg_none_of
abbrev ug3:=@List.size_toArray
abbrev ug4:=@PySem.W.kitx_list
abbrev ug5:=@PySem.W.kitx_dict
abbrev ug6:=@List.getElem?_map
abbrev ug7:=@Int.toNat_natCast
abbrev ug8:=@List.flatten_cons
abbrev ug9:=@List.append_assoc
abbrev uh0:=@Bool.eq_false_iff
abbrev uh1:=@List.getElem?_set
abbrev uh2:=@Option.some.injEq
abbrev uh3:=@decide_eq_true_eq
abbrev uh4:=@of_decide_eq_true
abbrev uh5:=@List.getElem_inj
abbrev uh6:=@List.length_take
abbrev uh7:=@List.length_drop
abbrev uh8:=@Bool.and_eq_true
abbrev uh9:=@List.length_cons
abbrev ui0:=@List.lookup_cons
abbrev ui1:=@List.drop_length
abbrev ui2:=@Nat.le_add_right
abbrev ui3:=@List.all_eq_true
abbrev ui4:=@List.not_mem_nil
abbrev ui5:=@List.getElem_mem
abbrev ui6:=@List.cons_append
abbrev ui7:=@Nat.succ_le_succ
abbrev ui8:=@beq_self_eq_true
abbrev ui9:=@List.mem_append
abbrev uj0:=@Option.some.inj
abbrev uj1:=@PySem.W.kia_one
abbrev uj2:=@List.append_nil
abbrev uj3:=@List.nodup_cons
abbrev uj4:=@List.of_mem_zip
abbrev uj5:=@List.length_map
abbrev uj6:=@List.foldl_cons
abbrev uj7:=@List.nil_append
abbrev uj8:=@List.find?_cons
abbrev uj9:=@List.length_nil
abbrev uk0:=@Option.map_some
abbrev uk1:=@Bool.or_eq_true
abbrev uk2:=@PySem.W.kia_tup
abbrev uk3:=@Nat.not_lt_zero
abbrev uk4:=@List.map_append
abbrev uk5:=@Int.emod_nonneg
abbrev uk6:=@List.length_set
abbrev uk7:=@decide_eq_false
abbrev uk8:=@List.mem_range
abbrev uk9:=@Bool.false_and
abbrev ul0:=@Bool.and_false
abbrev ul1:=@List.drop_zero
abbrev ul2:=@decide_eq_true
abbrev ul3:=@Nat.lt_irrefl
abbrev ul4:=@List.mem_cons
abbrev ul5:=@Bool.or_false
abbrev ul6:=@List.all_cons
abbrev ul7:=@List.map_cons
abbrev ul8:=@List.any_cons
abbrev ul9:=@Bool.true_and
abbrev um0:=@Nat.add_assoc
abbrev um1:=@PySem.W.mg_of
abbrev um2:=@PySem.wpAny_holding
abbrev um3:=@PySem.Heap.lt_size
abbrev um4:=@Nat.ne_of_lt
abbrev um5:=@Nat.le_trans
abbrev um6:=@Nat.le_of_lt
abbrev um7:=@Nat.ne_of_gt
abbrev um8:=@Nat.mul_comm
abbrev um9:=@List.map_nil
abbrev un0:=@Nat.pow_succ
abbrev un1:=@List.mem_map
abbrev un2:=@List.map_map
abbrev un3:=@Int.zero_add
abbrev un4:=@Nat.sub_self
abbrev un5:=@List.any_nil
abbrev un6:=@Nat.le_refl
abbrev un7:=@Nat.zero_le
abbrev un8:=@Nat.le_succ
abbrev un9:=@PySem.wpAny_field
abbrev uo0:=@PySem.wpAny_bind
abbrev uo1:=@PySem.wpAny_pure
abbrev uo2:=@PySem.wpAny_mono
set_option Elab.async false
set_option linter.all false
set_option maxRecDepth 100000
namespace L2
open PySem PySem.Spec PyProof.Rows
abbrev Key:=Sum Int Str
noncomputable def H9:Key->Value->Bool
 | .inl k,v=>Value.isInt k v
 | .inr x,v=>Value.isStrOf x v
noncomputable def Ze (w:World):Key->Int
 | .inl k=>hashInt k
 | .inr x=>hashStr w x
theorem Cs:∀{k:Key} {v:Value},H9 k v=true->(∃i t,k=Sum.inl i/\v=Value.int i t)\/(∃x t,k=Sum.inr x/\v=Value.str x t)
 | .inl i,v,h=>by
   obtain ⟨t,e⟩:=Value.isInt_shape (k:=i) (v:=v) h;exact .inl ⟨i,t,rfl,e⟩
 | .inr x,v,h=>by
   obtain ⟨t,e⟩:=Value.isStrOf_shape (x:=x) (v:=v) h;exact .inr ⟨x,t,rfl,e⟩
theorem QH (i:Int)(t:Tok):H9 (.inl i) (.int i t)=true:=by simp [H9,Value.isInt]
theorem QI (x:Str)(t:Tok):H9 (.inr x) (.str x t)=true:=by simp [H9,Value.isStrOf]
theorem We (a b:Int):decide ((Sum.inl a:Key)=Sum.inl b)=(a == b):=by
 by_cases e:a=b
 ·subst e;simp
 ·have h:¬(Sum.inl a:Key)=Sum.inl b:=λq=>e (Sum.inl.inj q);rw [uk7 h];exact (beq_eq_false_iff_ne.mpr e).symm
theorem Wi (a b:Str):decide ((Sum.inr a:Key)=Sum.inr b)=decide (a=b):=by
 by_cases e:a=b
 ·subst e;simp
 ·have h:¬(Sum.inr a:Key)=Sum.inr b:=λq=>e (Sum.inr.inj q);rw [uk7 h,uk7 e]
theorem Wg (a:Int)(b:Str):decide ((Sum.inl a:Key)=Sum.inr b)=false:=uk7 (λq=>nomatch q)
theorem Wh (a:Str)(b:Int):decide ((Sum.inr a:Key)=Sum.inl b)=false:=uk7 (λq=>nomatch q)
def Co (prog:Program)(w:World):PySem.KeyKind prog w Key where
 is:=H9
 hash:=Ze w
 inj:=λv a b ha hb=>by
  rcases Cs ha with ⟨i,t,rfl,rfl⟩ | ⟨x,t,rfl,rfl⟩
  ·rcases Cs hb with ⟨j,u,rfl,e⟩ | ⟨y,u,rfl,e⟩
   ·injection e with e1 _;rw [e1]
   ·exact nomatch e
  ·rcases Cs hb with ⟨j,u,rfl,e⟩ | ⟨y,u,rfl,e⟩
   ·exact nomatch e
   ·injection e with e1 _;rw [e1]
 byValue:=λk v h=>by
  rcases Cs h with ⟨i,t,rfl,rfl⟩ | ⟨x,t,rfl,rfl⟩ <;> rfl
 pyHash:=λhv h=>by
  rcases Cs hv with ⟨i,t,rfl,rfl⟩ | ⟨x,t,rfl,rfl⟩
  ·exact wpAny_pyHash_int h
  ·exact wpAny_pyHash_str h
 eqBool:=λhu hv h=>by
  rcases Cs hu with ⟨i,t,rfl,rfl⟩ | ⟨x,t,rfl,rfl⟩
  ·rcases Cs hv with ⟨j,u,rfl,rfl⟩ | ⟨y,u,rfl,rfl⟩
   ·rw [We] at h;exact wpAny_eqBool_int h
   ·rw [Wg] at h;exact SeqAt.EqAt.int_str i t y u _ _ _ _ h
  ·rcases Cs hv with ⟨j,u,rfl,rfl⟩ | ⟨y,u,rfl,rfl⟩
   ·rw [Wh] at h;exact SeqAt.EqAt.str_int x t j u _ _ _ _ h
   ·rw [Wi] at h;exact wpAny_eqBool_str h
 «strs»:=λk x t v h=>by
  rcases Cs h with ⟨i,u,rfl,e⟩ | ⟨y,u,rfl,e⟩
  ·exact nomatch e
  ·injection e with e1 _
   subst e1
   cases v <;> rfl
theorem N7 (prog:Program)(w:World)(i:Int)(t:Tok):(Co prog w).is (.inl i) (.int i t)=true:=QH i t
theorem N8 (prog:Program)(w:World)(x:Str)(t:Tok):(Co prog w).is (.inr x) (.str x t)=true:=QI x t
inductive V where
 | non | bl (b:Bool) | int (i:Int) | str (x:Str) | byt (b:Array UInt8) | flt (b:UInt64) | ref (a:Addr) | ty (n:String)
 deriving DecidableEq
noncomputable def RelV:V->Value->Prop
 | .non,u=>u=Value.none
 | .bl b,u=>u=Value.bool b
 | .int i,u=>∃t,u=Value.int i t
 | .str x,u=>∃t,u=Value.str x t
 | .byt b,u=>∃t,u=Value.bytes b t
 | .flt b,u=>∃t,u=Value.float b t
 | .ref a,u=>u=Value.ref a
 | .ty n,u=>u=Value.type n
abbrev Vals:List V->List Value->Prop:=Paired RelV
theorem Vals.length {xs:List V}{us:List Value}(r:Vals xs us):xs.length=us.length:=Paired.length r
theorem Vals.get:∀{xs:List V} {us:List Value} {i:Nat} {x:V},Vals xs us->xs[i]?=some x->∃u,us[i]?=some u/\RelV x u
 | _,_,_,_,.nil,e=>by simp at e
 | _,_,0,_,.cons r _,e=>by simp at e;subst e;exact ⟨_,rfl,r⟩
 | _,_,i + 1,x,.cons _ t,e=>by
   obtain ⟨u,h1,h2⟩:=Vals.get (i:=i) (x:=x) t (by simpa using e);exact ⟨u,by simpa using h1,h2⟩
theorem Vals.append {xs ys:List V}{us ws:List Value}(r:Vals xs us)(s:Vals ys ws):Vals (xs++ys) (us++ws):=by
 cases r with
 | nil=>exact s
 | cons r t=>exact .cons r (Vals.append t s)
theorem Vals.take:∀{xs:List V} {us:List Value} (n:Nat),Vals xs us->Vals (xs.take n) (us.take n)
 | _,_,0,_=>.nil
 | _,_,_ + 1,.nil=>.nil
 | _,_,n + 1,.cons r t=>.cons r (Vals.take n t)
theorem Vals.drop:∀{xs:List V} {us:List Value} (n:Nat),Vals xs us->Vals (xs.drop n) (us.drop n)
 | _,_,0,r=>r
 | _,_,_ + 1,.nil=>.nil
 | _,_,n + 1,.cons _ t=>Vals.drop n t
def RelO:Option V->Option Value->Prop
 | some v,some u=>RelV v u
 | none,none=>True
 | _,_=>False
def KV {κ:Type}:List (κ×V)->List (κ×Value)->Prop:=Paired λ(p:κ×V) (q:κ×Value)=>p.1=q.1/\RelV p.2 q.2
noncomputable def kV:Key->V
 | .inl i=>.int i
 | .inr x=>.str x
inductive HO where
 /-- a list -/
 | lst (xs:List V)
 /-- a tuple (never changes) -/
 | tup (xs:List V)
 /-- a dict whose keys are ints and texts;one whose keys are tuples of ints and texts (the empty one is both) -/
 | dK (kvs:List (Key×V)) | dT (kvs:List (List Key×V))
 /-- a set of ints: its members,its size -/
 | set (S:Int->Bool) (n:Nat)
 /-- an instance of the class at C,its dict at dx,its attributes -/
 | ins (C dx:Addr) (fs:List (Str×V))
 /-- the dict of the instance at x -/
 | own (x:Addr)
 /-- the dict of an exception -/
 | xd (fs:List (Str×V))
 /-- a bound method,f of x -/
 | met (f x:Addr)
 /-- a range object lo,lo + 1,.. below hi -/
 | rng (lo hi:Int)
 /-- a thing that is known to the object (the script;a dict while a loop walks it): read,never written while it is so -/
 | frz (o:Obj) (u:HO)
 /-- a code object's table -/
 | tbl (ps:Array Value)
 /-- any other thing,by what is true of its one object (a def of one's own: SetO a S n:=HO.ext λh=>..) -/
 | ext (φ:Heap->Prop)
abbrev Hp:=Addr->Option HO
noncomputable def upd (H:Hp)(a:Addr)(o:HO):Hp:=λb=>if b=a then some o else H b
variable {H:Hp}{a:Addr}{o:HO}
theorem Ax:upd H a o a=some o:=by unfold upd;rw [if_pos rfl]
variable {b:Addr}
theorem Ar (h:b≠a):upd H a o b=H b:=by unfold upd;rw [if_neg h]
theorem OZ {u:HO}:upd (upd H a o) a u=upd H a u:=by
 funext b;unfold upd;split <;> rfl
theorem Bg (h:H a=some o)(h':H b=none):a≠b:=by
 intro e;subst e;rw [h] at h';cases h'
section
variable (P:Program)(w:World)
def ObjOk (H:Hp)(h:Heap)(a:Addr):HO->Prop
 | .lst xs=>xs.length<=sizeLine/\∃(its:List Value) (n:Nat),Vals xs its/\h.get? a=some { cls:=.type "list",data:=.seq its.toArray n }
 | .tup xs=>xs.length<=sizeLine/\∃its:List Value,Vals xs its/\IsTup h a its.toArray
 | .dK kvs=>kvs.length<=sizeLine/\(a == sysModules)=false/\∃vs,KV kvs vs/\h.DictOf (Co P w) a vs
 | .dT kvs=>kvs.length<=sizeLine/\(a == sysModules)=false/\∃xs:List (List Key×Addr×Value),
    Paired (λ(p:List Key×V) (q:List Key×Addr×Value)=>p.1=q.1/\H q.2.1=some (.tup (p.1.map kV))/\RelV p.2 q.2.2) kvs xs/\
    ∃o es ep,h.get? a=some o/\o.ExactDict/\o.data = .dict es ep/\es.toList=xs.map (entryOfKey (tupleKind (Co P w)))/\(xs.map (·.1)).Nodup
 | .set S n=>h.SetOf (intKind P w) a S n
 | .ins C dx fs=>H dx=some (.own a)/\fs.length<=1000/\dx≠a/\h.get? a=some (PySem.W.instObj C dx)/\
    ∃mA,h.Ns1 dx mA/\(∀f,RelO (fs.lookup f) (mA f))/\PySem.Within mA (fs.map (·.1))
 | .own _=>∃o,h.get? a=some o
 | .xd fs=>∃mA,h.Ns1 a mA/\∀f,RelO (fs.lookup f) (mA f)
 | .rng lo hi=>∃t u v,h.get? a=some { cls:=.type "range",data:=.fields #[.int lo t,.int hi u,.int 1 v] }
 | .frz o u=>h.get? a=some o/\ObjOk H h a u
 | .tbl ps=>h.get? a=some { cls:=.none,data:=.fields ps }
 | .met f x=>h.get? a=some (PySem.W.methodObj (.ref f) (.ref x))
 | .ext φ=>φ h/\(∃o,h.get? a=some o)/\∀h1 h2:Heap,φ h1->(∀o,h1.get? a=some o->h2.get? a=some o)->φ h2
def HOk (H:Hp)(h:Heap):Prop:=∀a o,H a=some o->ObjOk P w H h a o
end
section
variable {P:Program}{w:World}{H H':Hp}{h h':Heap}{a:Addr}{o:HO}
theorem ObjOk.lt (x:ObjOk P w H h a o):a < h.objs.size:=by
 cases o with
 | lst xs=>obtain ⟨_,_,_,_,e⟩:=x;exact um3 e
 | tup xs=>obtain ⟨_,_,_,p⟩:=x;exact p.lt
 | dK kvs=>obtain ⟨_,_,_,_,o,_,_,e,_⟩:=x;exact um3 e
 | dT kvs=>obtain ⟨_,_,_,_,o,_,_,e,_⟩:=x;exact um3 e
 | set S n=>obtain ⟨o,_,_,_,e,_⟩:=x;exact um3 e
 | ins C dx fs=>obtain ⟨_,_,_,e,_⟩:=x;exact um3 e
 | own y=>obtain ⟨_,e⟩:=x;exact um3 e
 | xd fs=>obtain ⟨_,⟨_,_,_,e,_⟩,_⟩:=x;exact um3 e
 | rng lo hi=>obtain ⟨_,_,_,e⟩:=x;exact um3 e
 | frz ob u=>obtain ⟨e,_⟩:=x;exact um3 e
 | tbl ps=>exact um3 (show h.get? a=some _ from x)
 | met f y=>exact um3 (show h.get? a=some _ from x)
 | ext φ=>obtain ⟨_,⟨_,e⟩,_⟩:=x;exact um3 e
theorem Paired.mapP {α β:Type}{F G:α->β->Prop}:∀{l₁:List α} {l₂:List β},Paired F l₁ l₂->(∀a b,F a b->G a b)->Paired G l₁ l₂
 | _,_,.nil,_=>.nil
 | _,_,.cons r t,f=>.cons (f _ _ r) (Paired.mapP t f)
theorem ObjOk.stay (x:ObjOk P w H h a o)(k:∀b u,(b=a\/H b=some (.own a))->h.get? b=some u->h'.get? b=some u)
 (ho:∀b,H b=some (.own a)->H' b=some (.own a)) (ht:∀b xs,H b=some (.tup xs)->H' b=some (.tup xs)):ObjOk P w H' h' a o:=by
 induction o with
 | lst xs=>obtain ⟨z,its,n,r,e⟩:=x;exact ⟨z,its,n,r,k _ _ (.inl rfl) e⟩
 | tup xs=>obtain ⟨z,its,r,ob,e,c⟩:=x;exact ⟨z,its,r,ob,k _ _ (.inl rfl) e,c⟩
 | dK kvs=>obtain ⟨z,y,vs,r,ob,es,ep,e,c⟩:=x;exact ⟨z,y,vs,r,ob,es,ep,k _ _ (.inl rfl) e,c⟩
 | dT kvs=>
   obtain ⟨z,y,xs,r,ob,es,ep,e,c⟩:=x;exact ⟨z,y,xs,Paired.mapP r λp q z=>⟨z.1,ht _ _ z.2.1,z.2.2⟩,ob,es,ep,k _ _ (.inl rfl) e,c⟩
 | set S n=>obtain ⟨ob,es,ep,t,e,c⟩:=x;exact ⟨ob,es,ep,t,k _ _ (.inl rfl) e,c⟩
 | ins C dx fs=>
   obtain ⟨d,z,ne,e,mA,⟨od,es,ep,e2,c⟩,r⟩:=x;exact ⟨ho _ d,z,ne,k _ _ (.inl rfl) e,mA,⟨od,es,ep,k _ _ (.inr d) e2,c⟩,r⟩
 | own y=>obtain ⟨ob,e⟩:=x;exact ⟨ob,k _ _ (.inl rfl) e⟩
 | xd fs=>obtain ⟨mA,⟨od,es,ep,e,c⟩,r⟩:=x;exact ⟨mA,⟨od,es,ep,k _ _ (.inl rfl) e,c⟩,r⟩
 | rng lo hi=>obtain ⟨t,u,v,e⟩:=x;exact ⟨t,u,v,k _ _ (.inl rfl) e⟩
 | frz ob u ih=>obtain ⟨e,q⟩:=x;exact ⟨k _ _ (.inl rfl) e,ih q⟩
 | tbl ps=>
   have e:h.get? a=some { cls:=.none,data:=.fields ps }:=x;show h'.get? a=some { cls:=.none,data:=.fields ps };exact k a _ (.inl rfl) e
 | met f y=>
   have e:h.get? a=some (PySem.W.methodObj (.ref f) (.ref y)):=x;show h'.get? a=some (PySem.W.methodObj (.ref f) (.ref y));exact k a _ (.inl rfl) e
 | ext φ=>obtain ⟨p,⟨o,e⟩,st⟩:=x;exact ⟨st _ _ p λo q=>k _ _ (.inl rfl) q,⟨o,k _ _ (.inl rfl) e⟩,st⟩
theorem HOk.lt (x:HOk P w H h)(e:H a=some o):a < h.objs.size:=(x a o e).lt
theorem HOk.fresh (x:HOk P w H h)(e:h.objs.size<=a):H a=none:=by
 cases q:H a with
 | none=>rfl
 | some u=>exact absurd (uf2 (x.lt q) e) (ul3 _)
theorem HOk.kept (x:HOk P w H h)(k:∀b u,h.get? b=some u->h'.get? b=some u):HOk P w H h':=λa o e=>
 (x a o e).stay (λb u _ q=>k b u q) (λ_ q=>q) λ_ _ q=>q
theorem HOk.laid (x:HOk P w H h)(k:∀b u,h.get? b=some u->h'.get? b=some u)(hp:h.objs.size<=a)(new:ObjOk P w (upd H a o) h' a o):HOk P w (upd H a o) h':=λb u e=>by
 have hn:=x.fresh hp
 by_cases hb:b=a
 ·subst hb;rw [Ax] at e;cases e;exact new
 ·rw [Ar hb] at e;exact (x b u e).stay (λc v _ q=>k c v q) (λc q=>by rw [Ar (Bg q hn)];exact q) λc xs q=>by rw [Ar (Bg q hn)];exact q
end
def Rd (H:Hp)(a:Addr)(u:HO):Prop:=H a=some u\/∃o,H a=some (.frz o u)
variable {P:Program}{w:World}{h:Heap}
theorem Rd.ok {u:HO}(r:Rd H a u)(x:HOk P w H h):ObjOk P w H h a u:=by
 rcases r with r | ⟨o,r⟩
 ·exact x a u r
 ·obtain ⟨_,q⟩:=x a _ r;exact q
def Mut:Option HO->Prop
 | some (.lst _)=>True
 | some (.dK _)=>True
 | some (.dT _)=>True
 | some (.set _ _)=>True
 | some (.ins _ _ _)=>True
 | some (.ext _)=>True
 | _=>False
section
variable {P:Program}{w:World}{H:Hp}{h h':Heap}{x e:Addr}{o':HO}
theorem HOk.write (ok:HOk P w H h)(mu:Mut (H x))(he:e=x\/H e=some (.own x))(k:∀b u,b≠e->h.get? b=some u->h'.get? b=some u)(heo:∃u,h'.get? e=some u)
 (new:ObjOk P w (upd H x o') h' x o'):HOk P w (upd H x o') h':=λb u q=>by
 have nown:∀c y,H c=some (.own y)->c≠x:=λc y r z=>by subst z;rw [r] at mu;exact mu
 have ntup:∀c xs,H c=some (.tup xs)->c≠x:=λc xs r z=>by subst z;rw [r] at mu;exact mu
 by_cases hb:b=x
 ·subst hb;rw [Ax] at q;cases q;exact new
 ·rw [Ar hb] at q
  by_cases hbe:b=e
  ·have q':H b=some (.own x):=by
    rcases he with z | z
    ·exact absurd (hbe.trans z) hb
    ·rw [hbe];exact z
   rw [q] at q';cases q'
   obtain ⟨v,hv⟩:=heo;exact ⟨v,by rw [hbe];exact hv⟩
  ·refine (ok b u q).stay (λc v hc r=>k c v ?_ r) (λc r=>by rw [Ar (nown c b r)];exact r) λc xs r=>by rw [Ar (ntup c xs r)];exact r
   rcases hc with rfl | hc
   ·exact hbe
   ·rintro rfl;rcases he with z | z
    ·exact nown c b hc z
    ·rw [hc] at z;cases z;exact hb rfl
end
structure Un (fs ex:List Addr)(H H':Hp)(h h':Heap):Prop where
 keep:∀b o,h.get? b=some o->H b=none->b∉fs->b∉ex->h'.get? b=some o
 slot:∀b o,h.get? b=some o->H b=none->b∈fs->b∉ex->∃sl,h'.get? b=some { o with slots:=sl }
 free:∀b o,h.get? b=some o->H b=none->b∉ex->H' b=none
 there:∀b o,h.get? b=some o->b∉ex->∃o',h'.get? b=some o'
 tups:∀b xs,H b=some (.tup xs)->H' b=some (.tup xs)
 frzs:∀b o u,H b=some (.frz o u)->H' b=some (.frz o u)
 tbls:∀b ps,H b=some (.tbl ps)->∃more,H' b=some (.tbl (ps++more))
section
variable {fs fs' ex ex':List Addr}{H H1 H2:Hp}{h h1 h2 h':Heap}{a x e:Addr}{o:HO}
theorem Un.any (u:Un fs ex H H1 h h1){b:Addr}{ob:Obj}(q:h.get? b=some ob)(n:H b=none)(hx:b∉ex):∃sl,h1.get? b=some { ob with slots:=sl }:=by
 by_cases hb:b∈fs
 ·exact u.slot b ob q n hb hx
 ·exact ⟨ob.slots,u.keep b ob q n hb hx⟩
theorem Un.kept (k:∀b u,h.get? b=some u->h'.get? b=some u):Un fs ex H H h h':=
 ⟨λb ob q _ _ _=>k b ob q,λb ob q _ _ _=>⟨ob.slots,k b ob q⟩,λ_ _ _ n _=>n,λb ob q _=>⟨ob,k b ob q⟩,λ_ _ q=>q,λ_ _ _ q=>q,λ_ ps q=>⟨#[],by rw [q];simp⟩⟩
theorem Un.refl:Un fs ex H H h h:=Un.kept λ_ _ q=>q
theorem Un.laid (k:∀b u,h.get? b=some u->h'.get? b=some u)(hp:h.objs.size<=a)(hn:H a=none):Un fs ex H (upd H a o) h h' where
 keep:=λb u q _ _ _=>k b u q
 slot:=λb u q _ _ _=>⟨u.slots,k b u q⟩
 free:=λb u q n _=>by rw [Ar (um4 (uf2 (um3 q) hp))];exact n
 there:=λb u q _=>⟨u,k b u q⟩
 tups:=λb xs q=>by rw [Ar (Bg q hn)];exact q
 frzs:=λb u xs q=>by rw [Ar (Bg q hn)];exact q
 tbls:=λb ps q=>⟨#[],by rw [Ar (Bg q hn),q];simp⟩
theorem Un.write (mu:Mut (H x))(he:e=x\/H e=some (.own x))(k:∀b u,b≠e->h.get? b=some u->h'.get? b=some u)(heo:∃u,h'.get? e=some u):Un fs ex H (upd H x o) h h':=by
 have hx:∀b,H b=none->b≠x:=λb n z=>by subst z;rw [n] at mu;exact mu
 have hb:∀b,H b=none->b≠e:=λb n z=>by
  subst z;rcases he with r | r
  ·exact hx b n r
  ·rw [n] at r;cases r
 have hm:∀b u,H b=some u->¬Mut (some u)->b≠x:=λb u q nm z=>by subst z;rw [q] at mu;exact nm mu
 refine ⟨λb u q n _ _=>k b u (hb b n) q,λb u q n _ _=>⟨u.slots,k b u (hb b n) q⟩,λb u q n _=>by rw [Ar (hx b n)];exact n,λb u q _=>?_,
  λb xs q=>by rw [Ar (hm b _ q λz=>z)];exact q,λb u xs q=>by rw [Ar (hm b _ q λz=>z)];exact q,λb ps q=>⟨#[],by rw [Ar (hm b _ q λz=>z),q];simp⟩⟩
 by_cases hbe:b=e
 ·subst hbe;exact heo
 ·exact ⟨u,k b u hbe q⟩
end
noncomputable def trk (h:Heap)(H:Hp):List Addr:=(List.range h.objs.size).filter λa=>(H a).isSome
def GU (h:Heap)(H:Hp):Heap:=PySem.W.hideAll h (trk h H)
theorem Qz (h:Heap)(H:Hp):(GU h H).objs.size=h.objs.size:=PySem.W.hideAll_size _ _
theorem Sa {o:Obj}(e:h.get? b=some o)(n:H b=none):(GU h H).get? b=some o:=
 PySem.W.hideAll_get _ e λhm=>by
  have q:(H b).isSome=true:=(List.mem_filter.mp hm).2;rw [n] at q;simp at q
theorem UH {o:Obj}(e:(GU h H).get? b=some o):h.get? b=some o/\H b=none:=by
 have e':h.get? b=some o:=PySem.W.of_hideAll (trk h H) e;refine ⟨e',?_⟩
 cases q:H b with
 | none=>rfl
 | some x=>
   have hm:b∈trk h H:=List.mem_filter.mpr ⟨uk8.mpr (um3 e'),by simp [q]⟩;have z:(GU h H).get? b=none:=PySem.W.hideAll_none (trk h H) hm;rw [z] at e;cases e
noncomputable def T1 (g h:Heap)(L:Addr):List (Addr×Obj):=(List.range h.objs.size).filterMap λa=>if a=L\/(g.get? a).isSome=true then none else (h.get? a).map λo=>(a,o)
def rest (g h:Heap)(L d:Addr):List (Addr×Obj):=(T1 g h L).filter λp=>decide (p.1≠d)
structure Mod (K:PySem.W.Frag)(mg:Str->Option Value)(base:Heap):Prop where
 kin:K.In base
 glob:base.Ns mainGlobals mg
 blt:∃mb,base.Ns builtinsNs mb/\∀x:Str,x≠"__name__"->mb x=bootBuiltins x
 nolimit:base.NoLimit
structure Cx where
 prog:Program
 w:World
 K:PySem.W.Frag
 mg:Str->Option Value
 base:Heap
 A:Around
 N:List Str
 s₀:Shared
 H₀:Hp
 env:Env
 outer:List Env
 stack:List Env
 ex:List Addr
 fn:Str->Bool
 calm:Bool
 pn:List (Addr×Obj)
 xe:Value->Shared->Prop
noncomputable def frs (l:List Env):List Addr:=l.filterMap (·.frame)
abbrev Cx.fs (X:Cx):List Addr:=frs X.outer
def Vis (sc:Scope)(x:Str):Prop:=sc.names.lookup x=some .local\/sc.names.lookup x=some .cell\/sc.names.lookup x=some .free
def Loc (sc:Scope)(x:Str):Prop:=sc.names.lookup x=some .local\/sc.names.lookup x=some .cell
def YN (env:Env)(h:Heap)(m:Str->Option Value)(x:Str)(u:Value):Prop:=
 (env.kindOf x=some .local/\m x=some u)\/((env.kindOf x=some .cell\/env.kindOf x=some .free)/\∃c,env.cells.lookup x=some c/\h.IsCell c (some u))
structure Cx.Ok (X:Cx):Prop where
 mod:Mod X.K X.mg X.base
 kind:X.env.scope.kind = .function
 glob:X.env.globals=mainGlobals
 blt:X.env.builtins=builtinsNs
 above:X.s₀.heap.objs.size<=X.env.locals
 inj:∀x y c,X.env.cells.lookup x=some c->X.env.cells.lookup y=some c->x=y
 has:∀x,(X.env.kindOf x=some .cell\/X.env.kindOf x=some .free)->∃c,X.env.cells.lookup x=some c
 cab:∀x c,X.fn x=true->X.env.cells.lookup x=some c->X.s₀.heap.objs.size<=c
 hd:X.calm=true->X.A.handled=none
 frames:X.A.frames=some X.stack
 stk:X.stack=X.outer\/(X.stack=X.env :: X.outer/\X.env.frame=some X.env.locals)
 exf:∀b∈X.ex,b≠X.env.locals/\∀x c,X.env.cells.lookup x=some c->c≠b
 bs:∀b o,X.base.get? b=some o->X.s₀.heap.get? b=some o/\X.H₀ b=none
 bsz:X.base.objs.size<=X.s₀.heap.objs.size
 noex:∀b o,X.base.get? b=some o->b∉X.ex
 exfs:∀b∈X.ex,b∉X.fs
 funs:X.s₀.heap.FunFrames X.base X.outer
 frf:∀b∈X.fs,X.H₀ b=none
structure Inv (X:Cx)(pins:List (Addr×Obj))(σ:List (Option V))(H:Hp)(s:Shared):Prop where
 ok:X.Ok
 os:s.os=X.s₀.os
 bare:AllBare s.gens
 base:Un X.fs X.ex X.H₀ H X.s₀.heap s.heap
 loc:∃m,s.heap.Ns X.env.locals m/\∀(i:Nat) (x:Str) (v:V),X.N[i]?=some x->σ[i]?=some (some v)->Vis X.env.scope x->∃u,RelV v u/\YN X.env s.heap m x u
 cell:∀x c,X.env.cells.lookup x=some c->∃v,s.heap.IsCell c v
 free:H X.env.locals=none
 freeC:∀x c,X.env.cells.lookup x=some c->H c=none
 pin:∀p∈X.pn++pins,s.heap.get? p.1=some p.2/\H p.1=none/\p.1≠X.env.locals/\p.1∉X.fs/\∀v,p.2.data≠.cell v
 hok:HOk X.prog X.w H s.heap
 len:σ.length=X.N.length
variable {t' i:Nat}{ch:List Addr}{E:Value->Shared->Prop}{x:Str}{v:V}{u:Value}{Q:Unit->Shared->Prop}
section
variable {X:Cx}{pins:List (Addr×Obj)}{σ:List (Option V)}{H H':Hp}{s:Shared}{h':Heap}
theorem Cx.Ok.nofr (ok:X.Ok){b:Addr}{o:Obj}(e:X.base.get? b=some o):b∉X.fs:=λhb=>by
 have:=(ok.funs.mem hb).1;rw [e] at this;cases this
theorem Inv.bs (I:Inv X pins σ H s):∀b o,X.base.get? b=some o->s.heap.get? b=some o/\H b=none:=λb o e=>
 ⟨I.base.keep b o (I.ok.bs b o e).1 (I.ok.bs b o e).2 (I.ok.nofr e) (I.ok.noex b o e),I.base.free b o (I.ok.bs b o e).1 (I.ok.bs b o e).2 (I.ok.noex b o e)⟩
theorem Inv.bk (I:Inv X pins σ H s):∀b o,X.base.get? b=some o->s.heap.get? b=some o:=λb o e=>(I.bs b o e).1
theorem Inv.mod (I:Inv X pins σ H s):Mod X.K X.mg X.base:=I.ok.mod
theorem Inv.kIn (I:Inv X pins σ H s):X.K.In s.heap:=I.ok.mod.kin.keeps I.bk
theorem Inv.lt (I:Inv X pins σ H s):X.env.locals < s.heap.objs.size:=let ⟨_,hn,_⟩:=I.loc;hn.lt
theorem Inv.sz (I:Inv X pins σ H s):X.s₀.heap.objs.size<=s.heap.objs.size:=um5 I.ok.above (um6 I.lt)
theorem Inv.nofs (I:Inv X pins σ H s){a:Addr}(h:s.heap.objs.size<=a):a∉X.fs:=λhb=>by
 obtain ⟨_,o,ho,_⟩:=I.ok.funs.mem hb;exact absurd (uf2 (um3 ho) (um5 I.sz h)) (ul3 _)
theorem Inv.cne (I:Inv X pins σ H s):∀x c,X.env.cells.lookup x=some c->c≠X.env.locals:=λx c e z=>by
 obtain ⟨v,o,ho,hd⟩:=I.cell x c e;obtain ⟨m,⟨o',es,ep,ho',hd',_⟩,_⟩:=I.loc;rw [z,ho'] at ho;cases ho;rw [hd'] at hd;cases hd
theorem Inv.funs (I:Inv X pins σ H s):s.heap.FunFrames X.base X.outer:=by
 have all:∀(l:List Env),(∀b∈frs l,b∈X.fs)->X.s₀.heap.FunFrames X.base l->s.heap.FunFrames X.base l:=by
  intro l
  induction l with
  | nil=>intro _ _;trivial
  | cons env r ih=>
    intro hs hl;obtain ⟨hk,⟨L,o,hf,hn,ho,hd⟩,hr⟩:=hl;have hL:L∈X.fs:=hs L (by unfold frs;rw [ue4,hf];exact uf3);obtain ⟨sl,e⟩:=I.base.slot L o ho (I.ok.frf L hL) hL λz=>I.ok.exfs L z hL;exact ⟨hk,⟨L,_,hf,hn,e,hd⟩,ih (λb hb=>hs b (by unfold frs;rw [ue4,hf];exact ud9 _ hb)) hr⟩
 exact all X.outer (λ_ hb=>hb) I.ok.funs
theorem Inv.stack (I:Inv X pins σ H s):s.heap.FunFrames X.base X.stack:=by
 rcases I.ok.stk with e | ⟨e,hf⟩
 ·rw [e];exact I.funs
 ·rw [e];obtain ⟨m,hn,_⟩:=I.loc;refine .cons (by rw [I.ok.kind];decide) hf hn ?_ I.funs;exact Heap.get?_none_of_le (um5 I.ok.bsz I.ok.above)
theorem Inv.stkSub (I:Inv X pins σ H s):∀b∈frs X.stack,b∈X.env.locals :: X.fs:=λb hb=>by
 rcases I.ok.stk with e | ⟨e,hf⟩
 ·rw [e] at hb;exact ud9 _ hb
 ·rw [e] at hb;unfold frs at hb;rw [ue4,hf] at hb;exact hb
theorem Inv.stkFree (I:Inv X pins σ H s):∀b∈frs X.stack,H b=none:=λb hb=>by
 rcases ul4.mp (I.stkSub b hb) with e | hb
 ·rw [e];exact I.free
 ·obtain ⟨_,o,ho,_⟩:=I.ok.funs.mem hb;exact I.base.free b o ho (I.ok.frf b hb) λz=>I.ok.exfs b z hb
theorem Inv.step {g':Array GenState}{d':Drawn}(I:Inv X pins σ H s)
 (hch:∀b∈ch,(b∈X.ex\/X.s₀.heap.objs.size<=b)/\b≠X.env.locals/\(∀x c,X.env.cells.lookup x=some c->c≠b)/\∀p∈X.pn++pins,p.1≠b)
 (keep:∀b o,b≠X.env.locals->b∉X.fs->b∉ch->s.heap.get? b=some o->H b=none->h'.get? b=some o)
 (slot:∀b o,b≠X.env.locals->b∈X.fs->b∉ch->s.heap.get? b=some o->H b=none->∃sl,h'.get? b=some { o with slots:=sl }) (free:∀b o,b∉ch->s.heap.get? b=some o->H b=none->H' b=none)
 (there:∀b o,b∉ch->s.heap.get? b=some o->∃o',h'.get? b=some o')
 (tups:∀b xs,H b=some (.tup xs)->H' b=some (.tup xs)) (frzs:∀b o u,H b=some (.frz o u)->H' b=some (.frz o u)) (tbls:∀b ps,H b=some (.tbl ps)->∃more,H' b=some (.tbl (ps++more)))
 (ns:∀m,s.heap.Ns X.env.locals m->h'.Ns X.env.locals m) (hok:HOk X.prog X.w H' h') (hg:AllBare g') :
 Inv X pins σ H' { s with heap:=h',gens:=g',drawn:=d',toks:=t' }:=by
 have neL:∀b o,X.s₀.heap.get? b=some o->b≠X.env.locals:=λb o e=>um4 (uf2 (um3 e) I.ok.above);have neC:∀b o,X.s₀.heap.get? b=some o->b∉X.ex->b∉ch:=λb o e hx hb=>by
  rcases (hch b hb).1 with z | z
  ·exact hx z
  ·exact absurd (uf2 (um3 e) z) (ul3 _)
 have cellK:∀x c,X.env.cells.lookup x=some c->∀v,s.heap.IsCell c v->h'.IsCell c v:=λx c e v z9=>by
  obtain ⟨o,ho,hd⟩:=z9;have nch:c∉ch:=λz=>(hch c z).2.2.1 x c e rfl
  by_cases hc:c∈X.fs
  ·obtain ⟨sl,q⟩:=slot c o (I.cne x c e) hc nch ho (I.freeC x c e);exact ⟨_,q,hd⟩
  ·exact ⟨o,keep c o (I.cne x c e) hc nch ho (I.freeC x c e),hd⟩
 refine ⟨I.ok,I.os,hg,⟨λb o e n hb hx=>?_,λb o e n hb hx=>?_,λb o e n hx=>?_,λb o e hx=>?_,λb xs e=>tups b xs (I.base.tups b xs e),λb o xs e=>frzs b o xs (I.base.frzs b o xs e),λb ps e=>?_⟩,?_,λx c e=>?_,?_,λx c e=>?_,λp hp=>?_,hok,I.len⟩
 ·exact keep b o (neL b o e) hb (neC b o e hx) (I.base.keep b o e n hb hx) (I.base.free b o e n hx)
 ·obtain ⟨sl,e1⟩:=I.base.slot b o e n hb hx;obtain ⟨sl',e2⟩:=slot b _ (neL b o e) hb (neC b o e hx) e1 (I.base.free b o e n hx);exact ⟨sl',e2⟩
 ·obtain ⟨o',e1⟩:=I.base.there b o e hx;exact free b o' (neC b o e hx) e1 (I.base.free b o e n hx)
 ·obtain ⟨o',e1⟩:=I.base.there b o e hx;exact there b o' (neC b o e hx) e1
 ·obtain ⟨m1,e1⟩:=I.base.tbls b ps e;obtain ⟨m2,e2⟩:=tbls b _ e1;exact ⟨m1++m2,by rw [e2,Array.append_assoc]⟩
 ·obtain ⟨m,hn,hl⟩:=I.loc;refine ⟨m,ns m hn,λi x v e1 e2 e3=>?_⟩;obtain ⟨u,r,l⟩:=hl i x v e1 e2 e3;refine ⟨u,r,?_⟩;rcases l with l | ⟨k,c,e,z⟩
  ·exact .inl l
  ·exact .inr ⟨k,c,e,cellK x c e _ z⟩
 ·obtain ⟨v,z⟩:=I.cell x c e;exact ⟨v,cellK x c e v z⟩
 ·obtain ⟨m,⟨o,_,_,ho,_⟩,_⟩:=I.loc;exact free _ o (λz=>(hch _ z).2.1 rfl) ho I.free
 ·obtain ⟨v,o,ho,hd⟩:=I.cell x c e;exact free c o (λz=>(hch c z).2.2.1 x c e rfl) ho (I.freeC x c e)
 ·obtain ⟨e,n,ne,nf,d⟩:=I.pin p hp;have nch:p.1∉ch:=λz=>(hch p.1 z).2.2.2 p hp rfl;exact ⟨keep p.1 p.2 ne nf nch e n,free p.1 p.2 nch e n,ne,nf,d⟩
theorem Inv.un (I:Inv X pins σ H s)(u:Un X.fs [] H H' s.heap h')(hok:HOk X.prog X.w H' h'):Inv X pins σ H' { s with heap:=h',toks:=t' }:=by
 obtain ⟨m,⟨o,es,ep,ho,r⟩,_⟩:=id I.loc;obtain ⟨sl,hL⟩:=u.any ho I.free (by simp);exact I.step (g':=s.gens) (d':=s.drawn) (ch:=[]) (λ_ z=>nomatch z) (λb o _ hb _ e n=>u.keep b o e n hb (by simp)) (λb o _ hb _ e n=>u.slot b o e n hb (by simp)) (λb o _ e n=>u.free b o e n (by simp)) (λb o _ e=>u.there b o e (by simp)) u.tups u.frzs u.tbls (λm' hm=>by
  obtain ⟨o',es',ep',ho',r'⟩:=hm;rw [ho] at ho';cases ho'
  exact ⟨_,es',ep',hL,r'⟩) hok I.bare
theorem Inv.call {g':Array GenState}{d':Drawn}(I:Inv X pins σ H s)(u:Un (frs X.stack) ch H H' s.heap h')(hok:HOk X.prog X.w H' h')(hg:AllBare g')
 (hch:∀b∈ch,(b∈X.ex\/X.s₀.heap.objs.size<=b)/\b≠X.env.locals/\(∀x c,X.env.cells.lookup x=some c->c≠b)/\∀p∈X.pn++pins,p.1≠b) :
 Inv X pins σ H' { s with heap:=h',gens:=g',drawn:=d',toks:=t' }:=by
 obtain ⟨m,⟨o,es,ep,ho,r⟩,_⟩:=id I.loc;obtain ⟨sl,hL⟩:=u.any ho I.free λz=>(hch _ z).2.1 rfl;exact I.step (ch:=ch) hch (λb o hL hb hc e n=>u.keep b o e n (λz=>(ul4.mp (I.stkSub b z)).elim hL hb) hc) (λb o _ _ hc e n=>u.any e n hc) (λb o hc e n=>u.free b o e n hc) (λb o hc e=>u.there b o e hc) u.tups u.frzs u.tbls (λm' hm=>by
  obtain ⟨o',es',ep',ho',r'⟩:=hm;rw [ho] at ho';cases ho'
  exact ⟨_,es',ep',hL,r'⟩) hok hg
theorem Inv.turned {it:Addr}(I:Inv X pins σ H s)(k:∀b o,b≠it->s.heap.get? b=some o->h'.get? b=some o)(hn:H it=none)(hL:it≠X.env.locals)
 (h1:it∈X.ex\/X.s₀.heap.objs.size<=it) (h2:∀x c,X.env.cells.lookup x=some c->c≠it) (h3:∀p∈X.pn++pins,p.1≠it):Inv X pins σ H { s with heap:=h',toks:=t' }:=by
 have nit:∀b u,H b=some u->b≠it:=λb u e z=>by rw [z,hn] at e;cases e
 refine I.step (g':=s.gens) (d':=s.drawn) (ch:=[it]) (λb hb=>?_) (λb o _ _ hc e _=>k b o (λz=>hc (by simp [z])) e) (λb o _ _ hc e _=>⟨o.slots,k b o (λz=>hc (by simp [z])) e⟩) (λ_ _ _ _ n=>n)
  (λb o hc e=>⟨o,k b o (λz=>hc (by simp [z])) e⟩) (λ_ _ e=>e) (λ_ _ _ e=>e) (λb ps e=>⟨#[],by rw [e];simp⟩) (λm hm=>?_) (λb u e=>?_) I.bare
 ·have e:b=it:=by simpa using hb
  subst e;exact ⟨h1,hL,h2,h3⟩
 ·obtain ⟨o,es,ep,ho,r⟩:=hm;exact ⟨o,es,ep,k _ o (Ne.symm hL) ho,r⟩
 ·refine (I.hok b u e).stay (λc v hc q=>k c v ?_ q) (λ_ q=>q) λ_ _ q=>q;rcases hc with z | z
  ·rw [z];exact nit b u e
  ·exact nit c _ z
theorem Inv.tok (I:Inv X pins σ H s)(t:Nat):Inv X pins σ H { s with toks:=t }:=I.un (h':=s.heap) (t':=t) Un.refl I.hok
theorem Inv.kept {t':Nat}(I:Inv X pins σ H s)(k:∀b u,s.heap.get? b=some u->h'.get? b=some u):Inv X pins σ H { s with heap:=h',toks:=t' }:=I.un (Un.kept k) (I.hok.kept k)
theorem Inv.laid {a:Addr}{o:HO}{t':Nat}(I:Inv X pins σ H s)(k:∀b u,s.heap.get? b=some u->h'.get? b=some u)(hp:s.heap.objs.size<=a)(new:ObjOk X.prog X.w (upd H a o) h' a o) :
 Inv X pins σ (upd H a o) { s with heap:=h',toks:=t' }:=I.un (Un.laid k hp (I.hok.fresh hp)) (I.hok.laid k hp new)
theorem Inv.write {x e:Addr}{o:HO}{t':Nat}(I:Inv X pins σ H s)(mu:Mut (H x))(he:e=x\/H e=some (.own x))(k:∀b u,b≠e->s.heap.get? b=some u->h'.get? b=some u)(heo:∃u,h'.get? e=some u)
 (new:ObjOk X.prog X.w (upd H x o) h' x o):Inv X pins σ (upd H x o) { s with heap:=h',toks:=t' }:=I.un (Un.write mu he k heo) (I.hok.write mu he k heo new)
theorem Inv.pins_of {pins':List (Addr×Obj)}(I:Inv X pins σ H s)(h:∀p∈pins',s.heap.get? p.1=some p.2/\H p.1=none/\p.1≠X.env.locals/\p.1∉X.fs/\∀v,p.2.data≠.cell v):Inv X pins' σ H s:=
 ⟨I.ok,I.os,I.bare,I.base,I.loc,I.cell,I.free,I.freeC,λp hp=>(ui9.mp hp).elim (λz=>I.pin p (ue0 _ z)) (h p),I.hok,I.len⟩
theorem IZ {N:List Str}(hN:N.Nodup){i j:Nat}{x:Str}(a:N[i]?=some x)(b:N[j]?=some x):i=j:=by
 obtain ⟨h1,e1⟩:=ub2.mp a;obtain ⟨h2,e2⟩:=ub2.mp b;exact (uh5 hN).mp (e1.trans e2.symm)
theorem HI {M:Model}{A:Around}(I:Inv X pins σ H s)(hN:X.N.Nodup)(hi:X.N[i]?=some x)(hx:Loc X.env.scope x)(r:RelV v u)
 (h:∀s',Inv X pins (σ.set i (some v)) H s'->(∃a,Heap.SameBut a s.heap s'.heap/\(a=X.env.locals\/X.env.cells.lookup x=some a))->Q () s') (hf:X.fn x=true\/X.env.scope.names.lookup x=some .local:=by first | exact .inl rfl | exact .inr rfl | assumption):wpAny M A (storeName X.env x u) Q E s:=by
 obtain ⟨m,hn,hl⟩:=id I.loc;have hcls:(X.env.scope.kind == .class || (X.env.scope.kind == .module && X.env.locals != X.env.globals))=false:=by rw [I.ok.kind];rfl
 have hiσ:i < σ.length:=by rw [I.len];exact (ub2.mp hi).1
 have cne:=I.cne;have tracked:∀{a:Addr} {h':Heap},(∃o,s.heap.get? a=some o/\H a=none)->Heap.SameBut a s.heap h'->HOk X.prog X.w H h':=λ{a h'} ha hs b ob e=>by
  obtain ⟨_,_,hfree⟩:=ha;refine (I.hok b ob e).stay (λc w' hc q=>(hs.2 c ?_).trans q) (λ_ q=>q) λ_ _ q=>q;rintro rfl;rcases hc with rfl | hc
  ·rw [hfree] at e;cases e
  ·rw [hfree] at hc;cases hc
 rcases hx with hk | hk
 ·refine wpAny_storeName_local hk hn (λh' hn' hs=>?_) hcls;obtain ⟨oL,_,_,hoL,_⟩:=id hn;refine h _ ⟨I.ok,I.os,I.bare,⟨λb o e n hb hx=>?_,λb o e n hb hx=>?_,I.base.free,λb o e hx=>?_,I.base.tups,I.base.frzs,I.base.tbls⟩,⟨_,hn',λj y v' e1 e2 e3=>?_⟩,λy c e=>?_,I.free,I.freeC,λp hp=>?_,tracked ⟨oL,hoL,I.free⟩ hs,by simpa using I.len⟩ ⟨_,hs,.inl rfl⟩
  ·exact (hs.2 b (um4 (uf2 (um3 e) I.ok.above))).trans (I.base.keep b o e n hb hx)
  ·obtain ⟨sl,e1⟩:=I.base.slot b o e n hb hx;exact ⟨sl,(hs.2 b (um4 (uf2 (um3 e) I.ok.above))).trans e1⟩
  ·obtain ⟨o',e1⟩:=I.base.there b o e hx;exact ⟨o',(hs.2 b (um4 (uf2 (um3 e) I.ok.above))).trans e1⟩
  ·by_cases hj:j=i
   ·subst hj;rw [hi] at e1;cases e1
    rw [uc4 hiσ] at e2
    cases e2
    exact ⟨u,r,.inl ⟨hk,by simp⟩⟩
   ·rw [ue1 (Ne.symm hj)] at e2;obtain ⟨u',r',q⟩:=hl j y v' e1 e2 e3;refine ⟨u',r',?_⟩;rcases q with ⟨k,e⟩ | ⟨k,c,e,z⟩
    ·refine .inl ⟨k,?_⟩;have:y≠x:=λe=>hj (IZ hN e1 (e ▸ hi));simp [this,e]
    ·exact .inr ⟨k,c,e,z.sameBut hs (cne y c e)⟩
  ·obtain ⟨w',z⟩:=I.cell y c e;exact ⟨w',z.sameBut hs (cne y c e)⟩
  ·obtain ⟨e,n,ne,nf,d⟩:=I.pin p hp;exact ⟨(hs.2 p.1 ne).trans e,n,ne,nf,d⟩
 ·have hfn:X.fn x=true:=by
   rcases hf with z | z
   ·exact z
   ·rw [z] at hk;cases hk
  obtain ⟨c,hc⟩:=I.ok.has x (.inl hk);obtain ⟨w',z⟩:=I.cell x c hc;refine wpAny_storeName_cell I.ok.kind hk hc z (λh' hc' hs=>?_);obtain ⟨oc,hoc,hocd⟩:=id z;refine h { s with heap:=h' } ⟨I.ok,I.os,I.bare,⟨λb o e n hb hx=>?_,λb o e n hb hx=>?_,I.base.free,λb o e hx=>?_,I.base.tups,I.base.frzs,I.base.tbls⟩,⟨m,hn.sameBut hs (Ne.symm (cne x c hc)),λj y v' e1 e2 e3=>?_⟩,λy c' e=>?_,I.free,I.freeC,λp hp=>?_,tracked ⟨oc,hoc,I.freeC x c hc⟩ hs,by simpa using I.len⟩ ⟨c,hs,.inr hc⟩
  ·exact (hs.2 b (um4 (uf2 (um3 e) (I.ok.cab x c hfn hc)))).trans (I.base.keep b o e n hb hx)
  ·obtain ⟨sl,e1⟩:=I.base.slot b o e n hb hx;exact ⟨sl,(hs.2 b (um4 (uf2 (um3 e) (I.ok.cab x c hfn hc)))).trans e1⟩
  ·obtain ⟨o',e1⟩:=I.base.there b o e hx;exact ⟨o',(hs.2 b (um4 (uf2 (um3 e) (I.ok.cab x c hfn hc)))).trans e1⟩
  ·by_cases hj:j=i
   ·subst hj;rw [hi] at e1;cases e1
    rw [uc4 hiσ] at e2
    cases e2
    exact ⟨u,r,.inr ⟨.inl hk,c,hc,hc'⟩⟩
   ·rw [ue1 (Ne.symm hj)] at e2;obtain ⟨u',r',q⟩:=hl j y v' e1 e2 e3;refine ⟨u',r',?_⟩;rcases q with q | ⟨k,c',e,z'⟩
    ·exact .inl q
    ·refine .inr ⟨k,c',e,z'.sameBut hs ?_⟩;rintro rfl;exact hj (IZ hN e1 (I.ok.inj _ _ _ e hc ▸ hi))
  ·by_cases hcc:c'=c
   ·subst hcc;exact ⟨_,hc'⟩
   ·obtain ⟨w2,z2⟩:=I.cell y c' e;exact ⟨w2,z2.sameBut hs hcc⟩
  ·obtain ⟨e,n,ne,nf,d⟩:=I.pin p hp;refine ⟨(hs.2 p.1 ?_).trans e,n,ne,nf,d⟩;intro q;rw [q,hoc] at e;have q':oc=p.2:=uj0 e;exact d w' (by rw [<-q'];exact hocd)
theorem Jq {M:Model}{A:Around}(I:Inv X pins σ H s)(hN:X.N.Nodup)(hi:X.N[i]?=some x)(hx:Loc X.env.scope x)(r:RelV v u)
 (h:∀s',Inv X pins (σ.set i (some v)) H s'->Q () s') (hf:X.fn x=true\/X.env.scope.names.lookup x=some .local:=by first | exact .inl rfl | exact .inr rfl | assumption):wpAny M A (storeName X.env x u) Q E s:=
 HI I hN hi hx r (λs' I' _=>h s' I') hf
theorem Inv.call' {s':Shared}(I:Inv X pins σ H s)(ho:s'.os=s.os)(u:Un (frs X.stack) ch H H' s.heap s'.heap)(hok:HOk X.prog X.w H' s'.heap)(hg:AllBare s'.gens)
 (hch:∀b∈ch,(b∈X.ex\/X.s₀.heap.objs.size<=b)/\b≠X.env.locals/\(∀x c,X.env.cells.lookup x=some c->c≠b)/\∀p∈X.pn++pins,p.1≠b):Inv X pins σ H' s':=by
 obtain ⟨h',g',d',t',o'⟩:=s';have e:o'=s.os:=ho;subst e;exact I.call (g':=g') (t':=t') (d':=d') u hok hg hch
end
abbrev XK:=Value->Option Addr->Hp->Prop
abbrev St:=List (Option V)
abbrev VK:=V->Hp->Prop
abbrev TE:=St->Hp->VK->Prop
abbrev TT:=St->Hp->(Bool->Hp->Prop)->Prop
abbrev TA:=St->Hp->(List V->Hp->Prop)->Prop
structure Ends where
 nx:St->Hp->Prop
 rt:VK
 bk:St->Hp->Prop:=λ_ _=>False
 ct:St->Hp->Prop:=λ_ _=>False
abbrev TS:=Ends->St->Hp->Prop
def EP (X:Cx)(pins:List (Addr×Obj))(σ:St)(Q:VK)(u:Value)(s':Shared):Prop:=∃v H',Inv X pins σ H' s'/\RelV v u/\Q v H'
def TP (X:Cx)(pins:List (Addr×Obj))(σ:St)(Q:Bool->Hp->Prop)(b:Bool)(s':Shared):Prop:=∃H',Inv X pins σ H' s'/\Q b H'
def AP (X:Cx)(pins:List (Addr×Obj))(σ:St)(Q:List V->Hp->Prop)(us:List Value)(s':Shared):Prop:=∃vs H',Inv X pins σ H' s'/\Vals vs us/\Q vs H'
def SP (X:Cx)(pins:List (Addr×Obj))(D:Ends)(f:Flow)(s':Shared):Prop:=
 match f with
 | .next=>∃σ' H',Inv X pins σ' H' s'/\D.nx σ' H'
 | .brk=>∃σ' H',Inv X pins σ' H' s'/\D.bk σ' H'
 | .cont=>∃σ' H',Inv X pins σ' H' s'/\D.ct σ' H'
 | .ret u=>∃v σ' H',Inv X pins σ' H' s'/\RelV v u/\D.rt v H'
def PE (X:Cx)(e:Expr)(t:TE):Prop:=
 ∀(pins:List (Addr×Obj)) (s:Shared) (σ:St) (H:Hp) (Q:VK),Inv X pins σ H s->t σ H Q->wpAny (model X.prog X.w) X.A (eval e X.env) (EP X pins σ Q) X.xe s
def PT (X:Cx)(e:Expr)(t:TT):Prop:=
 ∀(pins:List (Addr×Obj)) (s:Shared) (σ:St) (H:Hp) (Q:Bool->Hp->Prop),Inv X pins σ H s->t σ H Q->wpAny (model X.prog X.w) X.A (isTrue e X.env (eval e X.env)) (TP X pins σ Q) X.xe s
def PW (X:Cx)(e:Expr)(t:TT):Prop:=
 ∀(whole:Sem Value) (pins:List (Addr×Obj)) (s:Shared) (σ:St) (H:Hp) (Q:Bool->Hp->Prop),Inv X pins σ H s->t σ H Q->wpAny (model X.prog X.w) X.A (isTrue e X.env whole) (TP X pins σ Q) X.xe s
variable {X:Cx}{e:Expr}
theorem PW.pt {t:TT}(h:PW X e t):PT X e t:=h _
def PA (X:Cx)(es:List Expr)(t:TA):Prop:=
 ∀(pos:Pos) (pins:List (Addr×Obj)) (s:Shared) (σ:St) (H:Hp) (Q:List V->Hp->Prop),Inv X pins σ H s->t σ H Q->wpAny (model X.prog X.w) X.A (spliced (backTo pos (starEach es X.env))) (AP X pins σ Q) X.xe s
def PS (X:Cx)(st:Stmt)(t:TS):Prop:=
 ∀(pins:List (Addr×Obj)) (s:Shared) (σ:St) (H:Hp) (D:Ends),Inv X pins σ H s->t D σ H->wpAny (model X.prog X.w) X.A (exec st X.env) (SP X pins D) X.xe s
def PSs (X:Cx)(st:List Stmt)(t:TS):Prop:=
 ∀(pins:List (Addr×Obj)) (s:Shared) (σ:St) (H:Hp) (D:Ends),Inv X pins σ H s->t D σ H->wpAny (model X.prog X.w) X.A (execs st X.env) (SP X pins D) X.xe s
variable {s:Shared}
theorem thn {α:Type}{t:Sem α}{Q Q':α->Shared->Prop}{M:Model}{A:Around}(h:wpAny M A t Q E s)(hQ:∀a s,Q a s->Q' a s):wpAny M A t Q' E s:=uo2 h hQ λ_ _ x=>x
variable {pins:List (Addr×Obj)}{σ:St}
section
variable {X:Cx}
def Xh (i:Nat):TE:=λσ H Q=>∃v,σ[i]?=some (some v)/\Q v H
def tC (v:V):TE:=λ_ H Q=>Q v H
theorem Dz {pos:Pos}(hN:X.N[i]?=some x)(hv:Vis X.env.scope x)(hd:(x == ("__debug__" : Str))=false:=by decide)(hcd:(x == ("__classdict__" : Str))=false:=by decide):PE X (.Name x pos) (Xh i):=by
 intro pins s σ H Q I h;obtain ⟨v,e,h⟩:=h;obtain ⟨m,hn,hl⟩:=I.loc;obtain ⟨u,r,l⟩:=hl i x v hN e hv;have fin:EP X pins σ Q u s:=⟨v,H,I,r,h⟩;rcases l with ⟨hk,hm⟩ | ⟨hk,c,hc,hcell⟩
 ·exact wpAny_Name (wpAny_loadName_local I.ok.kind hk hn hm fin) hd
 ·rcases hk with hk | hk
  ·exact wpAny_Name (wpAny_loadName_cell I.ok.kind hk hc hcell fin) hd
  ·exact wpAny_Name (wpAny_loadName_free I.ok.kind hk hc hcell fin hcd) hd
theorem WA {i j pos}:PE X (.Constant (.int i) j pos) (tC (.int i)):=λ_ _ _ H _ I h=>wpAny_Constant_int ⟨.int i,H,I.tok _,⟨_,rfl⟩,h⟩
theorem XR {b j pos}:PE X (.Constant (.bool b) j pos) (tC (.bl b)):=λ_ _ _ H _ I h=>Constant_bool ⟨.bl b,H,I,rfl,h⟩
theorem WC {j pos}:PE X (.Constant .none j pos) (tC .non):=λ_ _ _ H _ I h=>Constant_none ⟨.non,H,I,rfl,h⟩
theorem QV {x j pos}:PE X (.Constant (.str x) j pos) (tC (.str x)):=λ_ _ _ H _ I h=>Calls.Constant_str ⟨.str x,H,I.tok _,⟨_,rfl⟩,h⟩
def Gl (X:Cx)(x:Str):Prop:=X.env.kindOf x=some .globalImplicit
theorem El {pos:Pos}{Q:Value->Shared->Prop}(I:Inv X pins σ H s)(hg:Gl X x)(hm:X.mg x=some u)(h:Q u s)
 (hd:(x == ("__debug__" : Str))=false:=by decide):wpAny (model X.prog X.w) X.A (eval (.Name x pos) X.env) Q E s:=
 Calls.Name_function_global I.ok.kind hg (Calls.loadGlobal_global (by rw [I.ok.glob];exact I.mod.glob.keeps I.bk) hm h) hd
theorem Hv {pos:Pos}{Q:Value->Shared->Prop}(I:Inv X pins σ H s)(hg:Gl X x)(hm:X.mg x=none)(hv:bootBuiltins x=some u)(h:Q u s)
 (hn:x≠"__name__":=by decide) (hd:(x == ("__debug__" : Str))=false:=by decide):wpAny (model X.prog X.w) X.A (eval (.Name x pos) X.env) Q E s:=by
 obtain ⟨mb,h1,h2⟩:=I.mod.blt;exact Calls.Name_function_global I.ok.kind hg (Calls.loadGlobal_builtin (by rw [I.ok.glob];exact I.mod.glob.keeps I.bk) hm (by rw [I.ok.blt];exact h1.keeps I.bk) ((h2 x hn).trans hv) h) hd
theorem OP {pos:Pos}(hg:Gl X x)(hm:X.mg x=some u)(r:RelV v u)(hd:(x == ("__debug__" : Str))=false:=by decide):PE X (.Name x pos) (tC v):=
 λ_ _ _ H _ I h=>El I hg hm ⟨v,H,I,r,h⟩ hd
theorem UR {pos:Pos}(hg:Gl X x)(hm:X.mg x=none)(hv:bootBuiltins x=some u)(r:RelV v u)(hn:x≠"__name__":=by decide)(hd:(x == ("__debug__" : Str))=false:=by decide):PE X (.Name x pos) (tC v):=
 λ_ _ _ H _ I h=>Hv I hg hm hv ⟨v,H,I,r,h⟩ hn hd
variable {a b:Expr}{ta tb:TE}{pos:Pos}
def tB (t:TE):TT:=λσ H Q=>t σ H λx H1=>∃c,x = .bl c/\Q c H1
theorem WM {t:TE}(h:PE X e t)(he:∀whole,isTrue e X.env whole=(do let v <-whole;standAt e.pos;holding [v] (truthy v)):=by intro _;rfl):PT X e (tB t):=by
 intro pins s σ H Q I hw;refine isTrue_plain (thn (h pins s σ H _ I hw) λv s1 z9=>?_) (he _);obtain ⟨x,H1,I1,r1,q1⟩:=z9;obtain ⟨d,rfl,q⟩:=q1
 cases r1
 exact wpAny_truthy_bool ⟨H1,I1,q⟩
variable {tA tB':TT}{rest:List Expr}
def Zj (t u:TT):TT:=λσ H Q=>t σ H λc H1=>if c=true then u σ H1 Q else Q false H1
def tOr (t u:TT):TT:=λσ H Q=>t σ H λc H1=>if c=true then Q true H1 else u σ H1 Q
def Zq (t:TT):TT:=λσ H Q=>t σ H λc H1=>Q (!c) H1
theorem U8 (ha:PT X a tA):PW X (.BoolOp .And [a] pos) tA:=by
 intro wh pins s σ H Q I h;refine isTrue_and (thn (ha pins s σ H Q I h) λc s1 e=>?_)
 cases c with
 | true=>exact isTrue_and_nil e
 | false=>exact e
theorem WP (ha:PT X a tA):PW X (.BoolOp .Or [a] pos) tA:=by
 intro wh pins s σ H Q I h;refine isTrue_or (thn (ha pins s σ H Q I h) λc s1 e=>?_)
 cases c with
 | false=>exact isTrue_or_nil e
 | true=>exact e
theorem WO (ha:PT X a tA)(hb:PW X (.BoolOp .And (b :: rest) pos) tB'):PW X (.BoolOp .And (a :: b :: rest) pos) (Zj tA tB'):=by
 intro wh pins s σ H Q I h;refine isTrue_and (thn (ha pins s σ H _ I h) λc s1 z9=>?_);obtain ⟨H1,I1,q1⟩:=z9
 cases c with
 | true=>exact hb wh pins s1 σ H1 Q I1 q1
 | false=>exact ⟨H1,I1,q1⟩
theorem XX (ha:PT X a tA)(hb:PW X (.BoolOp .Or (b :: rest) pos) tB'):PW X (.BoolOp .Or (a :: b :: rest) pos) (tOr tA tB'):=by
 intro wh pins s σ H Q I h;refine isTrue_or (thn (ha pins s σ H _ I h) λc s1 z9=>?_);obtain ⟨H1,I1,q1⟩:=z9
 cases c with
 | true=>exact ⟨H1,I1,q1⟩
 | false=>exact hb wh pins s1 σ H1 Q I1 q1
theorem WL (ha:PT X a tA):PT X (.UnaryOp .Not a pos) (Zq tA):=by
 intro pins s σ H Q I h;exact isTrue_not (ha pins s σ H (λc H1=>Q (!c) H1) I h)
def X1 (ta tb:TE):TE:=λσ H Q=>ta σ H λx H1=>∃c,x = .bl c/\if c=true then tb σ H1 Q else Q (.bl false) H1
def X6 (ta:TE):TE:=λσ H Q=>ta σ H λx H1=>∃c,x = .bl c/\Q (.bl (!c)) H1
theorem WE {op}{t:TE}(h:PE X a t):PE X (.BoolOp op [a] pos) t:=λpins s σ H Q I hw=>BoolOp_one (h pins s σ H Q I hw)
theorem Wy (ha:PE X a ta)(hb:PE X (.BoolOp .And (b :: rest) pos) tb):PE X (.BoolOp .And (a :: b :: rest) pos) (X1 ta tb):=by
 intro pins s σ H Q I h;refine BoolOp_and (thn (ha pins s σ H _ I h) λv s1 z9=>?_);obtain ⟨x,H1,I1,r1,q1⟩:=z9;obtain ⟨c,rfl,q1⟩:=q1
 cases r1
 refine wpAny_truthy_bool ?_
 cases c with
 | true=>exact hb pins s1 σ H1 Q I1 q1
 | false=>exact ⟨.bl false,H1,I1,rfl,q1⟩
theorem WD (ha:PE X a ta):PE X (.UnaryOp .Not a pos) (X6 ta):=by
 intro pins s σ H Q I h;refine UnaryOp_ (thn (ha pins s σ H _ I h) λv s1 z9=>?_);obtain ⟨x,H1,I1,r1,q1⟩:=z9;obtain ⟨c,rfl,q1⟩:=q1
 cases r1
 exact not_of (wpAny_truthy_bool ⟨.bl (!c),H1,I1,rfl,q1⟩)
end
def SqL (K:PySem.W.Frag)(H:Hp)(a:Addr)(xs:List V):Prop:=
 Rd H a (.lst xs)\/
  ∃(o:Obj) (its:Array Value) (n:Nat),K.lookup a=some o/\o.cls = .type "list"/\o.dict=none/\o.data = .seq its n/\its.size<=sizeLine/\Vals xs its.toList
def SqT (K:PySem.W.Frag)(H:Hp)(a:Addr)(xs:List V):Prop:=
 Rd H a (.tup xs)\/
  ∃(o:Obj) (its:Array Value) (n:Nat),K.lookup a=some o/\o.cls = .type "tuple"/\o.data = .seq its n/\its.size<=sizeLine/\Vals xs its.toList
noncomputable def YY:Value->Option V
 | .none=>some .non
 | .bool b=>some (.bl b)
 | .int i _=>some (.int i)
 | .str x _=>some (.str x)
 | .bytes b _=>some (.byt b)
 | .float b _=>some (.flt b)
 | .ref a=>some (.ref a)
 | .type n=>some (.ty n)
 | _=>none
theorem RelV.abs {x:V}(r:RelV x u):YY u=some x:=by
 cases x with
 | non=>cases r;rfl
 | bl _=>cases r;rfl
 | int _=>obtain ⟨t,rfl⟩:=r;rfl
 | str _=>obtain ⟨t,rfl⟩:=r;rfl
 | byt _=>obtain ⟨t,rfl⟩:=r;rfl
 | flt _=>obtain ⟨t,rfl⟩:=r;rfl
 | ref _=>cases r;rfl
 | ty _=>cases r;rfl
theorem RelV.inj {x y:V}{u:Value}(r:RelV x u)(q:RelV y u):x=y:=uj0 (r.abs.symm.trans q.abs)
theorem Vals.inj {xs ys:List V}{us:List Value}(a:Vals xs us)(b:Vals ys us):xs=ys:=by
 cases a with
 | nil=>
   cases b
   rfl
 | cons r t=>
   cases b with
   | cons r' t'=>rw [r.inj r',Vals.inj t t']
variable {K:PySem.W.Frag}
section
variable {X:Cx}{pins:List (Addr×Obj)}{σ:St}{H:Hp}{s:Shared}{a:Addr}{xs ys:List V}
theorem SqL.of (h:H a=some (.lst xs)):SqL K H a xs:=.inl (.inl h)
theorem SqT.of (h:H a=some (.tup xs)):SqT K H a xs:=.inl (.inl h)
theorem Inv.list (I:Inv X pins σ H s)(h:SqL X.K H a xs):∃its:List Value,Vals xs its/\PlainL s.heap a its.toArray/\xs.length<=sizeLine:=by
 rcases h with h | ⟨o,its,n,hk,hc,hd,hs,hz,r⟩
 ·obtain ⟨z,its,n,r,e⟩:=h.ok I.hok;exact ⟨its,r,⟨_,n,e,rfl,rfl,rfl⟩,z⟩
 ·refine ⟨its.toList,r,⟨o,n,I.kIn a o hk,hc,hd,by simpa using hs⟩,?_⟩;have e:=r.length;simp only [ue5] at e;lia
theorem Inv.tuple (I:Inv X pins σ H s)(h:SqT X.K H a xs):∃its:List Value,Vals xs its/\IsTup s.heap a its.toArray/\xs.length<=sizeLine:=by
 rcases h with h | ⟨o,its,n,hk,hc,hs,hz,r⟩
 ·obtain ⟨z,its,r,p⟩:=h.ok I.hok;exact ⟨its,r,p,z⟩
 ·refine ⟨its.toList,r,⟨o,I.kIn a o hk,hc,n,by simpa using hs⟩,?_⟩;have e:=r.length;simp only [ue5] at e;lia
theorem Inv.list_inj (I:Inv X pins σ H s)(h:SqL X.K H a xs)(h':SqL X.K H a ys):xs=ys:=by
 obtain ⟨its,r,⟨o,n,e,_,_,d⟩,_⟩:=I.list h;obtain ⟨its',r',⟨o',n',e',_,_,d'⟩,_⟩:=I.list h';rw [e] at e';cases e'
 rw [d] at d';injection d' with d1 _
 have:its=its':=by simpa using congrArg Array.toList d1
 subst this;exact r.inj r'
theorem Inv.tuple_inj (I:Inv X pins σ H s)(h:SqT X.K H a xs)(h':SqT X.K H a ys):xs=ys:=by
 obtain ⟨its,r,⟨o,e,_,n,d⟩,_⟩:=I.tuple h;obtain ⟨its',r',⟨o',e',_,n',d'⟩,_⟩:=I.tuple h';rw [e] at e';cases e'
 rw [d] at d';injection d' with d1 _
 have:its=its':=by simpa using congrArg Array.toList d1
 subst this;exact r.inj r'
end
abbrev Cx.wish (X:Cx)(E:Value->Shared->Prop):Cx:={ X with xe:=E }
abbrev Cx.nox (X:Cx):Cx:=X.wish λ_ _=>False
theorem Cx.Ok.wish {X:Cx}(ok:X.Ok)(E:Value->Shared->Prop):(X.wish E).Ok:=
 ⟨ok.mod,ok.kind,ok.glob,ok.blt,ok.above,ok.inj,ok.has,ok.cab,ok.hd,ok.frames,ok.stk,ok.exf,ok.bs,ok.bsz,ok.noex,ok.exfs,ok.funs,ok.frf⟩
theorem Cx.Ok.unwish (ok:(X.wish E).Ok):X.Ok:=
 ⟨ok.mod,ok.kind,ok.glob,ok.blt,ok.above,ok.inj,ok.has,ok.cab,ok.hd,ok.frames,ok.stk,ok.exf,ok.bs,ok.bsz,ok.noex,ok.exfs,ok.funs,ok.frf⟩
section
variable {X:Cx}{pins:List (Addr×Obj)}{σ:St}{H:Hp}{s:Shared}{E:Value->Shared->Prop}
theorem Inv.wish (I:Inv X pins σ H s)(E:Value->Shared->Prop):Inv (X.wish E) pins σ H s:=⟨I.ok.wish E,I.os,I.bare,I.base,I.loc,I.cell,I.free,I.freeC,I.pin,I.hok,I.len⟩
theorem Inv.unwish (I:Inv (X.wish E) pins σ H s):Inv X pins σ H s:=⟨I.ok.unwish,I.os,I.bare,I.base,I.loc,I.cell,I.free,I.freeC,I.pin,I.hok,I.len⟩
theorem SP.unwish {D:Ends}{f:Flow}{s':Shared}(h:SP (X.wish E) pins D f s'):SP X pins D f s':=by
 cases f with
 | next=>obtain ⟨σ',H',I,q⟩:=h;exact ⟨σ',H',I.unwish,q⟩
 | brk=>obtain ⟨σ',H',I,q⟩:=h;exact ⟨σ',H',I.unwish,q⟩
 | cont=>obtain ⟨σ',H',I,q⟩:=h;exact ⟨σ',H',I.unwish,q⟩
 | ret u=>obtain ⟨v,σ',H',I,r,q⟩:=h;exact ⟨v,σ',H',I.unwish,r,q⟩
theorem PSs.nox {st:List Stmt}{t:TS}(h:PSs X.nox st t):PSs X st t:=λpins s σ H D I hw=>
 uo2 (h pins s σ H D (I.wish _) hw) (λ_ _ q=>q.unwish) λ_ _ z=>False.elim z
end
section
variable {X:Cx}{st:Stmt}{rest:List Stmt}{t u:TS}{e:Expr}{te:TE}{pos:Pos}
def X5:TS:=λD σ H=>D.nx σ H
def Zs (t u:TS):TS:=λD σ H=>t { D with nx:=u D } σ H
theorem U5:PSs X [] X5:=λ_ _ σ H _ I h=>wpAny_execs_nil ⟨σ,H,I,h⟩
theorem Jg (h1:PS X st t)(h2:PSs X rest u):PSs X (st :: rest) (Zs t u):=by
 intro pins s σ H D I h;refine wpAny_execs_cons (thn (h1 pins s σ H { D with nx:=u D } I h) λf s1 q=>?_)
 cases f with
 | next=>
   obtain ⟨σ',H',I',q⟩:=q;exact h2 pins s1 σ' H' D I' q
 | ret v=>exact q
 | brk=>exact q
 | cont=>exact q
theorem Ij (h1:PS X st t):PSs X [st] t:=by
 intro pins s σ H D I h;refine wpAny_execs_cons (thn (h1 pins s σ H D I h) λf s1 q=>?_)
 cases f with
 | next=>exact wpAny_execs_nil q
 | ret v=>exact q
 | brk=>exact q
 | cont=>exact q
def Xe:TS:=λD σ H=>D.bk σ H
theorem SE:PS X (.Break pos) Xe:=λ_ _ σ H _ I h=>wpAny_Break ⟨σ,H,I,h⟩
theorem Inv.quiet (I:Inv X pins σ H s):interactive X.env=false:=by simp [interactive,I.ok.kind]
def TN (te:TE):TS:=λD σ H=>te σ H λ_ H1=>D.nx σ H1
theorem Lc (he:PE X e te)(hs:swapsWith e none pos.line X.env=pure false:=by rfl):PS X (.Expr e pos) (TN te):=by
 intro pins s σ H D I h;exact wpAny_Expr_any (thn (he pins s σ H _ I h) λv s1 z9=>by obtain ⟨x,H1,I1,r1,q1⟩:=z9;exact ⟨σ,H1,I1,q1⟩) I.quiet hs
def Zr (te:TE):TS:=λD σ H=>te σ H D.rt
theorem HC (he:PE X e te):PS X (.Return (some e) pos) (Zr te):=by
 intro pins s σ H D I h;exact wpAny_Return_some (thn (he pins s σ H _ I h) λv s1 z9=>by obtain ⟨x,H1,I1,r1,q1⟩:=z9;exact ⟨x,σ,H1,I1,r1,q1⟩)
def Zn (c:TT)(t u:TS):TS:=λD σ H=>c σ H λb H1=>if b=true then t D σ H1 else u D σ H1
theorem XW {c:Expr}{a b:List Stmt}{tc:TT}(hc:PT X c tc)(ha:PSs X a t)(hb:PSs X b u):PS X (.If c a b pos) (Zn tc t u):=by
 intro pins s σ H D I h;refine wpAny_If (thn (hc pins s σ H _ I h) λd s1 z9=>?_);obtain ⟨H1,I1,q1⟩:=z9
 cases d with
 | true=>exact ha pins s1 σ H1 D I1 q1
 | false=>exact hb pins s1 σ H1 D I1 q1
end
abbrev TG:=V->St->Hp->(St->Hp->Prop)->Prop
abbrev TGs:=List V->St->Hp->(St->Hp->Prop)->Prop
def PG (X:Cx)(target:Expr)(t:TG):Prop:=
 ∀(pins:List (Addr×Obj)) (s:Shared) (σ:St) (H:Hp) (v:V) (u:Value) (Q:St->Hp->Prop),Inv X pins σ H s->RelV v u->t v σ H Q->
  wpAny (model X.prog X.w) X.A (assign target X.env u) (λ_ s'=>∃σ' H',Inv X pins σ' H' s'/\Q σ' H') X.xe s
def PGs (X:Cx)(ts:List Expr)(t:TGs):Prop:=
 ∀(pins:List (Addr×Obj)) (s:Shared) (σ:St) (H:Hp) (vs:List V) (us:List Value) (Q:St->Hp->Prop),Inv X pins σ H s->Vals vs us->t vs σ H Q->
  wpAny (model X.prog X.w) X.A (assignInOrder ((assignEach ts X.env).map (·.2)) us) (λ_ s'=>∃σ' H',Inv X pins σ' H' s'/\Q σ' H') X.xe s
abbrev RL:=V->V->V->Hp->(Hp->Prop)->Prop
def VO (X:Cx)(t:RL):Prop:=
 ∀(pins:List (Addr×Obj)) (s:Shared) (σ:St) (H:Hp) (o i v:V) (ov iv u:Value) (Q:Hp->Prop),Inv X pins σ H s->RelV o ov->RelV i iv->RelV v u->t o i v H Q->
  wpAny (model X.prog X.w) X.A (setItem ov iv u) (λ_ s'=>∃H',Inv X pins σ H' s'/\Q H') X.xe s
variable {tg:Expr}
section
variable {X:Cx}{pos:Pos}
def JX (i:Nat):TG:=λv σ H Q=>Q (σ.set i (some v)) H
theorem UU (hN:X.N.Nodup)(hi:X.N[i]?=some x)(hx:Loc X.env.scope x)(hf:X.fn x=true\/X.env.scope.names.lookup x=some .local:=by first | exact .inl rfl | exact .inr rfl | assumption):PG X (.Name x pos) (JX i):=by
 intro pins s σ H v u Q I r h;exact wpAny_assign_Name (Jq I hN hi hx r (λs' I'=>⟨_,H,I',h⟩) hf)
def Y9:TGs:=λvs σ H Q=>vs=[]/\Q σ H
def Tu (t:TG)(u:TGs):TGs:=λvs σ H Q=>∃v r,vs=v :: r/\t v σ H λσ' H'=>u r σ' H' Q
theorem UV:PGs X [] Y9:=by
 intro pins s σ H vs us Q I r h;obtain ⟨e,h⟩:=h;subst e
 cases r
 exact assignInOrder_nil ⟨σ,H,I,h⟩
theorem Sz {es:List Expr}{t:TG}{u:TGs}(h1:PG X e t)(h2:PGs X es u)
 (hs:(assignEach (e :: es) X.env).map (·.2)=assign e X.env :: (assignEach es X.env).map (·.2):=by rfl):PGs X (e :: es) (Tu t u):=by
 intro pins s σ H vs us Q I r h;obtain ⟨v,vr,e1,h⟩:=h;subst e1
 cases r with
 | cons r rr=>
   rw [hs];refine assignInOrder_cons (thn (h1 pins s σ H _ _ _ I r h) λ_ s1 z9=>?_);obtain ⟨σ1,H1,I1,q1⟩:=z9;exact h2 pins s1 σ1 H1 _ _ Q I1 rr q1
def Zb (K:PySem.W.Frag)(n:Nat)(t:TGs):TG:=λv σ H Q=>∃a xs,v = .ref a/\SqT K H a xs/\xs.length=n/\t xs σ H Q
theorem WH {es:List Expr}{k:Nat}{t:TGs}{n:Nat}(hc:X.calm=true)(h:PGs X es t)
 (hn:(assignEach es X.env).length=n:=by rfl) (hst:(assignEach es X.env).findIdx? (·.1)=none:=by rfl):PG X (.Tuple es k pos) (Zb X.K n t):=by
 intro pins s σ H v u Q I r hw;obtain ⟨a,xs,e1,hq,hl,hw⟩:=hw;subst e1
 cases r
 obtain ⟨its,rv,ht,hz⟩:=I.tuple hq;refine assign_Tuple_tuple (I.ok.hd hc) ht (by simp [hn,<-hl,rv.length]) hst λh' hx=>?_;have I1:Inv X pins σ H { s with heap:=h' }:=I.kept (t':=s.toks) λb o e=>hx b o (um4 (um3 e)) e;exact h pins _ σ H xs _ Q I1 (by simpa using rv) hw
def Za (to ti:TE)(t:RL):TG:=λv σ H Q=>to σ H λo H1=>ti σ H1 λi H2=>t o i v H2 λH3=>Q σ H3
theorem WG {o i:Expr}{to ti:TE}{t:RL}(ho:PE X o to)(hi:PE X i ti)(hs:VO X t)
 (ha:∀v,assign (.Subscript o i pos) X.env v=(do
   let ov <-holding [v] (eval o X.env)
   let iv <-holding [v,ov] (eval i X.env)
   standAt pos
   holding [v,ov,iv] (setItem ov iv v)
   release [v,ov,iv] []):=by intro _;rfl):PG X (.Subscript o i pos) (Za to ti t):=by
 intro pins s σ H v u Q I r h;rw [ha];refine uo0 (um2 (thn (ho pins s σ H _ I h) λov s1 z9=>?_));obtain ⟨x,H1,I1,r1,q1⟩:=z9;refine uo0 (um2 (thn (hi pins s1 σ H1 _ I1 q1) λiv s2 z9=>?_));obtain ⟨y,H2,I2,r2,q2⟩:=z9;refine uo0 (wpAny_standAt (uo0 (um2 (thn (hs pins s2 σ H2 x y v ov iv u _ I2 r1 r2 r q2) λ_ s3 z9=>?_))));obtain ⟨H3,I3,q3⟩:=z9;exact wpAny_release ⟨σ,H3,I3,q3⟩
def NY (te:TE)(g:TG):TS:=λD σ H=>te σ H λx H1=>g x σ H1 D.nx
theorem Q1 {te:TE}{g:TG}(he:PE X e te)(hg:PG X tg g)(hs:swapsWithSole [tg] e pos.line X.env=pure false:=by rfl)(hw:swappedStores [tg] e X.env=pure none:=by rfl)
 (h1:(assignEach [tg] X.env).map (·.2)=[assign tg X.env]:=by rfl):PS X (.Assign [tg] e pos) (NY te g):=by
 intro pins s σ H D I h;refine wpAny_Assign_stores (thn (he pins s σ H _ I h) λv s1 z9=>?_) hs hw;obtain ⟨x,H1,I1,r1,q1⟩:=z9;rw [h1];exact thn (hg pins s1 σ H1 x v _ I1 r1 q1) λ_ s2 q=>q
theorem NF {te:TE}{pos':Pos}(hN:X.N.Nodup)(hi:X.N[i]?=some x)(hx:Loc X.env.scope x)(he:PE X e te)(hs:swapsWith e (some (.Name x pos')) pos.line X.env=pure false:=by rfl)(hf:X.fn x=true\/X.env.scope.names.lookup x=some .local:=by first | exact .inl rfl | exact .inr rfl | assumption) :
 PS X (.Assign [.Name x pos'] e pos) (NY te (JX i)):=by
 intro pins s σ H D I h;refine wpAny_Assign_Name (thn (he pins s σ H _ I h) λv s1 z9=>?_) hs;obtain ⟨y,H1,I1,r1,q1⟩:=z9;exact Jq I1 hN hi hx r1 (λs2 I2=>⟨_,H1,I2,q1⟩) hf
end
section
variable {X:Cx}{pos:Pos}
def Rk (c:TT)(tb:TS):TS:=λD σ H=>∃W:Nat->St->Hp->Prop,(∃m,W m σ H)/\∀m σ H,W m σ H->
 c σ H λb H1=>if b=true then ∃N:St->Hp->Prop,(∀σ' H',N σ' H'->∃m',m' < m/\W m' σ' H')/\tb { D with nx:=N,ct:=N,bk:=D.nx } σ H1 else D.nx σ H1
theorem SG {c:Expr}{body:List Stmt}{tc:TT}{tb:TS}(hp:PassesOwn (model X.prog X.w) X.A X.env X.xe)(hc:PT X c tc)(hb:PSs X body tb):PS X (.While c body [] pos) (Rk tc tb):=by
 intro pins s σ H D I h;obtain ⟨W,⟨m0,w0⟩,turn⟩:=h;refine wpAny_While (codeAny_whileLoop (λn s'=>∃σ' H',Inv X pins σ' H' s'/\W n σ' H') ?_ m0 ⟨σ,H,I,w0⟩);rintro n s1 ⟨σ1,H1,I1,w1⟩;refine wpAny_passesOwn hp (thn (hc pins s1 σ1 H1 _ I1 (turn n σ1 H1 w1)) λb s2 z9=>?_);obtain ⟨H2,I2,q2⟩:=z9
 cases b with
 | true=>
   obtain ⟨N,hN,q2⟩:=q2;rw [if_pos rfl];refine wpAny_passesOwn hp (thn (hb pins s2 σ1 H2 _ I2 q2) λf s3 q3=>?_)
   cases f with
   | next=>
     obtain ⟨σ3,H3,I3,n3⟩:=q3;obtain ⟨m',hm,w3⟩:=hN σ3 H3 n3;exact ⟨m',hm,σ3,H3,I3,w3⟩
   | cont=>
     obtain ⟨σ3,H3,I3,n3⟩:=q3;obtain ⟨m',hm,w3⟩:=hN σ3 H3 n3;exact ⟨m',hm,σ3,H3,I3,w3⟩
   | brk=>exact q3
   | ret v=>exact q3
 | false=>
   rw [if_neg uf4];exact wpAny_execs_nil ⟨σ1,H2,I2,q2⟩
end
structure It where
 go:Nat->Hp->Prop
 yld:Nat->Hp->V->Hp->Prop
 stop:Nat->Hp->Prop
def FpOk (X:Cx)(pins:List (Addr×Obj))(H:Hp)(b:Addr):Prop:=
 H b=none/\b≠X.env.locals/\b∉X.fs/\(b∈X.ex\/X.s₀.heap.objs.size<=b)/\(∀x c,X.env.cells.lookup x=some c->c≠b)/\∀p∈X.pn++pins,p.1≠b
theorem Inv.fpOk {H':Hp}(I:Inv X pins σ H s)(hb:s.heap.objs.size<=b)(hn:H' b=none):FpOk X pins H' b:=by
 refine ⟨hn,um7 (uf2 I.lt hb),I.nofs hb,.inr (um5 I.sz hb),λx c e z=>?_,λp hp z=>?_⟩
 ·obtain ⟨v,q⟩:=I.cell x c e;exact absurd (uf2 q.lt (by rw [z];exact hb)) (ul3 _)
 ·exact absurd (uf2 (um3 (I.pin p hp).1) (by rw [z];exact hb)) (ul3 _)
structure Turn (P:Program)(w:World)(K:PySem.W.Frag)(tg:Expr)(J:It)(fp:List Addr)(it:Addr)(tn:Nat->Heap->Prop):Prop where
 mem:it∈fp
 obj:∀i h,tn i h->∀b∈fp,∃o,h.get? b=some o/\∀v,o.data≠.cell v
 keep:∀i h h',tn i h->(∀b∈fp,∀o,h.get? b=some o->h'.get? b=some o)->tn i h'
 item:∀(X:Cx),X.prog=P->X.w=w->X.K=K->X.calm=true->∀(i:Nat) (pins:List (Addr×Obj)) (s:Shared) (σ:St) (H:Hp) (E:Value->Shared->Prop),Inv X pins σ H s->(∀b∈fp,FpOk X pins H b)->tn i s.heap->J.go i H->
  wpAny (model P w) X.A (pyNext (.ref it)) (λr s1=>∃u,r=some u/\
   wpAny (model P w) X.A (letOwnedTupleGo tg (.ref it) u) (λ_ s2=>∃x H',Inv X pins σ H' s2/\RelV x u/\J.yld i H x H'/\tn (i + 1) s2.heap/\∀b∈fp,H' b=none) E s1) E s
 done:∀(X:Cx),X.prog=P->X.w=w->X.K=K->X.calm=true->∀(i:Nat) (pins:List (Addr×Obj)) (s:Shared) (σ:St) (H:Hp) (E:Value->Shared->Prop),Inv X pins σ H s->(∀b∈fp,FpOk X pins H b)->tn i s.heap->J.stop i H->
  wpAny (model P w) X.A (pyNext (.ref it)) (λr s1=>r=none/\Inv X pins σ H s1) E s
 self:∀(A:Around) (i:Nat) (s:Shared) (Q:Value->Shared->Prop) (E:Value->Shared->Prop),tn i s.heap->Q (.ref it) s->wpAny (model P w) A (pyIter (.ref it)) Q E s
abbrev TI:=St->Hp->(It->Hp->Prop)->Prop
def PIE (X:Cx)(pins:List (Addr×Obj))(σ:St)(tg:Expr)(R:It->Hp->Prop)(itv:Value)(s2:Shared):Prop:=
 ∃(it:Addr) (fp:List Addr) (tn:Nat->Heap->Prop) (J:It) (H':Hp),itv = .ref it/\Inv X pins σ H' s2/\Turn X.prog X.w X.K tg J fp it tn/\tn 0 s2.heap/\(∀b∈fp,FpOk X pins H' b)/\R J H'
def PI (X:Cx)(tg iter:Expr)(wi:TI):Prop:=
 ∀(pins:List (Addr×Obj)) (s:Shared) (σ:St) (H:Hp) (R:It->Hp->Prop),Inv X pins σ H s->wi σ H R->
  wpAny (model X.prog X.w) X.A (eval iter X.env) (λv s1=>wpAny (model X.prog X.w) X.A (pyIter v) (PIE X pins σ tg R) X.xe s1) X.xe s
theorem Mp {M:Model}{A:Around}{it:Addr}{o:Obj}{n:String}{vs:Array Value}(ho:s.heap.get? it=some o)(hc:o.cls = .type n)(hd:o.data = .fields vs)
 (hn:["enumerate", "zip", "dict_itemiterator", "dict_reverseitemiterator", "odict_iterator", "itertools.zip_longest", "itertools.pairwise"].contains n=false) (hQ:Q () s):wpAny M A (letOwnedTupleGo tg (.ref it) u) Q E s:=by
 unfold letOwnedTupleGo
 cases tg <;> first
  | exact uo1 hQ
  | (cases u <;> first
      | exact uo1 hQ
      | (refine uo0 (wpAny_load ho ?_)
         rw [hc,hd];show wpAny M A (if (["enumerate", "zip", "dict_itemiterator", "dict_reverseitemiterator", "odict_iterator", "itertools.zip_longest", "itertools.pairwise"].contains n && vs[0]? == some (rawInt _))=true then _ else _) Q E s;rw [if_neg (by intro h;rw [hn,uk9] at h;cases h)]
         exact uo1 hQ))
def Itl (K:PySem.W.Frag)(a:Addr):It:=
 ⟨λi H=>∃xs x,SqL K H a xs/\xs[i]?=some x,λi H x H'=>H'=H/\∀xs,SqL K H a xs->xs[i]?=some x,λi H=>∃xs,SqL K H a xs/\xs.length<=i⟩
def Itt (K:PySem.W.Frag)(a:Addr):It:=
 ⟨λi H=>∃xs x,SqT K H a xs/\xs[i]?=some x,λi H x H'=>H'=H/\∀xs,SqT K H a xs->xs[i]?=some x,λi H=>∃xs,SqT K H a xs/\xs.length<=i⟩
noncomputable def Itr (lo:Int)(n:Nat):It:=⟨λi _=>i < n,λi H x H'=>H'=H/\x = .int (lo + i),λi _=>n<=i⟩
theorem Rp (a it:Addr):Turn P w K tg (Itl K a) [it] it (λi h=>h.IsListIter it a i) where
 mem:=by simp
 obj:=λi h st b hb=>by
  have e:b=it:=by simpa using hb
  subst e;obtain ⟨o,e,c,d⟩:=st;exact ⟨o,e,λv z=>by rw [d] at z;cases z⟩
 keep:=λi h h' st k=>st.at λo e=>k it (by simp) o e
 item:=by
  intro X hP hw hK hc i pins s σ H E I hf st hg;subst hP hw hK;obtain ⟨xs,x,hq,hx⟩:=hg;obtain ⟨its,rv,p,hz⟩:=I.list hq;obtain ⟨u,hu,ru⟩:=rv.get hx;obtain ⟨f0,f1,f2,f3,f4,f5⟩:=hf it (by simp);refine wpAny_pyNext_list_item st p.isList (x:=u) (by simpa using hu) λh' st' sb=>?_;have I1:Inv X pins σ H { s with heap:=h' }:=I.turned (t':=s.toks) (λb o hb e=>(sb.2 b hb).trans e) f0 f1 f3 f4 f5;obtain ⟨o,e,c,d⟩:=id st';exact ⟨u,rfl,Mp (s:={ s with heap:=h' }) e c d (by decide) ⟨x,H,I1,ru,⟨rfl,λys hy=>by rw [I.list_inj hy hq];exact hx⟩,st',λb hb=>(hf b hb).1⟩⟩
 done:=by
  intro X hP hw hK hc i pins s σ H E I hf st hg;subst hP hw hK;obtain ⟨xs,hq,hx⟩:=hg;obtain ⟨its,rv,p,hz⟩:=I.list hq;obtain ⟨f0,f1,f2,f3,f4,f5⟩:=hf it (by simp);have hl:=rv.length;exact wpAny_pyNext_list_end (I.ok.hd hc) st p.isList (by simp;lia) λh' eb=>⟨rfl,I.turned (t':=s.toks) (λb o hb e=>eb b o hb e) f0 f1 f3 f4 f5⟩
 self:=λ_ _ _ _ _ st h=>wpAny_pyIter_listiter st h
theorem PU (a it:Addr):Turn P w K tg (Itt K a) [it] it (λi h=>h.IsTupleIter it a i) where
 mem:=by simp
 obj:=λi h st b hb=>by
  have e:b=it:=by simpa using hb
  subst e;obtain ⟨o,e,c,d⟩:=st;exact ⟨o,e,λv z=>by rw [d] at z;cases z⟩
 keep:=λi h h' st k=>st.at λo e=>k it (by simp) o e
 item:=by
  intro X hP hw hK hc i pins s σ H E I hf st hg;subst hP hw hK;obtain ⟨xs,x,hq,hx⟩:=hg;obtain ⟨its,rv,p,hz⟩:=I.tuple hq;obtain ⟨u,hu,ru⟩:=rv.get hx;obtain ⟨f0,f1,f2,f3,f4,f5⟩:=hf it (by simp);refine wpAny_pyNext_tuple_item st (show s.heap.IsTuple a its.toArray from p) (x:=u) (by simpa using hu) λh' st' sb=>?_;have I1:Inv X pins σ H { s with heap:=h' }:=I.turned (t':=s.toks) (λb o hb e=>(sb.2 b hb).trans e) f0 f1 f3 f4 f5;obtain ⟨o,e,c,d⟩:=id st';exact ⟨u,rfl,Mp (s:={ s with heap:=h' }) e c d (by decide) ⟨x,H,I1,ru,⟨rfl,λys hy=>by rw [I.tuple_inj hy hq];exact hx⟩,st',λb hb=>(hf b hb).1⟩⟩
 done:=by
  intro X hP hw hK hc i pins s σ H E I hf st hg;subst hP hw hK;obtain ⟨xs,hq,hx⟩:=hg;obtain ⟨its,rv,p,hz⟩:=I.tuple hq;obtain ⟨f0,f1,f2,f3,f4,f5⟩:=hf it (by simp);have hl:=rv.length;exact wpAny_pyNext_tuple_end (I.ok.hd hc) st (show s.heap.IsTuple a its.toArray from p) (by simp;lia) λh' eb=>⟨rfl,I.turned (t':=s.toks) (λb o hb e=>eb b o hb e) f0 f1 f3 f4 f5⟩
 self:=λ_ _ _ _ _ st h=>wpAny_pyIter_tupleiter st h
theorem PR (it:Addr)(lo:Int)(n:Nat):Turn P w K tg (Itr lo n) [it] it (λi h=>IsRangeIter h it (lo + (i:Nat) * 1) ((n:Int) - (i:Nat)) 1) where
 mem:=by simp
 obj:=λi h st b hb=>by
  have e:b=it:=by simpa using hb
  subst e;exact ⟨_,st,λv z=>by
   have z':Data.fields _=Data.cell v:=z
   cases z'⟩
 keep:=λi h h' st k=>k it (by simp) _ st
 item:=by
  intro X hP hw hK hc i pins s σ H E I hf st hg;subst hP hw hK;obtain ⟨f0,f1,f2,f3,f4,f5⟩:=hf it (by simp);have W:=Walks.range (prog:=X.prog) (w:=X.w) (I.ok.hd hc) it lo 1 n;refine W.item i s _ _ hg st λv h' tk hv st' kk=>?_;obtain ⟨t,rfl⟩:=hv;have I1:Inv X pins σ H { s with heap:=h',toks:=tk }:=I.turned (λb o hb e=>kk b o (by simpa using hb) e) f0 f1 f3 f4 f5;refine ⟨_,rfl,Mp (s:={ s with heap:=h',toks:=tk }) (n:="range_iterator") st' rfl rfl (by decide) ⟨.int (lo + i),H,I1,⟨t,?_⟩,⟨rfl,rfl⟩,st',λb hb=>(hf b hb).1⟩⟩;rw [Int.mul_one]
 done:=by
  intro X hP hw hK hc i pins s σ H E I hf st hg;subst hP hw hK;obtain ⟨f0,f1,f2,f3,f4,f5⟩:=hf it (by simp);exact wpAny_pyNext_range_end (I.ok.hd hc) st (by have:n<=i:=hg;lia) λh' eb=>⟨rfl,I.turned (t':=s.toks) (λb o hb e=>eb b o hb e) f0 f1 f3 f4 f5⟩
 self:=λ_ _ _ _ _ st h=>wpAny_pyIter_rangeiter st h
variable {fp:List Addr}
section
variable {X:Cx}{tg:Expr}
theorem NI {R:It->Hp->Prop}{lo hi:Int}{t u v:Tok}{tk:Nat}(I:Inv X pins σ H s)(h1 : -(2 ^ 62)<=lo)(h2:lo < 2 ^ 62)(h3 : -(2 ^ 62)<=hi)(h4:hi < 2 ^ 62)
 (q:R (Itr lo (hi - lo).toNat) H):wpAny (model X.prog X.w) X.A (pyIter (.ref s.heap.objs.size)) (PIE X pins σ tg R) E { s with heap:=s.heap.push { cls:=.type "range",data:=.fields #[.int lo t,.int hi u,.int 1 v] },toks:=tk }:=by
 refine wpAny_pyIter_range (IsRange.new ..) (small_one h1 h2 h3 h4) ?_;have I1:Inv X pins σ H { s with heap:=s.heap.push { cls:=.type "range",data:=.fields #[.int lo t,.int hi u,.int 1 v] },toks:=tk }:=I.kept λb o e=>uc5 _ e;refine ⟨(s.heap.push { cls:=.type "range",data:=.fields #[.int lo t,.int hi u,.int 1 v] }).objs.size,[(s.heap.push { cls:=.type "range",data:=.fields #[.int lo t,.int hi u,.int 1 v] }).objs.size],_,_,H,rfl,
  I1.kept (t':=tk) λb o e=>uc5 _ e,PR _ lo (hi - lo).toNat,?_,λb hb=>?_,q⟩
 ·have e1:lo + ((0:Nat):Int) * 1=lo:=by simp
  have e2:(((hi - lo).toNat:Nat):Int) - ((0:Nat):Int)=Builtin.Range.rangeSize lo hi 1:=by rw [rangeSize_one];split <;> lia
  show IsRangeIter _ _ (lo + ((0:Nat):Int) * 1) ((((hi - lo).toNat:Nat):Int) - ((0:Nat):Int)) 1;rw [e1,e2];exact ue6 _ rfl
 ·have e:b=(s.heap.push { cls:=.type "range",data:=.fields #[.int lo t,.int hi u,.int 1 v] }).objs.size:=by simpa using hb
  subst e;exact I1.fpOk (un6 _) (I1.hok.fresh (un6 _))
def XJ (ta:TA):TI:=λσ H R=>ta σ H λvs H1=>∃j:Int,vs=[.int j]/\-(2 ^ 62)<=j/\j < 2 ^ 62/\R (Itr 0 j.toNat) H1
def XL (ta:TA):TI:=λσ H R=>ta σ H λvs H1=>∃i j:Int,vs=[.int i,.int j]/\(-(2 ^ 62)<=i/\i < 2 ^ 62/\-(2 ^ 62)<=j/\j < 2 ^ 62)/\R (Itr i (j - i).toNat) H1
theorem QX {a:Expr}{ta:TA}{p pos:Pos}(hg:Gl X "range")(hm:X.mg "range" = none)(ha:PA X [a] ta)(hs:starEach [a] X.env=[(false,eval a X.env)]:=by rfl):PI X tg (.Call (.Name "range" p) [a] [] pos) (XJ ta):=by
 intro pins s σ H R I h;refine Call_ (Hv I hg hm boot_range (ua5 (thn (ha pos pins s σ H _ I h) λus s1 z9=>?_) hs rfl));obtain ⟨vs,H1,I1,r1,q1⟩:=z9;obtain ⟨j,e,q1,q2,q⟩:=q1;subst e
 cases r1 with
 | cons r rr=>
   cases rr
   obtain ⟨t,rfl⟩:=r;exact call_range_1 (NI I1 (by lia) (by lia) q1 q2 (by simpa using q))
theorem QY {a b:Expr}{ta:TA}{p pos:Pos}(hg:Gl X "range")(hm:X.mg "range" = none)(ha:PA X [a,b] ta)(hs:starEach [a,b] X.env=[(false,eval a X.env),(false,eval b X.env)]:=by rfl)(hs2:starEach [b] X.env=[(false,eval b X.env)]:=by rfl) :
 PI X tg (.Call (.Name "range" p) [a,b] [] pos) (XL ta):=by
 intro pins s σ H R I h;refine Call_ (Hv I hg hm boot_range (ua5 (thn (ha pos pins s σ H _ I h) λus s1 z9=>?_) (by rw [hs,hs2]) (by rw [hs2];rfl)));obtain ⟨vs,H1,I1,r1,q1⟩:=z9;obtain ⟨i,j,e,⟨q1,q2,q3,q4⟩,q⟩:=q1;subst e
 cases r1 with
 | cons r rr=>
   cases rr with
   | cons r' rr=>
     cases rr
     obtain ⟨t,rfl⟩:=r;obtain ⟨t',rfl⟩:=r';exact call_range_2 (NI I1 q1 q2 q3 q4 q)
def SW (wi:TI)(g:TG)(tb:TS):TS:=λD σ H=>wi σ H λJ H1=>∃W:Nat->Nat->St->Hp->Prop,(∃m,W 0 m σ H1)/\∀i m σ H,W i m σ H->
 (J.stop i H/\D.nx σ H)\/(J.go i H/\∃N:St->Hp->Prop,(∀σ' H',N σ' H'->∃m',m' < m/\W (i + 1) m' σ' H')/\∀x H',J.yld i H x H'->g x σ H' λσ2 H2=>tb { D with nx:=N,ct:=N,bk:=D.nx } σ2 H2)
noncomputable def HA (fp:List Addr)(h:Heap):List (Addr×Obj):=fp.filterMap λb=>(h.get? b).map λo=>(b,o)
theorem Fj {o:Obj}(hb:b∈fp)(e:h.get? b=some o):(b,o)∈HA fp h:=List.mem_filterMap.mpr ⟨b,hb,by rw [e];rfl⟩
theorem QS {p:Addr×Obj}(hp:p∈HA fp h):p.1∈fp/\h.get? p.1=some p.2:=by
 obtain ⟨b,hb,e⟩:=List.mem_filterMap.mp hp
 cases q:h.get? b with
 | none=>rw [q] at e;cases e
 | some o=>
   rw [q] at e;have e':(b,o)=p:=uj0 e;subst e';exact ⟨hb,q⟩
theorem Inv.pinned (I:Inv X pins σ H s)(hf:∀b∈fp,FpOk X pins H b)(ho:∀b∈fp,∃o,s.heap.get? b=some o/\∀v,o.data≠.cell v):Inv X (pins++HA fp s.heap) σ H s:=
 I.pins_of λp hp=>(ui9.mp hp).elim (λz=>I.pin p (ud3 _ z)) λz=>by
  obtain ⟨hb,e⟩:=QS z;obtain ⟨f0,f1,f2,_⟩:=hf p.1 hb;obtain ⟨o,e',d⟩:=ho p.1 hb;rw [e] at e';cases e'
  exact ⟨e,f0,f1,f2,d⟩
theorem Inv.unpinned {pl:List (Addr×Obj)}(I:Inv X (pins++pl) σ H s):Inv X pins σ H s:=I.pins_of λp hp=>I.pin p (ud3 _ (ue0 _ hp))
theorem Q2 {iter:Expr}{body:List Stmt}{wi:TI}{g:TG}{tb:TS}{pos:Pos}(hp:PassesOwn (model X.prog X.w) X.A X.env X.xe)(hc:X.calm=true)(hi:PI X tg iter wi)(hg:PG X tg g)(hb:PSs X body tb)
 (hs:∀x,foldedSetIterable iter X.env x=pure x:=by intro _;rfl):PS X (.For tg iter body [] pos) (SW wi g tb):=by
 intro pins s σ H D I h;refine wpAny_For (thn (hi pins s σ H _ I h) λv s1 h1=>thn h1 λitv s2 h2=>?_) hs;obtain ⟨it,fp,tn,J,H2,e,I2,T,st2,f2,W,⟨m0,w0⟩,turn⟩:=h2;subst e
 -- what stays true of the iterator's objects through the loop
 have stat:∀{H':Hp},(∀b∈fp,H' b=none)->∀b∈fp,FpOk X pins H' b:=λhn b hb=>⟨hn b hb,(f2 b hb).2⟩;refine codeAny_forLoop_any (λn s'=>∃i σ' H',Inv X pins σ' H' s'/\tn i s'.heap/\(∀b∈fp,H' b=none)/\W i n σ' H') ?_ m0 ⟨0,σ,H2,I2,st2,λb hb=>(f2 b hb).1,w0⟩;rintro n s3 ⟨i,σ3,H3,I3,st3,fr3,w3⟩;rcases turn i n σ3 H3 w3 with ⟨stop,qn⟩ | ⟨go,N,hN,step⟩
 ·refine wpAny_passesOwn hp (thn (T.done X rfl rfl rfl hc i pins s3 σ3 H3 X.xe I3 (stat fr3) st3 stop) λr s4 z9=>?_);obtain ⟨hr,I4⟩:=z9;subst hr;exact wpAny_execs_nil ⟨σ3,H3,I4,qn⟩
 ·refine wpAny_passesOwn hp (thn (T.item X rfl rfl rfl hc i pins s3 σ3 H3 X.xe I3 (stat fr3) st3 go) λr s4 z9=>?_);obtain ⟨u,hr,h4⟩:=z9;subst hr;refine wpAny_passesOwn hp (thn h4 λ_ s5 z9=>?_);obtain ⟨x,H5,I5,r5,y5,st5,fr5⟩:=z9;have I5':=I5.pinned (stat fr5) (T.obj _ _ st5);refine wpAny_passesOwn hp (thn (hg _ s5 σ3 H5 x u _ I5' r5 (step x H5 y5)) λ_ s6 z9=>?_);obtain ⟨σ6,H6,I6,q6⟩:=z9;refine wpAny_passesOwn hp (thn (hb _ s6 σ6 H6 _ I6 q6) λf s7 q7=>?_);have again:∀{σ7:St} {H7:Hp},Inv X (pins++HA fp s5.heap) σ7 H7 s7->N σ7 H7->∃m,m < n/\∃i σ' H',Inv X pins σ' H' s7/\tn i s7.heap/\(∀b∈fp,H' b=none)/\W i m σ' H':=λ{σ7 H7} I7 n7=>by
   obtain ⟨m',hm,w7⟩:=hN σ7 H7 n7;refine ⟨m',hm,i + 1,σ7,H7,I7.unpinned,T.keep _ _ _ st5 λb hb o e=>(I7.pin (b,o) (ud3 _ (ud3 _ (Fj hb e)))).1,λb hb=>?_,w7⟩;obtain ⟨o,e,d⟩:=T.obj _ _ st5 b hb;exact (I7.pin (b,o) (ud3 _ (ud3 _ (Fj hb e)))).2.1
  cases f with
  | next=>obtain ⟨σ7,H7,I7,n7⟩:=q7;exact again I7 n7
  | cont=>obtain ⟨σ7,H7,I7,n7⟩:=q7;exact again I7 n7
  | brk=>obtain ⟨σ7,H7,I7,q7⟩:=q7;exact ⟨σ7,H7,I7.unpinned,q7⟩
  | ret v=>obtain ⟨x7,σ7,H7,I7,r7,q7⟩:=q7;exact ⟨x7,σ7,H7,I7.unpinned,r7,q7⟩
end
abbrev R2:=V->V->Hp->VK->Prop
def OpR (X:Cx)(f:Value->Value->Sem Value)(r:R2):Prop:=
 ∀(pins:List (Addr×Obj)) (s:Shared) (σ:St) (H:Hp) (x y:V) (v u:Value) (Q:VK),Inv X pins σ H s->RelV x v->RelV y u->r x y H Q->
  wpAny (model X.prog X.w) X.A (f v u) (EP X pins σ Q) X.xe s
def CW (X:Cx)(f:Value)(r:List V->Hp->VK->Prop):Prop:=
 ∀(pins:List (Addr×Obj)) (s:Shared) (σ:St) (H:Hp) (xs:List V) (us:List Value) (Q:VK),Inv X pins σ H s->Vals xs us->r xs H Q->
  wpAny (model X.prog X.w) X.A (call f us) (EP X pins σ Q) X.xe s
def tOp (r:R2)(ta tb:TE):TE:=λσ H Q=>ta σ H λx H1=>tb σ H1 λy H2=>r x y H2 Q
def rI (C:Int->Int->Prop)(g:Int->Int->V):R2:=λx y H Q=>∃i j,x = .int i/\y = .int j/\C i j/\Q (g i j) H
def rI0 (g:Int->Int->V):R2:=λx y H Q=>∃i j,x = .int i/\y = .int j/\Q (g i j) H
variable {r:R2}{f:Value->Value->Sem Value}
section
variable {X:Cx}{a b c:Expr}{ta tb tc:TE}{pos:Pos}
theorem RU (ha:PE X a ta)(hb:PE X b tb){pins:List (Addr×Obj)}{s:Shared}{σ:St}{H:Hp}{R:V->V->Hp->Prop}(I:Inv X pins σ H s)
 (h:ta σ H λx H1=>tb σ H1 λy H2=>R x y H2) {Q:Value->Shared->Prop} {f:Value->Value->Sem Value}
 (hf:∀v u s2 x y H2,Inv X pins σ H2 s2->RelV x v->RelV y u->R x y H2->wpAny (model X.prog X.w) X.A (f v u) Q X.xe s2) :
 wpAny (model X.prog X.w) X.A (eval a X.env) (λv s₁=>wpAny (model X.prog X.w) X.A (eval b X.env) (λu s₂=>wpAny (model X.prog X.w) X.A (f v u) Q X.xe s₂) X.xe s₁) X.xe s:=by
 refine thn (ha pins s σ H _ I h) λv s1 z9=>?_;obtain ⟨x,H1,I1,r1,q1⟩:=z9;refine thn (hb pins s1 σ H1 _ I1 q1) λu s2 z9=>?_;obtain ⟨y,H2,I2,r2,q2⟩:=z9;exact hf v u s2 x y H2 I2 r1 r2 q2
theorem Pz {op:Operator}(ho:OpR X (binaryOp op) r)(ha:PE X a ta)(hb:PE X b tb):PE X (.BinOp a op b pos) (tOp r ta tb):=by
 intro pins s σ H Q I h;exact wpAny_BinOp (RU ha hb I h λv u s2 x y H2 I2 rx ry q=>ho pins s2 σ H2 x y v u Q I2 rx ry q)
theorem opI {C:Int->Int->Prop}{g:Int->Int->Int}
 (rule:∀(i j:Int) (t u:Tok) (s:Shared) (Q:Value->Shared->Prop) (E:Value->Shared->Prop),C i j->Q (.int (g i j) s.toks) { s with toks:=s.toks + 1 }->wpAny (model X.prog X.w) X.A (f (.int i t) (.int j u)) Q E s) :
 OpR X f (rI C λi j=>.int (g i j)):=by
 intro pins s σ H x y v u Q I rx ry h;obtain ⟨i,j,rfl,rfl,hc,q⟩:=h;obtain ⟨t,rfl⟩:=rx;obtain ⟨t',rfl⟩:=ry;exact rule i j t t' s _ _ hc ⟨.int (g i j),H,I.tok _,⟨_,rfl⟩,q⟩
theorem Wt {g:Int->Int->Int}
 (rule:∀(i j:Int) (t u:Tok) (s:Shared) (Q:Value->Shared->Prop) (E:Value->Shared->Prop),Q (.int (g i j) s.toks) { s with toks:=s.toks + 1 }->wpAny (model X.prog X.w) X.A (f (.int i t) (.int j u)) Q E s) :
 OpR X f (rI0 λi j=>.int (g i j)):=by
 intro pins s σ H x y v u Q I rx ry h;obtain ⟨i,j,rfl,rfl,q⟩:=h;obtain ⟨t,rfl⟩:=rx;obtain ⟨t',rfl⟩:=ry;exact rule i j t t' s _ _ ⟨.int (g i j),H,I.tok _,⟨_,rfl⟩,q⟩
theorem Py {g:Int->Int->Bool}
 (rule:∀(i j:Int) (t u:Tok) (s:Shared) (Q:Value->Shared->Prop) (E:Value->Shared->Prop),Q (.bool (g i j)) s->wpAny (model X.prog X.w) X.A (f (.int i t) (.int j u)) Q E s) :
 OpR X f (rI0 λi j=>.bl (g i j)):=by
 intro pins s σ H x y v u Q I rx ry h;obtain ⟨i,j,rfl,rfl,q⟩:=h;obtain ⟨t,rfl⟩:=rx;obtain ⟨t',rfl⟩:=ry;exact rule i j t t' s _ _ ⟨.bl (g i j),H,I,rfl,q⟩
def VJ (i j:Int):Prop:=0 < j/\j < 1073741824
def VL (i j:Int):Prop:=0<=j/\j<=1000000/\i.natAbs < 2 ^ 64
def CMul (i j:Int):Prop:=(-(2 ^ 64) < i/\i < 2 ^ 64)\/(-(2 ^ 64) < j/\j < 2 ^ 64)
theorem CMul.ok {i j:Int}(h:CMul i j):IntMulOk i j:=by
 rcases h with ⟨h1,h2⟩ | ⟨h1,h2⟩
 ·exact .of_left (intBits_le_64 h1 h2)
 ·exact .of_right (intBits_le_64 h1 h2)
theorem two_pow_nn (k:Nat):(0:Int)<=2 ^ k:=by
 rw [two_pow_cast];exact Int.natCast_nonneg _
theorem op_add:OpR X (binaryOp .Add) (rI0 λi j=>.int (i + j)):=Wt λ_ _ _ _ _ _ _ q=>add_int q
theorem Ck:OpR X (binaryOp .Sub) (rI0 λi j=>.int (i - j)):=Wt λ_ _ _ _ _ _ _ q=>sub_int q
theorem op_mul:OpR X (binaryOp .Mult) (rI CMul λi j=>.int (i * j)):=opI λ_ _ _ _ _ _ _ hc q=>mul_int q hc.ok
theorem K8:OpR X (binaryOp .FloorDiv) (rI VJ λi j=>.int (i / j)):=opI λi j _ _ _ _ _ hc q=>by
 have h1:(0:Int) < j:=hc.1;have h2:j < 1073741824:=hc.2;exact floordiv_int (by lia) (by rw [ua7 i (by lia)];exact q) (.inl (PyProof.noPylong_small (by lia)))
theorem FT:OpR X (binaryOp .Mod) (rI (λ_ j=>0 < j) λi j=>.int (i % j)):=opI λi j _ _ _ _ _ hc q=>by
 have h1:(0:Int) < j:=hc;exact mod_int' (by lia) (by rw [Int.fmod_eq_emod_of_nonneg i (by lia)];exact q)
theorem Kn:OpR X (binaryOp .Pow) (rI VL λi j=>.int (i ^ j.toNat)):=opI λ_ _ _ _ _ _ _ hc q=>pow_int_small hc.1 hc.2.1 hc.2.2 q
theorem Ww:OpR X (binaryOp .RShift) (rI (λ_ j=>0<=j) λi j=>.int (i / 2 ^ j.toNat)):=opI λi j _ _ _ _ _ hc q=>
 rshift_int hc (by rw [ua7 i (two_pow_nn _)];exact q)
end
variable {op:CmpOp}{us:List Value}
section
variable {X:Cx}{a b c:Expr}{ta tb tc:TE}{pos:Pos}
theorem op_lt:OpR X (compareOp .Lt) (rI0 λi j=>.bl (decide (i < j))):=Py λ_ _ _ _ _ _ _ q=>lt_int q
theorem op_le:OpR X (compareOp .LtE) (rI0 λi j=>.bl (decide (i<=j))):=Py λ_ _ _ _ _ _ _ q=>le_int q
theorem op_gt:OpR X (compareOp .Gt) (rI0 λi j=>.bl (decide (j < i))):=Py λ_ _ _ _ _ _ _ q=>gt_int q
theorem op_ge:OpR X (compareOp .GtE) (rI0 λi j=>.bl (decide (j<=i))):=Py λ_ _ _ _ _ _ _ q=>ge_int q
theorem OpR.or {r':R2}(h:OpR X f r)(h':OpR X f r'):OpR X f (λx y H Q=>r x y H Q\/r' x y H Q):=by
 intro pins s σ H x y v u Q I rx ry q;rcases q with q | q
 ·exact h pins s σ H x y v u Q I rx ry q
 ·exact h' pins s σ H x y v u Q I rx ry q
theorem AN (b:Expr){op:CmpOp}(h:op≠.In:=by decide)(h2:op≠.NotIn:=by decide):behindInMarks op b=false:=by
 have e1:(op == CmpOp.In)=false:=by cases op <;> first | rfl | exact absurd rfl h
 have e2:(op == CmpOp.NotIn)=false:=by cases op <;> first | rfl | exact absurd rfl h2
 cases b <;> simp [behindInMarks,e1,e2]
theorem US (ho:OpR X (compareOp op) r)(ha:PE X a ta)(hb:PE X b tb)(hm:behindInMarks op b=false):PE X (.Compare a [op] [b] pos) (tOp r ta tb):=by
 intro pins s σ H Q I h;exact wpAny_Compare1 (RU ha hb I h λv u s2 x y H2 I2 rx ry q=>ho pins s2 σ H2 x y v u Q I2 rx ry q) hm
def X8 (t:TE):TT:=λσ H Q=>t σ H λx H'=>∃k,x = .bl k/\Q k H'
theorem U6 (ho:OpR X (compareOp op) r)(ha:PE X a ta)(hb:PE X b tb)(hm:behindInMarks op b=false):PT X (.Compare a [op] [b] pos) (X8 (tOp r ta tb)):=by
 intro pins s σ H Q I h;refine wpAny_isTrue_Compare1 (thn (ha pins s σ H _ I h) λv s1 ⟨x,H1,I1,r1,q1⟩=>thn (hb pins s1 σ H1 _ I1 q1) λu s2 ⟨y,H2,I2,r2,q2⟩=>
  thn (ho pins s2 σ H2 x y v u _ I2 r1 r2 q2) λc s3 ⟨z,H3,I3,r3,k,e,q3⟩=>?_) hm
 subst e
 cases r3
 exact wpAny_truthy_bool ⟨H3,I3,q3⟩
def Rj (r r':R2)(ta tb tc:TE):TE:=λσ H Q=>ta σ H λx H1=>tb σ H1 λy H2=>r x y H2 λz H3=>∃k,z = .bl k/\
 (if k=true then tc σ H3 λw' H4=>r' y w' H4 Q else Q (.bl false) H3)
theorem Sv {op':CmpOp}{r':R2}(ho:OpR X (compareOp op) r)(ho':OpR X (compareOp op') r')(ha:PE X a ta)(hb:PE X b tb)(hc:PE X c tc)
 (hm:lastMarks [op,op'] [b,c]=false:=by with_unfolding_all rfl):PE X (.Compare a [op,op'] [b,c] pos) (Rj r r' ta tb tc):=by
 intro pins s σ H Q I h;refine Compare_chain (thn (ha pins s σ H _ I h) λv s1 ⟨x,H1,I1,r1,q1⟩=>chain_link (thn (hb pins s1 σ H1 _ I1 q1) λu s2 ⟨y,H2,I2,r2,q2⟩=>
  thn (ho pins s2 σ H2 x y v u _ I2 r1 r2 q2) λd s3 ⟨z,H3,I3,r3,k,e,q3⟩=>?_)) hm
 subst e
 cases r3
 refine wpAny_truthy_bool ?_
 cases k with
 | false=>exact ite_ff ⟨.bl false,H3,I3,rfl,q3⟩
 | true=>exact ite_tt (chain_last (thn (hc pins s3 σ H3 _ I3 q3) λw' s4 z9=>by obtain ⟨z',H4,I4,r4,q4⟩:=z9;exact ho' pins s4 σ H4 y z' u w' Q I4 r2 r4 q4))
theorem Ka:(sizeLine:Nat) < 2 ^ 63:=by rw [sizeLine_eq];decide
theorem op_add_str:OpR X (binaryOp .Add) (λx y H Q=>∃i j,x = .str i/\y = .str j/\i.length + j.length<=sizeLine/\Q (.str (i++j)) H):=by
 intro pins s σ H x y v u Q I rx ry h;obtain ⟨i,j,rfl,rfl,hz,q⟩:=h;obtain ⟨t,rfl⟩:=rx;obtain ⟨t',rfl⟩:=ry;exact add_str (λt' tk=>⟨.str (i++j),H,I.tok _,⟨_,rfl⟩,q⟩) hz
theorem Fl {x:V}(r:Vals [x] us):∃u,us=[u]/\RelV x u:=by
 cases r with
 | cons r1 r2=>cases r2;exact ⟨_,rfl,r1⟩
theorem Ky {x y:V}(r:Vals [x,y] us):∃u w',us=[u,w']/\RelV x u/\RelV y w':=by
 cases r with
 | cons r1 r2=>
   cases r2 with
   | cons r3 r4=>cases r4;exact ⟨_,_,rfl,r1,r3⟩
theorem Qe (hc:X.calm=true):CW X (.builtin "max") (λxs H Q=>∃i j,xs=[.int i,.int j]/\Q (.int (if j > i then j else i)) H):=by
 intro pins s σ H xs us Q I r h;obtain ⟨i,j,rfl,q⟩:=h;obtain ⟨u,w',rfl,⟨t,rfl⟩,⟨t',rfl⟩⟩:=Ky r;refine max_two_ints (I.ok.hd hc) λh' tk k=>⟨_,H,I.kept k,?_,q⟩
 by_cases hj:j > i
 ·rw [if_pos hj,if_pos hj];exact ⟨_,rfl⟩
 ·rw [if_neg hj,if_neg hj];exact ⟨_,rfl⟩
theorem F3 (hc:X.calm=true):CW X (.builtin "min") (λxs H Q=>∃i j,xs=[.int i,.int j]/\Q (.int (if j < i then j else i)) H):=by
 intro pins s σ H xs us Q I r h;obtain ⟨i,j,rfl,q⟩:=h;obtain ⟨u,w',rfl,⟨t,rfl⟩,⟨t',rfl⟩⟩:=Ky r;refine min_two_ints (I.ok.hd hc) λh' tk k=>⟨_,H,I.kept k,?_,q⟩
 by_cases hj:j < i
 ·rw [if_pos hj,if_pos hj];exact ⟨_,rfl⟩
 ·rw [if_neg hj,if_neg hj];exact ⟨_,rfl⟩
theorem Qc:CW X (.type "int") (λxs H Q=>(∃i,xs=[.int i]/\Q (.int i) H)\/∃k,xs=[.bl k]/\Q (.int (if k then 1 else 0)) H):=by
 intro pins s σ H xs us Q I r h;rcases h with ⟨i,rfl,q⟩ | ⟨k,rfl,q⟩
 ·obtain ⟨u,rfl,t,rfl⟩:=Fl r;exact call_int_int ⟨.int i,H,I,⟨_,rfl⟩,q⟩
 ·obtain ⟨u,rfl,r1⟩:=Fl r
  cases r1
  exact call_int_bool ⟨.int (if k then 1 else 0),H,I.tok _,⟨_,rfl⟩,q⟩
theorem MQ:CW X (.builtin "ord") (λxs H Q=>∃x,xs=[.str x]/\x.length=1/\Q (.int (x.cps.getD 0 0:Nat)) H):=by
 intro pins s σ H xs us Q I r h;obtain ⟨x,rfl,hz,q⟩:=h;obtain ⟨u,rfl,t,rfl⟩:=Fl r;exact ord_of_one hz ⟨.int _,H,I.tok _,⟨_,rfl⟩,q⟩
def VN (K:PySem.W.Frag)(x:V)(H:Hp)(n:Nat):Prop:=
 match x with
 | .str y=>y.length<=sizeLine/\n=y.length
 | .byt y=>y.size<=sizeLine/\n=y.size
 | .ref p=>(∃xs,SqL K H p xs/\n=xs.length)\/∃xs,SqT K H p xs/\n=xs.length
 | _=>False
theorem BJ:CW X (.builtin "len") (λxs H Q=>∃x n,xs=[x]/\VN X.K x H n/\Q (.int n) H):=by
 intro pins s σ H xs us Q I r h;obtain ⟨x,n,rfl,e,q⟩:=h;obtain ⟨u,rfl,rx⟩:=Fl r;have hl:=Ka;have hs:sizeLine=16777216:=sizeLine_eq
 cases x with
 | str y=>
   obtain ⟨t,rfl⟩:=rx;obtain ⟨hy,e'⟩:y.length<=sizeLine/\n=y.length:=e;subst e';exact len_str (by lia) ⟨.int _,H,I.tok _,⟨_,rfl⟩,q⟩
 | byt y=>
   obtain ⟨t,rfl⟩:=rx;obtain ⟨hy,e'⟩:y.size<=sizeLine/\n=y.size:=e;subst e';exact PySem.W.len_bytes (by lia) ⟨.int _,H,I.tok _,⟨_,rfl⟩,q⟩
 | ref p=>
   cases rx
   have e':(∃xs,SqL X.K H p xs/\n=xs.length)\/∃xs,SqT X.K H p xs/\n=xs.length:=e;rcases e' with ⟨xs,hx,e'⟩ | ⟨xs,hx,e'⟩
   ·subst e';obtain ⟨its,r',pl,hz⟩:=I.list hx;have hlen:=r'.length;exact Calls.call_len_list pl.isList (by simp only [ug3];lia) ⟨.int xs.length,H,I.tok _,⟨_,by simp only [ug3];rw [hlen]⟩,q⟩
   ·subst e';obtain ⟨its,r',pl,hz⟩:=I.tuple hx;have hlen:=r'.length;exact len_tuple pl (by simp only [ug3];lia) ⟨.int xs.length,H,I.tok _,⟨_,by simp only [ug3];rw [hlen]⟩,q⟩
 | _=>exact (show False from e).elim
end
structure ObjM (h:Heap)(x dx C:Addr)(mA:Str->Option Value):Prop where
 obj:h.get? x=some (PySem.W.instObj C dx)
 ns:h.Ns1 dx mA
 ne:dx≠x
theorem Hx {dx:Addr}{mA:Str->Option Value}(n:h.Ns1 dx mA):∃od,h.get? dx=some od/\∀name,PySem.W.lookIn name od=some (mA name):=by
 obtain ⟨o,es,ep,ho,hd,hk,_,hm⟩:=n;refine ⟨o,ho,λname=>?_⟩;have e:=hm name;unfold nsFind findBy at e;rw [<-uf5] at e;unfold PySem.W.lookIn;rw [hd];dsimp only
 split
 ·rename_i y q;rw [q] at e;exact congrArg some e
 ·rename_i q;rw [q] at e;have a:es.toList.any (·.refKey)=false:=by
   rw [List.any_eq_false];intro y hy;obtain ⟨z,t,hkey⟩:=hk y (Array.mem_toList_iff.mp hy);simp [DictEntry.refKey,hkey]
  have a':¬es.toList.any (·.refKey)=true:=by rw [a];exact uf4
  rw [if_neg a'];exact congrArg some e
variable {C:Addr}
theorem ObjM.look {x dx:Addr}{mA:Str->Option Value}(I:ObjM h x dx C mA):∃od,PySem.W.InstAt h x (PySem.W.instObj C dx) C (some od)/\∀name,PySem.W.lookIn name od=some (mA name):=
 let ⟨od,ho,hl⟩:=Hx I.ns
 ⟨od,⟨I.obj,rfl,rfl,ho⟩,hl⟩
section
variable {prog:Program}{w:World}{A:Around}{E:Value->Shared->Prop}{s:Shared}{K:PySem.W.Frag}{x dx C f:Addr}{mA:Str->Option Value}{name:Str}{v:Value}
end
theorem RelO.some_of {o:Option Value}(r:RelO (some v) o):∃u,o=some u/\RelV v u:=by
 cases o with
 | none=>exact (show False from r).elim
 | some u=>exact ⟨u,rfl,r⟩
theorem Qy (r:RelV v u):PySem.W.handedIn u=true:=by
 cases v with
 | non=>cases (show u=Value.none from r);rfl
 | bl b=>cases (show u=Value.bool b from r);rfl
 | int i=>obtain ⟨t,e⟩:=(show ∃t,u=Value.int i t from r);cases e;rfl
 | str x=>obtain ⟨t,e⟩:=(show ∃t,u=Value.str x t from r);cases e;rfl
 | byt b=>obtain ⟨t,e⟩:=(show ∃t,u=Value.bytes b t from r);cases e;rfl
 | flt b=>obtain ⟨t,e⟩:=(show ∃t,u=Value.float b t from r);cases e;rfl
 | ref a=>cases (show u=Value.ref a from r);rfl
 | ty n=>cases (show u=Value.type n from r);rfl
section
variable {P:Program}{w:World}{H H':Hp}{h h':Heap}{a C dx:Addr}{fs fs':List (Str×V)}
theorem Uo (hok:HOk P w H h)(e:H a=some (.ins C dx fs)):∃mA,ObjM h a dx C mA/\(∀f,RelO (fs.lookup f) (mA f))/\PySem.Within mA (fs.map (·.1))/\fs.length<=1000/\H dx=some (.own a):=by
 obtain ⟨d,z,ne,ob,mA,n,r,q⟩:=(show ObjOk P w H h a (.ins C dx fs) from hok a _ e);exact ⟨mA,⟨ob,n,ne⟩,r,q,z,d⟩
end
structure Cls (K:PySem.W.Frag)(C:Addr):Prop where
 pg:PySem.W.plainGet K C Str.empty=true
 hd:PySem.W.hasDictIn K C=true
 po:PySem.W.plainOver K C=true
 sa:PySem.W.findIn K (.ref C) "__setattr__" = some (some (.builtin "object.__setattr__"))
theorem Cls.get {K:PySem.W.Frag}{C:Addr}(c:Cls K C)(f:Str):PySem.W.plainGet K C f=true:=c.pg
structure Con (K:PySem.W.Frag)(C:Addr)(f:Str)(v:V)(u:Value):Prop where
 at_:PySem.W.findIn K (.ref C) f=some (some u)
 rel:RelV v u
 get:PySem.W.specialIn K u "__get__" = some none
 cp:PySem.W.copiedNames.contains f=false
structure Meth (K:PySem.W.Frag)(C:Addr)(m:Str)(f:Addr):Prop where
 at_:PySem.W.findIn K (.ref C) m=some (some (.ref f))
 fn:PySem.W.isFn K (.ref f)=true
 kp:PySem.W.keepIn K (.ref f)=true
section
variable {X:Cx}{pins:List (Addr×Obj)}{σ:St}{H:Hp}{s:Shared}{a C dx:Addr}{fs:List (Str×V)}{f:Str}{v:V}{A:Around}{E:Value->Shared->Prop}
theorem T5 {prog:Program}{env:Env}{f:Str}{pos:Pos}{s:Shared}{Q:Value->Shared->Prop}(hb:attributeBase e f env (eval e env)=eval e env)
 (h:wpAny (model prog w) A (eval e env) (λo s₁=>wpAny (model prog w) A (getAttr o f true) Q E s₁) E s):wpAny (model prog w) A (eval (.Attribute e f pos) env) Q E s:=
 Attribute_any_ h (by rw [arm_eval_Attribute,hb])
end
section
variable {X:Cx}{o e value:Expr}{f:Str}{pos pos' tpos:Pos}{ta tv:TE}
end
section
variable {X:Cx}{pins:List (Addr×Obj)}{σ:St}{H:Hp}{s:Shared}{A:Around}{E:Value->Shared->Prop}{Q:Value->Shared->Prop}{c:Value}{b:Bool}
inductive TyOf (K:PySem.W.Frag)(H:Hp):V->Value->Prop where
 | non:TyOf K H .non (.type "NoneType")
 | bl (x:Bool):TyOf K H (.bl x) (.type "bool")
 | int (i:Int):TyOf K H (.int i) (.type "int")
 | str (x:Str):TyOf K H (.str x) (.type "str")
 | flt (x:UInt64):TyOf K H (.flt x) (.type "float")
 | lst {a:Addr} {xs:List V} (e:H a=some (.lst xs)):TyOf K H (.ref a) (.type "list")
 | frz {a:Addr} {o:Obj} {xs:List V} (e:H a=some (.frz o (.lst xs))):TyOf K H (.ref a) (.type "list")
 | tup {a:Addr} {xs:List V} (e:H a=some (.tup xs)):TyOf K H (.ref a) (.type "tuple")
 | dK {a:Addr} {kvs:List (Key×V)} (e:H a=some (.dK kvs)):TyOf K H (.ref a) (.type "dict")
 | dT {a:Addr} {kvs:List (List Key×V)} (e:H a=some (.dT kvs)):TyOf K H (.ref a) (.type "dict")
 | ins {a C dx:Addr} {fs:List (Str×V)} (e:H a=some (.ins C dx fs)) (cl:Cls K C) (ha:PySem.W.findIn K (.ref C) "__class__" = some (some (.builtin "object.__class__")))
    (hn:PySem.W.specialIn K (.builtin "object.__class__") "__get__" = some (some (.builtin "getset_descriptor.__get__"))) (htk:PySem.W.takesIn K (.builtin "object.__class__")=some true)
    (hm:PySem.W.mroIn K C (.type "object")=some true):TyOf K H (.ref a) (.ref C)
theorem QG {x:V}{t:Value}(I:Inv X pins σ H s)(rx:RelV x u)(ty:TyOf X.K H x t)(e:PySem.W.kitOne X.K t c=some b)(h:∀tk,Q (.bool b) { s with toks:=tk }) :
 wpAny (model X.prog X.w) A (call (.builtin "isinstance") [u,c]) Q E s:=by
 cases ty with
 | non=>cases (show u=Value.none from rx);exact uj1 PySem.W.kitx_none I.kIn True.intro e (λz=>nomatch z) h
 | bl y=>cases (show u=Value.bool y from rx);exact uj1 PySem.W.kitx_bool I.kIn True.intro e (λz=>nomatch z) h
 | int i=>obtain ⟨t,q⟩:=(show ∃t,u=Value.int i t from rx);cases q;exact uj1 PySem.W.kitx_int I.kIn True.intro e (λz=>nomatch z) h
 | str y=>obtain ⟨t,q⟩:=(show ∃t,u=Value.str y t from rx);cases q;exact uj1 PySem.W.kitx_str I.kIn True.intro e (λz=>nomatch z) h
 | flt y=>obtain ⟨t,q⟩:=(show ∃t,u=Value.float y t from rx);cases q;exact uj1 PySem.W.kitx_float I.kIn True.intro e (λz=>nomatch z) h
 | @lst a xs ea=>
   cases (show u=Value.ref a from rx)
   obtain ⟨_,_,n,_,h1⟩:=(show ObjOk X.prog X.w H s.heap a (.lst xs) from I.hok a _ ea);exact uj1 ug4 I.kIn ⟨_,h1,rfl⟩ e (λz=>nomatch z) h
 | @frz a ob xs ea=>
   cases (show u=Value.ref a from rx)
   obtain ⟨_,_,_,n,_,h1⟩:=(show ObjOk X.prog X.w H s.heap a (.frz ob (.lst xs)) from I.hok a _ ea);exact uj1 ug4 I.kIn ⟨_,h1,rfl⟩ e (λz=>nomatch z) h
 | @tup a xs ea=>
   cases (show u=Value.ref a from rx)
   obtain ⟨_,_,_,p⟩:=(show ObjOk X.prog X.w H s.heap a (.tup xs) from I.hok a _ ea);obtain ⟨o,h1,h2,_⟩:=p;exact uj1 PySem.W.kitx_tuple I.kIn ⟨o,h1,h2⟩ e (λz=>nomatch z) h
 | @dK a kvs ea=>
   cases (show u=Value.ref a from rx)
   obtain ⟨_,_,vs,_,p⟩:=(show ObjOk X.prog X.w H s.heap a (.dK kvs) from I.hok a _ ea);obtain ⟨o,es,ep,h1,h2,_⟩:=p;exact uj1 ug5 I.kIn ⟨o,h1,h2.1⟩ e (λz=>nomatch z) h
 | @dT a kvs ea=>
   cases (show u=Value.ref a from rx)
   obtain ⟨_,_,xs,_,o,es,ep,h1,h2,_⟩:=(show ObjOk X.prog X.w H s.heap a (.dT kvs) from I.hok a _ ea);exact uj1 ug5 I.kIn ⟨o,h1,h2.1⟩ e (λz=>nomatch z) h
 | @ins a C dx fs ea cl ha hn htk hm=>
   cases (show u=Value.ref a from rx)
   obtain ⟨mA,O,_⟩:=Uo I.hok ea;obtain ⟨od,J,_⟩:=O.look;exact uj1 (PySem.W.kitx_own (cl.get _) cl.hd ha hn htk hm) I.kIn J e (λz=>nomatch z) h
end
structure Room (k:Nat)(A:Around):Prop where
 hd:A.handled=none
 dp:A.depth + 3 * k + 5 < recursionLimit
 un:A.units + 16 * k + 200 < cLine
theorem Room.mono {j k:Nat}{A:Around}(r:Room k A)(h:j<=k):Room j A:=⟨r.hd,by have:=r.dp;lia,by have:=r.un;lia⟩
theorem Room.deeper {k:Nat}{A:Around}(r:Room (k + 1) A)(env:Env):Room k (A.deeper env):=
 ⟨r.hd,by have:=r.dp;show A.depth + 1 + 3 * k + 5 < _;lia,by have:=r.un;show A.units + 3 + 16 * k + 200 < _;lia⟩
theorem Pt {A:Around}{kw:List (Str×Value)}:(A.under (.builtin "type.__call__" ⟨.ref C :: us,kw⟩)).depth=A.depth + 1:=by
 first | rfl | simp [Around.under,Code.weight,Code.isCreation,Code.isGuard,Code.isCaller,Code.frames,Code.isFrame,guardIds]
theorem Pu {A:Around}{kw:List (Str×Value)}:(A.under (.builtin "type.__call__" ⟨.ref C :: us,kw⟩)).units=A.units + 1:=by
 first | rfl | simp [Around.under,Code.cUnits,Code.frames,Code.isFrame]
theorem Room.make {k:Nat}{A:Around}(r:Room (k + 1) A)(C:Addr)(us:List Value)(kw:List (Str×Value)):Room k (A.under (.builtin "type.__call__" ⟨.ref C :: us,kw⟩)):=
 ⟨r.hd,by have:=r.dp;rw [Pt];lia,by have:=r.un;rw [Pu];lia⟩
theorem Room.depth {k:Nat}{A:Around}(r:Room k A):A.depth < recursionLimit:=by have:=r.dp;lia
theorem Room.units {k:Nat}{A:Around}(r:Room k A):A.units + 64 < cLine:=by have:=r.un;lia
def Zp:TA:=λ_ H Q=>Q [] H
def X3 (ta:TE)(tr:TA):TA:=λσ H Q=>ta σ H λx H1=>tr σ H1 λxs H2=>Q (x :: xs) H2
section
variable {X:Cx}{e:Expr}{es:List Expr}{te:TE}{t:TA}{pos:Pos}
theorem Wx:PA X [] Zp:=λ_ _ _ _ H Q I h=>Calls.spliced_nil ⟨[],H,I,.nil,h⟩
theorem UP (ha:PE X e te)(hr:PA X es t)(hs:starEach (e :: es) X.env=(false,eval e X.env) :: starEach es X.env:=by rfl):PA X (e :: es) (X3 te t):=by
 intro pos pins s σ H Q I h;rw [hs];show wpAny _ _ (spliced ((false,eval e X.env) :: backTo pos (starEach es X.env))) _ _ s;refine Calls.spliced_cons (thn (ha pins s σ H _ I h) λu s1 z9=>?_);obtain ⟨x,H1,I1,r1,q1⟩:=z9;exact thn (hr pos pins s1 σ H1 _ I1 q1) λus s2 ⟨xs,H2,I2,r2,q2⟩=>⟨x :: xs,H2,I2,.cons r1 r2,q2⟩
def Zt (t:TA):TE:=λσ H Q=>t σ H λxs H1=>xs.length<=sizeLine/\∀p,H1 p=none->Q (.ref p) (upd H1 p (.tup xs))
def Zo (t:TA):TE:=λσ H Q=>t σ H λxs H1=>xs.length<=sizeLine/\∀p,H1 p=none->Q (.ref p) (upd H1 p (.lst xs))
theorem WF {x1}(h:PA X es t):PE X (.Tuple es x1 pos) (Zt t):=by
 intro pins s σ H Q I hq;refine wpAny_Tuple_spliced (thn (h pos pins s σ H _ I hq) λus s1 z9=>?_);obtain ⟨xs,H1,I1,r,z,q⟩:=z9;refine ⟨by rw [<-r.length];exact z,?_⟩;have hf:H1 s1.heap.objs.size=none:=I1.hok.fresh (un6 _);refine ⟨.ref s1.heap.objs.size,upd H1 s1.heap.objs.size (.tup xs),I1.laid (t':=s1.toks) (λb u e=>uc5 _ e) (un6 _) ?_,rfl,q _ hf⟩;exact ⟨z,us,r,⟨_,ue6 _ rfl,rfl,_,rfl⟩⟩
theorem WB (h:PA X es t):PE X (.List es pos) (Zo t):=by
 intro pins s σ H Q I hq;refine wpAny_List_spliced (thn (h pos pins s σ H _ I hq) λus s1 z9=>?_);obtain ⟨xs,H1,I1,r,z,q⟩:=z9;refine ⟨by rw [<-r.length];exact z,?_⟩;have hf:H1 s1.heap.objs.size=none:=I1.hok.fresh (un6 _);refine ⟨.ref s1.heap.objs.size,upd H1 s1.heap.objs.size (.lst xs),I1.laid (t':=s1.toks) (λb u e=>uc5 _ e) (un6 _) ?_,rfl,q _ hf⟩;exact ⟨z,us,0,r,ue6 _ rfl⟩
end
abbrev Sp:=List V->Hp->VK->XK->Prop
abbrev CXT:=List Env->Hp->Shared->XK->Value->Shared->Prop
structure Env0 (P:Program)(w:World)(K:PySem.W.Frag)(mg:Str->Option Value)(base:Heap)(A:Around)(outer:List Env)(s:Shared)(H:Hp):Prop where
 frames:A.frames=some outer
 mod:Mod K mg base
 bs:∀b o,base.get? b=some o->s.heap.get? b=some o/\H b=none
 bsz:base.objs.size<=s.heap.objs.size
 funs:s.heap.FunFrames base outer
 frf:∀b∈frs outer,H b=none
 hok:HOk P w H s.heap
 bare:AllBare s.gens
def CE (outer:List Env)(P:Program)(w:World)(H:Hp)(s:Shared)(Q:VK)(u:Value)(s':Shared):Prop:=
 ∃v H',s'.os=s.os/\AllBare s'.gens/\Un (frs outer) [] H H' s.heap s'.heap/\HOk P w H' s'.heap/\RelV v u/\Q v H'
def CR (CX:CXT)(outer:List Env)(P:Program)(w:World)(H:Hp)(s:Shared)(Q:VK)(E:XK)(r:Result)(s':Shared):Prop:=
 match r with
 | .ok (.ret u)=>CE outer P w H s Q u s'
 | .ok _=>False
 | .error e=>CX outer H s E e s'
structure FnOk (P:Program)(w:World)(K:PySem.W.Frag)(mg:Str->Option Value)(base:Heap)(CX:CXT)(k:Nat)(f:Addr)(fd:FuncData)(ps:List Str)(sp:Sp):Prop where
 len:∀vs H Q E,sp vs H Q E->vs.length=ps.length
 run:∀(A:Around) (outer:List Env) (s:Shared) (H:Hp) (args:Args) (us:List Value) (vs:List V) (Q:VK) (E:XK),Room k A->Env0 P w K mg base A outer s H->BindsTo s fd args (ps.zip us)->Vals vs us->sp vs H Q E->
  codeAny (model P w) A (.call (.ref f) args) (CR CX outer P w H s Q E) s
variable {mg:Str->Option Value}{base:Heap}
theorem Env0.make {A:Around}{outer:List Env}(e:Env0 P w K mg base A outer s H)(C:Addr)(us:List Value)(kw:List (Str×Value)) :
 Env0 P w K mg base (A.under (.builtin "type.__call__" ⟨.ref C :: us,kw⟩)) outer s H:=⟨by first | exact e.frames | (simpa [Around.under,Code.envs,Code.isFrame,pushEnvs] using e.frames),e.mod,e.bs,e.bsz,e.funs,e.frf,e.hok,e.bare⟩
section
variable {X:Cx}{pins:List (Addr×Obj)}{σ:St}{H:Hp}{s s':Shared}
theorem Inv.env0 (I:Inv X pins σ H s):Env0 X.prog X.w X.K X.mg X.base X.A X.stack s H:=
 ⟨I.ok.frames,I.ok.mod,I.bs,um5 I.ok.bsz I.sz,I.stack,I.stkFree,I.hok,I.bare⟩
theorem Inv.after {Q:VK}(I:Inv X pins σ H s)(h:CE X.stack X.prog X.w H s Q u s'):EP X pins σ Q u s':=by
 obtain ⟨v,H',os,bare,un,hok,r,q⟩:=h;obtain ⟨hh,g,d,t,os'⟩:=s';obtain rfl:os'=s.os:=os;exact ⟨v,H',I.call (h':=hh) (g':=g) (d':=d) (t':=t) (ch:=[]) un hok bare (λb z=>absurd z (by simp)),r,q⟩
end
def X2 (sp:Sp)(dvs:List V)(E:XK)(t:TA):TE:=λσ H Q=>t σ H λvs H1=>sp (vs++dvs) H1 Q E
def Binds (K:PySem.W.Frag)(fd:FuncData)(ps:List Str)(ds:List Value):Prop:=
 ∀(s:Shared) (us:List Value),K.In s.heap->(us++ds).length=ps.length->BindsTo s fd ⟨us,[]⟩ (ps.zip (us++ds))
theorem Binds.all {fd:FuncData}{ps:List Str}(h:∀us:List Value,us.length=ps.length->bindArgs fd ⟨us,[]⟩=pure (ps.zip us)):Binds K fd ps []:=λs us _ hl=>by
 rw [uj2] at hl ⊢;exact .of_eq (h us hl)
def MA (CX:CXT)(X:Cx)(E:XK):Prop:=∀(pins:List (Addr×Obj)) (σ:St) (H:Hp) (s:Shared) (e:Value) (s':Shared),Inv X pins σ H s->CX X.stack H s E e s'->X.xe e s'
section
variable {X:Cx}{CX:CXT}{k:Nat}{f C:Addr}{fd:FuncData}{ps:List Str}{sp:Sp}{dvs:List V}{ds:List Value}{E:XK}{x m:Str}{p pos apos:Pos}{e o:Expr}{es:List Expr}{ta:TE}{t:TA}
theorem W5 {Q:VK}{vs:List V}(F:FnOk X.prog X.w X.K X.mg X.base CX k f fd ps sp)(hr:Room k X.A)(hb:Binds X.K fd ps ds)(hd:Vals dvs ds)(hx:MA CX X E)
 (I:Inv X pins σ H s) (r:Vals vs us) (h:sp (vs++dvs) H Q E):wpAny (model X.prog X.w) X.A (call (.ref f) us) (EP X pins σ Q) X.xe s:=by
 have r2:Vals (vs++dvs) (us++ds):=r.append hd;have hl:(us++ds).length=ps.length:=by rw [<-r2.length];exact F.len _ _ _ _ h
 refine wpAny_call (codeAny_mono (F.run X.A X.stack s H ⟨us,[]⟩ (us++ds) (vs++dvs) Q E hr I.env0 (hb s us I.kIn hl) r2 h) λr s' hq=>?_)
 cases r with
 | error e=>exact hx pins σ H s e s' I hq
 | ok fl=>
   cases fl with
   | ret u=>exact I.after hq
   | next=>exact False.elim hq
   | brk=>exact False.elim hq
   | cont=>exact False.elim hq
theorem ON (F:FnOk X.prog X.w X.K X.mg X.base CX k f fd ps sp)(hr:Room k X.A)(hg:Gl X x)(hm:X.mg x=some (.ref f))(hk:PySem.W.keepIn X.K (.ref f)=true)(hb:Binds X.K fd ps ds)(hd:Vals dvs ds)(hx:MA CX X E)
 (ha:PA X (e :: es) t) (hdb:(x == ("__debug__" : Str))=false:=by decide) (he:starEach (e :: es) X.env=(false,eval e X.env) :: starEach es X.env:=by rfl) (hpl:(backTo pos (starEach es X.env)).any (·.1)=false:=by rfl) :
 PE X (.Call (.Name x p) (e :: es) [] pos) (X2 sp dvs E t):=by
 intro pins s σ H Q I h;refine wpAny_Call_Name_kw (El I hg hm ?_ hdb);refine uf6 (h₀:=X.base) I.ok.mod.kin hk (thn (ha pos pins s σ H _ I h) λus s1 z9=>?_) he hpl;obtain ⟨vs,H1,I1,r,q⟩:=z9;refine ⟨I1.kIn,?_⟩;exact W5 F hr hb hd hx I1 r q
structure Mk (K:PySem.W.Frag)(C f:Addr):Prop where
 makes:PySem.W.makesIn K C=true
 init:PySem.W.findIn K (.ref C) "__init__" = some (some (.ref f))
 fn:PySem.W.isFn K (.ref f)=true
 kp:PySem.W.keepIn K (.ref C)=true
end
section
variable {X:Cx}{CX:CXT}{k:Nat}{f C:Addr}{fd:FuncData}{ps ks:List Str}{sp:Sp}{E:XK}{x m:Str}{p pos apos kpos:Pos}{e o:Expr}{es:List Expr}{kws:List Keyword}{te ta:TE}{t tk:TA}{nm:Option Str}
structure KBinds (K:PySem.W.Frag)(fd:FuncData)(ps ks:List Str)(g:List Value->List Value->List Value)(gV:List V->List V->List V):Prop where
 to:∀(s:Shared) (us ws:List Value),K.In s.heap->(g us ws).length=ps.length->BindsTo s fd ⟨us,ks.zip ws⟩ (ps.zip (g us ws))
 rel:∀{vs:List V} {us:List Value} {zs:List V} {ws:List Value},Vals vs us->Vals zs ws->Vals (gV vs zs) (g us ws)
variable {g:List Value->List Value->List Value}{gV:List V->List V->List V}
end
structure FnScope (N P:List Str)(sc:Scope):Prop where
 kind:sc.kind = .function
 co:sc.isCoroutine=false
 gen:sc.isGenerator=false
 nd:N.Nodup
 pre:N.take P.length=P
 par:∀x∈P,sc.names.lookup x=some .local\/sc.names.lookup x=some .cell
 nofree:∀y∈sc.names,y.2≠.free
theorem Lv {kindOf:Str->Option NameKind}{x:Str}:∀{binds:List (Str×Value)} {m:Str->Option Value},(∀v,(x,v)∉binds)->bindL kindOf binds m x=m x
 | [],_,_=>rfl
 | (n,v) :: r,m,h=>by
   unfold bindL;rw [Lv λw hw=>h w (ud9 _ hw)]
   split
   ·have:x≠n:=by rintro rfl;exact h v uf3
    simp [this]
   ·rfl
theorem Ls {kindOf:Str->Option NameKind}{x:Str}:∀{binds:List (Str×Value)} {m:Str->Option Value},(∀v,(x,v)∉binds)->bindC kindOf binds m x=m x
 | [],_,_=>rfl
 | (n,v) :: r,m,h=>by
   unfold bindC;rw [Ls λw hw=>h w (ud9 _ hw)]
   split
   ·rfl
   ·have:x≠n:=by rintro rfl;exact h v uf3
    simp [this]
theorem Lu {kindOf:Str->Option NameKind}{x:Str}{v:Value}:∀{P:List Str} {vs:List Value} {i:Nat} {m:Str->Option Value},P.Nodup->P[i]?=some x->vs[i]?=some v->kindOf x=some .local->
 bindL kindOf (P.zip vs) m x=some v
 | [],_,_,_,_,h,_,_=>by simp at h
 | _ :: _,[],_,_,_,_,h,_=>by simp at h
 | p :: P,w :: vs,0,m,nd,h1,h2,hk=>by
   simp at h1 h2;subst h1;subst h2;show bindL kindOf ((p,w) :: P.zip vs) m p=_;unfold bindL;rw [Lv λv hv=>(uj3.mp nd).1 (uj4 hv).1,if_pos hk];simp
 | p :: P,w :: vs,i + 1,m,nd,h1,h2,hk=>by
   show bindL kindOf ((p,w) :: P.zip vs) m x=_;unfold bindL;exact Lu (i:=i) (uj3.mp nd).2 (by simpa using h1) (by simpa using h2) hk
theorem Lr {kindOf:Str->Option NameKind}{x:Str}{v:Value}:∀{P:List Str} {vs:List Value} {i:Nat} {m:Str->Option Value},P.Nodup->P[i]?=some x->vs[i]?=some v->kindOf x≠some .local->
 bindC kindOf (P.zip vs) m x=some v
 | [],_,_,_,_,h,_,_=>by simp at h
 | _ :: _,[],_,_,_,_,h,_=>by simp at h
 | p :: P,w :: vs,0,m,nd,h1,h2,hk=>by
   simp at h1 h2;subst h1;subst h2;show bindC kindOf ((p,w) :: P.zip vs) m p=_;unfold bindC;rw [Ls λv hv=>(uj3.mp nd).1 (uj4 hv).1,if_neg hk];simp
 | p :: P,w :: vs,i + 1,m,nd,h1,h2,hk=>by
   show bindC kindOf ((p,w) :: P.zip vs) m x=_;unfold bindC;exact Lr (i:=i) (uj3.mp nd).2 (by simpa using h1) (by simpa using h2) hk
noncomputable def Da (N:List Str)(vs:List V):St:=vs.map some++List.replicate (N.length - vs.length) none
noncomputable def DM (CX:CXT)(P:Program)(w:World)(K:PySem.W.Frag)(mg:Str->Option Value)(base:Heap)(N:List Str)(qual:Str)(scope:Scope)(f:Addr)(cd:Value)(A:Around)(outer:List Env)(s:Shared)(H:Hp)(E:XK):Cx where
 prog:=P
 w:=w
 K:=K
 mg:=mg
 base:=base
 A:=A.deeper (envOfC qual scope s.heap.objs.size f cd)
 N:=N
 s₀:=s
 H₀:=H
 env:=envOfC qual scope s.heap.objs.size f cd
 outer:=outer
 stack:=envOfC qual scope s.heap.objs.size f cd :: outer
 ex:=[]
 calm:=true
 fn:=λ_=>true
 pn:=[]
 xe:=λe s'=>wpAny (model P w) (A.deeper (envOfC qual scope s.heap.objs.size f cd)) (leaving (envOfC qual scope s.heap.objs.size f cd) e) (λ_ s''=>CX outer H s E e s'') (λe' s''=>CX outer H s E e' s'') s'
theorem MS {sc:Scope}{n:Nat}(h:sc.names.lookup x=some .cell):∃c,(cellsFrom n sc.names []).lookup x=some c:=by
 have q:=uc6 sc.names n [] (.inl h);exact Option.isSome_iff_exists.mp q
theorem LC {CX:CXT}{N ps:List Str}{qual:Str}{scope:Scope}{f:Addr}{cd:Value}{A:Around}{outer:List Env}{s1:Shared}{E:XK}{vs:List V}
 (S:FnScope N ps scope) (hd:A.handled=none) (e0:Env0 P w K mg base A outer s H) (hl:vs.length=ps.length) (r:Vals vs us)
 (x:InCallC s s.heap.objs.size (bindL (envOfC qual scope s.heap.objs.size f cd).kindOf (ps.zip us) λ_=>none) (cellsFrom (s.heap.objs.size + 1) scope.names []) (bindC (envOfC qual scope s.heap.objs.size f cd).kindOf (ps.zip us) λ_=>none) s1) :
 Inv (DM CX P w K mg base N qual scope f cd A outer s H E) [] (Da N vs) H s1:=by
 have hpl:ps.length<=N.length:=by have:=congrArg List.length S.pre;rw [uh6] at this;lia
 obtain ⟨h1,tk,rfl,hk⟩:=x.done;have noA:∀b:Addr,b∉(DM CX P w K mg base N qual scope f cd A outer s H E).ex:=λb z=>absurd (show b∈([]:List Addr) from z) (by simp);refine ⟨⟨e0.mod,S.kind,rfl,rfl,un6 _,λy z c h1 h2=>?_,λy hy=>?_,λy c _ h=>?_,λ_=>hd,Around.frames_deeper e0.frames,.inr ⟨rfl,rfl⟩,λb z=>absurd z (noA b),e0.bs,e0.bsz,λb _ _=>noA b,λb z=>absurd z (noA b),e0.funs,e0.frf⟩,
  rfl,e0.bare,Un.kept hk,⟨_,x.toInCall.ns,λi y v h1 h2 h3=>?_⟩,λy c h=>⟨_,x.cell y c h⟩,e0.hok.fresh (un6 _),λy c h=>?_,λp hp=>absurd (show p∈([]:List (Addr×Obj)) from hp) (by simp),e0.hok.kept hk,?_⟩
 ·exact name_of_addr x.apart (PySem.mem_of_lookup h1) (PySem.mem_of_lookup h2)
 ·have hy:scope.names.lookup y=some .cell\/scope.names.lookup y=some .free:=hy;rcases hy with hy | hy
  ·exact MS hy
  ·exact absurd rfl (S.nofree _ (PySem.mem_of_lookup hy))
 ·exact um6 (x.above y c (PySem.mem_of_lookup h))
 ·have hi:i < vs.length:=by
   unfold Da at h2
   by_cases hi:i < vs.length
   ·exact hi
   ·rw [ua8 (by simpa using hi)] at h2;rw [ub9] at h2
    split at h2 <;> cases h2
  have ha:vs[i]?=some v:=by
   unfold Da at h2;rw [ub3 (by simpa using hi),ug6] at h2
   cases e:vs[i]? with
   | none=>rw [e] at h2;cases h2
   | some a=>rw [e] at h2;cases h2;rfl
  obtain ⟨u,hu,rv⟩:=r.get ha;have hp:ps[i]?=some y:=by
   rw [<-S.pre,List.getElem?_take_of_lt (by lia)];exact h1
  have ndP:ps.Nodup:=by rw [<-S.pre];exact S.nd.sublist (List.take_sublist _ _)
  refine ⟨u,rv,?_⟩;rcases S.par y (ue2 hp) with k | k
  ·exact .inl ⟨k,Lu ndP hp hu k⟩
  ·obtain ⟨c,e⟩:=MS (n:=s.heap.objs.size + 1) k;refine .inr ⟨.inl k,c,e,?_⟩;have q:=x.cell y c e;rw [Lr ndP hp hu (by show scope.names.lookup y≠_;rw [k];decide)] at q;exact q
 ·exact e0.hok.fresh (um6 (x.above y c (PySem.mem_of_lookup h)))
 ·unfold Da;show _=N.length;rw [uf7,uj5,ud4];lia
theorem Ts {CX:CXT}{k:Nat}{f:Addr}{name qual:Str}{params:Arguments}{body:List Stmt}{scope:Scope}{dV kV doc pm cdv ct oc:Value}{an od:Option Addr}
 {osl:Array (Option Value)} {N ps:List Str} {sp:Sp} (lk:K.lookup f=some ⟨oc,od,.func (PySem.W.fnOf name qual params body scope dV kV doc pm an cdv ct),osl⟩) (hcd:PySem.W.codeIn K cdv qual=true) (S:FnScope N ps scope)
 (len:∀vs H Q E,sp vs H Q E->vs.length=ps.length)
 (hbody:∀(A:Around) (outer:List Env) (s:Shared) (H:Hp) (vs:List V) (Q:VK) (E:XK),Room k (A.deeper (envOfC qual scope s.heap.objs.size f cdv))->sp vs H Q E->
   ∃t,PSs (DM CX P w K mg base N qual scope f cdv A outer s H E) body t/\t { nx:=λ_ H'=>Q .non H',rt:=Q } (Da N vs) H) :
 FnOk P w K mg base CX (k + 1) f (PySem.W.fnOf name qual params body scope dV kV doc pm an cdv ct) ps sp:=by
 refine ⟨len,λA outer s H args us vs Q E hr e0 hb r hsp=>?_⟩;have hl:=len _ _ _ _ hsp;have KX:K.In s.heap:=e0.mod.kin.keeps λb o e=>(e0.bs b o e).1;have lim:s.heap.NoLimit:=e0.mod.nolimit.keeps λb o e=>(e0.bs b o e).1;have hkind:∀y∈ps.zip us,scope.names.lookup y.1=some .local\/(scope.names.lookup y.1=some .cell/\((cellsFrom (s.heap.objs.size + 1) scope.names []).lookup y.1).isSome=true):=λz9 hy=>by
  obtain ⟨n,v⟩:=z9;rcases S.par n (uj4 hy).1 with q | q
  ·exact .inl q
  ·exact .inr ⟨q,uc6 _ _ _ (.inl q)⟩
 refine codeAny_call_function hr.depth (KX _ _ lk) rfl S.co S.gen rfl (PySem.W.codeRec_of KX hcd) (hb _ _ _ _ ?_);refine wpAny_newFunctionEnv_cells S.kind hkind λenv he s1 x=>?_;subst he;refine ⟨lim.keeps x.toInCall.keep,codeAny_func ?_⟩;obtain ⟨t,ht,hq⟩:=hbody A outer s H vs Q E (hr.deeper _) hsp;have I:Inv (DM CX P w K mg base N qual scope f cdv A outer s H E) [] (Da N vs) H s1:=LC S hr.hd e0 hl r x;refine uo2 (ht [] s1 (Da N vs) H _ I hq) (λfl s' hs=>?_) λe s' hs=>hs;have fin:∀{σ':St} {H':Hp} {v:V} {u:Value},Inv (DM CX P w K mg base N qual scope f cdv A outer s H E) [] σ' H' s'->RelV v u->Q v H'->CE outer P w H s Q u s':=
  λ{σ' H' v u} J rv q=>⟨v,H',J.os,J.bare,J.base,J.hok,rv,q⟩
 cases fl with
 | ret u=>
   obtain ⟨v,σ',H',J,rv,q⟩:=hs;exact fin J rv q
 | next=>
   obtain ⟨σ',H',J,q⟩:=hs;exact fin (v:=V.non) (u:=Value.none) J rfl q
 | brk=>
   obtain ⟨_,_,_,q⟩:=hs;exact False.elim q
 | cont=>
   obtain ⟨_,_,_,q⟩:=hs;exact False.elim q
section
variable {X:Cx}{x:Str}{p pos:Pos}{e:Expr}{es:List Expr}{t:TA}{id T:String}{r:List V->Hp->VK->Prop}
def tCB (r:List V->Hp->VK->Prop)(t:TA):TE:=λσ H Q=>t σ H λvs H1=>r vs H1 Q
theorem Ss (hc:CW X (.builtin id) r)(hg:Gl X x)(hm:X.mg x=none)(hv:bootBuiltins x=some (.builtin id))(ha:PA X (e :: es) t)(hn:x≠"__name__":=by decide)(hdb:(x == ("__debug__" : Str))=false:=by decide)
 (he:starEach (e :: es) X.env=(false,eval e X.env) :: starEach es X.env:=by rfl) (hpl:(backTo pos (starEach es X.env)).any (·.1)=false:=by rfl):PE X (.Call (.Name x p) (e :: es) [] pos) (tCB r t):=by
 intro pins s σ H Q I h;refine wpAny_Call_Name_kw (Hv I hg hm hv ?_ hn hdb);exact PyProof.Rows.callWith_builtin1 (thn (ha pos pins s σ H _ I h) λus s1 z9=>by obtain ⟨vs,H1,I1,r1,q1⟩:=z9;exact hc pins s1 σ H1 vs us Q I1 r1 q1) he hpl
theorem Hz (hc:CW X (.type T) r)(hg:Gl X x)(hm:X.mg x=none)(hv:bootBuiltins x=some (.type T))(ha:PA X (e :: es) t)(hn:x≠"__name__":=by decide)(hdb:(x == ("__debug__" : Str))=false:=by decide)
 (he:starEach (e :: es) X.env=(false,eval e X.env) :: starEach es X.env:=by rfl) (hpl:(backTo pos (starEach es X.env)).any (·.1)=false:=by rfl):PE X (.Call (.Name x p) (e :: es) [] pos) (tCB r t):=by
 intro pins s σ H Q I h;refine wpAny_Call_Name_kw (Hv I hg hm hv ?_ hn hdb);exact ua5 (thn (ha pos pins s σ H _ I h) λus s1 z9=>by obtain ⟨vs,H1,I1,r1,q1⟩:=z9;exact hc pins s1 σ H1 vs us Q I1 r1 q1) he hpl
end
end L2
namespace HT
open PySem PyProof.Rows
section
open PySem.SeqAt
open PySem.AutoSeq1 (wpAny_loadPart')
open PySem.MeetsSeq PySem.MeetsSeq2 PySem.MeetsSeq3
end
section
variable {prog:Program}{w:World}{A:Around}{E:Value->Shared->Prop}{s:Shared}
theorem T7 {t b:Addr}{vs ws:List Value}{Q:Value->Shared->Prop}(ht:IsTup s.heap t vs.toArray)(hb:IsTup s.heap b ws.toArray)(hv:vs≠[])
 (h1:ws=[]->Q (.ref t) s) (h2:ws≠[]->Q (.ref s.heap.objs.size) { s with heap:=s.heap.push { cls:=.type "tuple",data:=.seq (vs++ws).toArray } })
 (hsz:vs.length + ws.length<=sizeLine):wpAny (model prog w) A (binaryOp .Add (.ref t) (.ref b)) Q E s:=by
 obtain ⟨⟨cls,dd,data,sl⟩,ho,hc,n,hd⟩:=id ht;obtain ⟨⟨cls2,dd2,data2,sl2⟩,ho2,hc2,n2,hd2⟩:=id hb;simp only at hc hd hc2 hd2;subst hc hd hc2 hd2;have e:vs.toArray++ws.toArray=(vs++ws).toArray:=by simp
 by_cases hw:ws=[]
 ·exact concat_meets ⟨_,ho,rfl⟩ ⟨_,ho2,rfl⟩ noFill_tuple_add seq_tuple_add uc7 uc0 (ub6 _ _)
   (tuple_addW1 t b vs.toArray ws.toArray n n2 dd dd2 sl sl2 (by simpa using hv) (by simp [hw])) ⟨ho,ho2,h1 hw⟩
 ·refine concat_meets ⟨_,ho,rfl⟩ ⟨_,ho2,rfl⟩ noFill_tuple_add seq_tuple_add uc7 uc0 (ub6 _ _)
   (tuple_addW2 t b vs.toArray ws.toArray n n2 dd dd2 sl sl2 (by simpa using hv) (by simpa using hw) (by rw [ug3,ug3];exact hsz)) ⟨ho,ho2,?_⟩
  rw [e];exact h2 hw
noncomputable def sIx (n d:Nat):Option Int->Nat
 | none=>d
 | some v=>if v < 0 then (v + (n:Int)).toNat else min v.toNat n
theorem SQ (n d:Nat):sIx n d none=d:=rfl
theorem Vb (n d k:Nat):sIx n d (some (k:Int))=min k n:=by
 show (if (k:Int) < 0 then ((k:Int) + (n:Int)).toNat else min (k:Int).toNat n)=min k n;rw [if_neg (by lia),ug7]
theorem W6 (n d:Nat)(hd:d<=n)(o:Option Int):sIx n d o<=n:=by
 cases o with
 | none=>exact hd
 | some v=>
   show (if v < 0 then (v + (n:Int)).toNat else min v.toNat n)<=n
   by_cases hv:v < 0
   ·rw [if_pos hv];lia
   ·rw [if_neg hv];exact Nat.min_le_right _ _
theorem Oz (v:Int)(n d:Nat):(if v < 0 then max (v + (n:Int)) 0 else min v (n:Int))=((sIx n d (some v):Nat):Int):=by
 show (if v < 0 then max (v + (n:Int)) 0 else min v (n:Int))=(((if v < 0 then (v + (n:Int)).toNat else min v.toNat n):Nat):Int)
 by_cases hv:v < 0
 ·simp only [if_pos hv];lia
 ·simp only [if_neg hv];lia
theorem Pa (lo hi:Option Int)(n:Nat):Builtin.Slice.sliceAdjust lo hi 1 (n:Int)=(((sIx n 0 lo:Nat):Int),((sIx n n hi:Nat):Int)):=by
 have h1:¬((1:Int) < 0):=by lia
 unfold Builtin.Slice.sliceAdjust;simp only [h1,if_false];refine Prod.ext ?_ ?_
 ·cases lo with
  | none=>rfl
  | some v=>exact Oz v n 0
 ·cases hi with
  | none=>rfl
  | some v=>exact Oz v n n
theorem PB (i j:Nat):Builtin.Slice.slicePlaces (i:Int) (j:Int) 1=j - i:=by
 unfold Builtin.Slice.slicePlaces;have h1:(1:Int) > 0:=by lia
 simp only [h1,if_true,Int.ediv_one]
 split <;> lia
theorem Kv {v:Value}{o:Option Int}{Q:Option Int->Shared->Prop}(p:IsPart v o)(h:Q o s):wpAny (model prog w) A (Builtin.Slice.slicePartIndex v) Q E s:=by
 cases p with
 | none=>exact slicePart_none h
 | int i t=>exact slicePart_int h
theorem FY {sl:Addr}{vl vu:Value}{lo hi:Option Int}{n:Nat}{Q:Int×Int×Nat->Shared->Prop}(hs:s.heap.IsSliceOf sl vl vu .none)(pl:IsPart vl lo)(pu:IsPart vu hi)
 (h:Q (((sIx n 0 lo:Nat):Int),1,sIx n n hi - sIx n 0 lo) s):wpAny (model prog w) A (Builtin.Slice.sliceApplied (.ref sl) (pure (n:Int))) Q E s:=by
 obtain ⟨os,hos,hcs,hds⟩:=id hs;unfold Builtin.Slice.sliceApplied Builtin.Slice.sliceFields;refine uo0 (uo0 (un9 hos hds (x:=vl) rfl (uo0 (un9 hos hds (x:=vu) rfl (uo0 (un9 hos hds (x:=.none) rfl (uo1 ?_)))))));refine uo0 (slicePart_none ?_);show wpAny _ _ (if ((1:Int) == 0)=true then _ else _) _ _ s;rw [if_neg (by decide)];refine uo0 (Kv pl (uo0 (Kv pu (uo0 (uo1 ?_)))));show wpAny _ _ (match Builtin.Slice.sliceAdjust lo hi 1 (n:Int) with | (lo,hi)=>pure (lo,(1:Int),Builtin.Slice.slicePlaces lo hi 1)) _ _ s;rw [Pa lo hi n];show wpAny _ _ (pure (((sIx n 0 lo:Nat):Int),(1:Int),Builtin.Slice.slicePlaces ((sIx n 0 lo:Nat):Int) ((sIx n n hi:Nat):Int) 1)) _ _ s;rw [PB];exact uo1 h
theorem SA (xs:Array Value)(i k:Nat):((List.range k).filterMap λ(m:Nat)=>xs[((i:Int) + (m:Int) * 1).toNat]?).toArray=((xs.toList.drop i).take k).toArray:=by
 have e:(λ(m:Nat)=>xs[((i:Int) + (m:Int) * 1).toNat]?)=λm=>xs[i + m]?:=by
  funext m
  have:((i:Int) + (m:Int) * 1).toNat=i + m:=by lia
  rw [this]
 rw [e];have:=pick_run xs i k;rw [List.filterMap_map] at this;have e2:((λx=>xs[x]?) ∘ λx=>i + x)=λm=>xs[i + m]?:=rfl;rw [e2] at this;rw [this]
theorem IE {t sl:Addr}{items:Array Value}{vl vu:Value}{lo hi:Option Int}{Q:Value->Shared->Prop}(ht:IsTup s.heap t items)(hs:s.heap.IsSliceOf sl vl vu .none)(pl:IsPart vl lo)(pu:IsPart vu hi)
 (hw:¬(sIx items.size 0 lo=0/\sIx items.size items.size hi=items.size))
 (h:Q (.ref s.heap.objs.size) { s with heap:=s.heap.push { cls:=.type "tuple",data:=.seq ((items.toList.drop (sIx items.size 0 lo)).take (sIx items.size items.size hi - sIx items.size 0 lo)).toArray } })
 (hsz:items.size<=sizeLine):wpAny (model prog w) A (getItem (.ref t) (.ref sl)) Q E s:=by
 have htake:sizeOk (.seq ((items.toList.drop (sIx items.size 0 lo)).take (sIx items.size items.size hi - sIx items.size 0 lo)).toArray):=by
  show ((items.toList.drop (sIx items.size 0 lo)).take (sIx items.size items.size hi - sIx items.size 0 lo)).toArray.size<=sizeLine;rw [ug3,uh6,uh7,ue5];lia
 have hj:sIx items.size items.size hi<=items.size:=W6 _ _ (un6 _) hi;obtain ⟨os,hos,hcs,hds⟩:=id hs;have hTs:s.TypeIs (.ref sl) "slice":=⟨os,hos,hcs⟩;unfold getItem
 try with_reducible refine um2 ?_
 first | refine uo0 (uo1 ?_) | skip
 refine uo0 (wpAny_sequenceKey ht.typeIs (by decide) ?_);refine uo0 (wpAny_callSpecial?_slot (name:=Str.ofString "__getitem__") ht.typeIs ua1
  (wpAny_call_entry ua1 ht.typeIs entry_tuple_getitem ?_ (args_tuple_getitem _ _)))
 show wpAny _ _ (Builtin.Tuple.tupleItemsOf (.ref t) >>= _) _ _ s;refine uo0 (tupleItemsOf_ ht ?_);refine uo0 (wpAny_typeOf hTs ?_);rw [if_pos (by decide)];refine uo0 (FY hs pl pu ?_);have hno:¬((((sIx items.size 0 lo:Nat):Int) == 0 && (1:Int) == 1 && (sIx items.size items.size hi - sIx items.size 0 lo) == items.size)=true):=by
  intro q;rw [uh8,uh8] at q;have q1:((sIx items.size 0 lo:Nat):Int)=0:=eq_of_beq q.1.1;have q2:sIx items.size items.size hi - sIx items.size 0 lo=items.size:=eq_of_beq q.2;exact hw ⟨by lia,by lia⟩
 show wpAny _ _ (if (((sIx items.size 0 lo:Nat):Int) == 0 && (1:Int) == 1 && (sIx items.size items.size hi - sIx items.size 0 lo) == items.size)=true then _ else _) _ _ s;rw [if_neg hno,SA]
 first
  | exact uo0 (m:=Builtin.Tuple.tupleExact _) (wpAny_newObj_type (uo1 ⟨_,rfl,uo1 h⟩) htake)
  | exact uo0 (m:=Builtin.Tuple.tupleExact _) (wpAny_newObj_type (uo0 (uo1 (uo1 ⟨_,rfl,uo1 h⟩))) htake)
  | exact uo0 (uo0 (m:=Builtin.Tuple.tupleExact _) (wpAny_newObj_type (uo1 (uo1 ⟨_,rfl,uo1 h⟩)) htake))
  | exact uo0 (uo0 (m:=Builtin.Tuple.tupleExact _) (wpAny_newObj_type (uo1 ⟨_,rfl,uo1 h⟩) htake))
end
end HT
namespace L2
open PySem PySem.Spec PyProof.Rows
abbrev TO:=St->Hp->(Option Int->Hp->Prop)->Prop
def PO (X:Cx)(e:Option Expr)(t:TO):Prop:=
 ∀(pins:List (Addr×Obj)) (s:Shared) (σ:St) (H:Hp) (Q:Option Int->Hp->Prop),Inv X pins σ H s->t σ H Q->
  wpAny (model X.prog X.w) X.A (evalPart e X.env) (λu s'=>∃o H',Inv X pins σ H' s'/\IsPart u o/\Q o H') X.xe s
def Vq:TO:=λ_ H Q=>Q none H
def X7 (t:TE):TO:=λσ H Q=>t σ H λx H1=>∃i,x = .int i/\Q (some i) H1
section
variable {X:Cx}{e:Expr}{te:TE}{lo hi:Option Expr}{tl th:TO}{pos p2:Pos}
theorem U1:PO X none Vq:=by
 intro pins s σ H Q I h;rw [evalPart_none];exact uo1 ⟨none,H,I,.none,h⟩
theorem U2 (h:PE X e te):PO X (some e) (X7 te):=by
 intro pins s σ H Q I hw;rw [evalPart_some];refine thn (h pins s σ H _ I hw) λu s1 z9=>?_;obtain ⟨x,H1,I1,r1,q1⟩:=z9;obtain ⟨i,rfl,q⟩:=q1;obtain ⟨t,rfl⟩:=r1;exact ⟨some i,H1,I1,.int i t,q⟩
def SlR (X:Cx)(r:V->Option Int->Option Int->Hp->VK->Prop):Prop:=
 ∀(pins:List (Addr×Obj)) (s:Shared) (σ:St) (H:Hp) (x:V) (v vl vu:Value) (lo hi:Option Int) (sl:Addr) (Q:VK),Inv X pins σ H s->RelV x v->s.heap.IsSliceOf sl vl vu .none->IsPart vl lo->IsPart vu hi->r x lo hi H Q->
  ∃T id,typeLookup (.type T) "__getitem__" = pure (some (.builtin id))/\s.TypeIs v T/\wpAny (model X.prog X.w) X.A (getItem v (.ref sl)) (EP X pins σ Q) X.xe s
theorem SlR.or {r r':V->Option Int->Option Int->Hp->VK->Prop}(h:SlR X r)(h':SlR X r'):SlR X (λx lo hi H Q=>r x lo hi H Q\/r' x lo hi H Q):=by
 intro pins s σ H x v vl vu lo hi sl Q I rx hs pl pu q;rcases q with q | q
 ·exact h pins s σ H x v vl vu lo hi sl Q I rx hs pl pu q
 ·exact h' pins s σ H x v vl vu lo hi sl Q I rx hs pl pu q
def tSl (r:V->Option Int->Option Int->Hp->VK->Prop)(te:TE)(tl th:TO):TE:=λσ H Q=>te σ H λx H1=>tl σ H1 λl H2=>th σ H2 λu H3=>r x l u H3 Q
theorem Sx {r:V->Option Int->Option Int->Hp->VK->Prop}(hr:SlR X r)(he:PE X e te)(hl:PO X lo tl)(hu:PO X hi th):PE X (.Subscript e (.Slice lo hi none p2) pos) (tSl r te tl th):=by
 intro pins s σ H Q I h;refine Subscript_ (thn (he pins s σ H _ I h) λv s1 z9=>?_);obtain ⟨x,H1,I1,r1,q1⟩:=z9;refine wpAny_Slice (thn (hl pins s1 σ H1 _ I1 q1) λvl s2 ⟨l,H2,I2,pl,q2⟩=>thn (hu pins s2 σ H2 _ I2 q2) λvu s3 z9=>?_);obtain ⟨u,H3,I3,pu,q3⟩:=z9;rw [evalPart_none];refine uo1 ?_;have I4:Inv X pins σ H3 { s3 with heap:=s3.heap.push { cls:=.type "slice",data:=.fields #[vl,vu,.none] } }:=I3.kept (t':=s3.toks) λb ob q=>uc5 _ q;obtain ⟨T,id,hT,ht,hg⟩:=hr pins { s3 with heap:=s3.heap.push { cls:=.type "slice",data:=.fields #[vl,vu,.none] } } σ H3 x v vl vu l u s3.heap.objs.size Q I4 r1 (Heap.IsSliceOf.new ..) pl pu q3;show wpAny (model X.prog X.w) X.A (subscriptTail e (.Slice lo hi none p2) v (.ref s3.heap.objs.size)) (EP X pins σ Q) X.xe { s3 with heap:=s3.heap.push { cls:=.type "slice",data:=.fields #[vl,vu,.none] } };exact tail_any (ops:=[.ref s3.heap.objs.size,v]) ht hT hg (by with_unfolding_all rfl)
def GN (xs:List V)(lo hi:Option Int):List V:=(xs.drop (HT.sIx xs.length 0 lo)).take (HT.sIx xs.length xs.length hi - HT.sIx xs.length 0 lo)
theorem IG (xs:List V)(lo hi:Option Int):(GN xs lo hi).length<=xs.length:=by
 unfold GN;rw [uh6,uh7];lia
def WZ (K:PySem.W.Frag):V->Option Int->Option Int->Hp->VK->Prop:=λx lo hi H Q=>∃a xs,x = .ref a/\SqT K H a xs/\
 ¬(HT.sIx xs.length 0 lo=0/\HT.sIx xs.length xs.length hi=xs.length)/\∀p,H p=none->Q (.ref p) (upd H p (.tup (GN xs lo hi)))
theorem Xa:SlR X (WZ X.K):=by
 intro pins s σ H x v vl vu lo hi sl Q I rx hs pl pu h;obtain ⟨a,xs,rfl,hx,hw,q⟩:=h
 cases rx
 obtain ⟨its,r,ht,hz⟩:=I.tuple hx;have hlen:its.toArray.size=xs.length:=by rw [ug3];exact r.length.symm
 refine ⟨"tuple",_,ua1.lookup,ht.typeIs,?_⟩;refine HT.IE ht hs pl pu (by rw [hlen];exact hw) ?_ (by rw [hlen];exact hz);rw [hlen];refine ⟨.ref s.heap.objs.size,_,I.laid (t':=s.toks) (o:=.tup (GN xs lo hi)) (λb ob q=>uc5 _ q) (un6 _) ?_,rfl,q _ (I.hok.fresh (un6 _))⟩;exact ⟨um5 (IG xs lo hi) hz,_,(r.drop (HT.sIx xs.length 0 lo)).take (HT.sIx xs.length xs.length hi - HT.sIx xs.length 0 lo),IsTup.new _ _⟩
def TB (K:PySem.W.Frag):R2:=λx y H Q=>∃a b xs ys,x = .ref a/\y = .ref b/\SqT K H a xs/\SqT K H b ys/\xs≠[]/\xs.length + ys.length<=sizeLine/\
 (ys=[]->Q (.ref a) H)/\(ys≠[]->∀p,H p=none->Q (.ref p) (upd H p (.tup (xs++ys))))
theorem Vals.nil_iff {xs:List V}{us:List Value}(r:Vals xs us):us=[]↔xs=[]:=by
 cases r with
 | nil=>simp
 | cons _ _=>simp
theorem UK:OpR X (binaryOp .Add) (TB X.K):=by
 intro pins s σ H x y v u Q I rx ry h;obtain ⟨a,b,xs,ys,rfl,rfl,ha,hb,hx,hz,q1,q2⟩:=h
 cases rx
 cases ry
 obtain ⟨its,r1,p1,_⟩:=I.tuple ha;obtain ⟨its2,r2,p2,_⟩:=I.tuple hb;refine HT.T7 p1 p2 (λz=>hx (r1.nil_iff.mp z)) (λz=>⟨.ref a,H,I,rfl,q1 (r2.nil_iff.mp z)⟩) (λz=>?_) (by rw [<-r1.length,<-r2.length];exact hz);refine ⟨.ref s.heap.objs.size,_,I.laid (t':=s.toks) (o:=.tup (xs++ys)) (λb ob q=>uc5 _ q) (un6 _) ?_,rfl,q2 (λw=>z (r2.nil_iff.mpr w)) _ (I.hok.fresh (un6 _))⟩;exact ⟨by rw [uf7];exact hz,_,r1.append r2,IsTup.new _ _⟩
end
noncomputable def ixN (n:Nat)(i:Int):Option Nat:=if 0<=i then (if i < n then some i.toNat else none) else if -(n:Int)<=i then some (i + n).toNat else none
def atI {α:Type}(xs:List α)(i:Int):Option α:=(ixN xs.length i).bind λj=>xs[j]?
variable {n:Nat}
theorem Ur {i:Int}{j:Nat}(h:ixN n i=some j):seqIndex? i n=some j/\j < n/\-(n:Int)<=i/\i < n:=by
 unfold ixN at h
 by_cases h0:0<=i
 ·rw [if_pos h0] at h
  by_cases h1:i < n
  ·rw [if_pos h1] at h;have e:i.toNat=j:=uj0 h;exact ⟨by rw [seqIndex_of h0 h1,e],by lia,by lia,h1⟩
  ·rw [if_neg h1] at h;cases h
 ·rw [if_neg h0] at h
  by_cases h1 : -(n:Int)<=i
  ·rw [if_pos h1] at h;have e:(i + n).toNat=j:=uj0 h;exact ⟨by rw [seqIndex_neg (by lia) h1,e],by lia,h1,by lia⟩
  ·rw [if_neg h1] at h;cases h
variable {α:Type}
theorem KJ {xs:List α}{i:Int}{v:α}(h:atI xs i=some v):∃j,seqIndex? i xs.length=some j/\xs[j]?=some v/\j < xs.length/\-(xs.length:Int)<=i/\i < xs.length:=by
 unfold atI at h
 cases e:ixN xs.length i with
 | none=>rw [e] at h;cases h
 | some j=>
   rw [e] at h;obtain ⟨h1,h2,h3,h4⟩:=Ur e;exact ⟨j,h1,h,h2,h3,h4⟩
theorem KK {xs:List α}{j:Nat}{v:α}(h:xs[j]?=some v):atI xs (j:Int)=some v:=by
 have hj:j < xs.length:=(ub2.mp h).1;have e:ixN xs.length (j:Int)=some j:=by
  unfold ixN;rw [if_pos (by lia),if_pos (by lia)];simp
 unfold atI;rw [e];exact h
def Ox (b:Expr):Prop:=∀o i,subscripted b false o i=operate [o,i] (getItem o i)
def IxR (X:Cx)(r:R2):Prop:=
 ∀(value slice:Expr) (pins:List (Addr×Obj)) (s:Shared) (σ:St) (H:Hp) (x y:V) (v u:Value) (Q:VK),Inv X pins σ H s->RelV x v->RelV y u->r x y H Q->
  subscripted slice false v u=operate [v,u] (getItem v u)->wpAny (model X.prog X.w) X.A (subscriptTail value slice v u) (EP X pins σ Q) X.xe s
def MtR (X:Cx)(id:String)(r:V->List V->Hp->VK->Prop):Prop:=
 ∀(pins:List (Addr×Obj)) (s:Shared) (σ:St) (H:Hp) (x:V) (xs:List V) (v:Value) (us:List Value) (Q:VK),Inv X pins σ H s->RelV x v->Vals xs us->r x xs H Q->
  wpAny (model X.prog X.w) X.A (call (.builtin id) (v :: us)) (EP X pins σ Q) X.xe s
variable {x:V}
section
variable {X:Cx}{a b:Expr}{ta tb:TE}{pos:Pos}
theorem IxR.or {r r':R2}(h:IxR X r)(h':IxR X r'):IxR X (λx y H Q=>r x y H Q\/r' x y H Q):=by
 intro value slice pins s σ H x y v u Q I rx ry q hs;rcases q with q | q
 ·exact h value slice pins s σ H x y v u Q I rx ry q hs
 ·exact h' value slice pins s σ H x y v u Q I rx ry q hs
theorem XS {r:R2}(hr:IxR X r)(ha:PE X a ta)(hb:PE X b tb)(hs:Ox b):PE X (.Subscript a b pos) (tOp r ta tb):=by
 intro pins s σ H Q I h;exact Subscript_ (RU ha hb I h λv u s2 x y H2 I2 rx ry q=>hr a b pins s2 σ H2 x y v u Q I2 rx ry q (hs _ _))
def WT (K:PySem.W.Frag):R2:=λx y H Q=>∃p xs i v,x = .ref p/\y = .int i/\SqL K H p xs/\atI xs i=some v/\Q v H
def WV (K:PySem.W.Frag):R2:=λx y H Q=>∃p xs i v,x = .ref p/\y = .int i/\SqT K H p xs/\atI xs i=some v/\Q v H
def WU:R2:=λx y H Q=>∃z i c,x = .str z/\y = .int i/\z.length<=sizeLine/\atI z.cps.toList i=some c/\Q (.str ⟨#[c]⟩) H
theorem ix_list:IxR X (WT X.K):=by
 intro value slice pins s σ H x y v u Q I rx ry h hs;obtain ⟨p,xs,i,z,rfl,rfl,hq,he,q⟩:=h
 cases rx
 obtain ⟨t,rfl⟩:=ry;obtain ⟨its,r,pl,hz⟩:=I.list hq;obtain ⟨j,h1,h2,h3,h4,h5⟩:=KJ he;obtain ⟨w,ew,rw'⟩:=r.get h2;have hl:=r.length;have hn:=Ka;have fin:EP X pins σ Q w s:=⟨z,H,I,rw',q⟩
 by_cases h0:0<=i
 ·have hj:i.toNat=j:=by
   rw [seqIndex_of h0 h5] at h1;exact uj0 h1
  exact item_listR pl.isList h0 (by lia) (by rw [hj];simpa using ew) fin hs
 ·have hj:(i + (its.toArray.size:Int)).toNat=j:=by
   rw [seqIndex_neg (by lia) h4] at h1;rw [ug3,<-hl];exact uj0 h1
  exact subscriptTail_builtinR (x:=w) pl.isList.typeIs slot_list_getitem.lookup
   (wpAny_getItem_list_neg (Q:=λr s'=>r=w/\EP X pins σ Q r s') pl.isList (by lia) (by rw [ug3] <;> lia) (by lia) (by rw [hj];simpa using ew) ⟨rfl,fin⟩) hs
theorem ix_tup:IxR X (WV X.K):=by
 intro value slice pins s σ H x y v u Q I rx ry h hs;obtain ⟨p,xs,i,z,rfl,rfl,hq,he,q⟩:=h
 cases rx
 obtain ⟨t,rfl⟩:=ry;obtain ⟨its,r,pl,hz⟩:=I.tuple hq;obtain ⟨j,h1,h2,h3,h4,h5⟩:=KJ he;obtain ⟨w,ew,rw'⟩:=r.get h2;have hl:=r.length;have hn:=Ka;have fin:EP X pins σ Q w s:=⟨z,H,I,rw',q⟩;exact subscriptTail_builtinR (x:=w) pl.typeIs slot_tuple_getitem.lookup
  (getItem_tuple (j:=j) (Q:=λr s'=>r=w/\EP X pins σ Q r s') pl (by lia) (by lia) (by rw [ug3,<-hl];exact h1) (by simpa using ew) ⟨rfl,fin⟩) hs
theorem Wb:IxR X WU:=by
 intro value slice pins s σ H x y v u Q I rx ry h hs;obtain ⟨z,i,c,rfl,rfl,hz,he,q⟩:=h;obtain ⟨t,rfl⟩:=rx;obtain ⟨t',rfl⟩:=ry;obtain ⟨j,h1,h2,h3,h4,h5⟩:=KJ he;have hl:z.cps.toList.length=z.length:=by simp [Str.length]
 rw [hl] at h1 h4 h5;have hn:=Ka;exact tail_any (typeIs_str s z t) slot_str_getitem.lookup (getItem_str (c:=c) (by
  have e1:decide (i < -(2 ^ 63:Int))=false:=uk7 (by lia);have e2:decide (i ≥ 2 ^ 63)=false:=uk7 (by lia);rw [e1,e2,ul5]) (by rw [h1];simpa using h2) ⟨.str ⟨#[c]⟩,H,I.tok _,⟨_,rfl⟩,q⟩) hs
def rIx (K:PySem.W.Frag):R2:=λx y H Q=>WT K x y H Q\/WV K x y H Q\/WU x y H Q
theorem Ak:IxR X (rIx X.K):=ix_list.or (ix_tup.or Wb)
theorem NV (lo hi:Option Int)(n:Nat):(sliceBounds lo hi none n).1=((HT.sIx n 0 lo:Nat):Int)/\(sliceBounds lo hi none n).2.1=((HT.sIx n n hi:Nat):Int)/\(sliceBounds lo hi none n).2.2=1:=by
 refine ⟨?_,?_,rfl⟩
 ·cases lo with
  | none=>simp [sliceBounds,HT.sIx]
  | some i=>
    simp only [sliceBounds,HT.sIx,Option.getD_none,show (1:Int) > 0 by decide,if_true]
    by_cases h:i < 0
    ·simp only [h,if_true] <;> lia
    ·simp only [h,if_false] <;> lia
 ·cases hi with
  | none=>simp [sliceBounds,HT.sIx]
  | some i=>
    simp only [sliceBounds,HT.sIx,Option.getD_none,show (1:Int) > 0 by decide,if_true]
    by_cases h:i < 0
    ·simp only [h,if_true] <;> lia
    ·simp only [h,if_false] <;> lia
theorem Mb (its:List Value)(lo hi:Option Int):slicePick its.toArray lo hi none=((its.drop (HT.sIx its.length 0 lo)).take (HT.sIx its.length its.length hi - HT.sIx its.length 0 lo)).toArray:=by
 obtain ⟨h1,h2,h3⟩:=NV lo hi its.toArray.size;unfold slicePick;rw [h1,h2,h3];simp only [sliceRange_one,pick_run,ug3] <;> rfl
def WX (K:PySem.W.Frag):V->Option Int->Option Int->Hp->VK->Prop:=λx lo hi H Q=>∃a xs,x = .ref a/\SqL K H a xs/\∀p,H p=none->Q (.ref p) (upd H p (.lst (GN xs lo hi)))
theorem sl_list:SlR X (WX X.K):=by
 intro pins s σ H x v vl vu lo hi sl Q I rx hs pl pu h;obtain ⟨a,xs,rfl,hx,q⟩:=h
 cases rx
 obtain ⟨its,r,ht,hz⟩:=I.list hx;have hlen:=r.length;refine ⟨"list",_,slot_list_getitem.lookup,ht.isList.typeIs,?_⟩;refine wpAny_getItem_list_slice ht.isList hs pl pu .none (by simp) ?_ (by rw [ug3] <;> lia);rw [Mb,<-hlen];refine ⟨.ref s.heap.objs.size,_,I.laid (t':=s.toks) (o:=.lst (GN xs lo hi)) (λb ob q=>uc5 _ q) (un6 _) ?_,rfl,q _ (I.hok.fresh (un6 _))⟩;exact ⟨um5 (IG xs lo hi) hz,_,0,(r.drop (HT.sIx xs.length 0 lo)).take (HT.sIx xs.length xs.length hi - HT.sIx xs.length 0 lo),ue6 _ rfl⟩
noncomputable def Fh:V->Bool
 | .non=>true
 | .bl _=>true
 | .int _=>true
 | .str _=>true
 | _=>false
noncomputable def eqV:V->V->Bool
 | .non,.non=>true
 | .bl a,.bl b=>a == b
 | .bl a,.int b=>(if a then 1 else 0) == b
 | .int a,.bl b=>a == (if b then 1 else 0)
 | .int a,.int b=>a == b
 | .str a,.str b=>a == b
 | _,_=>false
theorem V1 {A:Around}{s:Shared}{y:V}{u v:Value}(ry:RelV y u)(rx:RelV x v)(fy:Fh y=true)(fx:Fh x=true):SeqAt.EqAt A s u v (eqV y x):=by
 cases y with
 | non=>
   cases ry
   cases x with
   | non=>cases rx;exact SeqAt.EqAt.same _
   | bl b=>cases rx;exact SeqAt.EqAt.none_bool b
   | int b=>obtain ⟨t,rfl⟩:=rx;exact SeqAt.EqAt.none_int b t
   | str b=>obtain ⟨t,rfl⟩:=rx;exact SeqAt.EqAt.none_str b t
   | _=>exact absurd (show false=true from fx) uf4
 | bl a=>
   cases ry
   cases x with
   | non=>cases rx;exact SeqAt.EqAt.bool_none a
   | bl b=>cases rx;exact SeqAt.EqAt.bool_bool a b
   | int b=>obtain ⟨t,rfl⟩:=rx;exact SeqAt.EqAt.bool_int a b t
   | str b=>obtain ⟨t,rfl⟩:=rx;exact SeqAt.EqAt.bool_str a b t
   | _=>exact absurd (show false=true from fx) uf4
 | int a=>
   obtain ⟨t',rfl⟩:=ry
   cases x with
   | non=>cases rx;exact SeqAt.EqAt.int_none a t'
   | bl b=>cases rx;exact SeqAt.EqAt.int_bool a t' b
   | int b=>obtain ⟨t,rfl⟩:=rx;exact SeqAt.EqAt.int_int a t' b t
   | str b=>obtain ⟨t,rfl⟩:=rx;exact SeqAt.EqAt.int_str a t' b t
   | _=>exact absurd (show false=true from fx) uf4
 | str a=>
   obtain ⟨t',rfl⟩:=ry
   cases x with
   | non=>cases rx;exact SeqAt.EqAt.str_none a t'
   | bl b=>cases rx;exact SeqAt.EqAt.str_bool a t' b
   | int b=>obtain ⟨t,rfl⟩:=rx;exact SeqAt.EqAt.str_int a t' b t
   | str b=>obtain ⟨t,rfl⟩:=rx;exact SeqAt.EqAt.str_str a t' b t
   | _=>exact absurd (show false=true from fx) uf4
 | _=>exact absurd (show false=true from fy) uf4
def eqU (x:V)(u:Value):Bool:=match u with
 | .none=>eqV .non x
 | .bool b=>eqV (.bl b) x
 | .int i _=>eqV (.int i) x
 | .str z _=>eqV (.str z) x
 | _=>false
theorem Qj {y:V}{u:Value}(r:RelV y u)(f:Fh y=true):eqU x u=eqV y x:=by
 cases y with
 | non=>cases r;rfl
 | bl b=>cases r;rfl
 | int i=>obtain ⟨t,rfl⟩:=r;rfl
 | str z=>obtain ⟨t,rfl⟩:=r;rfl
 | _=>exact absurd (show false=true from f) uf4
theorem Nn {A:Around}{s:Shared}{x:V}{v:Value}(rx:RelV x v)(fx:Fh x=true):∀{xs:List V} {us:List Value},Vals xs us->xs.all Fh=true->∀u∈us,SeqAt.EqAt A s u v (eqU x u)
 | _,_,.nil,_=>λu hu=>by cases hu
 | y :: xs,u :: us,.cons r t,f=>λu' hu=>by
   rw [ul6,uh8] at f;rcases ul4.mp hu with rfl | hu
   ·rw [Qj r f.1];exact V1 r rx f.1 fx
   ·exact Nn rx fx t f.2 u' hu
theorem Hm:CW X (.type "list") (λxs H Q=>∃p ys,xs=[.ref p]/\(SqL X.K H p ys\/SqT X.K H p ys)/\∀l,H l=none->Q (.ref l) (upd H l (.lst ys))):=by
 intro pins s σ H xs us Q I r h;obtain ⟨p,ys,rfl,hq,q⟩:=h;obtain ⟨u,rfl,rx⟩:=Fl r
 cases rx
 have fin:∀(its:List Value),Vals ys its->ys.length<=sizeLine->∀(h':Heap) (c':Nat),(∀b o',s.heap.get? b=some o'->h'.get? b=some o')->
  h'.get? s.heap.objs.size=some { cls:=.type "list",dict:=none,data:=.seq its.toArray c',slots:=#[] }->EP X pins σ Q (.ref s.heap.objs.size) { s with heap:=h' }:=λits r' hz h' c' kp e=>
  ⟨.ref s.heap.objs.size,_,I.laid (t':=s.toks) kp (un6 _) (show ObjOk X.prog X.w _ h' _ (.lst ys) from ⟨hz,its,c',r',e⟩),rfl,q _ (I.hok.fresh (un6 _))⟩
 rcases hq with hq | hq
 ·obtain ⟨its,r',pl,hz⟩:=I.list hq;have hlen:=r'.length;obtain ⟨o,ho,hc,n,hd⟩:=pl.isList;exact call_list_seq p (.inl rfl) ho hc hd (λh' c' kp e=>fin its r' hz h' c' kp e) (by simp only [ug3] <;> lia)
 ·obtain ⟨its,r',pl,hz⟩:=I.tuple hq;have hlen:=r'.length;obtain ⟨o,ho,hc,n,hd⟩:=pl;exact call_list_seq p (.inr rfl) ho hc hd (λh' c' kp e=>fin its r' hz h' c' kp e) (by simp only [ug3] <;> lia)
theorem LR:CW X (.type "tuple") (λxs H Q=>∃p ys,xs=[.ref p]/\((SqL X.K H p ys/\∀l,H l=none->Q (.ref l) (upd H l (.tup ys)))\/(SqT X.K H p ys/\Q (.ref p) H))):=by
 intro pins s σ H xs us Q I r h;obtain ⟨p,ys,rfl,h⟩:=h;obtain ⟨u,rfl,rx⟩:=Fl r
 cases rx
 rcases h with ⟨hq,q⟩ | ⟨hq,q⟩
 ·obtain ⟨its,r',pl,hz⟩:=I.list hq;have hlen:=r'.length;refine call_tuple_list pl.isList (λh' kp=>?_) (by simp only [ug3] <;> lia);have I1:Inv X pins σ H { s with heap:=h' }:=I.kept (t':=s.toks) kp;have I2:Inv X pins σ (upd H h'.objs.size (.tup ys)) { s with heap:=h'.push { cls:=.type "tuple",data:=.seq its.toArray } }:=
   I1.laid (t':=s.toks) (λb o e=>uc5 _ e) (un6 _) (show ObjOk X.prog X.w _ _ _ (.tup ys) from ⟨hz,its,r',IsTup.new _ _⟩)
  exact ⟨.ref h'.objs.size,_,I2,rfl,q _ (I1.hok.fresh (un6 _))⟩
 ·obtain ⟨its,r',pl,hz⟩:=I.tuple hq;exact call_tuple_same pl ⟨.ref p,H,I,rfl,q⟩
def tyV (K:PySem.W.Frag)(T:String)(x:V)(H:Hp):Prop:=match x with
 | .str _=>T = "str"
 | .int _=>T = "int"
 | .ref p=>(T = "list"/\∃xs,SqL K H p xs)\/(T = "tuple"/\∃o,K.lookup p=some o/\o.cls = .type "tuple"/\o.dict=none)\/
    (T = "dict"/\((∃kvs,H p=some (.dK kvs))\/∃kvs,H p=some (.dT kvs)))\/(T = "set"/\∃S n,H p=some (.set S n))
 | _=>False
theorem Rr {pins:List (Addr×Obj)}{σ:St}{H:Hp}{s:Shared}{T:String}{v:Value}(I:Inv X pins σ H s)(r:RelV x v)(ty:tyV X.K T x H) :
 s.TypeIs v T/\∀a,v = .ref a->∃ob,s.heap.get? a=some ob/\ob.dict=none:=by
 cases x with
 | str z=>
   obtain ⟨t,rfl⟩:=r
   cases (show T = "str" from ty)
   exact ⟨typeIs_str s z t,λ_ e=>nomatch e⟩
 | int i=>
   obtain ⟨t,rfl⟩:=r
   cases (show T = "int" from ty)
   exact ⟨typeIs_int s i t,λ_ e=>nomatch e⟩
 | ref p=>
   cases r
   rcases ty with ⟨rfl,xs,hq⟩ | ⟨rfl,o,hk,hc,hd⟩ | ⟨rfl,hk⟩ | ⟨rfl,S,n,hk⟩
   ·obtain ⟨its,_,pl,_⟩:=I.list hq;refine ⟨pl.isList.typeIs,λa e=>?_⟩
    cases e
    obtain ⟨o,n,e,c,hd,_⟩:=pl;exact ⟨o,e,hd⟩
   ·refine ⟨⟨o,I.kIn p o hk,hc⟩,λa e=>?_⟩
    cases e
    exact ⟨o,I.kIn _ o hk,hd⟩
   ·have z:∃o,s.heap.get? p=some o/\o.ExactDict:=by
     rcases hk with ⟨kvs,hk⟩ | ⟨kvs,hk⟩
     ·obtain ⟨_,_,_,_,o,_,_,e,ex,_⟩:=I.hok p _ hk;exact ⟨o,e,ex⟩
     ·obtain ⟨_,_,_,_,o,_,_,e,ex,_⟩:=I.hok p _ hk;exact ⟨o,e,ex⟩
    obtain ⟨o,e,ex⟩:=z;refine ⟨⟨o,e,ex.1⟩,λa e2=>?_⟩
    cases e2
    exact ⟨o,e,ex.2.1⟩
   ·obtain ⟨o,_,_,_,e,ex,_⟩:=I.hok p _ hk;refine ⟨⟨o,e,ex.1⟩,λa e2=>?_⟩
    cases e2
    exact ⟨o,e,ex.2.1⟩
 | _=>exact False.elim ty
def Zk (K:PySem.W.Frag)(T:String)(r:V->List V->Hp->VK->Prop)(to:TE):TE:=λσ H Q=>to σ H λx H1=>tyV K T x H1/\r x [] H1 Q
def tBM (K:PySem.W.Frag)(T:String)(r:V->List V->Hp->VK->Prop)(to:TE)(t:TA):TE:=λσ H Q=>to σ H λx H1=>tyV K T x H1/\t σ H1 λxs H2=>r x xs H2 Q
variable {o e:Expr}{es:List Expr}{to:TE}{t:TA}{name:Str}{apos cpos:Pos}{T id:String}{r:V->List V->Hp->VK->Prop}
theorem Wz (pa:PlainAttrs T)(slot:Slot T name id)(hty:typeOf (.builtin id)=pure (.type "method_descriptor"))(hm:MtR X id r)(ho:PE X o to)
 (hbase:attributeBase o name X.env (eval o X.env)=eval o X.env:=by rfl) (hline:(apos.endLine == cpos.line)=true:=by rfl):PE X (.Call (.Attribute o name apos) [] [] cpos) (Zk X.K T r to):=by
 intro pins s σ H Q I h;refine wpAny_Call_method0_late hbase hline (thn (ho pins s σ H _ I h) λv s1 z9=>?_);obtain ⟨x,H1,I1,r1,ty,q1⟩:=z9;obtain ⟨h1,h2⟩:=Rr I1 r1 ty;exact ⟨T,id,pa,slot,hty,h1,h2,Calls.callWith_builtin rfl (PySem.evalArgs_none (hm pins s1 σ H1 x [] v [] Q I1 r1 .nil q1))⟩
theorem Ko (pa:PlainAttrs T)(slot:Slot T name id)(hty:typeOf (.builtin id)=pure (.type "method_descriptor"))(hm:MtR X id r)(ho:PE X o to)(ha:PA X (e :: es) t)
 (hbase:attributeBase o name X.env (eval o X.env)=eval o X.env:=by rfl)
 (hfew:((backTo cpos (starEach (e :: es) X.env)).all (λx=>!x.1) && (backToKw cpos (keywordEach [] X.env)).all (λx=>x.1.isSome)
   && decide ((e :: es).length + ([]:List Keyword).length + (if ([]:List Keyword).isEmpty then 0 else 1) < 30))=true:=by rfl)
 (hline:(apos.endLine == cpos.line)=true:=by rfl) (hs:starEach (e :: es) X.env=(false,eval e X.env) :: starEach es X.env:=by rfl) (hplain:(backTo cpos (starEach es X.env)).any (·.1)=false:=by rfl) :
 PE X (.Call (.Attribute o name apos) (e :: es) [] cpos) (tBM X.K T r to t):=by
 intro pins s σ H Q I h;refine wpAny_Call_method_late hbase hfew hline rfl (thn (ho pins s σ H _ I h) λv s1 z9=>?_);obtain ⟨x,H1,I1,r1,ty,q1⟩:=z9;obtain ⟨h1,h2⟩:=Rr I1 r1 ty;refine ⟨T,id,pa,slot,hty,h1,h2,?_⟩;have hA:=ha cpos pins s1 σ H1 _ I1 q1;rw [hs] at hA ⊢;refine Calls.callWith_builtin (by show (false || (backTo cpos (starEach es X.env)).any (·.1))=false;rw [hplain] <;> rfl) (Calls.evalArgs_plain ?_);exact thn hA λus s2 ⟨vs,H2,I2,r2,q2⟩=>hm pins s2 σ H2 x vs v us Q I2 r1 r2 q2
/- xs.append(e),list.index on a module's tuple .. are MtR facts of 06m -/
end
def MtM (X:Cx)(id:String)(r:V->List V->Hp->VK->Prop):Prop:=
 ∀(pins:List (Addr×Obj)) (s:Shared) (σ:St) (H:Hp) (x:V) (xs:List V) (v:Value) (us:List Value) (Q:VK),Inv X pins σ H s->RelV x v->Vals xs us->r x xs H Q->
  wpAny (model X.prog X.w) X.A (call (.builtin id) (v :: us)) (EP X pins σ Q) X.xe s
theorem Vals.one {us:List Value}(h:Vals [x] us):∃u,us=[u]/\RelV x u:=by
 cases h with
 | cons r t=>
   cases t
   exact ⟨_,rfl,r⟩
theorem Vals.zero:∀{us:List Value},Vals [] us->us=[]
 | _,.nil=>rfl
theorem Vals.dropLast {xs:List V}{us:List Value}(h:Vals xs us):Vals xs.dropLast us.dropLast:=by
 induction h with
 | nil=>exact .nil
 | cons r t ih=>
   cases t with
   | nil=>exact .nil
   | cons q t'=>exact .cons r ih
theorem Vals.rep {xs:List V}{us:List Value}(h:Vals xs us):∀k:Nat,Vals (List.replicate k xs).flatten (List.replicate k us).flatten
 | 0=>.nil
 | k + 1=>by
   rw [ue7,ue7,ug8,ug8];exact Vals.append h (Vals.rep h k)
theorem Pg (l:List α):l.eraseIdx (l.length - 1)=l.dropLast:=by
 induction l with
 | nil=>rfl
 | cons a r ih=>
   cases r with
   | nil=>rfl
   | cons b r=>
     have e:(a :: b :: r).length - 1=((b :: r).length - 1) + 1:=by
      have h1:(a :: b :: r).length=r.length + 2:=rfl;have h2:(b :: r).length=r.length + 1:=rfl;lia
     rw [e,List.eraseIdx_cons_succ,ih]
     all_goals rfl
theorem Hs (its:List Value):∀(k:Nat) (acc:List Value),
 List.foldl (λx1 x2=>x1++x2) acc.toArray (List.replicate k its.toArray)=(acc++(List.replicate k its).flatten).toArray
 | 0,acc=>by simp
 | k + 1,acc=>by
   have e:acc.toArray++its.toArray=(acc++its).toArray:=by simp
   have e2:(acc++its)++(List.replicate k its).flatten=acc++(List.replicate (k + 1) its).flatten:=by
    rw [ue7,ug8,ug9]
   rw [<-e2,<-Hs its k (acc++its),<-e,ue7,uj6]
section
variable {X:Cx}{pins:List (Addr×Obj)}{σ:St}{H:Hp}{s:Shared}{l b:Addr}{xs ys zs:List V}
theorem Inv.lset {its its':List Value}{f:Array Value->Array Value}{t':Nat}(I:Inv X pins σ H s)(hH:H l=some (.lst xs))
 (e:s.heap.get? l=some { cls:=.type "list",data:=.seq its.toArray n }) (hf:f its.toArray=its'.toArray) (hv:Vals ys its') (hz:ys.length<=sizeLine) :
 Inv X pins σ (upd H l (.lst ys)) { s with heap:=s.heap.update l (Obj.mapSeq f),toks:=t' }:=by
 have q:=PySem.IsL.update e f;rw [hf] at q;refine I.write (x:=l) (e:=l) (by rw [hH];exact trivial) (.inl rfl) (λb' u hb hu=>(uc8 s.heap (Obj.mapSeq f) (Ne.symm hb)).trans hu) ⟨_,q⟩ ?_;exact ⟨hz,its',_,hv,q⟩
theorem Inv.lnew {its:List Value}{t':Nat}(I:Inv X pins σ H s)(hv:Vals ys its)(hz:ys.length<=sizeLine) :
 Inv X pins σ (upd H s.heap.objs.size (.lst ys)) { s with heap:=s.heap.push { cls:=.type "list",data:=.seq its.toArray },toks:=t' }:=
 I.laid (λ_ _ q=>uc5 _ q) (un6 _) ⟨hz,its,0,hv,ue6 _ rfl⟩
theorem Inv.fresh (I:Inv X pins σ H s):H s.heap.objs.size=none:=I.hok.fresh (un6 _)
theorem Inv.lstM (I:Inv X pins σ H s)(hH:H l=some (.lst xs)):xs.length<=sizeLine/\∃(its:List Value) (n:Nat),Vals xs its/\xs.length=its.length/\s.heap.get? l=some { cls:=.type "list",data:=.seq its.toArray n }:=by
 obtain ⟨z,its,n,r,e⟩:=I.hok l _ hH;exact ⟨z,its,n,r,r.length,e⟩
theorem I9 (h:n<=sizeLine):Builtin.List.listTooLong n=false:=by
 unfold Builtin.List.listTooLong;exact uk7 (by lia)
end
section
variable {X:Cx}
def OR:V->List V->Hp->VK->Prop:=λx vs H Q=>∃l xs y,x = .ref l/\vs=[y]/\H l=some (.lst xs)/\xs.length < sizeLine/\Q .non (upd H l (.lst (xs++[y])))
theorem LF:MtM X "list.append" OR:=by
 intro pins s σ H x vs v us Q I rx rv h;obtain ⟨l,xs,y,rfl,rfl,hH,hz,q⟩:=h
 cases rx
 obtain ⟨u,rfl,ru⟩:=rv.one;obtain ⟨z,its,n,r,hl,e⟩:=I.lstM hH;refine call_meets F.slot_list_append ⟨_,e,rfl⟩ F.entry_list_append (F.args_list_append_2 _ _) (PySem.list_append l its.toArray n u (by rw [ug3];lia)) ⟨e,?_⟩;refine ⟨.non,_,I.lset (its':=its++[u]) hH e (by simp) (r.append (.cons ru .nil)) ?_,rfl,q⟩;rw [uf7,ud5];lia
def OS:V->List V->Hp->VK->Prop:=λx vs H Q=>∃l b xs zs,x = .ref l/\vs=[.ref b]/\H l=some (.lst xs)/\H b=some (.lst zs)/\xs.length + zs.length<=sizeLine/\Q .non (upd H l (.lst (xs++zs)))
theorem mt_extend:MtM X "list.extend" OS:=by
 intro pins s σ H x vs v us Q I rx rv h;obtain ⟨l,b,xs,zs,rfl,rfl,hH,hB,hz,q⟩:=h
 cases rx
 obtain ⟨u,rfl,ru⟩:=rv.one
 cases ru
 obtain ⟨z,its,n,r,hl,e⟩:=I.lstM hH;obtain ⟨z2,its2,n2,r2,hl2,e2⟩:=I.lstM hB;have hsz:its.toArray.size + its2.toArray.size<=sizeLine:=by rw [ug3,ug3];lia
 have hlong:¬(!its.toArray.isEmpty && Builtin.List.listTooLong (its.toArray.size + its2.toArray.size))=true:=by
  rw [I9 hsz,ul0];exact uf4
 refine call_meets F.slot_list_extend ⟨_,e,rfl⟩ F.entry_list_extend (F.args_list_extend_2 _ _)
  (AutoSeq1.list_extend_list_list_0 l its.toArray n b its2.toArray n2 hlong (by rw [ug3];lia) (by lia)) ⟨e,e2,?_⟩
 refine ⟨.non,_,I.lset (its':=its++its2) hH e (by simp) (r.append r2) ?_,rfl,q⟩;rw [uf7];lia
def Zg:V->List V->Hp->VK->Prop:=λx vs H Q=>∃l xs y,x = .ref l/\vs=[]/\H l=some (.lst xs)/\xs[xs.length - 1]?=some y/\Q y (upd H l (.lst xs.dropLast))
theorem Wm:MtM X "list.pop" Zg:=by
 intro pins s σ H x vs v us Q I rx rv h;obtain ⟨l,xs,y,rfl,rfl,hH,hy,q⟩:=h
 cases rx
 have hus:=rv.zero;subst hus;obtain ⟨z,its,n,r,hl,e⟩:=I.lstM hH;obtain ⟨u,hu,ru⟩:=r.get hy;have hy':its.toArray[its.toArray.size - 1]?=some u:=by
  show its.toArray[its.length - 1]?=some u;rw [<-Array.getElem?_toList,<-hl];exact hu
 refine call_meets F.slot_list_pop ⟨_,e,rfl⟩ F.entry_list_pop (F.args_list_pop_1 _) (MeetsSeq.list_pop_last l its.toArray n u hy' (by rw [ug3];lia)) ⟨e,?_⟩;refine ⟨y,_,I.lset (its':=its.dropLast) hH e ?_ r.dropLast ?_,ru,q⟩
 ·show its.toArray.eraseIdxIfInBounds (its.toArray.size - 1)=its.dropLast.toArray;rw [ug3,List.eraseIdxIfInBounds_toArray,Pg]
 ·rw [List.length_dropLast];lia
def SI:R2:=λx y H Q=>∃l b xs zs,x = .ref l/\y = .ref b/\H l=some (.lst xs)/\H b=some (.lst zs)/\xs.length + zs.length<=sizeLine/\∀p,H p=none->Q (.ref p) (upd H p (.lst (xs++zs)))
theorem op_cat:OpR X (binaryOp .Add) SI:=by
 intro pins s σ H x y v u Q I rx ry h;obtain ⟨l,b,xs,zs,rfl,rfl,hH,hB,hz,q⟩:=h
 cases rx
 cases ry
 obtain ⟨z,its,n,r,hl,e⟩:=I.lstM hH;obtain ⟨z2,its2,n2,r2,hl2,e2⟩:=I.lstM hB;refine PySem.P.add_list e e2 ?_ (by rw [ug3,ug3];lia);have ea:its.toArray++its2.toArray=(its++its2).toArray:=by simp
 rw [ea];exact ⟨.ref _,_,I.lnew (t':=s.toks) (r.append r2) (by rw [uf7];lia),rfl,q _ I.fresh⟩
def WW:R2:=λx y H Q=>∃l k xs,x = .ref l/\y = .int k/\H l=some (.lst xs)/\-(2 ^ 63)<=k/\k < 2 ^ 63/\xs.length * k.toNat<=sizeLine/\
 ∀p,H p=none->Q (.ref p) (upd H p (.lst (List.replicate k.toNat xs).flatten))
theorem KZ (xs:List α)(k:Nat):(List.replicate k xs).flatten.length=k * xs.length:=by
 induction k with
 | zero=>simp
 | succ k ih=>rw [ue7,ug8,uf7,ih,Nat.succ_mul,Nat.add_comm]
theorem Wv:OpR X (binaryOp .Mult) WW:=by
 intro pins s σ H x y v u Q I rx ry h;obtain ⟨l,k,xs,rfl,rfl,hH,h1,h2,hz,q⟩:=h
 cases rx
 obtain ⟨t,rfl⟩:=ry;obtain ⟨z,its,n,r,hl,e⟩:=I.lstM hH;have hlen:its.toArray.size * k.toNat<=sizeLine:=by rw [ug3,<-hl];exact hz
 have hcap:¬its.toArray.size * k.toNat > (2 ^ 63 - 1) / 8:=by
  have:(sizeLine:Nat)<=(2 ^ 63 - 1) / 8:=by decide
  lia
 have hfit:¬(!Builtin.List.listFitsIndex k)=true:=by
  rw [fitsIndex_both h1 h2];exact uf4
 have hlong:¬Builtin.List.listTooLong (its.toArray.size * k.toNat)=true:=by
  rw [I9 hlen];exact uf4
 have hnew:List.foldl (λx1 x2=>x1++x2) #[] (List.replicate (if its.toArray.isEmpty=true then 0 else k.toNat) its.toArray)=(List.replicate k.toNat its).flatten.toArray:=by
  have f0:∀m:Nat,List.foldl (λx1 x2=>x1++x2) #[] (List.replicate m its.toArray)=(List.replicate m its).flatten.toArray:=λm=>by
   have:=Hs its m [];rw [uj7] at this;exact this
  rw [f0]
  cases its with
  | nil=>simp
  | cons a r'=>rw [if_neg (by simp)]
 refine wpAny_binaryOp_repeat_ref (T:="list") (U:="int") (by decide) ⟨_,e,rfl⟩ (λs'=>typeIs_int s' k t) noFill_list_mul F.fills_int_mul F.slot_int_rmul repeat_list F.slot_int_index.lookup
  (call_meets F.slot_int_rmul (typeIs_int s k t) F.entry_int_rmul (F.args_int_rmul_2 _ _) (int___rmul___int_list k t l its.toArray n)
    ⟨e,rfl,⟨_,e,rfl⟩,call_meets F.slot_list_mul ⟨_,e,rfl⟩ F.entry_list_mul (F.args_list_mul_2 _ _) (AutoListH.list___mul___list_int_3 l its.toArray n k t hfit hcap hlong) ⟨e,?_⟩⟩)
 rw [hnew];exact ⟨.ref _,_,I.lnew (t':=s.toks) (r.rep k.toNat) (by rw [KZ,um8];exact hz),rfl,q _ I.fresh⟩
end
section
variable {prog:Program}{w:World}{A:Around}{E:Value->Shared->Prop}{s:Shared}
end
section
variable {X:Cx}
end
end L2
namespace Att
open PySem PySem.W PySem.Calls PyProof.Rows
theorem JZ {P:Params}{h:Heap}:∀(ns:List Int) (vs:List Value),WellAll P h vs (ns.map WData.int)->IntsAre vs ns:=by
 intro ns
 induction ns with
 | nil=>
   intro vs w;rw [um9] at w
   cases w
   exact .nil
 | cons n ns ih=>
   intro vs w;rw [ul7] at w
   cases w with
   | cons a b=>
     cases a
     exact .cons _ _ (ih _ b)
theorem Rb {l:OpenLaw}{n:Nat}(hn:l.most=some n){P:Params}{h:Heap}{args:List WData}{vals:List Value}
 (hpre:l.row.toRowW.claim.pre args=true) (hwl:WellAll P h vals args) :
 ∃a vs ns,vals=[Value.ref a]/\args=[WData.list (ns.map WData.int)]/\h.get? a=some { cls:=.type "list",data:=.seq vs.toArray }/\IntsAre vs ns/\ns.length<=n:=by
 have hsh:WShape.hasAll [] args [.list .int]=true:=(pre_splitW hpre).1;have hc:l.pre.holds [] { args:=args }=true:=(pre_splitW hpre).2;obtain ⟨d,r,rfl,h1,h2⟩:=hasAllW_cons hsh;obtain rfl:=hasAllW_nil h2;obtain ⟨xs,rfl,h3⟩:=hasW_list h1;obtain ⟨ns,rfl⟩:=items_int h3;have hlen:ns.length<=n:=by
  unfold OpenLaw.pre at hc;have h4:(WTm.not (.lt (.lit (.int (n:Int))) (.len (.arg 0)))).holds [] { args:=[.list (ns.map .int)] }=true:=by
   have h4:=(holds_andW hc).1;rw [hn] at h4;exact h4
  have h5:=condW_of h4 (w_not (w_lt w_lit (w_len_list (w_arg rfl))));rw [uj5] at h5;refine Nat.le_of_not_lt λq=>?_;have q':(n:Int) < ((ns.length:Nat):Int):=by lia
  first
   | (rw [ul2 q'] at h5;exact absurd h5 (by decide))
   | (simp at h5;lia)
 cases hwl with
 | cons w1 w2=>
   cases w2
   cases w1 with
   | list ho hall=>exact ⟨_,_,ns,rfl,rfl,ho,JZ ns _ hall,hlen⟩
theorem Q0 (l:OpenLaw)(args:List WData):l.row.toRowW.claim.post args (.bool true) args=true:=
 postW_of (r:=l.row.toRowW) (X:=(true == true))
  (show WShape.has [] (.bool true) .bool=true by first | rfl | decide | simp [WShape.has,WShape.arms,WShape.armsAll])
  (show (WTm.eq .res (.lit (.bool true))).value [] { args:=args,res:=some (.bool true),after:=args }=some (.bool (true == true)) from w_eq_bool (w_res rfl) w_lit) rfl
theorem attach_call {l:OpenLaw}{n:Nat}{q:Program}{loose:List Str}{XP:(Str->Option Value)->Heap->Prop}{YP:World->Heap->Prop}{d:DefRec}
 (hn:l.most=some n) (hdf:d.params.defaults=[])
 (call:∀(w:World) (s₀ s₁:Shared) (mg mb:Str->Option Value) (fa:Addr) (o:Obj) (pm cd doc:Value) (a:Addr) (vs:List Value) (ns:List Int),
   Ground q loose [] XP w s₀ mg mb s₁.heap->YP w s₁.heap->
   s₁.heap.get? fa=some o->o.data = .func (docDef d.name d.params d.body d.scope pm cd doc)->s₁.heap.CodeRec cd d.name->mg d.name=some (.ref fa)->
   s₁.heap.get? a=some { cls:=.type "list",data:=.seq vs.toArray }->IntsAre vs ns->ns.length<=n->s₁.gens=#[]->
   codeAny (model l.prog w) callerA (.call (.ref fa) ⟨[.ref a],[]⟩) (λr s'=>r = .ok (.ret (.bool true))/\OldK s₁.heap s'.heap/\s'.os=s₁.os/\AllBare s'.gens) s₁) :
 WalkO q loose XP YP l.row.toRowW d [] (λf vs=>PySem.call f vs):=by
 intro w s₀ s₁ mg mb G Y fa o pm cd doc dV kV ho hd hcd hD hmg hg args vals as hpre hlay hrd hwl hlo;obtain rfl:dV = .none:=Dflts.none hD hdf;obtain rfl:kV = .none:=Dflts.noKw hD;obtain ⟨a,vs,ns,rfl,rfl,hobj,hints,hlen⟩:=Rb hn hpre hwl;refine enter_call (codeAny_mono (call w s₀ s₁ mg mb fa o pm cd doc a vs ns G Y ho (fd_plain hd) hcd hmg hobj hints hlen hg) λr s' hq=>?_);obtain ⟨rfl,h2,h3,h4⟩:=hq;exact ⟨.inl ⟨.bool true,.bool true,[],rfl,λ_=>rfl,.bool true,Q0 l _,λ_=>⟨List.Pairwise.nil,λ_ hm=>(nomatch hm)⟩⟩,h2,h3,h4⟩
section
variable {prog:Program}{w:World}{A:Around}{E:Value->Shared->Prop}{s:Shared}{K:Frag}
noncomputable def af (h:Heap)(L d:Addr):List (Addr×Obj):=(List.range h.objs.size).filterMap λa=>if a=L\/a=d then none else (h.get? a).map λo=>(a,o)
end
end Att
namespace L2
open PySem PySem.Spec PyProof.Rows
theorem LN:∀{vs:List Value} {ns:List Int},IntsAre vs ns->Vals (ns.map V.int) vs
 | _,_,.nil=>.nil
 | _,_,.cons n t h=>.cons ⟨t,rfl⟩ (LN h)
def O3 (H:Hp):Prop:=∀b,H b=none\/∃o xs,H b=some (.frz o (.lst xs))
variable {P:Program}{w:World}{fd:FuncData}{x:Str}
theorem Sb {K:PySem.W.Frag}{mg mb:Str->Option Value}{CX:CXT}{k:Nat}{fa a:Addr}{sp:Sp}{s₁:Shared}{vs:List Value}{ns:List Int}
 (KX:K.In s₁.heap) (hns:s₁.heap.Ns mainGlobals mg) (hb:s₁.heap.Ns builtinsNs mb) (hbb:∀x:Str,x≠"__name__"->mb x=bootBuiltins x) (hlim:s₁.heap.NoLimit) (hg:s₁.gens=#[])
 (ha:s₁.heap.get? a=some { cls:=.type "list",data:=.seq vs.toArray }) (hi:IntsAre vs ns) (hl:ns.length<=sizeLine) (hr:Room k callerA)
 (F:∀base:Heap,K.In base->base.Ns mainGlobals mg->FnOk P w K mg base CX k fa fd [x] sp) (hbind:∀(s:Shared) (u:Value),BindsTo s fd ⟨[u],[]⟩ [(x,u)])
 (hsp:∀H:Hp,O3 H->SqL K H a (ns.map V.int)->sp [.ref a] H (λv _=>v = .bl true) λ_ _ _=>False)
 (hCX:∀H e s',CX [] H s₁ (λ_ _ _=>False) e s'->False) :
 codeAny (model P w) callerA (.call (.ref fa) ⟨[.ref a],[]⟩) (λr s'=>r = .ok (.ret (.bool true))/\OldK s₁.heap s'.heap/\s'.os=s₁.os/\AllBare s'.gens) s₁:=by
 have rv:=LN hi;have lenV:=hi.length
 -- from an abstract heap in which nothing but the script may be tracked
 have core:∀H:Hp,O3 H->SqL K H a (ns.map V.int)->HOk P w H s₁.heap->(∀b,H b≠none->b=a)->(H a≠none->K.lookup a=none)->
  codeAny (model P w) callerA (.call (.ref fa) ⟨[.ref a],[]⟩) (λr s'=>r = .ok (.ret (.bool true))/\OldK s₁.heap s'.heap/\s'.os=s₁.os/\AllBare s'.gens) s₁:=by
  intro H hO hS hok hA hK;have base_of:∀{b:Addr} {o:Obj},s₁.heap.get? b=some o->H b=none->(GU s₁.heap H).get? b=some o:=λe n=>Sa e n;have noA:∀{b:Addr} {o:Obj} {es:Array DictEntry} {ep:Nat},s₁.heap.get? b=some o->o.data = .dict es ep->H b=none:=λ{b o es ep} e d=>by
   cases q:H b with
   | none=>rfl
   | some u=>
     have e':b=a:=hA b (by rw [q];simp);subst e';rw [ha] at e;cases e
     have d':Data.seq vs.toArray _=Data.dict es ep:=d
     cases d'
  have nsK:∀{b:Addr} {m:Str->Option Value},s₁.heap.Ns b m->(GU s₁.heap H).Ns b m:=λ{b m} ⟨o,es,ep,e,d,r⟩=>⟨o,es,ep,base_of e (noA e d),d,r⟩;have hKb:K.In (GU s₁.heap H):=λb o e=>base_of (KX b o e) (by
   cases q:H b with
   | none=>rfl
   | some u=>
     have e':b=a:=hA b (by rw [q];simp);subst e';rw [hK (by rw [q];simp)] at e;cases e)
  have hM:Mod K mg (GU s₁.heap H):=⟨hKb,nsK hns,⟨mb,nsK hb,hbb⟩,let ⟨mc,h1,h2⟩:=hlim;⟨mc,nsK h1,h2⟩⟩;have e0:Env0 P w K mg (GU s₁.heap H) callerA [] s₁ H:=⟨rfl,hM,λb o e=>UH e,Nat.le_of_eq (Qz _ _),trivial,λb hb=>absurd (show b∈([]:List Addr) from hb) (by simp),hok,.of_eq hg⟩;refine codeAny_mono ((F _ hKb (nsK hns)).run callerA [] s₁ H ⟨[.ref a],[]⟩ [.ref a] [.ref a] _ _ hr e0 (hbind s₁ (.ref a)) (.cons rfl .nil) (hsp H hO hS)) λr s' h=>?_
  cases r with
  | error e=>exact (hCX H e s' h).elim
  | ok fl=>
    cases fl with
    | next=>exact False.elim h
    | brk=>exact False.elim h
    | cont=>exact False.elim h
    | ret u=>
      obtain ⟨v,H',os,bare,un,hok',r',q⟩:=h;have q':v = .bl true:=q;subst q';obtain rfl:u=Value.bool true:=r';refine ⟨rfl,OldK.of_keep λb o e=>?_,os,bare⟩
      cases q:H b with
      | none=>exact un.keep b o e q (by intro z;exact absurd (show b∈([]:List Addr) from z) (by simp)) (by simp)
      | some u=>
        rcases hO b with z | ⟨ob,xs,z⟩
        ·rw [q] at z;cases z
        ·have z2:=un.frzs b ob _ z;obtain ⟨e1,_⟩:=hok b _ z;obtain ⟨e2,_⟩:=hok' b _ z2;rw [e] at e1;cases e1
         exact e2
 cases hk:K.lookup a with
 | some o=>
   -- the script is one of the module's own objects
   have e:=KX a o hk;rw [ha] at e
   cases e
   refine core (λ_=>none) (λ_=>.inl rfl) (.inr ⟨_,vs.toArray,_,hk,rfl,rfl,rfl,by rw [ug3,lenV];exact hl,by simpa using rv⟩) (λb u z=>by have z':(none:Option HO)=some u:=z;cases z') (λb z=>absurd rfl z) λz=>absurd rfl z
 | none=>
   refine core (λb=>if b=a then some (.frz { cls:=.type "list",data:=.seq vs.toArray } (.lst (ns.map V.int))) else none) (λb=>?_) (.inl (.inr ⟨{ cls:=.type "list",data:=.seq vs.toArray },if_pos rfl⟩)) (λb u z=>?_) (λb z=>?_) λ_=>hk
   ·by_cases hb:b=a
    ·exact .inr ⟨_,_,if_pos hb⟩
    ·exact .inl (if_neg hb)
   ·by_cases hb:b=a
    ·have z':=(if_pos hb).symm.trans z
     cases z'
     subst hb;exact ⟨ha,by rw [uj5];exact hl,vs,_,rv,ha⟩
    ·have z':=(if_neg hb).symm.trans z
     cases z'
   ·by_cases hb:b=a
    ·exact hb
    ·exact absurd (if_neg hb) z
theorem VG {l:PySem.W.OpenLaw}{n k:Nat}{q:Program}{loose:List Str}{XP:(Str->Option Value)->Heap->Prop}{YP:World->Heap->Prop}{d:DefRec}{K:Params->PySem.W.Frag}{CX:World->CXT}{sp:World->Sp}
 (hn:l.most=some n) (hn2:n<=sizeLine) (hdf:d.params.defaults=[]) (hr:Room k callerA)
 (hY:∀(w:World) (h:Heap),YP w h->(K w.params).In h)
 (F:∀(w:World) (mg:Str->Option Value) (fa:Addr) (h:Heap),(K w.params).In h->h.Ns mainGlobals mg->mg d.name=some (.ref fa)->
   ∃fd:FuncData,(∀(s:Shared) (u:Value),BindsTo s fd ⟨[u],[]⟩ [(x,u)])/\
    ∀base:Heap,(K w.params).In base->base.Ns mainGlobals mg->FnOk l.prog w (K w.params) mg base (CX w) k fa fd [x] (sp w))
 (hsp:∀(w:World) (H:Hp) (a:Addr) (ns:List Int),ns.length<=n->O3 H->SqL (K w.params) H a (ns.map V.int)->sp w [.ref a] H (λv _=>v = .bl true) λ_ _ _=>False)
 (hCX:∀(w:World) (H:Hp) (s:Shared) (e:Value) (s':Shared),CX w [] H s (λ_ _ _=>False) e s'->False) :
 PySem.W.WalkO q loose XP YP l.row.toRowW d [] (λf vs=>PySem.call f vs):=by
 refine Att.attach_call hn hdf λw s₀ s₁ mg mb fa o pm cd doc a vs ns G Y ho hd hcd hmg hobj hints hlen hg=>?_;have KX:=hY w _ Y;obtain ⟨fd,hb,hF⟩:=F w mg fa _ KX G.T.g hmg;exact Sb KX G.T.g G.T.b G.T.builtins G.T.nolimit hg hobj hints (um5 hlen hn2) hr hF hb (λH hO hS=>hsp w H a ns hlen hO hS) λH e s'=>hCX w H s₁ e s'
noncomputable def Ek (s:Stmt):Arguments:=match s with
 | .FunctionDef _ a _ _ _ _ _ _ _ _=>a
 | _=>{ posonlyargs:=[],args:=[],vararg:=none,kwonlyargs:=[],kw_defaults:=[],kwarg:=none,defaults:=[] }
noncomputable def B5 (s:Stmt):List Stmt:=match s with
 | .FunctionDef _ _ b _ _ _ _ _ _ _=>b
 | _=>[]
noncomputable def Ap (s:Stmt):Scope:=match s with
 | .FunctionDef _ _ _ _ _ _ sc _ _ _=>sc
 | _=>{ kind:=.function,names:=[],isGenerator:=false,isCoroutine:=false }
abbrev CX0:CXT:=λ_ _ _ _ _ _=>False
abbrev E0:XK:=λ_ _ _=>False
variable {X:Cx}
theorem Tw:MA CX0 X E0:=λ_ _ _ _ _ _ _ h=>h.elim
structure Fun (K:PySem.W.Frag)(x qual:Str)(st:Stmt)(f:Addr)(fd:FuncData):Prop where
 ex:∃(oc:Value) (od:Option Addr) (kV doc pm:Value) (an:Option Addr) (cdv ct:Value) (osl:Array (Option Value)),
  fd=PySem.W.fnOf x qual (Ek st) (B5 st) (Ap st) .none kV doc pm an cdv ct/\K.lookup f=some ⟨oc,od,.func fd,osl⟩/\PySem.W.codeIn K cdv qual=true
 kp:PySem.W.keepIn K (.ref f)=true
variable {qual:Str}{f:Addr}
section
variable {P:Program}{w:World}{K:PySem.W.Frag}{mg:Str->Option Value}{base:Heap}
theorem Fun.ok {st:Stmt}{N ps:List Str}{k:Nat}{sp:Sp}(F:Fun K x qual st f fd)(S:FnScope N ps (Ap st))(len:∀vs H Q E,sp vs H Q E->vs.length=ps.length)
 (hbody:∀(cdv:Value) (A:Around) (outer:List Env) (s:Shared) (H:Hp) (vs:List V) (Q:VK) (E:XK),Room k (A.deeper (envOfC qual (Ap st) s.heap.objs.size f cdv))->sp vs H Q E->
   ∃t,PSs (DM CX0 P w K mg base N qual (Ap st) f cdv A outer s H E).nox (B5 st) t/\t { nx:=λ_ H'=>Q .non H',rt:=Q } (Da N vs) H):FnOk P w K mg base CX0 (k + 1) f fd ps sp:=by
 obtain ⟨oc,od,kV,doc,pm,an,cdv,ct,osl,rfl,lk,hcd⟩:=F.ex;refine Ts lk hcd S len λA outer s H vs Q E hr hsp=>?_;obtain ⟨t,h,q⟩:=hbody cdv A outer s H vs Q E hr hsp;exact ⟨t,h.nox,q⟩
theorem Fun.binds {st:Stmt}{ps:List Str}(F:Fun K x qual st f fd)
 (h:∀(kV doc pm:Value) (an:Option Addr) (cdv ct:Value) (us:List Value),us.length=ps.length->bindArgs (PySem.W.fnOf x qual (Ek st) (B5 st) (Ap st) .none kV doc pm an cdv ct) ⟨us,[]⟩=pure (ps.zip us)):Binds K fd ps []:=by
 obtain ⟨oc,od,kV,doc,pm,an,cdv,ct,osl,rfl,lk,hcd⟩:=F.ex;exact .all (h kV doc pm an cdv ct)
theorem JW {st:Stmt}{oc:Value}{od an:Option Addr}{osl:Array (Option Value)}{kV doc pm cdv ct:Value}(l:K.lookup f=some ⟨oc,od,.func (PySem.W.fnOf x qual (Ek st) (B5 st) (Ap st) .none kV doc pm an cdv ct),osl⟩)
 (c:PySem.W.codeIn K cdv qual=true) (k:PySem.W.keepIn K (.ref f)=true):Fun K x qual st f (PySem.W.fnOf x qual (Ek st) (B5 st) (Ap st) .none kV doc pm an cdv ct):=⟨⟨oc,od,kV,doc,pm,an,cdv,ct,osl,rfl,l,c⟩,k⟩
end
section
variable {X:Cx}
end
def ar (H H':Hp):Prop:=∀b o,H b=some o->H' b=some o
section
variable {κ:Type}[DecidableEq κ]
noncomputable def DY (kvs:List (κ×V))(k:κ):Option V:=(kvs.find? λkv=>decide (kv.1=k)).map (·.2)
noncomputable def DW (kvs:List (κ×V))(k:κ)(v:V):List (κ×V):=
 if (kvs.any λkv=>decide (kv.1=k))=true then kvs.map (λkv=>if kv.1=k then (kv.1,v) else kv) else kvs++[(k,v)]
theorem He {p:κ×V}{r:List (κ×V)}{k:κ}(e:p.1=k):DY (p :: r) k=some p.2:=by simp [DY,uj8,e]
theorem Hd {p:κ×V}{r:List (κ×V)}{k:κ}(e:¬p.1=k):DY (p :: r) k=DY r k:=by simp [DY,uj8,e]
theorem IH (kvs:List (κ×V))(k:κ)(v:V):(DW kvs k v).length<=kvs.length + 1:=by
 unfold DW
 split
 ·rw [uj5];lia
 ·rw [uf7,uh9,uj9];lia
theorem RelO.isSome_eq {o:Option V}{u:Option Value}(r:RelO o u):o.isSome=u.isSome:=by
 cases o with
 | none=>cases u with
   | none=>rfl
   | some _=>exact (show False from r).elim
 | some _=>cases u with
   | none=>exact (show False from r).elim
   | some _=>rfl
theorem KV.val {kvs:List (κ×V)}{vs:List (κ×Value)}(r:KV kvs vs)(k:κ):RelO (DY kvs k) (valueAt vs k):=by
 unfold KV at r
 induction r with
 | nil=>exact True.intro
 | @cons p q ps qs h t ih=>
   obtain ⟨h1,h2⟩:=h
   by_cases e:p.1=k
   ·have e':q.1=k:=h1.symm.trans e;have b:valueAt (q :: qs) k=some q.2:=by simp [valueAt,uj8,e']
    rw [He e,b];exact h2
   ·have e':¬q.1=k:=λz=>e (h1.trans z);have b:valueAt (q :: qs) k=valueAt qs k:=by simp [valueAt,uj8,e']
    rw [Hd e,b];exact ih
theorem KV.any {kvs:List (κ×V)}{vs:List (κ×Value)}(r:KV kvs vs)(k:κ):(kvs.any λkv=>decide (kv.1=k))=vs.any λkv=>decide (kv.1=k):=by
 unfold KV at r
 induction r with
 | nil=>rfl
 | cons h t ih=>rw [ul8,ul8,ih,h.1]
theorem KV.repl {kvs:List (κ×V)}{vs:List (κ×Value)}(r:KV kvs vs)(k:κ){y:V}{u:Value}(ry:RelV y u) :
 KV (kvs.map λkv=>if kv.1=k then (kv.1,y) else kv) (vs.map λkv=>if kv.1=k then (kv.1,u) else kv):=by
 unfold KV at r ⊢
 induction r with
 | nil=>exact .nil
 | @cons p q ps qs h t ih=>
   rw [ul7,ul7];refine .cons ?_ ih;obtain ⟨h1,h2⟩:=h
   by_cases e:p.1=k
   ·rw [if_pos e,if_pos (h1.symm.trans e)];exact ⟨h1,ry⟩
   ·rw [if_neg e,if_neg (λz=>e (h1.trans z))];exact ⟨h1,h2⟩
theorem KV.put {kvs:List (κ×V)}{vs:List (κ×Value)}(r:KV kvs vs)(k:κ){y:V}{u:Value}(ry:RelV y u):KV (DW kvs k y) (stored vs k u):=by
 unfold DW stored;rw [r.any k]
 by_cases e:(vs.any λkv=>decide (kv.1=k))=true
 ·rw [if_pos e,if_pos e];exact r.repl k ry
 ·rw [if_neg e,if_neg e];exact Paired.snoc r ⟨rfl,ry⟩
theorem KV.length {kvs:List (κ×V)}{vs:List (κ×Value)}(r:KV kvs vs):kvs.length=vs.length:=Paired.length r
end
theorem J2 {k:Key}{u:Value}(r:RelV (kV k) u):(Co P w).is k u=true:=by
 cases k with
 | inl i=>obtain ⟨t,e⟩:=(show ∃t,u=Value.int i t from r);subst e;exact N7 P w i t
 | inr x=>obtain ⟨t,e⟩:=(show ∃t,u=Value.str x t from r);subst e;exact N8 P w x t
theorem LD {P:Program}{w:World}:∀{ks:List Key} {us:List Value},Vals (ks.map kV) us->ItemsAre (Co P w) ks us
 | [],_,r=>by rw [um9] at r;cases r;exact .nil
 | k :: ks,_,r=>by
   rw [ul7] at r
   cases r with
   | cons h t=>exact .cons (J2 h) (LD t)
abbrev KT (H:Hp):List (List Key×V)->List (List Key×Addr×Value)->Prop:=Paired λp q=>p.1=q.1/\H q.2.1=some (.tup (p.1.map kV))/\RelV p.2 q.2.2
variable {H:Hp}
theorem KT.val {kvs:List (List Key×V)}{xs:List (List Key×Addr×Value)}(r:KT H kvs xs)(k:List Key):RelO (DY kvs k) ((atKey xs k).map (·.2)):=by
 induction r with
 | nil=>exact True.intro
 | @cons p q ps qs h t ih=>
   obtain ⟨h1,_,h2⟩:=h
   by_cases e:p.1=k
   ·have e':q.1=k:=h1.symm.trans e;have b:atKey (q :: qs) k=some q.2:=by simp [atKey,uj8,e']
    rw [He e,b];exact h2
   ·have e':¬q.1=k:=λz=>e (h1.trans z);have b:atKey (q :: qs) k=atKey qs k:=by simp [atKey,uj8,e']
    rw [Hd e,b];exact ih
variable {kvs:List (Key×V)}
section
variable {P:Program}{w:World}{H:Hp}{h:Heap}{a:Addr}
theorem TL {u:HO}(ok:HOk P w H h)(e:Rd H a u):ObjOk P w H h a u:=e.ok ok
theorem Tp (ok:HOk P w H h)(e:Rd H a (.dK kvs)):kvs.length<=sizeLine/\(a == sysModules)=false/\∃vs,KV kvs vs/\h.DictOf (Co P w) a vs:=
 show ObjOk P w H h a (.dK kvs) from TL ok e
theorem Mm (ok:HOk P w H h)(e:H a=some (.dK kvs)):kvs.length<=sizeLine/\(a == sysModules)=false/\∃vs,KV kvs vs/\h.DictOf (Co P w) a vs:=Tp ok (.inl e)
theorem QJ {ks:List Key}(ok:HOk P w H h)(e:H a=some (.tup (ks.map kV))):(tupleKind (Co P w)).is h ks a:=by
 obtain ⟨_,its,r,o,h1,h2,n,h3⟩:=(show ObjOk P w H h a (.tup (ks.map kV)) from ok a _ e);exact ⟨o,its.toArray,n,h1,h2,h3,by simpa using LD r⟩
theorem XF {kvs:List (List Key×V)}(ok:HOk P w H h)(e:Rd H a (.dT kvs)):kvs.length<=sizeLine/\(a == sysModules)=false/\
 ∃xs,KT H kvs xs/\h.DictOfH (tupleKind (Co P w)) a xs:=by
 obtain ⟨z,y,xs,r,o,es,ep,h1,h2,h3,h4,h5⟩:=(show ObjOk P w H h a (.dT kvs) from TL ok e);refine ⟨z,y,xs,r,o,es,ep,h1,h2,h3,h4,λx hx=>?_,h5⟩;have all:∀{l:List (List Key×V)} {m:List (List Key×Addr×Value)},KT H l m->∀x∈m,(tupleKind (Co P w)).is h x.1 x.2.1:=by
  intro l m q
  induction q with
  | nil=>intro x hx;exact nomatch hx
  | @cons p q ps qs hq t ih=>
    intro x hx;rcases ul4.mp hx with e | hx
    ·subst e;exact QJ ok (by rw [<-hq.1];exact hq.2.1)
    ·exact ih x hx
 exact all r x hx
end
def DGet (H:Hp)(a:Addr)(y:V)(r:Option V):Prop:=
 (∃kvs k,Rd H a (.dK kvs)/\y=kV k/\r=DY kvs k)\/∃kvs k b,Rd H a (.dT kvs)/\y = .ref b/\H b=some (.tup (k.map kV))/\r=DY kvs k
def ap (H:Hp)(a:Addr)(y v:V)(H':Hp):Prop:=
 (∃kvs k,H a=some (.dK kvs)/\y=kV k/\kvs.length < sizeLine/\H'=upd H a (.dK (DW kvs k v)))\/
 ∃kvs k b,H a=some (.dT kvs)/\y = .ref b/\H b=some (.tup (k.map kV))/\kvs.length < sizeLine/\H'=upd H a (.dT (DW kvs k v))
theorem DGet.k {a:Addr}{k:Key}(e:H a=some (.dK kvs)):DGet H a (kV k) (DY kvs k):=.inl ⟨kvs,k,.inl e,rfl,rfl⟩
section
variable {X:Cx}{pins:List (Addr×Obj)}{σ:St}{H:Hp}{s:Shared}{a:Addr}{y v:V}{u r:Value}{o:Option V}{A:Around}{E:Value->Shared->Prop}
theorem Inv.big (I:Inv X pins σ H s):sysModules < s.heap.objs.size:=by
 have h:mainGlobals < s.heap.objs.size:=(I.mod.glob.keeps I.bk).lt;exact Nat.lt_trans (by decide) h
theorem Y1 {Q:Value->Shared->Prop}(hu:A.units + 1 < cLine)(I:Inv X pins σ H s)(g:DGet H a y o)(ry:RelV y u)(h:∀s',Inv X pins σ H s'->Q (.bool o.isSome) s') :
 wpAny (model X.prog X.w) A (compareOp .In u (.ref a)) Q E s:=by
 rcases g with ⟨kvs,k,e,ey,l⟩ | ⟨kvs,k,b,e,ey,eb,l⟩
 ·subst ey;obtain ⟨z,hd,vs,rel,dd⟩:=Tp I.hok e;refine wpAny_in_of (J2 ry) hd dd.mapOf ?_;rw [<-(rel.val k).isSome_eq,<-l];exact h _ (I.tok _)
 ·subst ey
  cases (show u=Value.ref b from ry)
  obtain ⟨z,hd,xs,rel,dd⟩:=XF I.hok e;refine wpAny_in_heap (tupleKind_room_in1 hu) (QJ I.hok eb) hd dd ?_;have q:=(rel.val k).isSome_eq;rw [Option.isSome_map] at q;rw [<-q,<-l];exact h _ (I.tok _)
theorem OA {h':Heap}{t':Nat}{ob:HO}(I:Inv X pins σ H s)(mu:Mut (H a))(hs:Heap.SameBut a s.heap h')(he:∃q,h'.get? a=some q)(new:ObjOk X.prog X.w (upd H a ob) h' a ob) :
 Inv X pins σ (upd H a ob) { s with heap:=h',toks:=t' }:=
 I.write (x:=a) (e:=a) mu (.inl rfl) (λb q hb z=>(hs.2 b hb).trans z) he new
theorem MY {H':Hp}{h':Heap}{vs:List (Key×Value)}(z:kvs.length<=sizeLine)(hd:(a == sysModules)=false)(rel:KV kvs vs)(dd:h'.DictOf (Co P w) a vs) :
 ObjOk P w H' h' a (.dK kvs):=⟨z,hd,vs,rel,dd⟩
end
section
variable {X:Cx}{pins:List (Addr×Obj)}{σ:St}{H:Hp}{s:Shared}{a:Addr}{kvs:List (Key×V)}{k:Key}{u:Value}{A:Around}{E:Value->Shared->Prop}
end
section
variable {X:Cx}{o i e value:Expr}{pos pos' tpos:Pos}{td ty tv:TE}
end
theorem MX (h:Heap)(hb:sysModules < h.objs.size):ObjOk P w H (h.push { cls:=.type "dict",data:=.dict #[] }) h.objs.size (.dK []):=
 ⟨un7 _,beq_eq_false_iff_ne.mpr (Ne.symm (um4 hb)),[],.nil,Heap.DictOf.new h⟩
def Xg:TE:=λ_ H Q=>∀p,H p=none->Q (.ref p) (upd H p (.dK []))
section
variable {X:Cx}{pos:Pos}
theorem Sw:PE X (.Dict [] [] pos) Xg:=λpins s σ H Q I h=>
 wpAny_Dict_empty ⟨.ref s.heap.objs.size,_,I.laid (a:=s.heap.objs.size) (o:=.dK []) (t':=s.toks) (λ_ _ q=>uc5 _ q) (un6 _) (MX s.heap I.big),rfl,h _ (I.hok.fresh (un6 _))⟩
end
def Kw:List (TE×TE)->St->Hp->(List (V×V)->Hp->Prop)->Prop
 | [],_,H,Q=>Q [] H
 | (tk,tv) :: r,σ,H,Q=>tk σ H λx H1=>tv σ H1 λy H2=>Kw r σ H2 λps H3=>Q ((x,y) :: ps) H3
abbrev VV:List (V×V)->List (Value×Value)->Prop:=Paired λp q=>RelV p.1 q.1/\RelV p.2 q.2
def PPs (X:Cx)(pos:Pos)(keys:List (Option Expr))(values:List Expr)(trs:List (TE×TE)):Prop:=
 ∀(pins:List (Addr×Obj)) (s:Shared) (σ:St) (H:Hp) (Q:List (V×V)->Hp->Prop),Inv X pins σ H s->Kw trs σ H Q->
  wpAny (model X.prog X.w) X.A (evalPairs (pairTrees keys values X.env pos)) (λvs s'=>∃ps H',Inv X pins σ H' s'/\VV ps vs/\Q ps H') X.xe s
theorem U3 {pos:Pos}:PPs X pos [] [] []:=λpins s σ H Q I h=>pairTrees_nil_walk ⟨[],H,I,.nil,h⟩
theorem SD {pos:Pos}{k v:Expr}{ks:List (Option Expr)}{vs:List Expr}{tk tv:TE}{trs:List (TE×TE)}(hk:PE X k tk)(hv:PE X v tv)(hr:PPs X pos ks vs trs) :
 PPs X pos (some k :: ks) (v :: vs) ((tk,tv) :: trs):=λpins s σ H Q I h=>
 pairTrees_cons_walk (thn (hk pins s σ H _ I h) λu s1 ⟨x,H1,I1,rx,q1⟩=>thn (hv pins s1 σ H1 _ I1 q1) λw2 s2 ⟨y,H2,I2,ry,q2⟩=>
  thn (hr pins s2 σ H2 _ I2 q2) λws s3 ⟨ps,H3,I3,rel,q3⟩=>⟨(x,y) :: ps,H3,I3,.cons ⟨rx,ry⟩ rel,q3⟩)
def FP (kvs more:List (Key×V)):List (Key×V):=more.foldl (λacc kv=>DW acc kv.1 kv.2) kvs
theorem KV.merge:∀{more:List (Key×V)} {rs:List (Key×Value)} {kvs:List (Key×V)} {vs:List (Key×Value)},KV more rs->KV kvs vs->KV (FP kvs more) (merged vs rs):=by
 intro more rs kvs vs r;unfold KV at r
 induction r generalizing kvs vs with
 | nil=>intro q;exact q
 | @cons p q ps qs h t ih=>
   intro r0;have e:KV (DW kvs p.1 p.2) (stored vs q.1 q.2):=by
    have:=r0.put p.1 h.2;rw [<-h.1];exact this
   exact ih e
theorem Hh:∀(more kvs:List (Key×V)),(FP kvs more).length<=kvs.length + more.length
 | [],kvs=>by show kvs.length<=kvs.length + 0;lia
 | p :: r,kvs=>by
   have h1:=Hh r (DW kvs p.1 p.2);have h2:=IH kvs p.1 p.2;show (FP (DW kvs p.1 p.2) r).length<=_;rw [uh9];lia
theorem JH {P:Program}{w:World}:∀{kvs:List (Key×V)} {ws:List (Value×Value)},VV (kvs.map λkv=>(kV kv.1,kv.2)) ws->∃rs,Carries (Co P w) ws rs/\KV kvs rs
 | [],_,r=>by rw [um9] at r;cases r;exact ⟨[],True.intro,.nil⟩
 | p :: kvs,_,r=>by
   rw [ul7] at r
   cases r with
   | @cons a b as bs h t=>
     obtain ⟨rs,c,q⟩:=JH (P:=P) (w:=w) t;obtain ⟨b1,b2⟩:=b;exact ⟨(p.1,b2) :: rs,⟨J2 h.1,rfl,c⟩,.cons ⟨rfl,h.2⟩ q⟩
def X4 (trs:List (TE×TE)):TE:=λσ H Q=>∀p,H p=none->Kw trs σ (upd H p (.dK [])) λps H2=>H2 p=some (.dK [])/\∃kvs:List (Key×V),ps=kvs.map (λkv=>(kV kv.1,kv.2))/\kvs.length<=15/\Q (.ref p) (upd H2 p (.dK (FP [] kvs)))
theorem UT {pos:Pos}{keys:List (Option Expr)}{values:List Expr}{trs:List (TE×TE)}(h:PPs X pos keys values trs)(hall:keys.all (·.isSome)=true)(hl:keys.length=values.length)(h0:keys≠[])
 (h15:keys.length<=15):PE X (.Dict keys values pos) (X4 trs):=by
 intro pins s σ H Q I q;have hn:=I.hok.fresh (un6 s.heap.objs.size);have I1:=I.laid (a:=s.heap.objs.size) (o:=.dK []) (h':=s.heap.push { cls:=.type "dict",data:=.dict #[] }) (t':=s.toks) (λ_ _ q=>uc5 _ q) (un6 _) (MX s.heap I.big);refine wpAny_Dict_walk (knd:=Co X.prog X.w) hall hl h0 h15 (thn (h pins _ σ _ _ I1 (q _ hn)) λws s2 z9=>?_);obtain ⟨ps,H2,I2,rel,e,kvs,ep,lk,q2⟩:=z9;subst ep;obtain ⟨rs,c,rk⟩:=JH (P:=X.prog) (w:=X.w) rel;obtain ⟨z,hd,vs0,r0,dd⟩:=Mm I2.hok e
 cases r0
 refine ⟨rs,c,dd,λh' dd' hs=>⟨.ref s.heap.objs.size,_,?_,rfl,q2⟩⟩;have hz:(FP [] kvs).length<=sizeLine:=by
  have h1:=Hh kvs [];rw [uj9] at h1;rw [sizeLine_eq];lia
 have he:∃q,h'.get? s.heap.objs.size=some q:=let ⟨q,_,_,hq,_⟩:=dd';⟨q,hq⟩;exact OA I2 (by rw [e];exact True.intro) hs he (MY hz hd (rk.merge .nil) dd')
theorem FE {env:Env}:∀(l:List (Str×NameKind)) (cs:List (Str×Addr)),(∀x c,cs.lookup x=some c->env.cells.lookup x=some c)->(∀y∈l,y.2 = .free->∃c,env.cells.lookup y.1=some c)->
 ∃cl,(forIn l cs λ(x:Str×NameKind) r=>(match x with | (name,kind)=>if (kind == NameKind.free)=true then do let c <-cellOf env name;pure (ForInStep.yield ((name,c) :: r)) else pure (ForInStep.yield r):Sem (ForInStep (List (Str×Addr)))))=pure cl/\
  (∀x c,cl.lookup x=some c->env.cells.lookup x=some c)/\(∀x c,cs.lookup x=some c->∃c',cl.lookup x=some c')/\∀y∈l,y.2 = .free->∃c,cl.lookup y.1=some c
 | [],cs,h,_=>⟨cs,rfl,h,λ_ c e=>⟨c,e⟩,λ_ z=>nomatch z⟩
 | (n,k) :: l,cs,h,hf=>by
   by_cases hk:k = .free
   ·subst hk;obtain ⟨c,hc⟩:=hf (n,.free) uf3 rfl;have hc':env.cells.lookup n=some c:=hc;have e:cellOf env n=pure c:=by unfold cellOf;rw [hc']
    obtain ⟨cl,e1,e2,e3,e4⟩:=FE l ((n,c) :: cs) (λx c' q=>by
     rw [ui0] at q
     by_cases hx:(x == n)=true
     ·rw [hx] at q;cases q;rw [eq_of_beq hx];exact hc'
     ·rw [uh0.mpr hx] at q;exact h x c' q) (λy hy=>hf y (ud9 _ hy))
    have self:((n,c) :: cs).lookup n=some c:=by rw [ui0,ui8]
    refine ⟨cl,?_,e2,λx c' q=>?_,λy hy hyf=>?_⟩
    ·rw [List.forIn_cons];simp only [ui8,if_true,e];exact e1
    ·by_cases hx:(x == n)=true
     ·rw [eq_of_beq hx];exact e3 n c self
     ·exact e3 x c' (by rw [ui0,uh0.mpr hx];exact q)
    ·rcases ul4.mp hy with z | z
     ·subst z;exact e3 n c self
     ·exact e4 y z hyf
   ·have hb:(k == NameKind.free)=false:=by simpa using hk
    obtain ⟨cl,e1,e2,e3,e4⟩:=FE l cs h (λy hy=>hf y (ud9 _ hy));refine ⟨cl,?_,e2,e3,λy hy hyf=>?_⟩
    ·rw [List.forIn_cons];simp only [hb,uf8,if_false];exact e1
    ·rcases ul4.mp hy with z | z
     ·subst z;exact absurd hyf hk
     ·exact e4 y z hyf
theorem JJ {scope:Scope}{env:Env}(h:∀y∈scope.names,y.2 = .free->∃c,env.cells.lookup y.1=some c) :
 ∃cl,closureFor scope env=pure cl/\(∀x c,cl.lookup x=some c->env.cells.lookup x=some c)/\∀y∈scope.names,y.2 = .free->∃c,cl.lookup y.1=some c:=by
 obtain ⟨cl,e1,e2,_,e4⟩:=FE (env:=env) scope.names [] (λ_ _ q=>nomatch q) h;refine ⟨cl,?_,e2,e4⟩;simp only [closureFor]
 first | (rw [e1];rfl) | (simp only [e1];rfl) | (trace_state;exact e1)
theorem MU {prog:Program}{A:Around}{R:Result->Shared->Prop}{s:Shared}{elt target iter:Expr}{ifs:List Expr}{scope:Scope}{pos:Pos}{it acc:Value}{env:Env}(I:Nat->Shared->Prop)
 (turn:∀n s,I n s->wpAny (model prog w) A (pyNext it) (λr s₁=>match r with
   | none=>R (.ok .next) s₁
   | some v=>wpAny (model prog w) A (letOwnedTupleGo target it v) (λ_ s₁'=>wpAny (model prog w) A (assign target env v) (λ_ s₂=>
      wpAny (model prog w) A (forIn ifs true λc r=>if r=true then do let ok <-isTrue c env (eval c env);pure (ForInStep.yield ok) else pure (ForInStep.yield r)) (λok s₃=>
       if ok=true then wpAny (model prog w) A (eval elt env) (λx s₄=>
        wpAny (model prog w) A (call (.builtin "list.append") [acc,x]) (λ_ s₅=>∃m,m < n/\I m s₅) (λ_ _=>False) s₄) (λ_ _=>False) s₃
       else ∃m,m < n/\I m s₃) (λ_ _=>False) s₂) (λ_ _=>False) s₁') (λ_ _=>False) s₁) (λ_ _=>False) s)
 (n:Nat) (h:I n s) :
 codeAny (model prog w) A (.compLoop (.ListComp elt [⟨target,iter,ifs,0⟩] scope pos) 0 it acc env) R s:=by
 refine codeAny_loop rfl I (λn s hI=>?_) n h;show wpAny _ A ((compTurn (.ListComp elt [⟨target,iter,ifs,0⟩] scope pos) 0 it acc env).onRaise (λx=>do noteFrame x env;theTreesLotGoes x)) _ _ s;refine wpAny_noted ?_;rw [compTurn_list];refine uo0 (wpAny_standAt (uo0 (uo2 (turn n s hI) (λr s₁ h₁=>?_) λ_ _ h'=>h'.elim)))
 cases r with
 | none=>exact uo1 h₁
 | some v=>
   refine uo0 (uo2 h₁ (λ_ s₁' h₁'=>?_) λ_ _ h'=>h'.elim);refine uo0 (uo2 h₁' (λ_ s₂ h₂=>uo0 (uo2 h₂ (λok s₃ h₃=>?_) λ_ _ h'=>h'.elim)) λ_ _ h'=>h'.elim)
   cases ok with
   | false=>exact uo1 ⟨rfl,h₃⟩
   | true=>
     exact uo0 (uo0 (uo2 h₃ (λx s₄ h₄=>uo0 (uo2 h₄ (λ_ s₅ h₅=>uo1 (uo1 ⟨rfl,h₅⟩)) λ_ _ h'=>h'.elim)) λ_ _ h'=>h'.elim))
end L2
set_option maxHeartbeats 2000000
namespace L2
open PySem PySem.Spec PyProof.Rows
noncomputable def CF (X:Cx)(N':List Str)(scope:Scope)(cl:List (Str×Addr))(C:Addr)(s2:Shared)(H2:Hp)(fp:List Addr):Cx where
 prog:=X.prog
 w:=X.w
 K:=X.K
 mg:=X.mg
 base:=X.base
 A:=X.A
 N:=N'
 s₀:=s2
 H₀:=H2
 env:=compEnvC scope cl C X.env
 outer:=X.stack
 stack:=X.stack
 ex:=fp
 fn:=λ_=>false
 calm:=X.calm
 pn:=[]
 xe:=λ_ _=>False
theorem II (h:Str->NameKind->NameKind)(x:Str):∀l:List (Str×NameKind),(l.map λp=>(p.1,h p.1 p.2)).lookup x=(l.lookup x).map (h x)
 | []=>rfl
 | (n,k) :: l=>by
   show List.lookup x ((n,h n k) :: _)=_;rw [ui0,ui0]
   by_cases hx:(x == n)=true
   ·rw [hx,eq_of_beq hx];rfl
   ·rw [uh0.mpr hx];exact II h x l
theorem GA (scope:Scope)(env:Env)(x:Str):(relabel scope env).names.lookup x=(scope.names.lookup x).map λk=>if (k == .free && env.scope.kind == .function && env.kindOf x == some .cell)=true then .cell else k:=by
 rw [<-II (λn k=>if (k == NameKind.free && env.scope.kind == .function && env.kindOf n == some .cell)=true then .cell else k) x scope.names];unfold relabel;dsimp only
 congr 1
 apply ue8;intro p _;obtain ⟨n,k⟩:=p;dsimp only
 split <;> rfl
theorem Dk {x:Str}{k:NameKind}:∀{l:List (Str×NameKind)},l.lookup x=some k->(x,k)∈l
 | (n,k') :: l,h=>by
   rw [ui0] at h
   by_cases hx:(x == n)=true
   ·rw [hx] at h;cases h;rw [eq_of_beq hx];exact uf3
   ·rw [uh0.mpr hx] at h;exact ud9 _ (Dk h)
theorem NK {scope:Scope}{env:Env}{x:Str}(hcell:∀y∈scope.names,y.2≠.cell)(h:(relabel scope env).names.lookup x=some .cell\/(relabel scope env).names.lookup x=some .free):scope.names.lookup x=some .free:=by
 rw [GA] at h
 cases e:scope.names.lookup x with
 | none=>rw [e] at h;rcases h with h | h <;> cases h
 | some k=>
   by_cases hk:k = .free
   ·rw [hk]
   ·have hb:(k == NameKind.free)=false:=by simpa using hk
    rw [e] at h;simp only [uk0,hb,uk9,uf8,if_false] at h;rcases h with h | h
    ·cases h;exact absurd rfl (hcell _ (Dk e))
    ·cases h;exact absurd rfl hk
def PIf (X:Cx)(ifs:List Expr)(t:TT):Prop:=
 ∀(pins:List (Addr×Obj)) (s:Shared) (σ:St) (H:Hp) (Q:Bool->Hp->Prop),Inv X pins σ H s->t σ H Q->
  wpAny (model X.prog X.w) X.A (forIn ifs true λc r=>if r=true then do let ok <-isTrue c X.env (eval c X.env);pure (ForInStep.yield ok) else pure (ForInStep.yield r)) (TP X pins σ Q) X.xe s
def X9:TT:=λ_ H Q=>Q true H
theorem UW {X:Cx}:PIf X [] X9:=λ_ _ _ H _ I h=>wpAny_tests_nil ⟨H,I,h⟩
theorem UY {X:Cx}{c:Expr}{t:TT}(h:PT X c t):PIf X [c] t:=λpins s σ H Q I q=>wpAny_tests_one (h pins s σ H Q I q)
def Ri (J:It)(g:TG)(tt:TT)(te:TE)(σ₀:St)(H1:Hp)(Fin:List V->Hp->Prop):Prop:=
 ∃W:Nat->Nat->List V->St->Hp->Prop,(∃m,W 0 m [] σ₀ H1)/\∀i m acc σ' H',W i m acc σ' H'->acc.length<=sizeLine/\
  ((J.stop i H'/\Fin acc H')\/
    (J.go i H'/\∀x H2,J.yld i H' x H2->g x σ' H2 λσ3 H3=>tt σ3 H3 λb H4=>if b=true then te σ3 H4 λv H5=>∃m',m' < m/\W (i + 1) m' (acc++[v]) σ3 H5 else ∃m',m' < m/\W (i + 1) m' acc σ3 H4))
def Mr (wi:TI)(g:TG)(tt:TT)(te:TE)(σf:St->St):TE:=λσ H Q=>wi σ H λJ H1=>Ri J g tt te (σf σ) H1 λacc H'=>∀p,H' p=none->acc.length<=sizeLine->Q (.ref p) (upd H' p (.lst acc))
structure CmpOk (X:Cx)(scope:Scope)(N':List Str)(σf:St->St):Prop where
 kind:scope.kind = .function
 cell:∀y∈scope.names,y.2≠.cell
 loc:∀y∈scope.names,y.2 = .local->scope.names.lookup y.1=some .local
 free:∀y∈scope.names,y.2 = .free->X.env.kindOf y.1=some .cell\/X.env.kindOf y.1=some .free
 len:∀σ:St,σ.length=X.N.length->(σf σ).length=N'.length
 vals:∀(σ:St) (j:Nat) (x:Str) (v:V),N'[j]?=some x->(σf σ)[j]?=some (some v)->∃i:Nat,X.N[i]?=some x/\σ[i]?=some (some v)/\scope.names.lookup x=some .free
variable {pins:List (Addr×Obj)}{σ:St}{H2:Hp}{s2:Shared}{cl:List (Str×Addr)}{fp:List Addr}
section
variable {X:Cx}{tg elt iter:Expr}{ifs:List Expr}{scope:Scope}{pos:Pos}{N':List Str}{wi:TI}{g:TG}{tt:TT}{te:TE}{σf:St->St}
theorem VU {C:Addr}(O:CmpOk X scope N' σf)(I2:Inv X pins σ H2 s2)(f2:∀b∈fp,FpOk X pins H2 b)(hC:s2.heap.objs.size<=C)
 (hlt:∀b∈fp,b < s2.heap.objs.size) (e2:∀x c,cl.lookup x=some c->X.env.cells.lookup x=some c) (e4:∀y∈scope.names,y.2 = .free->∃c,cl.lookup y.1=some c):(CF X N' scope cl C s2 H2 fp).Ok where
 mod:=I2.ok.mod
 kind:=O.kind
 glob:=I2.ok.glob
 blt:=I2.ok.blt
 above:=hC
 inj:=λx y c h1 h2=>I2.ok.inj x y c (e2 x c h1) (e2 y c h2)
 has:=λx h=>by
  have q:=NK (env:=X.env) (x:=x) O.cell h;exact e4 _ (Dk q) rfl
 cab:=λx c h _=>nomatch h
 hd:=I2.ok.hd
 frames:=I2.ok.frames
 stk:=.inl rfl
 exf:=λb hb=>⟨um4 (uf2 (hlt b hb) hC),λx c e=>(f2 b hb).2.2.2.2.1 x c (e2 x c e)⟩
 bs:=I2.bs
 bsz:=um5 I2.ok.bsz I2.sz
 noex:=λb o e hb=>by
  rcases (f2 b hb).2.2.2.1 with z | z
  ·exact I2.ok.noex b o e z
  ·exact absurd (uf2 (um3 (I2.ok.bs b o e).1) z) (ul3 _)
 exfs:=λb hb z=>by
  rcases ul4.mp (I2.stkSub b z) with q | q
  ·exact (f2 b hb).2.1 q
  ·exact (f2 b hb).2.2.1 q
 funs:=I2.stack
 frf:=I2.stkFree
theorem Xc (I2:Inv X pins σ H2 s2){a:Addr}(h:s2.heap.objs.size<=a):a∉frs X.stack:=λhb=>by
 rcases ul4.mp (I2.stkSub a hb) with q | q
 ·exact absurd (uf2 I2.lt h) (by rw [q];exact ul3 _)
 ·exact I2.nofs h q
theorem MG {it:Addr}{tn:Nat->Heap->Prop}{J:It}{Fin:List V->Hp->Prop}{RR:Value->Addr->Result->Shared->Prop}{E:Value->Shared->Prop}(O:CmpOk X scope N' σf)(hc:X.calm=true)
 (I2:Inv X pins σ H2 s2) (T:Turn X.prog X.w X.K tg J fp it tn) (st2:tn 0 s2.heap) (f2:∀b∈fp,FpOk X pins H2 b)
 (e2:∀x c,cl.lookup x=some c->X.env.cells.lookup x=some c) (e4:∀y∈scope.names,y.2 = .free->∃c,cl.lookup y.1=some c)
 (hg:∀C,PG (CF X N' scope cl C s2 H2 fp) tg g) (ht:∀C,PIf (CF X N' scope cl C s2 H2 fp) ifs tt) (he:∀C,PE (CF X N' scope cl C s2 H2 fp) elt te)
 (B:Ri J g tt te (σf σ) H2 Fin)
 (fin:∀C s' σ' H' acc m,s2.heap.objs.size<=C->C≠s2.heap.objs.size->Inv (CF X N' scope cl C s2 H2 fp) [] σ' H' s'->H' s2.heap.objs.size=none->acc.length<=sizeLine->(∃its n,Vals acc its/\s'.heap.get? s2.heap.objs.size=some { cls:=.type "list",data:=.seq its.toArray n })->Fin acc H'->s'.heap.Ns C m->
   RR (.ref s2.heap.objs.size) C (.ok .next) s') :
 wpAny (model X.prog X.w) X.A (newList []) (λacc s₃=>wpAny (model X.prog X.w) X.A (newFunctionEnv scope X.env.globals cl [] X.env.qual none .none (some X.env)) (λcenv s₄=>
  codeAny (model X.prog X.w) X.A (.compStart (.ListComp elt [⟨tg,iter,ifs,0⟩] scope pos) 0 (.ref it) acc { cenv with scope:=relabel scope X.env }) (RR acc cenv.locals) s₄) E s₃) E s2:=by
 refine wpAny_newObj_type (wpAny_newFunctionEnv O.cell (by intro y hy;simp at hy) (λh₁ hns₁ hsb₁=>?_) O.kind);dsimp only at hns₁ hsb₁ ⊢;generalize hH2:s2.heap.push { cls:=.type "list",dict:=none,data:=.seq ([]:List Value).toArray }=HP at hns₁ hsb₁ ⊢;have hC:HP.objs.size=s2.heap.objs.size + 1:=by rw [<-hH2,Heap.size_push]
 generalize hDD:s2.heap.objs.size=DD at *;generalize hCC:HP.objs.size=CC at *;have hDC:DD≠CC:=by rw [hC];exact um4 (Nat.lt_succ_self _)
 have hCle:s2.heap.objs.size<=CC:=by rw [hC,hDD];exact un8 _
 have hlt:∀b∈fp,b < s2.heap.objs.size:=λb hb=>by obtain ⟨o,e,_⟩:=T.obj _ _ st2 b hb;exact um3 e
 have hlt':∀b∈fp,b < DD:=λb hb=>by rw [<-hDD];exact hlt b hb
 have below:∀b,b < DD->b≠CC/\b≠DD:=λb hb=>⟨by rw [hC];exact um4 (Nat.lt_succ_of_lt hb),um4 hb⟩;have old:∀b o,s2.heap.get? b=some o->h₁.get? b=some o:=λb o e=>hsb₁.extBut b o (below b (by rw [<-hDD];exact um3 e)).1 (uc5 _ (hH2 ▸ uc5 _ e));have hacc:h₁.get? DD=some { cls:=.type "list",data:=.seq ([]:List Value).toArray }:=by
  refine hsb₁.extBut _ _ hDC (uc5 _ ?_);rw [<-hH2,<-hDD];exact ue6 _ rfl
 have ok:=VU (cl:=cl) (C:=CC) O I2 f2 hCle hlt e2 e4;have hfs:DD∉frs X.stack:=Xc I2 (by rw [hDD];exact un6 _);obtain ⟨W,⟨m0,w0⟩,turn⟩:=B
 let X':Cx:=CF X N' scope cl CC s2 H2 fp
 have I0:Inv X' [] (σf σ) H2 { s2 with heap:=h₁,toks:=s2.toks + ([]:List (Str×Value)).length }:=by
  refine ⟨ok,rfl,I2.bare,Un.kept old,⟨_,hns₁,λj x v q1 q2 q3=>?_⟩,λx c e=>?_,I2.hok.fresh hCle,λx c e=>I2.freeC x c (e2 x c e),(λp hp=>nomatch hp),I2.hok.kept old,O.len σ I2.len⟩
  ·obtain ⟨i,n1,n2,n3⟩:=O.vals σ j x v q1 q2;obtain ⟨m,_,hl⟩:=I2.loc;have hfr:=O.free _ (Dk n3) rfl;obtain ⟨u,r,l⟩:=hl i x v n1 n2 (.inr hfr);refine ⟨u,r,?_⟩;rcases l with ⟨k,_⟩ | ⟨_,c,ec,hcell⟩
   ·rcases hfr with z | z <;> (have z':=k.symm.trans z;cases z')
   ·obtain ⟨c',ec'⟩:=e4 _ (Dk n3) rfl;have z:=e2 _ _ ec';have ez:X.env.cells.lookup x=some c':=z;rw [ec] at ez
    cases ez
    refine .inr ⟨?_,c,ec',?_⟩
    ·show (relabel scope X.env).names.lookup x=some .cell\/(relabel scope X.env).names.lookup x=some .free;rw [GA,n3];simp only [uk0]
     split
     ·exact .inl rfl
     ·exact .inr rfl
    ·obtain ⟨o,ho,hd⟩:=hcell;exact ⟨o,old _ _ ho,hd⟩
  ·obtain ⟨v,o,ho,hd⟩:=I2.cell x c (e2 x c e);exact ⟨v,o,old _ _ ho,hd⟩
 have loop:∀s₃:Shared,s₃ = { s2 with heap:=h₁,toks:=s2.toks + ([]:List (Str×Value)).length }->
  codeAny (model X.prog X.w) X.A (.compLoop (.ListComp elt [⟨tg,iter,ifs,0⟩] scope pos) 0 (.ref it) (.ref DD) (compEnvC scope cl CC X.env)) (RR (.ref DD) CC) s₃:=by
  rintro s₃ rfl;refine MU (λn s'=>∃i acc its nn σ' H',Inv X' [] σ' H' s'/\tn i s'.heap/\(∀b∈fp,H' b=none)/\Vals acc its/\s'.heap.get? DD=some { cls:=.type "list",data:=.seq its.toArray nn }/\H' DD=none/\W i n acc σ' H') ?_ m0
   ⟨0,[],[],0,σf σ,H2,I0,T.keep _ _ _ st2 (λb _ o e=>old b o e),λb hb=>(f2 b hb).1,.nil,hacc,I2.hok.fresh (by rw [hDD];exact un6 _),w0⟩
  rintro n s' ⟨i,acc,its,nn,σ3,H3,I3,st3,fr3,hv,hD,hDn,w3⟩;have I3p:Inv X' [(DD,({ cls:=.type "list",data:=.seq its.toArray nn }:Obj))] σ3 H3 s':=I3.pins_of λp hp=>by
   have e:p=(DD,({ cls:=.type "list",data:=.seq its.toArray nn }:Obj)):=by simpa using hp
   subst e;exact ⟨hD,hDn,hDC,hfs,λv z=>nomatch z⟩
  have stat:∀{pins':List (Addr×Obj)} {H':Hp},(∀p∈pins',p.1=DD)->(∀b∈fp,H' b=none)->∀b∈fp,FpOk X' pins' H' b:=λ{pins' H'} hp hn b hb=>
   ⟨hn b hb,(ok.exf b hb).1,ok.exfs b hb,.inl hb,(ok.exf b hb).2,λp hp' z=>by
    have e:p.1=DD:=hp p (by simpa [X',CF] using hp');exact absurd (hlt' b hb) (by rw [<-z,e];exact ul3 _)⟩
  have one:∀p∈[(DD,({ cls:=.type "list",data:=.seq its.toArray nn }:Obj))],p.1=DD:=λp hp=>by
   have e:p=(DD,({ cls:=.type "list",data:=.seq its.toArray nn }:Obj)):=by simpa using hp
   rw [e]
  obtain ⟨hz,tr⟩:=turn i n acc σ3 H3 w3;rcases tr with ⟨stop,qf⟩ | ⟨go,step⟩
  ·refine thn (T.done X' rfl rfl rfl hc i _ s' σ3 H3 (λ_ _=>False) I3p (stat one fr3) st3 stop) λr s4 z9=>?_;obtain ⟨hr,I4⟩:=z9;subst hr;obtain ⟨m4,hm4,_⟩:=I4.loc;have pD:=(I4.pin (DD,({ cls:=.type "list",data:=.seq its.toArray nn }:Obj)) (by simp [X',CF])).1;have I4':Inv X' [] σ3 H3 s4:=I4.pins_of λp hp=>nomatch hp;exact fin CC s4 σ3 H3 acc m4 (by rw [hDD] at hCle;exact hCle) (Ne.symm hDC) I4' hDn hz ⟨its,nn,hv,pD⟩ qf hm4
  ·refine thn (T.item X' rfl rfl rfl hc i _ s' σ3 H3 (λ_ _=>False) I3p (stat one fr3) st3 go) λr s4 z9=>?_;obtain ⟨u,hr,h4⟩:=z9;subst hr;refine thn h4 λ_ s5 z9=>?_;obtain ⟨x,H5,I5,r5,y5,st5,fr5⟩:=z9;have I5':=I5.pinned (stat one fr5) (T.obj _ _ st5);refine thn (hg CC _ s5 σ3 H5 x u _ I5' r5 (step x H5 y5)) λ_ s6 z9=>?_;obtain ⟨σ6,H6,I6,q6⟩:=z9;refine thn (ht CC _ s6 σ6 H6 _ I6 q6) λb s7 z9=>?_;obtain ⟨H7,I7,q7⟩:=z9;have back:∀{H8:Hp} {s8:Shared},Inv X' ([(DD,({ cls:=.type "list",data:=.seq its.toArray nn }:Obj))]++HA fp s5.heap) σ6 H8 s8->
    s8.heap.get? DD=some { cls:=.type "list",data:=.seq its.toArray nn }/\H8 DD=none/\tn (i + 1) s8.heap/\(∀b∈fp,H8 b=none)/\Inv X' [] σ6 H8 s8:=λ{H8 s8} I8=>by
    have p1:=I8.pin (DD,({ cls:=.type "list",data:=.seq its.toArray nn }:Obj)) (by simp [X',CF]);refine ⟨p1.1,p1.2.1,T.keep _ _ _ st5 λb hb o e=>(I8.pin (b,o) (ud3 _ (ud3 _ (Fj hb e)))).1,λb hb=>?_,I8.pins_of λp hp=>nomatch hp⟩;obtain ⟨o,e,_⟩:=T.obj _ _ st5 b hb;exact (I8.pin (b,o) (ud3 _ (ud3 _ (Fj hb e)))).2.1
   cases b with
   | false=>
     rw [if_neg uf4] at q7 ⊢;obtain ⟨m',hm,w7⟩:=q7;obtain ⟨a1,a2,a3,a4,a5⟩:=back I7;exact ⟨m',hm,i + 1,acc,its,nn,σ6,H7,a5,a3,a4,hv,a1,a2,w7⟩
   | true=>
     rw [if_pos rfl] at q7 ⊢;refine thn (he CC _ s7 σ6 H7 _ I7 q7) λy s8 z9=>?_;obtain ⟨v8,H8,I8,r8,m',hm,w8⟩:=z9;obtain ⟨a1,a2,a3,a4,a5⟩:=back I8;have hsz:its.toArray.size<=sizeLine:=by
      have e:=hv.length;simpa [e] using hz
     refine wpAny_list_append_plain (hsz:=hsz) ⟨nn,a1⟩ λh9 hl9 hs9=>?_;obtain ⟨n9,e9⟩:=hl9;have e9':h9.get? DD=some { cls:=.type "list",data:=.seq (its++[y]).toArray n9 }:=by simpa using e9
     refine ⟨m',hm,i + 1,acc++[v8],its++[y],n9,σ6,H8,a5.turned (t':=s8.toks) (h':=h9) (it:=DD) (λb o hb e=>hs9.extBut b o hb e) a2 hDC (.inr (show s2.heap.objs.size<=DD by rw [hDD];exact un6 _)) (λx' c e z=>?_) (λp hp=>nomatch hp),T.keep _ _ _ a3 λb hb o e=>hs9.extBut b o (um4 (hlt' b hb)) e,a4,hv.append (.cons r8 .nil),e9',a2,w8⟩;obtain ⟨v,o,ho,hd⟩:=I2.cell x' c (e2 x' c e);have:=um3 ho;rw [hDD,z] at this;exact ul3 _ this
 exact codeAny_compStart_list (loop _ rfl) (T.self _ 0 _ _ _ (T.keep _ _ _ st2 λb _ o e=>old b o e) (loop _ rfl))
end
section
variable {X:Cx}{tg elt iter:Expr}{ifs:List Expr}{scope:Scope}{pos:Pos}{N':List Str}{wi:TI}{g:TG}{tt:TT}{te:TE}{σf:St->St}
theorem Ly {σ':St}{H':Hp}{s':Shared}{C:Addr}{acc:List V}{its:List Value}{n:Nat}{h':Heap}(I2:Inv X pins σ H2 s2)(f2:∀b∈fp,FpOk X pins H2 b)
 (hC:s2.heap.objs.size<=C) (hCD:C≠s2.heap.objs.size) (I':Inv (CF X N' scope cl C s2 H2 fp) [] σ' H' s') (hDn:H' s2.heap.objs.size=none) (hz:acc.length<=sizeLine) (hv:Vals acc its)
 (hD:s'.heap.get? s2.heap.objs.size=some { cls:=.type "list",data:=.seq its.toArray n }) (hs:Heap.SameBut C s'.heap h') :
 Inv X pins σ (upd H' s2.heap.objs.size (.lst acc)) { s' with heap:=h' }:=by
 have U:=I'.base;have lt:∀b o,s2.heap.get? b=some o->b≠C/\b≠s2.heap.objs.size:=λb o e=>⟨um4 (uf2 (um3 e) hC),um4 (um3 e)⟩;have neD:∀b u,H' b=some u->b≠s2.heap.objs.size:=λb u e=>Bg e hDn;have neC:∀b u,H' b=some u->b≠C:=λb u e=>Bg e I'.free;refine I2.call' (s':={ s' with heap:=h' }) (ch:=fp) I'.os ⟨λb o e n hb hx=>?_,λb o e n hb hx=>?_,λb o e n hx=>?_,λb o e hx=>?_,λb xs e=>?_,λb o u e=>?_,λb ps e=>?_⟩ ?_ I'.bare λb hb=>⟨(f2 b hb).2.2.2.1,(f2 b hb).2.1,(f2 b hb).2.2.2.2.1,(f2 b hb).2.2.2.2.2⟩
 ·exact hs.extBut b o (lt b o e).1 (U.keep b o e n hb hx)
 ·obtain ⟨sl,q⟩:=U.slot b o e n hb hx;exact ⟨sl,hs.extBut b _ (lt b o e).1 q⟩
 ·rw [Ar (lt b o e).2];exact U.free b o e n hx
 ·obtain ⟨o',q⟩:=U.there b o e hx;exact ⟨o',hs.extBut b _ (lt b o e).1 q⟩
 ·have q:=U.tups b xs e;rw [Ar (neD b _ q)];exact q
 ·have q:=U.frzs b o u e;rw [Ar (neD b _ q)];exact q
 ·obtain ⟨m,q⟩:=U.tbls b ps e;exact ⟨m,by rw [Ar (neD b _ q)];exact q⟩
 ·intro b u e
  by_cases hb:b=s2.heap.objs.size
  ·subst hb;rw [Ax] at e
   cases e
   exact ⟨hz,its,n,hv,hs.extBut _ _ (Ne.symm hCD) hD⟩
  ·rw [Ar hb] at e;refine (I'.hok b u e).stay (λc v hc q=>hs.extBut c v ?_ q) (λc q=>by rw [Ar (neD c _ q)];exact q) λc xs q=>by rw [Ar (neD c _ q)];exact q
   rcases hc with z | z
   ·rw [z];exact neC b u e
   ·exact neC c _ z
theorem OO (O:CmpOk X scope N' σf)(hc:X.calm=true)(hi:PI X tg iter wi)
 (hg:∀cl C s2 H2 fp,PG (CF X N' scope cl C s2 H2 fp) tg g) (ht:∀cl C s2 H2 fp,PIf (CF X N' scope cl C s2 H2 fp) ifs tt) (he:∀cl C s2 H2 fp,PE (CF X N' scope cl C s2 H2 fp) elt te)
 (hs:∀x,foldedSetIterable iter X.env x=pure x:=by intro _;rfl):PE X (.ListComp elt [⟨tg,iter,ifs,0⟩] scope pos) (Mr wi g tt te σf):=by
 intro pins s σ H Q I h;obtain ⟨cl,e1,e2,e4⟩:=JJ (scope:=scope) (env:=X.env) λy hy hf=>I.ok.has y.1 (O.free y hy hf);rw [eval_ListComp];refine wpAny_comprehension_free (use:=none) rfl hs e1 O.kind O.loc (thn (hi pins s σ H _ I h) λv s1 h1=>thn h1 λitv s2 h2=>?_);obtain ⟨it,fp,tn,J,H2,rfl,I2,T,st2,f2,B⟩:=h2;refine MG (RR:=λacc C=>compPost (model X.prog X.w) X.A X.xe none (EP X pins σ Q) acc C) O hc I2 T st2 f2 e2 e4 (λC=>hg cl C s2 H2 fp) (λC=>ht cl C s2 H2 fp) (λC=>he cl C s2 H2 fp) B ?_;intro C s' σ' H' acc m hC hCD I' hDn hz hL fin hn;obtain ⟨its,n,hv,hD⟩:=hL;refine ⟨m,hn,λh' hs'=>?_⟩;exact ⟨.ref s2.heap.objs.size,upd H' _ (.lst acc),Ly I2 f2 hC hCD I' hDn hz hv hD hs',rfl,fin _ hDn hz⟩
theorem U4 {i:Nat}{y:Str}{py spos:Pos}(O:CmpOk X scope N' σf)(hc:X.calm=true)(hN:X.N.Nodup)(hiN:X.N[i]?=some y)(hx:X.env.scope.names.lookup y=some .local)(hi:PI X tg iter wi)
 (hg:∀cl C s2 H2 fp,PG (CF X N' scope cl C s2 H2 fp) tg g) (ht:∀cl C s2 H2 fp,PIf (CF X N' scope cl C s2 H2 fp) ifs tt) (he:∀cl C s2 H2 fp,PE (CF X N' scope cl C s2 H2 fp) elt te)
 (hsw:swapsWith (.ListComp elt [⟨tg,iter,ifs,0⟩] scope pos) (some (.Name y py)) spos.line X.env=pure true:=by rfl)
 (hs:∀x,foldedSetIterable iter X.env x=pure x:=by intro _;rfl):PS X (.Assign [.Name y py] (.ListComp elt [⟨tg,iter,ifs,0⟩] scope pos) spos) (NY (Mr wi g tt te σf) (JX i)):=by
 intro pins s σ H D I h;obtain ⟨cl,e1,e2,e4⟩:=JJ (scope:=scope) (env:=X.env) λy hy hf=>I.ok.has y.1 (O.free y hy hf);rw [exec_Assign_Name_used _ _ _ _ hsw];refine uo0 (wpAny_standAt (uo0 ?_));show wpAny _ X.A (do let _ <-comprehension (.ListComp elt [⟨tg,iter,ifs,0⟩] scope pos) scope X.env _ (newList []) false (eval iter X.env) (some (assign (.Name y py) X.env))) _ _ s;refine uo0 (thn (wpAny_comprehension_free (use:=some (assign (.Name y py) X.env)) (Q:=λ_ s'=>SP X pins D .next s') rfl hs e1 O.kind O.loc (thn (hi pins s σ H _ I h) λv s1 h1=>thn h1 λitv s2 h2=>?_)) (λ_ s' hq=>uo1 (uo1 hq)));obtain ⟨it,fp,tn,J,H2,rfl,I2,T,st2,f2,B⟩:=h2;refine MG (RR:=λacc C=>compPost (model X.prog X.w) X.A X.xe (some (assign (.Name y py) X.env)) (λ_ s'=>SP X pins D .next s') acc C) O hc I2 T st2 f2 e2 e4 (λC=>hg cl C s2 H2 fp) (λC=>ht cl C s2 H2 fp) (λC=>he cl C s2 H2 fp) B ?_;intro C s' σ' H' acc m hC hCD I' hDn hz hL fin hn;obtain ⟨its,n,hv,hD⟩:=hL;show wpAny _ X.A (assign (.Name y py) X.env (.ref s2.heap.objs.size)) _ _ _;have I3:=Ly I2 f2 hC hCD I' hDn hz hv hD (Heap.SameBut.refl ..);refine wpAny_assign_Name (HI I3 hN hiN (.inl hx) (v:=.ref s2.heap.objs.size) rfl (λs4 I4 z9=>?_) (.inr hx));obtain ⟨a,hsb,ha⟩:=z9;have hCL:C≠X.env.locals:=um7 (uf2 I2.lt hC);have hCc:∀x c,X.env.cells.lookup x=some c->c≠C:=λx c e z=>by
  obtain ⟨v,q⟩:=I2.cell x c e;exact absurd (uf2 q.lt (by rw [z];exact hC)) (ul3 _)
 have hCa:C≠a:=by
  rcases ha with z | z
  ·rw [z];exact hCL
  ·exact λq=>hCc _ _ z q.symm
 refine ⟨m,hn.sameBut hsb hCa,λh' hs'=>?_⟩;have hnC:(upd H' s2.heap.objs.size (.lst acc)) C=none:=by rw [Ar hCD];exact I'.free
 refine ⟨_,_,I4.turned (t':=s4.toks) (h':=h') (it:=C) (λb o hb e=>hs'.extBut b o hb e) hnC hCL (.inr (um5 I2.sz hC)) hCc (λp hp z=>?_),fin _ hDn hz⟩;exact absurd (uf2 (um3 (I2.pin p hp).1) (by rw [z];exact hC)) (ul3 _)
end
end L2
set_option autoImplicit false
namespace F2
open PySem L2 PySem.Spec
inductive D where
 | non | bl (b:Bool) | int (i:Int) | str (x:Str) | tup (xs:List D) | lst (xs:List D) | scr (ns:List Int) | dic | obj (k:Nat) | ty (n:String) | exc (n:Str) (xs:List D)
structure Cf where
 ι:List Addr
 O:Addr->Prop
def Cf.A (c:Cf)(a:Addr):Prop:=a∈c.ι\/c.O a
def Scr (K:PySem.W.Frag)(c:Cf)(H:Hp)(a:Addr)(vs:List V):Prop:=
 ((∃o,H a=some (.frz o (.lst vs)))/\¬c.A a)\/
   ∃(o:Obj) (its:Array Value) (n:Nat),K.lookup a=some o/\o.cls = .type "list"/\o.dict=none/\o.data = .seq its n/\its.size<=sizeLine/\Vals vs its.toList
def XIs (qx:Bool)(x C:Addr)(dx:Option Addr)(h:Heap):Prop:=∃(o:Obj) (vs:Array Value),h.get? x=some o/\o.cls = .ref C/\o.dict=dx/\o.data = .fields vs/\(qx=true->vs[2]?=some .none/\4 < vs.size)
noncomputable def IS (n:Str):List Str:=if n = "NoTalk" then ["at"] else if n = "Broken" then ["at", "side"] else []
def XFld (c:Cf)(H:Hp)(dx:Option Addr)(ns:List Str)(vs:List V):Prop:=match dx with
 | none=>vs=[]
 | some d=>H d=some (.xd (ns.zip vs))/\¬c.A d
mutual
inductive Rep (K:PySem.W.Frag)(c:Cf)(H:Hp):V->D->Prop where
 | non:Rep K c H .non .non
 | bl (b:Bool):Rep K c H (.bl b) (.bl b)
 | int (i:Int):Rep K c H (.int i) (.int i)
 | str (x:Str):Rep K c H (.str x) (.str x)
 | ty (n:String):Rep K c H (.ty n) (.ty n)
 | tup {a:Addr} {vs:List V} {ds:List D}:H a=some (.tup vs)->¬c.A a->Reps K c H vs ds->Rep K c H (.ref a) (.tup ds)
 | lst {a:Addr} {vs:List V} {ds:List D}:H a=some (.lst vs)->¬c.A a->Reps K c H vs ds->Rep K c H (.ref a) (.lst ds)
 | scr {a:Addr} {ns:List Int}:Scr K c H a (ns.map V.int)->Rep K c H (.ref a) (.scr ns)
 | dic {a:Addr}:H a=some (.dK [])->¬c.A a->Rep K c H (.ref a) .dic
 | obj {a:Addr} {k:Nat}:c.ι[k]?=some a->Rep K c H (.ref a) (.obj k)
 | exc {qx:Bool} {x C:Addr} {dx:Option Addr} {n:Str} {vs:List V} {ds:List D}:PySem.W.nsIn K mainGlobals n=some (some (.ref C))->H x=some (.ext (XIs qx x C dx))->¬c.A x->XFld c H dx (IS n) vs->Reps K c H vs ds->Rep K c H (.ref x) (.exc n ds)
inductive Reps (K:PySem.W.Frag)(c:Cf)(H:Hp):List V->List D->Prop where
 | nil:Reps K c H [] []
 | cons {v:V} {d:D} {vs:List V} {ds:List D}:Rep K c H v d->Reps K c H vs ds->Reps K c H (v :: vs) (d :: ds)
end
structure Ext (c:Cf)(H:Hp)(c':Cf)(H':Hp):Prop where
 keep:∀b o,H b=some o->¬c.A b->H' b=some o
 av:∀b o,H b=some o->c'.A b->c.A b
 io:∀(k:Nat) (a:Addr),c.ι[k]?=some a->c'.ι[k]?=some a
variable {c:Cf}{H:Hp}
theorem Ext.refl:Ext c H c H:=⟨λ_ _ h _=>h,λ_ _ _ h=>h,λ_ _ h=>h⟩
theorem Ext.trans {c1 c2:Cf}{H1 H2:Hp}(a:Ext c H c1 H1)(b:Ext c1 H1 c2 H2):Ext c H c2 H2:=by
 refine ⟨λx o h n=>?_,λx o h n=>?_,λk x h=>b.io k x (a.io k x h)⟩
 ·exact b.keep x o (a.keep x o h n) λz=>n (a.av x o h z)
 ·by_cases q:c.A x
  ·exact q
  ·exact a.av x o h (b.av x o (a.keep x o h q) n)
variable {K:PySem.W.Frag}{a:Addr}{vs:List V}
theorem Scr.mono {c':Cf}{H':Hp}(e:Ext c H c' H')(h:Scr K c H a vs):Scr K c' H' a vs:=by
 rcases h with ⟨⟨o,h⟩,n⟩ | h
 ·exact .inl ⟨⟨o,e.keep _ _ h n⟩,λz=>n (e.av _ _ h z)⟩
 ·exact .inr h
theorem Scr.sq (h:Scr K c H a vs):SqL K H a vs:=by
 rcases h with ⟨h,_⟩ | h
 ·exact .inl (.inr h)
 ·exact .inr h
theorem XFld.mono {c':Cf}{H':Hp}{dx:Option Addr}{ns:List Str}(e:Ext c H c' H')(h:XFld c H dx ns vs):XFld c' H' dx ns vs:=by
 cases dx with
 | none=>exact h
 | some d=>exact ⟨e.keep _ _ h.1 h.2,λz=>h.2 (e.av _ _ h.1 z)⟩
mutual
theorem Rep.mono {K:PySem.W.Frag}{c c':Cf}{H H':Hp}(e:Ext c H c' H'){v:V}{d:D}(r:Rep K c H v d):Rep K c' H' v d:=by
 cases r with
 | non=>exact .non
 | bl b=>exact .bl b
 | int i=>exact .int i
 | str x=>exact .str x
 | ty n=>exact .ty n
 | tup h n r=>exact .tup (e.keep _ _ h n) (λz=>n (e.av _ _ h z)) (Reps.mono e r)
 | lst h n r=>exact .lst (e.keep _ _ h n) (λz=>n (e.av _ _ h z)) (Reps.mono e r)
 | scr h=>exact .scr (h.mono e)
 | dic h n=>exact .dic (e.keep _ _ h n) (λz=>n (e.av _ _ h z))
 | obj h=>exact .obj (e.io _ _ h)
 | exc g h n f r=>exact .exc g (e.keep _ _ h n) (λz=>n (e.av _ _ h z)) (f.mono e) (Reps.mono e r)
theorem Reps.mono {K:PySem.W.Frag}{c c':Cf}{H H':Hp}(e:Ext c H c' H'){vs:List V}{ds:List D}(r:Reps K c H vs ds):Reps K c' H' vs ds:=by
 cases r with
 | nil=>exact .nil
 | cons h t=>exact .cons (Rep.mono e h) (Reps.mono e t)
end
section
variable {K:PySem.W.Frag}{c:Cf}{H:Hp}
theorem Reps.length:∀{vs:List V} {ds:List D},Reps K c H vs ds->vs.length=ds.length
 | _,_,.nil=>rfl
 | _,_,.cons _ t=>by simp [Reps.length t]
theorem Reps.get:∀{vs:List V} {ds:List D} {i:Nat} {v:V} {d:D},Reps K c H vs ds->vs[i]?=some v->ds[i]?=some d->Rep K c H v d
 | _,_,_,_,_,.nil,e,_=>by simp at e
 | _,_,0,_,_,.cons r _,e,e'=>by simp at e e';subst e e';exact r
 | _,_,i + 1,_,_,.cons _ t,e,e'=>Reps.get (i:=i) t (by simpa using e) (by simpa using e')
theorem Reps.at:∀{vs:List V} {ds:List D} {i:Nat} {d:D},Reps K c H vs ds->ds[i]?=some d->∃v,vs[i]?=some v/\Rep K c H v d
 | _,_,_,_,.nil,e=>by simp at e
 | _,_,0,_,.cons r _,e=>by simp at e;subst e;exact ⟨_,rfl,r⟩
 | _,_,i + 1,_,.cons _ t,e=>by
   obtain ⟨v,h1,h2⟩:=Reps.at (i:=i) t (by simpa using e);exact ⟨v,by simpa using h1,h2⟩
theorem Reps.append {vs ws:List V}{ds es:List D}(r:Reps K c H vs ds)(s:Reps K c H ws es):Reps K c H (vs++ws) (ds++es):=by
 cases r with
 | nil=>exact s
 | cons r t=>exact .cons r (Reps.append t s)
theorem Reps.take:∀{vs:List V} {ds:List D} (n:Nat),Reps K c H vs ds->Reps K c H (vs.take n) (ds.take n)
 | _,_,0,_=>.nil
 | _,_,_ + 1,.nil=>.nil
 | _,_,n + 1,.cons r t=>.cons r (Reps.take n t)
theorem Reps.drop:∀{vs:List V} {ds:List D} (n:Nat),Reps K c H vs ds->Reps K c H (vs.drop n) (ds.drop n)
 | _,_,0,r=>r
 | _,_,_ + 1,.nil=>.nil
 | _,_,n + 1,.cons _ t=>Reps.drop n t
theorem Reps.ints:∀ns:List Int,Reps K c H (ns.map V.int) (ns.map D.int)
 | []=>.nil
 | n :: r=>.cons (.int n) (Reps.ints r)
theorem Reps.rep {vs:List V}{ds:List D}(h:Reps K c H vs ds):∀k:Nat,Reps K c H (List.replicate k vs).flatten (List.replicate k ds).flatten
 | 0=>.nil
 | k + 1=>by
   rw [ue7,ue7,ug8,ug8];exact h.append (Reps.rep h k)
end
inductive Ob where
 | lst (xs:List D)
 | dct (kvs:List (Key×D))
inductive Sl where
 | val (d:D)
 | own (xs:List D)
structure T where
 env:List (Option Sl)
 S:List Ob
def KVR (K:PySem.W.Frag)(c:Cf)(H:Hp):List (Key×V)->List (Key×D)->Prop:=Paired λp q=>p.1=q.1/\Rep K c H p.2 q.2
def ObR (K:PySem.W.Frag)(c:Cf)(H:Hp)(a:Addr):Ob->Prop
 | .lst ds=>∃vs,H a=some (.lst vs)/\Reps K c H vs ds
 | .dct kvs=>∃us,H a=some (.dK us)/\KVR K c H us kvs
theorem ObR.mono {K:PySem.W.Frag}{c c':Cf}{H H':Hp}{a:Addr}{o:Ob}(e:Ext c H c' H')(h:ObR K c H a o)(ha:H' a=H a):ObR K c' H' a o:=by
 cases o with
 | lst ds=>obtain ⟨vs,h1,h2⟩:=h;exact ⟨vs,ha.trans h1,h2.mono e⟩
 | dct kvs=>obtain ⟨us,h1,h2⟩:=h;exact ⟨us,ha.trans h1,Paired.mapP h2 λ_ _ z=>⟨z.1,z.2.mono e⟩⟩
theorem ObR.some {o:Ob}(h:ObR K c H a o):∃u,H a=some u:=by
 cases o with
 | lst ds=>obtain ⟨vs,h1,_⟩:=h;exact ⟨_,h1⟩
 | dct kvs=>obtain ⟨us,h1,_⟩:=h;exact ⟨_,h1⟩
structure SInv (K:PySem.W.Frag)(c:Cf)(S:List Ob)(H:Hp):Prop where
 len:c.ι.length=S.length
 nd:c.ι.Nodup
 obs:∀(k:Nat) (a:Addr) (o:Ob),c.ι[k]?=some a->S[k]?=some o->ObR K c H a o
 trk:∀b,c.O b->∃o,H b=some o
 dis:∀b,c.O b->b∉c.ι
variable {S:List Ob}
theorem SInv.trkA (s:SInv K c S H){b:Addr}(h:c.A b):∃o,H b=some o:=by
 rcases h with h | h
 ·obtain ⟨k,hk,e⟩:=List.mem_iff_getElem.mp h;have e1:c.ι[k]?=some b:=by rw [ub7 hk,e]
  have hk':k < S.length:=by rw [<-s.len];exact hk
  exact (s.obs k b _ e1 (ub7 hk')).some
 ·exact s.trk b h
theorem SInv.free (s:SInv K c S H){b:Addr}(h:H b=none):¬c.A b:=λz=>by
 obtain ⟨o,e⟩:=s.trkA z;rw [h] at e;cases e
structure FInv (K:PySem.W.Frag)(Oo:Addr->Prop)(c:Cf)(t:T)(σ:St)(H:Hp):Prop where
 s:SInv K c t.S H
 len:t.env.length=σ.length
 sub:∀b,Oo b->c.O b
 val:∀(i:Nat) (d:D),t.env[i]?=some (some (.val d))->∃v,σ[i]?=some (some v)/\Rep K c H v d
 own:∀(i:Nat) (ds:List D),t.env[i]?=some (some (.own ds))->∃a vs,σ[i]?=some (some (.ref a))/\c.O a/\¬Oo a/\H a=some (.lst vs)/\Reps K c H vs ds
 inj:∀(i j:Nat) (ds es:List D) (a:Addr),t.env[i]?=some (some (.own ds))->t.env[j]?=some (some (.own es))->σ[i]?=some (some (.ref a))->σ[j]?=some (some (.ref a))->i=j
structure Stp (Oo:Addr->Prop)(c:Cf)(H:Hp)(c':Cf)(H':Hp):Prop where
 ext:Ext c H c' H'
 oo:∀b,Oo b->H' b=H b
theorem Stp.refl {Oo:Addr->Prop}{c:Cf}{H:Hp}:Stp Oo c H c H:=⟨.refl,λ_ _=>rfl⟩
theorem Stp.trans {Oo:Addr->Prop}{c c1 c2:Cf}{H H1 H2:Hp}(a:Stp Oo c H c1 H1)(b:Stp Oo c1 H1 c2 H2):Stp Oo c H c2 H2:=
 ⟨a.ext.trans b.ext,λx h=>(b.oo x h).trans (a.oo x h)⟩
section
variable {K:PySem.W.Frag}{Oo:Addr->Prop}{c:Cf}{t:T}{σ:St}{H:Hp}
theorem Ext.laid (s:SInv K c S H){p:Addr}{o:HO}(h:H p=none):Ext c H c (upd H p o):=
 ⟨λb u e _=>by rw [Ar (Bg e h)];exact e,λ_ _ _ z=>z,λ_ _ e=>e⟩
theorem SInv.laid {S:List Ob}(s:SInv K c S H){p:Addr}{o:HO}(h:H p=none):SInv K c S (upd H p o):=
 ⟨s.len,s.nd,λk a u e1 e2=>by
  have q:=s.obs k a u e1 e2;obtain ⟨w,hw⟩:=q.some;exact q.mono (Ext.laid s h) (Ar (Bg hw h)),
  λb z=>by obtain ⟨u,e⟩:=s.trk b z;exact ⟨u,by rw [Ar (Bg e h)];exact e⟩,s.dis⟩
theorem FInv.laid (f:FInv K Oo c t σ H){p:Addr}{o:HO}(h:H p=none):FInv K Oo c t σ (upd H p o):=by
 have e:=Ext.laid (o:=o) f.s h;refine ⟨f.s.laid h,f.len,f.sub,λi d q=>?_,λi ds q=>?_,f.inj⟩
 ·obtain ⟨v,h1,h2⟩:=f.val i d q;exact ⟨v,h1,h2.mono e⟩
 ·obtain ⟨a,vs,h1,h2,h3,h4,h5⟩:=f.own i ds q;exact ⟨a,vs,h1,h2,h3,by rw [Ar (Bg h4 h)];exact h4,h5.mono e⟩
theorem FInv.stp_laid (f:FInv K Oo c t σ H){p:Addr}{o:HO}(h:H p=none):Stp Oo c H c (upd H p o):=
 ⟨Ext.laid f.s h,λb z=>by obtain ⟨u,e⟩:=f.s.trk b (f.sub b z);exact Ar (Bg e h)⟩
theorem FInv.set (f:FInv K Oo c t σ H){i:Nat}{v:V}{d:D}(r:Rep K c H v d):FInv K Oo c { t with env:=t.env.set i (some (.val d)) } (σ.set i (some v)) H:=by
 have neq:∀{j:Nat} {x:Sl},(t.env.set i (some (.val d)))[j]?=some (some x)->(j=i/\x = .val d/\j < t.env.length)\/(j≠i/\t.env[j]?=some (some x)):=λ{j x} q=>by
  by_cases h:j=i
  ·subst h;rw [uh1] at q
   split at q
   ·split at q
    ·next h1=>injection q with q;injection q with q;exact .inl ⟨rfl,q.symm,h1⟩
    ·cases q
   ·next h1=>exact absurd rfl h1
  ·rw [ue1 (Ne.symm h)] at q;exact .inr ⟨h,q⟩
 refine ⟨f.s,by simp [f.len],f.sub,λj e q=>?_,λj ds q=>?_,λj k ds es a q1 q2 q3 q4=>?_⟩
 ·rcases neq q with ⟨rfl,z,hl⟩ | ⟨h,q⟩
  ·cases z
   exact ⟨v,by rw [uc4 (by rw [<-f.len];exact hl)],r⟩
  ·obtain ⟨u,h1,h2⟩:=f.val j e q;exact ⟨u,by rw [ue1 (Ne.symm h)];exact h1,h2⟩
 ·rcases neq q with ⟨rfl,z,_⟩ | ⟨h,q⟩
  ·cases z
  ·obtain ⟨a,vs,h1,h2⟩:=f.own j ds q;exact ⟨a,vs,by rw [ue1 (Ne.symm h)];exact h1,h2⟩
 ·rcases neq q1 with ⟨_,z,_⟩ | ⟨h,q1⟩
  ·cases z
  rcases neq q2 with ⟨_,z,_⟩ | ⟨h',q2⟩
  ·cases z
  rw [ue1 (Ne.symm h)] at q3;rw [ue1 (Ne.symm h')] at q4;exact f.inj j k ds es a q1 q2 q3 q4
theorem FInv.setOwn (f:FInv K Oo c t σ H){i:Nat}{p:Addr}{vs:List V}{ds:List D}(h:H p=none)(r:Reps K c H vs ds) :
 ∃c',FInv K Oo c' { t with env:=t.env.set i (some (.own ds)) } (σ.set i (some (.ref p))) (upd H p (.lst vs))/\Stp Oo c H c' (upd H p (.lst vs)):=by
 let c':Cf:=⟨c.ι,λb=>c.O b\/b=p⟩
 have nA:¬c.A p:=f.s.free h;have ext:Ext c H c' (upd H p (.lst vs)):=by
  refine ⟨λb u e _=>by rw [Ar (Bg e h)];exact e,λb u e z=>?_,λ_ _ e=>e⟩;rcases z with z | z | z
  ·exact .inl z
  ·exact .inr z
  ·subst z;rw [h] at e;cases e
 have stp:Stp Oo c H c' (upd H p (.lst vs)):=⟨ext,λb z=>by obtain ⟨u,e⟩:=f.s.trk b (f.sub b z);exact Ar (Bg e h)⟩;have sinv:SInv K c' t.S (upd H p (.lst vs)):=by
  refine ⟨f.s.len,f.s.nd,λk a u e1 e2=>?_,λb z=>?_,λb z hb=>?_⟩
  ·have q:=f.s.obs k a u e1 e2;obtain ⟨w,hw⟩:=q.some;exact q.mono ext (Ar (Bg hw h))
  ·rcases z with z | z
   ·obtain ⟨u,e⟩:=f.s.trk b z;exact ⟨u,by rw [Ar (Bg e h)];exact e⟩
   ·subst z;exact ⟨_,Ax⟩
  ·rcases z with z | z
   ·exact f.s.dis b z hb
   ·subst z;exact nA (.inl hb)
 have neq:∀{j:Nat} {x:Sl},(t.env.set i (some (.own ds)))[j]?=some (some x)->(j=i/\x = .own ds/\j < t.env.length)\/(j≠i/\t.env[j]?=some (some x)):=λ{j x} q=>by
  by_cases h:j=i
  ·subst h;rw [uh1] at q
   split at q
   ·split at q
    ·next h1=>injection q with q;injection q with q;exact .inl ⟨rfl,q.symm,h1⟩
    ·cases q
   ·next h1=>exact absurd rfl h1
  ·rw [ue1 (Ne.symm h)] at q;exact .inr ⟨h,q⟩
 have fresh:∀(j:Nat) (es:List D),t.env[j]?=some (some (.own es))->σ[j]?≠some (some (.ref p)):=λj es q z=>by
  obtain ⟨a,vs',h1,_,_,h4,_⟩:=f.own j es q;rw [h1] at z;injection z with z;injection z with z;injection z with z;subst z;rw [h] at h4;cases h4
 refine ⟨c',⟨sinv,by simp [f.len],λb z=>.inl (f.sub b z),λj e q=>?_,λj es q=>?_,λj k ds' es a q1 q2 q3 q4=>?_⟩,stp⟩
 ·rcases neq q with ⟨_,z,_⟩ | ⟨hn,q⟩
  ·cases z
  ·obtain ⟨u,h1,h2⟩:=f.val j e q;exact ⟨u,by rw [ue1 (Ne.symm hn)];exact h1,h2.mono ext⟩
 ·rcases neq q with ⟨rfl,z,hl⟩ | ⟨hn,q⟩
  ·cases z
   refine ⟨p,vs,by rw [uc4 (by rw [<-f.len];exact hl)],.inr rfl,λz=>?_,Ax,r.mono ext⟩;obtain ⟨u,e⟩:=f.s.trk p (f.sub p z);rw [h] at e;cases e
  ·obtain ⟨a,ws,h1,h2,h3,h4,h5⟩:=f.own j es q;exact ⟨a,ws,by rw [ue1 (Ne.symm hn)];exact h1,.inl h2,h3,by rw [Ar (Bg h4 h)];exact h4,h5.mono ext⟩
 ·rcases neq q1 with ⟨z1,z2,l1⟩ | ⟨n1,r1⟩
  ·rcases neq q2 with ⟨y1,_,_⟩ | ⟨n2,r2⟩
   ·rw [z1,y1]
   ·subst z1;rw [uc4 (by rw [<-f.len];exact l1)] at q3;injection q3 with q3;injection q3 with q3;injection q3 with q3;subst q3
    rw [ue1 (Ne.symm n2)] at q4;exact absurd q4 (fresh k es r2)
  ·rcases neq q2 with ⟨y1,y2,l2⟩ | ⟨n2,r2⟩
   ·subst y1;rw [uc4 (by rw [<-f.len];exact l2)] at q4;injection q4 with q4;injection q4 with q4;injection q4 with q4;subst q4
    rw [ue1 (Ne.symm n1)] at q3;exact absurd q3 (fresh j ds' r1)
   ·rw [ue1 (Ne.symm n1)] at q3;rw [ue1 (Ne.symm n2)] at q4;exact f.inj j k ds' es a r1 r2 q3 q4
theorem FInv.frz (f:FInv K Oo c t σ H){i:Nat}{ds:List D}(q:t.env[i]?=some (some (.own ds))) :
 ∃c' v,FInv K Oo c' { t with env:=t.env.set i (some (.val (.lst ds))) } σ H/\Stp Oo c H c' H/\σ[i]?=some (some v)/\Rep K c' H v (.lst ds):=by
 obtain ⟨a,vs,h1,h2,h3,h4,h5⟩:=f.own i ds q
 let c':Cf:=⟨c.ι,λb=>c.O b/\b≠a⟩
 have ext:Ext c H c' H:=⟨λ_ _ e _=>e,λb u e z=>z.elim .inl λw=>.inr w.1,λ_ _ e=>e⟩;have sinv:SInv K c' t.S H:=⟨f.s.len,f.s.nd,λk b u e1 e2=>(f.s.obs k b u e1 e2).mono ext rfl,λb z=>f.s.trk b z.1,λb z=>f.s.dis b z.1⟩;have nA:¬c'.A a:=λz=>z.elim (λw=>f.s.dis a h2 w) λw=>w.2 rfl;have hσ:σ.set i (some (.ref a))=σ:=by
  apply List.ext_getElem?;intro j
  by_cases hj:j=i
  ·subst hj;rw [uc4 (by have:=(ub2.mp h1).1;exact this),h1]
  ·rw [ue1 (Ne.symm hj)]
 have r:Rep K c' H (.ref a) (.lst ds):=.lst h4 nA (h5.mono ext);have f0:FInv K Oo c' { t with env:=t.env.set i (some (.val (.lst ds))) } σ H:=by
  have neq:∀{j:Nat} {x:Sl},(t.env.set i (some (.val (.lst ds))))[j]?=some (some x)->(j=i/\x = .val (.lst ds))\/(j≠i/\t.env[j]?=some (some x)):=λ{j x} q=>by
   by_cases h:j=i
   ·subst h;rw [uh1] at q
    split at q
    ·split at q
     ·injection q with q;injection q with q;exact .inl ⟨rfl,q.symm⟩
     ·cases q
    ·next h1=>exact absurd rfl h1
   ·rw [ue1 (Ne.symm h)] at q;exact .inr ⟨h,q⟩
  refine ⟨sinv,by simp [f.len],λb z=>⟨f.sub b z,λw=>h3 (w ▸ z)⟩,λj e q'=>?_,λj es q'=>?_,λj k ds' es b q1 q2 q3 q4=>?_⟩
  ·rcases neq q' with ⟨rfl,z⟩ | ⟨hn,q'⟩
   ·cases z;exact ⟨_,h1,r⟩
   ·obtain ⟨u,w1,w2⟩:=f.val j e q';exact ⟨u,w1,w2.mono ext⟩
  ·rcases neq q' with ⟨_,z⟩ | ⟨hn,q'⟩
   ·cases z
   ·obtain ⟨b,ws,w1,w2,w3,w4,w5⟩:=f.own j es q';refine ⟨b,ws,w1,⟨w2,λz=>?_⟩,w3,w4,w5.mono ext⟩;subst z;exact hn (f.inj j i es ds b q' q w1 h1)
  ·rcases neq q1 with ⟨_,z⟩ | ⟨_,q1⟩
   ·cases z
   rcases neq q2 with ⟨_,z⟩ | ⟨_,q2⟩
   ·cases z
   exact f.inj j k ds' es b q1 q2 q3 q4
 exact ⟨c',_,f0,⟨ext,λ_ _=>rfl⟩,h1,r⟩
theorem FInv.wrOwn (f:FInv K Oo c t σ H){i:Nat}{ds ds':List D}{vs':List V}{a:Addr}(q:t.env[i]?=some (some (.own ds)))(h1:σ[i]?=some (some (.ref a)))(r:Reps K c H vs' ds') :
 FInv K Oo c { t with env:=t.env.set i (some (.own ds')) } σ (upd H a (.lst vs'))/\Stp Oo c H c (upd H a (.lst vs')):=by
 obtain ⟨a',vs,g1,h2,h3,h4,h5⟩:=f.own i ds q;rw [h1] at g1;injection g1 with g1;injection g1 with g1;injection g1 with g1;subst g1
 have ext:Ext c H c (upd H a (.lst vs')):=⟨λb u e n=>by rw [Ar (λ(z:b=a)=>n (.inr (by rw [z];exact h2)))];exact e,λ_ _ _ z=>z,λ_ _ e=>e⟩;have stp:Stp Oo c H c (upd H a (.lst vs')):=⟨ext,λb z=>Ar λw=>h3 (w ▸ z)⟩;have sinv:SInv K c t.S (upd H a (.lst vs')):=by
  refine ⟨f.s.len,f.s.nd,λk b u e1 e2=>(f.s.obs k b u e1 e2).mono ext (Ar λz=>f.s.dis a h2 (z ▸ ue2 e1)),λb z=>?_,f.s.dis⟩
  by_cases hb:b=a
  ·subst hb;exact ⟨_,Ax⟩
  ·obtain ⟨u,e⟩:=f.s.trk b z;exact ⟨u,by rw [Ar hb];exact e⟩
 have neq:∀{j:Nat} {x:Sl},(t.env.set i (some (.own ds')))[j]?=some (some x)->(j=i/\x = .own ds')\/(j≠i/\t.env[j]?=some (some x)):=λ{j x} q=>by
  by_cases h:j=i
  ·subst h;rw [uh1] at q
   split at q
   ·split at q
    ·injection q with q;injection q with q;exact .inl ⟨rfl,q.symm⟩
    ·cases q
   ·next h1=>exact absurd rfl h1
  ·rw [ue1 (Ne.symm h)] at q;exact .inr ⟨h,q⟩
 refine ⟨⟨sinv,by simp [f.len],f.sub,λj e q'=>?_,λj es q'=>?_,λj k es es' b q1 q2 q3 q4=>?_⟩,stp⟩
 ·rcases neq q' with ⟨_,z⟩ | ⟨_,q'⟩
  ·cases z
  ·obtain ⟨u,w1,w2⟩:=f.val j e q';exact ⟨u,w1,w2.mono ext⟩
 ·rcases neq q' with ⟨rfl,z⟩ | ⟨hn,q'⟩
  ·cases z;exact ⟨a,vs',h1,h2,h3,Ax,r.mono ext⟩
  ·obtain ⟨b,ws,w1,w2,w3,w4,w5⟩:=f.own j es q';have hb:b≠a:=λz=>by subst z;exact hn (f.inj j i es ds b q' q w1 h1)
   exact ⟨b,ws,w1,w2,w3,by rw [Ar hb];exact w4,w5.mono ext⟩
 ·have old:∀{j:Nat} {x:List D},(t.env.set i (some (.own ds')))[j]?=some (some (.own x))->∃y,t.env[j]?=some (some (.own y)):=λ{j x} q'=>by
   rcases neq q' with ⟨rfl,_⟩ | ⟨_,q'⟩
   ·exact ⟨ds,q⟩
   ·exact ⟨x,q'⟩
  obtain ⟨y1,z1⟩:=old q1;obtain ⟨y2,z2⟩:=old q2;exact f.inj j k y1 y2 b z1 z2 q3 q4
theorem FInv.wrObj (f:FInv K Oo c t σ H){k:Nat}{a:Addr}{o:Ob}{u:HO}(e:c.ι[k]?=some a)(r:∀c' H',Ext c H c' H'->H' a=some u->ObR K c' H' a o) :
 FInv K Oo c { t with S:=t.S.set k o } σ (upd H a u)/\Stp Oo c H c (upd H a u):=by
 have hA:a∈c.ι:=ue2 e;have ext:Ext c H c (upd H a u):=⟨λb w h n=>by rw [Ar (λ(z:b=a)=>n (.inl (by rw [z];exact hA)))];exact h,λ_ _ _ z=>z,λ_ _ e=>e⟩;have neO:∀b,c.O b->b≠a:=λb z w=>f.s.dis b z (w ▸ hA);have stp:Stp Oo c H c (upd H a u):=⟨ext,λb z=>Ar (neO b (f.sub b z))⟩;have sinv:SInv K c (t.S.set k o) (upd H a u):=by
  refine ⟨by simp [f.s.len],f.s.nd,λj b o' e1 e2=>?_,λb z=>?_,f.s.dis⟩
  ·by_cases hj:j=k
   ·subst hj;rw [e] at e1;cases e1
    have hl:j < t.S.length:=by rw [<-f.s.len];exact (ub2.mp e).1
    rw [uc4 hl] at e2;cases e2
    exact r c _ ext Ax
   ·rw [ue1 (Ne.symm hj)] at e2;refine (f.s.obs j b o' e1 e2).mono ext (Ar λz=>?_);subst z;obtain ⟨l1,g1⟩:=ub2.mp e1;obtain ⟨l2,g2⟩:=ub2.mp e;exact hj ((uh5 f.s.nd).mp (g1.trans g2.symm))
  ·obtain ⟨w,h⟩:=f.s.trk b z;exact ⟨w,by rw [Ar (neO b z)];exact h⟩
 refine ⟨⟨sinv,f.len,f.sub,λi d q=>?_,λi ds q=>?_,f.inj⟩,stp⟩
 ·obtain ⟨v,h1,h2⟩:=f.val i d q;exact ⟨v,h1,h2.mono ext⟩
 ·obtain ⟨b,vs,h1,h2,h3,h4,h5⟩:=f.own i ds q;exact ⟨b,vs,h1,h2,h3,by rw [Ar (neO b h2)];exact h4,h5.mono ext⟩
theorem FInv.newObj (f:FInv K Oo c t σ H){p:Addr}{o:Ob}{u:HO}(h:H p=none)(r:∀c' H',Ext c H c' H'->H' p=some u->ObR K c' H' p o) :
 ∃c',FInv K Oo c' { t with S:=t.S++[o] } σ (upd H p u)/\Stp Oo c H c' (upd H p u)/\c'.ι[t.S.length]?=some p:=by
 let c':Cf:=⟨c.ι++[p],c.O⟩
 have nA:¬c.A p:=f.s.free h;have ext:Ext c H c' (upd H p u):=by
  refine ⟨λb w e _=>by rw [Ar (Bg e h)];exact e,λb w e z=>?_,λk a e=>?_⟩
  ·rcases z with z | z
   ·rcases ui9.mp z with z | z
    ·exact .inl z
    ·rw [uf9] at z;subst z;rw [h] at e;cases e
   ·exact .inr z
  ·show (c.ι++[p])[k]?=some a;rw [ub3 (ub2.mp e).1];exact e
 have stp:Stp Oo c H c' (upd H p u):=⟨ext,λb z=>by obtain ⟨w,e⟩:=f.s.trk b (f.sub b z);exact Ar (Bg e h)⟩;have at_:(c.ι++[p])[t.S.length]?=some p:=by rw [<-f.s.len,ua8 (un6 _)];simp
 have sinv:SInv K c' (t.S++[o]) (upd H p u):=by
  refine ⟨by simp [c',f.s.len],?_,λj b o' e1 e2=>?_,λb z=>?_,λb z hb=>?_⟩
  ·show (c.ι++[p]).Nodup;exact List.nodup_append.mpr ⟨f.s.nd,by simp,λx hx y hy z=>by rw [uf9] at hy;subst z;subst hy;exact nA (.inl hx)⟩
  ·have hlt:j < (t.S++[o]).length:=(ub2.mp e2).1
   by_cases hj:j < t.S.length
   ·have e1':c.ι[j]?=some b:=by
     have q:(c.ι++[p])[j]?=some b:=e1;rw [ub3 (by rw [f.s.len];exact hj)] at q;exact q
    rw [ub3 hj] at e2;have q:=f.s.obs j b o' e1' e2;obtain ⟨w,hw⟩:=q.some;exact q.mono ext (Ar (Bg hw h))
   ·have hj':j=t.S.length:=by simp at hlt;lia
    subst hj';rw [at_] at e1;cases e1
    rw [ua8 (un6 _)] at e2;simp at e2;subst e2;exact r c' _ ext Ax
  ·obtain ⟨w,e⟩:=f.s.trk b z;exact ⟨w,by rw [Ar (Bg e h)];exact e⟩
  ·rcases ui9.mp hb with w | w
   ·exact f.s.dis b z w
   ·rw [uf9] at w;subst w;exact nA (.inr z)
 refine ⟨c',⟨sinv,f.len,f.sub,λi d q=>?_,λi ds q=>?_,f.inj⟩,stp,at_⟩
 ·obtain ⟨v,h1,h2⟩:=f.val i d q;exact ⟨v,h1,h2.mono ext⟩
 ·obtain ⟨b,vs,h1,h2,h3,h4,h5⟩:=f.own i ds q;exact ⟨b,vs,h1,h2,h3,by rw [Ar (Bg h4 h)];exact h4,h5.mono ext⟩
theorem FInv.after (f:FInv K Oo c t σ H){c':Cf}{S':List Ob}{H':Hp}(s:SInv K c' S' H')(st:Stp c.O c H c' H')(ho:∀b,c'.O b↔c.O b):FInv K Oo c' { t with S:=S' } σ H'/\Stp Oo c H c' H':=by
 refine ⟨⟨s,f.len,λb z=>(ho b).mpr (f.sub b z),λi d q=>?_,λi ds q=>?_,f.inj⟩,st.ext,λb z=>st.oo b (f.sub b z)⟩
 ·obtain ⟨v,h1,h2⟩:=f.val i d q;exact ⟨v,h1,h2.mono st.ext⟩
 ·obtain ⟨b,vs,h1,h2,h3,h4,h5⟩:=f.own i ds q;exact ⟨b,vs,h1,(ho b).mpr h2,h3,(st.oo b h2).trans h4,h5.mono st.ext⟩
end
abbrev M (α:Type):=T->Option (α×T)
inductive Out where
 | next | brk | cont | ret (d:D)
noncomputable def ret {α:Type}(a:α):M α:=λt=>some (a,t)
noncomputable def fail {α:Type}:M α:=λ_=>none
noncomputable def bnd {α β:Type}(f:M α)(g:α->M β):M β:=λt=>match f t with
 | some (a,t1)=>g a t1
 | none=>none
variable {t:T}
theorem Ao {α β:Type}{f:M α}{g:α->M β}{z:β×T}(h:bnd f g t=some z):∃a t1,f t=some (a,t1)/\g a t1=some z:=by
 unfold bnd at h
 cases e:f t with
 | none=>rw [e] at h;cases h
 | some p=>obtain ⟨a,t1⟩:=p;rw [e] at h;exact ⟨a,t1,rfl,h⟩
noncomputable def LIM:Nat:=100000
theorem CH:LIM<=sizeLine:=by unfold LIM;decide
theorem VM:LIM < sizeLine:=by unfold LIM;decide
section
variable (K:PySem.W.Frag)
def RE (f:M D):TE:=λσ H Q=>∃Oo c t,FInv K Oo c t σ H/\∃r t',f t=some (r,t')/\∀v H' c',FInv K Oo c' t' σ H'->Stp Oo c H c' H'->Rep K c' H' v r->Q v H'
def RT (f:M Bool):TT:=λσ H Q=>∃Oo c t,FInv K Oo c t σ H/\∃r t',f t=some (r,t')/\∀H' c',FInv K Oo c' t' σ H'->Stp Oo c H c' H'->Q r H'
def RA (f:M (List D)):TA:=λσ H Q=>∃Oo c t,FInv K Oo c t σ H/\∃r t',f t=some (r,t')/\∀vs H' c',FInv K Oo c' t' σ H'->Stp Oo c H c' H'->Reps K c' H' vs r->Q vs H'
def RF (f:M (List D)):TE:=λσ H Q=>∃Oo c t,FInv K Oo c t σ H/\∃ds t',f t=some (ds,t')/\∀p vs H' c',FInv K Oo c' t' σ H'->Stp Oo c H c' H'->Reps K c' H' vs ds->H' p=none->Q (.ref p) (upd H' p (.lst vs))
def RSg (μ:Cf->Hp->D->(V->Hp->Prop)->Prop)(f:M Out):TS:=λE σ H=>∃Oo c t,FInv K Oo c t σ H/\∃o t',f t=some (o,t')/\∀σ' H' c',FInv K Oo c' t' σ' H'->Stp Oo c H c' H'->
 match o with
 | .next=>E.nx σ' H'
 | .brk=>E.bk σ' H'
 | .cont=>E.ct σ' H'
 | .ret r=>μ c' H' r E.rt
def μR:Cf->Hp->D->(V->Hp->Prop)->Prop:=λc H r rt=>∀v,Rep K c H v r->rt v H
def μF:Cf->Hp->D->(V->Hp->Prop)->Prop:=λc H r rt=>match r with
 | .lst ds=>∀p us,H p=none->Reps K c H us ds->rt (.ref p) (upd H p (.lst us))
 | _=>False
abbrev RS (f:M Out):TS:=RSg K (μR K) f
def RG (f:D->M Unit):TG:=λv σ H Q=>∃Oo c t d,FInv K Oo c t σ H/\Rep K c H v d/\∃t',f d t=some ((),t')/\∀σ' H' c',FInv K Oo c' t' σ' H'->Stp Oo c H c' H'->Q σ' H'
structure ItOk (J:It)(c:Cf)(H:Hp)(ds:List D):Prop where
 go:∀c' H' (i:Nat),Ext c H c' H'->i < ds.length->J.go i H'
 yld:∀c' H' (i:Nat) x H'' d,Ext c H c' H'->ds[i]?=some d->J.yld i H' x H''->H''=H'/\Rep K c' H' x d
 stop:∀c' H',Ext c H c' H'->J.stop ds.length H'
def RI (f:M (List D)):TI:=λσ H R=>∃Oo c t,FInv K Oo c t σ H/\∃ds t',f t=some (ds,t')/\∀J H' c',FInv K Oo c' t' σ H'->Stp Oo c H c' H'->ItOk K J c' H' ds->R J H'
def BY (R:R2)(h:D->D->M D):Prop:=∀{Oo:Addr->Prop} {c:Cf} {t:T} {σ:L2.St} {H:Hp} {x y:V} {dx dy r:D} {t':T} {Q:VK},FInv K Oo c t σ H->Rep K c H x dx->Rep K c H y dy->h dx dy t=some (r,t')->
 (∀v H' c',FInv K Oo c' t' σ H'->Stp Oo c H c' H'->Rep K c' H' v r->Q v H')->R x y H Q
def Es (R:List V->Hp->VK->Prop)(h:List D->M D):Prop:=∀{Oo:Addr->Prop} {c:Cf} {t:T} {σ:L2.St} {H:Hp} {xs:List V} {ds:List D} {r:D} {t':T} {Q:VK},FInv K Oo c t σ H->Reps K c H xs ds->h ds t=some (r,t')->
 (∀v H' c',FInv K Oo c' t' σ H'->Stp Oo c H c' H'->Rep K c' H' v r->Q v H')->R xs H Q
def O4 (R:R2)(h:D->D->M (List D)):Prop:=∀{Oo:Addr->Prop} {c:Cf} {t:T} {σ:L2.St} {H:Hp} {x y:V} {dx dy:D} {r:List D} {t':T} {Q:VK},FInv K Oo c t σ H->Rep K c H x dx->Rep K c H y dy->h dx dy t=some (r,t')->
 (∀p vs H' c',FInv K Oo c' t' σ H'->Stp Oo c H c' H'->Reps K c' H' vs r->H' p=none->Q (.ref p) (upd H' p (.lst vs)))->R x y H Q
def Me (R:List V->Hp->VK->Prop)(h:List D->M (List D)):Prop:=∀{Oo:Addr->Prop} {c:Cf} {t:T} {σ:L2.St} {H:Hp} {xs:List V} {ds r:List D} {t':T} {Q:VK},FInv K Oo c t σ H->Reps K c H xs ds->h ds t=some (r,t')->
 (∀p vs H' c',FInv K Oo c' t' σ H'->Stp Oo c H c' H'->Reps K c' H' vs r->H' p=none->Q (.ref p) (upd H' p (.lst vs)))->R xs H Q
end
variable {tg:Expr}{i:Int}{j:Nat}{x:Str}{f g:M D}{h:D->D->M D}{R:R2}{σ:L2.St}
section
variable {X:Cx}{e a b:Expr}{pos:Pos}
theorem BC {t t':TE}(h:PE X e t)(i:∀σ H Q,t' σ H Q->t σ H Q):PE X e t':=λpins s σ H Q I q=>h pins s σ H Q I (i σ H Q q)
theorem Mz {t t':TT}(h:PT X e t)(i:∀σ H Q,t' σ H Q->t σ H Q):PT X e t':=λpins s σ H Q I q=>h pins s σ H Q I (i σ H Q q)
theorem P5 {t t':TT}(h:PW X e t)(i:∀σ H Q,t' σ H Q->t σ H Q):PW X e t':=λw pins s σ H Q I q=>h w pins s σ H Q I (i σ H Q q)
theorem P3 {es:List Expr}{t t':TA}(h:PA X es t)(i:∀σ H Q,t' σ H Q->t σ H Q):PA X es t':=λpos pins s σ H Q I q=>h pos pins s σ H Q I (i σ H Q q)
theorem B0 {st:Stmt}{t t':TS}(h:PS X st t)(i:∀E σ H,t' E σ H->t E σ H):PS X st t':=λpins s σ H E I q=>h pins s σ H E I (i E σ H q)
theorem Ov {st:List Stmt}{t t':TS}(h:PSs X st t)(i:∀E σ H,t' E σ H->t E σ H):PSs X st t':=λpins s σ H E I q=>h pins s σ H E I (i E σ H q)
theorem Mx {t t':TG}(h:PG X e t)(i:∀v σ H Q,t' v σ H Q->t v σ H Q):PG X e t':=λpins s σ H v u Q I r q=>h pins s σ H v u Q I r (i v σ H Q q)
theorem Jx {t t':TI}(h:PI X tg e t)(i:∀σ H R,t' σ H R->t σ H R):PI X tg e t':=λpins s σ H R I q=>h pins s σ H R I (i σ H R q)
def fC (d:D):M D:=ret d
theorem IR {v:V}{d:D}(h:PE X e (tC v))(r:∀c H,Rep X.K c H v d):PE X e (RE X.K (fC d)):=
 BC h λσ H Q z9=>by
  obtain ⟨Oo,c,t,f,r',t',eq,k⟩:=z9
  cases eq
  exact k v H c f .refl (r c H)
theorem Ah:PE X (.Constant (.int i) j pos) (RE X.K (fC (.int i))):=IR WA λ_ _=>.int i
theorem Ds {i:Bool}:PE X (.Constant (.bool i) j pos) (RE X.K (fC (.bl i))):=IR XR λ_ _=>.bl i
theorem AD {i:Str}:PE X (.Constant (.str i) j pos) (RE X.K (fC (.str i))):=IR QV λ_ _=>.str i
theorem Dy:PE X (.Constant .none j pos) (RE X.K (fC .non)):=IR WC λ_ _=>.non
theorem HW {tk:Tok}(hg:Gl X x)(hm:X.mg x=some (.int i tk))(hd:(x == ("__debug__" : Str))=false:=by decide):PE X (.Name x pos) (RE X.K (fC (.int i))):=
 IR (OP hg hm (v:=.int i) ⟨tk,rfl⟩ hd) λ_ _=>.int i
theorem R3 {y:Str}{tk:Tok}(hg:Gl X x)(hm:X.mg x=some (.str y tk))(hd:(x == ("__debug__" : Str))=false:=by decide):PE X (.Name x pos) (RE X.K (fC (.str y))):=
 IR (OP hg hm (v:=.str y) ⟨tk,rfl⟩ hd) λ_ _=>.str y
theorem DR {n:String}(hg:Gl X x)(hm:X.mg x=none)(hv:bootBuiltins x=some (.type n))(hn:x≠"__name__":=by decide)(hd:(x == ("__debug__" : Str))=false:=by decide):PE X (.Name x pos) (RE X.K (fC (.ty n))):=
 IR (UR hg hm hv (v:=.ty n) rfl hn hd) λ_ _=>.ty n
noncomputable def Ad (i:Nat):M D:=λt=>match t.env[i]? with
 | some (some (.val d))=>some (d,t)
 | some (some (.own ds))=>some (.lst ds,{ t with env:=t.env.set i (some (.val (.lst ds))) })
 | _=>none
theorem Pi {i:Nat}{t':T}{r:D}(h:Ad i t=some (r,t')):(t.env[i]?=some (some (.val r))/\t'=t)\/∃ds,t.env[i]?=some (some (.own ds))/\r = .lst ds/\t' = { t with env:=t.env.set i (some (.val (.lst ds))) }:=by
 unfold Ad at h
 cases e:t.env[i]? with
 | none=>rw [e] at h;cases h
 | some o=>
   cases o with
   | none=>rw [e] at h;cases h
   | some sl=>
     cases sl with
     | val d=>rw [e] at h;cases h;exact .inl ⟨rfl,rfl⟩
     | own ds=>rw [e] at h;cases h;exact .inr ⟨ds,rfl,rfl,rfl⟩
theorem Ab (i:Nat){x:Str}(hN:X.N[i]?=some x:=by rfl)(hv:Vis X.env.scope x:=by first | exact Or.inl rfl | exact Or.inr (Or.inl rfl) | exact Or.inr (Or.inr rfl))(hd:(x == ("__debug__" : Str))=false:=by decide)
 (hcd:(x == ("__classdict__" : Str))=false:=by decide):PE X (.Name x pos) (RE X.K (Ad i)):=
 BC (Dz hN hv hd hcd) λσ H Q z9=>by
  obtain ⟨Oo,c,t,f,r,t',eq,k⟩:=z9;rcases Pi eq with ⟨q,rfl⟩ | ⟨ds,q,rfl,rfl⟩
  ·obtain ⟨v,h1,h2⟩:=f.val i r q;exact ⟨v,h1,k v H c f .refl h2⟩
  ·obtain ⟨c',v,f',st,h1,h2⟩:=f.frz q;exact ⟨v,h1,k v H c' f' st h2⟩
def Ag (f g:M D)(h:D->D->M D):M D:=bnd f λx=>bnd g λy=>h x y
theorem RE.two (s:BY K R h){σ:L2.St}{H:Hp}{Q:VK}(q:RE K (Ag f g h) σ H Q):tOp R (RE K f) (RE K g) σ H Q:=by
 obtain ⟨Oo,c,t,fi,r,t',eq,k⟩:=q;obtain ⟨dx,t1,e1,eq⟩:=Ao eq;obtain ⟨dy,t2,e2,eq⟩:=Ao eq;exact ⟨Oo,c,t,fi,dx,t1,e1,λx H1 c1 f1 s1 rx=>⟨Oo,c1,t1,f1,dy,t2,e2,λy H2 c2 f2 s2 ry=>s f2 (rx.mono s2.ext) ry eq λv H' c' f' s' rv=>k v H' c' f' ((s1.trans s2).trans s') rv⟩⟩
theorem AE {op:Operator}{R:R2}{f g:M D}{h:D->D->M D}(ho:OpR X (binaryOp op) R)(s:BY X.K R h)(ha:PE X a (RE X.K f))(hb:PE X b (RE X.K g)):PE X (.BinOp a op b pos) (RE X.K (Ag f g h)):=
 BC (Pz ho ha hb) λ_ _ _ q=>RE.two s q
theorem FJ {op:CmpOp}{R:R2}{f g:M D}{h:D->D->M D}(ho:OpR X (compareOp op) R)(s:BY X.K R h)(ha:PE X a (RE X.K f))(hb:PE X b (RE X.K g))(hm:behindInMarks op b=false):PE X (.Compare a [op] [b] pos) (RE X.K (Ag f g h)):=
 BC (US ho ha hb hm) λ_ _ _ q=>RE.two s q
theorem Am {R:R2}{f g:M D}{h:D->D->M D}(hr:IxR X R)(s:BY X.K R h)(ha:PE X a (RE X.K f))(hb:PE X b (RE X.K g))(hs:Ox b):PE X (.Subscript a b pos) (RE X.K (Ag f g h)):=
 BC (XS hr ha hb hs) λ_ _ _ q=>RE.two s q
def fUn (f:M D)(h:D->M D):M D:=bnd f h
def toB:D->M Bool
 | .bl b=>ret b
 | _=>fail
def AJ (f:M D):M Bool:=bnd f toB
theorem Js {d:D}{z:Bool×T}(h:toB d t=some z):∃b,d = .bl b/\z=(b,t):=by
 cases d with
 | bl b=>cases h;exact ⟨b,rfl,rfl⟩
 | _=>cases h
theorem RT.val {Q:Bool->Hp->Prop}(q:RT K (AJ f) σ H Q):RE K f σ H λx H1=>∃k,x = .bl k/\Q k H1:=by
 obtain ⟨Oo,c,t,fi,r,t',eq,k⟩:=q;obtain ⟨d,t1,e1,eq⟩:=Ao eq;obtain ⟨b,rfl,z⟩:=Js eq
 cases z
 refine ⟨Oo,c,t,fi,_,t',e1,λv H1 c1 f1 s1 rv=>?_⟩
 cases rv
 exact ⟨r,rfl,k H1 c1 f1 s1⟩
theorem Cj {f:M D}(h:PE X e (RE X.K f))(he:∀whole,isTrue e X.env whole=(do let v <-whole;standAt e.pos;holding [v] (truthy v)):=by intro _;rfl):PT X e (RT X.K (AJ f)):=
 Mz (WM h he) λ_ _ _ q=>RT.val q
theorem AV {op:CmpOp}{R:R2}{f g:M D}{h:D->D->M D}(ho:OpR X (compareOp op) R)(s:BY X.K R h)(ha:PE X a (RE X.K f))(hb:PE X b (RE X.K g))(hm:behindInMarks op b=false):PT X (.Compare a [op] [b] pos) (RT X.K (AJ (Ag f g h))):=
 Mz (U6 ho ha hb hm) λσ H Q q=>RE.two s (RT.val q)
def FI (f g w:M D)(h h':D->D->M D):M D:=bnd f λx=>bnd g λy=>bnd (AJ (h x y)) λk=>if k=true then bnd w λz=>h' y z else ret (.bl false)
theorem RE.chain {w:M D}{h':D->D->M D}{R':R2}(s:BY K R h)(s':BY K R' h'){σ:L2.St}{H:Hp}{Q:VK}(q:RE K (FI f g w h h') σ H Q):Rj R R' (RE K f) (RE K g) (RE K w) σ H Q:=by
 obtain ⟨Oo,c,t,fi,r,t',eq,k⟩:=q;obtain ⟨dx,t1,e1,eq⟩:=Ao eq;obtain ⟨dy,t2,e2,eq⟩:=Ao eq;obtain ⟨kb,t3,e3,eq⟩:=Ao eq;obtain ⟨d3,t3',e3',e3⟩:=Ao e3;obtain ⟨b3,rfl,z⟩:=Js e3
 cases z
 refine ⟨Oo,c,t,fi,dx,t1,e1,λx H1 c1 f1 s1 rx=>⟨Oo,c1,t1,f1,dy,t2,e2,λy H2 c2 f2 s2 ry=>s f2 (rx.mono s2.ext) ry e3' λv H3 c3 f3 s3 rv=>?_⟩⟩
 cases rv
 refine ⟨kb,rfl,?_⟩
 cases kb with
 | false=>
   rw [if_neg uf4] at eq ⊢
   cases eq
   exact k _ H3 c3 f3 ((s1.trans s2).trans s3) (.bl false)
 | true=>
   rw [if_pos rfl] at eq ⊢;obtain ⟨dz,t4,e4,eq⟩:=Ao eq;exact ⟨Oo,c3,t3,f3,dz,t4,e4,λw' H4 c4 f4 s4 rw'=>s' f4 (ry.mono (s3.trans s4).ext) rw' eq λv H' c' f' s' rv=>k v H' c' f' ((((s1.trans s2).trans s3).trans s4).trans s') rv⟩
theorem MZ {d:Expr}{op op':CmpOp}{R':R2}{w:M D}{h':D->D->M D}(ho:OpR X (compareOp op) R)(ho':OpR X (compareOp op') R')(s:BY X.K R h)(s':BY X.K R' h')(ha:PE X a (RE X.K f))(hb:PE X b (RE X.K g))(hd:PE X d (RE X.K w))
 (hm:lastMarks [op,op'] [b,d]=false:=by with_unfolding_all rfl):PE X (.Compare a [op,op'] [b,d] pos) (RE X.K (FI f g w h h')):=
 BC (Sv ho ho' ha hb hd hm) λ_ _ _ q=>RE.chain s s' q
def IQ (f g:M Bool):M Bool:=bnd f λk=>if k=true then g else ret false
def fOr (f g:M Bool):M Bool:=bnd f λk=>if k=true then ret true else g
def De (f:M Bool):M Bool:=bnd f λk=>ret (!k)
def F5 (f g:M D):M D:=bnd (AJ f) λk=>if k=true then g else ret (.bl false)
def V2 (f g:M D):M D:=bnd (AJ f) λk=>if k=true then ret (.bl true) else g
def HU (f:M D):M D:=bnd (AJ f) λk=>ret (.bl (!k))
def fIf (f:M Bool)(g h:M D):M D:=bnd f λk=>if k=true then g else h
variable {f g:M Bool}{u v w:M D}{rest:List Expr}
theorem Fi (h:PW X e (RT X.K f)):PT X e (RT X.K f):=h.pt
theorem OH (ha:PT X a (RT X.K f)):PW X (.BoolOp .And [a] pos) (RT X.K f):=U8 ha
theorem FM (ha:PT X a (RT X.K f)):PW X (.BoolOp .Or [a] pos) (RT X.K f):=WP ha
theorem Qx (ha:PT X a (RT X.K f))(hb:PW X (.BoolOp .And (b :: rest) pos) (RT X.K g)):PW X (.BoolOp .And (a :: b :: rest) pos) (RT X.K (IQ f g)):=
 P5 (WO ha hb) λσ H Q z9=>by
  obtain ⟨Oo,c,t,fi,r,t',eq,k⟩:=z9;obtain ⟨kb,t1,e1,eq⟩:=Ao eq;refine ⟨Oo,c,t,fi,kb,t1,e1,λH1 c1 f1 s1=>?_⟩
  cases kb with
  | false=>rw [if_neg uf4] at eq ⊢;cases eq;exact k H1 c1 f1 s1
  | true=>rw [if_pos rfl] at eq ⊢;exact ⟨Oo,c1,t1,f1,r,t',eq,λH2 c2 f2 s2=>k H2 c2 f2 (s1.trans s2)⟩
theorem GT (ha:PT X a (RT X.K f))(hb:PW X (.BoolOp .Or (b :: rest) pos) (RT X.K g)):PW X (.BoolOp .Or (a :: b :: rest) pos) (RT X.K (fOr f g)):=
 P5 (XX ha hb) λσ H Q z9=>by
  obtain ⟨Oo,c,t,fi,r,t',eq,k⟩:=z9;obtain ⟨kb,t1,e1,eq⟩:=Ao eq;refine ⟨Oo,c,t,fi,kb,t1,e1,λH1 c1 f1 s1=>?_⟩
  cases kb with
  | true=>rw [if_pos rfl] at eq ⊢;cases eq;exact k H1 c1 f1 s1
  | false=>rw [if_neg uf4] at eq ⊢;exact ⟨Oo,c1,t1,f1,r,t',eq,λH2 c2 f2 s2=>k H2 c2 f2 (s1.trans s2)⟩
theorem CN (ha:PT X a (RT X.K f)):PT X (.UnaryOp .Not a pos) (RT X.K (De f)):=
 Mz (WL ha) λσ H Q z9=>by
  obtain ⟨Oo,c,t,fi,r,t',eq,k⟩:=z9;obtain ⟨kb,t1,e1,eq⟩:=Ao eq
  cases eq
  exact ⟨Oo,c,t,fi,kb,_,e1,λH1 c1 f1 s1=>k H1 c1 f1 s1⟩
theorem NZ {f:M D}{kb:Bool}{t1:T}(h:AJ f t=some (kb,t1)):f t=some (.bl kb,t1):=by
 obtain ⟨d,t2,e1,e2⟩:=Ao h;obtain ⟨b,rfl,z⟩:=Js e2
 cases z
 exact e1
theorem JS {op:PySem.BoolOp}(h:PE X a (RE X.K u)):PE X (.BoolOp op [a] pos) (RE X.K u):=WE h
theorem JR (ha:PE X a (RE X.K u))(hb:PE X (.BoolOp .And (b :: rest) pos) (RE X.K v)):PE X (.BoolOp .And (a :: b :: rest) pos) (RE X.K (F5 u v)):=
 BC (Wy ha hb) λσ H Q z9=>by
  obtain ⟨Oo,c,t,fi,r,t',eq,k⟩:=z9;obtain ⟨kb,t1,e1,eq⟩:=Ao eq;refine ⟨Oo,c,t,fi,_,t1,NZ e1,λx H1 c1 f1 s1 rx=>?_⟩
  cases rx
  refine ⟨kb,rfl,?_⟩
  cases kb with
  | false=>rw [if_neg uf4] at eq ⊢;cases eq;exact k _ H1 c1 f1 s1 (.bl false)
  | true=>rw [if_pos rfl] at eq ⊢;exact ⟨Oo,c1,t1,f1,r,t',eq,λy H2 c2 f2 s2 ry=>k y H2 c2 f2 (s1.trans s2) ry⟩
theorem Qo (ha:PE X a (RE X.K u)):PE X (.UnaryOp .Not a pos) (RE X.K (HU u)):=
 BC (WD ha) λσ H Q z9=>by
  obtain ⟨Oo,c,t,fi,r,t',eq,k⟩:=z9;obtain ⟨kb,t1,e1,eq⟩:=Ao eq
  cases eq
  refine ⟨Oo,c,t,fi,_,_,NZ e1,λx H1 c1 f1 s1 rx=>?_⟩
  cases rx
  exact ⟨kb,rfl,k _ H1 c1 f1 s1 (.bl (!kb))⟩
end
variable {n:Nat}{p:Pos}
section
variable {X:Cx}{e a b:Expr}{es:List Expr}{pos:Pos}
def Aj:M (List D):=ret []
def Ac (f:M D)(g:M (List D)):M (List D):=bnd f λd=>bnd g λds=>ret (d :: ds)
theorem Af:PA X [] (RA X.K Aj):=P3 Wx λσ H Q z9=>by
 obtain ⟨Oo,c,t,fi,r,t',eq,k⟩:=z9
 cases eq
 exact k [] H c fi .refl .nil
theorem Ub {g:M (List D)}(ha:PE X e (RE X.K f))(hr:PA X es (RA X.K g))(hs:starEach (e :: es) X.env=(false,eval e X.env) :: starEach es X.env:=by rfl):PA X (e :: es) (RA X.K (Ac f g)):=
 P3 (UP ha hr hs) λσ H Q z9=>by
  obtain ⟨Oo,c,t,fi,r,t',eq,k⟩:=z9;obtain ⟨d,t1,e1,eq⟩:=Ao eq;obtain ⟨ds,t2,e2,eq⟩:=Ao eq
  cases eq
  exact ⟨Oo,c,t,fi,d,t1,e1,λx H1 c1 f1 s1 rx=>⟨Oo,c1,t1,f1,ds,_,e2,λxs H2 c2 f2 s2 rxs=>k _ H2 c2 f2 (s1.trans s2) (.cons (rx.mono s2.ext) rxs)⟩⟩
def lim {α:Type}(n:Nat)(a:α):M α:=λt=>if n<=LIM then some (a,t) else none
theorem Eg {α:Type}{a:α}{z:α×T}(h:lim n a t=some z):n<=LIM/\z=(a,t):=by
 unfold lim at h
 split at h
 ·next h1=>cases h;exact ⟨h1,rfl⟩
 ·cases h
def BL (f:M (List D)):M D:=bnd f λds=>lim ds.length (.tup ds)
theorem BA {x1:Nat}{f:M (List D)}(h:PA X es (RA X.K f)):PE X (.Tuple es x1 pos) (RE X.K (BL f)):=
 BC (WF h) λσ H Q z9=>by
  obtain ⟨Oo,c,t,fi,r,t',eq,k⟩:=z9;obtain ⟨ds,t1,e1,eq⟩:=Ao eq;obtain ⟨hl,z⟩:=Eg eq
  cases z
  refine ⟨Oo,c,t,fi,ds,_,e1,λxs H1 c1 f1 s1 rxs=>⟨by rw [rxs.length];exact um5 hl CH,λp hp=>?_⟩⟩;exact k _ _ c1 (f1.laid hp) (s1.trans (f1.stp_laid hp)) (.tup Ax (f1.s.free hp) (rxs.mono (Ext.laid f1.s hp)))
def BI (f:M (List D)):M (List D):=bnd f λds=>lim ds.length ds
theorem Bw {f:M (List D)}(h:PA X es (RA X.K f)):PE X (.List es pos) (RF X.K (BI f)):=
 BC (WB h) λσ H Q z9=>by
  obtain ⟨Oo,c,t,fi,r,t',eq,k⟩:=z9;obtain ⟨ds,t1,e1,eq⟩:=Ao eq;obtain ⟨hl,z⟩:=Eg eq
  cases z
  exact ⟨Oo,c,t,fi,_,_,e1,λxs H1 c1 f1 s1 rxs=>⟨by rw [rxs.length];exact um5 hl CH,λp hp=>k p xs H1 c1 f1 s1 rxs hp⟩⟩
def Ba (f:M (List D)):M D:=bnd f λds=>ret (.lst ds)
theorem Bh {f:M (List D)}(h:PE X e (RF X.K f)):PE X e (RE X.K (Ba f)):=
 BC h λσ H Q z9=>by
  obtain ⟨Oo,c,t,fi,r,t',eq,k⟩:=z9;obtain ⟨ds,t1,e1,eq⟩:=Ao eq
  cases eq
  exact ⟨Oo,c,t,fi,ds,_,e1,λp xs H1 c1 f1 s1 rxs hp=>k _ _ c1 (f1.laid hp) (s1.trans (f1.stp_laid hp)) (.lst Ax (f1.s.free hp) (rxs.mono (Ext.laid f1.s hp)))⟩
noncomputable def Pw (o:Ob):M D:=λt=>some (.obj t.S.length,{ t with S:=t.S++[o] })
def KR (f:M (List D)):M D:=bnd f λds=>Pw (.lst ds)
theorem Qp {f:M (List D)}(h:PE X e (RF X.K f)):PE X e (RE X.K (KR f)):=
 BC h λσ H Q z9=>by
  obtain ⟨Oo,c,t,fi,r,t',eq,k⟩:=z9;obtain ⟨ds,t1,e1,eq⟩:=Ao eq
  cases eq
  refine ⟨Oo,c,t,fi,ds,_,e1,λp xs H1 c1 f1 s1 rxs hp=>?_⟩;obtain ⟨c2,f2,s2,e2⟩:=f1.newObj (o:=.lst ds) (u:=.lst xs) hp λc' H' ex hu=>⟨xs,hu,rxs.mono ex⟩;exact k _ _ c2 f2 (s1.trans s2) (.obj e2)
abbrev Fn:=List D->List Ob->Option (D×List Ob)
def spF (K:PySem.W.Frag)(f:Fn):Sp:=λvs H Q _=>∃c ds S,SInv K c S H/\Reps K c H vs ds/\∃r S',f ds S=some (r,S')/\
 ∀v H' c',SInv K c' S' H'->Stp c.O c H c' H'->(∀b,c'.O b↔c.O b)->Rep K c' H' v r->Q v H'
def Au (g:Fn)(f:M (List D)):M D:=bnd f λds t=>match g ds t.S with
 | some (r,S')=>some (r,{ t with S:=S' })
 | none=>none
theorem Lx {g:Fn}{ds:List D}{r:D}{t':T}(h:(match g ds t.S with | some (r,S')=>some (r,{ t with S:=S' }) | none=>none:Option (D×T))=some (r,t')):∃S',g ds t.S=some (r,S')/\t' = { t with S:=S' }:=by
 cases e:g ds t.S with
 | none=>rw [e] at h;cases h
 | some p=>obtain ⟨r',S'⟩:=p;rw [e] at h;cases h;exact ⟨S',rfl,rfl⟩
theorem Uc {k:Nat}{fa:Addr}{fd:FuncData}{ps:List Str}{g:Fn}{f:M (List D)}(F:FnOk X.prog X.w X.K X.mg X.base CX0 k fa fd ps (spF X.K g))(hr:Room k X.A)(hg:Gl X x)(hm:X.mg x=some (.ref fa))(hk:PySem.W.keepIn X.K (.ref fa)=true)(hb:Binds X.K fd ps [])
 (ha:PA X (e :: es) (RA X.K f)) (hdb:(x == ("__debug__" : Str))=false:=by decide) (he:starEach (e :: es) X.env=(false,eval e X.env) :: starEach es X.env:=by rfl) (hpl:(backTo pos (starEach es X.env)).any (·.1)=false:=by rfl) :
 PE X (.Call (.Name x p) (e :: es) [] pos) (RE X.K (Au g f)):=
 BC (ON F hr hg hm hk hb .nil Tw ha hdb he hpl) λσ H Q z9=>by
  obtain ⟨Oo,c,t,fi,r,t',eq,kk⟩:=z9;obtain ⟨ds,t1,e1,eq⟩:=Ao eq;obtain ⟨S',e2,rfl⟩:=Lx eq;refine ⟨Oo,c,t,fi,ds,t1,e1,λvs H1 c1 f1 s1 rvs=>?_⟩;show spF X.K g (vs++[]) H1 Q E0;rw [uj2];refine ⟨c1,ds,t1.S,f1.s,rvs,r,S',e2,λv H' c' si st ho rv=>?_⟩;obtain ⟨f2,s2⟩:=f1.after si st ho;exact kk v H' c' f2 (s1.trans s2) rv
def fB (f:M (List D))(h:List D->M D):M D:=bnd f h
theorem RE.callB {f:M (List D)}{h:List D->M D}{R:List V->Hp->VK->Prop}(s:Es K R h){σ:L2.St}{H:Hp}{Q:VK}(q:RE K (fB f h) σ H Q):tCB R (RA K f) σ H Q:=by
 obtain ⟨Oo,c,t,fi,r,t',eq,k⟩:=q;obtain ⟨ds,t1,e1,eq⟩:=Ao eq;exact ⟨Oo,c,t,fi,ds,t1,e1,λxs H1 c1 f1 s1 rxs=>s f1 rxs eq λv H' c' f' s' rv=>k v H' c' f' (s1.trans s') rv⟩
def fBF (f:M (List D))(h:List D->M (List D)):M (List D):=bnd f h
theorem RF.callB {f:M (List D)}{h:List D->M (List D)}{R:List V->Hp->VK->Prop}(s:Me K R h){σ:L2.St}{H:Hp}{Q:VK}(q:RF K (fBF f h) σ H Q):tCB R (RA K f) σ H Q:=by
 obtain ⟨Oo,c,t,fi,r,t',eq,k⟩:=q;obtain ⟨ds,t1,e1,eq⟩:=Ao eq;exact ⟨Oo,c,t,fi,ds,t1,e1,λxs H1 c1 f1 s1 rxs=>s f1 rxs eq λp vs H' c' f' s' rv hp=>k p vs H' c' f' (s1.trans s') rv hp⟩
theorem RF.two {h:D->D->M (List D)}(s:O4 K R h){σ:L2.St}{H:Hp}{Q:VK}(q:RF K (bnd f λx=>bnd g λy=>h x y) σ H Q):tOp R (RE K f) (RE K g) σ H Q:=by
 obtain ⟨Oo,c,t,fi,r,t',eq,k⟩:=q;obtain ⟨dx,t1,e1,eq⟩:=Ao eq;obtain ⟨dy,t2,e2,eq⟩:=Ao eq;exact ⟨Oo,c,t,fi,dx,t1,e1,λx H1 c1 f1 s1 rx=>⟨Oo,c1,t1,f1,dy,t2,e2,λy H2 c2 f2 s2 ry=>s f2 (rx.mono s2.ext) ry eq λp vs H' c' f' s' rv hp=>k p vs H' c' f' ((s1.trans s2).trans s') rv hp⟩⟩
end
variable {μ:Cf->Hp->D->(V->Hp->Prop)->Prop}
section
variable {X:Cx}{e a b:Expr}{pos:Pos}{st:Stmt}{sts:List Stmt}
noncomputable def Aq (f g:M Out):M Out:=λt=>match f t with
 | some (.next,t1)=>g t1
 | z=>z
def AU:M Out:=ret .next
theorem AI:PSs X [] (RSg X.K μ AU):=Ov U5 λE σ H z9=>by
 obtain ⟨Oo,c,t,fi,o,t',eq,k⟩:=z9
 cases eq
 exact k σ H c fi .refl
theorem Ai {μ:Cf->Hp->D->(V->Hp->Prop)->Prop}{f g:M Out}(h1:PS X st (RSg X.K μ f))(h2:PSs X sts (RSg X.K μ g)):PSs X (st :: sts) (RSg X.K μ (Aq f g)):=
 Ov (Jg h1 h2) λE σ H z9=>by
  obtain ⟨Oo,c,t,fi,o,t',eq,k⟩:=z9;unfold Aq at eq
  cases e1:f t with
  | none=>rw [e1] at eq;cases eq
  | some p=>
    obtain ⟨o1,t1⟩:=p;rw [e1] at eq;refine ⟨Oo,c,t,fi,o1,t1,e1,λσ1 H1 c1 f1 s1=>?_⟩
    cases o1 with
    | next=>exact ⟨Oo,c1,t1,f1,o,t',eq,λσ2 H2 c2 f2 s2=>k σ2 H2 c2 f2 (s1.trans s2)⟩
    | brk=>cases eq;exact k σ1 H1 c1 f1 s1
    | cont=>cases eq;exact k σ1 H1 c1 f1 s1
    | ret d=>cases eq;exact k σ1 H1 c1 f1 s1
theorem An {μ:Cf->Hp->D->(V->Hp->Prop)->Prop}{f:M Out}(h1:PS X st (RSg X.K μ f)):PSs X [st] (RSg X.K μ f):=Ij h1
def AR (f:M D):M Out:=bnd f λd=>ret (.ret d)
theorem AQ {f:M D}(h:PE X e (RE X.K f)):PS X (.Return (some e) pos) (RS X.K (AR f)):=
 B0 (HC h) λE σ H z9=>by
  obtain ⟨Oo,c,t,fi,o,t',eq,k⟩:=z9;obtain ⟨d,t1,e1,eq⟩:=Ao eq
  cases eq
  exact ⟨Oo,c,t,fi,d,_,e1,λv H1 c1 f1 s1 rv=>k σ H1 c1 f1 s1 v rv⟩
theorem M9:PS X (.Break pos) (RSg X.K μ (ret .brk)):=B0 SE λE σ H z9=>by
 obtain ⟨Oo,c,t,fi,o,t',eq,k⟩:=z9
 cases eq
 exact k σ H c fi .refl
def D6 (f:M D):M Out:=bnd f λ_=>ret .next
theorem Ft (h:PE X e (RE X.K f))(hs:swapsWith e none pos.line X.env=pure false:=by rfl):PS X (.Expr e pos) (RSg X.K μ (D6 f)):=
 B0 (Lc h hs) λE σ H z9=>by
  obtain ⟨Oo,c,t,fi,o,t',eq,k⟩:=z9;obtain ⟨d,t1,e1,eq⟩:=Ao eq
  cases eq
  exact ⟨Oo,c,t,fi,d,_,e1,λv H1 c1 f1 s1 rv=>k σ H1 c1 f1 s1⟩
def ifS (f:M Bool)(g h:M Out):M Out:=bnd f λk=>if k=true then g else h
theorem A4 {μ:Cf->Hp->D->(V->Hp->Prop)->Prop}{f:M Bool}{g h:M Out}{sa sb:List Stmt}(hc:PT X e (RT X.K f))(ha:PSs X sa (RSg X.K μ g))(hb:PSs X sb (RSg X.K μ h)):PS X (.If e sa sb pos) (RSg X.K μ (ifS f g h)):=
 B0 (XW hc ha hb) λE σ H z9=>by
  obtain ⟨Oo,c,t,fi,o,t',eq,k⟩:=z9;obtain ⟨kb,t1,e1,eq⟩:=Ao eq;refine ⟨Oo,c,t,fi,kb,t1,e1,λH1 c1 f1 s1=>?_⟩
  cases kb with
  | true=>rw [if_pos rfl] at eq ⊢;exact ⟨Oo,c1,t1,f1,o,t',eq,λσ2 H2 c2 f2 s2=>k σ2 H2 c2 f2 (s1.trans s2)⟩
  | false=>rw [if_neg uf4] at eq ⊢;exact ⟨Oo,c1,t1,f1,o,t',eq,λσ2 H2 c2 f2 s2=>k σ2 H2 c2 f2 (s1.trans s2)⟩
noncomputable def BD (i:Nat)(d:D):M Unit:=λt=>some ((),{ t with env:=t.env.set i (some (.val d)) })
def A5 (i:Nat)(f:M D):M Out:=bnd f λd=>bnd (BD i d) λ_=>ret .next
theorem RS.set {μ:Cf->Hp->D->(V->Hp->Prop)->Prop}{K:PySem.W.Frag}{i:Nat}{f:M D}{E:Ends}{σ:L2.St}{H:Hp}(q:RSg K μ (A5 i f) E σ H):NY (RE K f) (JX i) E σ H:=by
 obtain ⟨Oo,c,t,fi,o,t',eq,k⟩:=q;obtain ⟨d,t1,e1,eq⟩:=Ao eq
 cases eq
 exact ⟨Oo,c,t,fi,d,t1,e1,λv H1 c1 f1 s1 rv=>k _ H1 c1 (f1.set rv) s1⟩
theorem AM {μ:Cf->Hp->D->(V->Hp->Prop)->Prop}{i:Nat}{x:Str}{f:M D}{pos':Pos}(hN:X.N.Nodup)(hi:X.N[i]?=some x)(hx:Loc X.env.scope x)(he:PE X e (RE X.K f))(hs:swapsWith e (some (.Name x pos')) pos.line X.env=pure false:=by rfl)(hf:X.fn x=true\/X.env.scope.names.lookup x=some .local:=by first | exact .inl rfl | exact .inr rfl | assumption) :
 PS X (.Assign [.Name x pos'] e pos) (RSg X.K μ (A5 i f)):=B0 (NF hN hi hx he hs hf) λ_ _ _ q=>RS.set q
def EA (i:Nat)(f:M (List D)):M Out:=bnd f λds t=>some (.next,{ t with env:=t.env.set i (some (.own ds)) })
theorem RS.own {i:Nat}{f:M (List D)}{E:Ends}(q:RSg K μ (EA i f) E σ H):NY (RF K f) (JX i) E σ H:=by
 obtain ⟨Oo,c,t,fi,o,t',eq,k⟩:=q;obtain ⟨ds,t1,e1,eq⟩:=Ao eq
 cases eq
 refine ⟨Oo,c,t,fi,ds,t1,e1,λp vs H1 c1 f1 s1 rv hp=>?_⟩;obtain ⟨c2,f2,s2⟩:=f1.setOwn (i:=i) hp rv;exact k _ _ c2 f2 (s1.trans s2)
theorem FL {μ:Cf->Hp->D->(V->Hp->Prop)->Prop}{i:Nat}{x:Str}{f:M (List D)}{pos':Pos}(hN:X.N.Nodup)(hi:X.N[i]?=some x)(hx:Loc X.env.scope x)(he:PE X e (RF X.K f))(hs:swapsWith e (some (.Name x pos')) pos.line X.env=pure false:=by rfl)(hf:X.fn x=true\/X.env.scope.names.lookup x=some .local:=by first | exact .inl rfl | exact .inr rfl | assumption) :
 PS X (.Assign [.Name x pos'] e pos) (RSg X.K μ (EA i f)):=B0 (NF hN hi hx he hs hf) λ_ _ _ q=>RS.own q
theorem Bi {i:Nat}(hN:X.N.Nodup)(hi:X.N[i]?=some x)(hx:Loc X.env.scope x)(hf:X.fn x=true\/X.env.scope.names.lookup x=some .local:=by first | exact .inl rfl | exact .inr rfl | assumption):PG X (.Name x pos) (RG X.K (BD i)):=
 Mx (UU hN hi hx hf) λv σ H Q z9=>by
  obtain ⟨Oo,c,t,d,fi,rv,t',eq,k⟩:=z9
  cases eq
  exact k _ H c (fi.set rv) .refl
def Dq (f:M D)(g:D->M Unit):M Out:=bnd f λd=>bnd (g d) λ_=>ret .next
theorem Dg {g:D->M Unit}(he:PE X e (RE X.K f))(hg:PG X tg (RG X.K g))(hs:swapsWithSole [tg] e pos.line X.env=pure false:=by rfl)(hw:swappedStores [tg] e X.env=pure none:=by rfl)(hp:(assignEach [tg] X.env).map (·.2)=[assign tg X.env]:=by rfl) :
 PS X (.Assign [tg] e pos) (RSg X.K μ (Dq f g)):=
 B0 (by first | exact Q1 he hg hs hw | exact Q1 he hg hs hw hp) λE σ H z9=>by
  obtain ⟨Oo,c,t,fi,o,t',eq,k⟩:=z9;obtain ⟨d,t1,e1,eq⟩:=Ao eq;obtain ⟨u,t2,e2,eq⟩:=Ao eq
  cases eq
  exact ⟨Oo,c,t,fi,d,t1,e1,λv H1 c1 f1 s1 rv=>⟨Oo,c1,t1,d,f1,rv,_,e2,λσ2 H2 c2 f2 s2=>k σ2 H2 c2 f2 (s1.trans s2)⟩⟩
def RGs (K:PySem.W.Frag)(f:List D->M Unit):TGs:=λvs σ H Q=>∃Oo c t ds,FInv K Oo c t σ H/\Reps K c H vs ds/\∃t',f ds t=some ((),t')/\∀σ' H' c',FInv K Oo c' t' σ' H'->Stp Oo c H c' H'->Q σ' H'
theorem Ou {ts:List Expr}{t t':TGs}(h:PGs X ts t)(i:∀v σ H Q,t' v σ H Q->t v σ H Q):PGs X ts t':=λpins s σ H vs us Q I r q=>h pins s σ H vs us Q I r (i vs σ H Q q)
def FV:List D->M Unit
 | []=>ret ()
 | _=>fail
def Cp (f:D->M Unit)(g:List D->M Unit):List D->M Unit
 | d :: ds=>bnd (f d) λ_=>g ds
 | []=>fail
theorem HX:PGs X [] (RGs X.K FV):=Ou UV λvs σ H Q z9=>by
 obtain ⟨Oo,c,t,ds,fi,rv,t',eq,k⟩:=z9
 cases rv with
 | nil=>cases eq;exact ⟨rfl,k σ H c fi .refl⟩
 | cons _ _=>cases eq
theorem RGs.cons {K:PySem.W.Frag}{f:D->M Unit}{g:List D->M Unit}{vs:List V}{σ:L2.St}{H:Hp}{Q:L2.St->Hp->Prop}(q:RGs K (Cp f g) vs σ H Q):Tu (RG K f) (RGs K g) vs σ H Q:=by
 obtain ⟨Oo,c,t,ds,fi,rv,t',eq,k⟩:=q
 cases rv with
 | nil=>cases eq
 | cons r rs=>
   obtain ⟨u,t1,e1,eq⟩:=Ao eq;exact ⟨_,_,rfl,Oo,c,t,_,fi,r,t1,e1,λσ1 H1 c1 f1 s1=>⟨Oo,c1,t1,_,f1,rs.mono s1.ext,t',eq,λσ2 H2 c2 f2 s2=>k σ2 H2 c2 f2 (s1.trans s2)⟩⟩
def unT (n:Nat)(g:List D->M Unit):D->M Unit
 | .tup ds=>if ds.length=n then g ds else fail
 | _=>fail
def DE (st:D->M Unit)(b:M Out):List D->M Out
 | []=>ret .next
 | d :: r=>λt=>match st d t with
   | none=>none
   | some (_,t1)=>match b t1 with
     | some (.next,t2)=>DE st b r t2
     | some (.cont,t2)=>DE st b r t2
     | some (.brk,t2)=>some (.next,t2)
     | some (.ret x,t2)=>some (.ret x,t2)
     | none=>none
def C8 (f:M (List D))(st:D->M Unit)(b:M Out):M Out:=bnd f λds=>DE st b ds
theorem RS.for {f:M (List D)}{g:D->M Unit}{b:M Out}{E:Ends}(q:RSg K μ (C8 f g b) E σ H):SW (RI K f) (RG K g) (RSg K μ b) E σ H:=by
 obtain ⟨Oo,c,t,fi,o,t',eq,k⟩:=q;obtain ⟨ds,t1,e1,eq⟩:=Ao eq;refine ⟨Oo,c,t,fi,ds,t1,e1,λJ H1 c1 f1 s1 it=>?_⟩;refine ⟨λi m σ' H'=>m=ds.length - i/\i<=ds.length/\∃c' t2,FInv K Oo c' t2 σ' H'/\Stp Oo c1 H1 c' H'/\DE g b (ds.drop i) t2=some (o,t'),⟨_,rfl,un7 _,c1,t1,f1,.refl,by rw [ul1];exact eq⟩,?_⟩;rintro i m σ' H' ⟨rfl,hi,c',t2,f2,s2,e2⟩
 by_cases hlt:i < ds.length
 ·refine .inr ⟨it.go c' H' i s2.ext hlt,λσ3 H3=>∃c3 t3,FInv K Oo c3 t3 σ3 H3/\Stp Oo c1 H1 c3 H3/\DE g b (ds.drop (i + 1)) t3=some (o,t'),λσ3 H3 h=>⟨ds.length - (i + 1),by lia,rfl,hlt,h⟩,λx H'' hy=>?_⟩;obtain ⟨rfl,rx⟩:=it.yld c' H' i x H'' _ s2.ext (ub7 hlt) hy;rw [ub4 hlt] at e2;unfold DE at e2
  cases e3:g ds[i] t2 with
  | none=>rw [e3] at e2;cases e2
  | some p=>
    obtain ⟨u,t3⟩:=p;rw [e3] at e2
    try dsimp only at e2
    refine ⟨Oo,c',t2,_,f2,rx,t3,e3,λσ3 H3 c3 f3 s3=>?_⟩
    cases e4:b t3 with
    | none=>rw [e4] at e2;cases e2
    | some p=>
      obtain ⟨o4,t4⟩:=p;rw [e4] at e2
      try dsimp only at e2
      refine ⟨Oo,c3,t3,f3,o4,t4,e4,λσ5 H5 c5 f5 s5=>?_⟩;have s':=(s2.trans s3).trans s5
      cases o4 with
      | next=>exact ⟨c5,t4,f5,s',e2⟩
      | cont=>exact ⟨c5,t4,f5,s',e2⟩
      | brk=>cases e2;exact k σ5 H5 c5 f5 (s1.trans s')
      | ret r=>cases e2;exact k σ5 H5 c5 f5 (s1.trans s')
 ·have hi':i=ds.length:=by lia
  subst hi';rw [ui1] at e2
  cases e2
  exact .inl ⟨it.stop c' H' s2.ext,k σ' H' c' f2 (s1.trans s2)⟩
theorem CM {μ:Cf->Hp->D->(V->Hp->Prop)->Prop}{tg iter:Expr}{body:List Stmt}{f:M (List D)}{g:D->M Unit}{b:M Out}(hp:PassesOwn (model X.prog X.w) X.A X.env X.xe)(hc:X.calm=true)(hi:PI X tg iter (RI X.K f))(hg:PG X tg (RG X.K g))(hb:PSs X body (RSg X.K μ b))
 (hs:∀x,foldedSetIterable iter X.env x=pure x:=by intro _;rfl):PS X (.For tg iter body [] pos) (RSg X.K μ (C8 f g b)):=
 B0 (Q2 hp hc hi hg hb hs) λ_ _ _ q=>RS.for q
theorem ItOk.lst {K:PySem.W.Frag}{c:Cf}{H:Hp}{p:Addr}{ds:List D}(r:∀c' H',Ext c H c' H'->∃vs,SqL K H' p vs/\Reps K c' H' vs ds):ItOk K (Itl K p) c H ds:=by
 refine ⟨λc' H' i ex hi=>?_,λc' H' i x H'' d ex hd hy=>?_,λc' H' ex=>?_⟩
 ·obtain ⟨vs,h1,h2⟩:=r c' H' ex;obtain ⟨v,e,_⟩:=h2.at (ub7 hi);exact ⟨vs,v,h1,e⟩
 ·obtain ⟨vs,h1,h2⟩:=r c' H' ex;obtain ⟨rfl,h⟩:=hy;exact ⟨rfl,h2.get (h vs h1) hd⟩
 ·obtain ⟨vs,h1,h2⟩:=r c' H' ex;exact ⟨vs,h1,by rw [h2.length];exact un6 _⟩
theorem ItOk.tup {K:PySem.W.Frag}{c:Cf}{H:Hp}{p:Addr}{ds:List D}(r:∀c' H',Ext c H c' H'->∃vs,SqT K H' p vs/\Reps K c' H' vs ds):ItOk K (Itt K p) c H ds:=by
 refine ⟨λc' H' i ex hi=>?_,λc' H' i x H'' d ex hd hy=>?_,λc' H' ex=>?_⟩
 ·obtain ⟨vs,h1,h2⟩:=r c' H' ex;obtain ⟨v,e,_⟩:=h2.at (ub7 hi);exact ⟨vs,v,h1,e⟩
 ·obtain ⟨vs,h1,h2⟩:=r c' H' ex;obtain ⟨rfl,h⟩:=hy;exact ⟨rfl,h2.get (h vs h1) hd⟩
 ·obtain ⟨vs,h1,h2⟩:=r c' H' ex;exact ⟨vs,h1,by rw [h2.length];exact un6 _⟩
end
theorem FInv.leave {Oo:Addr->Prop}(f:FInv K Oo c t σ H):SInv K ⟨c.ι,Oo⟩ t.S H/\Ext c H ⟨c.ι,Oo⟩ H:=by
 have ext:Ext c H ⟨c.ι,Oo⟩ H:=⟨λ_ _ e _=>e,λb o _ z=>z.elim .inl λw=>.inr (f.sub b w),λ_ _ e=>e⟩;exact ⟨⟨f.s.len,f.s.nd,λk a o e1 e2=>(f.s.obs k a o e1 e2).mono ext rfl,λb z=>f.s.trk b (f.sub b z),λb z=>f.s.dis b (f.sub b z)⟩,ext⟩
noncomputable def env0 (m:Nat)(ds:List D):List (Option Sl):=ds.map (λd=>some (.val d))++List.replicate (m - ds.length) none
def fnOf (n m:Nat)(g:M Out):Fn:=λds S=>if ds.length=n then (match g ⟨env0 m ds,S⟩ with
 | some (.ret r,t)=>some (r,t.S)
 | some (.next,t)=>some (.non,t.S)
 | _=>none) else none
theorem GQ {ds:List D}{N:List Str}(s:SInv K c S H)(r:Reps K c H vs ds):FInv K c.O c ⟨env0 N.length ds,S⟩ (L2.Da N vs) H:=by
 have hlen:vs.length=ds.length:=r.length;have none_:∀{i:Nat} {x:Sl},(env0 N.length ds)[i]?=some (some x)->∃d,ds[i]?=some d/\x = .val d:=λ{i x} q=>by
  unfold env0 at q
  by_cases hi:i < ds.length
  ·rw [ub3 (by simpa using hi),ug6,ub7 hi] at q;simp at q;exact ⟨ds[i],ub7 hi,q.symm⟩
  ·rw [ua8 (by simpa using hi),ub9] at q
   split at q <;> simp at q
 refine ⟨s,by simp [env0,L2.Da,hlen],λ_ z=>z,λi d q=>?_,λi es q=>?_,λi j es _ a q _ _ _=>?_⟩
 ·obtain ⟨d',h1,h2⟩:=none_ q
  cases h2
  obtain ⟨v,h3,h4⟩:=r.at h1;refine ⟨v,?_,h4⟩;unfold L2.Da;have hi:=(ub2.mp h3).1;rw [ub3 (by simpa using hi),ug6,h3];rfl
 ·obtain ⟨_,_,h2⟩:=none_ q;cases h2
 ·obtain ⟨_,_,h2⟩:=none_ q;cases h2
theorem XI {P:Program}{w:World}{mg:Str->Option Value}{base:Heap}{qual:Str}{st:Stmt}{fa:Addr}{fd:FuncData}{N ps:List Str}{k:Nat}{g:M Out}(F:Fun K x qual st fa fd)(S:FnScope N ps (Ap st))
 (hb:∀(cdv:Value) (A:Around) (outer:List Env) (s:Shared) (H:Hp) (E:XK),Room k (A.deeper (PyProof.Rows.envOfC qual (Ap st) s.heap.objs.size fa cdv))->
   PSs (DM CX0 P w K mg base N qual (Ap st) fa cdv A outer s H E).nox (B5 st) (RS K g)):FnOk P w K mg base CX0 (k + 1) fa fd ps (spF K (fnOf ps.length N.length g)):=by
 have hlen:∀{ds:List D} {S:List Ob} {z:D×List Ob},fnOf ps.length N.length g ds S=some z->ds.length=ps.length:=λ{ds S z} h=>by
  unfold fnOf at h
  split at h
  ·next h1=>exact h1
  ·cases h
 refine F.ok S (λvs H Q E h=>?_) (λcdv A outer s H vs Q E hr h=>?_)
 ·obtain ⟨c,ds,S,si,rs,r,S',e,_⟩:=h;rw [rs.length];exact hlen e
 obtain ⟨c,ds,S0,si,rs,r,S',e,kk⟩:=h;refine ⟨RS K g,hb cdv A outer s H E hr,?_⟩;have hl:=hlen e;unfold fnOf at e;rw [if_pos hl] at e
 cases eg:g ⟨env0 N.length ds,S0⟩ with
 | none=>rw [eg] at e;cases e
 | some p=>
   obtain ⟨o,t⟩:=p;rw [eg] at e;refine ⟨c.O,c,_,GQ si rs,o,t,eg,λσ' H' c' f' s'=>?_⟩;obtain ⟨si',ext'⟩:=f'.leave;have st':Stp c.O c H ⟨c'.ι,c.O⟩ H':=⟨s'.ext.trans ext',s'.oo⟩
   cases o with
   | next=>cases e;exact kk .non H' _ si' st' (λ_=>Iff.rfl) .non
   | ret d=>cases e;exact λv rv=>kk v H' _ si' st' (λ_=>Iff.rfl) (rv.mono ext')
   | brk=>cases e
   | cont=>cases e
variable {fr:List Nat}
section
variable {X:Cx}{e a b:Expr}{pos:Pos}
def items:D->M (List D)
 | .lst ds=>ret ds
 | .tup ds=>ret ds
 | .scr ns=>ret (ns.map .int)
 | _=>fail
noncomputable def rngL (lo:Int)(n:Nat):List D:=(List.range n).map λi=>.int (lo + (i:Nat))
theorem ItOk.rng {lo:Int}:ItOk K (Itr lo n) c H (rngL lo n):=by
 refine ⟨λc' H' i ex hi=>?_,λc' H' i x H'' d ex hd hy=>?_,λc' H' ex=>?_⟩
 ·have:i < n:=by simpa [rngL] using hi
  exact this
 ·obtain ⟨rfl,rfl⟩:=hy;refine ⟨rfl,?_⟩;have hi:i < n:=by
   have:=(ub2.mp hd).1;simpa [rngL] using this
  have:d = .int (lo + (i:Nat)):=by
   rw [rngL,ug6,List.getElem?_range hi] at hd;simpa using hd.symm
  rw [this];exact .int _
 ·show n<=(rngL lo n).length;simp [rngL]
noncomputable def CD (i:Int):Bool:=decide (-(2 ^ 62)<=i) && decide (i < 2 ^ 62)
def Lg:List D->M (List D)
 | [.int j]=>λt=>if CD j=true then some (rngL 0 j.toNat,t) else none
 | _=>fail
def Lh:List D->M (List D)
 | [.int i,.int j]=>λt=>if (CD i && CD j)=true then some (rngL i (j - i).toNat,t) else none
 | _=>fail
def Cy (f:M (List D)):M (List D):=bnd f Lg
def GO (f:M (List D)):M (List D):=bnd f Lh
theorem Eo (h:CD i=true) : -(2 ^ 62)<=i/\i < 2 ^ 62:=by
 unfold CD at h;rw [uh8] at h;exact ⟨uh4 h.1,uh4 h.2⟩
theorem Qs {f:M (List D)}(hg:Gl X "range")(hm:X.mg "range" = none)(ha:PA X [a] (RA X.K f))(hs:starEach [a] X.env=[(false,eval a X.env)]:=by rfl):PI X tg (.Call (.Name "range" p) [a] [] pos) (RI X.K (Cy f)):=
 Jx (QX hg hm ha hs) λσ H R z9=>by
  obtain ⟨Oo,c,t,fi,ds,t',eq,k⟩:=z9;obtain ⟨xs,t1,e1,eq⟩:=Ao eq;refine ⟨Oo,c,t,fi,xs,t1,e1,λvs H1 c1 f1 s1 rv=>?_⟩;unfold Lg at eq
  split at eq
  ·next j=>
   split at eq
   ·next hs=>
    cases eq
    cases rv with
    | cons r rs=>
      cases rs
      cases r
      obtain ⟨h1,h2⟩:=Eo hs;exact ⟨j,rfl,h1,h2,k _ H1 c1 f1 s1 ItOk.rng⟩
   ·cases eq
  ·cases eq
theorem Qt {f:M (List D)}(hg:Gl X "range")(hm:X.mg "range" = none)(ha:PA X [a,b] (RA X.K f))(hs:starEach [a,b] X.env=[(false,eval a X.env),(false,eval b X.env)]:=by rfl)(hs2:starEach [b] X.env=[(false,eval b X.env)]:=by rfl):PI X tg (.Call (.Name "range" p) [a,b] [] pos) (RI X.K (GO f)):=
 Jx (QY hg hm ha hs hs2) λσ H R z9=>by
  obtain ⟨Oo,c,t,fi,ds,t',eq,k⟩:=z9;obtain ⟨xs,t1,e1,eq⟩:=Ao eq;refine ⟨Oo,c,t,fi,xs,t1,e1,λvs H1 c1 f1 s1 rv=>?_⟩;unfold Lh at eq
  split at eq
  ·next i j=>
   split at eq
   ·next hs=>
    cases eq
    rw [uh8] at hs
    cases rv with
    | cons r rs=>
      cases r
      cases rs with
      | cons r rs=>
        cases rs
        cases r
        obtain ⟨h1,h2⟩:=Eo hs.1;obtain ⟨h3,h4⟩:=Eo hs.2;exact ⟨i,j,rfl,⟨h1,h2,h3,h4⟩,k _ H1 c1 f1 s1 ItOk.rng⟩
   ·cases eq
  ·cases eq
def CY (st:D->M Unit)(tst:M Bool)(elt:M D):List D->M (List D)
 | []=>ret []
 | d :: r=>bnd (st d) λ_=>bnd tst λk=>if k=true then bnd elt λx=>bnd (CY st tst elt r) λxs=>ret (x :: xs) else CY st tst elt r
noncomputable def TQ:Option (Option Sl)->Option Sl
 | some (some (.val d))=>some (.val d)
 | _=>none
def cenv (n:Nat)(fr:List Nat)(env:List (Option Sl)):List (Option Sl):=List.replicate n none++fr.map λi=>TQ env[i]?
noncomputable def FF (n:Nat)(fr:List Nat)(σ:L2.St):L2.St:=List.replicate n none++fr.map λi=>(σ[i]?).join
def Dr (n:Nat)(fr:List Nat)(f:M (List D))(st:D->M Unit)(tst:M Bool)(elt:M D):M (List D):=bnd f λds t=>match CY st tst elt ds ⟨cenv n fr t.env,t.S⟩ with
 | some (xs,t')=>if xs.length<=LIM then some (xs,{ t with S:=t'.S }) else none
 | none=>none
theorem IN {env:List (Option Sl)}{x:Sl}(h:(cenv n fr env)[j]?=some (some x)):∃i d,n<=j/\fr[j - n]?=some i/\env[i]?=some (some (.val d))/\x = .val d:=by
 unfold cenv at h
 by_cases hj:j < n
 ·rw [ub3 (by simpa using hj),ub9] at h
  split at h <;> simp at h
 ·rw [ua8 (by simpa using hj),ud4,ug6] at h
  cases e:fr[j - n]? with
  | none=>rw [e] at h;simp at h
  | some i=>
    rw [e] at h;simp only [uk0,uh2] at h
    cases e2:env[i]? with
    | none=>rw [e2] at h;cases h
    | some o=>
      cases o with
      | none=>rw [e2] at h;cases h
      | some sl=>
        cases sl with
        | own _=>rw [e2] at h;cases h
        | val d=>rw [e2] at h;cases h;exact ⟨i,d,by lia,rfl,e2,rfl⟩
theorem JU {Oo:Addr->Prop}(f:FInv K Oo c t σ H):FInv K c.O c ⟨cenv n fr t.env,t.S⟩ (FF n fr σ) H:=by
 refine ⟨f.s,by simp [cenv,FF],λ_ z=>z,λj d q=>?_,λj es q=>?_,λj _ es _ _ q _ _ _=>?_⟩
 ·obtain ⟨i,d',h0,h1,h2,h3⟩:=IN q
  cases h3
  obtain ⟨v,h4,h5⟩:=f.val i d h2;refine ⟨v,?_,h5⟩;unfold FF;rw [ua8 (by simpa using h0),ud4,ug6,h1];simp [h4]
 ·obtain ⟨_,_,_,_,_,h⟩:=IN q;cases h
 ·obtain ⟨_,_,_,_,_,h⟩:=IN q;cases h
theorem RF.comp {f:M (List D)}{st:D->M Unit}{tst:M Bool}{elt:M D}{Q:VK}(q:RF K (Dr n fr f st tst elt) σ H Q):Mr (RI K f) (RG K st) (RT K tst) (RE K elt) (FF n fr) σ H Q:=by
 obtain ⟨Oo,c,t,fi,xs,t',eq,k⟩:=q;obtain ⟨ds,t1,e1,eq⟩:=Ao eq;refine ⟨Oo,c,t,fi,ds,t1,e1,λJ H1 c1 f1 s1 it=>?_⟩
 cases e3:CY st tst elt ds ⟨cenv n fr t1.env,t1.S⟩ with
 | none=>rw [e3] at eq;cases eq
 | some p=>
   obtain ⟨ys,t3⟩:=p;rw [e3] at eq;dsimp only at eq
   split at eq
   case isFalse=>cases eq
   next hl=>
   cases eq
   refine ⟨λi m acc σ' H'=>m=ds.length - i/\i<=ds.length/\∃c' t2 zs rest,FInv K c1.O c' t2 σ' H'/\Stp c1.O c1 H1 c' H'/\Reps K c' H' acc zs/\CY st tst elt (ds.drop i) t2=some (rest,t3)/\xs=zs++rest,
    ⟨_,rfl,un7 _,c1,_,[],xs,JU f1,.refl,.nil,by rw [ul1];exact e3,rfl⟩,?_⟩
   rintro i m acc σ' H' ⟨rfl,hi,c',t2,zs,rest,f2,s2,ra,e2,ez⟩;have hacc:acc.length<=sizeLine:=by
    have:zs.length<=xs.length:=by rw [ez,uf7];exact ui2 _ _
    rw [ra.length];exact um5 this (um5 hl CH)
   refine ⟨hacc,?_⟩
   by_cases hlt:i < ds.length
   ·refine .inr ⟨it.go c' H' i s2.ext hlt,λx H'' hy=>?_⟩;obtain ⟨rfl,rx⟩:=it.yld c' H' i x H'' _ s2.ext (ub7 hlt) hy;rw [ub4 hlt] at e2;unfold CY at e2;obtain ⟨u,t4,e4,e2⟩:=Ao e2;obtain ⟨kb,t5,e5,e2⟩:=Ao e2;refine ⟨c1.O,c',t2,_,f2,rx,t4,e4,λσ3 H3 c3 f3 s3=>⟨c1.O,c3,t4,f3,kb,t5,e5,λH4 c4 f4 s4=>?_⟩⟩
    cases kb with
    | false=>
      rw [if_neg uf4] at e2 ⊢;exact ⟨ds.length - (i + 1),by lia,rfl,hlt,c4,t5,zs,rest,f4,(s2.trans s3).trans s4,ra.mono (s3.trans s4).ext,e2,ez⟩
    | true=>
      rw [if_pos rfl] at e2 ⊢;obtain ⟨x6,t6,e6,e2⟩:=Ao e2;obtain ⟨r7,t7,e7,e2⟩:=Ao e2
      cases e2
      refine ⟨c1.O,c4,t5,f4,x6,t6,e6,λv H5 c5 f5 s5 rv=>?_⟩;exact ⟨ds.length - (i + 1),by lia,rfl,hlt,c5,t6,zs++[x6],r7,f5,((s2.trans s3).trans s4).trans s5,(ra.mono ((s3.trans s4).trans s5).ext).append (.cons rv .nil),e7,by rw [ez,ug9];rfl⟩
   ·have hi':i=ds.length:=by lia
    subst hi';rw [ui1] at e2
    cases e2
    refine .inl ⟨it.stop c' H' s2.ext,λp hp _=>?_⟩;obtain ⟨si,ext⟩:=f2.leave;obtain ⟨f6,s6⟩:=f1.after si ⟨s2.ext.trans ext,s2.oo⟩ (λ_=>Iff.rfl);rw [uj2] at ez;subst ez;exact k p acc H' _ f6 (s1.trans s6) (ra.mono ext) hp
end
end F2
namespace F2
open PySem L2 PySem.Spec PySem.SeqAt
noncomputable def eq0:D->D->Option Bool
 | .int a,.int b=>some (a == b)
 | .str a,.str b=>some (a == b)
 | .bl a,.bl b=>some (a == b)
 | .non,.non=>some true
 | .int _,.str _=>some false
 | .str _,.int _=>some false
 | _,_=>none
noncomputable def DC (f:D->D->Option Bool):List D->List D->Option Bool
 | x :: xs,y :: ys=>match f x y,DC f xs ys with
   | some a,some b=>some (a && b)
   | _,_=>none
 | _,_=>some true
def eqN:Nat->D->D->Option Bool
 | 0,x,y=>eq0 x y
 | n + 1,.tup xs,.tup ys=>(DC (eqN n) xs ys).map λb=>b && xs.length == ys.length
 | n + 1,.lst xs,.lst ys=>if xs.length=ys.length then DC (eqN n) xs ys else some false
 | _ + 1,x,y=>eq0 x y
noncomputable def ej (f:D->D->Option Bool)(xs ys:List D)(j:Nat):Bool:=match xs[j]?,ys[j]? with
 | some d,some e=>(f d e).getD true
 | _,_=>true
theorem DN {f:D->D->Option Bool}:∀{xs ys:List D} {b:Bool},DC f xs ys=some b->b=(List.range (min xs.length ys.length)).all (ej f xs ys)/\∀(j:Nat) d e,xs[j]?=some d->ys[j]?=some e->∃k,f d e=some k
 | [],ys,b,h=>by
   have h:some true=some b:=by simpa [DC] using h
   cases h
   refine ⟨by simp,λj d e q _=>by simp at q⟩
 | x :: xs,[],b,h=>by
   have h:some true=some b:=by simpa [DC] using h
   cases h
   refine ⟨by simp,λj d e _ q=>by simp at q⟩
 | x :: xs,y :: ys,b,h=>by
   unfold DC at h
   cases e1:f x y with
   | none=>rw [e1] at h;cases h
   | some a=>
     cases e2:DC f xs ys with
     | none=>rw [e1,e2] at h;cases h
     | some c=>
       rw [e1,e2] at h
       cases h
       obtain ⟨h1,h2⟩:=DN e2;refine ⟨?_,λj d e q1 q2=>?_⟩
       ·have hm:min (x :: xs).length (y :: ys).length=min xs.length ys.length + 1:=by simp [Nat.succ_min_succ]
        rw [hm,List.range_succ_eq_map,ul6,List.all_map,h1];have:ej f (x :: xs) (y :: ys) 0=a:=by simp [ej,e1]
        rw [this];rfl
       ·cases j with
        | zero=>simp at q1 q2;subst q1 q2;exact ⟨a,e1⟩
        | succ j=>exact h2 j d e (by simpa using q1) (by simpa using q2)
variable {P:Program}{w:World}{H:Hp}{vs:List V}
theorem GV {h:Heap}{a:Addr}(o:HOk P w H h)(e:H a=some (.lst vs)):∃its:List Value,Vals vs its/\h.IsList a its.toArray:=by
 obtain ⟨_,its,n,r,q⟩:=o a _ e;exact ⟨its,r,_,q,rfl,n,rfl⟩
theorem HY {h:Heap}{a:Addr}(o:HOk P w H h)(e:H a=some (.tup vs)):∃its:List Value,Vals vs its/\h.IsTuple a its.toArray:=by
 obtain ⟨_,its,r,q⟩:=o a _ e;exact ⟨its,r,q⟩
theorem Kx {its:List Value}{j:Nat}(r:Vals vs its)(h:j < its.toArray.size):∃v,vs[j]?=some v/\RelV v its.toArray[j]:=by
 have h':j < its.length:=by simpa using h
 have hl:j < vs.length:=by rw [r.length];exact h'
 obtain ⟨u,e1,e2⟩:=r.get (ub7 hl);refine ⟨vs[j],ub7 hl,?_⟩;rw [ub7 h'] at e1
 cases e1
 simpa using e2
variable {b:Bool}
theorem Qi {f:D->D->Option Bool}{xs ys:List D}(h:DC f xs ys=some b)(ht:∀(j:Nat) d e k,xs[j]?=some d->ys[j]?=some e->f d e=some k->k=true):b=true:=by
 obtain ⟨h1,h2⟩:=DN h;rw [h1,ui3];intro j hj;have hj':=uk8.mp hj;have l1:j < xs.length:=by lia
 have l2:j < ys.length:=by lia
 obtain ⟨k,ek⟩:=h2 j _ _ (ub7 l1) (ub7 l2);have:=ht j _ _ k (ub7 l1) (ub7 l2) ek;unfold ej;rw [ub7 l1,ub7 l2];simp [ek,this]
theorem Hq {x y:D}(e:eq0 x y=some b):(∃i j,x = .int i/\y = .int j/\(i == j)=b)\/(∃i j,x = .str i/\y = .str j/\(i == j)=b)\/(∃i j,x = .bl i/\y = .bl j/\(i == j)=b)\/(x = .non/\y = .non/\true=b)\/(∃i j,x = .int i/\y = .str j/\false=b)\/(∃i j,x = .str i/\y = .int j/\false=b):=by
 unfold eq0 at e
 split at e
 ·cases e;exact .inl ⟨_,_,rfl,rfl,rfl⟩
 ·cases e;exact .inr (.inl ⟨_,_,rfl,rfl,rfl⟩)
 ·cases e;exact .inr (.inr (.inl ⟨_,_,rfl,rfl,rfl⟩))
 ·cases e;exact .inr (.inr (.inr (.inl ⟨rfl,rfl,rfl⟩)))
 ·cases e;exact .inr (.inr (.inr (.inr (.inl ⟨_,_,rfl,rfl,rfl⟩))))
 ·cases e;exact .inr (.inr (.inr (.inr (.inr ⟨_,_,rfl,rfl,rfl⟩))))
 ·cases e
theorem Hr {n:Nat}{x y:D}(e:eqN n x y=some b):eq0 x y=some b\/(∃m xs ys,n=m + 1/\x = .lst xs/\y = .lst ys/\(if xs.length=ys.length then DC (eqN m) xs ys else some false)=some b)\/∃m xs ys b',n=m + 1/\x = .tup xs/\y = .tup ys/\DC (eqN m) xs ys=some b'/\(b' && xs.length == ys.length)=b:=by
 unfold eqN at e
 split at e
 ·exact .inl e
 ·obtain ⟨b',e1,e2⟩:=uc9.mp e;exact .inr (.inr ⟨_,_,_,b',rfl,rfl,rfl,e1,e2⟩)
 ·exact .inr (.inl ⟨_,_,_,rfl,rfl,rfl,e⟩)
 ·exact .inl e
variable {K:PySem.W.Frag}{c:Cf}
theorem OE:∀(n:Nat) {v:V} {d e:D} {b:Bool},Rep K c H v d->Rep K c H v e->eqN n d e=some b->b=true
 :=by
  intro n
  induction n using Nat.strongRecOn with
  | ind n ih=>
  intro v d e b rd re q;have items:∀{m:Nat} {vs:List V} {ds es:List D} {b':Bool},n=m + 1->Reps K c H vs ds->Reps K c H vs es->DC (eqN m) ds es=some b'->b'=true:=λ{m vs ds es b'} hm r1 r2 e'=>
   Qi e' λj d e k q1 q2 ek=>by
    obtain ⟨v,g1,g2⟩:=r1.at q1;exact ih m (by lia) g2 (r2.get g1 q2) ek
  rcases Hr q with q0 | ⟨m,ds,es,hm,rfl,rfl,q0⟩ | ⟨m,ds,es,b',hm,rfl,rfl,q1,q2⟩
  ·rcases Hq q0 with ⟨i,j,rfl,rfl,rfl⟩ | ⟨i,j,rfl,rfl,rfl⟩ | ⟨i,j,rfl,rfl,rfl⟩ | ⟨rfl,rfl,rfl⟩ | ⟨i,j,rfl,rfl,rfl⟩ | ⟨i,j,rfl,rfl,rfl⟩
   ·cases rd;cases re;simp
   ·cases rd;cases re;simp
   ·cases rd;cases re;simp
   ·cases rd;cases re;rfl
   ·cases rd;cases re
   ·cases rd;cases re
  ·cases rd with
   | lst h1 h2 h3=>
     cases re with
     | lst g1 g2 g3=>
       rw [h1] at g1;cases g1
       rw [if_pos (h3.length.symm.trans g3.length)] at q0;exact items hm h3 g3 q0
  ·cases rd with
   | tup h1 h2 h3=>
     cases re with
     | tup g1 g2 g3=>
       rw [h1] at g1;cases g1
       rw [<-q2,items hm h3 g3 q1,h3.length.symm.trans g3.length];simp
theorem OD {s:Shared}(hok:HOk P w H s.heap):∀(n:Nat) {A:Around} {x y:V} {u v:Value} {dx dy:D} {b:Bool},RelV x u->RelV y v->Rep K c H x dx->Rep K c H y dy->eqN n dx dy=some b->A.units + n < cLine->
 RcAt A s u v b/\(EqAt A s u v b)
 :=by
  intro n
  induction n using Nat.strongRecOn with
  | ind n ih=>
  intro A x y u v dx dy b ru rv rx ry e hu;have items:∀{m:Nat} {vs ws:List V} {is js:List Value} {ds es:List D} {b':Bool},n=m + 1->Vals vs is->Vals ws js->Reps K c H vs ds->Reps K c H ws es->DC (eqN m) ds es=some b'->
   ∀j (h1:j < is.toArray.size) (h2:j < js.toArray.size),EqAt A.in1 s is.toArray[j] js.toArray[j] (ej (eqN m) ds es j):=λ{m vs ws is js ds es b'} hm r1 r2 q1 q2 e' j h1 h2=>by
   obtain ⟨v1,a1,a2⟩:=Kx r1 h1;obtain ⟨v2,b1,b2⟩:=Kx r2 h2;obtain ⟨l1,g1⟩:=ub2.mp a1;obtain ⟨l2,g2⟩:=ub2.mp b1;have k1:ds[j]?=some (ds[j]'(by rw [<-q1.length];exact l1)):=ub7 _;have k2:es[j]?=some (es[j]'(by rw [<-q2.length];exact l2)):=ub7 _;obtain ⟨kk,ek⟩:=(DN e').2 j _ _ k1 k2;have:ej (eqN m) ds es j=kk:=by unfold ej;rw [k1,k2];simp [ek]
   rw [this];have hu':A.in1.units + m < cLine:=by
    have:A.in1.units=A.units + 1:=by first | rfl | exact Around.units_in1 _ | simp [Around.in1,Around.units]
    lia
   exact (ih m (by lia) a2 b2 (q1.get a1 k1) (q2.get b1 k2) ek hu').2
  have hu0:A.units < cLine:=by lia
  have conc:∀{p q:Addr} {k:Bool},p≠q->RcAt A s (.ref p) (.ref q) k->RcAt A s (.ref p) (.ref q) k/\EqAt A s (.ref p) (.ref q) k:=λhn h=>⟨h,EqAt.of_refs hn h⟩;rcases Hr e with e0 | ⟨m,ds,es,hm,rfl,rfl,e0⟩ | ⟨m,ds,es,b',hm,rfl,rfl,e1,e2⟩
  ·rcases Hq e0 with ⟨i,j,rfl,rfl,rfl⟩ | ⟨i,j,rfl,rfl,rfl⟩ | ⟨i,j,rfl,rfl,rfl⟩ | ⟨rfl,rfl,rfl⟩ | ⟨i,j,rfl,rfl,rfl⟩ | ⟨i,j,rfl,rfl,rfl⟩
   ·cases rx;cases ry;obtain ⟨t',rfl⟩:=ru;obtain ⟨t,rfl⟩:=rv;exact ⟨RcAt.int_int _ _ _ _,EqAt.int_int _ _ _ _⟩
   ·cases rx;cases ry;obtain ⟨t',rfl⟩:=ru;obtain ⟨t,rfl⟩:=rv;exact ⟨RcAt.str_str _ _ _ _,EqAt.str_str _ _ _ _⟩
   ·cases rx;cases ry;cases ru;cases rv;exact ⟨RcAt.bool_bool _ _,EqAt.bool_bool _ _⟩
   ·cases rx;cases ry;cases ru;cases rv;exact ⟨RcAt.none_none,EqAt.same _⟩
   ·cases rx;cases ry;obtain ⟨t',rfl⟩:=ru;obtain ⟨t,rfl⟩:=rv;exact ⟨RcAt.int_str _ _ _ _,EqAt.int_str _ _ _ _⟩
   ·cases rx;cases ry;obtain ⟨t',rfl⟩:=ru;obtain ⟨t,rfl⟩:=rv;exact ⟨RcAt.str_int _ _ _ _,EqAt.str_int _ _ _ _⟩
  ·cases rx with
   | @lst p vs _ g1 g2 g3=>
   cases ry with
   | @lst q ws _ h1 h2 h3=>
     cases ru
     cases rv
     obtain ⟨is,r1,l1⟩:=GV hok g1;obtain ⟨js,r2,l2⟩:=GV hok h1;have hs1:is.toArray.size=ds.length:=by rw [<-g3.length,r1.length];simp
     have hs2:js.toArray.size=es.length:=by rw [<-h3.length,r2.length];simp
     by_cases hl:ds.length=es.length
     ·rw [if_pos hl] at e0;have hsz:is.toArray.size=js.toArray.size:=by rw [hs1,hs2,hl]
      have rc:=RcAt.lists l1 l2 hsz hu0 (items hm r1 r2 g3 h3 e0);have eb:(List.range is.toArray.size).all (ej (eqN m) ds es)=b:=by rw [(DN e0).1,hs1,<-hl,Nat.min_self]
      rw [eb] at rc
      by_cases hpq:p=q
      ·refine ⟨rc,?_⟩;subst hpq;rw [OE n (Rep.lst g1 g2 g3) (Rep.lst h1 h2 h3) e];exact EqAt.same _
      ·exact conc hpq rc
     ·rw [if_neg hl] at e0
      cases e0
      have hsz:(is.toArray.size != js.toArray.size)=true:=by rw [hs1,hs2];simpa using hl
      refine conc (λz=>hl ?_) (RcAt.lists_lengths l1 l2 hsz hu0);subst z;rw [g1] at h1;cases h1
      rw [<-g3.length,<-h3.length]
  ·cases rx with
   | @tup p vs _ g1 g2 g3=>
   cases ry with
   | @tup q ws _ h1 h2 h3=>
     cases ru
     cases rv
     obtain ⟨is,r1,l1⟩:=HY hok g1;obtain ⟨js,r2,l2⟩:=HY hok h1;have hs1:is.toArray.size=ds.length:=by rw [<-g3.length,r1.length];simp
     have hs2:js.toArray.size=es.length:=by rw [<-h3.length,r2.length];simp
     have rc:=RcAt.tuples l1 l2 hu0 (items hm r1 r2 g3 h3 e1);have eb:((List.range (min is.toArray.size js.toArray.size)).all (ej (eqN m) ds es) && is.toArray.size == js.toArray.size)=b:=by rw [hs1,hs2,<-(DN e1).1];exact e2
     rw [eb] at rc
     by_cases hpq:p=q
     ·refine ⟨rc,?_⟩;subst hpq;rw [OE n (Rep.tup g1 g2 g3) (Rep.tup h1 h2 h3) e];exact EqAt.same _
     ·exact conc hpq rc
theorem UC {s:Shared}(hok:HOk P w H s.heap)(n:Nat){A:Around}{x y:V}{u v:Value}{dx dy:D}{b:Bool}(ru:RelV x u)(rv:RelV y v)(rx:Rep K c H x dx)(ry:Rep K c H y dy)(e:eqN n dx dy=some b)(hu:A.units + n < cLine) :
 RcNeAt A s u v (!b):=by
 have items:∀{m:Nat} {vs ws:List V} {is js:List Value} {ds es:List D} {b':Bool},n=m + 1->Vals vs is->Vals ws js->Reps K c H vs ds->Reps K c H ws es->DC (eqN m) ds es=some b'->
  ∀j (h1:j < is.toArray.size) (h2:j < js.toArray.size),EqAt A.in1 s is.toArray[j] js.toArray[j] (ej (eqN m) ds es j):=λ{m vs ws is js ds es b'} hm r1 r2 q1 q2 e' j h1 h2=>by
  obtain ⟨v1,a1,a2⟩:=Kx r1 h1;obtain ⟨v2,b1,b2⟩:=Kx r2 h2;obtain ⟨l1,g1⟩:=ub2.mp a1;obtain ⟨l2,g2⟩:=ub2.mp b1;have k1:ds[j]?=some (ds[j]'(by rw [<-q1.length];exact l1)):=ub7 _;have k2:es[j]?=some (es[j]'(by rw [<-q2.length];exact l2)):=ub7 _;obtain ⟨kk,ek⟩:=(DN e').2 j _ _ k1 k2;have:ej (eqN m) ds es j=kk:=by unfold ej;rw [k1,k2];simp [ek]
  rw [this];have hu':A.in1.units + m < cLine:=by
   have:A.in1.units=A.units + 1:=rfl;lia
  exact (OD hok m a2 b2 (q1.get a1 k1) (q2.get b1 k2) ek hu').2
 have hu0:A.units < cLine:=by lia
 rcases Hr e with e0 | ⟨m,ds,es,hm,rfl,rfl,e0⟩ | ⟨m,ds,es,b',hm,rfl,rfl,e1,e2⟩
 ·rcases Hq e0 with ⟨i,j,rfl,rfl,rfl⟩ | ⟨i,j,rfl,rfl,rfl⟩ | ⟨i,j,rfl,rfl,rfl⟩ | ⟨rfl,rfl,rfl⟩ | ⟨i,j,rfl,rfl,rfl⟩ | ⟨i,j,rfl,rfl,rfl⟩
  ·cases rx;cases ry;obtain ⟨t',rfl⟩:=ru;obtain ⟨t,rfl⟩:=rv;exact RcNeAt.int_int _ _ _ _
  ·cases rx;cases ry;obtain ⟨t',rfl⟩:=ru;obtain ⟨t,rfl⟩:=rv;exact RcNeAt.str_str _ _ _ _
  ·cases rx;cases ry;cases ru;cases rv;exact RcNeAt.bool_bool _ _
  ·cases rx;cases ry;cases ru;cases rv;exact RcNeAt.none_none
  ·cases rx;cases ry;obtain ⟨t',rfl⟩:=ru;obtain ⟨t,rfl⟩:=rv;exact RcNeAt.int_str _ _ _ _
  ·cases rx;cases ry;obtain ⟨t',rfl⟩:=ru;obtain ⟨t,rfl⟩:=rv;exact RcNeAt.str_int _ _ _ _
 ·cases rx with
  | @lst p vs _ g1 g2 g3=>
  cases ry with
  | @lst q ws _ h1 h2 h3=>
    cases ru
    cases rv
    obtain ⟨is,r1,l1⟩:=GV hok g1;obtain ⟨js,r2,l2⟩:=GV hok h1;have hs1:is.toArray.size=ds.length:=by rw [<-g3.length,r1.length];simp
    have hs2:js.toArray.size=es.length:=by rw [<-h3.length,r2.length];simp
    by_cases hl:ds.length=es.length
    ·rw [if_pos hl] at e0;have hsz:is.toArray.size=js.toArray.size:=by rw [hs1,hs2,hl]
     have rc:=RcNeAt.lists l1 l2 hsz hu0 (items hm r1 r2 g3 h3 e0);rw [show (List.range is.toArray.size).all (ej (eqN m) ds es)=b by rw [(DN e0).1,hs1,<-hl,Nat.min_self]] at rc;exact rc
    ·rw [if_neg hl] at e0
     cases e0
     exact RcNeAt.lists_lengths l1 l2 (by rw [hs1,hs2];simpa using hl) hu0
 ·cases rx with
  | @tup p vs _ g1 g2 g3=>
  cases ry with
  | @tup q ws _ h1 h2 h3=>
    cases ru
    cases rv
    obtain ⟨is,r1,l1⟩:=HY hok g1;obtain ⟨js,r2,l2⟩:=HY hok h1;have hs1:is.toArray.size=ds.length:=by rw [<-g3.length,r1.length];simp
    have hs2:js.toArray.size=es.length:=by rw [<-h3.length,r2.length];simp
    have rc:=RcNeAt.tuples l1 l2 hu0 (items hm r1 r2 g3 h3 e1);have eb:((List.range (min is.toArray.size js.toArray.size)).all (ej (eqN m) ds es) && is.toArray.size == js.toArray.size)=b:=by rw [hs1,hs2,<-(DN e1).1];exact e2
    rw [eb] at rc;exact rc
def EQD:Nat:=40
def neD (x y:D):M D:=λt=>(eqN EQD x y).map λb=>(.bl (!b),t)
def PF (K:PySem.W.Frag)(g:Bool->Bool):R2:=λx y H Q=>∃c dx dy b,Rep K c H x dx/\Rep K c H y dy/\eqN EQD dx dy=some b/\Q (.bl (g b)) H
theorem BE {X:Cx}(hu:X.A.units + 64 < cLine):OpR X (compareOp .Eq) (PF X.K id):=by
 intro pins s σ H x y v u Q I rx ry h;obtain ⟨c,dx,dy,b,q1,q2,e,q⟩:=h;have hu':X.A.units + EQD < cLine:=by unfold EQD;lia
 exact (OD I.hok EQD rx ry q1 q2 e hu').1 X.prog X.w _ _ ⟨.bl b,H,I,rfl,q⟩
theorem D4 {X:Cx}(hu:X.A.units + 64 < cLine):OpR X (compareOp .NotEq) (PF X.K (!·)):=by
 intro pins s σ H x y v u Q I rx ry h;obtain ⟨c,dx,dy,b,q1,q2,e,q⟩:=h;have hu':X.A.units + EQD < cLine:=by unfold EQD;lia
 exact UC I.hok EQD rx ry q1 q2 e hu' X.prog X.w _ _ ⟨.bl (!b),H,I,rfl,q⟩
end F2
set_option maxHeartbeats 4000000
namespace F2
open PySem L2 PySem.Spec
variable {g:Int->Int->D}{t:T}{z:D×T}{X:Cx}{c:Cf}{H:Hp}
section
variable {K:PySem.W.Frag}
def i2 (g:Int->Int->D):D->D->M D
 | .int i,.int j=>ret (g i j)
 | _,_=>fail
theorem V9 {x y:D}(h:i2 g x y t=some z):∃i j,x = .int i/\y = .int j/\z=(g i j,t):=by
 cases x with
 | int i=>cases y with
   | int j=>cases h;exact ⟨i,j,rfl,rfl,rfl⟩
   | _=>cases h
 | _=>cases h
theorem W7 {gV:Int->Int->V}(hr:∀i j c H,Rep K c H (gV i j) (g i j)):BY K (rI0 gV) (i2 g):=λ{Oo c t σ H x y dx dy r t' Q} f rx ry eq k=>by
 obtain ⟨i,j,rfl,rfl,z⟩:=V9 eq
 cases z
 cases rx
 cases ry
 exact ⟨i,j,rfl,rfl,k _ H c f .refl (hr i j c H)⟩
def i2C (C:Int->Int->Bool)(g:Int->Int->D):D->D->M D
 | .int i,.int j=>λt=>if C i j=true then some (g i j,t) else none
 | _,_=>fail
theorem Um {C:Int->Int->Bool}{x y:D}(h:i2C C g x y t=some z):∃i j,x = .int i/\y = .int j/\C i j=true/\z=(g i j,t):=by
 cases x with
 | int i=>cases y with
   | int j=>
     unfold i2C at h;dsimp only at h
     by_cases hc:C i j=true
     ·rw [if_pos hc] at h;cases h;exact ⟨i,j,rfl,rfl,hc,rfl⟩
     ·rw [if_neg hc] at h;cases h
   | _=>cases h
 | _=>cases h
theorem Fy {P:Int->Int->Prop}{C:Int->Int->Bool}{gV:Int->Int->V}(hP:∀i j,C i j=true->P i j)(hr:∀i j c H,Rep K c H (gV i j) (g i j)):BY K (rI P gV) (i2C C g):=λ{Oo c t σ H x y dx dy r t' Q} f rx ry eq k=>by
 obtain ⟨i,j,rfl,rfl,hc,z⟩:=Um eq
 cases z
 cases rx
 cases ry
 exact ⟨i,j,rfl,rfl,hP i j hc,k _ H c f .refl (hr i j c H)⟩
def CU:=i2 λi j=>.int (i - j)
noncomputable def Ml (_ j:Int):Bool:=decide (0 < j) && decide (j < 1073741824)
def GP:=i2C Ml λi j=>.int (i / j)
def FQ:=i2C (λ_ j=>decide (0 < j)) λi j=>.int (i % j)
noncomputable def Mq (i j:Int):Bool:=decide (0<=j) && decide (j<=1000000) && decide (i.natAbs < 2 ^ 64)
def Jf:=i2C Mq λi j=>.int (i ^ j.toNat)
noncomputable def Fk (i j:Int):Bool:=(decide (-(2 ^ 64) < i) && decide (i < 2 ^ 64)) || (decide (-(2 ^ 64) < j) && decide (j < 2 ^ 64))
def PN:=i2C (λ_ j=>decide (0<=j)) λi j=>.int (i / 2 ^ j.toNat)
theorem B6:BY K (rI0 λi j=>.int (i - j)) CU:=W7 λi j _ _=>.int _
theorem Jm:BY K (rI VJ λi j=>.int (i / j)) GP:=Fy (λi j h=>by
 unfold Ml at h;rw [uh8] at h;exact ⟨uh4 h.1,uh4 h.2⟩) λi j _ _=>.int _
theorem EN:BY K (rI (λ_ j=>0 < j) λi j=>.int (i % j)) FQ:=Fy (λi j h=>uh4 h) λi j _ _=>.int _
theorem Iu:BY K (rI VL λi j=>.int (i ^ j.toNat)) Jf:=Fy (λi j h=>by
 unfold Mq at h;rw [uh8,uh8] at h;exact ⟨uh4 h.1.1,uh4 h.1.2,uh4 h.2⟩) λi j _ _=>.int _
theorem Vi:BY K (rI (λ_ j=>0<=j) λi j=>.int (i / 2 ^ j.toNat)) PN:=Fy (λi j h=>uh4 h) λi j _ _=>.int _
theorem QN {i j:Int}(h:Fk i j=true):CMul i j:=by
 unfold Fk at h;rw [uk1,uh8,uh8] at h;rcases h with h | h
 ·exact .inl ⟨uh4 h.1,uh4 h.2⟩
 ·exact .inr ⟨uh4 h.1,uh4 h.2⟩
def Zf:D->M D
 | .int i=>ret (.int (-i))
 | _=>fail
def RQ:D->D->M D
 | .int i,.int j=>ret (.int (i + j))
 | .str x,.str y=>lim (x.length + y.length) (.str (x++y))
 | .lst xs,.lst ys=>lim (xs.length + ys.length) (.lst (xs++ys))
 | .tup xs,.tup ys=>λt=>if xs.isEmpty=false/\xs.length + ys.length<=LIM then some (.tup (xs++ys),t) else none
 | _,_=>fail
def U9:R2:=λx y H Q=>∃i j,x = .str i/\y = .str j/\i.length + j.length<=sizeLine/\Q (.str (i++j)) H
def PD (K:PySem.W.Frag):R2:=λx y H Q=>rI0 (λi j=>.int (i + j)) x y H Q\/(U9 x y H Q\/(SI x y H Q\/TB K x y H Q))
theorem op_add4:OpR X (binaryOp .Add) (PD X.K):=op_add.or (op_add_str.or (op_cat.or UK))
theorem Vc:BY K (PD K) RQ:=λ{Oo c t σ H x y dx dy r t' Q} f rx ry eq k=>by
 cases rx with
 | int i=>
   cases ry with
   | int j=>cases eq;exact .inl ⟨i,j,rfl,rfl,k _ H c f .refl (.int _)⟩
   | _=>cases eq
 | str i=>
   cases ry with
   | str j=>
     obtain ⟨h,z⟩:=Eg eq
     cases z
     exact .inr (.inl ⟨i,j,rfl,rfl,um5 h CH,k _ H c f .refl (.str _)⟩)
   | _=>cases eq
 | @lst a vs ds h1 h2 h3=>
   cases ry with
   | @lst b ws es g1 g2 g3=>
     obtain ⟨h,z⟩:=Eg eq
     cases z
     refine .inr (.inr (.inl ⟨a,b,vs,ws,rfl,rfl,h1,g1,?_,λp hp=>?_⟩))
     ·rw [h3.length,g3.length];exact um5 h CH
     ·exact k _ _ c (f.laid hp) (f.stp_laid hp) (.lst Ax (f.s.free hp) ((h3.append g3).mono (Ext.laid f.s hp)))
   | _=>cases eq
 | @tup a vs ds h1 h2 h3=>
   cases ry with
   | @tup b ws es g1 g2 g3=>
     unfold RQ at eq;dsimp only at eq
     split at eq
     ·next h=>
      cases eq
      have hne:vs≠[]:=λz=>by
       have:=h3.length;rw [z] at this;have h0:ds.length=0:=this.symm;have:ds=[]:=uc1.mp h0;rw [this] at h;simp at h
      refine .inr (.inr (.inr ⟨a,b,vs,ws,rfl,rfl,SqT.of h1,SqT.of g1,hne,?_,λz=>?_,λz p hp=>?_⟩))
      ·rw [h3.length,g3.length];exact um5 h.2 CH
      ·subst z;have:es=[]:=uc1.mp g3.length.symm;subst this;rw [uj2] at k;exact k _ H c f .refl (.tup h1 h2 h3)
      ·exact k _ _ c (f.laid hp) (f.stp_laid hp) (.tup Ax (f.s.free hp) ((h3.append g3).mono (Ext.laid f.s hp)))
     ·cases eq
   | _=>cases eq
 | _=>cases eq
def IM:D->D->M (List D)
 | .lst xs,.lst ys=>lim (xs.length + ys.length) (xs++ys)
 | _,_=>fail
theorem Jl:O4 K SI IM:=λ{Oo c t σ H x y dx dy r t' Q} f rx ry eq k=>by
 cases rx with
 | @lst a vs ds h1 h2 h3=>
   cases ry with
   | @lst b ws es g1 g2 g3=>
     obtain ⟨h,z⟩:=Eg eq
     cases z
     refine ⟨a,b,vs,ws,rfl,rfl,h1,g1,?_,λp hp=>k p _ H c f .refl (h3.append g3) hp⟩;rw [h3.length,g3.length];exact um5 h CH
   | _=>cases eq
 | _=>cases eq
def isC:D->D->M D
 | x,.non=>λt=>some (.bl (match x with | .non=>true | _=>false),t)
 | x,.bl b=>λt=>some (.bl (match x with | .bl c=>c == b | _=>false),t)
 | _,_=>fail
def QF (x y:D):M D:=bnd (isC x y) λd=>match d with | .bl b=>ret (.bl (!b)) | _=>fail
def rIs (g:Bool->Bool):R2:=λx y H Q=>(y = .non\/∃b,y = .bl b)/\Q (.bl (g (decide (x=y)))) H
theorem T6 {x y:V}{v u:Value}(rx:RelV x v)(ry:RelV y u)(hy:y = .non\/∃b,y = .bl b):plainIs v u=true/\(v == u)=decide (x=y):=by
 rcases hy with rfl | ⟨b,rfl⟩
 ·cases ry
  cases x with
  | non=>cases rx;exact ⟨rfl,by simp⟩
  | bl _=>cases rx;exact ⟨rfl,by simp⟩
  | int _=>obtain ⟨t,rfl⟩:=rx;exact ⟨rfl,by simp⟩
  | str _=>obtain ⟨t,rfl⟩:=rx;exact ⟨rfl,by simp⟩
  | byt _=>obtain ⟨t,rfl⟩:=rx;exact ⟨rfl,by simp⟩
  | flt _=>obtain ⟨t,rfl⟩:=rx;exact ⟨rfl,by simp⟩
  | ref _=>cases rx;exact ⟨rfl,by simp⟩
  | ty _=>cases rx;exact ⟨rfl,by simp⟩
 ·cases ry
  cases x with
  | non=>cases rx;exact ⟨rfl,by simp⟩
  | bl c=>cases rx;exact ⟨rfl,by simp;cases c <;> cases b <;> rfl⟩
  | int _=>obtain ⟨t,rfl⟩:=rx;exact ⟨rfl,by simp⟩
  | str _=>obtain ⟨t,rfl⟩:=rx;exact ⟨rfl,by simp⟩
  | byt _=>obtain ⟨t,rfl⟩:=rx;exact ⟨rfl,by simp⟩
  | flt _=>obtain ⟨t,rfl⟩:=rx;exact ⟨rfl,by simp⟩
  | ref _=>cases rx;exact ⟨rfl,by simp⟩
  | ty _=>cases rx;exact ⟨rfl,by simp⟩
theorem QU:OpR X (compareOp .Is) (rIs id):=by
 intro pins s σ H x y v u Q I rx ry h;obtain ⟨hy,q⟩:=h;obtain ⟨h1,h2⟩:=T6 rx ry hy;exact wpAny_is_plain h1 ⟨.bl _,H,I,by rw [h2];rfl,q⟩
theorem Up {x y:V}{dx dy:D}(rx:Rep K c H x dx)(ry:Rep K c H y dy)(eq:isC dx dy t=some z):(y = .non\/∃b,y = .bl b)/\z=(.bl (decide (x=y)),t):=by
 cases ry with
 | non=>
   refine ⟨.inl rfl,?_⟩
   cases rx <;> (cases eq;first | rfl | simp)
 | bl b=>
   refine ⟨.inr ⟨b,rfl⟩,?_⟩
   cases rx <;> (cases eq;first | rfl | simp)
   next a=>cases a <;> cases b <;> rfl
 | _=>cases eq
theorem Rc:BY K (rIs id) isC:=λ{Oo c t σ H x y dx dy r t' Q} f rx ry eq k=>by
 obtain ⟨h,z⟩:=Up rx ry eq
 cases z
 exact ⟨h,k _ H c f .refl (.bl _)⟩
noncomputable def GR:D->Bool
 | .non=>true | .bl _=>true | .int _=>true | .str _=>true | _=>false
noncomputable def toV:D->V
 | .bl b=>.bl b | .int i=>.int i | .str x=>.str x | _=>.non
theorem Le {v:V}{d:D}(r:Rep K c H v d)(h:GR d=true):v=toV d:=by cases r <;> first | rfl | cases h
theorem Ji {c:Cf}{H:Hp}:∀{vs:List V} {ds:List D},Reps K c H vs ds->ds.all GR=true->vs=ds.map toV
 | _,_,.nil,_=>rfl
 | _,_,.cons r t,h=>by
   rw [ul6,uh8] at h;rw [ul7,Le r h.1,Ji t h.2]
theorem M8:∀d:D,Fh (toV d)=true:=λd=>by cases d <;> rfl
def ixD:D->D->M D
 | .lst ds,.int i=>λt=>(atI ds i).map λd=>(d,t)
 | .tup ds,.int i=>λt=>(atI ds i).map λd=>(d,t)
 | .scr ns,.int i=>λt=>(atI ns i).map λn=>(.int n,t)
 | .str x,.int i=>λt=>if x.length<=LIM then (atI x.cps.toList i).map λn=>(.str ⟨#[n]⟩,t) else none
 | .obj k,.int i=>λt=>match t.S[k]? with
   | some (.lst ds)=>(atI ds i).map λd=>(d,t)
   | _=>none
 | _,_=>fail
theorem IL {vs:List V}{ds:List D}{i:Int}{d:D}(r:Reps K c H vs ds)(h:atI ds i=some d):∃v,atI vs i=some v/\Rep K c H v d:=by
 unfold atI at h ⊢;obtain ⟨j,h1,h2⟩:=Option.bind_eq_some_iff.mp h;obtain ⟨v,h3,h4⟩:=r.at h2;exact ⟨v,by rw [r.length,h1];exact h3,h4⟩
theorem T3 {α β:Type}(g:α->β)(xs:List α)(i:Int):atI (xs.map g) i=(atI xs i).map g:=by
 unfold atI;rw [uj5]
 cases ixN xs.length i with
 | none=>rfl
 | some j=>simp
theorem Wa {dx dy r:D}{t':T}(eq:ixD dx dy t=some (r,t')):∃i,dy = .int i/\((∃ds,dx = .lst ds)\/(∃ds,dx = .tup ds)\/(∃ns,dx = .scr ns)\/(∃z,dx = .str z)\/∃k,dx = .obj k):=by
 unfold ixD at eq
 split at eq
 ·exact ⟨_,rfl,.inl ⟨_,rfl⟩⟩
 ·exact ⟨_,rfl,.inr (.inl ⟨_,rfl⟩)⟩
 ·exact ⟨_,rfl,.inr (.inr (.inl ⟨_,rfl⟩))⟩
 ·exact ⟨_,rfl,.inr (.inr (.inr (.inl ⟨_,rfl⟩)))⟩
 ·exact ⟨_,rfl,.inr (.inr (.inr (.inr ⟨_,rfl⟩)))⟩
 ·cases eq
theorem Al:BY K (rIx K) ixD:=λ{Oo c t σ H x y dx dy r t' Q} f rx ry eq k=>by
 obtain ⟨i,rfl,hd⟩:=Wa eq
 cases ry
 rcases hd with ⟨ds,rfl⟩ | ⟨ds,rfl⟩ | ⟨ns,rfl⟩ | ⟨z,rfl⟩ | ⟨kk,rfl⟩
 ·cases rx with
  | @lst a vs _ h1 h2 h3=>
    obtain ⟨d,e1,e2⟩:=uc9.mp eq
    cases e2
    obtain ⟨v,e3,e4⟩:=IL h3 e1;exact .inl ⟨a,vs,i,v,rfl,rfl,SqL.of h1,e3,k _ H c f .refl e4⟩
 ·cases rx with
  | @tup a vs _ h1 h2 h3=>
    obtain ⟨d,e1,e2⟩:=uc9.mp eq
    cases e2
    obtain ⟨v,e3,e4⟩:=IL h3 e1;exact .inr (.inl ⟨a,vs,i,v,rfl,rfl,SqT.of h1,e3,k _ H c f .refl e4⟩)
 ·cases rx with
  | @scr a _ h1=>
    obtain ⟨n,e1,e2⟩:=uc9.mp eq
    cases e2
    exact .inl ⟨a,_,i,.int n,rfl,rfl,h1.sq,by rw [T3,e1];rfl,k _ H c f .refl (.int n)⟩
 ·cases rx
  unfold ixD at eq;dsimp only at eq
  split at eq
  ·next hl=>
   obtain ⟨n,e1,e2⟩:=uc9.mp eq
   cases e2
   exact .inr (.inr ⟨z,i,n,rfl,rfl,um5 hl CH,e1,k _ H c f .refl (.str _)⟩)
  ·cases eq
 ·cases rx with
  | @obj a _ h1=>
    unfold ixD at eq;dsimp only at eq
    cases es:t.S[kk]? with
    | none=>rw [es] at eq;cases eq
    | some o=>
      rw [es] at eq
      cases o with
      | dct _=>cases eq
      | lst ds=>
        obtain ⟨d,e1,e2⟩:=uc9.mp eq
        cases e2
        obtain ⟨vs,g1,g2⟩:=f.s.obs kk a _ h1 es;obtain ⟨v,e3,e4⟩:=IL g2 e1;exact .inl ⟨a,vs,i,v,rfl,rfl,SqL.of g1,e3,k _ H c f .refl e4⟩
end
variable {id:String}{R:List V->Hp->VK->Prop}{f:M (List D)}{x:Str}{p:Pos}
section
variable {X:Cx}{e a b:Expr}{es:List Expr}{pos:Pos}
def RO (K:PySem.W.Frag)(f:M (Option Int)):TO:=λσ H Q=>∃Oo c t,FInv K Oo c t σ H/\∃r t',f t=some (r,t')/\∀H' c',FInv K Oo c' t' σ H'->Stp Oo c H c' H'->Q r H'
theorem P4 {oe:Option Expr}{t t':TO}(h:PO X oe t)(i:∀σ H Q,t' σ H Q->t σ H Q):PO X oe t':=λpins s σ H Q I q=>h pins s σ H Q I (i σ H Q q)
def fNo:M (Option Int):=ret none
def asI:D->M (Option Int)
 | .int i=>ret (some i)
 | _=>fail
def D7 (f:M D):M (Option Int):=bnd f asI
theorem EE:PO X none (RO X.K fNo):=P4 U1 λσ H Q z9=>by
 obtain ⟨Oo,c,t,fi,r,t',eq,k⟩:=z9
 cases eq
 exact k H c fi .refl
theorem EF {f:M D}(h:PE X e (RE X.K f)):PO X (some e) (RO X.K (D7 f)):=P4 (U2 h) λσ H Q z9=>by
 obtain ⟨Oo,c,t,fi,r,t',eq,k⟩:=z9;obtain ⟨d,t1,e1,eq⟩:=Ao eq;refine ⟨Oo,c,t,fi,d,t1,e1,λv H1 c1 f1 s1 rv=>?_⟩
 cases rv with
 | int i=>cases eq;exact ⟨i,rfl,k H1 c1 f1 s1⟩
 | _=>cases eq
def O5 (K:PySem.W.Frag)(R:V->Option Int->Option Int->Hp->VK->Prop)(h:D->Option Int->Option Int->M D):Prop:=∀{Oo:Addr->Prop} {c:Cf} {t:T} {σ:L2.St} {H:Hp} {x:V} {dx r:D} {lo hi:Option Int} {t':T} {Q:VK},FInv K Oo c t σ H->Rep K c H x dx->h dx lo hi t=some (r,t')->
 (∀v H' c',FInv K Oo c' t' σ H'->Stp Oo c H c' H'->Rep K c' H' v r->Q v H')->R x lo hi H Q
def fSl (f:M D)(l u:M (Option Int))(h:D->Option Int->Option Int->M D):M D:=bnd f λx=>bnd l λlo=>bnd u λhi=>h x lo hi
theorem Ef {R:V->Option Int->Option Int->Hp->VK->Prop}{h:D->Option Int->Option Int->M D}{f:M D}{l u:M (Option Int)}{lo hi:Option Expr}{p2:Pos}(hr:SlR X R)(s:O5 X.K R h)(he:PE X e (RE X.K f))(hl:PO X lo (RO X.K l))(hu:PO X hi (RO X.K u)):PE X (.Subscript e (.Slice lo hi none p2) pos) (RE X.K (fSl f l u h)):=
 BC (Sx hr he hl hu) λσ H Q z9=>by
  obtain ⟨Oo,c,t,fi,r,t',eq,k⟩:=z9;obtain ⟨d,t1,e1,eq⟩:=Ao eq;obtain ⟨ol,t2,e2,eq⟩:=Ao eq;obtain ⟨oh,t3,e3,eq⟩:=Ao eq;exact ⟨Oo,c,t,fi,d,t1,e1,λv H1 c1 f1 s1 rv=>⟨Oo,c1,t1,f1,ol,t2,e2,λH2 c2 f2 s2=>⟨Oo,c2,t2,f2,oh,t3,e3,λH3 c3 f3 s3=>
   s f3 (rv.mono (s2.trans s3).ext) eq λv H' c' f' s' rv'=>k v H' c' f' (((s1.trans s2).trans s3).trans s') rv'⟩⟩⟩
def Cu {α:Type}(xs:List α)(lo hi:Option Int):List α:=(xs.drop (HT.sIx xs.length 0 lo)).take (HT.sIx xs.length xs.length hi - HT.sIx xs.length 0 lo)
def slD:D->Option Int->Option Int->M D
 | .lst ds,lo,hi=>ret (.lst (Cu ds lo hi))
 | .scr ns,lo,hi=>ret (.lst ((Cu ns lo hi).map .int))
 | .tup ds,lo,hi=>λt=>if HT.sIx ds.length 0 lo=0/\HT.sIx ds.length ds.length hi=ds.length then none else some (.tup (Cu ds lo hi),t)
 | _,_,_=>fail
theorem G9 {K:PySem.W.Frag}{vs:List V}{ds:List D}(r:Reps K c H vs ds)(lo hi:Option Int):Reps K c H (GN vs lo hi) (Cu ds lo hi):=by
 unfold GN Cu;rw [r.length];exact (r.drop _).take _
theorem RW {α β:Type}(g:α->β)(xs:List α)(lo hi:Option Int):Cu (xs.map g) lo hi=(Cu xs lo hi).map g:=by
 unfold Cu;rw [uj5,List.map_take,List.map_drop]
theorem Qg (ns:List Int)(lo hi:Option Int):GN (ns.map V.int) lo hi=(Cu ns lo hi).map V.int:=RW V.int ns lo hi
def SK (K:PySem.W.Frag):V->Option Int->Option Int->Hp->VK->Prop:=λx lo hi H Q=>WX K x lo hi H Q\/WZ K x lo hi H Q
theorem sl2:SlR X (SK X.K):=sl_list.or Xa
theorem W8 {K:PySem.W.Frag}:O5 K (SK K) slD:=λ{Oo c t σ H x dx r lo hi t' Q} f rx eq k=>by
 cases rx with
 | @lst p vs ds h1 h2 h3=>
   cases eq
   exact .inl ⟨p,vs,rfl,SqL.of h1,λq hq=>k _ _ c (f.laid hq) (f.stp_laid hq) (.lst Ax (f.s.free hq) ((G9 h3 lo hi).mono (Ext.laid f.s hq)))⟩
 | @scr p ns h1=>
   cases eq
   refine .inl ⟨p,_,rfl,h1.sq,λq hq=>k _ _ c (f.laid hq) (f.stp_laid hq) (.lst Ax (f.s.free hq) ?_)⟩;rw [Qg];exact Reps.ints _
 | @tup p vs ds h1 h2 h3=>
   unfold slD at eq;dsimp only at eq
   split at eq
   ·cases eq
   ·next hn=>
    cases eq
    exact .inr ⟨p,vs,rfl,SqT.of h1,by rw [h3.length];exact hn,λq hq=>k _ _ c (f.laid hq) (f.stp_laid hq) (.tup Ax (f.s.free hq) ((G9 h3 lo hi).mono (Ext.laid f.s hq)))⟩
 | _=>cases eq
theorem Y6 {h:List D->M D}(hc:CW X (.builtin id) R)(s:Es X.K R h)(hg:Gl X x)(hm:X.mg x=none)(hv:bootBuiltins x=some (.builtin id))(ha:PA X (e :: es) (RA X.K f))(hn:x≠"__name__":=by decide)(hdb:(x == ("__debug__" : Str))=false:=by decide)
 (he:starEach (e :: es) X.env=(false,eval e X.env) :: starEach es X.env:=by rfl) (hpl:(backTo pos (starEach es X.env)).any (·.1)=false:=by rfl):PE X (.Call (.Name x p) (e :: es) [] pos) (RE X.K (fB f h)):=
 BC (Ss hc hg hm hv ha hn hdb he hpl) λ_ _ _ q=>RE.callB s q
theorem Y7 {h:List D->M D}(hc:CW X (.type id) R)(s:Es X.K R h)(hg:Gl X x)(hm:X.mg x=none)(hv:bootBuiltins x=some (.type id))(ha:PA X (e :: es) (RA X.K f))(hn:x≠"__name__":=by decide)(hdb:(x == ("__debug__" : Str))=false:=by decide)
 (he:starEach (e :: es) X.env=(false,eval e X.env) :: starEach es X.env:=by rfl) (hpl:(backTo pos (starEach es X.env)).any (·.1)=false:=by rfl):PE X (.Call (.Name x p) (e :: es) [] pos) (RE X.K (fB f h)):=
 BC (Hz hc hg hm hv ha hn hdb he hpl) λ_ _ _ q=>RE.callB s q
theorem Y8 {h:List D->M (List D)}(hc:CW X (.type id) R)(s:Me X.K R h)(hg:Gl X x)(hm:X.mg x=none)(hv:bootBuiltins x=some (.type id))(ha:PA X (e :: es) (RA X.K f))(hn:x≠"__name__":=by decide)(hdb:(x == ("__debug__" : Str))=false:=by decide)
 (he:starEach (e :: es) X.env=(false,eval e X.env) :: starEach es X.env:=by rfl) (hpl:(backTo pos (starEach es X.env)).any (·.1)=false:=by rfl):PE X (.Call (.Name x p) (e :: es) [] pos) (RF X.K (fBF f h)):=
 BC (Hz hc hg hm hv ha hn hdb he hpl) λ_ _ _ q=>RF.callB s q
theorem Pj {op:Operator}{R:R2}{f g:M D}{h:D->D->M (List D)}(ho:OpR X (binaryOp op) R)(s:O4 X.K R h)(ha:PE X a (RE X.K f))(hb:PE X b (RE X.K g)):PE X (.BinOp a op b pos) (RF X.K (bnd f λx=>bnd g λy=>h x y)):=
 BC (Pz ho ha hb) λ_ _ _ q=>RF.two s q
end
section
variable {K:PySem.W.Frag}
theorem Ed {xs:List V}{d:D}(r:Reps K c H xs [d]):∃v,xs=[v]/\Rep K c H v d:=by
 cases r with
 | cons r rs=>cases rs;exact ⟨_,rfl,r⟩
theorem Ik {xs:List V}{d e:D}(r:Reps K c H xs [d,e]):∃v u,xs=[v,u]/\Rep K c H v d/\Rep K c H u e:=by
 cases r with
 | cons r rs=>
   obtain ⟨u,rfl,q⟩:=Ed rs;exact ⟨_,u,rfl,r,q⟩
def BQ:List D->M D
 | [.lst ds]=>ret (.int ds.length)
 | [.tup ds]=>ret (.int ds.length)
 | [.scr ns]=>ret (.int ns.length)
 | [.str x]=>lim x.length (.int x.length)
 | [.obj k]=>λt=>match t.S[k]? with
   | some (.lst ds)=>some (.int ds.length,t)
   | _=>none
 | _=>fail
theorem BT:Es K (λxs H Q=>∃x n,xs=[x]/\VN K x H n/\Q (.int n) H) BQ:=λ{Oo c t σ H xs ds r t' Q} f rx eq k=>by
 match ds,rx,eq with
 | [],_,eq=>cases eq
 | d0 :: _ :: _,_,eq=>cases d0 <;> cases eq
 | [d],rx,eq=>
   obtain ⟨v,rfl,rv⟩:=Ed rx
   cases rv with
   | @lst a vs ds h1 h2 h3=>cases eq;exact ⟨_,ds.length,rfl,.inl ⟨vs,SqL.of h1,h3.length.symm⟩,k _ H c f .refl (.int _)⟩
   | @tup a vs ds h1 h2 h3=>cases eq;exact ⟨_,ds.length,rfl,.inr ⟨vs,SqT.of h1,h3.length.symm⟩,k _ H c f .refl (.int _)⟩
   | @scr a ns h1=>cases eq;exact ⟨_,ns.length,rfl,.inl ⟨_,h1.sq,by simp⟩,k _ H c f .refl (.int _)⟩
   | str x=>
     obtain ⟨hl,z⟩:=Eg eq
     cases z
     exact ⟨_,x.length,rfl,⟨um5 hl CH,rfl⟩,k _ H c f .refl (.int _)⟩
   | @obj a kk h1=>
     unfold BQ at eq;dsimp only at eq
     cases es:t.S[kk]? with
     | none=>rw [es] at eq;cases eq
     | some o=>
       rw [es] at eq
       cases o with
       | dct _=>cases eq
       | lst ds=>
         cases eq
         obtain ⟨vs,g1,g2⟩:=f.s.obs kk a _ h1 es;exact ⟨_,ds.length,rfl,.inl ⟨vs,SqL.of g1,g2.length.symm⟩,k _ H c f .refl (.int _)⟩
   | _=>cases eq
noncomputable def tyD:D->Option String
 | .non=>some "NoneType"
 | .bl _=>some "bool"
 | .int _=>some "int"
 | .str _=>some "str"
 | .lst _=>some "list"
 | .tup _=>some "tuple"
 | .dic=>some "dict"
 | _=>none
noncomputable def DF (n m:String):Option Bool:=match m with
 | "int"=>some (n == "int" || n == "bool")
 | "bool"=>some (n == "bool")
 | "str"=>some (n == "str")
 | "list"=>some (n == "list")
 | "tuple"=>some (n == "tuple")
 | "dict"=>some (n == "dict")
 | _=>none
def DP:List D->M D
 | [d,.ty m]=>λt=>match tyD d with
   | some n=>(DF n m).map λb=>(.bl b,t)
   | none=>none
 | _=>fail
theorem Ia {d:D}{n m:String}{b:Bool}(h1:tyD d=some n)(h2:DF n m=some b):PySem.W.kitOne K (.type n) (.type m)=some b:=by
 have hm:m = "int"\/m = "bool"\/m = "str"\/m = "list"\/m = "tuple"\/m = "dict":=by
  unfold DF at h2
  split at h2 <;> simp_all
 have hn:n = "NoneType"\/n = "bool"\/n = "int"\/n = "str"\/n = "list"\/n = "tuple"\/n = "dict":=by
  cases d <;> simp [tyD] at h1 <;> simp [<-h1]
 rcases hm with rfl | rfl | rfl | rfl | rfl | rfl <;> rcases hn with rfl | rfl | rfl | rfl | rfl | rfl | rfl <;> (cases h2;rfl)
def SJ (K:PySem.W.Frag):List V->Hp->VK->Prop:=λxs H Q=>∃x n t b,xs=[x,.ty n]/\TyOf K H x t/\PySem.W.kitOne K t (.type n)=some b/\Q (.bl b) H
theorem CL:CW X (.builtin "isinstance") (SJ X.K):=by
 intro pins s σ H xs us Q I r h;obtain ⟨x,n,t,b,rfl,ty,e,q⟩:=h;obtain ⟨u,w',rfl,rx,rt⟩:=Ky r
 cases rt
 exact QG I rx ty e λtk=>⟨.bl b,H,I.tok tk,rfl,q⟩
theorem DV:Es K (SJ K) DP:=λ{Oo c t σ H xs ds r t' Q} f rx eq k=>by
 unfold DP at eq
 split at eq
 ·next d m=>
  obtain ⟨v,u,rfl,rv,ru⟩:=Ik rx
  cases ru
  cases et:tyD d with
  | none=>rw [et] at eq;cases eq
  | some n=>
    rw [et] at eq;obtain ⟨b,e1,e2⟩:=uc9.mp eq
    cases e2
    refine ⟨v,m,.type n,b,rfl,?_,Ia et e1,k _ H c f .refl (.bl b)⟩
    cases rv <;> first | (cases et;first | exact .non | exact .bl _ | exact .int _ | exact .str _ | exact .lst ‹_› | exact .tup ‹_› | exact .dK ‹_›) | cases et
 ·cases eq
def N0:List D->M D
 | [.lst ds]=>ret (.tup ds)
 | [.tup ds]=>ret (.tup ds)
 | [.obj k]=>λt=>match t.S[k]? with
   | some (.lst ds)=>some (.tup ds,t)
   | _=>none
 | _=>fail
theorem Vj:Es K (λxs H Q=>∃p ys,xs=[.ref p]/\((SqL K H p ys/\∀l,H l=none->Q (.ref l) (upd H l (.tup ys)))\/(SqT K H p ys/\Q (.ref p) H))) N0:=λ{Oo c t σ H xs ds r t' Q} f rx eq k=>by
 match ds,rx,eq with
 | [],_,eq=>cases eq
 | d0 :: _ :: _,_,eq=>cases d0 <;> cases eq
 | [d],rx,eq=>
   obtain ⟨v,rfl,rv⟩:=Ed rx
   cases rv with
   | @lst a vs ds h1 h2 h3=>cases eq;exact ⟨a,vs,rfl,.inl ⟨SqL.of h1,λq hq=>k _ _ c (f.laid hq) (f.stp_laid hq) (.tup Ax (f.s.free hq) (h3.mono (Ext.laid f.s hq)))⟩⟩
   | @tup a vs ds h1 h2 h3=>cases eq;exact ⟨a,vs,rfl,.inr ⟨SqT.of h1,k _ H c f .refl (.tup h1 h2 h3)⟩⟩
   | @obj a kk h1=>
     unfold N0 at eq;dsimp only at eq
     cases es:t.S[kk]? with
     | none=>rw [es] at eq;cases eq
     | some o=>
       rw [es] at eq
       cases o with
       | dct _=>cases eq
       | lst ds=>
         cases eq
         obtain ⟨vs,g1,g2⟩:=f.s.obs kk a _ h1 es;exact ⟨a,vs,rfl,.inl ⟨SqL.of g1,λq hq=>k _ _ c (f.laid hq) (f.stp_laid hq) (.tup Ax (f.s.free hq) (g2.mono (Ext.laid f.s hq)))⟩⟩
   | _=>cases eq
def IW:List D->M (List D)
 | [.lst ds]=>ret ds
 | [.tup ds]=>ret ds
 | [.scr ns]=>ret (ns.map .int)
 | [.obj k]=>λt=>match t.S[k]? with
   | some (.lst ds)=>some (ds,t)
   | _=>none
 | _=>fail
theorem OV:Me K (λxs H Q=>∃p ys,xs=[.ref p]/\(SqL K H p ys\/SqT K H p ys)/\∀l,H l=none->Q (.ref l) (upd H l (.lst ys))) IW:=λ{Oo c t σ H xs ds r t' Q} f rx eq k=>by
 match ds,rx,eq with
 | [],_,eq=>cases eq
 | d0 :: _ :: _,_,eq=>cases d0 <;> cases eq
 | [d],rx,eq=>
   obtain ⟨v,rfl,rv⟩:=Ed rx
   cases rv with
   | @lst a vs ds h1 h2 h3=>cases eq;exact ⟨a,vs,rfl,.inl (SqL.of h1),λq hq=>k q vs H c f .refl h3 hq⟩
   | @tup a vs ds h1 h2 h3=>cases eq;exact ⟨a,vs,rfl,.inr (SqT.of h1),λq hq=>k q vs H c f .refl h3 hq⟩
   | @scr a ns h1=>cases eq;exact ⟨a,_,rfl,.inl h1.sq,λq hq=>k q _ H c f .refl (Reps.ints ns) hq⟩
   | @obj a kk h1=>
     unfold IW at eq;dsimp only at eq
     cases es:t.S[kk]? with
     | none=>rw [es] at eq;cases eq
     | some o=>
       rw [es] at eq
       cases o with
       | dct _=>cases eq
       | lst ds=>
         cases eq
         obtain ⟨vs,g1,g2⟩:=f.s.obs kk a _ h1 es;exact ⟨a,vs,rfl,.inl (SqL.of g1),λq hq=>k q vs H c f .refl g2 hq⟩
   | _=>cases eq
def Nc:List D->M D
 | [.int i]=>ret (.int i)
 | [.bl b]=>ret (.int (if b then 1 else 0))
 | _=>fail
theorem Vf:Es K (λxs H Q=>(∃i,xs=[.int i]/\Q (.int i) H)\/∃k,xs=[.bl k]/\Q (.int (if k then 1 else 0)) H) Nc:=λ{Oo c t σ H xs ds r t' Q} f rx eq k=>by
 match ds,rx,eq with
 | [],_,eq=>cases eq
 | d0 :: _ :: _,_,eq=>cases d0 <;> cases eq
 | [d],rx,eq=>
   obtain ⟨v,rfl,rv⟩:=Ed rx
   cases rv with
   | int i=>cases eq;exact .inl ⟨i,rfl,k _ H c f .refl (.int _)⟩
   | bl b=>cases eq;exact .inr ⟨b,rfl,k _ H c f .refl (.int _)⟩
   | _=>cases eq
def YX:List D->M D
 | [.int i]=>ret (.int (if i < 0 then -i else i))
 | _=>fail
def G1:List D->M D
 | [.int i,.int j]=>ret (.int (if j < i then j else i))
 | _=>fail
def K0:List D->M D
 | [.int i,.int j]=>ret (.int (if j > i then j else i))
 | _=>fail
theorem Ir:Es K (λxs H Q=>∃i j,xs=[.int i,.int j]/\Q (.int (if j < i then j else i)) H) G1:=λ{Oo c t σ H xs ds r t' Q} f rx eq k=>by
 unfold G1 at eq
 split at eq
 ·next i j=>
  obtain ⟨v,u,rfl,rv,ru⟩:=Ik rx
  cases rv;cases ru;cases eq
  exact ⟨i,j,rfl,k _ H c f .refl (.int _)⟩
 ·cases eq
theorem Vg:Es K (λxs H Q=>∃i j,xs=[.int i,.int j]/\Q (.int (if j > i then j else i)) H) K0:=λ{Oo c t σ H xs ds r t' Q} f rx eq k=>by
 unfold K0 at eq
 split at eq
 ·next i j=>
  obtain ⟨v,u,rfl,rv,ru⟩:=Ik rx
  cases rv;cases ru;cases eq
  exact ⟨i,j,rfl,k _ H c f .refl (.int _)⟩
 ·cases eq
def La:List D->M D
 | [.str x]=>λt=>if x.length=1 then some (.int (x.cps.getD 0 0:Nat),t) else none
 | _=>fail
theorem OW:Es K (λxs H Q=>∃x,xs=[.str x]/\x.length=1/\Q (.int (x.cps.getD 0 0:Nat)) H) La:=λ{Oo c t σ H xs ds r t' Q} f rx eq k=>by
 match ds,rx,eq with
 | [],_,eq=>cases eq
 | d0 :: _ :: _,_,eq=>cases d0 <;> cases eq
 | [d],rx,eq=>
   obtain ⟨v,rfl,rv⟩:=Ed rx
   cases rv with
   | str x=>
     unfold La at eq;dsimp only at eq
     split at eq
     ·next h=>cases eq;exact ⟨x,rfl,h,k _ H c f .refl (.int _)⟩
     ·cases eq
   | _=>cases eq
end
end F2
namespace L2
open PySem PySem.Spec PyProof.Rows
open AutoSeq1 (wpAny_loadPart')
def Tz (K:PySem.W.Frag):R2:=λx y H Q=>∃a b ys,x = .ref a/\y = .ref b/\SqT K H a []/\SqT K H b ys/\Q (.ref b) H
theorem UJ {X:Cx}:OpR X (binaryOp .Add) (Tz X.K):=by
 intro pins s σ H x y v u Q I rx ry h;obtain ⟨a,b,ys,rfl,rfl,h1,h2,q⟩:=h
 cases rx
 cases ry
 obtain ⟨its,r,⟨⟨cls,dd,data,sl⟩,ho,hc,n,hd⟩,z⟩:=I.tuple h1;obtain ⟨its2,r2,⟨⟨cls2,dd2,data2,sl2⟩,ho2,hc2,n2,hd2⟩,z2⟩:=I.tuple h2;simp only at hc hd hc2 hd2;subst hc hd hc2 hd2
 cases r
 exact concat_meets ⟨_,ho,rfl⟩ ⟨_,ho2,rfl⟩ noFill_tuple_add seq_tuple_add uc7 uc0 (ub6 _ _)
  (tuple_addW0 a b #[] its2.toArray n n2 dd dd2 sl sl2 rfl) ⟨ho,ho2,.ref b,H,I,rfl,q⟩
theorem IY:fillsNumberSlot (.type "tuple") "mul" = pure false:=
 PySem.fillsNumberSlot_seq (id:="tuple.__mul__") (r:=some (.builtin "tuple.__rmul__")) F.slot_tuple_mul.lookup (by decide +kernel) F.slot_tuple_rmul.lookup (by decide +kernel)
theorem NM:seqRepeat? (.type "tuple")=pure (some (.builtin "tuple.__mul__")):=by
 unfold seqRepeat?;rw [PySem.seqSlot_of (T:="tuple") (name:="__mul__") (id:="tuple.__mul__") F.slot_tuple_mul.lookup (by decide +kernel),PySem.seqSlot_of (T:="tuple") (name:="__rmul__") (id:="tuple.__rmul__") F.slot_tuple_rmul.lookup (by decide +kernel)];rfl
theorem Lf (a:Int)(t:Tok)(l:Addr)(items:Array Value)(n:Nat)(dd:Option Addr)(sl:Array (Option Value)) :
 Meets (Builtin.«int.__rmul__» ⟨[.int a t,.ref l],[]⟩) (λ_ R s=>s.heap.get? l=some { cls:=.type "tuple",dict:=dd,data:=.seq items n,slots:=sl }/\R (.ok (.ret Value.notImplemented)) s):=
 .of_wp λprog w A R s h=>by obtain ⟨hp,g,d,tk,os⟩:=s;obtain ⟨hl,h⟩:=h;wp_walk;exact ⟨_,rfl,h⟩
theorem Op (l:Addr)(items:Array Value)(n:Nat)(dd:Option Addr)(sl:Array (Option Value))(x:Int)(u:Tok)(hc0:(decide (x < -(2 ^ 63)) || decide (x ≥ 2 ^ 63))=false)(hc1:(items.isEmpty || x == 1)=true) :
 Meets (Builtin.«tuple.__mul__» ⟨[.ref l,.int x u],[]⟩) (λ_ R s=>s.heap.get? l=some { cls:=.type "tuple",dict:=dd,data:=.seq items n,slots:=sl }/\R (.ok (.ret (Value.ref l))) s):=
 .of_wp λprog w A R s h=>by
  obtain ⟨hp,g,d,tk,os⟩:=s;obtain ⟨hl,h⟩:=h;have f1:=AutoSeq1.idx_int;have f2:=AutoSeq1.sub_tuple_tuple;have f3:=AutoSeq1.sub_list_list;have f4:=AutoSeq1.sub_tuple_list;have f5:=AutoSeq1.sub_list_tuple
  wp_walk using wpAny_loadPart' hl
  refine wpAny_ite_split (λz=>absurd z (by rw [hc0];decide)) λ_=>?_
  wp_walk using wpAny_loadPart' hl
  exact ⟨_,rfl,h⟩
theorem Oq (l:Addr)(items:Array Value)(n:Nat)(dd:Option Addr)(sl:Array (Option Value))(x:Int)(u:Tok)(hc0:(decide (x < -(2 ^ 63)) || decide (x ≥ 2 ^ 63))=false)(hc1:(items.isEmpty || x == 1)=false)(hc2:(decide (x<=0) || items.isEmpty)=true) :
 Meets (Builtin.«tuple.__mul__» ⟨[.ref l,.int x u],[]⟩) (λ_ R s=>s.heap.get? l=some { cls:=.type "tuple",dict:=dd,data:=.seq items n,slots:=sl }/\R (.ok (.ret (Value.ref s.heap.objs.size))) { s with heap:=s.heap.push { cls:=Value.type "tuple",data:=Data.seq #[] },toks:=s.toks }):=
 .of_wp λprog w A R s h=>by
  obtain ⟨hp,g,d,tk,os⟩:=s;obtain ⟨hl,h⟩:=h;have f1:=AutoSeq1.idx_int;have f2:=AutoSeq1.sub_tuple_tuple;have f3:=AutoSeq1.sub_list_list;have f4:=AutoSeq1.sub_tuple_list;have f5:=AutoSeq1.sub_list_tuple
  wp_walk using wpAny_loadPart' hl
  refine wpAny_ite_split (λz=>absurd z (by rw [hc0];decide)) λ_=>?_
  wp_walk using wpAny_loadPart' hl
  exact ⟨_,rfl,h⟩
theorem Os (l:Addr)(items:Array Value)(n:Nat)(dd:Option Addr)(sl:Array (Option Value))(x:Int)(u:Tok)(hc0:(decide (x < -(2 ^ 63)) || decide (x ≥ 2 ^ 63))=false)(hc1:(items.isEmpty || x == 1)=false)(hc2:(decide (x<=0) || items.isEmpty)=false)
 (hc3:¬(items.size:Int) * x > (2 ^ 63 - 1) / 8) (hc4:Builtin.Tuple.tupleTooMany ((items.size:Int) * x)=false) (hsz:(List.foldl (λx1 x2=>x1++x2) #[] (List.replicate x.toNat items)).size<=sizeLine) :
 Meets (Builtin.«tuple.__mul__» ⟨[.ref l,.int x u],[]⟩) (λ_ R s=>s.heap.get? l=some { cls:=.type "tuple",dict:=dd,data:=.seq items n,slots:=sl }/\R (.ok (.ret (Value.ref s.heap.objs.size))) { s with heap:=s.heap.push { cls:=Value.type "tuple",data:=Data.seq (List.foldl (λx1 x2=>x1++x2) #[] (List.replicate x.toNat items)) },toks:=s.toks }):=
 .of_wp λprog w A R s h=>by
  obtain ⟨hp,g,d,tk,os⟩:=s;obtain ⟨hl,h⟩:=h;have f1:=AutoSeq1.idx_int;have f2:=AutoSeq1.sub_tuple_tuple;have f3:=AutoSeq1.sub_list_list;have f4:=AutoSeq1.sub_tuple_list;have f5:=AutoSeq1.sub_list_tuple
  wp_walk using wpAny_loadPart' hl
  refine wpAny_ite_split (λz=>absurd z (by rw [hc0];decide)) λ_=>?_
  wp_walk using wpAny_loadPart' hl
  refine wpAny_ite_split (λz=>absurd z hc3) λ_=>?_
  wp_walk using wpAny_loadPart' hl
  exact ⟨_,rfl,h⟩
end L2
namespace L2
open PySem PySem.Spec PyProof.Rows
open AutoSeq1 (wpAny_loadPart')
def TK (K:PySem.W.Frag):R2:=λx y H Q=>∃a k xs,x = .ref a/\y = .int k/\SqT K H a xs/\-(2 ^ 62)<=k/\k < 2 ^ 62/\xs.length * k.toNat<=sizeLine/\
 ((xs=[]\/k=1)->Q (.ref a) H)/\(¬(xs=[]\/k=1)->∀p,H p=none->Q (.ref p) (upd H p (.tup (List.replicate k.toNat xs).flatten)))
theorem Inv.tnew {X:Cx}{pins:List (Addr×Obj)}{σ:L2.St}{H:Hp}{s:Shared}{ys:List V}{its:List Value}{t':Nat}(I:Inv X pins σ H s)(hv:Vals ys its)(hz:ys.length<=sizeLine) :
 Inv X pins σ (upd H s.heap.objs.size (.tup ys)) { s with heap:=s.heap.push { cls:=.type "tuple",data:=.seq its.toArray },toks:=t' }:=
 I.laid (λb u e=>uc5 _ e) (un6 _) ⟨hz,its,hv,⟨_,ue6 _ rfl,rfl,_,rfl⟩⟩
theorem op_mulT {X:Cx}:OpR X (binaryOp .Mult) (TK X.K):=by
 intro pins s σ H x y v u Q I rx ry h;obtain ⟨a,k,xs,rfl,rfl,hq,h1,h2,hz,q1,q2⟩:=h
 cases rx
 obtain ⟨t,rfl⟩:=ry;obtain ⟨its,r,⟨⟨cls,dd,data,sl⟩,ho,hc,n,hd⟩,z⟩:=I.tuple hq;simp only at hc hd;subst hc hd;have hl:=r.length;have hc0:(decide (k < -(2 ^ 63)) || decide (k ≥ 2 ^ 63))=false:=by
  rw [Bool.or_eq_false_iff];exact ⟨uk7 (by lia),uk7 (by lia)⟩
 refine wpAny_binaryOp_repeat_ref (T:="tuple") (U:="int") (by decide) ⟨_,ho,rfl⟩ (λs'=>typeIs_int s' k t) IY F.fills_int_mul F.slot_int_rmul NM F.slot_int_index.lookup
  (call_meets F.slot_int_rmul (typeIs_int s k t) F.entry_int_rmul (F.args_int_rmul_2 _ _) (Lf k t a its.toArray n dd sl) ⟨ho,rfl,⟨_,ho,rfl⟩,?_⟩)
 by_cases hs:xs=[]\/k=1
 ·have hc1:(its.toArray.isEmpty || k == 1)=true:=by
   rw [uk1];rcases hs with z | z
   ·subst z;cases r;exact .inl rfl
   ·exact .inr (by simp [z])
  exact call_meets F.slot_tuple_mul ⟨_,ho,rfl⟩ F.entry_tuple_mul (F.args_tuple_mul_2 _ _) (Op a its.toArray n dd sl k t hc0 hc1) ⟨ho,.ref a,H,I,rfl,q1 hs⟩
 ·have hne:its≠[]:=λz=>hs (.inl (by subst z;cases r;rfl))
  have hk1:k≠1:=λz=>hs (.inr z);have hem:its.toArray.isEmpty=false:=by cases its with | nil=>exact absurd rfl hne | cons _ _=>rfl
  have hc1:(its.toArray.isEmpty || k == 1)=false:=by rw [hem];simpa using hk1
  by_cases hk:k<=0
  ·have hc2:(decide (k<=0) || its.toArray.isEmpty)=true:=by rw [ul2 hk];rfl
   refine call_meets F.slot_tuple_mul ⟨_,ho,rfl⟩ F.entry_tuple_mul (F.args_tuple_mul_2 _ _) (Oq a its.toArray n dd sl k t hc0 hc1 hc2) ⟨ho,?_⟩;have hk0:k.toNat=0:=by lia
   refine ⟨.ref _,_,I.tnew (t':=s.toks) (ys:=[]) (its:=[]) .nil (un7 _),rfl,?_⟩;have:=q2 hs _ I.fresh;rw [hk0] at this;exact this
  ·have hc2:(decide (k<=0) || its.toArray.isEmpty)=false:=by rw [uk7 hk,hem];rfl
   have hsz:its.length * k.toNat<=sizeLine:=by rw [<-hl];exact hz
   have hmul:((its.toArray.size:Nat):Int) * k=((its.length * k.toNat:Nat):Int):=by
    rw [ug3,Int.natCast_mul,ue9 (by lia)]
   have hline:(sizeLine:Nat)<=(2 ^ 63 - 1) / 8:=by decide
   have hc3:¬(its.toArray.size:Int) * k > (2 ^ 63 - 1) / 8:=by rw [hmul];lia
   have hc4:Builtin.Tuple.tupleTooMany ((its.toArray.size:Int) * k)=false:=by
    unfold Builtin.Tuple.tupleTooMany;rw [hmul];exact uk7 (by lia)
   have f0:List.foldl (λx1 x2=>x1++x2) #[] (List.replicate k.toNat its.toArray)=(List.replicate k.toNat its).flatten.toArray:=by
    have:=Hs its k.toNat [];rw [uj7] at this;exact this
   have hfz:(List.foldl (λx1 x2=>x1++x2) #[] (List.replicate k.toNat its.toArray)).size<=sizeLine:=by
    rw [f0,ug3,KZ,um8];exact hsz
   refine call_meets F.slot_tuple_mul ⟨_,ho,rfl⟩ F.entry_tuple_mul (F.args_tuple_mul_2 _ _) (Os a its.toArray n dd sl k t hc0 hc1 hc2 hc3 hc4 hfz) ⟨ho,?_⟩;rw [f0];exact ⟨.ref _,_,I.tnew (t':=s.toks) (r.rep k.toNat) (by rw [KZ,um8];exact hz),rfl,q2 hs _ I.fresh⟩
theorem Hw (l:Addr)(items:Array Value)(n:Nat)(b:Addr)(items2:Array Value)(n2:Nat)(dd:Option Addr)(sl:Array (Option Value))(hs0:¬(!items.isEmpty && Builtin.List.listTooLong (items.size + items2.size))=true)(hs1:items.size<=sizeLine)(hs2:items.size + items2.size<=sizeLine + 1) :
 Meets (Builtin.«list.extend» ⟨[.ref l,.ref b],[]⟩) (λ_ R s=>s.heap.get? l=some { cls:=.type "list",dict:=none,data:=.seq items n,slots:=#[] }/\s.heap.get? b=some { cls:=.type "tuple",dict:=dd,data:=.seq items2 n2,slots:=sl }/\R (.ok (.ret Value.none)) { s with heap:=s.heap.update l (Obj.mapSeq λx=>x++items2),toks:=s.toks }):=
 .of_wp λprog w A R s h=>by
  obtain ⟨hp,g,d,tk,os⟩:=s;obtain ⟨hl,hb,h⟩:=h;have f1:=AutoSeq1.idx_int;have f2:=AutoSeq1.sub_tuple_tuple;have f3:=AutoSeq1.sub_list_list;have f4:=AutoSeq1.sub_tuple_list;have f5:=AutoSeq1.sub_list_tuple;have hz':(items++items2).size<=sizeLine + 1:=by rw [Array.size_append];exact hs2
  wp_walk using (wpAny_updateSeq hl rfl (hz:=hs1) (_hz':=hz')),wpAny_loadPart' hl,wpAny_loadPart' hb;exact ⟨_,rfl,h⟩
def NH (K:PySem.W.Frag):V->List V->Hp->VK->Prop:=λx vs H Q=>∃l b xs zs,x = .ref l/\vs=[.ref b]/\H l=some (.lst xs)/\SqT K H b zs/\xs.length + zs.length<=sizeLine/\Q .non (upd H l (.lst (xs++zs)))
theorem Pv {X:Cx}:MtM X "list.extend" (NH X.K):=by
 intro pins s σ H x vs v us Q I rx rv h;obtain ⟨l,b,xs,zs,rfl,rfl,hH,hB,hz,q⟩:=h
 cases rx
 obtain ⟨u,rfl,ru⟩:=rv.one
 cases ru
 obtain ⟨z,its,n,r,hl,e⟩:=I.lstM hH;obtain ⟨its2,r2,⟨⟨cls,dd,data,sl⟩,ho,hc,n2,hd⟩,z2⟩:=I.tuple hB;simp only at hc hd;subst hc hd;have hl2:=r2.length;have hsz:its.toArray.size + its2.toArray.size<=sizeLine:=by rw [ug3,ug3];lia
 have hlong:¬(!its.toArray.isEmpty && Builtin.List.listTooLong (its.toArray.size + its2.toArray.size))=true:=by
  rw [I9 hsz,ul0];exact uf4
 refine call_meets F.slot_list_extend ⟨_,e,rfl⟩ F.entry_list_extend (F.args_list_extend_2 _ _)
  (Hw l its.toArray n b its2.toArray n2 dd sl hlong (by rw [ug3];lia) (by lia)) ⟨e,ho,?_⟩
 refine ⟨.non,_,I.lset (its':=its++its2) hH e (by simp) (r.append r2) ?_,rfl,q⟩;rw [uf7];lia
theorem MtM.or {X:Cx}{id:String}{r r':V->List V->Hp->VK->Prop}(h:MtM X id r)(h':MtM X id r'):MtM X id (λx xs H Q=>r x xs H Q\/r' x xs H Q):=by
 intro pins s σ H x xs v us Q I rx rv q;rcases q with q | q
 ·exact h pins s σ H x xs v us Q I rx rv q
 ·exact h' pins s σ H x xs v us Q I rx rv q
section
variable {X:Cx}{a b c d:Expr}{ta tb tc td:TE}{pos:Pos}
end
end L2
namespace F2
open PySem L2 PySem.Spec
section
variable {K:PySem.W.Frag}
def Bj (x y:D):M D:=match x,y with
 | .tup [],.tup ys=>ret (.tup ys)
 | x,y=>RQ x y
def Ty (K:PySem.W.Frag):R2:=λx y H Q=>PD K x y H Q\/Tz K x y H Q
theorem A0 {X:Cx}:OpR X (binaryOp .Add) (Ty X.K):=op_add4.or UJ
theorem AO:BY K (Ty K) Bj:=λ{Oo c t σ H x y dx dy r t' Q} f rx ry eq k=>by
 unfold Bj at eq
 split at eq
 ·next ys=>
  cases eq
  cases rx with
  | tup h1 h2 h3=>
    cases h3
    cases ry with
    | tup g1 g2 g3=>exact .inr ⟨_,_,_,rfl,rfl,SqT.of h1,SqT.of g1,k _ H c f .refl (.tup g1 g2 g3)⟩
 ·exact .inl (Vc f rx ry eq k)
def IX:D->D->M D
 | .int i,.int j=>λt=>if Fk i j=true then some (.int (i * j),t) else none
 | .tup xs,.int k=>λt=>if CD k=true/\xs.length * k.toNat<=LIM then some (.tup (List.replicate k.toNat xs).flatten,t) else none
 | .lst xs,.int k=>λt=>if CD k=true/\xs.length * k.toNat<=LIM then some (.lst (List.replicate k.toNat xs).flatten,t) else none
 | _,_=>fail
def PJ (K:PySem.W.Frag):R2:=λx y H Q=>rI CMul (λi j=>.int (i * j)) x y H Q\/(TK K x y H Q\/WW x y H Q)
theorem op_mul3 {X:Cx}:OpR X (binaryOp .Mult) (PJ X.K):=op_mul.or (op_mulT.or Wv)
theorem UB {dx dy r:D}{t t':T}(eq:IX dx dy t=some (r,t')):∃j,dy = .int j/\((∃i,dx = .int i)\/(∃ds,dx = .tup ds)\/∃ds,dx = .lst ds):=by
 unfold IX at eq
 split at eq
 ·exact ⟨_,rfl,.inl ⟨_,rfl⟩⟩
 ·exact ⟨_,rfl,.inr (.inl ⟨_,rfl⟩)⟩
 ·exact ⟨_,rfl,.inr (.inr ⟨_,rfl⟩)⟩
 ·cases eq
theorem Vh:BY K (PJ K) IX:=λ{Oo c t σ H x y dx dy r t' Q} f rx ry eq k=>by
 obtain ⟨j,rfl,hd⟩:=UB eq
 cases ry
 rcases hd with ⟨i,rfl⟩ | ⟨ds,rfl⟩ | ⟨ds,rfl⟩
 ·cases rx
  unfold IX at eq;dsimp only at eq
  split at eq
  ·next h=>cases eq;exact .inl ⟨i,j,rfl,rfl,QN h,k _ H c f .refl (.int _)⟩
  ·cases eq
 ·cases rx with
  | @tup a vs _ h1 h2 h3=>
    unfold IX at eq;dsimp only at eq
    split at eq
    ·next h=>
     cases eq
     obtain ⟨g1,g2⟩:=Eo h.1;refine .inr (.inl ⟨a,j,vs,rfl,rfl,SqT.of h1,g1,g2,by rw [h3.length];exact um5 h.2 CH,λhs=>?_,λhs p hp=>?_⟩)
     ·rcases hs with z | z
      ·subst z;have:ds=[]:=uc1.mp h3.length.symm;subst this;have e:(List.replicate j.toNat ([]:List D)).flatten=[]:=by simp
       rw [e] at k;exact k _ H c f .refl (.tup h1 h2 h3)
      ·subst z;have e:(List.replicate (1:Int).toNat ds).flatten=ds:=by simp
       rw [e] at k;exact k _ H c f .refl (.tup h1 h2 h3)
     ·exact k _ _ c (f.laid hp) (f.stp_laid hp) (.tup Ax (f.s.free hp) ((h3.rep j.toNat).mono (Ext.laid f.s hp)))
    ·cases eq
 ·cases rx with
  | @lst a vs _ h1 h2 h3=>
    unfold IX at eq;dsimp only at eq
    split at eq
    ·next h=>
     cases eq
     obtain ⟨g1,g2⟩:=Eo h.1;refine .inr (.inr ⟨a,j,vs,rfl,rfl,h1,by lia,by lia,by rw [h3.length];exact um5 h.2 CH,λp hp=>?_⟩);exact k _ _ c (f.laid hp) (f.stp_laid hp) (.lst Ax (f.s.free hp) ((h3.rep j.toNat).mono (Ext.laid f.s hp)))
    ·cases eq
end
variable {K:PySem.W.Frag}{μ:Cf->Hp->D->(V->Hp->Prop)->Prop}
section
variable {X:Cx}{e a b:Expr}{pos:Pos}
def Ct (xs:List D):List D->Option (List D)
 | [d]=>if xs.length < LIM then some (xs++[d]) else none
 | _=>none
def IP (xs:List D):List D->Option (List D)
 | [.lst ys]=>if xs.length + ys.length<=LIM then some (xs++ys) else none
 | [.tup ys]=>if xs.length + ys.length<=LIM then some (xs++ys) else none
 | _=>none
def ownM (i:Nat)(h:List D->List D->Option (List D))(g:M (List D)):M Out:=λt=>match t.env[i]? with
 | some (some (.own _))=>bnd g (λds t1=>match t1.env[i]? with
   | some (some (.own xs))=>(h xs ds).map λys=>(.next,{ t1 with env:=t1.env.set i (some (.own ys)) })
   | _=>none) t
 | _=>none
def O6 (K:PySem.W.Frag)(R:V->List V->Hp->VK->Prop)(h:List D->List D->Option (List D)):Prop:=∀{c:Cf} {S:List Ob} {H:Hp} {a:Addr} {vs us:List V} {xs ds ys:List D} {Q:VK},SInv K c S H->H a=some (.lst vs)->Reps K c H vs xs->Reps K c H us ds->h xs ds=some ys->
 (∀ws,Reps K c H ws ys->Q .non (upd H a (.lst ws)))->R (.ref a) us H Q
theorem OU:O6 K OR Ct:=λ{c S H a vs us xs ds ys Q} s h r rs e k=>by
 unfold Ct at e
 split at e
 ·next d=>
  split at e
  ·next hl=>
   cases e
   obtain ⟨v,rfl,rv⟩:=Ed rs;exact ⟨a,vs,v,rfl,rfl,h,by rw [r.length];exact uf2 hl CH,k _ (r.append (.cons rv .nil))⟩
  ·cases e
 ·cases e
def TC (K:PySem.W.Frag):V->List V->Hp->VK->Prop:=λx xs H Q=>OS x xs H Q\/NH K x xs H Q
theorem Uy {X:Cx}:MtM X "list.extend" (TC X.K):=mt_extend.or Pv
theorem Vd:O6 K (TC K) IP:=λ{c S H a vs us xs ds ys Q} s h r rs e k=>by
 unfold IP at e
 split at e
 ·split at e
  ·next hl=>
   cases e
   obtain ⟨v,rfl,rv⟩:=Ed rs
   cases rv with
   | lst h1 h2 h3=>exact .inl ⟨a,_,vs,_,rfl,rfl,h,h1,by rw [r.length,h3.length];exact um5 hl CH,k _ (r.append h3)⟩
  ·cases e
 ·split at e
  ·next hl=>
   cases e
   obtain ⟨v,rfl,rv⟩:=Ed rs
   cases rv with
   | tup h1 h2 h3=>exact .inr ⟨a,_,vs,_,rfl,rfl,h,SqT.of h1,by rw [r.length,h3.length];exact um5 hl CH,k _ (r.append h3)⟩
  ·cases e
 ·cases e
theorem RS.ownM {μ:Cf->Hp->D->(V->Hp->Prop)->Prop}{K:PySem.W.Frag}{i:Nat}{h:List D->List D->Option (List D)}{g:M (List D)}{R:V->List V->Hp->VK->Prop}(s:O6 K R h){E:Ends}{σ:L2.St}{H:Hp}(q:RSg K μ (F2.ownM i h g) E σ H):TN (tBM K "list" R (Xh i) (RA K g)) E σ H:=by
 obtain ⟨Oo,c,t,fi,o,t',eq,k⟩:=q;unfold F2.ownM at eq
 split at eq
 ·next xs0 e0=>
  obtain ⟨ds,t1,e1,eq⟩:=Ao eq;obtain ⟨a,vs0,h1,h2,h3,h4,h5⟩:=fi.own i xs0 e0;refine ⟨.ref a,h1,.inl ⟨rfl,vs0,SqL.of h4⟩,Oo,c,t,fi,ds,t1,e1,λus H1 c1 f1 s1 rus=>?_⟩
  split at eq
  ·next xs ex=>
   obtain ⟨ys,ey,ez⟩:=uc9.mp eq
   cases ez
   obtain ⟨a',vs,g1,g2,g3,g4,g5⟩:=f1.own i xs ex;rw [h1] at g1;injection g1 with g1;injection g1 with g1;injection g1 with g1;subst g1
   refine s f1.s g4 g5 rus ey λws rws=>?_;obtain ⟨f2,s2⟩:=f1.wrOwn ex h1 rws;exact k σ _ c1 f2 (s1.trans s2)
  ·cases eq
 ·cases eq
theorem Qu (i:Nat){x:Str}{es:List Expr}{g:M (List D)}{px apos cpos:Pos}(ha:PA X (e :: es) (RA X.K g))(hN:X.N[i]?=some x:=by rfl)(hv:Vis X.env.scope x:=by first | exact Or.inl rfl | exact Or.inr (Or.inl rfl) | exact Or.inr (Or.inr rfl))(hd:(x == ("__debug__" : Str))=false:=by decide)
 (hcd:(x == ("__classdict__" : Str))=false:=by decide)
 (hbase:attributeBase (.Name x px) "append" X.env (eval (.Name x px) X.env)=eval (.Name x px) X.env:=by rfl)
 (hfew:((backTo cpos (starEach (e :: es) X.env)).all (λx=>!x.1) && (backToKw cpos (keywordEach [] X.env)).all (λx=>x.1.isSome) && decide ((e :: es).length + ([]:List Keyword).length + (if ([]:List Keyword).isEmpty then 0 else 1) < 30))=true:=by rfl)
 (hline:(apos.endLine == cpos.line)=true:=by rfl) (hs:starEach (e :: es) X.env=(false,eval e X.env) :: starEach es X.env:=by rfl) (hplain:(backTo cpos (starEach es X.env)).any (·.1)=false:=by rfl) :
 PS X (.Expr (.Call (.Attribute (.Name x px) "append" apos) (e :: es) [] cpos) pos) (RSg X.K μ (ownM i Ct g)):=
 B0 (Lc (Ko uc2 PySem.F.slot_list_append PySem.F.type_list_append LF (Dz hN hv hd hcd) ha hbase hfew hline hs hplain)) λ_ _ _ q=>RS.ownM OU q
theorem Qv (i:Nat){x:Str}{es:List Expr}{g:M (List D)}{px apos cpos:Pos}(ha:PA X (e :: es) (RA X.K g))(hN:X.N[i]?=some x:=by rfl)(hv:Vis X.env.scope x:=by first | exact Or.inl rfl | exact Or.inr (Or.inl rfl) | exact Or.inr (Or.inr rfl))(hd:(x == ("__debug__" : Str))=false:=by decide)
 (hcd:(x == ("__classdict__" : Str))=false:=by decide)
 (hbase:attributeBase (.Name x px) "extend" X.env (eval (.Name x px) X.env)=eval (.Name x px) X.env:=by rfl)
 (hfew:((backTo cpos (starEach (e :: es) X.env)).all (λx=>!x.1) && (backToKw cpos (keywordEach [] X.env)).all (λx=>x.1.isSome) && decide ((e :: es).length + ([]:List Keyword).length + (if ([]:List Keyword).isEmpty then 0 else 1) < 30))=true:=by rfl)
 (hline:(apos.endLine == cpos.line)=true:=by rfl) (hs:starEach (e :: es) X.env=(false,eval e X.env) :: starEach es X.env:=by rfl) (hplain:(backTo cpos (starEach es X.env)).any (·.1)=false:=by rfl) :
 PS X (.Expr (.Call (.Attribute (.Name x px) "extend" apos) (e :: es) [] cpos) pos) (RSg X.K μ (ownM i IP g)):=
 B0 (Lc (Ko uc2 PySem.F.slot_list_extend PySem.F.type_list_extend Uy (Dz hN hv hd hcd) ha hbase hfew hline hs hplain)) λ_ _ _ q=>RS.ownM Vd q
def objM (h:List D->List D->Option (List D))(f:M D)(g:M (List D)):M D:=bnd f λo=>match o with
 | .obj k=>λt=>match t.S[k]? with
   | some (.lst _)=>bnd g (λds t1=>match t1.S[k]? with
     | some (.lst xs)=>(h xs ds).map λys=>(.non,{ t1 with S:=t1.S.set k (.lst ys) })
     | _=>none) t
   | _=>none
 | _=>fail
theorem RE.objM {K:PySem.W.Frag}{h:List D->List D->Option (List D)}{f:M D}{g:M (List D)}{R:V->List V->Hp->VK->Prop}(s:O6 K R h){σ:L2.St}{H:Hp}{Q:VK}(q:RE K (F2.objM h f g) σ H Q):tBM K "list" R (RE K f) (RA K g) σ H Q:=by
 obtain ⟨Oo,c,t,fi,r,t',eq,k⟩:=q;obtain ⟨o,t0,e0,eq⟩:=Ao eq;refine ⟨Oo,c,t,fi,o,t0,e0,λx H0 c0 f0 s0 rx=>?_⟩
 cases rx with
 | @obj a kk hk=>
   dsimp only at eq
   split at eq
   ·next xs0 ex0=>
    obtain ⟨ds,t1,e1,eq⟩:=Ao eq;obtain ⟨vs0,g0,g0'⟩:=f0.s.obs kk a _ hk ex0;refine ⟨.inl ⟨rfl,vs0,SqL.of g0⟩,Oo,c0,t0,f0,ds,t1,e1,λus H1 c1 f1 s1 rus=>?_⟩
    split at eq
    ·next xs ex=>
     obtain ⟨ys,ey,ez⟩:=uc9.mp eq
     cases ez
     have hk1:=s1.ext.io _ _ hk;obtain ⟨vs,g1,g2⟩:=f1.s.obs kk a _ hk1 ex;refine s f1.s g1 g2 rus ey λws rws=>?_;obtain ⟨f2,s2⟩:=f1.wrObj (o:=.lst ys) (u:=.lst ws) hk1 λc' H' ext hu=>⟨ws,hu,rws.mono ext⟩;exact k _ _ c1 f2 ((s0.trans s1).trans s2) .non
    ·cases eq
   ·cases eq
 | _=>cases eq
theorem E5 {o:Expr}{es:List Expr}{f:M D}{g:M (List D)}{apos cpos:Pos}(ho:PE X o (RE X.K f))(ha:PA X (e :: es) (RA X.K g))
 (hbase:attributeBase o "append" X.env (eval o X.env)=eval o X.env:=by rfl)
 (hfew:((backTo cpos (starEach (e :: es) X.env)).all (λx=>!x.1) && (backToKw cpos (keywordEach [] X.env)).all (λx=>x.1.isSome) && decide ((e :: es).length + ([]:List Keyword).length + (if ([]:List Keyword).isEmpty then 0 else 1) < 30))=true:=by rfl)
 (hline:(apos.endLine == cpos.line)=true:=by rfl) (hs:starEach (e :: es) X.env=(false,eval e X.env) :: starEach es X.env:=by rfl) (hplain:(backTo cpos (starEach es X.env)).any (·.1)=false:=by rfl) :
 PE X (.Call (.Attribute o "append" apos) (e :: es) [] cpos) (RE X.K (objM Ct f g)):=
 BC (Ko uc2 PySem.F.slot_list_append PySem.F.type_list_append LF ho ha hbase hfew hline hs hplain) λ_ _ _ q=>RE.objM OU q
def Xb (o i d:D):M Unit:=match o,i with
 | .obj k,.int j=>λt=>match t.S[k]? with
   | some (.lst xs)=>(ixN xs.length j).map λn=>((),{ t with S:=t.S.set k (.lst (xs.set n d)) })
   | _=>none
 | _,_=>fail
def stD (f g:M D)(d:D):M Unit:=bnd f λo=>bnd g λi=>Xb o i d
end
variable {H:Hp}
section
variable {X:Cx}{e a b tg iter elt:Expr}{ifs:List Expr}{pos:Pos}{scope:Scope}{N':List Str}{n:Nat}{fr:List Nat}{f:M (List D)}{st:D->M Unit}{tst:M Bool}{el:M D}
def Ei:M Bool:=ret true
theorem ED:PIf X [] (RT X.K Ei):=λpins s σ H Q I z9=>by
 obtain ⟨Oo,c,t,fi,r,t',eq,k⟩:=z9;exact UW pins s σ H Q I (by cases eq;exact k H c fi .refl)
theorem Ue {g:M Bool}(h:PT X e (RT X.K g)):PIf X [e] (RT X.K g):=UY h
theorem Fr (O:CmpOk X scope N' (FF n fr))(hc:X.calm=true)(hi:PI X tg iter (RI X.K f))
 (hg:∀cl C s2 H2 fp,PG (CF X N' scope cl C s2 H2 fp) tg (RG X.K st)) (ht:∀cl C s2 H2 fp,PIf (CF X N' scope cl C s2 H2 fp) ifs (RT X.K tst)) (he:∀cl C s2 H2 fp,PE (CF X N' scope cl C s2 H2 fp) elt (RE X.K el))
 (hs:∀x,foldedSetIterable iter X.env x=pure x:=by intro _;rfl):PE X (.ListComp elt [⟨tg,iter,ifs,0⟩] scope pos) (RF X.K (Dr n fr f st tst el)):=
 BC (OO O hc hi hg ht he hs) λ_ _ _ q=>RF.comp q
theorem RF.ofPure {f:M (List D)}{σ:L2.St}{Q:VK}(q:RE K (Ba f) σ H Q):RF K f σ H Q:=by
 obtain ⟨Oo,c,t,fi,r,t',eq,k⟩:=q;obtain ⟨ds,t1,e1,eq⟩:=Ao eq
 cases eq
 exact ⟨Oo,c,t,fi,ds,_,e1,λp xs H1 c1 f1 s1 rxs hp=>k _ _ c1 (f1.laid hp) (s1.trans (f1.stp_laid hp)) (.lst Ax (f1.s.free hp) (rxs.mono (Ext.laid f1.s hp)))⟩
theorem Uj {i:Nat}{y:Str}{py spos:Pos}(O:CmpOk X scope N' (FF n fr))(hc:X.calm=true)(hN:X.N.Nodup)(hiN:X.N[i]?=some y)(hx:X.env.scope.names.lookup y=some .local)(hi:PI X tg iter (RI X.K f))
 (hg:∀cl C s2 H2 fp,PG (CF X N' scope cl C s2 H2 fp) tg (RG X.K st)) (ht:∀cl C s2 H2 fp,PIf (CF X N' scope cl C s2 H2 fp) ifs (RT X.K tst)) (he:∀cl C s2 H2 fp,PE (CF X N' scope cl C s2 H2 fp) elt (RE X.K el))
 (hsw:swapsWith (.ListComp elt [⟨tg,iter,ifs,0⟩] scope pos) (some (.Name y py)) spos.line X.env=pure true:=by rfl)
 (hs:∀x,foldedSetIterable iter X.env x=pure x:=by intro _;rfl):PS X (.Assign [.Name y py] (.ListComp elt [⟨tg,iter,ifs,0⟩] scope pos) spos) (RSg X.K μ (A5 i (Ba (Dr n fr f st tst el)))):=
 B0 (U4 O hc hN hiN hx hi hg ht he hsw hs) λE σ H q=>RF.comp (RF.ofPure (RS.set q))
theorem E3 (tgs:List Str)(frn:List (Nat×Str))(hk:scope.kind = .function)(hcell:(scope.names.all λy=>y.2 != .cell)=true)(hloc:(scope.names.all λy=>y.2 != .local || scope.names.lookup y.1 == some .local)=true)
 (hfree:(scope.names.all λy=>y.2 != .free || X.env.kindOf y.1 == some .cell || X.env.kindOf y.1 == some .free)=true)
 (hf:(frn.all λp=>X.N[p.1]? == some p.2 && scope.names.lookup p.2 == some .free)=true):CmpOk X scope (tgs++frn.map (·.2)) (FF tgs.length (frn.map (·.1))):=by
 rw [ui3] at hcell hloc hfree hf;refine ⟨hk,λy hy=>by simpa using hcell y hy,λy hy hl=>?_,λy hy hl=>?_,λσ _=>by simp [FF],λσ j x v h1 h2=>?_⟩
 ·have:=hloc y hy;simpa [hl] using this
 ·have:=hfree y hy;simpa [hl] using this
 ·unfold FF at h2
  by_cases hj:j < tgs.length
  ·rw [ub3 (by simpa using hj),ub9] at h2
   split at h2 <;> simp at h2
  ·rw [ua8 (by simpa using hj),ud4,ug6,ug6] at h2;rw [ua8 (by simpa using hj),ug6] at h1
   cases e:frn[j - tgs.length]? with
   | none=>rw [e] at h1;cases h1
   | some p=>
     rw [e] at h1 h2;simp only [uk0,uh2] at h1 h2;have hp:=hf p (ue2 e);rw [uh8] at hp;refine ⟨p.1,by rw [<-h1];simpa using hp.1,?_,by rw [<-h1];simpa using hp.2⟩
     cases e2:σ[p.1]? with
     | none=>rw [e2] at h2;cases h2
     | some o=>rw [e2] at h2;simpa using h2
end
mutual
noncomputable def Ce:D->Bool
 | .tup xs=>G7 xs
 | .lst xs=>G7 xs
 | .obj _=>false
 | .scr _=>false
 | .exc _ _=>false
 | _=>true
noncomputable def G7:List D->Bool
 | []=>true
 | d :: r=>Ce d && G7 r
end
def c0:Cf:=⟨[],λ_=>False⟩
theorem Hl (a:Addr):¬c0.A a:=λh=>h.elim (λz=>nomatch z) λz=>z
mutual
theorem D5 {K:PySem.W.Frag}{c:Cf}{H:Hp}{v:V}{d:D}(r:Rep K c H v d)(p:Ce d=true):Rep K c0 H v d:=by
 cases r with
 | non=>exact .non
 | bl b=>exact .bl b
 | int i=>exact .int i
 | str x=>exact .str x
 | ty n=>exact .ty n
 | tup h n r=>exact .tup h (Hl _) (Il r (by simpa [Ce] using p))
 | lst h n r=>exact .lst h (Hl _) (Il r (by simpa [Ce] using p))
 | scr h=>simp [Ce] at p
 | dic h n=>exact .dic h (Hl _)
 | obj h=>simp [Ce] at p
 | exc _ _ _ _ _=>simp [Ce] at p
theorem Il {K:PySem.W.Frag}{c:Cf}{H:Hp}{vs:List V}{ds:List D}(r:Reps K c H vs ds)(p:G7 ds=true):Reps K c0 H vs ds:=by
 cases r with
 | nil=>exact .nil
 | cons h t=>
   simp only [G7,uh8] at p;exact .cons (D5 h p.1) (Il t p.2)
end
noncomputable def FW (S:List Ob):D->D
 | .obj k=>match S[k]? with
   | some (.lst ds)=>.lst ds
   | _=>.obj k
 | d=>d
noncomputable def Nd:D->Bool
 | .obj _=>true
 | _=>false
def eqS (g:Bool->Bool)(x y:D):M D:=λt=>
 if (Nd x || Nd y)=true then (if (Ce (FW t.S x) && Ce (FW t.S y))=true then (eqN EQD (FW t.S x) (FW t.S y)).map λb=>(.bl (g b),t) else none)
 else (eqN EQD x y).map λb=>(.bl (g b),t)
theorem NL {c:Cf}{S:List Ob}{v:V}{d:D}(s:SInv K c S H)(r:Rep K c H v d)(p:Ce (FW S d)=true):Rep K c0 H v (FW S d):=by
 cases r with
 | @obj a k hk=>
   unfold FW at p ⊢;dsimp only at p ⊢
   split
   ·next ds e=>
    rw [e] at p;obtain ⟨vs,h1,h2⟩:=s.obs k a _ hk e;exact .lst h1 (Hl _) (Il h2 (by simpa [Ce] using p))
   ·next h=>
    split at p
    ·next ds e=>exact absurd e (h ds)
    ·simp [Ce] at p
 | non=>exact .non
 | bl b=>exact .bl b
 | int b=>exact .int b
 | str b=>exact .str b
 | ty b=>exact .ty b
 | tup h n q=>exact D5 (.tup h n q) p
 | lst h n q=>exact D5 (.lst h n q) p
 | scr h=>exact D5 (c:=c) (.scr h) p
 | dic h n=>exact D5 (.dic h n) p
 | exc a b n f q=>exact D5 (.exc a b n f q) p
theorem Be {g:Bool->Bool}:BY K (PF K g) (eqS g):=λ{Oo c t σ H x y dx dy r t' Q} f rx ry eq k=>by
 unfold eqS at eq
 split at eq
 ·split at eq
  ·next hp=>
   rw [uh8] at hp;obtain ⟨b,e1,e2⟩:=uc9.mp eq
   cases e2
   exact ⟨c0,_,_,b,NL f.s rx hp.1,NL f.s ry hp.2,e1,k _ H c f .refl (.bl (g b))⟩
  ·cases eq
 ·obtain ⟨b,e1,e2⟩:=uc9.mp eq
  cases e2
  exact ⟨c,dx,dy,b,rx,ry,e1,k _ H c f .refl (.bl (g b))⟩
theorem QK {a:Addr}{ns:List Int}{f:Fn}{S':List Ob}(hO:O3 H)(hS:SqL K H a (ns.map V.int))(e:f [.scr ns] []=some (.bl true,S')):spF K f [.ref a] H (λv _=>v = .bl true) λ_ _ _=>False:=by
 refine ⟨c0,[.scr ns],[],⟨rfl,List.Pairwise.nil,λk a o h=>by simp [c0] at h,λb z=>z.elim,λb z=>z.elim⟩,.cons (.scr ?_) .nil,.bl true,S',e,λv H' c' _ _ _ rv=>by cases rv;rfl⟩;rcases hS with (h | h) | h
 ·rcases hO a with z | ⟨o,xs,z⟩
  ·rw [z] at h;cases h
  ·rw [z] at h;cases h
 ·exact .inl ⟨h,Hl _⟩
 ·exact .inr h
end F2
namespace L2
open PySem PySem.Spec PyProof.Rows
section
variable {prog:Program}{w:World}{A:Around}{E:Value->Shared->Prop}{s:Shared}
theorem JL {it l:Addr}{items:Array Value}(hne:l≠it):∀(n i:Nat) (s:Shared) (Q:List Value->Shared->Prop),s.heap.IsListIter it l i->s.heap.IsList l items->i + n<=items.size->
 (∀h',h'.IsListIter it l (i + n)->Heap.SameBut it s.heap h'->Q ((items.toList.drop i).take n) { s with heap:=h' })->wpAny (model prog w) A (draw (.ref it) n) Q E s
 | 0,i,s,Q,hit,_,_,hQ=>uo1 (by simpa using hQ s.heap hit (Heap.SameBut.refl ..))
 | n + 1,i,s,Q,hit,ht,hle,hQ=>by
   have hlt:i < items.size:=by lia
   refine uo0 (wpAny_pyNext_list_item hit ht (x:=items[i]) (by simp [hlt]) λh1 hit1 hs1=>?_);refine uo0 (um2 (JL hne n (i + 1) _ _ hit1 (ht.extBut hs1.extBut hne) (by lia) λh2 hit2 hs2=>uo1 ?_));have hd:items.toList.drop i=items[i] :: items.toList.drop (i + 1):=by simp [ub4,hlt]
   have:=hQ h2 (by rw [show i + (n + 1)=i + 1 + n by lia];exact hit2) (hs1.trans hs2);rw [hd,uf0] at this;exact this
theorem N2 {l:Addr}{items:Array Value}{targets:List (Bool×(Value->Sem Unit))}{Q:Unit->Shared->Prop}(hh:A.handled=none)(ht:s.heap.IsList l items)(hn:targets.length=items.size)(hstar:targets.findIdx? (·.1)=none)
 (h:∀h',Heap.ExtBut s.heap.objs.size s.heap h'->wpAny (model prog w) A (assignInOrder (targets.map (·.2)) items.toList) Q E { s with heap:=h' }):wpAny (model prog w) A (unpack (.ref l) targets) Q E s:=by
 have hlt:l≠s.heap.objs.size:=by obtain ⟨o,ho,_⟩:=ht;exact um4 (um3 ho)
 unfold unpack;rw [hn,hstar];refine uo0 (um2 ?_);unfold unpackItems;refine uo0 ?_;unfold notIterableAtAll;refine uo0 (wpAny_specialOf ht.typeIs PySem.F.slot_list_iter.lookup ?_);refine uo1 ?_;simp only [uf8,if_false];refine uo0 (um2 (wpAny_pyIter_list ht ?_));have hp:Heap.IsList (s.heap.push { cls:=.type "list_iterator",data:=.fields #[.ref l,.int 0 0] }) l items:=by
  obtain ⟨o,ho,r⟩:=ht;exact ⟨o,uc5 _ ho,r⟩
 refine uo0 (um2 (JL hlt items.size 0 _ _ ⟨_,ue6 _ rfl,rfl,rfl⟩ hp (by lia) λh1 hit1 hs1=>?_));have hall:List.take items.size (List.drop 0 items.toList)=items.toList:=by
  rw [ul1];exact ud0 (by simp)
 rw [hall];rw [if_neg (by simp)];have ht1:Heap.IsList h1 l items:=hp.extBut hs1.extBut hlt;refine uo0 (um2 (wpAny_pyNext_list_end hh hit1 ht1 (by simp) λh2 he2=>?_));simp only [Option.isSome_none,uf8,if_false];exact uo1 (h h2 λb o hb e=>he2 b o hb (hs1.extBut b o hb (uc5 _ e)))
end
section
variable {X:Cx}{pos:Pos}
def gUn (K:PySem.W.Frag)(n:Nat)(t:TGs):TG:=λv σ H Q=>∃a xs,v = .ref a/\(SqT K H a xs\/SqL K H a xs)/\xs.length=n/\t xs σ H Q
theorem XT {es:List Expr}{k:Nat}{t:TGs}{n:Nat}(hc:X.calm=true)(h:PGs X es t)
 (hn:(assignEach es X.env).length=n:=by rfl) (hst:(assignEach es X.env).findIdx? (·.1)=none:=by rfl):PG X (.Tuple es k pos) (gUn X.K n t):=by
 intro pins s σ H v u Q I r hw;obtain ⟨a,xs,e1,hq | hq,hl,hw⟩:=hw
 ·exact WH hc h hn hst pins s σ H v u Q I r ⟨a,xs,e1,hq,hl,hw⟩
 ·subst e1
  cases r
  obtain ⟨its,rv,ht,hz⟩:=I.list hq;rw [assign_Tuple];refine uo0 (wpAny_standAt (N2 (I.ok.hd hc) ht.isList (by simp [hn,<-hl,rv.length]) hst λh' hx=>?_));have I1:Inv X pins σ H { s with heap:=h' }:=I.kept (t':=s.toks) λb o e=>hx b o (um4 (um3 e)) e;exact h pins _ σ H xs _ Q I1 (by simpa using rv) hw
end
section
open HT
variable {prog:Program}{w:World}{A:Around}{E:Value->Shared->Prop}{s:Shared}
theorem Hi {t sl:Addr}{items:Array Value}{vl vu:Value}{lo hi:Option Int}{Q:Value->Shared->Prop}(ht:IsTup s.heap t items)(hs:s.heap.IsSliceOf sl vl vu .none)(pl:IsPart vl lo)(pu:IsPart vu hi)
 (hw:sIx items.size 0 lo=0/\sIx items.size items.size hi=items.size) (h:Q (.ref t) s):wpAny (model prog w) A (getItem (.ref t) (.ref sl)) Q E s:=by
 obtain ⟨os,hos,hcs,hds⟩:=id hs;have hTs:s.TypeIs (.ref sl) "slice":=⟨os,hos,hcs⟩;unfold getItem
 try with_reducible refine um2 ?_
 first | refine uo0 (uo1 ?_) | skip
 refine uo0 (wpAny_sequenceKey ht.typeIs (by decide) ?_);refine uo0 (wpAny_callSpecial?_slot (name:=Str.ofString "__getitem__") ht.typeIs ua1
  (wpAny_call_entry ua1 ht.typeIs entry_tuple_getitem ?_ (args_tuple_getitem _ _)))
 show wpAny _ _ (Builtin.Tuple.tupleItemsOf (.ref t) >>= _) _ _ s;refine uo0 (tupleItemsOf_ ht ?_);refine uo0 (wpAny_typeOf hTs ?_);rw [if_pos (by decide)];refine uo0 (FY hs pl pu ?_);have hyes:(((sIx items.size 0 lo:Nat):Int) == 0 && (1:Int) == 1 && (sIx items.size items.size hi - sIx items.size 0 lo) == items.size)=true:=by
  rw [hw.1,hw.2];simp
 show wpAny _ _ (if (((sIx items.size 0 lo:Nat):Int) == 0 && (1:Int) == 1 && (sIx items.size items.size hi - sIx items.size 0 lo) == items.size)=true then _ else _) _ _ s;rw [if_pos hyes];refine uo0 (m:=Builtin.Tuple.tupleIsExact _) ?_;unfold Builtin.Tuple.tupleIsExact;refine uo0 (wpAny_typeOf ht.typeIs (uo1 ?_));rw [if_pos (by decide)]
 first
  | exact uo0 (wpAny_rule (uo1 ⟨_,rfl,uo1 h⟩))
  | exact uo0 (wpAny_rule (uo0 (uo1 (uo1 ⟨_,rfl,uo1 h⟩))))
end
section
variable {X:Cx}
def W0 (K:PySem.W.Frag):V->Option Int->Option Int->Hp->VK->Prop:=λx lo hi H Q=>∃a xs,x = .ref a/\SqT K H a xs/\(HT.sIx xs.length 0 lo=0/\HT.sIx xs.length xs.length hi=xs.length)/\Q (.ref a) H
theorem Vo:SlR X (W0 X.K):=by
 intro pins s σ H x v vl vu lo hi sl Q I rx hs pl pu h;obtain ⟨a,xs,rfl,hx,hw,q⟩:=h
 cases rx
 obtain ⟨its,r,ht,hz⟩:=I.tuple hx;have hlen:its.toArray.size=xs.length:=by rw [ug3];exact r.length.symm
 exact ⟨"tuple",_,ua1.lookup,ht.typeIs,Hi ht hs pl pu (by rw [hlen];exact hw) ⟨.ref a,H,I,rfl,q⟩⟩
end
noncomputable def Its (z:Str):It:=⟨λi _=>i < z.cps.size,λi H x H'=>H'=H/\∃c,z.cps[i]?=some c/\x = .str ⟨#[c]⟩,λi _=>i=z.cps.size⟩
theorem N1 {P:Program}{w:World}{K:PySem.W.Frag}{tg:Expr}{T:String}{x:Str}{t:Tok}(it:Addr)(hT:["enumerate", "zip", "dict_itemiterator", "dict_reverseitemiterator", "odict_iterator", "itertools.zip_longest", "itertools.pairwise"].contains T=false)
 (W:∀A:Around,A.handled=none->Walks P w A it [it] [it] x.cps.size (SignAt x) (λi h=>h.IsStrIter it T x t i))
 (self:∀(A:Around) (i:Nat) (s:Shared) (Q:Value->Shared->Prop) (E:Value->Shared->Prop),s.heap.IsStrIter it T x t i->Q (.ref it) s->wpAny (model P w) A (pyIter (.ref it)) Q E s) :
 Turn P w K tg (Its x) [it] it (λi h=>h.IsStrIter it T x t i) where
 mem:=by simp
 obj:=λi h st b hb=>by
  have e:b=it:=by simpa using hb
  subst e;obtain ⟨o,e,c,d⟩:=st;exact ⟨o,e,λv z=>by rw [d] at z;cases z⟩
 keep:=λi h h' st k=>by
  obtain ⟨o,e,r⟩:=st;exact ⟨o,k it (by simp) o e,r⟩
 item:=by
  intro X hP hw hK hc i pins s σ H E I hf st hg;subst hP hw hK;obtain ⟨f0,f1,f2,f3,f4,f5⟩:=hf it (by simp);refine (W X.A (I.ok.hd hc)).item i s _ _ hg st λv h' tk hv st' kk=>?_;obtain ⟨c,u,hcc,rfl⟩:=hv;have I1:Inv X pins σ H { s with heap:=h',toks:=tk }:=I.turned (λb o hb e=>kk b o (by simpa using hb) e) f0 f1 f3 f4 f5;obtain ⟨o,e,ec,ed⟩:=id st';exact ⟨_,rfl,Mp (s:={ s with heap:=h',toks:=tk }) e ec ed hT ⟨.str ⟨#[c]⟩,H,I1,⟨u,rfl⟩,⟨rfl,c,hcc,rfl⟩,st',λb hb=>(hf b hb).1⟩⟩
 done:=by
  intro X hP hw hK hc i pins s σ H E I hf st hg;subst hP hw hK;obtain ⟨f0,f1,f2,f3,f4,f5⟩:=hf it (by simp);have hg':i=x.cps.size:=hg;subst hg';exact (W X.A (I.ok.hd hc)).done s _ _ st λh' tk kk=>⟨rfl,I.turned (λb o hb e=>kk b o (by simpa using hb) e) f0 f1 f3 f4 f5⟩
 self:=λA i s Q E st h=>self A i s Q E st h
section
variable {X:Cx}{tg:Expr}{pos:Pos}
def Zc (K:PySem.W.Frag)(tl:TE):TI:=λσ H R=>tl σ H λx H1=>(∃a,x = .ref a/\(∃xs,SqL K H1 a xs)/\R (Itl K a) H1)\/(∃a,x = .ref a/\(∃xs,SqT K H1 a xs)/\R (Itt K a) H1)\/∃z,x = .str z/\R (Its z) H1
theorem QW {l:Expr}{tl:TE}(hl:PE X l tl):PI X tg l (Zc X.K tl):=by
 intro pins s σ H R I h;refine thn (hl pins s σ H _ I h) λv s1 z9=>?_;obtain ⟨x,H1,I1,r1,q1⟩:=z9;have fp:∀b∈[s1.heap.objs.size],FpOk X pins H1 b:=λb hb=>by
  have e:b=s1.heap.objs.size:=by simpa using hb
  subst e;exact I1.fpOk (un6 _) (I1.hok.fresh (un6 _))
 rcases q1 with ⟨a,rfl,⟨xs,hq⟩,q⟩ | ⟨a,rfl,⟨xs,hq⟩,q⟩ | ⟨z,rfl,q⟩
 ·cases r1
  obtain ⟨its,rv,p,hz⟩:=I1.list hq;refine wpAny_pyIter_list p.isList ?_;exact ⟨s1.heap.objs.size,[s1.heap.objs.size],_,_,H1,rfl,I1.kept (t':=s1.toks) λb o e=>uc5 _ e,Rp a _,⟨_,ue6 _ rfl,rfl,rfl⟩,fp,q⟩
 ·cases r1
  obtain ⟨its,rv,p,hz⟩:=I1.tuple hq;refine wpAny_pyIter_tuple (show s1.heap.IsTuple a its.toArray from p) ?_;exact ⟨s1.heap.objs.size,[s1.heap.objs.size],_,_,H1,rfl,I1.kept (t':=s1.toks) λb o e=>uc5 _ e,PU a _,⟨_,ue6 _ rfl,rfl,rfl⟩,fp,q⟩
 ·obtain ⟨t,rfl⟩:=r1
  cases ha:z.cps.all (· < 128)
  ·refine wpAny_pyIter_wide ha ?_;exact ⟨s1.heap.objs.size,[s1.heap.objs.size],_,_,H1,rfl,I1.kept (t':=s1.toks) λb o e=>uc5 _ e,N1 (T:="str_iterator") (x:=z) (t:=t) _ (by decide) (λA hA=>Walks.strWide hA _ z t) (λ_ _ _ _ _ st h=>wpAny_pyIter_striter_wide st h),⟨_,ue6 _ rfl,rfl,rfl⟩,fp,q⟩
  ·refine wpAny_pyIter_ascii ha ?_;exact ⟨s1.heap.objs.size,[s1.heap.objs.size],_,_,H1,rfl,I1.kept (t':=s1.toks) λb o e=>uc5 _ e,N1 (T:="str_ascii_iterator") (x:=z) (t:=t) _ (by decide) (λA hA=>Walks.strAscii hA _ z t) (λ_ _ _ _ _ st h=>wpAny_pyIter_striter_ascii st h),⟨_,ue6 _ rfl,rfl,rfl⟩,fp,q⟩
def TJ:R2:=λx y H Q=>∃z k,x = .str z/\y = .int k/\MulOk z k/\Q (.str (Txt.mul z k)) H
theorem UL:OpR X (binaryOp .Mult) TJ:=by
 intro pins s σ H x y v u Q I rx ry h;obtain ⟨z,k,rfl,rfl,hk,q⟩:=h;obtain ⟨t,rfl⟩:=rx;obtain ⟨t',rfl⟩:=ry;exact SB.mul hk λt2 tk=>⟨.str _,H,I.tok tk,⟨t2,rfl⟩,q⟩
def WY:V->Option Int->Option Int->Hp->VK->Prop:=λx lo hi H Q=>∃z,x = .str z/\z.length<=sizeLine/\Q (.str (Txt.slice z lo hi)) H
theorem sl_str:SlR X WY:=by
 intro pins s σ H x v vl vu lo hi sl Q I rx hs pl pu h;obtain ⟨z,rfl,hz,q⟩:=h;obtain ⟨t,rfl⟩:=rx;refine ⟨"str",_,PySem.F.slot_str_getitem.lookup,typeIs_str _ _ _,?_⟩;have part:∀{v:Value} {o:Option Int},IsPart v o->∃l:Option (Int×Tok),v=partValue l/\l.map (·.1)=o:=λ{v o} p=>by
  cases p with
  | none=>exact ⟨none,rfl,rfl⟩
  | int i t=>exact ⟨some (i,t),rfl,rfl⟩
 obtain ⟨l,rfl,el⟩:=part pl;obtain ⟨u,rfl,eu⟩:=part pu;refine wpAny_getItem_str_slice (l:=l) (u:=u) (st:=none) (by obtain ⟨o,h1,h2,h3⟩:=hs;exact ⟨o,h1,h2,h3⟩) rfl ?_;unfold sliceMade slicePicked;rw [el,eu];show (if ((1:Int) == 1 && (Builtin.Str.strSliceIndices lo hi 1 z.length).length == z.length)=true then Made.val (.str z t) else Made.str ⟨((Builtin.Str.strSliceIndices lo hi 1 z.length).filterMap (z.cps[·]?)).toArray⟩).post _ s;have hle:=Txt.slice_le z lo hi;unfold Txt.slice at q hle
 by_cases hc:((1:Int) == 1 && (Builtin.Str.strSliceIndices lo hi 1 z.length).length == z.length)=true
 ·rw [if_pos hc] at q ⊢;exact ⟨.str z,H,I,⟨t,rfl⟩,q⟩
 ·rw [if_neg hc] at q hle ⊢;exact ⟨um5 hle hz,.str _,H,I.tok _,⟨_,rfl⟩,q⟩
def G8 (g:Int->Int->Bool)(h:List Nat->List Nat->Bool):R2:=λx y H Q=>(∃i j,x = .int i/\y = .int j/\Q (.bl (g i j)) H)\/∃i j,x = .str i/\y = .str j/\Q (.bl (h i.cps.toList j.cps.toList)) H
theorem Nz:OpR X (compareOp .Lt) (G8 (λi j=>decide (i < j)) λi j=>decide (i < j)):=op_lt.or λpins s σ H x y v u Q I rx ry h=>by
 obtain ⟨i,j,rfl,rfl,q⟩:=h;obtain ⟨t,rfl⟩:=rx;obtain ⟨t',rfl⟩:=ry;exact P.lt_str ⟨.bl _,H,I,rfl,q⟩
theorem Km:OpR X (compareOp .LtE) (G8 (λi j=>decide (i<=j)) λi j=>!(decide (j < i))):=op_le.or λpins s σ H x y v u Q I rx ry h=>by
 obtain ⟨i,j,rfl,rfl,q⟩:=h;obtain ⟨t,rfl⟩:=rx;obtain ⟨t',rfl⟩:=ry;exact P.le_str ⟨.bl _,H,I,rfl,q⟩
theorem FS:OpR X (compareOp .Gt) (G8 (λi j=>decide (j < i)) λi j=>decide (j < i)):=op_gt.or λpins s σ H x y v u Q I rx ry h=>by
 obtain ⟨i,j,rfl,rfl,q⟩:=h;obtain ⟨t,rfl⟩:=rx;obtain ⟨t',rfl⟩:=ry;exact P.gt_str ⟨.bl _,H,I,rfl,q⟩
theorem Ny:OpR X (compareOp .GtE) (G8 (λi j=>decide (j<=i)) λi j=>!(decide (i < j))):=op_ge.or λpins s σ H x y v u Q I rx ry h=>by
 obtain ⟨i,j,rfl,rfl,q⟩:=h;obtain ⟨t,rfl⟩:=rx;obtain ⟨t',rfl⟩:=ry;exact P.ge_str ⟨.bl _,H,I,rfl,q⟩
end
end L2
namespace F2
open PySem L2 PySem.Spec
def D2:D->M (List D)
 | .lst ds=>ret ds
 | .scr ns=>ret (ns.map .int)
 | .tup ds=>ret ds
 | .str x=>ret (x.cps.toList.map λc=>.str ⟨#[c]⟩)
 | _=>fail
def Fb (f:M D):M (List D):=bnd f D2
def EJ:D->D->M D
 | .str x,.int k=>λt=>if CD k=true/\x.length * k.toNat<=LIM/\k<=LIM/\x.length<=LIM then some (.str (Txt.mul x k),t) else none
 | x,y=>IX x y
def Eh:D->Option Int->Option Int->M D
 | .str x,lo,hi=>lim x.length (.str (Txt.slice x lo hi))
 | .tup ds,lo,hi=>ret (.tup (Cu ds lo hi))
 | x,lo,hi=>slD x lo hi
def MT (g:Int->Int->Bool)(h:List Nat->List Nat->Bool):D->D->M D
 | .int i,.int j=>ret (.bl (g i j))
 | .str x,.str y=>ret (.bl (h x.cps.toList y.cps.toList))
 | _,_=>fail
def ltA:=MT (λi j=>decide (i < j)) (λi j=>decide (i < j))
def leA:=MT (λi j=>decide (i<=j)) (λi j=>!(decide (j < i)))
def gtA:=MT (λi j=>decide (j < i)) (λi j=>decide (j < i))
def geA:=MT (λi j=>decide (j<=i)) (λi j=>!(decide (i < j)))
def unS (n:Nat)(g:List D->M Unit):D->M Unit
 | .tup ds=>if ds.length=n then g ds else fail
 | .lst ds=>if ds.length=n then g ds else fail
 | _=>fail
def Y5:M D:=fC .dic
variable {K:PySem.W.Frag}{n:Nat}{g:List D->M Unit}{es:List Expr}
section
variable {X:Cx}{e a b:Expr}{pos:Pos}{st:Stmt}
theorem ItOk.str {K:PySem.W.Frag}{c:Cf}{H:Hp}{x:Str}:ItOk K (Its x) c H (x.cps.toList.map λc=>.str ⟨#[c]⟩):=by
 refine ⟨λc' H' i ex hi=>?_,λc' H' i y H'' d ex hd hy=>?_,λc' H' ex=>?_⟩
 ·show i < x.cps.size;simpa using hi
 ·obtain ⟨rfl,n,hn,rfl⟩:=hy;refine ⟨rfl,?_⟩;have:d = .str ⟨#[n]⟩:=by
   rw [ug6] at hd;have hn':x.cps.toList[i]?=some n:=by simpa using hn
   rw [hn'] at hd;simpa using hd.symm
  rw [this];exact .str _
 ·show _=x.cps.size;simp
theorem E7 {tg:Expr}{f:M D}(h:PE X e (RE X.K f)):PI X tg e (RI X.K (Fb f)):=
 Jx (QW h) λσ H R z9=>by
  obtain ⟨Oo,c,t,fi,ds,t',eq,k⟩:=z9;obtain ⟨d,t1,e1,eq⟩:=Ao eq;refine ⟨Oo,c,t,fi,d,t1,e1,λv H1 c1 f1 s1 rv=>?_⟩
  cases rv with
  | @lst p vs ds' h1 h2 h3=>
    cases eq
    exact .inl ⟨p,rfl,⟨vs,SqL.of h1⟩,k _ H1 c1 f1 s1 (ItOk.lst λc' H' ex=>⟨vs,SqL.of (ex.keep _ _ h1 h2),h3.mono ex⟩)⟩
  | @scr p ns h1=>
    cases eq
    exact .inl ⟨p,rfl,⟨_,h1.sq⟩,k _ H1 c1 f1 s1 (ItOk.lst λc' H' ex=>⟨_,(h1.mono ex).sq,Reps.ints ns⟩)⟩
  | @tup p vs ds' h1 h2 h3=>
    cases eq
    exact .inr (.inl ⟨p,rfl,⟨vs,SqT.of h1⟩,k _ H1 c1 f1 s1 (ItOk.tup λc' H' ex=>⟨vs,SqT.of (ex.keep _ _ h1 h2),h3.mono ex⟩)⟩)
  | str x=>
    cases eq
    exact .inr (.inr ⟨x,rfl,k _ H1 c1 f1 s1 ItOk.str⟩)
  | _=>cases eq
theorem RG.un {v:V}{σ:L2.St}{H:Hp}{Q:L2.St->Hp->Prop}(q:RG K (unS n g) v σ H Q):gUn K n (RGs K g) v σ H Q:=by
 obtain ⟨Oo,c,t,d,fi,rv,t',eq,k⟩:=q
 cases rv with
 | @tup a vs ds h1 h2 h3=>
   unfold unS at eq
   by_cases hn:ds.length=n
   ·dsimp only at eq;rw [if_pos hn] at eq;exact ⟨a,vs,rfl,.inl (SqT.of h1),by rw [h3.length];exact hn,Oo,c,t,ds,fi,h3,t',eq,k⟩
   ·dsimp only at eq;rw [if_neg hn] at eq;cases eq
 | @lst a vs ds h1 h2 h3=>
   unfold unS at eq
   by_cases hn:ds.length=n
   ·dsimp only at eq;rw [if_pos hn] at eq;exact ⟨a,vs,rfl,.inr (SqL.of h1),by rw [h3.length];exact hn,Oo,c,t,ds,fi,h3,t',eq,k⟩
   ·dsimp only at eq;rw [if_neg hn] at eq;cases eq
 | _=>cases eq
theorem Mn {k:Nat}(hc:X.calm=true)(h:PGs X es (RGs X.K g))(hn:(assignEach es X.env).length=n:=by rfl)(hst:(assignEach es X.env).findIdx? (·.1)=none:=by rfl):PG X (.Tuple es k pos) (RG X.K (unS n g)):=
 Mx (XT hc h hn hst) λ_ _ _ _ q=>RG.un q
theorem C7 {f:D->M Unit}(h1:PG X e (RG X.K f))(h2:PGs X es (RGs X.K g))(hs:(assignEach (e :: es) X.env).map (·.2)=assign e X.env :: (assignEach es X.env).map (·.2):=by rfl):PGs X (e :: es) (RGs X.K (Cp f g)):=
 Ou (Sz h1 h2 hs) λ_ _ _ _ q=>RGs.cons q
end
section
variable {K:PySem.W.Frag}
def TH (K:PySem.W.Frag):R2:=λx y H Q=>PJ K x y H Q\/TJ x y H Q
theorem Fv {X:Cx}:OpR X (binaryOp .Mult) (TH X.K):=op_mul3.or UL
theorem N9 {x:Str}{k:Int}(h:CD k=true/\x.length * k.toNat<=LIM/\k<=LIM/\x.length<=LIM):MulOk x k:=by
 obtain ⟨g1,g2⟩:=Eo h.1;have hL:LIM=100000:=rfl;refine ⟨?_,λh1 _=>?_,λh1 _=>?_⟩
 ·rw [Bool.or_eq_false_iff];exact ⟨uk7 (by lia),uk7 (by lia)⟩
 ·have h2:k<=100000:=by have:=h.2.2.1;rw [hL] at this;exact this
  have h3:x.length<=100000:=by have:=h.2.2.2;rw [hL] at this;exact this
  have h4:(92233720368547:Int)<=(2 ^ 63 - 1) / k:=by
   rw [Int.le_ediv_iff_mul_le (by lia)];lia
  lia
 ·have h5:=h.2.1;rw [hL] at h5;unfold Builtin.Str.tooLong
  first | exact uk7 (by unfold sizeLine;lia) | (unfold sizeLine;exact uk7 (by lia))
theorem EO:BY K (TH K) EJ:=λ{Oo c t σ H x y dx dy r t' Q} f rx ry eq k=>by
 unfold EJ at eq
 split at eq
 ·next z kk=>
  split at eq
  ·next h=>
   cases eq
   cases rx
   cases ry
   exact .inr ⟨z,kk,rfl,rfl,N9 h,k _ H c f .refl (.str _)⟩
  ·cases eq
 ·exact .inl (Vh f rx ry eq k)
def SL (K:PySem.W.Frag):V->Option Int->Option Int->Hp->VK->Prop:=λx lo hi H Q=>SK K x lo hi H Q\/(WY x lo hi H Q\/W0 K x lo hi H Q)
theorem sl3 {X:Cx}:SlR X (SL X.K):=sl2.or (sl_str.or Vo)
theorem Pf {α:Type}{xs:List α}{lo hi:Option Int}(h:HT.sIx xs.length 0 lo=0/\HT.sIx xs.length xs.length hi=xs.length):Cu xs lo hi=xs:=by
 unfold Cu;rw [h.1,h.2];simp
theorem Fz:O5 K (SL K) Eh:=λ{Oo c t σ H x dx r lo hi t' Q} f rx eq k=>by
 unfold Eh at eq
 split at eq
 ·next z=>
  obtain ⟨h,e⟩:=Eg eq
  cases e
  cases rx
  exact .inr (.inl ⟨z,rfl,um5 h CH,k _ H c f .refl (.str _)⟩)
 ·next ds=>
  cases eq
  cases rx with
  | @tup p vs ds h1 h2 h3=>
    by_cases hw:HT.sIx ds.length 0 lo=0/\HT.sIx ds.length ds.length hi=ds.length
    ·rw [Pf hw] at k;exact .inr (.inr ⟨p,vs,rfl,SqT.of h1,by rw [h3.length];exact hw,k _ H c f .refl (.tup h1 h2 h3)⟩)
    ·exact .inl (.inr ⟨p,vs,rfl,SqT.of h1,by rw [h3.length];exact hw,λq hq=>k _ _ c (f.laid hq) (f.stp_laid hq) (.tup Ax (f.s.free hq) ((G9 h3 lo hi).mono (Ext.laid f.s hq)))⟩)
 ·exact .inl (W8 f rx eq k)
theorem Ip {g:Int->Int->Bool}{h:List Nat->List Nat->Bool}:BY K (G8 g h) (MT g h):=λ{Oo c t σ H x y dx dy r t' Q} f rx ry eq k=>by
 cases rx with
 | int i=>cases ry with
   | int j=>cases eq;exact .inl ⟨i,j,rfl,rfl,k _ H c f .refl (.bl _)⟩
   | _=>cases eq
 | str i=>cases ry with
   | str j=>cases eq;exact .inr ⟨i,j,rfl,rfl,k _ H c f .refl (.bl _)⟩
   | _=>cases eq
 | _=>cases eq
theorem Ll:BY K (G8 (λi j=>decide (i < j)) λi j=>decide (i < j)) ltA:=Ip
theorem Iq:BY K (G8 (λi j=>decide (i<=j)) λi j=>!(decide (j < i))) leA:=Ip
theorem EM:BY K (G8 (λi j=>decide (j < i)) λi j=>decide (j < i)) gtA:=Ip
theorem Lk:BY K (G8 (λi j=>decide (j<=i)) λi j=>!(decide (i < j))) geA:=Ip
end
theorem B1 {P:Program}{w:World}{mg:Str->Option Value}{base:Heap}{x qual:Str}{st:Stmt}{fa:Addr}{fd:FuncData}{N ps:List Str}{k m:Nat}{g:M Out}(e1:ps.length=n)(e2:N.length=m)(F:Fun K x qual st fa fd)(S:FnScope N ps (Ap st))
 (hb:∀(cdv:Value) (A:Around) (outer:List Env) (s:Shared) (H:Hp) (E:XK),Room k (A.deeper (PyProof.Rows.envOfC qual (Ap st) s.heap.objs.size fa cdv))->
   PSs (DM CX0 P w K mg base N qual (Ap st) fa cdv A outer s H E).nox (B5 st) (RS K g)):FnOk P w K mg base CX0 (k + 1) fa fd ps (spF K (fnOf n m g)):=by
 subst e1 e2;exact XI F S hb
theorem B2 {P:Program}{w:World}{mg:Str->Option Value}{base:Heap}{fa:Addr}{fd:FuncData}{ps:List Str}{k:Nat}{f g:Fn}(e:f=g)(h:FnOk P w K mg base CX0 k fa fd ps (spF K g)):FnOk P w K mg base CX0 k fa fd ps (spF K f):=by rw [e];exact h
theorem B9:bootBuiltins "len" = some (.builtin "len"):=by decide +kernel
theorem BK:bootBuiltins "isinstance" = some (.builtin "isinstance"):=by decide +kernel
theorem Qa:bootBuiltins "ord" = some (.builtin "ord"):=by decide +kernel
theorem JB:bootBuiltins "min" = some (.builtin "min"):=by decide +kernel
theorem VT:bootBuiltins "max" = some (.builtin "max"):=by decide +kernel
theorem P9:bootBuiltins "int" = some (.type "int"):=by decide +kernel
theorem Qb:bootBuiltins "str" = some (.type "str"):=by decide +kernel
theorem Oy:bootBuiltins "bool" = some (.type "bool"):=by decide +kernel
theorem Fo:bootBuiltins "list" = some (.type "list"):=by decide +kernel
theorem FC:bootBuiltins "tuple" = some (.type "tuple"):=by decide +kernel
noncomputable def Cb:Expr->Bool
 | .Starred _ _=>true
 | _=>false
theorem B7 {e:Expr}{env:Env}(h:Cb e=false):starEach (e :: es) env=(false,eval e env) :: starEach es env:=by
 cases e <;> first | rfl | cases h
def Cd (es:List Expr):Bool:=es.all λe=>!Cb e
theorem BU:∀{es:List Expr} {env:Env} {p:Pos},Cd es=true->(backTo p (starEach es env)).any (·.1)=false/\(backTo p (starEach es env)).all (λx=>!x.1)=true
 | [],env,p,_=>⟨rfl,rfl⟩
 | e :: es,env,p,h=>by
   have h':Cb e=false/\Cd es=true:=by
    rw [Cd,ul6,uh8] at h;exact ⟨by simpa using h.1,h.2⟩
   obtain ⟨h1,h2⟩:=BU (es:=es) (env:=env) (p:=p) h'.2;rw [B7 h'.1];refine ⟨?_,?_⟩
   ·show (false || (backTo p (starEach es env)).any (·.1))=false;rw [h1];rfl
   ·show (!false && (backTo p (starEach es env)).all (λx=>!x.1))=true;rw [h2];rfl
section
variable {X:Cx}{e a b:Expr}{es:List Expr}{pos:Pos}
theorem Aa {f:M D}{g:M (List D)}(ha:PE X e (RE X.K f))(hr:PA X es (RA X.K g))(hs:Cb e=false:=by rfl):PA X (e :: es) (RA X.K (Ac f g)):=Ub ha hr (B7 hs)
theorem As {k:Nat}{fa:Addr}{fd:FuncData}{ps:List Str}{g:Fn}{f:M (List D)}{x:Str}{p:Pos}(F:FnOk X.prog X.w X.K X.mg X.base CX0 k fa fd ps (spF X.K g))(hr:Room k X.A)(hg:Gl X x)(hm:X.mg x=some (.ref fa))(hk:PySem.W.keepIn X.K (.ref fa)=true)(hb:Binds X.K fd ps [])
 (ha:PA X (e :: es) (RA X.K f)) (hdb:(x == ("__debug__" : Str))=false:=by decide) (h1:Cb e=false:=by rfl) (h2:Cd es=true:=by rfl) :
 PE X (.Call (.Name x p) (e :: es) [] pos) (RE X.K (Au g f)):=Uc F hr hg hm hk hb ha hdb (B7 h1) (BU h2).1
theorem By {id:String}{R:List V->Hp->VK->Prop}{h:List D->M D}{f:M (List D)}{x:Str}{p:Pos}(hc:CW X (.builtin id) R)(s:Es X.K R h)(hg:Gl X x)(hm:X.mg x=none)(hv:bootBuiltins x=some (.builtin id))(ha:PA X (e :: es) (RA X.K f))(hn:x≠"__name__":=by decide)(hdb:(x == ("__debug__" : Str))=false:=by decide)
 (h1:Cb e=false:=by rfl) (h2:Cd es=true:=by rfl):PE X (.Call (.Name x p) (e :: es) [] pos) (RE X.K (fB f h)):=Y6 hc s hg hm hv ha hn hdb (B7 h1) (BU h2).1
theorem Tq {id:String}{R:List V->Hp->VK->Prop}{h:List D->M D}{f:M (List D)}{x:Str}{p:Pos}(hc:CW X (.type id) R)(s:Es X.K R h)(hg:Gl X x)(hm:X.mg x=none)(hv:bootBuiltins x=some (.type id))(ha:PA X (e :: es) (RA X.K f))(hn:x≠"__name__":=by decide)(hdb:(x == ("__debug__" : Str))=false:=by decide)
 (h1:Cb e=false:=by rfl) (h2:Cd es=true:=by rfl):PE X (.Call (.Name x p) (e :: es) [] pos) (RE X.K (fB f h)):=Y7 hc s hg hm hv ha hn hdb (B7 h1) (BU h2).1
theorem Tr {id:String}{R:List V->Hp->VK->Prop}{h:List D->M (List D)}{f:M (List D)}{x:Str}{p:Pos}(hc:CW X (.type id) R)(s:Me X.K R h)(hg:Gl X x)(hm:X.mg x=none)(hv:bootBuiltins x=some (.type id))(ha:PA X (e :: es) (RA X.K f))(hn:x≠"__name__":=by decide)(hdb:(x == ("__debug__" : Str))=false:=by decide)
 (h1:Cb e=false:=by rfl) (h2:Cd es=true:=by rfl):PE X (.Call (.Name x p) (e :: es) [] pos) (RF X.K (fBF f h)):=Y8 hc s hg hm hv ha hn hdb (B7 h1) (BU h2).1
theorem Cc {tg:Expr}{f:M (List D)}{p:Pos}(hg:Gl X "range")(hm:X.mg "range" = none)(ha:PA X [a] (RA X.K f))(h1:Cb a=false:=by rfl):PI X tg (.Call (.Name "range" p) [a] [] pos) (RI X.K (Cy f)):=Qs hg hm ha (B7 h1)
theorem JT {tg:Expr}{f:M (List D)}{p:Pos}(hg:Gl X "range")(hm:X.mg "range" = none)(ha:PA X [a,b] (RA X.K f))(h1:Cb a=false:=by rfl)(h2:Cb b=false:=by rfl):PI X tg (.Call (.Name "range" p) [a,b] [] pos) (RI X.K (GO f)):=
 Qt hg hm ha (by rw [B7 h1,B7 h2];rfl) (B7 h2)
theorem Qr {cpos:Pos}(h1:Cb e=false)(h2:Cd es=true)(h3:es.length < 20):((backTo cpos (starEach (e :: es) X.env)).all (λx=>!x.1) && (backToKw cpos (keywordEach [] X.env)).all (λx=>x.1.isSome) && decide ((e :: es).length + ([]:List Keyword).length + (if ([]:List Keyword).isEmpty then 0 else 1) < 30))=true:=by
 rw [(BU (es:=e :: es) (env:=X.env) (p:=cpos) (by rw [Cd,ul6,h1];exact h2)).2];show (true && true && decide (es.length + 1 + 0 + 0 < 30))=true;simp;lia
theorem Dt {μ:Cf->Hp->D->(V->Hp->Prop)->Prop}(i:Nat){x:Str}{g:M (List D)}{px apos cpos:Pos}(ha:PA X (e :: es) (RA X.K g))(hN:X.N[i]?=some x:=by rfl)(hv:Vis X.env.scope x:=by first | exact Or.inl rfl | exact Or.inr (Or.inl rfl) | exact Or.inr (Or.inr rfl))(hd:(x == ("__debug__" : Str))=false:=by decide)
 (hcd:(x == ("__classdict__" : Str))=false:=by decide) (hline:(apos.endLine == cpos.line)=true:=by rfl) (h1:Cb e=false:=by rfl) (h2:Cd es=true:=by rfl) (h3:es.length < 20:=by decide) :
 PS X (.Expr (.Call (.Attribute (.Name x px) "append" apos) (e :: es) [] cpos) pos) (RSg X.K μ (ownM i Ct g)):=Qu i ha hN hv hd hcd rfl (Qr h1 h2 h3) hline (B7 h1) (BU h2).1
theorem Pn {μ:Cf->Hp->D->(V->Hp->Prop)->Prop}(i:Nat){x:Str}{g:M (List D)}{px apos cpos:Pos}(ha:PA X (e :: es) (RA X.K g))(hN:X.N[i]?=some x:=by rfl)(hv:Vis X.env.scope x:=by first | exact Or.inl rfl | exact Or.inr (Or.inl rfl) | exact Or.inr (Or.inr rfl))(hd:(x == ("__debug__" : Str))=false:=by decide)
 (hcd:(x == ("__classdict__" : Str))=false:=by decide) (hline:(apos.endLine == cpos.line)=true:=by rfl) (h1:Cb e=false:=by rfl) (h2:Cd es=true:=by rfl) (h3:es.length < 20:=by decide) :
 PS X (.Expr (.Call (.Attribute (.Name x px) "extend" apos) (e :: es) [] cpos) pos) (RSg X.K μ (ownM i IP g)):=Qv i ha hN hv hd hcd rfl (Qr h1 h2 h3) hline (B7 h1) (BU h2).1
end
end F2
namespace HT
open PySem PySem.Spec L2 PyProof.Rows
section
variable {prog:Program}{w:World}{A:Around}{E:Value->Shared->Prop}{s:Shared}
end
end HT
namespace L2
open PySem PySem.Spec PyProof.Rows
section
variable {X:Cx}{e ek:Expr}{p2 pos:Pos}{te:TE}{tk:TO}
end
section
variable {X:Cx}
theorem Hn:∀{ys:List Str} {us:List Value},Vals (ys.map V.str) us->CarriedAll us (ys.map PyData.str)
 | [],_,r=>by cases r;exact .nil
 | _ :: _,_,r=>by
   cases r with
   | cons r1 r2=>obtain ⟨t,rfl⟩:=r1;exact .cons (.str _ _) (Hn r2)
def TF (K:PySem.W.Frag):V->List V->Hp->VK->Prop:=λx xs H Q=>∃z a ys,x = .str z/\xs=[.ref a]/\SqL K H a (ys.map V.str)/\(∀y∈ys,y.length<=8)/\z.length<=8/\ys.length<=1048576/\Q (.str (Txt.join z ys)) H
theorem Uz:MtR X "str.join" (TF X.K):=by
 intro pins s σ H x xs v us Q I rx rs h;obtain ⟨z,a,ys,rfl,rfl,ha,h1,h2,h3,q⟩:=h;obtain ⟨t,rfl⟩:=rx;obtain ⟨u,rfl,ru⟩:=Fl rs
 cases ru
 obtain ⟨its,r,pl,_⟩:=I.list ha;refine join_madeW (l:=ys) (g:=id) 8 pl.isList (by rw [List.map_id];exact Hn r) h1 h3 (by lia) λt' k=>?_;rw [List.map_id];exact ⟨.str _,H,I.tok _,⟨_,rfl⟩,q⟩
end
section
variable {X:Cx}
end
section
variable {X:Cx}
end
end L2
namespace F2
open PySem L2 PySem.Spec
section
variable {X:Cx}{K:PySem.W.Frag}
noncomputable def FZ:List D->Option (List Str)
 | []=>some []
 | .str x :: r=>if x.length<=8 then (FZ r).map (x :: ·) else none
 | _=>none
def joinM (f:M D)(g:M (List D)):M D:=bnd f λo=>bnd g λas=>match o,as with
 | .str z,[.lst ds]=>λt=>match FZ ds with
   | some ys=>if z.length<=8/\ys.length<=1048576 then some (.str (Txt.join z ys),t) else none
   | none=>none
 | _,_=>fail
theorem NX {c:Cf}{H:Hp}:∀{ds:List D} {vs:List V} {ys:List Str},Reps K c H vs ds->FZ ds=some ys->vs=ys.map V.str/\∀y∈ys,y.length<=8
 | [],_,ys,r,e=>by
   cases r
   cases e
   exact ⟨rfl,λ_ h=>nomatch h⟩
 | d :: ds,_,ys,r,e=>by
   cases r with
   | cons r1 r2=>
     cases r1 with
     | str x=>
       unfold FZ at e
       split at e
       ·next hx=>
        obtain ⟨zs,e1,rfl⟩:=uc9.mp e;obtain ⟨h1,h2⟩:=NX r2 e1;refine ⟨by rw [h1];rfl,λy hy=>?_⟩;rcases ul4.mp hy with rfl | hy
        ·exact hx
        ·exact h2 y hy
       ·cases e
     | _=>cases e
theorem RE.joinM {f:M D}{g:M (List D)}{σ:L2.St}{H:Hp}{Q:VK}(q:RE K (F2.joinM f g) σ H Q):tBM K "str" (TF K) (RE K f) (RA K g) σ H Q:=by
 obtain ⟨Oo,c,t,fi,r,t',eq,k⟩:=q;obtain ⟨d,t1,e1,eq⟩:=Ao eq;obtain ⟨as,t2,e2,eq⟩:=Ao eq;refine ⟨Oo,c,t,fi,d,t1,e1,λv H1 c1 f1 s1 rv=>?_⟩
 split at eq
 ·next z ds=>
  cases rv
  refine ⟨rfl,Oo,c1,t1,f1,_,t2,e2,λus H2 c2 f2 s2 rus=>?_⟩;obtain ⟨w,rfl,rw'⟩:=Ed rus
  split at eq
  ·next ys ey=>
   split at eq
   ·next hz=>
    cases eq
    cases rw' with
    | @lst p vs ds h1 h2 h3=>
      obtain ⟨h4,h5⟩:=NX h3 ey;subst h4;exact ⟨_,p,ys,rfl,rfl,SqL.of h1,h5,hz.1,hz.2,k _ _ c2 f2 (s1.trans s2) (.str _)⟩
   ·cases eq
  ·cases eq
 ·cases eq
theorem Ud {o e:Expr}{es:List Expr}{f:M D}{g:M (List D)}{apos cpos:Pos}(ho:PE X o (RE X.K f))(ha:PA X (e :: es) (RA X.K g))
 (hbase:attributeBase o "join" X.env (eval o X.env)=eval o X.env:=by rfl)
 (hfew:((backTo cpos (starEach (e :: es) X.env)).all (λx=>!x.1) && (backToKw cpos (keywordEach [] X.env)).all (λx=>x.1.isSome) && decide ((e :: es).length + ([]:List Keyword).length + (if ([]:List Keyword).isEmpty then 0 else 1) < 30))=true:=by rfl)
 (hline:(apos.endLine == cpos.line)=true:=by rfl) (hs:starEach (e :: es) X.env=(false,eval e X.env) :: starEach es X.env:=by rfl) (hplain:(backTo cpos (starEach es X.env)).any (·.1)=false:=by rfl) :
 PE X (.Call (.Attribute o "join" apos) (e :: es) [] cpos) (RE X.K (joinM f g)):=
 BC (Ko PySem.F.plainAttrs_str PySem.F.slot_str_join PySem.F.type_str_join Uz ho ha hbase hfew hline hs hplain) λ_ _ _ q=>RE.joinM q
end
end F2
namespace L2
open PySem PySem.Spec PyProof.Rows
def Q6:R2:=λx y H Q=>∃a kvs k v,x = .ref a/\y = .str k/\H a=some (.dK kvs)/\DY kvs (Sum.inr k:Key)=some v/\Q v H
def WQ:V->V->V->Hp->(Hp->Prop)->Prop:=λo i v H Q=>∃a kvs k,o = .ref a/\i = .str k/\H a=some (.dK kvs)/\kvs.length < sizeLine/\Q (upd H a (.dK (DW kvs (Sum.inr k:Key) v)))
section
variable {X:Cx}
theorem BO:IxR X Q6:=by
 intro value slice pins s σ H x y v u Q I rx ry h hs;obtain ⟨a,kvs,k,z,rfl,rfl,e,l,q⟩:=h
 cases rx
 obtain ⟨_,_,vs,rel,dd⟩:=Mm I.hok e;have g:DGet H a (kV (Sum.inr k:Key)) (some z):=by rw [<-l];exact DGet.k e
 have hT:=dd.typeIs;unfold subscriptTail;refine uo0 ?_;rw [getitemInPython_of_ne hT.not_modules];refine uo0 (wpAny_specialOf hT PySem.F.slot_dict_getitem.lookup ?_);have get:wpAny (model X.prog X.w) X.A (getItem (.ref a) u) (EP X pins σ Q) X.xe s:=by
  obtain ⟨w',hw,rw'⟩:=RelO.some_of (v:=z) (o:=valueAt vs (Sum.inr k:Key)) (by rw [<-l];exact rel.val _);exact wpAny_getItem_of (J2 (k:=(Sum.inr k:Key)) ry) dd.mapOf hw ⟨z,H,I.tok _,rw',q⟩
 have fin:wpAny (model X.prog X.w) X.A (subscripted slice false (.ref a) u) (λr s₃=>wpAny (model X.prog X.w) X.A (letTemporaryGo value (.ref a) r >>= λ_=>pure r) (EP X pins σ Q) X.xe s₃) X.xe s:=by
  rw [hs];exact wpAny_operating (uo2 get (λr s₃ h₃=>uo0 (wpAny_letTemporaryGo (uo1 h₃))) λ_ _ x=>x)
 first
  | exact uo1 (uo0 fin)
  | exact uo0 (uo1 (uo0 fin))
  | exact uo0 fin
theorem Vk:VO X WQ:=by
 intro pins s σ H o i v ov iv u Q I ro ri rv h;obtain ⟨a,kvs,k,rfl,rfl,e,l,q⟩:=h
 cases ro
 obtain ⟨z,hd,vs,rel,dd⟩:=Mm I.hok e;have hz:vs.length<=sizeLine:=by rw [<-rel.length];exact z
 have hl:(DW kvs (Sum.inr k:Key) v).length<=sizeLine:=by have:=IH kvs (Sum.inr k:Key) v;lia
 refine wpAny_setItem_pairs (hsz:=hz) (J2 (k:=(Sum.inr k:Key)) ri) dd λh' dd' hs=>⟨_,?_,q⟩;have he:∃q,h'.get? a=some q:=let ⟨q,_,_,hq,_⟩:=dd';⟨q,hq⟩;exact OA I (by rw [e];exact True.intro) hs he (MY hl hd (rel.put _ rv) dd')
end
end L2
namespace F2
open PySem L2 PySem.Spec
noncomputable def BM (kvs:List (Key×D))(k:Key):Option D:=(kvs.find? λkv=>decide (kv.1=k)).map (·.2)
noncomputable def BN (kvs:List (Key×D))(k:Key)(d:D):List (Key×D):=
 if (kvs.any λkv=>decide (kv.1=k))=true then kvs.map (λkv=>if kv.1=k then (kv.1,d) else kv) else kvs++[(k,d)]
def BH:D->D->M D
 | .obj n,.str x=>λt=>match t.S[n]? with
   | some (.dct kvs)=>(BM kvs (.inr x)).map λd=>(d,t)
   | _=>none
 | _,_=>fail
def GE:D->D->D->M Unit
 | .obj n,.str x,d=>λt=>match t.S[n]? with
   | some (.dct kvs)=>if kvs.length < LIM then some ((),{ t with S:=t.S.set n (.dct (BN kvs (.inr x) d)) }) else none
   | _=>none
 | _,_,_=>fail
def DK (f g:M D)(d:D):M Unit:=bnd f λo=>bnd g λi=>GE o i d
def D1:List (Str×M D)->M (List (Key×D))
 | []=>ret []
 | (k,f) :: r=>bnd f λd=>bnd (D1 r) λps=>ret ((.inr k,d) :: ps)
def BB (ps:List (Key×D)):List (Key×D):=ps.foldl (λacc kv=>BN acc kv.1 kv.2) []
def Fp (n:Nat)(ps:List (Key×D)):M D:=λt=>match t.S[n]? with
 | some (.dct [])=>if ps.length<=15 then some (.obj n,{ t with S:=t.S.set n (.dct (BB ps)) }) else none
 | _=>none
def Fg (l:List (Str×M D)):M D:=λt=>bnd (D1 l) (Fp t.S.length) { t with S:=t.S++[.dct []] }
section
variable {K:PySem.W.Frag}{c:Cf}{H:Hp}
theorem KVR.get {us:List (Key×V)}{kvs:List (Key×D)}(r:KVR K c H us kvs)(k:Key){d:D}(e:BM kvs k=some d):∃v,DY us k=some v/\Rep K c H v d:=by
 unfold KVR at r
 induction r with
 | nil=>simp [BM] at e
 | @cons p q ps qs h t ih=>
   by_cases hk:p.1=k
   ·have hq:q.1=k:=h.1.symm.trans hk;have:BM (q :: qs) k=some q.2:=by simp [BM,uj8,hq]
    rw [this] at e;cases e
    exact ⟨p.2,He hk,h.2⟩
   ·have hq:¬q.1=k:=λz=>hk (h.1.trans z);have:BM (q :: qs) k=BM qs k:=by simp [BM,uj8,hq]
    rw [this] at e;rw [Hd hk];exact ih e
theorem KVR.any {us:List (Key×V)}{kvs:List (Key×D)}(r:KVR K c H us kvs)(k:Key):(us.any λkv=>decide (kv.1=k))=(kvs.any λkv=>decide (kv.1=k)):=by
 unfold KVR at r
 induction r with
 | nil=>rfl
 | @cons p q ps qs h t ih=>rw [ul8,ul8,ih,h.1]
theorem KVR.put {us:List (Key×V)}{kvs:List (Key×D)}(r:KVR K c H us kvs)(k:Key){v:V}{d:D}(rv:Rep K c H v d):KVR K c H (DW us k v) (BN kvs k d):=by
 unfold DW BN;rw [r.any k]
 by_cases q:(kvs.any λkv=>decide (kv.1=k))=true
 ·rw [if_pos q,if_pos q];clear q;unfold KVR at r ⊢
  induction r with
  | nil=>exact .nil
  | @cons p q ps qs h t ih=>
    rw [ul7,ul7];refine .cons ?_ ih
    by_cases e:p.1=k
    ·rw [if_pos e,if_pos (h.1.symm.trans e)];exact ⟨h.1,rv⟩
    ·rw [if_neg e,if_neg (λz=>e (h.1.trans z))];exact h
 ·rw [if_neg q,if_neg q];exact Paired.snoc r ⟨rfl,rv⟩
theorem KVR.length {us:List (Key×V)}{kvs:List (Key×D)}(r:KVR K c H us kvs):us.length=kvs.length:=Paired.length r
theorem KVR.mono {c':Cf}{H':Hp}{us:List (Key×V)}{kvs:List (Key×D)}(e:Ext c H c' H')(r:KVR K c H us kvs):KVR K c' H' us kvs:=Paired.mapP r λ_ _ z=>⟨z.1,z.2.mono e⟩
theorem KVR.merge:∀{ps:List (Key×D)} {us:List (Key×V)} {acc:List (Key×D)} {ua:List (Key×V)},KVR K c H us ps->KVR K c H ua acc->KVR K c H (FP ua us) (ps.foldl (λacc kv=>BN acc kv.1 kv.2) acc):=by
 intro ps us acc ua r;unfold KVR at r
 induction r generalizing acc ua with
 | nil=>intro q;exact q
 | @cons p q ps qs h t ih=>
   intro r0;refine ih ?_;show KVR K c H (DW ua p.1 p.2) (BN acc q.1 q.2);have:=KVR.put r0 p.1 h.2;rw [<-h.1];exact this
theorem Bf:BY K Q6 BH:=λ{Oo c t σ H x y dx dy r t' Q} f rx ry eq k=>by
 unfold BH at eq
 split at eq
 ·next n z=>
  cases ry
  cases rx with
  | @obj a kk hk=>
    split at eq
    ·next kvs es=>
     obtain ⟨d,e1,e2⟩:=uc9.mp eq
     cases e2
     obtain ⟨us,g1,g2⟩:=f.s.obs _ a _ hk es;obtain ⟨v,e3,e4⟩:=g2.get _ e1;exact ⟨a,us,z,v,rfl,rfl,g1,e3,k _ H c f .refl e4⟩
    ·cases eq
 ·cases eq
end
section
variable {X:Cx}{pos:Pos}{e:Expr}
theorem CJ {o i:Expr}{f g:M D}(ho:PE X o (RE X.K f))(hi:PE X i (RE X.K g))
 (ha:∀v,assign (.Subscript o i pos) X.env v=(do
   let ov <-holding [v] (eval o X.env)
   let iv <-holding [v,ov] (eval i X.env)
   standAt pos
   holding [v,ov,iv] (setItem ov iv v)
   release [v,ov,iv] []):=by intro _;rfl):PG X (.Subscript o i pos) (RG X.K (DK f g)):=
 Mx (WG ho hi Vk ha) λv σ H Q z9=>by
  obtain ⟨Oo,c,t,d,fi,rv,t',eq,k⟩:=z9;obtain ⟨d0,t1,e1,eq⟩:=Ao eq;obtain ⟨di,t2,e2,eq⟩:=Ao eq;refine ⟨Oo,c,t,fi,_,t1,e1,λx H1 c1 f1 s1 rx=>⟨Oo,c1,t1,f1,di,t2,e2,λy H2 c2 f2 s2 ry=>?_⟩⟩;unfold GE at eq
  split at eq
  ·next n z dd=>
   cases ry
   cases rx with
   | @obj a kk hk=>
     split at eq
     ·next kvs es=>
      split at eq
      ·next hl=>
       cases eq
       have hk2:=s2.ext.io _ _ hk;obtain ⟨us,g1,g2⟩:=f2.s.obs _ a _ hk2 es;refine ⟨a,us,z,rfl,rfl,g1,by rw [g2.length];exact Nat.lt_trans hl VM,?_⟩;have rv2:=rv.mono (s1.trans s2).ext;obtain ⟨f3,s3⟩:=f2.wrObj (o:=.dct (BN kvs (.inr z) d)) (u:=.dK (DW us (.inr z) v)) hk2 λc' H' ext hu=>⟨_,hu,(g2.put _ rv2).mono ext⟩;exact k σ _ c2 f3 ((s1.trans s2).trans s3)
      ·cases eq
     ·cases eq
  ·cases eq
def RP (K:PySem.W.Frag)(f:M (List (Key×D)))(σ:St)(H:Hp)(Q:List (V×V)->Hp->Prop):Prop:=
 ∃Oo c t,FInv K Oo c t σ H/\∃ps t',f t=some (ps,t')/\∀us H' c',FInv K Oo c' t' σ H'->Stp Oo c H c' H'->KVR K c' H' us ps->Q (us.map λkv=>(kV kv.1,kv.2)) H'
def PPf (X:Cx)(pos:Pos)(keys:List (Option Expr))(values:List Expr)(f:M (List (Key×D))):Prop:=
 ∃trs,PPs X pos keys values trs/\∀σ H Q,RP X.K f σ H Q->Kw trs σ H Q
theorem Fs:PPf X pos [] [] (D1 []):=⟨[],U3,λσ H Q z9=>by
 obtain ⟨Oo,c,t,fi,ps,t',eq,k⟩:=z9
 cases eq
 exact k [] H c fi .refl .nil⟩
theorem CG {k:Str}{j:Nat}{kp:Pos}{v:Expr}{ks:List (Option Expr)}{vs:List Expr}{f:M D}{r:List (Str×M D)}(hv:PE X v (RE X.K f))(hr:PPf X pos ks vs (D1 r)) :
 PPf X pos (some (.Constant (.str k) j kp) :: ks) (v :: vs) (D1 ((k,f) :: r)):=by
 obtain ⟨trs,h1,h2⟩:=hr;refine ⟨_,SD QV hv h1,λσ H Q z9=>?_⟩;obtain ⟨Oo,c,t,fi,ps,t',eq,kk⟩:=z9;obtain ⟨d,t1,e1,eq⟩:=Ao eq;obtain ⟨qs,t2,e2,eq⟩:=Ao eq
 cases eq
 refine ⟨Oo,c,t,fi,d,t1,e1,λy H1 c1 f1 s1 ry=>?_⟩;refine h2 σ H1 _ ⟨Oo,c1,t1,f1,qs,_,e2,λus H2 c2 f2 s2 ru=>?_⟩;exact kk ((.inr k,y) :: us) H2 c2 f2 (s1.trans s2) (.cons ⟨rfl,ry.mono s2.ext⟩ ru)
theorem Fq {keys:List (Option Expr)}{values:List Expr}{l:List (Str×M D)}(h:PPf X pos keys values (D1 l))(hall:keys.all (·.isSome)=true:=by rfl)(hl:keys.length=values.length:=by rfl)(h0:keys≠[]:=by exact List.cons_ne_nil _ _)
 (h15:keys.length<=15:=by exact ud6 rfl):PE X (.Dict keys values pos) (RE X.K (Fg l)):=by
 obtain ⟨trs,h1,h2⟩:=h;refine BC (UT h1 hall hl h0 h15) λσ H Q z9=>?_;obtain ⟨Oo,c,t,fi,r,t',eq,k⟩:=z9;intro p hp;obtain ⟨c1,f1,s1,e1⟩:=fi.newObj (o:=.dct []) (u:=.dK []) hp λc' H' ex hu=>⟨[],hu,.nil⟩;obtain ⟨ps,t2,e2,eq⟩:=Ao eq;refine h2 σ _ _ ⟨Oo,c1,_,f1,ps,t2,e2,λus H2 c2 f2 s2 ru=>?_⟩;unfold Fp at eq
 split at eq
 ·next es=>
  split at eq
  ·next hl15=>
   cases eq
   have hk2:=s2.ext.io _ _ e1;obtain ⟨u0,g1,g2⟩:=f2.s.obs _ p _ hk2 es
   cases g2
   refine ⟨g1,us,rfl,by rw [ru.length];exact hl15,?_⟩;obtain ⟨f3,s3⟩:=f2.wrObj (o:=.dct (BB ps)) (u:=.dK (FP [] us)) hk2 λc' H' ext hu=>⟨_,hu,(KVR.merge ru .nil).mono ext⟩;exact k _ _ c2 f3 (s1.trans (s2.trans s3)) (.obj hk2)
  ·cases eq
 ·cases eq
end
end F2
namespace L2
open PySem PySem.Spec PyProof.Rows
section
variable {X:Cx}
end
end L2
namespace F2
open PySem L2 PySem.Spec
section
variable {X:Cx}{pos:Pos}{e:Expr}{es:List Expr}
end
end F2
namespace L2
open PySem PySem.Spec PyProof.Rows
section
variable {prog:Program}{w:World}{A:Around}{I:Addr}{fp wr:List Addr}{G:Array GenState->Array GenState->Prop}{n:Nat}{P:Nat->Value->Prop}{St:Nat->Shared->Prop}
end
section
variable {X:Cx}
end
end L2
namespace F2
open PySem L2 PySem.Spec PyProof.Rows
section
variable {X:Cx}{pos:Pos}{e:Expr}
end
end F2
namespace F2
open PySem L2 PySem.Spec
noncomputable def DA (f:M Bool)(b:M Out):Nat->M Out
 | 0=>λ_=>none
 | n + 1=>λt=>match f t with
   | none=>none
   | some (false,t1)=>some (.next,t1)
   | some (true,t1)=>match b t1 with
     | some (.next,t2)=>DA f b n t2
     | some (.cont,t2)=>DA f b n t2
     | some (.brk,t2)=>some (.next,t2)
     | some (.ret x,t2)=>some (.ret x,t2)
     | none=>none
def Mf:Nat:=1000000
def KA (f:M Bool)(b:M Out):M Out:=DA f b Mf
theorem RS.while {μ:Cf->Hp->D->(V->Hp->Prop)->Prop}{K:PySem.W.Frag}{f:M Bool}{b:M Out}{E:Ends}{σ:L2.St}{H:Hp}(q:RSg K μ (KA f b) E σ H):Rk (RT K f) (RSg K μ b) E σ H:=by
 obtain ⟨Oo,c,t,fi,o,t',eq,k⟩:=q;refine ⟨λm σ' H'=>∃c' t2,FInv K Oo c' t2 σ' H'/\Stp Oo c H c' H'/\DA f b m t2=some (o,t'),⟨Mf,c,t,fi,.refl,eq⟩,?_⟩;rintro m σ' H' ⟨c',t2,f2,s2,e2⟩
 cases m with
 | zero=>cases e2
 | succ m=>
 rw [DA] at e2;dsimp only at e2
 cases ef:f t2 with
 | none=>rw [ef] at e2;cases e2
 | some p=>
 obtain ⟨r,t3⟩:=p;rw [ef] at e2;refine ⟨Oo,c',t2,f2,r,t3,ef,λH3 c3 f3 s3=>?_⟩
 cases r with
 | false=>
   cases e2
   exact k σ' H3 c3 f3 (s2.trans s3)
 | true=>
   rw [if_pos rfl];dsimp only at e2;refine ⟨λσ4 H4=>∃c4 t4,FInv K Oo c4 t4 σ4 H4/\Stp Oo c H c4 H4/\DA f b m t4=some (o,t'),λσ4 H4 h=>⟨m,Nat.lt_succ_self m,h⟩,?_⟩
   cases eb:b t3 with
   | none=>rw [eb] at e2;cases e2
   | some p=>
   obtain ⟨ob,t4⟩:=p;rw [eb] at e2;refine ⟨Oo,c3,t3,f3,ob,t4,eb,λσ4 H4 c4 f4 s4=>?_⟩
   cases ob with
   | next=>exact ⟨c4,t4,f4,(s2.trans s3).trans s4,e2⟩
   | cont=>exact ⟨c4,t4,f4,(s2.trans s3).trans s4,e2⟩
   | brk=>
     cases e2
     exact k σ4 H4 c4 f4 ((s2.trans s3).trans s4)
   | ret x=>
     cases e2
     exact k σ4 H4 c4 f4 ((s2.trans s3).trans s4)
section
variable {X:Cx}{pos:Pos}
theorem Na {μ:Cf->Hp->D->(V->Hp->Prop)->Prop}{e:Expr}{body:List Stmt}{f:M Bool}{b:M Out}(hp:PassesOwn (model X.prog X.w) X.A X.env X.xe)(hc:PT X e (RT X.K f))(hb:PSs X body (RSg X.K μ b)):PS X (.While e body [] pos) (RSg X.K μ (KA f b)):=
 B0 (SG hp hc hb) λ_ _ _ q=>RS.while q
end
end F2
namespace L2
open PySem PySem.Spec PyProof.Rows
end L2
namespace F2
open PySem L2 PySem.Spec
end F2
namespace L2
open PySem PySem.Spec PyProof.Rows
section
variable {X:Cx}{tg:Expr}
end
end L2
namespace F2
open PySem L2 PySem.Spec
section
variable {X:Cx}{pos:Pos}{e:Expr}{es:List Expr}
end
noncomputable def EK (H:Hp)(a:Addr):Hp:=λb=>if b=a then none else H b
theorem So {H:Hp}{a:Addr}{o:HO}(h:H a=some o):upd (EK H a) a o=H:=by
 funext b
 by_cases e:b=a
 ·subst e;rw [Ax];exact h.symm
 ·rw [Ar e];unfold EK;rw [if_neg e]
section
variable {K:PySem.W.Frag}{Oo:Addr->Prop}{c:Cf}{t:T}{σ:L2.St}{H:Hp}
theorem FInv.out (f:FInv K Oo c t σ H){i:Nat}{ds:List D}(e:t.env[i]?=some (some (.own ds))){a:Addr}(ha:σ[i]?=some (some (.ref a))) :
 FInv K Oo ⟨c.ι,λb=>c.O b/\b≠a⟩ { t with env:=t.env.set i none } σ (EK H a)/\Stp Oo c H ⟨c.ι,λb=>c.O b/\b≠a⟩ (EK H a):=by
 obtain ⟨a',vs,g1,g2,g3,g4,g5⟩:=f.own i ds e;rw [ha] at g1;injection g1 with g1;injection g1 with g1;injection g1 with g1;subst g1
 have ni:a∉c.ι:=f.s.dis a g2;have ext:Ext c H ⟨c.ι,λb=>c.O b/\b≠a⟩ (EK H a):=by
  refine ⟨λb o hb hn=>?_,λb o hb z=>?_,λk b h=>h⟩
  ·unfold EK;rw [if_neg λz=>hn (by rw [z];exact .inr g2)];exact hb
  ·rcases z with z | z
   ·exact .inl z
   ·exact .inr z.1
 have stp:Stp Oo c H ⟨c.ι,λb=>c.O b/\b≠a⟩ (EK H a):=⟨ext,λb hb=>by unfold EK;rw [if_neg λz=>g3 (by rw [<-z];exact hb)]⟩;have old:∀{j:Nat} {x:Sl},(t.env.set i none)[j]?=some (some x)->j≠i/\t.env[j]?=some (some x):=λ{j x} q=>by
  by_cases h:j=i
  ·subst h;rw [uh1] at q
   split at q
   ·split at q <;> simp at q
   ·contradiction
  ·exact ⟨h,by rw [ue1 (Ne.symm h)] at q;exact q⟩
 refine ⟨⟨⟨f.s.len,f.s.nd,λk b o e1 e2=>?_,λb hb=>?_,λb hb=>f.s.dis b hb.1⟩,by simpa using f.len,λb hb=>⟨f.sub b hb,λz=>g3 (by rw [<-z];exact hb)⟩,λj d q=>?_,λj es q=>?_,λj k es fs b q1 q2 q3 q4=>?_⟩,stp⟩
 ·refine (f.s.obs k b o e1 e2).mono ext ?_;unfold EK;rw [if_neg λz=>ni (by rw [<-z];exact ue2 e1)]
 ·obtain ⟨o,ho⟩:=f.s.trk b hb.1;exact ⟨o,by unfold EK;rw [if_neg hb.2];exact ho⟩
 ·obtain ⟨v,h1,h2⟩:=f.val j d (old q).2;exact ⟨v,h1,h2.mono ext⟩
 ·obtain ⟨nj,q'⟩:=old q;obtain ⟨b,us,k1,k2,k3,k4,k5⟩:=f.own j es q';have nb:b≠a:=λz=>nj (f.inj j i es ds a q' e (by rw [k1,z]) ha);exact ⟨b,us,k1,⟨k2,nb⟩,k3,by unfold EK;rw [if_neg nb];exact k4,k5.mono ext⟩
 ·exact f.inj j k es fs b (old q1).2 (old q2).2 q3 q4
end
noncomputable def HF (i:Nat):M Out:=λt=>match t.env[i]? with
 | some (some (.own xs))=>some (.ret (.lst xs),{ t with env:=t.env.set i none })
 | _=>none
def HE (f:M (List D)):M Out:=bnd f λds=>ret (.ret (.lst ds))
variable {f:M (List D)}{g:Fn}{fa:Addr}{fd:FuncData}{x:Str}
section
variable {X:Cx}{pos:Pos}{e:Expr}{es:List Expr}
theorem Fu (h:PE X e (RF X.K f)):PS X (.Return (some e) pos) (RSg X.K (μF X.K) (HE f)):=
 B0 (HC h) λE σ H z9=>by
  obtain ⟨Oo,c,t,fi,o,t',eq,k⟩:=z9;obtain ⟨ds,t1,e1,eq⟩:=Ao eq
  cases eq
  exact ⟨Oo,c,t,fi,ds,_,e1,λp us H1 c1 f1 s1 ru hp=>k σ H1 c1 f1 s1 p us hp ru⟩
theorem Qw (i:Nat){x:Str}{px:Pos}(hN:X.N[i]?=some x:=by rfl)(hv:Vis X.env.scope x:=by first | exact Or.inl rfl | exact Or.inr (Or.inl rfl) | exact Or.inr (Or.inr rfl))(hd:(x == ("__debug__" : Str))=false:=by decide)
 (hcd:(x == ("__classdict__" : Str))=false:=by decide):PS X (.Return (some (.Name x px)) pos) (RSg X.K (μF X.K) (HF i)):=
 B0 (HC (Dz hN hv hd hcd)) λE σ H z9=>by
  obtain ⟨Oo,c,t,fi,o,t',eq,k⟩:=z9;unfold HF at eq
  split at eq
  ·next xs ex=>
   cases eq
   obtain ⟨a,vs,h1,h2,h3,h4,h5⟩:=fi.own i xs ex;refine ⟨.ref a,h1,?_⟩;obtain ⟨f2,s2⟩:=fi.out ex h1;have:=k σ (EK H a) _ f2 s2 a vs (by unfold EK;rw [if_pos rfl]) (h5.mono s2.ext);rw [So h4] at this;exact this
  ·cases eq
def Jp (K:PySem.W.Frag)(f:Fn):Sp:=λvs H Q _=>∃c ds S,SInv K c S H/\Reps K c H vs ds/\∃rs S',f ds S=some (.lst rs,S')/\
 ∀p us H' c',SInv K c' S' H'->Stp c.O c H c' H'->(∀b,c'.O b↔c.O b)->Reps K c' H' us rs->H' p=none->Q (.ref p) (upd H' p (.lst us))
def Ev (g:Fn)(f:M (List D)):M (List D):=bnd f λds t=>match g ds t.S with
 | some (.lst rs,S')=>some (rs,{ t with S:=S' })
 | _=>none
theorem Pd {ds:List D}{t:T}{rs:List D}{t':T}(h:(match g ds t.S with | some (.lst rs,S')=>some (rs,{ t with S:=S' }) | _=>none:Option (List D×T))=some (rs,t')):∃S',g ds t.S=some (.lst rs,S')/\t' = { t with S:=S' }:=by
 split at h
 ·next rs' S' e=>cases h;exact ⟨S',e,rfl⟩
 ·cases h
theorem M1 {k:Nat}{ps:List Str}{p:Pos}(F:FnOk X.prog X.w X.K X.mg X.base CX0 k fa fd ps (Jp X.K g))(hr:Room k X.A)(hg:Gl X x)(hm:X.mg x=some (.ref fa))(hk:PySem.W.keepIn X.K (.ref fa)=true)(hb:Binds X.K fd ps [])
 (ha:PA X (e :: es) (RA X.K f)) (hdb:(x == ("__debug__" : Str))=false:=by decide) (h1:Cb e=false:=by rfl) (h2:Cd es=true:=by rfl) :
 PE X (.Call (.Name x p) (e :: es) [] pos) (RF X.K (Ev g f)):=
 BC (ON F hr hg hm hk hb .nil Tw ha hdb (B7 h1) (BU h2).1) λσ H Q z9=>by
  obtain ⟨Oo,c,t,fi,rs,t',eq,kk⟩:=z9;obtain ⟨ds,t1,e1,eq⟩:=Ao eq;obtain ⟨S',e2,rfl⟩:=Pd eq;refine ⟨Oo,c,t,fi,ds,t1,e1,λvs H1 c1 f1 s1 rvs=>?_⟩;show Jp X.K g (vs++[]) H1 Q E0;rw [uj2];refine ⟨c1,ds,t1.S,f1.s,rvs,rs,S',e2,λp us H' c' si st ho ru hp=>?_⟩;obtain ⟨f2,s2⟩:=f1.after si st ho;exact kk p us H' c' f2 (s1.trans s2) ru hp
theorem E6 {k:Nat}{ps:List Str}{p:Pos}(F:FnOk X.prog X.w X.K X.mg X.base CX0 k fa fd ps (Jp X.K g))(hr:Room k X.A)(hg:Gl X x)(hm:X.mg x=some (.ref fa))(hk:PySem.W.keepIn X.K (.ref fa)=true)(hb:Binds X.K fd ps [])
 (ha:PA X (e :: es) (RA X.K f)) (hdb:(x == ("__debug__" : Str))=false:=by decide) (h1:Cb e=false:=by rfl) (h2:Cd es=true:=by rfl) :
 PE X (.Call (.Name x p) (e :: es) [] pos) (RE X.K (Ba (Ev g f))):=Bh (M1 F hr hg hm hk hb ha hdb h1 h2)
end
theorem OG {P:Program}{w:World}{K:PySem.W.Frag}{mg:Str->Option Value}{base:Heap}{qual:Str}{st:Stmt}{N ps:List Str}{k n m:Nat}{g:M Out}(e1:ps.length=n)(e2:N.length=m)(F:Fun K x qual st fa fd)(S:FnScope N ps (Ap st))
 (hb:∀(cdv:Value) (A:Around) (outer:List Env) (s:Shared) (H:Hp) (E:XK),Room k (A.deeper (PyProof.Rows.envOfC qual (Ap st) s.heap.objs.size fa cdv))->
   PSs (DM CX0 P w K mg base N qual (Ap st) fa cdv A outer s H E).nox (B5 st) (RSg K (μF K) g)):FnOk P w K mg base CX0 (k + 1) fa fd ps (Jp K (fnOf n m g)):=by
 subst e1 e2;have hlen:∀{ds:List D} {S:List Ob} {z:D×List Ob},fnOf ps.length N.length g ds S=some z->ds.length=ps.length:=λ{ds S z} h=>by
  unfold fnOf at h
  split at h
  ·next h1=>exact h1
  ·cases h
 refine F.ok S (λvs H Q E h=>?_) (λcdv A outer s H vs Q E hr h=>?_)
 ·obtain ⟨c,ds,S,si,rs,r,S',e,_⟩:=h;rw [rs.length];exact hlen e
 obtain ⟨c,ds,S0,si,rs,r,S',e,kk⟩:=h;refine ⟨RSg K (μF K) g,hb cdv A outer s H E hr,?_⟩;have hl:=hlen e;unfold fnOf at e;rw [if_pos hl] at e
 cases eg:g ⟨env0 N.length ds,S0⟩ with
 | none=>rw [eg] at e;cases e
 | some p=>
   obtain ⟨o,t⟩:=p;rw [eg] at e;refine ⟨c.O,c,_,GQ si rs,o,t,eg,λσ' H' c' f' s'=>?_⟩;obtain ⟨si',ext'⟩:=f'.leave;have st':Stp c.O c H ⟨c'.ι,c.O⟩ H':=⟨s'.ext.trans ext',s'.oo⟩
   cases o with
   | next=>cases e
   | ret d=>
     cases e
     exact λp us hp ru=>kk p us H' _ si' st' (λ_=>Iff.rfl) (ru.mono ext') hp
   | brk=>cases e
   | cont=>cases e
theorem OT {P:Program}{w:World}{K:PySem.W.Frag}{mg:Str->Option Value}{base:Heap}{ps:List Str}{k:Nat}{f:Fn}(e:f=g)(h:FnOk P w K mg base CX0 k fa fd ps (Jp K g)):FnOk P w K mg base CX0 k fa fd ps (Jp K f):=by rw [e];exact h
end F2
namespace L2
open PySem PySem.Spec PyProof.Rows
section
variable {X:Cx}
theorem UQ {o:Expr}{to:TE}{apos cpos:Pos}(ho:PE X o to)(hbase:attributeBase o "bit_length" X.env (eval o X.env)=eval o X.env:=by rfl)(hline:(apos.endLine == cpos.line)=true:=by rfl) :
 PE X (.Call (.Attribute o "bit_length" apos) [] [] cpos) (λσ H Q=>to σ H λv H1=>∃i,v = .int i/\Q (.int (Builtin.Int.intBits i:Nat)) H1):=by
 intro pins s σ H Q I h;refine Call_method0 hbase hline (thn (ho pins s σ H _ I h) λu s1 z9=>?_);obtain ⟨v,H1,I1,rv,i,ex,q⟩:=z9;subst ex;obtain ⟨t,rfl⟩:=rv;exact ⟨"int", "int.bit_length",PySem.F.plainAttrs_int,ua6,PySem.F.type_int_bit_length,typeIs_int _ _ _,(λ_ e=>nomatch e),
  method0_gives ua6 PySem.F.entry_int_bit_length (typeIs_int _ _ _) (PySem.F.args_int_bit_length_1 _) (PySem.AutoIntG2.int_bit_length_int_0 i t) ⟨.int (Builtin.Int.intBits i:Nat),H1,I1.tok _,⟨_,rfl⟩,q⟩⟩
end
end L2
namespace F2
open PySem L2 PySem.Spec
def Mi:D->M D
 | .int i=>ret (.int (Builtin.Int.intBits i:Nat))
 | _=>fail
section
variable {X:Cx}{pos:Pos}{e:Expr}{es:List Expr}
theorem Qm {o:Expr}{f:M D}{apos cpos:Pos}(ho:PE X o (RE X.K f))(hbase:attributeBase o "bit_length" X.env (eval o X.env)=eval o X.env:=by rfl)(hline:(apos.endLine == cpos.line)=true:=by rfl) :
 PE X (.Call (.Attribute o "bit_length" apos) [] [] cpos) (RE X.K (fUn f Mi)):=
 BC (UQ ho hbase hline) λσ H Q z9=>by
  obtain ⟨Oo,c,t,fi,r,t',eq,k⟩:=z9;obtain ⟨d,t1,e1,eq⟩:=Ao eq;refine ⟨Oo,c,t,fi,d,t1,e1,λx H1 c1 f1 s1 rx=>?_⟩;unfold Mi at eq
  split at eq
  ·next i=>
   cases eq
   cases rx
   exact ⟨i,rfl,k _ H1 c1 f1 s1 (.int _)⟩
  ·cases eq
end
section
variable {X:Cx}{b elt:Expr}{pos:Pos}
end
end F2
namespace L2
open PySem PySem.Spec PyProof.Rows
end L2
namespace F2
open PySem L2 PySem.Spec
structure ItOk2 (K:PySem.W.Frag)(J:It)(c:Cf)(H:Hp)(ds:List D):Prop where
 go:∀c' H' (i:Nat),Ext c H c' H'->i < ds.length->J.go i H'
 yld:∀c' H' (i:Nat) x H'' d,Ext c H c' H'->ds[i]?=some d->J.yld i H' x H''->∃p vs es,x = .ref p/\H' p=none/\H''=upd H' p (.tup vs)/\d = .tup es/\Reps K c' H' vs es
 stop:∀c' H',Ext c H c' H'->J.stop ds.length H'
section
variable {X:Cx}{pos:Pos}{e:Expr}
end
end F2
namespace L2
open PySem PySem.Spec PyProof.Rows
section
variable {X:Cx}
end
end L2
namespace F2
open PySem L2 PySem.Spec
section
variable {X:Cx}{pos:Pos}{e:Expr}{es:List Expr}
end
end F2
namespace L2
open PySem PySem.Spec PyProof.Rows
section
variable {X:Cx}{e ek:Expr}{p2 pos:Pos}{te:TE}{tk:TO}
end
end L2
namespace F2
open PySem L2 PySem.Spec
section
variable {X:Cx}
end
end F2
namespace L2
open PySem PySem.Spec PyProof.Rows
section
variable {X:Cx}
end
end L2
namespace F2
open PySem L2 PySem.Spec
section
variable {X:Cx}{pos:Pos}
end
end F2
namespace L2
open PySem PySem.Spec PyProof.Rows
theorem LT {x y:Int}(h0:0 < y)(h1:y < 18446744073709551616):Builtin.divisionGoesByPylong x y=false:=by
 unfold Builtin.divisionGoesByPylong;have hl:y.natAbs.log2 < 64:=(Nat.log2_lt (by lia)).mpr (by show y.natAbs < 2 ^ 64;lia);have e:(y == 0)=false:=by rw [beq_eq_false_iff_ne];lia
 simp only [e,uf8,if_false];rw [Bool.and_eq_false_iff];left;rw [decide_eq_false_iff_not];lia
def Tk (i j:Int):Prop:=0 < j/\j < 18446744073709551616
section
variable {X:Cx}
theorem Lw {i:Int}(h:i.natAbs < 2 ^ 512):Builtin.Int.intBits i<=2 ^ 20:=by
 unfold Builtin.Int.intBits
 split
 ·exact un7 _
 ·next z=>
  have hz:i.natAbs≠0:=by
   intro e;have:i=0:=by lia
   subst this;exact z rfl
  have:=(Nat.log2_lt hz).mpr h;lia
def Tl (i j:Int):Prop:=i.natAbs < 2 ^ 512/\j.natAbs < 2 ^ 512
theorem K9:OpR X (binaryOp .Mult) (rI Tl λi j=>.int (i * j)):=opI λ_ _ _ _ _ _ _ hc q=>mul_int q (IntMulOk.of_bits (Lw hc.1) (Lw hc.2))
theorem Nx:OpR X (binaryOp .FloorDiv) (rI Tk λi j=>.int (i / j)):=opI λi j _ _ _ _ _ hc q=>by
 have h1:(0:Int) < j:=hc.1;exact floordiv_int (by lia) (by rw [ua7 i (by lia)];exact q) (.inl (LT hc.1 hc.2))
end
end L2
namespace F2
open PySem L2 PySem.Spec
noncomputable def MW (i j:Int):Bool:=decide (0 < j) && decide (j < 18446744073709551616)
def JQ:=i2C MW λi j=>.int (i / j)
theorem LI {K:PySem.W.Frag}:BY K (rI Tk λi j=>.int (i / j)) JQ:=Fy (λi j h=>by
 unfold MW at h;rw [uh8,uh3,uh3] at h;exact h) λ_ _ _ _=>.int _
noncomputable def Nq (i j:Int):Bool:=decide (i.natAbs < 2 ^ 512) && decide (j.natAbs < 2 ^ 512)
def K1:=i2C Nq λi j=>.int (i * j)
theorem Jo {K:PySem.W.Frag}:BY K (rI Tl λi j=>.int (i * j)) K1:=Fy (λi j h=>by
 unfold Nq at h;rw [uh8] at h;exact ⟨uh4 h.1,uh4 h.2⟩) λ_ _ _ _=>.int _
end F2
namespace L2
open PySem PySem.Spec PyProof.Rows
section
variable {X:Cx}
end
section
variable {X:Cx}
def KY (y:V)(xs:List V):Option Nat:=xs.findIdx? λz=>eqV z y
theorem OK {x:V}:∀{xs:List V} {us:List Value},Vals xs us->xs.all Fh=true->us.map (eqU x)=xs.map λy=>eqV y x
 | _,_,.nil,_=>rfl
 | y :: xs,u :: us,.cons r t,f=>by
   rw [ul6,uh8] at f;rw [ul7,ul7,Qj r f.1,OK t f.2]
def WR (K:PySem.W.Frag):V->List V->Hp->VK->Prop:=λx vs H Q=>∃p xs y j,x = .ref p/\vs=[y]/\SqL K H p xs/\Fh y=true/\xs.all Fh=true/\KY y xs=some j/\Q (.int (j:Nat)) H
theorem Wl:MtR X "list.index" (WR X.K):=by
 intro pins s σ H x vs v us Q I rx rv h;obtain ⟨p,xs,y,j,rfl,rfl,hq,fy,fs,hj,q⟩:=h
 cases rx
 obtain ⟨u,rfl,ru⟩:=Fl rv;obtain ⟨its,r,pl,hz⟩:=I.list hq;obtain ⟨⟨cl1,dd,dt1,sl⟩,ho,h1,n,h2⟩:=pl.isList;simp only at h1 h2;subst h1 h2;obtain ⟨jl,jt,jn⟩:=ua0.mp hj;have hl:=r.length;have hm:=OK (x:=y) r fs;have at_:∀m (h1:m < its.length) (h2:m < xs.length),eqU y its[m]=eqV xs[m] y:=λm h1 h2=>by
  have e1:(its.map (eqU y))[m]?=some (eqU y its[m]):=by rw [ug6,ub7 h1];rfl
  have e2:(xs.map λz=>eqV z y)[m]?=some (eqV xs[m] y):=by rw [ug6,ub7 h2];rfl
  rw [hm,e2] at e1;exact (uj0 e1).symm
 have hs:its.toArray.size=its.length:=by simp
 refine call_meets PySem.F.slot_list_index ⟨_,ho,rfl⟩ PySem.F.entry_list_index (PySem.F.args_list_index_2 _ _) (SeqAt.list_indexAt p its.toArray n dd sl u (eqU y) j (by lia) ?_ ?_ ?_) ⟨ho,λw hw=>Nn ru fy r fs w (by simpa using hw),⟨.int (j:Nat),H,I.tok _,⟨_,rfl⟩,q⟩⟩
 ·have:sizeLine < 2 ^ 62:=by decide
  lia
 ·rw [List.getElem_toArray,at_ j (by lia) jl];exact jt
 ·intro m hm' hlt;rw [List.getElem_toArray,at_ m (by lia) (by lia)];simpa using jn m hlt
end
section
variable {X:Cx}
end
end L2
namespace F2
open PySem L2 PySem.Spec
def idxM (f:M D)(g:M (List D)):M D:=bnd f λo=>bnd g λas=>match o,as with
 | .lst ds,[y]=>λt=>if GR y=true/\ds.all GR=true then (match KY (toV y) (ds.map toV) with
   | some j=>some (.int (j:Nat),t)
   | none=>none) else none
 | _,_=>fail
theorem RE.idxM {K:PySem.W.Frag}{f:M D}{g:M (List D)}{σ:L2.St}{H:Hp}{Q:VK}(q:RE K (F2.idxM f g) σ H Q):tBM K "list" (WR K) (RE K f) (RA K g) σ H Q:=by
 obtain ⟨Oo,c,t,fi,r,t',eq,k⟩:=q;obtain ⟨d,t1,e1,eq⟩:=Ao eq;obtain ⟨as,t2,e2,eq⟩:=Ao eq;refine ⟨Oo,c,t,fi,d,t1,e1,λv H1 c1 f1 s1 rv=>?_⟩
 split at eq
 ·next ds y=>
  cases rv with
  | @lst p vs ds h1 h2 h3=>
  refine ⟨.inl ⟨rfl,vs,SqL.of h1⟩,Oo,c1,t1,f1,_,t2,e2,λus H2 c2 f2 s2 rus=>?_⟩;obtain ⟨w,rfl,rw'⟩:=Ed rus;have rv2:=(Rep.lst h1 h2 h3).mono s2.ext
  cases rv2 with
  | @lst _ ws _ h1 h2 h3=>
  split at eq
  ·next hf=>
   split at eq
   ·next j ej=>
    cases eq
    refine ⟨p,ws,w,j,rfl,rfl,SqL.of h1,?_,?_,?_,k _ _ c2 f2 (s1.trans s2) (.int _)⟩
    ·rw [Le rw' hf.1];exact M8 _
    ·rw [Ji h3 hf.2,List.all_map,ui3];exact λd _=>M8 d
    ·rw [Le rw' hf.1,Ji h3 hf.2];exact ej
   ·cases eq
  ·cases eq
 ·cases eq
section
variable {X:Cx}{pos:Pos}{e:Expr}{es:List Expr}
theorem M0 {o e:Expr}{es:List Expr}{f:M D}{g:M (List D)}{apos cpos:Pos}(ho:PE X o (RE X.K f))(ha:PA X (e :: es) (RA X.K g))
 (hbase:attributeBase o "index" X.env (eval o X.env)=eval o X.env:=by rfl)
 (hfew:((backTo cpos (starEach (e :: es) X.env)).all (λx=>!x.1) && (backToKw cpos (keywordEach [] X.env)).all (λx=>x.1.isSome) && decide ((e :: es).length + ([]:List Keyword).length + (if ([]:List Keyword).isEmpty then 0 else 1) < 30))=true:=by rfl)
 (hline:(apos.endLine == cpos.line)=true:=by rfl) (hs:starEach (e :: es) X.env=(false,eval e X.env) :: starEach es X.env:=by rfl) (hplain:(backTo cpos (starEach es X.env)).any (·.1)=false:=by rfl) :
 PE X (.Call (.Attribute o "index" apos) (e :: es) [] cpos) (RE X.K (F2.idxM f g)):=
 BC (Ko uc2 PySem.F.slot_list_index PySem.F.type_list_index Wl ho ha hbase hfew hline hs hplain) λ_ _ _ q=>RE.idxM q
end
end F2
namespace L2
open PySem PySem.Spec PyProof.Rows
section
variable {X:Cx}
end
end L2
namespace F2
open PySem L2 PySem.Spec
def HV:List (Int×M D)->M (List (Key×D))
 | []=>ret []
 | (k,f) :: r=>bnd f λd=>bnd (HV r) λps=>ret ((.inl k,d) :: ps)
def Gq (l:List (Int×M D)):M D:=λt=>bnd (HV l) (Fp t.S.length) { t with S:=t.S++[.dct []] }
noncomputable def Pq:List (Key×D)->Option (List Int)
 | []=>some []
 | (.inl k,_) :: r=>(Pq r).map (k :: ·)
 | _=>none
section
variable {K:PySem.W.Frag}{c:Cf}{H:Hp}
theorem KVR.has {us:List (Key×V)}{kvs:List (Key×D)}(r:KVR K c H us kvs)(k:Key):(DY us k).isSome=(BM kvs k).isSome:=by
 unfold KVR at r
 induction r with
 | nil=>rfl
 | @cons p q ps qs h t ih=>
   by_cases hk:p.1=k
   ·have hq:q.1=k:=h.1.symm.trans hk;rw [He hk];simp [BM,uj8,hq]
   ·have hq:¬q.1=k:=λz=>hk (h.1.trans z);have:BM (q :: qs) k=BM qs k:=by simp [BM,uj8,hq]
    rw [this,Hd hk];exact ih
end
section
variable {X:Cx}{pos:Pos}{e b:Expr}
theorem Qn:PE X (.Dict [] [] pos) (RE X.K (Gq [])):=
 BC Sw λσ H Q z9=>by
  obtain ⟨Oo,c,t,fi,r,t',eq,k⟩:=z9;intro p hp;obtain ⟨c1,f1,s1,e1⟩:=fi.newObj (o:=.dct []) (u:=.dK []) hp λc' H' ex hu=>⟨[],hu,.nil⟩;have e2:Gq [] t=some (.obj t.S.length,{ t with S:=t.S++[.dct []] }):=by
   simp [Gq,HV,bnd,F2.ret,Fp,BB]
  rw [e2] at eq
  cases eq
  exact k _ _ c1 f1 s1 (.obj e1)
end
end F2
namespace L2
open PySem PySem.Spec PyProof.Rows
noncomputable def tb (led:Bool)(pl:List Nat):SetTable:={ mask:=7,place:=pl.toArray,dummies:=#[],finger:=0,led:=led,moves:=0,plain:=true }
noncomputable def pls:Nat->List (List Nat)
 | 0=>[[]]
 | k + 1=>(pls k).flatMap λl=>(List.range 8).filterMap λj=>if l.all (· < j) then some (l++[j]) else none
section
variable {P:Program}{w:World}{A:Around}{E:Value->Shared->Prop}{s:Shared}
end
section
variable {P:Program}{w:World}{A:Around}{I:Addr}{fp wr:List Addr}{G:Array GenState->Array GenState->Prop}{n:Nat}{Pr:Nat->Value->Prop}{St:Nat->Shared->Prop}
end
section
variable {P:Program}{w:World}{A:Around}{E:Value->Shared->Prop}{s:Shared}
end
section
variable {prog:Program}{w:World}{A:Around}
end
section
variable {X:Cx}
end
end L2
namespace F2
open PySem L2 PySem.Spec PyProof.Rows
section
variable {X:Cx}{pos:Pos}{e:Expr}
end
end F2
namespace L2
open PySem PySem.Spec PyProof.Rows
section
variable {P:Program}{w:World}{A:Around}{E:Value->Shared->Prop}{s:Shared}
structure ZT (h:Heap)(z TI TO i1 i2 t1 t2:Addr)(n:Nat):Prop where
 zz:IsZip h z TI TO .none
 ti:IsPair h TI (.ref i1) (.ref i2)
 ot:∃a b,IsPair h TO a b
 p1:h.IsTupleIter i1 t1 n
 p2:h.IsTupleIter i2 t2 n
end
section
variable {P:Program}{w:World}{A:Around}{E:Value->Shared->Prop}{s:Shared}
end
def Itz (K:PySem.W.Frag)(a b:Addr):It:=
 ⟨λi H=>∃xs ys x y,SqT K H a xs/\SqT K H b ys/\xs[i]?=some x/\ys[i]?=some y,λi H v H'=>∃p x y,v = .ref p/\H p=none/\(∀xs,SqT K H a xs->xs[i]?=some x)/\(∀ys,SqT K H b ys->ys[i]?=some y)/\H'=upd H p (.tup [x,y]),λi H=>∃xs ys,SqT K H a xs/\SqT K H b ys/\(xs.length<=i\/ys.length<=i)⟩
end L2
namespace F2
open PySem L2 PySem.Spec
noncomputable def Z5:List D->List D->List D
 | x :: xs,y :: ys=>.tup [x,y] :: Z5 xs ys
 | _,_=>[]
section
variable {X:Cx}{e a b tg iter elt:Expr}{ifs:List Expr}{pos:Pos}{scope:Scope}{N':List Str}{n:Nat}{fr:List Nat}{f:M (List D)}{st:D->M Unit}{tst:M Bool}{el:M D}
end
def Gf:List D->M D
 | [.obj k,.ty m]=>λt=>match t.S[k]? with
   | some (.lst _)=>(DF "list" m).map λb=>(.bl b,t)
   | _=>none
 | ds=>DP ds
theorem Jn {K:PySem.W.Frag}:Es K (SJ K) Gf:=λ{Oo c t σ H xs ds r t' Q} f rx eq k=>by
 unfold Gf at eq
 split at eq
 ·next n m=>
  obtain ⟨v,u,rfl,rv,ru⟩:=Ik rx
  cases ru
  cases rv with
  | @obj a kk hk=>
  split at eq
  ·next ds es=>
   obtain ⟨b,e1,e2⟩:=uc9.mp eq
   cases e2
   obtain ⟨us,g1,g2⟩:=f.s.obs _ a _ hk es;exact ⟨.ref a,m,.type "list",b,rfl,.lst g1,Ia (d:=.lst []) rfl e1,k _ H c f .refl (.bl b)⟩
  ·cases eq
 ·exact DV f rx eq k
section
variable {X:Cx}{elt:Expr}{pos:Pos}{e:Expr}{es:List Expr}
end
end F2
namespace L2
open PySem PySem.Spec PyProof.Rows
section
variable {X:Cx}{pins:List (Addr×Obj)}{σ:St}{H:Hp}{s:Shared}{a:Addr}{kvs:List (Key×V)}{o:Obj}
end
section
variable {X:Cx}
end
section
variable {X:Cx}
end
end L2
namespace F2
open PySem L2 PySem.Spec SeqAt
def P1 (K:PySem.W.Frag)(H:Hp)(v w:V):Prop:=∃c dv dw,Rep K c H v dv/\Rep K c H w dw/\eqN EQD dv dw=some true
def VI (K:PySem.W.Frag)(H:Hp)(v w:V):Prop:=P1 K H v w\/∃a b us ts,v = .ref a/\w = .ref b/\H a=some (.dK us)/\H b=some (.dK ts)/\us.length=ts.length/\(∀kv∈us,∃n:Int,kv.1=Sum.inl n)/\(∀kv∈ts,∃n:Int,kv.1=Sum.inl n)/\∀kv∈us,∃z,DY ts kv.1=some z/\P1 K H kv.2 z
def ax (K:PySem.W.Frag)(b:Bool):R2:=λx y H Q=>∃p q vs ws,x = .ref p/\y = .ref q/\H p=some (.lst vs)/\H q=some (.lst ws)/\vs.length=ws.length/\(∀(j:Nat) v w,vs[j]?=some v->ws[j]?=some w->VI K H v w)/\Q (.bl b) H
def ME (S:List Ob)(x y:D):Bool:=Ce (FW S x) && Ce (FW S y) && decide (eqN EQD (FW S x) (FW S y)=some true)
def ad (S:List Ob)(x y:D):Bool:=match x,y with
 | .obj m,.obj n=>match S[m]?,S[n]? with
   | some (.dct kvs),some (.dct lvs)=>kvs.length == lvs.length && (Pq kvs).isSome && (Pq lvs).isSome && kvs.all (λkv=>match BM lvs kv.1 with | some e=>ME S kv.2 e | none=>false)
   | _,_=>ME S x y
 | _,_=>ME S x y
end F2
namespace F2
open PySem L2 PySem.Spec
section
variable {X:Cx}{pos:Pos}
end
end F2
namespace L2
open PySem PySem.Spec PyProof.Rows
structure ZL (h:Heap)(z TI TO i1 i2 t1 t2:Addr)(n:Nat):Prop where
 zz:IsZip h z TI TO .none
 ti:IsPair h TI (.ref i1) (.ref i2)
 ot:∃a b,IsPair h TO a b
 p1:h.IsListIter i1 t1 n
 p2:h.IsListIter i2 t2 n
end L2
namespace F2
open PySem L2 PySem.Spec
section
variable {X:Cx}{a b:Expr}{pos:Pos}
end
end F2
namespace L2
open PySem PySem.Spec PyProof.Rows PySem.W
section
variable {prog:Program}{w:World}{A:Around}{h:Heap}{g:Array GenState}{d:Drawn}{t:Nat}{os:OsState}{R:Result->Shared->Prop}
variable {nm q:Str}{C N fI:Addr}{bs bm bmB:List Value}{hdct:Bool}{sn:List Str}{sub:List Value}{ab:Bool}{col:Option Bool}{dd:Option Addr}{k0 k1 k2 k3 k5:Option Value}{B newId initId:String}{mN:Str->Option Value}
abbrev excObj (C tp:Addr):Obj:={ cls:=.ref C,data:=.fields #[.ref tp,.none,.none,.none,.bool false,.none] }
abbrev Ec (h:Heap)(C:Addr)(us:List Value):Heap:=(h.push { cls:=.type "tuple",data:=.seq us.toArray }).push (excObj C h.objs.size)
theorem Nl (F:ExcBaseFacts B newId initId bmB)(T:OwnTail h bmB bm){us:List Value}(hC:h.get? C=some (excClassObj nm q C N bs bm hdct sn sub ab col dd k0 k1 k2 k3 k5 newId))(hn:h.Ns N mN)(hni:mN "__init__" = some (.ref fI))
 (hb:Looks (model prog w) h (bindSpecial (.ref fI) (.ref (h.objs.size + 1))) (.ref fI,[.ref (h.objs.size + 1)])) (hus:us.length<=sizeLine)
 (hq:codeAny (model prog w) (A.under (.builtin "type.__call__" ⟨.ref C :: us,[]⟩)) (.call (.ref fI) ⟨.ref (h.objs.size + 1) :: us,[]⟩) (InitBack (h.objs.size + 1) R) ⟨Ec h C us,g,d,t,os⟩) :
 codeAny (model prog w) A (.call (.ref C) ⟨us,[]⟩) R ⟨h,g,d,t,os⟩:=by
 have c1:=tc_lookup;have c2:=tc_bind (.ref C);have ty:(⟨h,g,d,t,os⟩:Shared).TypeIs (.ref C) "type":=⟨_,hC,rfl⟩;refine codeAny_of_tree ?_;show wpAny _ _ (callAny (.ref C) _) _ _ _
 repeat (any_goals (first
  | assumption
  | with_reducible refine wpAny_loadPart_at hC ?_
  | wp_step))
 refine ⟨rfl,codeAny_call_builtin_at (Code.quiet_builtin _ (by decide +kernel)) entry_typeCall (wpAny_check_type_call_sub hC ?_)⟩
 repeat (first
  | with_reducible refine wpAny_loadPart_at hC ?_
  | with_reducible refine wpAny_madeBy_exc hC ?_
  | wp_step)
 refine codeAny_call_builtin_code (Code.quiet_builtin _ F.quiet) (wpAny_check_new_subT F T hC (codeAny_exc_new_subT F T hC ?_ hus))
 change wpAny _ _ _ _ _ (Shared.mk (Ec h C us) g d t os)
 have kp:∀b o,h.get? b=some o->(Ec h C us).get? b=some o:=λb o e=>uc5 _ (uc5 _ e);have he:(Ec h C us).get? (h.objs.size + 1)=some { cls:=.ref C,data:=.fields #[.ref h.objs.size,.none,.none,.none,.bool false,.none] }:=by heap_get
 have n1:(Ec h C us).Ns N mN:=hn.keeps kp;have cC:(Value.ref C :: bm).contains (.ref C)=true:=by simp
 unfold isInstance
 repeat (first
  | with_reducible refine wpAny_loadPart_at he ?_
  | (with_reducible refine wpAny_isSubtype_exc (kp _ _ hC) ?_;rw [cC])
  | wp_step)
 show wpAny _ _ (typeLookup (.ref C) _) _ _ _;refine wpAny_typeLookup_tail (kp _ _ hC) n1 (T.keeps kp) F.mroIs F.init.lookup ?_;rw [hni];refine um2 (uo0 ((hb.keeps kp).at ?_));refine uo0 (wpAny_call (codeAny_mono hq λr s' z=>?_))
 cases r with
 | error e=>exact z
 | ok f=>
   cases f with
   | ret v=>
     obtain ⟨rfl,z⟩:=z;exact uo1 (uo1 z)
   | _=>exact z.elim
end
end L2
namespace L2
open PySem PySem.Spec PyProof.Rows PySem.W PySem.Builtin PySem.Builtin.ObjectAttr
theorem Q8 (self:Value):refuseLoop self "__setattr__" [.type "ValueError",.type "Exception",.type "BaseException",.type "object"]=pure ():=by
 kernel_rfl
abbrev F4 (C P:Addr):List Value:=[.ref C,.ref P,.type "ValueError",.type "Exception",.type "BaseException",.type "object"]
theorem Kp (self:Value)(C P:Addr):refuseLoop self "__setattr__" (F4 C P)=pure ():=by
 rw [F4,refuseLoop_ref,refuseLoop_ref];exact Q8 self
section
variable {prog:Program}{w:World}{A:Around}{s:Shared}{K:PySem.W.Frag}{x C P tp:Addr}{R:Result->Shared->Prop}{name:Str}{v:Value}{tk:Tok}{cd:ClassData}
theorem UM (X:K.In s.heap)(hx:s.heap.get? x=some (excObj C tp))(hc:clsIn K C=some cd)(hmr:cd.mro=F4 C P)(ha:findIn K (.ref C) name=some none)
 (h:wpAny (model prog w) A.in1 (storeInOwnDict (.ref x) (.ref C) (.str name tk) name v false) (λfin s'=>match fin with | .done f=>R (.ok f) s' | .again c'=>c'.quiet=true/\codeAny (model prog w) A c' R s') (λe s'=>R (.error e) s') s) :
 codeAny (model prog w) A (.call (.builtin "object.__setattr__") ⟨[.ref x,.str name tk,v],[]⟩) R s:=by
 have SF:=PySem.F.store_object;have I:InstAt s.heap x (excObj C tp) C none:=⟨hx,rfl,rfl,trivial⟩;have ob:Looks (model prog w) s.heap (isInstance (.ref x) (.type "object")) true:=I.type.andThen (looks_mroIn X (by unfold mroIn;rw [hc,Option.bind_some,hmr];rfl));refine codeAny_call_builtin SF.slot.plain SF.entry (@check_slot (model prog w) _ _ s "object.__setattr__" "object" "__setattr__" (.ref x) [.str name tk,v] [] _ SF.kind SF.split ob (SF.args (.ref x) (.str name tk) v) ?_);have mr:Looks (model prog w) s.heap (mroOf (.ref C)) (F4 C P):=by rw [<-hmr];exact (looks_clsIn X hc).andThen .now
 rw [osa_eq,refuse_eq];refine uo0 (uo0 (I.type.here (uo0 (mr.here ?_))));rw [Kp];refine uo1 (uo0 (I.type.here (uo0 ((looks_findIn X ha).here ?_))));exact uo0 (uo1 h)
theorem Vl {E:Value->Shared->Prop}{Q:Unit->Shared->Prop}(X:K.In s.heap)(hx:s.heap.get? x=some (excObj C tp))(hs:findIn K (.ref C) "__setattr__" = some (some (.builtin "object.__setattr__")))(hc:clsIn K C=some cd)(hmr:cd.mro=F4 C P)(hd:cd.hasDict=true)(ha:findIn K (.ref C) name=some none)
 (h:∀h',(∀b o,b≠x->s.heap.get? b=some o->h'.get? b=some o)->h'.get? x=some { excObj C tp with dict:=some s.heap.objs.size }->h'.Ns1 s.heap.objs.size (λy=>if y=name then some v else none)->Q () { s with heap:=h',toks:=s.toks + 2 }) :
 wpAny (model prog w) A (setAttr (.ref x) name v) Q E s:=by
 have I:InstAt s.heap x (excObj C tp) C none:=⟨hx,rfl,rfl,trivial⟩;refine set_plain X I hs (UM (s:={ s with toks:=s.toks + 1 }) X hx hc hmr ha ?_);refine uo0 (uo1 (uo0 (uo0 (wpAny_loadPart (s:={ s with toks:=s.toks + 1 }) hx (uo0 (Looks.here (s:={ s with toks:=s.toks + 1 }) (looks_clsIn X hc) ?_))))));rw [hd,if_neg (by decide)];show wpAny _ _ (alloc _ >>= λdx=>update x _ >>= λ_=>pure (some dx)) _ _ _;have hx1:(s.heap.push emptyDict).get? x=some (excObj C tp):=uc5 _ hx;have hne:s.heap.objs.size≠x:=um7 (um3 hx);refine uo0 (wpAny_alloc (s:={ s with toks:=s.toks + 1 }) (uo0 (wpAny_update hx1 (uo1 ?_))));have hx2:((s.heap.push emptyDict).update x λo=>{ o with dict:=some s.heap.objs.size }).get? x=some { excObj C tp with dict:=some s.heap.objs.size }:=ud7 _ hx1 rfl;have hk:∀b o,b≠x->s.heap.get? b=some o->((s.heap.push emptyDict).update x λo=>{ o with dict:=some s.heap.objs.size }).get? b=some o:=λb o hb e=>(uc8 _ _ (Ne.symm hb)).trans (uc5 _ e);have hdx:((s.heap.push emptyDict).update x λo=>{ o with dict:=some s.heap.objs.size }).get? s.heap.objs.size=some emptyDict:=(uc8 _ _ (Ne.symm hne)).trans (ue6 _ rfl);have n1:((s.heap.push emptyDict).update x λo=>{ o with dict:=some s.heap.objs.size }).Ns1 s.heap.objs.size λ_=>none:=⟨_,#[],_,hdx,rfl,(λe he=>by simp at he),(by simp [UniqKeys]),λ_=>rfl⟩;refine uo0 (uo1 (uo0 ?_));refine wpAny_nsSet1 n1 λh' n2 sb=>?_;obtain ⟨oD,esD,epD,hoD,hdD,hcD⟩:=n2.count (PySem.Within.cons name v (ns:=[]) (λy u=>absurd rfl u));refine uo0 (wpAny_lookBehind hoD (by rw [hdD];exact pastItsLine_dict (um5 hcD (by show 1<=_;decide))) ?_);exact uo1 (h h' (λb o hb e=>by
  by_cases hb2:b=s.heap.objs.size
  ·subst hb2;exact absurd (um3 e) (ul3 _)
  ·exact (sb.2 b hb2).trans (hk b o hb e)) ((sb.2 x (Ne.symm hne)).trans hx2) n2)
end
end L2
namespace L2
open PySem PySem.Spec PyProof.Rows PySem.W
variable {qx:Bool}
def XRec (qx:Bool)(h:Heap)(x C:Addr)(dx:Option Addr)(tb:Value):Prop:=∃(o:Obj) (vs:Array Value),h.get? x=some o/\o.cls = .ref C/\o.dict=dx/\o.data = .fields vs/\vs[1]?=some tb/\(qx=true->vs[2]?=some .none/\4 < vs.size)
theorem VY {qx:Bool}{vs:Array Value}{v:Value}(h:qx=true->vs[2]?=some .none/\4 < vs.size):qx=true->(vs.setIfInBounds 1 v)[2]?=some .none/\4 < (vs.setIfInBounds 1 v).size:=λz=>by
 rw [ua2 (by decide),ub8];exact h z
theorem XRec.to {qx:Bool}{h:Heap}{x C:Addr}{dx:Option Addr}{tb:Value}(r:XRec true h x C dx tb):XRec qx h x C dx tb:=by
 obtain ⟨o,vs,h1,h2,h3,h4,h5,h6⟩:=r;exact ⟨o,vs,h1,h2,h3,h4,h5,λ_=>h6 rfl⟩
def XTb (h:Heap)(T:Addr):Prop:=∃(o:Obj) (ts:Array Value),h.get? T=some o/\o.data = .fields ts/\ts[3]?=some .none
structure XKeep (fs ch:List Addr)(h h':Heap):Prop where
 keep:∀b o,b∉ch->b∉fs->h.get? b=some o->h'.get? b=some o
 slot:∀b o,b∉ch->h.get? b=some o->∃sl,h'.get? b=some { o with slots:=sl }
section
variable {M:Model}{A:Around}{E:Value->Shared->Prop}{s:Shared}{env:Env}{outer:List Env}{base:Heap}{L x C:Addr}{dx:Option Addr}{tb:Value}{Q:Unit->Shared->Prop}
theorem FO {o:Obj}{vs:Array Value}(hd:o.data = .fields vs)(f:Array Value->Array Value):(o.mapFields f).data = .fields (f vs)/\(o.mapFields f).cls=o.cls/\(o.mapFields f).dict=o.dict:=by
 obtain ⟨c,d,dt,sl⟩:=o
 cases hd
 exact ⟨rfl,rfl,rfl⟩
end
end L2
namespace L2
open PySem PySem.Spec PyProof.Rows PySem.W
variable {qx:Bool}
abbrev VE:List Value:=[.type "ValueError",.type "Exception",.type "BaseException",.type "object"]
structure XCl (K:PySem.W.Frag)(C:Addr)(bm:List Value):Prop where
 ex:∃cd dd k0 k1 k2 k3 k5,K.lookup C=some { cls:=.type "type",dict:=dd,data:=.cls cd,slots:=#[k0,k1,k2,k3,some (.builtin "ValueError.__new__"),k5] }/\cd.mro = .ref C :: bm/\cd.hasDel=false/\cd.hasDict=true/\nsOkIn K cd.ns=true
 tl:tailIn K VE bm=true
noncomputable def Mt (K:PySem.W.Frag)(C:Addr)(bm:List Value):Bool:=tailIn K VE bm && match K.lookup C with
 | some ⟨.type "type",_,.cls cd,sl⟩=>(match sl.toList with
   | [_,_,_,_,some (.builtin n),_]=>n == "ValueError.__new__" && cd.mro == .ref C :: bm && !cd.hasDel && cd.hasDict && nsOkIn K cd.ns
   | _=>false)
 | _=>false
variable {K:PySem.W.Frag}{C:Addr}{bm:List Value}
theorem XCl.of_in (q:Mt K C bm=true):XCl K C bm:=by
 unfold Mt at q;rw [uh8] at q;refine ⟨?_,q.1⟩;have q:=q.2
 split at q
 ·rename_i dd cd sl ho
  split at q
  ·rename_i k0 k1 k2 k3 n k5 hs;simp only [uh8,beq_iff_eq,Bool.not_eq_true'] at q;obtain ⟨⟨⟨⟨rfl,h1⟩,h2⟩,h3⟩,h4⟩:=q;have hsl:sl=#[k0,k1,k2,k3,some (.builtin "ValueError.__new__"),k5]:=by
    cases sl
    exact congrArg Array.mk hs
   exact ⟨cd,dd,k0,k1,k2,k3,k5,by rw [ho,hsl],h1,h2,h3,h4⟩
  ·cases q
 ·cases q
theorem XCl.obj {K:PySem.W.Frag}{C:Addr}{bm:List Value}{h:Heap}(c:XCl K C bm)(X:K.In h):∃nm q N bs sn sub ab col dd k0 k1 k2 k3 k5,h.get? C=some (excClassObj nm q C N bs bm true sn sub ab col dd k0 k1 k2 k3 k5 "ValueError.__new__")/\h.Ns N (h.nsMap N):=by
 obtain ⟨⟨nm,bs,mro,ns,qn,hd,sn,sub,ab,col,del⟩,dd,k0,k1,k2,k3,k5,h1,h2,h3,h4,h5⟩:=c.ex;dsimp only at h2 h3 h4 h5;subst h2 h3 h4;exact ⟨nm,qn,ns,bs,sn,sub,ab,col,dd,k0,k1,k2,k3,k5,X _ _ h1,.of_isNs (isNs_of_in X h5)⟩
variable {h:Heap}
theorem XCl.tail (c:XCl K C bm)(X:K.In h):OwnTail h VE bm:=tail_of_in X c.tl
theorem XCl.has (c:XCl K C bm)(X:K.In h):(Value.ref C :: bm).contains (.type "BaseException")=true:=by
 rw [List.contains_cons,(c.tail X).hasType (b:=true) (by decide +kernel),Bool.or_true]
section
variable {M:Model}{A:Around}{E:Value->Shared->Prop}{env:Env}{K:PySem.W.Frag}{C:Addr}{bm:List Value}{s:Shared}
theorem SM {t:Sem Value}{Q:Flow->Shared->Prop}(c:XCl K C bm)(hh:A.handled=none)
 (h:wpAny M A t (λv s1=>∃x dx,v = .ref x/\K.In s1.heap/\XRec qx s1.heap x C dx .none/\E v s1) E s):wpAny M A (raiseStmt env (some t) none) Q E s:=by
 unfold raiseStmt;refine uo0 (uo2 h (λv s1 q=>?_) λ_ _ z=>z);obtain ⟨x,dx,rfl,X,⟨o,vs,hx,hc,hd,hdt,h1,_⟩,hE⟩:=q;obtain ⟨nm,q,N,bs,sn,sub,ab,col,dd,k0,k1,k2,k3,k5,hC,_⟩:=c.obj X;have hb:=c.has X;obtain ⟨hp,g,d,tk,os⟩:=s1
 repeat (first
  | (with_reducible refine wpAny_loadPart_at hx ?_;rw [hc])
  | with_reducible refine wpAny_loadPart_at hC ?_
  | (with_reducible refine wpAny_isSubtype_exc hC ?_;rw [hb])
  | with_reducible refine un9 hx hdt h1 ?_
  | wp_step)
 exact wpAny_raiseNew_none hh hE
end
def CX1 (qx:Bool)(P:Program)(w:World):CXT:=λouter H s E e s'=>∃(x C:Addr) (dx:Option Addr) (T:Addr) (H':Hp),e = .ref x/\s'.os=s.os/\AllBare s'.gens/\Un (frs outer) [] H H' s.heap s'.heap/\HOk P w H' s'.heap/\
 H' x=some (.ext (F2.XIs qx x C dx))/\s.heap.objs.size<=x/\s.heap.objs.size<=T/\T≠x/\H' T=none/\XRec qx s'.heap x C dx (.ref T)/\XTb s'.heap T/\E (.ref x) dx H'
variable {x:Addr}{dx:Option Addr}
theorem XRec.is {tb:Value}(r:XRec qx h x C dx tb):F2.XIs qx x C dx h:=by
 obtain ⟨o,vs,h1,h2,h3,h4,_,h5⟩:=r;exact ⟨o,vs,h1,h2,h3,h4,h5⟩
theorem XIs.stay {h1 h2:Heap}(r:F2.XIs qx x C dx h1)(k:∀o,h1.get? x=some o->h2.get? x=some o):F2.XIs qx x C dx h2:=by
 obtain ⟨o,vs,e,q⟩:=r;exact ⟨o,vs,k o e,q⟩
theorem JN {P:Program}{w:World}{H:Hp}(r:F2.XIs qx x C dx h):ObjOk P w H h x (.ext (F2.XIs qx x C dx)):=
 ⟨r,let ⟨o,_,e,_⟩:=r;⟨o,e⟩,λ_ _ q k=>XIs.stay q k⟩
section
variable {X:Cx}{pins:List (Addr×Obj)}{σ:St}{H H':Hp}{s s':Shared}{h':Heap}{x C T:Addr}{dx:Option Addr}{ch:List Addr}
theorem Tc (k:XKeep (frs X.stack) ch s.heap h')(hT:∀b∈ch,b=x\/b=T):Un (frs X.stack) (x :: T :: []) H H s.heap h':=by
 have nch:∀b:Addr,b∉(x :: T :: [])->b∉ch:=λb hb z=>hb (by rcases hT b z with rfl | rfl <;> simp);refine ⟨λb o e n hb hx=>k.keep b o (nch b hx) hb e,λb o e n hb hx=>k.slot b o (nch b hx) e,λb o e n _=>n,λb o e hx=>?_,λ_ _ e=>e,λ_ _ _ e=>e,λb ps e=>⟨#[],by rw [e];simp⟩⟩;obtain ⟨sl,q⟩:=k.slot b o (nch b hx) e;exact ⟨_,q⟩
theorem Inv.left (I:Inv X pins σ H s)(hx:H x=some (.ext (F2.XIs qx x C dx)))(hT:H T=none)(nx:X.s₀.heap.objs.size<=x)(nT:X.s₀.heap.objs.size<=T)(k:XKeep (frs X.stack) ch s.heap h')(hc:∀b∈ch,b=x\/b=T)(r:F2.XIs qx x C dx h')
 (oT:∀y c,X.env.cells.lookup y=some c->c≠T) (lT:T≠X.env.locals) (pT:∀p∈X.pn++pins,p.1≠T):Inv X pins σ H { s with heap:=h' }:=by
 have nfr:∀b u,H b=some u->b∉frs X.stack:=λb u e z=>by rw [I.stkFree b z] at e;cases e
 refine I.call (g':=s.gens) (t':=s.toks) (d':=s.drawn) (ch:=[x,T]) (Tc k hc) (λb u e=>?_) I.bare λb hb=>?_
 ·by_cases hb:b=x
  ·subst hb;rw [hx] at e;cases e;exact JN r
  ·refine (I.hok b u e).stay (λc v hcc q=>k.keep c v ?_ ?_ q) (λ_ q=>q) λ_ _ q=>q
   ·intro z;rcases hcc with rfl | hcc
    ·rcases hc c z with q | q
     ·exact hb q
     ·rw [q,hT] at e;cases e
    ·rcases hc c z with q | q
     ·rw [q,hx] at hcc;cases hcc
     ·rw [q,hT] at hcc;cases hcc
   ·rcases hcc with rfl | hcc
    ·exact nfr _ _ e
    ·exact nfr _ _ hcc
 ·have q:b=x\/b=T:=by simpa using hb
  rcases q with rfl | rfl
  ·exact ⟨.inr nx,(λz=>by rw [z,I.free] at hx;cases hx),(λy c e z=>by subst z;rw [I.freeC y c e] at hx;cases hx),λp hp z=>by rw [<-z,(I.pin p hp).2.1] at hx;cases hx⟩
  ·exact ⟨.inr nT,lT,oT,pT⟩
theorem Inv.raised (I:Inv X pins σ H s){E:XK}{e:Value}(q:CX1 qx X.prog X.w X.stack H s E e s'):∃(x C:Addr) (dx:Option Addr) (T:Addr) (H':Hp),e = .ref x/\Inv X pins σ H' s'/\H' x=some (.ext (F2.XIs qx x C dx))/\s.heap.objs.size<=x/\s.heap.objs.size<=T/\T≠x/\H' T=none/\XRec qx s'.heap x C dx (.ref T)/\XTb s'.heap T/\E (.ref x) dx H':=by
 obtain ⟨x,C,dx,T,H',he,os,bare,un,hok,hx,nx,nT,ne,hT,r,tb,q⟩:=q;obtain ⟨hh,g,d,t,os'⟩:=s';obtain rfl:os'=s.os:=os;exact ⟨x,C,dx,T,H',he,I.call (h':=hh) (g':=g) (d':=d) (t':=t) (ch:=[]) un hok bare (λb z=>absurd z (by simp)),hx,nx,nT,ne,hT,r,tb,q⟩
theorem Inv.newT (I:Inv X pins σ H s)(h:s.heap.objs.size<=T):T≠X.env.locals/\(∀y c,X.env.cells.lookup y=some c->c≠T)/\∀p∈X.pn++pins,p.1≠T:=by
 have far:∀b o,s.heap.get? b=some o->b≠T:=λb o e z=>absurd (uf2 (um3 e) h) (by rw [z];exact ul3 _);refine ⟨λz=>absurd I.lt (by rw [<-z];exact Nat.not_lt.mpr h),λy c e=>?_,λp hp=>far _ _ (I.pin p hp).1⟩;obtain ⟨v,o,ho,_⟩:=I.cell y c e;exact far c o ho
end
section
variable {P:Program}{w:World}{K:PySem.W.Frag}{mg:Str->Option Value}{base:Heap}{N:List Str}{qual:Str}{scope:Scope}{f:Addr}{cd:Value}{A:Around}{outer:List Env}{s₀:Shared}{H₀:Hp}{E:XK}
end
end L2
namespace L2
open PySem PySem.Spec PyProof.Rows PySem.W
noncomputable def exO (x C tp:Addr):HO:=.ext λh=>h.get? x=some (excObj C tp)
noncomputable def Ge (x C tp dx:Addr):HO:=.ext λh=>h.get? x=some { excObj C tp with dict:=some dx }
theorem Qk {P:Program}{w:World}{H:Hp}{h:Heap}{x C tp:Addr}(e:h.get? x=some (excObj C tp)):ObjOk P w H h x (exO x C tp):=⟨e,⟨_,e⟩,λ_ _ p k=>k _ p⟩
theorem Ua {P:Program}{w:World}{H:Hp}{h:Heap}{x C tp dx:Addr}(e:h.get? x=some { excObj C tp with dict:=some dx }):ObjOk P w H h x (Ge x C tp dx):=⟨e,⟨_,e⟩,λ_ _ p k=>k _ p⟩
structure XAt (K:PySem.W.Frag)(C P:Addr)(f:Str):Prop where
 cl:XCl K C (.ref P :: VE)
 set:findIn K (.ref C) "__setattr__" = some (some (.builtin "object.__setattr__"))
 no:findIn K (.ref C) f=some none
theorem XCl.cls {K:PySem.W.Frag}{C:Addr}{bm:List Value}(c:XCl K C bm):∃cd,clsIn K C=some cd/\cd.mro = .ref C :: bm/\cd.hasDict=true:=by
 obtain ⟨cd,dd,k0,k1,k2,k3,k5,h1,h2,_,h4,_⟩:=c.ex;exact ⟨cd,by unfold clsIn;rw [h1],h2,h4⟩
def sXF (K:PySem.W.Frag)(P:Addr)(ta tv:TE)(f:Str):TS:=λD σ H=>tv σ H λy H1=>ta σ H1 λx H2=>∃a C tp,x = .ref a/\H2 a=some (exO a C tp)/\XAt K C P f/\
 ∀dx,H2 dx=none->dx≠a->D.nx σ (upd (upd H2 dx (.xd [(f,y)])) a (Ge a C tp dx))
theorem Tx {X:Cx}{P:Addr}{o value:Expr}{ta tv:TE}{f:Str}{pos' pos:Pos}(ha:PE X o ta)(hv:PE X value tv)(hs:swapsWith value (some (.Attribute o f pos')) pos.line X.env=pure false):PS X (.Assign [.Attribute o f pos'] value pos) (sXF X.K P ta tv f):=by
 intro pins s σ H D I h;refine plainObj_wpAny_Assign_Attribute (thn (hv pins s σ H _ I h) λu s1 ⟨y,H1,I1,ry,q⟩=>thn (ha pins s1 σ H1 _ I1 q) λov s2 z9=>?_) hs;obtain ⟨x,H2,I2,rx,a,C,tp,ex,ea,c,q2⟩:=z9;subst ex;obtain rfl:ov=Value.ref a:=rx;obtain ⟨cd,c1,c2,c3⟩:=c.cl.cls;have hx:s2.heap.get? a=some (excObj C tp):=(I2.hok a _ ea).1;refine Vl I2.kIn hx c.set c1 c2 c3 c.no λh' k e n=>?_;have fr:=I2.hok.fresh (un6 s2.heap.objs.size);have ne:s2.heap.objs.size≠a:=(λz=>by rw [z,ea] at fr;cases fr)
 have nn:∀b u,H2 b=some u->b≠s2.heap.objs.size:=λb u z=>Bg z fr;have na:∀b u,s2.heap.get? b=some u->H2 b=none->b≠a:=λb u _ z w'=>by rw [w',ea] at z;cases z
 refine ⟨σ,_,I2.un (h':=h') (t':=s2.toks + 2) ⟨λb u e1 e2 _ _=>k b u (na b u e1 e2) e1,λb u e1 e2 _ _=>⟨u.slots,k b u (na b u e1 e2) e1⟩,λb u e1 e2 _=>?_,λb u e1 _=>?_,λb xs e1=>?_,λb o' u e1=>?_,λb ps e1=>⟨#[],?_⟩⟩ λb u e1=>?_,q2 s2.heap.objs.size fr ne⟩
 ·rw [Ar (na b u e1 e2),Ar (um4 (um3 e1))];exact e2
 ·by_cases hb:b=a
  ·subst hb;exact ⟨_,e⟩
  ·exact ⟨_,k b u hb e1⟩
 ·rw [Ar (λz=>by rw [z,ea] at e1;cases e1),Ar (nn _ _ e1)];exact e1
 ·rw [Ar (λz=>by rw [z,ea] at e1;cases e1),Ar (nn _ _ e1)];exact e1
 ·rw [Ar (λz=>by rw [z,ea] at e1;cases e1),Ar (nn _ _ e1),e1];simp
 ·by_cases hb:b=a
  ·subst hb;rw [Ax] at e1;cases e1;exact Ua e
  ·rw [Ar hb] at e1
   by_cases hb2:b=s2.heap.objs.size
   ·subst hb2;rw [Ax] at e1;cases e1
    refine ⟨_,n,λg=>?_⟩
    by_cases hg:g=f
    ·subst hg;simp only [List.lookup,ui8,if_true];exact ry
    ·have hgb:(g == f)=false:=beq_eq_false_iff_ne.mpr hg;simp only [List.lookup,hgb,if_neg hg];trivial
   ·rw [Ar hb2] at e1;refine (I2.hok b u e1).stay (λz v hz q=>k z v ?_ q) (λz q=>?_) λz xs q=>?_
    ·rcases hz with rfl | hz
     ·exact hb
     ·intro w';rw [w',ea] at hz;cases hz
    ·rw [Ar (λz=>by rw [z,ea] at q;cases q),Ar (nn _ _ q)];exact q
    ·rw [Ar (λz=>by rw [z,ea] at q;cases q),Ar (nn _ _ q)];exact q
variable {qx:Bool}
theorem Kg {K:PySem.W.Frag}{h:Heap}{N:Addr}{m:Str->Option Value}{n:Str}{v:Value}(X:K.In h)(G:h.Ns N m)(e:nsIn K N n=some (some v)):m n=some v:=by
 obtain ⟨o,es,ep,ho,hd,_,hf⟩:=G;unfold nsIn at e
 split at e
 ·next c d es' n' sl q=>
  have z:=X _ _ q;rw [ho] at z
  cases z
  cases hd
  split at e
  ·next en he=>
   rw [<-hf];unfold nsFind findBy;rw [<-uf5,he];simpa using e
  ·split at e <;> cases e
 ·cases e
structure XMk (K:PySem.W.Frag)(C P f:Addr):Prop where
 cl:XCl K C (.ref P :: VE)
 init:∃cd,clsIn K C=some cd/\nsIn K cd.ns "__init__" = some (some (.ref f))
 fn:isFn K (.ref f)=true
 kp:keepIn K (.ref C)=true
section
variable {X:Cx}{k:Nat}{f C P:Addr}{fd:FuncData}{pins:List (Addr×Obj)}{σ:St}{H:Hp}{s:Shared}{Q:Value->Shared->Prop}{us:List Value}{vs:List V}{a:Str}{ps:List Str}{v:V}{u:Value}
end
end L2
namespace L2
open PySem PySem.Spec PyProof.Rows PySem.W
variable {qx:Bool}
section
variable {M:Model}{A:Around}{E:Value->Shared->Prop}{K:PySem.W.Frag}{s:Shared}{x C C':Addr}{bm bm':List Value}{dx:Option Addr}{tb:Value}
theorem Nm {Q:Bool->Shared->Prop}(c:XCl K C bm)(c':XCl K C' bm')(X:K.In s.heap)(hx:XRec qx s.heap x C dx tb)(h:Q ((Value.ref C :: bm).contains (.ref C')) s):wpAny M A (excMatches (.ref x) (.ref C')) Q E s:=by
 obtain ⟨nm,q,N,bs,sn,sub,ab,col,dd,k0,k1,k2,k3,k5,hC,_⟩:=c.obj X;obtain ⟨nm',q',N',bs',sn',sub',ab',col',dd',k0',k1',k2',k3',k5',hC',_⟩:=c'.obj X;have hb:=c'.has X;obtain ⟨o,vs,ho,hc,hd,hdt,h1⟩:=hx;obtain ⟨hp,g,d,tk,os⟩:=s;have ty:(⟨hp,g,d,tk,os⟩:Shared).TypeIs (.ref C') "type":=⟨_,hC',rfl⟩;have nt:=tc_notTuple
 cases hbb:(Value.ref C :: bm).contains (.ref C') <;> (
  rw [hbb] at h;unfold excMatches
  repeat (first
   | (with_reducible refine wpAny_loadPart_at ho ?_;rw [hc])
   | with_reducible refine wpAny_loadPart_at hC' ?_
   | (with_reducible refine wpAny_isSubtype_exc hC' ?_;rw [hb])
   | (with_reducible refine wpAny_isSubtype_exc hC ?_;rw [hbb])
   | wp_step)
  exact h)
end
end L2
namespace L2
open PySem PySem.Spec PyProof.Rows PySem.W
variable {qx:Bool}
def RN (h:Heap)(T:Addr)(fl:Value):Prop:=∃(o:Obj) (ts:Array Value),h.get? T=some o/\o.data = .fields ts/\ts[3]?=some fl
section
variable {M:Model}{A:Around}{E:Value->Shared->Prop}{s:Shared}{env:Env}{outer:List Env}{base:Heap}{L x C:Addr}{dx:Option Addr}{tb:Value}{Q:Unit->Shared->Prop}
theorem Lz {hadNext:Bool}{hd:Value}(hfr:A.frames=some (env :: outer))(hl:s.heap.FunFrames base (env :: outer))(hf:env.frame=some L)(hx:XRec qx s.heap x C dx tb)
 (h:∀h' T,s.heap.objs.size<=T->T≠x->XRec qx h' x C dx (.ref T)->RN h' T (rawInt L)->XKeep (frs (env :: outer)) [x] s.heap h'->Q () { s with heap:=h' }) :
 wpAny M A (do let fo <-frameOf env;let at' <-entryPlaceOf L hadNext;let en <-EntryCells.newEntry hd fo .none (rawInt L) .none at';setField (.ref x) 1 en) Q E s:=by
 obtain ⟨ox,vs,gx,cx,dxe,dtx,tbx,xc⟩:=hx;have v1:1 < vs.size:=(ua9.mp tbx).1;have nfr:x∉frs (env :: outer):=λz=>by
  obtain ⟨_,o2,g2,n2⟩:=hl.mem z;rw [gx] at g2;cases g2
  exact n2 vs dtx
 refine uo0 (wpAny_frameOf_fun hfr hl hf λh1 so=>?_);refine uo0 (wpAny_entryPlaceOf λat' ip=>?_);unfold EntryCells.newEntry newFields;refine uo0 (wpAny_newObj_type ?_ (ip.sizeOk5 _ _ _ _ _));generalize hne:(Obj.mk (Value.type "traceback") none (Data.fields ([hd,Value.ref L,Value.none,rawInt L,Value.none]++if at'.isEmpty=true then List.replicate 6 Value.none else at').toArray) #[])=nob;have dn:nob.data = .fields ([hd,Value.ref L,Value.none,rawInt L,Value.none]++if at'.isEmpty=true then List.replicate 6 Value.none else at').toArray:=by rw [<-hne]
 have gx1:h1.get? x=some ox:=(so.2.1 x nfr).trans gx;have gx2:(h1.push nob).get? x=some ox:=uc5 _ gx1;have nex:h1.objs.size≠x:=um7 (um3 gx1);refine wpAny_setField gx2 dtx v1 ?_;obtain ⟨m1,m2,m3⟩:=FO dtx (·.setIfInBounds 1 (Value.ref h1.objs.size));have gx3:=ud7 (Obj.mapFields (·.setIfInBounds 1 (Value.ref h1.objs.size))) gx2 (Obj.isFreed_of_fields m1);have gT2:(h1.push nob).get? h1.objs.size=some nob:=ue6 h1 (Obj.isFreed_of_fields dn);have gT3:=(uc8 (h1.push nob) (Obj.mapFields (·.setIfInBounds 1 (Value.ref h1.objs.size))) (Ne.symm nex)).trans gT2;have vx:(vs.setIfInBounds 1 (Value.ref h1.objs.size))[1]?=some (.ref h1.objs.size):=by simp [v1]
 have old:∀b o,b≠x->h1.get? b=some o->((h1.push nob).update x (Obj.mapFields (·.setIfInBounds 1 (Value.ref h1.objs.size)))).get? b=some o:=λb o hb e=>by
  rw [uc8 _ _ (Ne.symm hb)];exact uc5 _ e
 refine h _ h1.objs.size (Nat.le_of_eq so.1.symm) nex ⟨_,_,gx3,m2.trans cx,m3.trans dxe,m1,vx,VY xc⟩ ⟨_,_,gT3,dn,?_⟩ ⟨λb o hb hbf e=>old b o (λz=>hb (by simp [z])) ((so.2.1 b hbf).trans e),λb o hb e=>?_⟩
 ·rw [List.getElem?_toArray];rfl
 ·obtain ⟨sl,e1⟩:=so.2.2 b o e;exact ⟨sl,old b _ (λz=>hb (by simp [z])) e1⟩
end
structure XOn (qx:Bool)(X:Cx)(pins:List (Addr×Obj))(H:Hp)(s:Shared)(x C:Addr)(dx:Option Addr)(T:Option Addr)(fl:Value):Prop where
 hx:H x=some (.ext (F2.XIs qx x C dx))
 nx:X.s₀.heap.objs.size<=x
 rc:XRec qx s.heap x C dx (match T with | some a=>.ref a | none=>.none)
 tb:∀a,T=some a->a≠x/\H a=none/\X.s₀.heap.objs.size<=a/\(a≠X.env.locals/\(∀y c,X.env.cells.lookup y=some c->c≠a)/\∀p∈X.pn++pins,p.1≠a)/\RN s.heap a fl
 fo:fl = .none\/fl=rawInt X.env.locals
section
variable {M:Model}{A:Around}{Er:Value->Shared->Prop}{X:Cx}{pins:List (Addr×Obj)}{σ:St}{H:Hp}{s:Shared}{x C:Addr}{dx T:Option Addr}{fl:Value}{Q:Unit->Shared->Prop}
theorem EQ (fr:Option Addr)(I:Inv X pins σ H s){a:Addr}(o:XOn qx X pins H s x C dx (some a) fl)(hfr:fr=none\/fr=some X.env.locals)
 (k:∀h',Inv X pins σ H { s with heap:=h' }->XOn qx X pins H { s with heap:=h' } x C dx (some a) (fr.elim Value.none λf=>rawInt f)->Q () { s with heap:=h' }):wpAny M A (setFlight (.ref x) fr) Q Er s:=by
 obtain ⟨ox,vs,gx,cx,dxe,dtx,tbx,xc⟩:=id o.rc;obtain ⟨ne,hT,nT,oT,ot,ts,gT,dT,t3⟩:=o.tb a rfl;unfold setFlight;refine uo0 (un9 gx dtx tbx ?_);rw [if_pos (show (Value.ref a != Value.none)=true from rfl)];refine wpAny_setField gT dT (ua9.mp t3).1 ?_;obtain ⟨m1,m2,m3⟩:=FO dT (·.setIfInBounds 3 (fr.elim Value.none λf=>rawInt f));have gT2:=ud7 (Obj.mapFields (·.setIfInBounds 3 (fr.elim Value.none λf=>rawInt f))) gT (Obj.isFreed_of_fields m1);have oth:∀b,b≠a->(s.heap.update a (Obj.mapFields (·.setIfInBounds 3 (fr.elim Value.none λf=>rawInt f)))).get? b=s.heap.get? b:=λb z=>uc8 _ _ (Ne.symm z);have rc':XRec qx (s.heap.update a (Obj.mapFields (·.setIfInBounds 3 (fr.elim Value.none λf=>rawInt f)))) x C dx (.ref a):=⟨ox,vs,(oth x (Ne.symm ne)).trans gx,cx,dxe,dtx,tbx,xc⟩;refine k _ (I.left o.hx hT o.nx nT (ch:=[a]) ⟨λb u hb _ e=>(oth b (by simpa using hb)).trans e,λb u hb e=>⟨u.slots,(oth b (by simpa using hb)).trans e⟩⟩ (λb hb=>.inr (by simpa using hb)) rc'.is oT.2.1 oT.1 oT.2.2) ⟨o.hx,o.nx,rc',λa' e=>?_,?_⟩
 ·cases e
  exact ⟨ne,hT,nT,oT,_,_,gT2,m1,by rw [Array.getElem?_setIfInBounds_self,if_pos (ua9.mp t3).1]⟩
 ·rcases hfr with rfl | rfl
  ·exact .inl rfl
  ·exact .inr rfl
theorem FR (hA:A.frames=some X.stack)(I:Inv X pins σ H s)(hs:X.stack=X.env :: X.outer)(hf:X.env.frame=some X.env.locals)(o:XOn qx X pins H s x C dx T fl)
 (k:∀h' a,Inv X pins σ H { s with heap:=h' }->XOn qx X pins H { s with heap:=h' } x C dx (some a) (rawInt X.env.locals)->Q () { s with heap:=h' }):wpAny M A (noteFrame (.ref x) X.env) Q Er s:=by
 obtain ⟨ox,vs,gx,cx,dxe,dtx,tbx,xc⟩:=id o.rc;have fin:∀(s1:Shared) (hh:∃h1,s1 = { s with heap:=h1 }) (ch:List Addr) (h':Heap) (a:Addr),Inv X pins σ H s1->s1.heap.objs.size<=a->a≠x->XRec qx h' x C dx (.ref a)->RN h' a (rawInt X.env.locals)->XKeep (frs (X.env :: X.outer)) [x] s1.heap h'->Q () { s1 with heap:=h' }:=by
  rintro s1 ⟨h1,rfl⟩ ch h' a I1 l1 l2 l3 l4 l5;obtain ⟨o1,o2,o3⟩:=I1.newT l1;have J:=I1.left o.hx (I1.hok.fresh l1) o.nx (um5 I1.sz l1) (ch:=[x]) (hs ▸ l5) (λb hb=>.inl (by simpa using hb)) l3.is o2 o1 o3;exact k h' a J ⟨o.hx,o.nx,l3,λa' e=>by cases e;exact ⟨l2,I1.hok.fresh l1,um5 I1.sz l1,⟨o1,o2,o3⟩,l4⟩,.inr rfl⟩
 unfold noteFrame;simp only [hf];refine uo0 (un9 gx dtx tbx ?_)
 cases T with
 | none=>
   rw [if_neg (by decide)];exact Lz (hA.trans (congrArg some hs)) (hs ▸ I.stack) hf o.rc λh' a l1 l2 l3 l4 l5=>fin s ⟨s.heap,rfl⟩ [] h' a I l1 l2 l3 l4 l5
 | some T₀=>
   obtain ⟨ne,hT,nT,oT,ot,ts,gT,dT,t3⟩:=o.tb T₀ rfl;rw [if_pos (show (Value.ref T₀ != Value.none)=true from rfl)];refine uo0 (un9 gT dT t3 ?_);rcases o.fo with rfl | rfl
   ·rw [if_neg (show ¬((Value.none == rawInt X.env.locals)=true) from by simp [rawInt])];refine uo0 (wpAny_setField gT dT (ua9.mp t3).1 ?_);have oth:∀b,b≠T₀->(s.heap.update T₀ (Obj.mapFields (·.setIfInBounds 3 Value.none))).get? b=s.heap.get? b:=λb z=>uc8 _ _ (Ne.symm z);have rc':XRec qx (s.heap.update T₀ (Obj.mapFields (·.setIfInBounds 3 Value.none))) x C dx (.ref T₀):=⟨ox,vs,(oth x (Ne.symm ne)).trans gx,cx,dxe,dtx,tbx,xc⟩;have J:=I.left o.hx hT o.nx nT (ch:=[T₀]) ⟨λb u hb _ e=>(oth b (by simpa using hb)).trans e,λb u hb e=>⟨u.slots,(oth b (by simpa using hb)).trans e⟩⟩ (λb hb=>.inr (by simpa using hb)) rc'.is oT.2.1 oT.1 oT.2.2;exact Lz (s:={ s with heap:=s.heap.update T₀ (Obj.mapFields (·.setIfInBounds 3 Value.none)) }) (hA.trans (congrArg some hs)) (hs ▸ J.stack) hf rc' λh' a l1 l2 l3 l4 l5=>fin _ ⟨_,rfl⟩ [] h' a J l1 l2 l3 l4 l5
   ·rw [if_pos (show (rawInt X.env.locals == rawInt X.env.locals)=true from by first | (simp;done) | exact ui8 _)];exact uo1 (k s.heap T₀ I ⟨o.hx,o.nx,o.rc,o.tb,.inr rfl⟩)
end
def XE (qx:Bool)(X:Cx)(E:St->XK):Value->Shared->Prop:=λe s=>∃pins σ H x C dx T fl,e = .ref x/\Inv X pins σ H s/\XOn qx X pins H s x C dx T fl/\E σ (.ref x) dx H
def Fm (CX:CXT)(X:Cx)(E:St->XK):Prop:=∀(pins:List (Addr×Obj)) (σ:St) (H:Hp) (s:Shared) (e:Value) (s':Shared),Inv X pins σ H s->CX X.stack H s (E σ) e s'->X.xe e s'
section
variable {M:Model}{X:Cx}{E:St->XK}
theorem XE.own (hs:X.stack=X.env :: X.outer)(hf:X.env.frame=some X.env.locals):PassesOwn M X.A X.env (XE qx X E):=by
 rintro e s ⟨pins,σ,H,x,C,dx,T,fl,rfl,I,o,q⟩;refine FR I.ok.frames I hs hf o λh' a I' o'=>?_;obtain ⟨ox,vs,gx,cx,dxe,dtx,tbx,xc⟩:=id o'.rc;unfold cameBackBy;refine uo0 (un9 gx dtx tbx ?_);rw [if_neg (show ¬((Value.ref a == Value.none)=true) from by intro z;cases z)]
 rw [hf];exact EQ _ I' o' (.inr rfl) λh'' I'' o''=>⟨pins,σ,H,x,C,dx,some a,_,rfl,I'',o'',q⟩
theorem XE.pass:Fm (CX1 qx X.prog X.w) (X.wish (XE qx X E)) E:=by
 intro pins σ H s e s' I q;obtain ⟨x,C,dx,T,H',rfl,J,hx,nx,nT,ne,hT,r,tb,q⟩:=I.unwish.raised q;exact ⟨pins,σ,H',x,C,dx,some T,.none,rfl,J,⟨hx,um5 I.sz nx,r,λa e=>by cases e;exact ⟨ne,hT,um5 I.sz nT,I.unwish.newT nT,tb⟩,.inl rfl⟩,q⟩
end
section
variable {P:Program}{w:World}{K:PySem.W.Frag}{mg:Str->Option Value}{base:Heap}
abbrev cxX (qx:Bool)(P:Program)(w:World)(K:PySem.W.Frag)(mg:Str->Option Value)(base:Heap)(N:List Str)(qual:Str)(scope:Scope)(f:Addr)(cd:Value)(A:Around)(outer:List Env)(s:Shared)(H:Hp)(E:XK):Cx:=
 (DM (CX1 qx P w) P w K mg base N qual scope f cd A outer s H E).wish (XE qx (DM (CX1 qx P w) P w K mg base N qual scope f cd A outer s H E) λ_=>E)
theorem XE.leaves {N:List Str}{qual:Str}{scope:Scope}{f:Addr}{cd:Value}{A:Around}{outer:List Env}{s₀:Shared}{H₀:Hp}{E:XK}{e:Value}{s:Shared}
 (h:XE qx (DM (CX1 qx P w) P w K mg base N qual scope f cd A outer s₀ H₀ E) (λ_=>E) e s):(DM (CX1 qx P w) P w K mg base N qual scope f cd A outer s₀ H₀ E).xe e s:=by
 obtain ⟨pins,σ,H,x,C,dx,T,fl,rfl,I,o,q⟩:=h;refine uo0 (FR I.ok.frames I rfl rfl o λh' a I' o'=>?_);refine EQ none I' o' (.inl rfl) λh'' I'' o''=>?_;obtain ⟨ne,hT,nT,oT,tb⟩:=o''.tb a rfl;exact ⟨x,C,dx,a,H,rfl,I''.os,I''.bare,I''.base,I''.hok,o''.hx,o''.nx,nT,ne,hT,o''.rc,tb,q⟩
theorem Fun.okX {x qual:Str}{st:Stmt}{f:Addr}{fd:FuncData}{N ps:List Str}{k:Nat}{sp:Sp}(F:Fun K x qual st f fd)(S:FnScope N ps (Ap st))(len:∀vs H Q E,sp vs H Q E->vs.length=ps.length)
 (hbody:∀(cdv:Value) (A:Around) (outer:List Env) (s:Shared) (H:Hp) (vs:List V) (Q:VK) (E:XK),Room k (A.deeper (envOfC qual (Ap st) s.heap.objs.size f cdv))->sp vs H Q E->
   ∃t,PSs (cxX qx P w K mg base N qual (Ap st) f cdv A outer s H E) (B5 st) t/\t { nx:=λ_ H'=>Q .non H',rt:=Q } (Da N vs) H):FnOk P w K mg base (CX1 qx P w) (k + 1) f fd ps sp:=by
 obtain ⟨oc,od,kV,doc,pm,an,cdv,ct,osl,rfl,lk,hcd⟩:=F.ex;refine Ts lk hcd S len λA outer s H vs Q E hr hsp=>?_;obtain ⟨t,h,q⟩:=hbody cdv A outer s H vs Q E hr hsp;exact ⟨t,λpins s1 σ H1 D I hw=>uo2 (h pins s1 σ H1 D (I.wish _) hw) (λ_ _ q=>q.unwish) λ_ _ z=>z.leaves,q⟩
theorem FnOk.calm {k:Nat}{f:Addr}{fd:FuncData}{ps:List Str}{sp sp':Sp}(F:FnOk P w K mg base (CX1 qx P w) k f fd ps sp)(h:∀vs H Q E,sp' vs H Q E->sp vs H Q E0):FnOk P w K mg base CX0 k f fd ps sp':=by
 refine ⟨λvs H Q E q=>F.len vs H Q E0 (h _ _ _ _ q),λA outer s H args us vs Q E hr he hb hv hs=>codeAny_mono (F.run A outer s H args us vs Q E0 hr he hb hv (h _ _ _ _ hs)) λr s' q=>?_⟩
 cases r with
 | error e=>obtain ⟨_,_,_,_,_,_,_,_,_,_,_,_,_,_,_,_,_,z⟩:=q;exact z.elim
 | ok fl=>cases fl <;> exact q
end
section
variable {X:Cx}{CX:CXT}{k:Nat}{f:Addr}{fd:FuncData}{ps:List Str}{sp:Sp}{E:St->XK}{x:Str}{p pos:Pos}{e:Expr}{es:List Expr}{t:TA}
def Xf (sp:Sp)(E:St->XK)(t:TA):TE:=λσ H Q=>t σ H λvs H1=>sp vs H1 Q (E σ)
theorem Su (F:FnOk X.prog X.w X.K X.mg X.base CX k f fd ps sp)(hr:Room k X.A)(hg:Gl X x)(hm:X.mg x=some (.ref f))(hk:PySem.W.keepIn X.K (.ref f)=true)(hb:Binds X.K fd ps [])(hx:Fm CX X E)
 (ha:PA X (e :: es) t) (hdb:(x == ("__debug__" : Str))=false:=by decide) (he:starEach (e :: es) X.env=(false,eval e X.env) :: starEach es X.env:=by rfl) (hpl:(backTo pos (starEach es X.env)).any (·.1)=false:=by rfl) :
 PE X (.Call (.Name x p) (e :: es) [] pos) (Xf sp E t):=by
 intro pins s σ H Q I h;refine wpAny_Call_Name_kw (El I hg hm ?_ hdb);refine uf6 (h₀:=X.base) I.ok.mod.kin hk (thn (ha pos pins s σ H _ I h) λus s1 z9=>?_) he hpl;obtain ⟨vs,H1,I1,r,q⟩:=z9;refine ⟨I1.kIn,?_⟩;have hl:(us++[]).length=ps.length:=by rw [uj2,<-r.length];exact F.len _ _ _ _ q
 refine wpAny_call (codeAny_mono (F.run X.A X.stack s1 H1 ⟨us,[]⟩ us vs Q (E σ) hr I1.env0 (by have:=hb s1 us I1.kIn hl;rwa [uj2] at this) r q) λr s' hq=>?_)
 cases r with
 | error e=>exact hx pins σ H1 s1 e s' I1 hq
 | ok fl=>
   cases fl with
   | ret u=>exact I1.after hq
   | next=>exact False.elim hq
   | brk=>exact False.elim hq
   | cont=>exact False.elim hq
end
end L2
namespace L2
open PySem PySem.Spec PyProof.Rows PySem.W
variable {qx:Bool}
def PM (qx:Bool)(X:Cx)(e:Expr)(C:Addr)(t:St->Hp->(Addr->Option Addr->Hp->Prop)->Prop):Prop:=
 ∀(pins:List (Addr×Obj)) (s:Shared) (σ:St) (H:Hp) (Q:Addr->Option Addr->Hp->Prop),Inv X pins σ H s->t σ H Q->
  wpAny (model X.prog X.w) X.A (eval e X.env) (λv s1=>∃x dx H1,v = .ref x/\Inv X pins σ H1 s1/\H1 x=some (.ext (F2.XIs qx x C dx))/\X.s₀.heap.objs.size<=x/\XRec true s1.heap x C dx .none/\Q x dx H1) X.xe s
def Gp (qx:Bool)(X:Cx)(E:St->XK):Prop:=∀(pins:List (Addr×Obj)) (σ:St) (H:Hp) (s:Shared) (x C:Addr) (dx:Option Addr),Inv X pins σ H s->XOn qx X pins H s x C dx none .none->E σ (.ref x) dx H->X.xe (.ref x) s
theorem XE.raises {X:Cx}{E:St->XK}:Gp qx (X.wish (XE qx X E)) E:=λpins σ H s x C dx I o q=>⟨pins,σ,H,x,C,dx,none,.none,rfl,I.unwish,⟨o.hx,o.nx,o.rc,o.tb,o.fo⟩,q⟩
theorem NE {X:Cx}{e:Expr}{C:Addr}{bm:List Value}{t:St->Hp->(Addr->Option Addr->Hp->Prop)->Prop}{E:St->XK}{pos:Pos}(hc:X.calm=true)(c:XCl X.K C bm)(hx:Gp qx X E)(h:PM qx X e C t)
 (ho:evalOpt (some e) X.env=some (eval e X.env):=by rfl):PS X (.Raise (some e) none pos) (λ_ σ H=>t σ H λx dx H1=>E σ (.ref x) dx H1):=by
 intro pins s σ H D I q;rw [arm_exec_Raise,ho];refine uo0 (wpAny_standAt ?_);refine SM (qx:=true) c (I.ok.hd hc) ?_;refine uo0 (uo2 (h pins s σ H _ I q) (λv s1 z9=>?_) λ_ _ z=>z);obtain ⟨x,dx,H1,e1,I1,hx1,nx,r,q1⟩:=z9;subst e1;refine uo0 (wpAny_standAt (uo1 ⟨x,dx,rfl,I1.kIn,r,hx pins σ H1 s1 x C dx I1 ⟨hx1,nx,r.to,(λa e=>by cases e),.inl rfl⟩ q1⟩))
theorem Px {K:PySem.W.Frag}{h:Heap}{N:Addr}{m:Str->Option Value}{n:Str}(X:K.In h)(G:h.Ns N m)(e:nsIn K N n=some none):m n=none:=by
 obtain ⟨o,es,ep,ho,hd,_,hf⟩:=G;unfold nsIn at e
 split at e
 ·next c d es' n' sl q=>
  have z:=X _ _ q;rw [ho] at z
  cases z
  cases hd
  split at e
  ·cases e
  ·next he=>rw [<-hf];unfold nsFind findBy;rw [<-uf5,he];rfl
 ·cases e
section
variable {prog:Program}{w:World}{A:Around}{E:Value->Shared->Prop}{h:Heap}{g:Array GenState}{d:Drawn}{t:Nat}{os:OsState}{Q:Value->Shared->Prop}
variable {nm q:Str}{C N:Addr}{bs bm bmB:List Value}{hdct:Bool}{sn:List Str}{sub:List Value}{ab:Bool}{col:Option Bool}{dd:Option Addr}{k0 k1 k2 k3 k5:Option Value}{B newId initId:String}{mN:Str->Option Value}
theorem QM (F:ExcBaseFacts B newId initId bmB)(T:OwnTail h bmB bm){us:List Value}(hC:h.get? C=some (excClassObj nm q C N bs bm hdct sn sub ab col dd k0 k1 k2 k3 k5 newId))(hn:h.Ns N mN)(hni:mN "__init__" = none)(hus:us.length<=sizeLine)
 (hq:∀h' tp,(∀b o,h.get? b=some o->h'.get? b=some o)->h'.get? (h.objs.size + 1)=some (excObj C tp)->Q (.ref (h.objs.size + 1)) ⟨h',g,d,t,os⟩) :
 wpAny (model prog w) A (call (.ref C) us) Q E ⟨h,g,d,t,os⟩:=by
 have c1:=tc_lookup;have c2:=tc_bind (.ref C);have ty:(⟨h,g,d,t,os⟩:Shared).TypeIs (.ref C) "type":=⟨_,hC,rfl⟩;refine wpAny_call (codeAny_of_tree ?_);show wpAny _ _ (callAny (.ref C) _) _ _ _
 repeat (any_goals (first
  | assumption
  | with_reducible refine wpAny_loadPart_at hC ?_
  | wp_step))
 refine ⟨rfl,codeAny_call_builtin_at (Code.quiet_builtin _ (by decide +kernel)) entry_typeCall (wpAny_check_type_call_sub hC ?_)⟩
 repeat (first
  | with_reducible refine wpAny_loadPart_at hC ?_
  | with_reducible refine wpAny_madeBy_exc hC ?_
  | wp_step)
 refine codeAny_call_builtin_code (Code.quiet_builtin _ F.quiet) (wpAny_check_new_subT F T hC (codeAny_exc_new_subT F T hC ?_ hus))
 change wpAny _ _ _ _ _ (Shared.mk (Ec h C us) g d t os)
 have kp:∀b o,h.get? b=some o->(Ec h C us).get? b=some o:=λb o e=>uc5 _ (uc5 _ e);have he:(Ec h C us).get? (h.objs.size + 1)=some { cls:=.ref C,data:=.fields #[.ref h.objs.size,.none,.none,.none,.bool false,.none] }:=by heap_get
 have n1:(Ec h C us).Ns N mN:=hn.keeps kp;have cC:(Value.ref C :: bm).contains (.ref C)=true:=by simp
 unfold isInstance
 repeat (first
  | with_reducible refine wpAny_loadPart_at he ?_
  | (with_reducible refine wpAny_isSubtype_exc (kp _ _ hC) ?_;rw [cC])
  | wp_step)
 show wpAny _ _ (typeLookup (.ref C) _) _ _ _;refine wpAny_typeLookup_tail (kp _ _ hC) n1 (T.keeps kp) F.mroIs F.init.lookup ?_;rw [hni];refine um2 (uo0 (wpAny_of_eq (F.init.bind _) (uo0 (wpAny_call (codeAny_call_builtin F.init.plain F.initEntry (wpAny_check_init_subT F (T.keeps kp) (kp _ _ hC) he rfl ?_))))))
 wp_walk
 refine hq _ ((Ec h C us).objs.size) (λb o hb=>?_) ?_
 ·rw [uc8 _ _ (um7 (Nat.lt_succ_of_lt (um3 hb)))];exact uc5 _ (kp b o hb)
 ·rw [ud7 _ (uc5 _ he) rfl];rfl
end
section
variable {X:Cx}{k:Nat}{f C P:Addr}{fd:FuncData}{a:Str}{ps:List Str}{n:Str}{p pos:Pos}{e:Expr}{es:List Expr}
theorem UZ {t:TA}{bm:List Value}{cd:ClassData}(c:XCl X.K C bm)(hk:keepIn X.K (.ref C)=true)(hcd:clsIn X.K C=some cd)(hni:nsIn X.K cd.ns "__init__" = some none)(hg:Gl X n)(hm:X.mg n=some (.ref C))(ha:PA X (e :: es) t)
 (hdb:(n == ("__debug__" : Str))=false:=by decide) (h1:starEach (e :: es) X.env=(false,eval e X.env) :: starEach es X.env:=by rfl) (hpl:(backTo pos (starEach es X.env)).any (·.1)=false:=by rfl) :
 PM qx X (.Call (.Name n p) (e :: es) [] pos) C (λσ H Q=>t σ H λvs H1=>vs.length<=1000/\∀x,H1 x=none->Q x none (upd H1 x (.ext (F2.XIs qx x C none)))):=by
 intro pins s σ H Q I h;refine wpAny_Call_Name_kw (El I hg hm ?_ hdb);refine uf6 (h₀:=X.base) I.ok.mod.kin hk (thn (ha pos pins s σ H _ I h) λus s1 z9=>?_) h1 hpl;obtain ⟨vs,H1,I1,r,hl,q⟩:=z9;refine ⟨I1.kIn,?_⟩;obtain ⟨nm,q',N,bs,sn,sub,ab,col,dd,k0,k1,k2,k3,k5,hC,hN⟩:=c.obj I1.kIn;have hni':s1.heap.nsMap N "__init__" = none:=by
  unfold clsIn at hcd
  split at hcd
  ·next l=>
   cases hcd
   have z:=I1.kIn _ _ l;rw [hC] at z
   cases z
   exact Px I1.kIn hN hni
  ·cases hcd
 obtain ⟨hh,g,d,tk,os⟩:=s1;refine QM ub0 (c.tail I1.kIn) hC hN hni' (by show us.length<=sizeLine;rw [<-r.length];exact um5 hl (by decide)) λh' tp kp ht=>?_;have xr:XRec true h' (hh.objs.size + 1) C none .none:=⟨_,_,ht,rfl,rfl,rfl,rfl,λ_=>⟨rfl,by show 4 < 6;decide⟩⟩;exact ⟨_,none,_,rfl,I1.laid (h':=h') (t':=tk) kp (un8 _) (JN xr.to.is),Ax,um5 I1.sz (un8 _),xr,q _ (I1.hok.fresh (un8 _))⟩
end
end L2
namespace L2
open PySem PySem.Spec PyProof.Rows PySem.W
variable {qx:Bool}
abbrev Cx.mark (X:Cx)(x:Addr):Cx:={ X with A:=X.A.mark (some (.ref x)),calm:=false,xe:=λ_ _=>False }
section
variable {X:Cx}{pins:List (Addr×Obj)}{σ:St}{H:Hp}{s:Shared}{D:Ends}
theorem Inv.mark (I:Inv X pins σ H s)(x:Addr):Inv (X.mark x) pins σ H s:=
 ⟨⟨I.ok.mod,I.ok.kind,I.ok.glob,I.ok.blt,I.ok.above,I.ok.inj,I.ok.has,I.ok.cab,(λz=>by cases z),I.ok.frames,I.ok.stk,I.ok.exf,I.ok.bs,I.ok.bsz,I.ok.noex,I.ok.exfs,I.ok.funs,I.ok.frf⟩,I.os,I.bare,I.base,I.loc,I.cell,I.free,I.freeC,I.pin,I.hok,I.len⟩
theorem Inv.unmark {x:Addr}(J:X.Ok)(I:Inv (X.mark x) pins σ H s):Inv X pins σ H s:=⟨J,I.os,I.bare,I.base,I.loc,I.cell,I.free,I.freeC,I.pin,I.hok,I.len⟩
theorem Inv.repin {pn' pins':List (Addr×Obj)}{xe:Value->Shared->Prop}(I:Inv X pins σ H s)(h:∀p∈pn'++pins',p∈X.pn++pins):Inv { X with pn:=pn',xe:=xe } pins' σ H s:=
 ⟨⟨I.ok.mod,I.ok.kind,I.ok.glob,I.ok.blt,I.ok.above,I.ok.inj,I.ok.has,I.ok.cab,I.ok.hd,I.ok.frames,I.ok.stk,I.ok.exf,I.ok.bs,I.ok.bsz,I.ok.noex,I.ok.exfs,I.ok.funs,I.ok.frf⟩,I.os,I.bare,I.base,I.loc,I.cell,I.free,I.freeC,λp hp=>I.pin p (h p hp),I.hok,I.len⟩
theorem SP.unmark {x:Addr}(J:X.Ok){f:Flow}(h:SP (X.mark x) pins D f s):SP X pins D f s:=by
 cases f with
 | next=>obtain ⟨σ',H',I,q⟩:=h;exact ⟨σ',H',I.unmark J,q⟩
 | brk=>obtain ⟨σ',H',I,q⟩:=h;exact ⟨σ',H',I.unmark J,q⟩
 | cont=>obtain ⟨σ',H',I,q⟩:=h;exact ⟨σ',H',I.unmark J,q⟩
 | ret u=>obtain ⟨v,σ',H',I,r,q⟩:=h;exact ⟨v,σ',H',I.unmark J,r,q⟩
end
def PH (qx:Bool)(X:Cx)(hs:List ExceptHandler)(th:Addr->Addr->Option Addr->TS):Prop:=∀(pins:List (Addr×Obj)) (s:Shared) (σ:St) (H:Hp) (x C:Addr) (dx:Option Addr) (T:Addr) (D:Ends),Inv X pins σ H s->XOn qx X pins H s x C dx (some T) .none->th x C dx D σ H->
 wpAny (model X.prog X.w) X.A (handleBy (.ref x) X.env hs) (SP X pins D) X.xe s
section
variable {X:Cx}{n v:Str}{C':Addr}{bm':List Value}{p pos:Pos}{b₀:Stmt}{suite:List Stmt}{rest:List ExceptHandler}{ts:Addr->TS}{tr:Addr->Addr->Option Addr->TS}{i:Nat}
def Zl (K:PySem.W.Frag)(C':Addr)(ts:TS)(tr:Addr->Addr->Option Addr->TS):Addr->Addr->Option Addr->TS:=λx C dx D σ H=>∃bm,XCl K C bm/\
 if (Value.ref C :: bm).contains (.ref C')=true then ts D σ H else tr x C dx D σ H
theorem XU {ts:TS}(hg:Gl X n)(hm:X.mg n=some (.ref C'))(c':XCl X.K C' bm')(hb:∀x,PSs (X.mark x) (b₀ :: suite) ts)(hr:PH qx X rest tr)
 (hdb:(n == ("__debug__" : Str))=false:=by decide):PH qx X (.ExceptHandler (some (.Name n p)) none (b₀ :: suite) pos :: rest) (Zl X.K C' ts tr):=by
 intro pins s σ H x C dx T D I o ⟨bm,c,q⟩;have Im:=I.mark x;refine wpAny_handleBy_cons (codeAny_handlers_test (El Im hg hm ?_ hdb)) (by intro z;cases z)
 refine Nm c c' I.kIn o.rc ?_
 cases hc:(Value.ref C :: bm).contains (.ref C') with
 | false=>
   rw [hc,if_neg (by decide)] at q;exact hr pins s σ H x C dx T D I o q
 | true=>
   rw [hc,if_pos rfl] at q;refine codeAny_handlers_suite ?_;refine EQ none I o (.inl rfl) λh1 I1 o1=>?_;exact uo2 (hb x pins _ _ H _ (I1.mark x) q) (λf s3 z=>z.unmark I.ok) λ_ _ z=>z.elim
theorem WK {body:List Stmt}{h₀:ExceptHandler}{hs:List ExceptHandler}{tb:(St->XK)->TS}{th:Addr->Addr->Option Addr->TS}(h1:X.stack=X.env :: X.outer)(h2:X.env.frame=some X.env.locals)
 (hb:∀(pn:List (Addr×Obj)) (E:St->XK),PSs { X with pn:=pn,xe:=XE qx { X with pn:=pn } E } body (tb E)) (hh:PH qx X (h₀ :: hs) th) :
 PS X (.Try body (h₀ :: hs) [] [] pos) (λD σ H=>tb (λσ' v dx H'=>∀x C,v = .ref x->H' x=some (.ext (F2.XIs qx x C dx))->(∃h,F2.XIs qx x C dx h)->th x C dx D σ' H') D σ H):=by
 intro pins s σ H D I q;refine wpAny_Try_except ?_;refine uo2 (hb (X.pn++pins) _ [] s σ H D (I.repin λp hp=>by simpa using hp) q) (λf s1 z=>?_) λe s1 z=>?_
 ·have back:∀{σ':St} {H':Hp},Inv { X with pn:=X.pn++pins,xe:=XE qx { X with pn:=X.pn++pins } (λσ' v dx H'=>∀x C,v = .ref x->H' x=some (.ext (F2.XIs qx x C dx))->(∃h,F2.XIs qx x C dx h)->th x C dx D σ' H') } [] σ' H' s1->Inv X pins σ' H' s1:=λJ=>J.repin (X:={ X with pn:=X.pn++pins,xe:=_ }) (pn':=X.pn) (pins':=pins) (xe:=X.xe) λp hp=>by simpa using hp
  cases f with
  | next=>obtain ⟨σ',H',J,q'⟩:=z;exact wpAny_execs_nil ⟨σ',H',back J,q'⟩
  | brk=>obtain ⟨σ',H',J,q'⟩:=z;exact ⟨σ',H',back J,q'⟩
  | cont=>obtain ⟨σ',H',J,q'⟩:=z;exact ⟨σ',H',back J,q'⟩
  | ret u=>obtain ⟨w,σ',H',J,r,q'⟩:=z;exact ⟨w,σ',H',back J,r,q'⟩
 ·obtain ⟨pins',σ',H',x,C,dx,T,fl,rfl,J,o,q'⟩:=z;have J1:Inv X pins σ' H' s1:=J.repin (X:={ X with pn:=X.pn++pins }) (pn':=X.pn) (pins':=pins) (xe:=X.xe) λp hp=>by
   simp only [ui9] at hp ⊢;exact .inl hp
  have o1:XOn qx X pins H' s1 x C dx T fl:=⟨o.hx,o.nx,o.rc,λa e=>by
   obtain ⟨z1,z2,z3,⟨y1,y2,y3⟩,z5⟩:=o.tb a e;exact ⟨z1,z2,z3,⟨y1,y2,λp hp=>y3 p (by simp only [ui9] at hp ⊢;exact .inl hp)⟩,z5⟩,o.fo⟩
  refine FR J1.ok.frames J1 h1 h2 o1 λh' a I' o'=>EQ none I' o' (.inl rfl) λh'' I'' o''=>?_;exact hh pins _ σ' H' x C dx a D I'' o'' (q' x C rfl o.hx ⟨_,o.rc.is⟩)
end
end L2
namespace F2
open PySem L2 PySem.Spec
variable {qx:Bool}
noncomputable def BR:D->Bool
 | .exc _ _=>true
 | _=>false
def exE (E:XK)(v:V)(H:Hp):Prop:=∀x dx,v = .ref x->E (.ref x) dx H
section
variable (K:PySem.W.Frag)
def RX (E:L2.St->XK)(f:M D):TE:=λσ H Q=>∃Oo c t,FInv K Oo c t σ H/\∃r t',f t=some (r,t')/\∀v H' c',FInv K Oo c' t' σ H'->Stp Oo c H c' H'->Rep K c' H' v r->if BR r=true then exE (E σ) v H' else Q v H'
def μX (E:XK):Cf->Hp->D->(V->Hp->Prop)->Prop:=λc H r rt=>∀v,Rep K c H v r->if BR r=true then exE E v H else rt v H
def RSX (E:L2.St->XK)(f:M Out):TS:=λD σ H=>∃Oo c t,FInv K Oo c t σ H/\∃o t',f t=some (o,t')/\∀σ' H' c',FInv K Oo c' t' σ' H'->Stp Oo c H c' H'->
 match o with
 | .next=>D.nx σ' H'
 | .brk=>D.bk σ' H'
 | .cont=>D.ct σ' H'
 | .ret r=>∀v,Rep K c' H' v r->if BR r=true then exE (E σ') v H' else D.rt v H'
def spX (f:Fn):Sp:=λvs H Q E=>∃c ds S,SInv K c S H/\Reps K c H vs ds/\∃r S',f ds S=some (r,S')/\
 ∀v H' c',SInv K c' S' H'->Stp c.O c H c' H'->(∀b,c'.O b↔c.O b)->Rep K c' H' v r->if BR r=true then exE E v H' else Q v H'
end
def G2 (g:Fn):Fn:=λds S=>match g ds S with
 | some (r,S')=>if BR r=true then none else some (r,S')
 | none=>none
variable {g:Fn}{r:D}
theorem QT {ds:List D}{S S':List Ob}(h:G2 g ds S=some (r,S')):g ds S=some (r,S')/\BR r=false:=by
 unfold G2 at h
 split at h
 ·next r' S1 e=>
  by_cases hx:BR r'=true
  ·rw [if_pos hx] at h;cases h
  ·rw [if_neg hx] at h;cases h;exact ⟨e,by simpa using hx⟩
 ·cases h
variable {fa:Addr}{fd:FuncData}{x:Str}
section
variable {P:Program}{w:World}{K:PySem.W.Frag}{mg:Str->Option Value}{base:Heap}
theorem Mj {k:Nat}{ps:List Str}(F:FnOk P w K mg base (CX1 qx P w) k fa fd ps (spX K g)):FnOk P w K mg base CX0 k fa fd ps (spF K (G2 g)):=
 F.calm λvs H Q E z9=>by
  obtain ⟨c,ds,S,si,rs,r,S',e,kk⟩:=z9;obtain ⟨e1,e2⟩:=QT e;exact ⟨c,ds,S,si,rs,r,S',e1,λv H' c' a1 a2 a3 a4=>by rw [if_neg (by rw [e2];decide)];exact kk v H' c' a1 a2 a3 a4⟩
theorem Df {qual:Str}{st:Stmt}{N ps:List Str}{k n m:Nat}{g:M Out}(e1:ps.length=n)(e2:N.length=m)(F:Fun K x qual st fa fd)(S:FnScope N ps (Ap st))
 (hb:∀(cdv:Value) (A:Around) (outer:List Env) (s:Shared) (H:Hp) (E:XK),Room k (A.deeper (PyProof.Rows.envOfC qual (Ap st) s.heap.objs.size fa cdv))->
   Fm (CX1 qx P w) (cxX qx P w K mg base N qual (Ap st) fa cdv A outer s H E) (λ_=>E)->Gp qx (cxX qx P w K mg base N qual (Ap st) fa cdv A outer s H E) (λ_=>E)->
   PassesOwn (model P w) (cxX qx P w K mg base N qual (Ap st) fa cdv A outer s H E).A (cxX qx P w K mg base N qual (Ap st) fa cdv A outer s H E).env (cxX qx P w K mg base N qual (Ap st) fa cdv A outer s H E).xe->
   PSs (cxX qx P w K mg base N qual (Ap st) fa cdv A outer s H E) (B5 st) (RSg K (μX K E) g)):FnOk P w K mg base (CX1 qx P w) (k + 1) fa fd ps (spX K (fnOf n m g)):=by
 subst e1 e2;have hlen:∀{ds:List D} {S:List Ob} {z:D×List Ob},fnOf ps.length N.length g ds S=some z->ds.length=ps.length:=λ{ds S z} h=>by
  unfold fnOf at h
  split at h
  ·next h1=>exact h1
  ·cases h
 refine F.okX S (λvs H Q E h=>?_) (λcdv A outer s H vs Q E hr h=>?_)
 ·obtain ⟨c,ds,S,si,rs,r,S',e,_⟩:=h;rw [rs.length];exact hlen e
 obtain ⟨c,ds,S0,si,rs,r,S',e,kk⟩:=h;refine ⟨RSg K (μX K E) g,hb cdv A outer s H E hr XE.pass XE.raises (XE.own rfl rfl),?_⟩;have hl:=hlen e;unfold fnOf at e;rw [if_pos hl] at e
 cases eg:g ⟨env0 N.length ds,S0⟩ with
 | none=>rw [eg] at e;cases e
 | some p=>
   obtain ⟨o,t⟩:=p;rw [eg] at e;refine ⟨c.O,c,_,GQ si rs,o,t,eg,λσ' H' c' f' s'=>?_⟩;obtain ⟨si',ext'⟩:=f'.leave;have st':Stp c.O c H ⟨c'.ι,c.O⟩ H':=⟨s'.ext.trans ext',s'.oo⟩
   cases o with
   | next=>cases e;exact kk .non H' _ si' st' (λ_=>Iff.rfl) .non
   | ret d=>cases e;exact λv rv=>kk v H' _ si' st' (λ_=>Iff.rfl) (rv.mono ext')
   | brk=>cases e
   | cont=>cases e
theorem CK {ps:List Str}{k:Nat}{f:Fn}(e:f=g)(h:FnOk P w K mg base (CX1 qx P w) k fa fd ps (spX K g)):FnOk P w K mg base (CX1 qx P w) k fa fd ps (spX K f):=by rw [e];exact h
end
variable {f:M D}
section
variable {X:Cx}{e a b:Expr}{es:List Expr}{pos:Pos}{E:L2.St->XK}{st:Stmt}
theorem Cg {E:XK}{f:M Out}(h:PS X st (RSX X.K (λ_=>E) f)):PS X st (RSg X.K (μX X.K E) f):=B0 h λD σ H z9=>by
 obtain ⟨Oo,c,t,fi,o,t',eq,k⟩:=z9;refine ⟨Oo,c,t,fi,o,t',eq,λσ' H' c' f' s'=>?_⟩;have q:=k σ' H' c' f' s'
 cases o <;> exact q
theorem BZ {k:Nat}{ps:List Str}{f:M (List D)}{p:Pos}(F:FnOk X.prog X.w X.K X.mg X.base (CX1 qx X.prog X.w) k fa fd ps (spX X.K g))(hr:Room k X.A)(hg:Gl X x)(hm:X.mg x=some (.ref fa))(hk:PySem.W.keepIn X.K (.ref fa)=true)(hb:Binds X.K fd ps [])
 (hx:Fm (CX1 qx X.prog X.w) X E) (ha:PA X (e :: es) (RA X.K f)) (hdb:(x == ("__debug__" : Str))=false:=by decide) (h1:Cb e=false:=by rfl) (h2:Cd es=true:=by rfl) :
 PE X (.Call (.Name x p) (e :: es) [] pos) (RX X.K E (Au g f)):=
 BC (Su F hr hg hm hk hb hx ha hdb (B7 h1) (BU h2).1) λσ H Q z9=>by
  obtain ⟨Oo,c,t,fi,r,t',eq,kk⟩:=z9;obtain ⟨ds,t1,e1,eq⟩:=Ao eq;obtain ⟨S',e2,rfl⟩:=Lx eq;refine ⟨Oo,c,t,fi,ds,t1,e1,λvs H1 c1 f1 s1 rvs=>?_⟩;refine ⟨c1,ds,t1.S,f1.s,rvs,r,S',e2,λv H' c' si st ho rv=>?_⟩;obtain ⟨f2,s2⟩:=f1.after si st ho;exact kk v H' c' f2 (s1.trans s2) rv
def nxD (f:M D):M D:=bnd f λd=>if BR d=true then fail else ret d
theorem Nv {t t':T}(h:nxD f t=some (r,t')):f t=some (r,t')/\BR r=false:=by
 obtain ⟨d,t1,e1,h⟩:=Ao h
 by_cases hx:BR d=true
 ·rw [if_pos hx] at h;cases h
 ·rw [if_neg hx] at h;cases h;exact ⟨e1,by simpa using hx⟩
theorem QB {A B:Prop}(h:BR r=false)(q:if BR r=true then A else B):B:=by rw [if_neg (by rw [h];decide)] at q;exact q
def KL (g:M D)(h:D->M D):M D:=bnd g λy=>if BR y=true then ret y else nxD (h y)
theorem RX.bind {K:PySem.W.Frag}{g:M D}{h:D->M D}{σ:L2.St}{H:Hp}{Q:VK}{Oo:Addr->Prop}{c:Cf}{t t':T}(fi:FInv K Oo c t σ H)(eq:KL g h t=some (r,t'))
 (k:∀v H' c',FInv K Oo c' t' σ H'->Stp Oo c H c' H'->Rep K c' H' v r->if BR r=true then exE (E σ) v H' else Q v H') {R:V->Hp->Prop}
 (s:∀y dy t1 H1 c1,FInv K Oo c1 t1 σ H1->Stp Oo c H c1 H1->Rep K c1 H1 y dy->h dy t1=some (r,t')->(∀v H' c',FInv K Oo c' t' σ H'->Stp Oo c1 H1 c' H'->Rep K c' H' v r->Q v H')->R y H1):RX K E g σ H R:=by
 obtain ⟨dy,t1,e1,eq⟩:=Ao eq;refine ⟨Oo,c,t,fi,dy,t1,e1,λy H1 c1 f1 s1 ry=>?_⟩
 by_cases hx:BR dy=true
 ·rw [if_pos hx] at eq ⊢
  cases eq
  have:=k y H1 c1 f1 s1 ry;rw [if_pos hx] at this;exact this
 ·rw [if_neg hx] at eq ⊢;obtain ⟨e2,e3⟩:=Nv eq;exact s y dy t1 H1 c1 f1 s1 ry e2 λv H' c' f' s' rv=>QB e3 (k v H' c' f' (s1.trans s') rv)
def JO (f g:M D)(h:D->D->M D):M D:=bnd f λx=>KL g λy=>h x y
theorem RX.two {K:PySem.W.Frag}{g:M D}{h:D->D->M D}{R:R2}(s:BY K R h){σ:L2.St}{H:Hp}{Q:VK}(q:RX K E (JO f g h) σ H Q):tOp R (RE K f) (RX K E g) σ H Q:=by
 obtain ⟨Oo,c,t,fi,r,t',eq,k⟩:=q;obtain ⟨dx,t1,e1,eq⟩:=Ao eq;refine ⟨Oo,c,t,fi,dx,t1,e1,λx H1 c1 f1 s1 rx=>?_⟩;exact RX.bind f1 eq (λv H' c' f' s' rv=>k v H' c' f' (s1.trans s') rv) λy dy t2 H2 c2 f2 s2 ry e2 kk=>s f2 (rx.mono s2.ext) ry e2 kk
theorem Tt {op:Operator}{R:R2}{g:M D}{h:D->D->M D}(ho:OpR X (binaryOp op) R)(s:BY X.K R h)(ha:PE X a (RE X.K f))(hb:PE X b (RX X.K E g)):PE X (.BinOp a op b pos) (RX X.K E (JO f g h)):=
 BC (Pz ho ha hb) λ_ _ _ q=>RX.two s q
def ao (f g:M D)(h:D->D->M D):M D:=KL f λx=>bnd g λy=>h x y
def ae (g:Fn)(f:M D):M D:=KL f λd t=>match g [d] t.S with
 | some (r,S')=>some (r,{ t with S:=S' })
 | none=>none
theorem Gu (h:PE X e (RX X.K E f)):PS X (.Return (some e) pos) (RSX X.K E (AR f)):=
 B0 (HC h) λD σ H z9=>by
  obtain ⟨Oo,c,t,fi,o,t',eq,k⟩:=z9;obtain ⟨d,t1,e1,eq⟩:=Ao eq
  cases eq
  exact ⟨Oo,c,t,fi,d,_,e1,λv H1 c1 f1 s1 rv=>k σ H1 c1 f1 s1 v rv⟩
def DX (i:Nat)(f:M D):M Out:=bnd f λd=>if BR d=true then ret (.ret d) else bnd (BD i d) λ_=>ret .next
theorem Cz {i:Nat}{pos':Pos}(hN:X.N.Nodup)(hi:X.N[i]?=some x)(hx:Loc X.env.scope x)(he:PE X e (RX X.K E f))(hs:swapsWith e (some (.Name x pos')) pos.line X.env=pure false:=by rfl)(hf:X.fn x=true\/X.env.scope.names.lookup x=some .local:=by first | exact .inl rfl | exact .inr rfl | assumption) :
 PS X (.Assign [.Name x pos'] e pos) (RSX X.K E (DX i f)):=B0 (NF hN hi hx he hs hf) λD σ H z9=>by
 obtain ⟨Oo,c,t,fi,o,t',eq,k⟩:=z9;obtain ⟨d,t1,e1,eq⟩:=Ao eq;refine ⟨Oo,c,t,fi,d,t1,e1,λv H1 c1 f1 s1 rv=>?_⟩
 by_cases hx:BR d=true
 ·rw [if_pos hx] at eq ⊢
  cases eq
  have:=k σ H1 c1 f1 s1 v rv;rw [if_pos hx] at this;exact this
 ·rw [if_neg hx] at eq ⊢
  cases eq
  exact k _ H1 c1 (f1.set rv) s1
def am (f:M D):M Out:=bnd f λd=>if BR d=true then ret (.ret d) else ret .next
def au (f:M D)(g:D->M Unit):M Out:=bnd f λd=>if BR d=true then ret (.ret d) else bnd (g d) λ_=>ret .next
theorem R5 {f:M Out}(h:PS X st (RSX X.K E f)):PSs X [st] (RSX X.K E f):=Ij h
end
end F2
namespace L2
open PySem PySem.Spec PyProof.Rows PySem.W PySem.Builtin PySem.Builtin.ObjectAttr
structure XGet (K:PySem.W.Frag)(C:Addr):Prop where
 ga:findIn K (.ref C) "__getattribute__" = some (some (.builtin "BaseException.__getattribute__"))
 gt:findIn K (.ref C) "__getattr__" = some none
 mb:mroIn K C (.type "BaseException")=some true
 mo:mroIn K C (.type "object")=some true
 hd:hasDictIn K C=true
section
variable {prog:Program}{w:World}{A:Around}{E:Value->Shared->Prop}{s:Shared}{K:PySem.W.Frag}{x C:Addr}{ox:Obj}{od:Option Obj}{name:Str}{tk:Tok}{Q:Value->Shared->Prop}{R:Result->Shared->Prop}
theorem Ql {fill expr:Bool}(X:K.In s.heap)(I:InstAt s.heap x ox C od)(g:XGet K C)
 (h:codeAny (model prog w) A (.call (.builtin "BaseException.__getattribute__") ⟨[.ref x,.str name tk],[]⟩) (λr s'=>match r with | .ok (.ret v)=>wpAny (model prog w) A (handedOut v) Q E s' | _=>False) s) :
 wpAny (model prog w) A (getAttrBy (.ref x) (.str name tk) fill expr) Q E s:=by
 have L0:=I.type (M:=model prog w);have L1:=looks_findIn (M:=model prog w) X g.ga;have L2:=looks_findIn (M:=model prog w) X g.gt;have ne:(onTheHeap (Value.ref C) && Value.builtin "BaseException.__getattribute__" == Value.builtin "object.__getattribute__")=false:=by
  rw [show (Value.builtin "BaseException.__getattribute__" == Value.builtin "object.__getattribute__")=false from by decide +kernel];rfl
 unfold getAttrBy;refine um2 (uo0 (L0.here (uo0 (L1.here ?_))));show wpAny _ _ (if (onTheHeap (Value.ref C) && Value.builtin "BaseException.__getattribute__" == Value.builtin "object.__getattribute__")=true then _ else _) _ _ _;rw [if_neg (by rw [ne];decide)];unfold getAttrByItsOwn hookBefore;rw [if_pos (show onTheHeap (Value.ref C)=true from rfl)];refine uo0 (L2.here (uo0 (wpAny_attempt (um2 ?_))));unfold callGetattribute;rw [if_neg (show ¬((expr && onTheHeap (Value.builtin "BaseException.__getattribute__"))=true) from by cases expr <;> decide)];unfold boundAndCalled;refine uo0 (wpAny_of_eq (PySem.F.excAttr_ValueError.ga.bind _) (wpAny_call (codeAny_mono h λr s' z=>?_)))
 cases r with
 | error e=>exact z.elim
 | ok f=>cases f <;> first | exact z | exact z.elim
theorem R6 (X:K.In s.heap)(I:InstAt s.heap x ox C od)(g:XGet K C)
 (h:wpAny (model prog w) A.in1 («object.__getattribute__» ⟨[.ref x,.str name tk],[]⟩) (λfin s'=>match fin with | .done f=>R (.ok f) s' | .again c'=>c'.quiet=true/\codeAny (model prog w) A c' R s') (λe s'=>R (.error e) s') s) :
 codeAny (model prog w) A (.call (.builtin "BaseException.__getattribute__") ⟨[.ref x,.str name tk],[]⟩) R s:=by
 have ob:Looks (model prog w) s.heap (isInstance (.ref x) (.type "BaseException")) true:=I.type.andThen (looks_mroIn X g.mb);refine codeAny_call_builtin PySem.F.excAttr_ValueError.ga.plain PySem.F.entry_bexc_ga (@check_slot (model prog w) _ _ s "BaseException.__getattribute__" "BaseException" "__getattribute__" (.ref x) [.str name tk] [] _ (by decide +kernel) (by decide +kernel) ob (PySem.F.args_bexc_ga (.ref x) (.str name tk)) h)
theorem R7 {v:Value}(X:K.In s.heap)(I:InstAt s.heap x ox C od)(g:XGet K C)(hf:findObj K C od name=some (.value v))(h:R (.ok (.ret v)) s) :
 codeAny (model prog w) A (.call (.builtin "BaseException.__getattribute__") ⟨[.ref x,.str name tk],[]⟩) R s:=by
 refine R6 X I g ?_;have L0:=I.type (M:=model prog w);have L1:=looks_find (M:=model prog w) X I hf;refine uo0 (uo1 (uo0 (uo1 (uo0 (L0.here (uo0 (L1.here ?_)))))));exact uo1 h
end
end L2
namespace L2
open PySem PySem.Spec PyProof.Rows PySem.W
end L2
namespace F2
open PySem L2 PySem.Spec PySem.W
variable {qx:Bool}
abbrev Ca:List Str:=["NoValue", "Short", "Broken"]
structure XM (K:PySem.W.Frag)(mg:Str->Option Value)(P:Addr)(ca:Str->Addr):Prop where
 pm:mg "ParleyError" = some (.ref P)
 pc:XCl K P VE
 ns:∀n∈Ca,nsIn K mainGlobals n=some (some (.ref (ca n)))
 ms:∀n∈Ca,mg n=some (.ref (ca n))
 cl:∀n∈Ca,XCl K (ca n) (.ref P :: VE)
 inj:∀n∈Ca,∀m∈Ca,ca n=ca m->n=m
 np:∀n∈Ca,ca n≠P
 kp:∀n∈Ca,keepIn K (.ref (ca n))=true
 gt:∀n∈Ca,XGet K (ca n)
 gc:∀n∈Ca,findIn K (.ref (ca n)) "__class__" = some (some (.builtin "object.__class__"))
 na:∀n∈Ca,findIn K (.ref (ca n)) "at" = some none
 nd:∀n∈Ca,findIn K (.ref (ca n)) "side" = some none
noncomputable def Fe (n m:Str):Bool:=m == "ParleyError" || m == "ValueError" || n == m
theorem Ho {a b:Addr}{r:List Value}:(Value.ref a :: r).contains (.ref b)=(a == b || r.contains (.ref b)):=by
 rw [List.contains_cons]
 congr 1
 by_cases h:a=b
 ·subst h;simp
 ·rw [beq_eq_false_iff_ne.mpr h,beq_eq_false_iff_ne.mpr (λz:Value.ref b=Value.ref a=>h (Value.ref.inj z).symm)]
theorem VP {b:Addr}:VE.contains (.ref b)=false:=rfl
section
variable {K:PySem.W.Frag}{mg:Str->Option Value}{P:Addr}{ca:Str->Addr}
theorem XM.subE (x:XM K mg P ca){n m:Str}(hn:n∈Ca)(hm:m∈Ca):(Value.ref (ca n) :: .ref P :: VE).contains (.ref (ca m))=Fe n m:=by
 rw [Ho,Ho,VP,beq_eq_false_iff_ne.mpr (Ne.symm (x.np m hm)),ul5,ul5];have h1:(m == ("ParleyError" : Str))=false/\(m == ("ValueError" : Str))=false:=by
  simp only [Ca,ul4,ui4,or_false] at hm;rcases hm with rfl | rfl | rfl <;> exact ⟨by decide,by decide⟩
 unfold Fe;rw [h1.1,h1.2,Bool.false_or,Bool.false_or]
 by_cases h:n=m
 ·subst h;rw [ui8,ui8]
 ·rw [beq_eq_false_iff_ne.mpr h,beq_eq_false_iff_ne.mpr λz=>h (x.inj n hn m hm z)]
theorem XM.of (x:XM K mg P ca){n:Str}{C:Addr}(hn:n∈Ca)(h:nsIn K mainGlobals n=some (some (.ref C))):C=ca n:=by
 rw [x.ns n hn] at h;injection h with h;injection h with h;injection h with h
 exact h.symm
end
theorem VH {q1 q2:Bool}{x C C':Addr}{dx dx':Option Addr}(h:XIs q1 x C dx=XIs q2 x C' dx')(e:∃h,XIs q1 x C dx h):C=C'/\dx=dx':=by
 obtain ⟨hh,o,vs,e1,e2,e3,e4⟩:=e;have q:XIs q2 x C' dx' hh:=by rw [<-h];exact ⟨o,vs,e1,e2,e3,e4⟩
 obtain ⟨o',vs',q1,q2,q3,q4⟩:=q;rw [e1] at q1;cases q1
 rw [e2] at q2;cases q2
 exact ⟨rfl,e3.symm.trans q3⟩
section
variable {X:Cx}{e:Expr}{es:List Expr}{pos p pos2:Pos}{E:L2.St->XK}{P:Addr}{ca:Str->Addr}
def ag (n:Str)(f:M (List D)):M Out:=bnd f λds=>match ds with
 | [d]=>ret (.ret (.exc n [d]))
 | _=>fail
def XN0 (K:PySem.W.Frag)(C:Addr):Prop:=∃cd,clsIn K C=some cd/\nsIn K cd.ns "__init__" = some none
def HD (n:Str)(f:M (List D)):M Out:=bnd f λds=>if ds.length<=1000 then ret (.ret (.exc n [])) else fail
theorem LB {n:Str}{f:M (List D)}(x:XM X.K X.mg P ca)(hn:n∈Ca)(hf:IS n=[])(xn:XN0 X.K (ca n))(hc:X.calm=true)(hx:Gp qx X E)(hg:Gl X n)(ha:PA X (e :: es) (RA X.K f))
 (hdb:(n == ("__debug__" : Str))=false:=by decide) (h1:Cb e=false:=by rfl) (h2:Cd es=true:=by rfl):PS X (.Raise (some (.Call (.Name n p) (e :: es) [] pos)) none pos2) (RSX X.K E (HD n f)):=by
 obtain ⟨cd,hcd,hni⟩:=xn;refine B0 (NE hc (x.cl n hn) hx (UZ (x.cl n hn) (x.kp n hn) hcd hni hg (x.ms _ hn) ha hdb (B7 h1) (BU h2).1)) λD σ H z9=>?_;obtain ⟨Oo,c,t,fi,o,t',eq,k⟩:=z9;obtain ⟨ds,t1,e1,eq⟩:=Ao eq;refine ⟨Oo,c,t,fi,ds,t1,e1,λvs H1 c1 f1 s1 rvs=>?_⟩
 split at eq
 ·next hl=>
  cases eq
  refine ⟨by rw [rvs.length];exact hl,λy hy=>?_⟩;have f3:=f1.laid (o:=.ext (XIs qx y (ca n) none)) hy;exact k σ _ c1 f3 (s1.trans (f1.stp_laid hy)) (.ref y) (.exc (x.ns _ hn) Ax (f1.s.free hy) (vs:=[]) rfl .nil) y none rfl
 ·cases eq
end
section
variable {X:Cx}{pos p:Pos}{P:Addr}{ca:Str->Addr}{μ:Cf->Hp->D->(V->Hp->Prop)->Prop}
def RH (K:PySem.W.Frag)(ca:Str->Addr)(μ:Cf->Hp->D->(V->Hp->Prop)->Prop)(h:D->M Out):Addr->Addr->Option Addr->TS:=λx C dx E σ H=>∃Oo c t n ds,FInv K Oo c t σ H/\n∈Ca/\C=ca n/\Rep K c H (.ref x) (.exc n ds)/\
 ∃o t',h (.exc n ds) t=some (o,t')/\∀σ' H' c',FInv K Oo c' t' σ' H'->Stp Oo c H c' H'->
  match o with
  | .next=>E.nx σ' H'
  | .brk=>E.bk σ' H'
  | .cont=>E.ct σ' H'
  | .ret r=>μ c' H' r E.rt
noncomputable def unE (i:Nat)(t:T):T:={ t with env:=t.env.set i none }
theorem FInv.unset {K:PySem.W.Frag}{Oo:Addr->Prop}{c:Cf}{t:T}{σ:L2.St}{H:Hp}(f:FInv K Oo c t σ H)(i:Nat):FInv K Oo c (unE i t) (σ.set i none) H:=by
 have neq:∀{j:Nat} {x:Sl},(t.env.set i none)[j]?=some (some x)->j≠i/\t.env[j]?=some (some x):=λ{j x} q=>by
  by_cases h:j=i
  ·subst h;rw [uh1] at q
   split at q
   ·split at q
    ·injection q with q;cases q
    ·cases q
   ·next h1=>exact absurd rfl h1
  ·rw [ue1 (Ne.symm h)] at q;exact ⟨h,q⟩
 refine ⟨f.s,by simp [unE,f.len],f.sub,λj e q=>?_,λj ds q=>?_,λj k ds es a q1 q2 q3 q4=>?_⟩
 ·obtain ⟨h,q⟩:=neq q;obtain ⟨u,h1,h2⟩:=f.val j e q;exact ⟨u,by rw [ue1 (Ne.symm h)];exact h1,h2⟩
 ·obtain ⟨h,q⟩:=neq q;obtain ⟨a,vs,h1,h2⟩:=f.own j ds q;exact ⟨a,vs,by rw [ue1 (Ne.symm h)];exact h1,h2⟩
 ·obtain ⟨h,q1⟩:=neq q1;obtain ⟨h',q2⟩:=neq q2;rw [ue1 (Ne.symm h)] at q3;rw [ue1 (Ne.symm h')] at q4;exact f.inj j k ds es a q1 q2 q3 q4
def hAs (n':Str)(i:Nat)(s:M Out)(r:D->M Out):D->M Out:=λe t=>match e with
 | .exc n ds=>if Fe n n'=true then (match s { t with env:=t.env.set i (some (.val (.exc n ds))) } with
   | some (o,t2)=>some (o,unE i t2)
   | none=>none) else r (.exc n ds) t
 | _=>none
def hNo (n':Str)(s:M Out)(r:D->M Out):D->M Out:=λe t=>match e with
 | .exc n ds=>if Fe n n'=true then s t else r (.exc n ds) t
 | _=>none
noncomputable def V8:D->M Out:=λ_ _=>none
theorem V4:PH qx X [] (RH X.K ca μ V8):=by
 rintro _ _ _ _ _ _ _ _ _ _ _ ⟨_,_,_,_,_,_,_,_,_,_,_,e,_⟩
 cases e
theorem XG {n':Str}{C':Addr}{bm':List Value}{b₀:Stmt}{suite:List Stmt}{rest:List ExceptHandler}{s:M Out}{r:D->M Out}(x:XM X.K X.mg P ca)(hg:Gl X n')(hm:X.mg n'=some (.ref C'))(c':XCl X.K C' bm')(hs:∀n∈Ca,(Value.ref (ca n) :: .ref P :: VE).contains (.ref C')=Fe n n')
 (hb:∀x,PSs (X.mark x) (b₀ :: suite) (RSg X.K μ s)) (hr:PH qx X rest (RH X.K ca μ r)) (hdb:(n' == ("__debug__" : Str))=false:=by decide) :
 PH qx X (.ExceptHandler (some (.Name n' p)) none (b₀ :: suite) pos :: rest) (RH X.K ca μ (hNo n' s r)):=by
 intro pins s0 σ H y C dx T D I o q;refine XU hg hm c' hb hr hdb pins s0 σ H y C dx T D I o ?_;obtain ⟨Oo,c,t,n,ds,fi,hn,rfl,rv,o1,t',eq,k⟩:=q;refine ⟨_,x.cl n hn,?_⟩;rw [hs n hn];unfold hNo at eq;dsimp only at eq
 by_cases hb':Fe n n'=true
 ·rw [if_pos hb'] at eq ⊢;exact ⟨Oo,c,t,fi,o1,t',eq,λσ' H' c2 f2 s2=>by
   have:=k _ H' c2 f2 s2
   cases o1 <;> exact this⟩
 ·rw [if_neg hb'] at eq ⊢;exact ⟨Oo,c,t,n,ds,fi,hn,rfl,rv,o1,t',eq,k⟩
noncomputable def Gk (b:M Out)(h:D->M Out):M Out:=λt=>match b t with
 | some (.ret (.exc n ds),t1)=>if n∈Ca then h (.exc n ds) t1 else none
 | z=>z
theorem V7 {body:List Stmt}{h₀:ExceptHandler}{hs:List ExceptHandler}{b:M Out}{h:D->M Out}(x:XM X.K X.mg P ca)(hμ:∀c H r rt,BR r=false->(∀v,Rep X.K c H v r->rt v H)=μ c H r rt)(h1:X.stack=X.env :: X.outer)(h2:X.env.frame=some X.env.locals)
 (hb:∀(pn:List (Addr×Obj)) (E:L2.St->XK),Fm (CX1 qx X.prog X.w) { X with pn:=pn,xe:=XE qx { X with pn:=pn } E } E->PSs { X with pn:=pn,xe:=XE qx { X with pn:=pn } E } body (RSX X.K E b)) (hh:PH qx X (h₀ :: hs) (RH X.K ca μ h)):PS X (.Try body (h₀ :: hs) [] [] pos) (RSg X.K μ (Gk b h)):=
 B0 (WK h1 h2 (λpn E=>hb pn E (XE.pass (X:={ X with pn:=pn }))) hh) λD σ H z9=>by
  obtain ⟨Oo,c,t,fi,o,t',eq,k⟩:=z9;unfold Gk at eq
  cases e1:b t with
  | none=>rw [e1] at eq;cases eq
  | some z=>
    obtain ⟨o1,t1⟩:=z;rw [e1] at eq;refine ⟨Oo,c,t,fi,o1,t1,e1,λσ1 H1 c1 f1 s1=>?_⟩
    cases o1 with
    | next=>cases eq;exact k σ1 H1 c1 f1 s1
    | brk=>cases eq;exact k σ1 H1 c1 f1 s1
    | cont=>cases eq;exact k σ1 H1 c1 f1 s1
    | ret r=>
      intro v rv
      cases hx:BR r with
      | false=>
        rw [if_neg (by decide)];have eq':some (Out.ret r,t1)=some (o,t'):=by cases r <;> first | exact eq | cases hx
        cases eq'
        have q:=k σ1 H1 c1 f1 s1;have q:μ c1 H1 r D.rt:=q;rw [<-hμ _ _ _ _ hx] at q;exact q v rv
      | true=>
        rw [if_pos rfl];intro y dx hv y' C hy' hC hex
        cases rv with
        | @exc q0 x0 C0 dx0 n vs ds g hx0 hA fl rs=>
          cases hv
          cases hy'
          dsimp only at eq
          split at eq
          ·next hn=>
           rw [hx0] at hC;injection hC with hC;injection hC with hC
           obtain ⟨e2,e3⟩:=VH hC.symm hex;have:=x.of hn g;exact ⟨Oo,c1,t1,n,ds,f1,hn,e2.trans this,.exc g hx0 hA fl rs,o,t',eq,λσ' H' c' f' s'=>k σ' H' c' f' (s1.trans s')⟩
          ·cases eq
        | _=>cases hx
end
end F2
namespace F2
open PySem L2 PySem.Spec PySem.W
variable {qx:Bool}
def aw (n:Str):D->M D
 | .exc m _=>if m∈Ca then ret (.bl (Fe m n)) else fail
 | .non=>ret (.bl false)
 | .bl _=>ret (.bl false)
 | .int _=>ret (.bl false)
 | .str _=>ret (.bl false)
 | .lst _=>ret (.bl false)
 | .tup _=>ret (.bl false)
 | .dic=>ret (.bl false)
 | _=>fail
section
variable {X:Cx}{P:Addr}{ca:Str->Addr}{a:Expr}{f:M D}{p pos q:Pos}
def MF (nm:Str):D->M D
 | .exc n ds=>if n∈Ca then (match ((IS n).zip ds).lookup nm with
   | some d=>ret d
   | none=>fail) else fail
 | _=>fail
theorem IJ {K:PySem.W.Frag}{c:Cf}{H:Hp}{nm:Str}{d:D}:∀{ns:List Str} {vs:List V} {ds:List D},Reps K c H vs ds->(ns.zip ds).lookup nm=some d->∃v,(ns.zip vs).lookup nm=some v/\Rep K c H v d
 | [],_,_,_,e=>by cases e
 | _ :: _,_,_,.nil,e=>by cases e
 | n :: ns,_,_,.cons (v:=v0) (d:=d0) r rs,e=>by
   by_cases h:nm=n
   ·subst h;simp only [List.zip_cons_cons,List.lookup,ui8,uh2] at e ⊢;subst e;exact ⟨v0,rfl,r⟩
   ·have hb:(nm == n)=false:=beq_eq_false_iff_ne.mpr h;simp only [List.zip_cons_cons,List.lookup,hb] at e ⊢;exact IJ rs e
theorem V3 {nm:Str}(x:XM X.K X.mg P ca)(hno:∀n∈Ca,findIn X.K (.ref (ca n)) nm=some none)(ha:PE X a (RE X.K f))(hb:attributeBase a nm X.env (eval a X.env)=eval a X.env):PE X (.Attribute a nm pos) (RE X.K (bnd f (MF nm))):=by
 intro pins s σ H Q I h;obtain ⟨Oo,c0,t,fi,r,t',eq,k⟩:=h;obtain ⟨d,t1,e1,eq⟩:=Ao eq;refine T5 hb (thn (ha pins s σ H (λv H1=>∃c1,FInv X.K Oo c1 t1 σ H1/\Stp Oo c0 H c1 H1/\Rep X.K c1 H1 v d) I ⟨Oo,c0,t,fi,d,t1,e1,λv H1 c1 f1 s1 rv=>⟨c1,f1,s1,rv⟩⟩) λu s1 z9=>?_);obtain ⟨v,H1,I1,rx,c1,f1,st1,rv⟩:=z9
 cases rv with
 | @exc q0 x0 C0 dx0 m vs ds g hx0 hA fl rs=>
   cases (show u=Value.ref x0 from rx)
   unfold MF at eq;dsimp only at eq
   split at eq
   ·next hm=>
    have hc:=x.of hm g;subst hc
    cases el:((IS m).zip ds).lookup nm with
    | none=>rw [el] at eq;cases eq
    | some d'=>
      rw [el] at eq
      cases eq
      obtain ⟨v',l1,r1⟩:=IJ rs el
      cases dx0 with
      | none=>
        have fl:vs=[]:=fl;subst fl;simp at l1
      | some dd=>
        have hdd:H1 dd=some (.xd ((IS m).zip vs)):=fl.1;obtain ⟨o,vs0,q1,q2,q3,q4,_⟩:=(I1.hok x0 _ hx0).1;have nc:notCls o=true:=by unfold notCls;rw [q4]
        obtain ⟨mA,nA,rA⟩:=(show ObjOk X.prog X.w H1 s1.heap dd (.xd ((IS m).zip vs)) from I1.hok dd _ hdd);obtain ⟨od,ho,hl⟩:=Hx nA;obtain ⟨u',hu,ru⟩:=RelO.some_of (v:=v') (o:=mA nm) (by rw [<-l1];exact rA nm);have IA:InstAt s1.heap x0 o (ca m) (some od):=⟨q1,q2,nc,by rw [q3];exact ho⟩;unfold getAttr;refine uo0 (wpAny_mkText ?_);refine Ql (s:={ s1 with toks:=s1.toks + 1 }) I1.kIn IA (x.gt m hm) (R7 I1.kIn IA (x.gt m hm) (findObj_own (x.gt m hm).hd (hno m hm) rfl (by rw [hl,hu])) ?_);exact handed_on (Qy ru) ⟨v',H1,I1.tok _,ru,k v' H1 c1 f1 st1 r1⟩
   ·cases eq
 | _=>cases eq
end
end F2
namespace F2
open PySem L2 PySem.Spec PySem.W
variable {qx:Bool}
def P0 (K:PySem.W.Frag)(P c:Addr):Bool:=Mt K c (.ref P :: VE) && keepIn K (.ref c) && findIn K (.ref c) "__getattribute__" == some (some (.builtin "BaseException.__getattribute__")) && findIn K (.ref c) "__getattr__" == some none && mroIn K c (.type "BaseException") == some true
 && mroIn K c (.type "object") == some true && hasDictIn K c && findIn K (.ref c) "__class__" == some (some (.builtin "object.__class__")) && findIn K (.ref c) "at" == some none && findIn K (.ref c) "side" == some none
structure XOne (K:PySem.W.Frag)(P c:Addr):Prop where
 cl:XCl K c (.ref P :: VE)
 kp:keepIn K (.ref c)=true
 gt:XGet K c
 gc:findIn K (.ref c) "__class__" = some (some (.builtin "object.__class__"))
 na:findIn K (.ref c) "at" = some none
 nd:findIn K (.ref c) "side" = some none
variable {K:PySem.W.Frag}
theorem Lp {P c:Addr}(h:P0 K P c=true):XOne K P c:=by
 unfold P0 at h;simp only [uh8,beq_iff_eq] at h;obtain ⟨⟨⟨⟨⟨⟨⟨⟨⟨h1,h2⟩,h3⟩,h4⟩,h5⟩,h6⟩,h7⟩,h8⟩,h9⟩,h10⟩:=h;exact ⟨.of_in h1,h2,⟨h3,h4,h5,h6,h7⟩,h8,h9,h10⟩
noncomputable def KQ (c1 c2 c3:Addr):Str->Addr:=λn=>if n = "NoValue" then c1 else if n = "Short" then c2 else c3
theorem Db {Q:Str->Prop}(h1:Q "NoValue")(h2:Q "Short")(h3:Q "Broken"):∀n∈Ca,Q n:=by
 intro n hn;simp only [Ca,ul4,ui4,or_false] at hn;rcases hn with rfl | rfl | rfl <;> assumption
def PZ (K:PySem.W.Frag)(P:Addr)(cs:List Addr):Bool:=Mt K P VE && cs.all (P0 K P)
theorem YJ {h:Heap}{mg:Str->Option Value}{P c1 c2 c3:Addr}(X:K.In h)(G:h.Ns mainGlobals mg)(p:nsIn K mainGlobals "ParleyError" = some (some (.ref P)))(a1:nsIn K mainGlobals "NoValue" = some (some (.ref c1)))(a2:nsIn K mainGlobals "Short" = some (some (.ref c2)))(a3:nsIn K mainGlobals "Broken" = some (some (.ref c3)))(q:PZ K P [c1,c2,c3]=true)(nd:[P,c1,c2,c3].Nodup):XM K mg P (KQ c1 c2 c3):=by
 unfold PZ at q;simp only [ul6,List.all_nil,Bool.and_true,uh8] at q;obtain ⟨q0,q1,q2,q3⟩:=q;have o1:=Lp q1;have o2:=Lp q2;have o3:=Lp q3;have inj:∀n∈Ca,∀m∈Ca,KQ c1 c2 c3 n=KQ c1 c2 c3 m->n=m:=by
  simp only [uj3,ul4,ui4,or_false,not_or,List.nodup_nil,and_true] at nd;obtain ⟨⟨n1,n2,n3⟩,⟨m12,m13⟩,m23,_⟩:=nd;have h1:KQ c1 c2 c3 "NoValue" = c1:=rfl;have h2:KQ c1 c2 c3 "Short" = c2:=rfl;have h3:KQ c1 c2 c3 "Broken" = c3:=rfl;refine Db ?_ ?_ ?_ <;> refine Db ?_ ?_ ?_ <;> intro e <;> first | rfl | (exfalso;rw [h1] at e) | (exfalso;rw [h2] at e) | (exfalso;rw [h3] at e)
  all_goals (first | rw [h1] at e | rw [h2] at e | rw [h3] at e)
  all_goals (first | contradiction | (have e:=e.symm;contradiction))
 refine ⟨mg_of X G p,.of_in q0,Db a1 a2 a3,Db (mg_of X G a1) (mg_of X G a2) (mg_of X G a3),Db o1.cl o2.cl o3.cl,inj,?_,
  Db o1.kp o2.kp o3.kp,Db o1.gt o2.gt o3.gt,Db o1.gc o2.gc o3.gc,Db o1.na o2.na o3.na,Db o1.nd o2.nd o3.nd⟩
 simp only [uj3,ul4,ui4,or_false,not_or] at nd;obtain ⟨⟨n1,n2,n3⟩,_⟩:=nd;exact Db (Ne.symm n1) (Ne.symm n2) (Ne.symm n3)
noncomputable def E2 (s:Stmt)(k:Nat):Stmt:=match s with
 | .ClassDef _ _ _ body _ _ _ _ _ _ _=>body.getD k (.Pass ⟨0,0,0,0⟩)
 | _=>.Pass ⟨0,0,0,0⟩
noncomputable def Nb (K:PySem.W.Frag)(C f:Addr):Bool:=match clsIn K C with
 | some cd=>nsIn K cd.ns "__init__" == some (some (.ref f))
 | none=>false
noncomputable def Kf (K:PySem.W.Frag)(C:Addr):Bool:=match clsIn K C with
 | some cd=>nsIn K cd.ns "__init__" == some none
 | none=>false
theorem RB {C:Addr}(h:Kf K C=true):XN0 K C:=by
 unfold Kf at h
 split at h
 ·next cd e=>exact ⟨cd,e,beq_iff_eq.mp h⟩
 ·cases h
end F2
namespace F2
open PySem L2 PySem.Spec PySem.W
inductive Kd where
 | pl | fr | ex | er
abbrev okK (k:Kd)(P:Program)(w:World)(K:PySem.W.Frag)(mg:Str->Option Value)(base:Heap)(n:Nat)(fa:Addr)(fd:FuncData)(ps:List Str)(f:Fn):Prop:=match k with
 | .pl=>FnOk P w K mg base CX0 n fa fd ps (spF K f)
 | .fr=>FnOk P w K mg base CX0 n fa fd ps (Jp K f)
 | .ex=>FnOk P w K mg base (CX1 true P w) n fa fd ps (spX K f)
 | .er=>FnOk P w K mg base (CX1 false P w) n fa fd ps (spX K f)
section
variable {X:Cx}{e a b:Expr}{pos:Pos}{f g:M D}
theorem Cm {E:XK}(h:PE X e (RE X.K f)):PS X (.Return (some e) pos) (RSg X.K (μX X.K E) (AR (nxD f))):=
 B0 (HC h) λD σ H z9=>by
  obtain ⟨Oo,c,t,fi,o,t',eq,k⟩:=z9;obtain ⟨d,t1,e1,eq⟩:=Ao eq
  cases eq
  obtain ⟨e2,e3⟩:=Nv e1;exact ⟨Oo,c,t,fi,d,_,e2,λv H1 c1 f1 s1 rv=>QB e3 (k σ H1 c1 f1 s1 v rv)⟩
end
theorem Wn {K:PySem.W.Frag}{E:XK}:∀(c:Cf) (H:Hp) (r:D) (rt:V->Hp->Prop),BR r=false->(∀v,Rep K c H v r->rt v H)=μX K E c H r rt:=λc H r rt h=>by
 unfold μX;rw [h];rfl
variable {qx:Bool}
section
variable {X:Cx}{P:Addr}{ca:Str->Addr}{a:Expr}{es:List Expr}{f:M D}{p pos q:Pos}{i:Nat}{ns:List Str}
end
end F2
namespace F2
open PySem L2 PySem.Spec SeqAt
end F2
namespace L2
open PySem PySem.Spec PyProof.Rows PySem.W PySem.Builtin PySem.Builtin.ObjectAttr
variable {qx:Bool}
section
variable {prog:Program}{w:World}{A:Around}{s:Shared}{K:PySem.W.Frag}{x C P dx:Addr}{ox:Obj}{od:Option Obj}{R:Result->Shared->Prop}{name:Str}{v:Value}{tk:Tok}{cd:ClassData}
theorem Sn (X:K.In s.heap)(I:InstAt s.heap x ox C od)(hc:clsIn K C=some cd)(hmr:cd.mro=F4 C P)(ha:findIn K (.ref C) name=some none)
 (h:wpAny (model prog w) A.in1 (storeInOwnDict (.ref x) (.ref C) (.str name tk) name v false) (λfin s'=>match fin with | .done f=>R (.ok f) s' | .again c'=>c'.quiet=true/\codeAny (model prog w) A c' R s') (λe s'=>R (.error e) s') s) :
 codeAny (model prog w) A (.call (.builtin "object.__setattr__") ⟨[.ref x,.str name tk,v],[]⟩) R s:=by
 have SF:=PySem.F.store_object;have ob:Looks (model prog w) s.heap (isInstance (.ref x) (.type "object")) true:=I.type.andThen (looks_mroIn X (by unfold mroIn;rw [hc,Option.bind_some,hmr];rfl));refine codeAny_call_builtin SF.slot.plain SF.entry (@check_slot (model prog w) _ _ s "object.__setattr__" "object" "__setattr__" (.ref x) [.str name tk,v] [] _ SF.kind SF.split ob (SF.args (.ref x) (.str name tk) v) ?_);have mr:Looks (model prog w) s.heap (mroOf (.ref C)) (F4 C P):=by rw [<-hmr];exact (looks_clsIn X hc).andThen .now
 rw [osa_eq,refuse_eq];refine uo0 (uo0 (I.type.here (uo0 (mr.here ?_))));rw [Kp];refine uo1 (uo0 (I.type.here (uo0 ((looks_findIn X ha).here ?_))));exact uo0 (uo1 h)
theorem ST {E:Value->Shared->Prop}{Q:Unit->Shared->Prop}{m:Str->Option Value}{a:Str}{oD:Obj}(X:K.In s.heap)(hx:s.heap.get? x=some ox)(hcl:ox.cls = .ref C)(hno:notCls ox=true)(hod:ox.dict=some dx)(hdx:s.heap.get? dx=some oD)(n1:s.heap.Ns1 dx m)(hm:PySem.Within m [a])(hs:findIn K (.ref C) "__setattr__" = some (some (.builtin "object.__setattr__")))(hc:clsIn K C=some cd)(hmr:cd.mro=F4 C P)(hd:cd.hasDict=true)(ha:findIn K (.ref C) name=some none)
 (h:∀h',(∀b o,b≠dx->s.heap.get? b=some o->h'.get? b=some o)->h'.Ns1 dx (λy=>if y=name then some v else m y)->Q () { s with heap:=h',toks:=s.toks + 2 }) :
 wpAny (model prog w) A (setAttr (.ref x) name v) Q E s:=by
 have I:InstAt s.heap x ox C (some oD):=⟨hx,hcl,hno,by rw [hod];exact hdx⟩;refine set_plain X I hs (Sn (s:={ s with toks:=s.toks + 1 }) X I hc hmr ha ?_);refine uo0 (uo1 (uo0 (uo0 (wpAny_loadPart (s:={ s with toks:=s.toks + 1 }) hx ?_))));rw [hod,hcl];refine uo0 (Looks.here (s:={ s with toks:=s.toks + 1 }) (looks_clsIn X hc) ?_);rw [hd,if_neg (by decide)];refine uo1 ?_;refine uo0 (uo1 (uo0 ?_));refine wpAny_nsSet1 n1 λh' n2 sb=>?_;obtain ⟨oD,esD,epD,hoD,hdD,hcD⟩:=n2.count (PySem.Within.cons name v hm);refine uo0 (wpAny_lookBehind hoD (by rw [hdD];exact pastItsLine_dict (um5 hcD (by show 2<=_;decide))) ?_);exact uo1 (h h' (λb o hb e=>(sb.2 b hb).trans e) n2)
end
def Zh (K:PySem.W.Frag)(P:Addr)(ta tv:TE)(f1 f:Str):TS:=λD σ H=>tv σ H λy H1=>ta σ H1 λx H2=>∃a C tp dx y1,x = .ref a/\H2 a=some (Ge a C tp dx)/\H2 dx=some (.xd [(f1,y1)])/\dx≠a/\XAt K C P f/\D.nx σ (upd H2 dx (.xd [(f1,y1),(f,y)]))
theorem Q3 {X:Cx}{P:Addr}{o value:Expr}{ta tv:TE}{f1 f:Str}{pos' pos:Pos}(hf:f1≠f)(ha:PE X o ta)(hv:PE X value tv)(hs:swapsWith value (some (.Attribute o f pos')) pos.line X.env=pure false):PS X (.Assign [.Attribute o f pos'] value pos) (Zh X.K P ta tv f1 f):=by
 intro pins s σ H D I h;refine plainObj_wpAny_Assign_Attribute (thn (hv pins s σ H _ I h) λu s1 ⟨y,H1,I1,ry,q⟩=>thn (ha pins s1 σ H1 _ I1 q) λov s2 z9=>?_) hs;obtain ⟨x,H2,I2,rx,a,C,tp,dx,y1,ex,ea,ed,ne,c,q2⟩:=z9;subst ex;obtain rfl:ov=Value.ref a:=rx;obtain ⟨cd,c1,c2,c3⟩:=c.cl.cls;have hx:s2.heap.get? a=some { excObj C tp with dict:=some dx }:=(I2.hok a _ ea).1;obtain ⟨m,n1,rm⟩:=(show ObjOk X.prog X.w H2 s2.heap dx (.xd [(f1,y1)]) from I2.hok dx _ ed);obtain ⟨oD,ho,_⟩:=Hx n1;have hw:PySem.Within m [f1]:=λg hg=>by
  by_cases e:g=f1
  ·simp [e]
  ·exfalso;have z:=rm g;have hgb:(g == f1)=false:=beq_eq_false_iff_ne.mpr e;simp only [List.lookup,hgb] at z
   cases hm:m g with
   | none=>exact hg hm
   | some u=>rw [hm] at z;exact z
 refine ST I2.kIn hx rfl rfl rfl ho n1 hw c.set c1 c2 c3 c.no λh' k n=>?_;have na:∀b u,s2.heap.get? b=some u->H2 b=none->b≠dx:=λb u _ z w'=>by rw [w',ed] at z;cases z
 refine ⟨σ,_,I2.un (h':=h') (t':=s2.toks + 2) ⟨λb u e1 e2 _ _=>k b u (na b u e1 e2) e1,λb u e1 e2 _ _=>⟨u.slots,k b u (na b u e1 e2) e1⟩,λb u e1 e2 _=>?_,λb u e1 _=>?_,λb xs e1=>?_,λb o' u e1=>?_,λb ps e1=>⟨#[],?_⟩⟩ λb u e1=>?_,q2⟩
 ·rw [Ar (na b u e1 e2)];exact e2
 ·by_cases hb:b=dx
  ·subst hb;obtain ⟨od',es,ep,e,_⟩:=n;exact ⟨_,e⟩
  ·exact ⟨_,k b u hb e1⟩
 ·rw [Ar (λz=>by rw [z,ed] at e1;cases e1)];exact e1
 ·rw [Ar (λz=>by rw [z,ed] at e1;cases e1)];exact e1
 ·rw [Ar (λz=>by rw [z,ed] at e1;cases e1),e1];simp
 ·by_cases hb:b=dx
  ·subst hb;rw [Ax] at e1;cases e1
   refine ⟨_,n,λg=>?_⟩
   by_cases hg:g=f
   ·subst hg;have hgb:(g == f1)=false:=beq_eq_false_iff_ne.mpr (Ne.symm hf);simp only [List.lookup,hgb,ui8,if_true];exact ry
   ·have hgb:(g == f)=false:=beq_eq_false_iff_ne.mpr hg;have z:=rm g
    by_cases hg1:g=f1
    ·subst hg1;simp only [List.lookup,ui8] at z;simp only [List.lookup,ui8,if_neg hg];exact z
    ·have hgb1:(g == f1)=false:=beq_eq_false_iff_ne.mpr hg1;simp only [List.lookup,hgb1] at z;simp only [List.lookup,hgb,hgb1,if_neg hg];exact z
  ·rw [Ar hb] at e1;refine (I2.hok b u e1).stay (λz v hz q=>k z v ?_ q) (λz q=>?_) λz xs q=>?_
   ·rcases hz with rfl | hz
    ·exact hb
    ·intro w';rw [w',ed] at hz;cases hz
   ·rw [Ar (λz=>by rw [z,ed] at q;cases q)];exact q
   ·rw [Ar (λz=>by rw [z,ed] at q;cases q)];exact q
def HG (K:PySem.W.Frag)(P:Addr)(a b:Str):Sp:=λvs H Q _=>∃x C tp v u,vs=[.ref x,v,u]/\H x=some (exO x C tp)/\XAt K C P a/\XAt K C P b/\∀dx,H dx=none->dx≠x->Q .non (upd (upd H dx (.xd [(a,v),(b,u)])) x (Ge x C tp dx))
section
variable {X:Cx}{k:Nat}{f C P:Addr}{fd:FuncData}{pins:List (Addr×Obj)}{σ:St}{H:Hp}{s:Shared}{Q:Value->Shared->Prop}{us:List Value}{vs:List V}{a b:Str}{ps:List Str}{v v2:V}{u u2:Value}
theorem PL (M:XMk X.K C P f)(ha:XAt X.K C P a)(hab:XAt X.K C P b)(F:FnOk X.prog X.w X.K X.mg X.base CX0 k f fd ps (HG X.K P a b))(hr:Room (k + 1) X.A)(hb:Binds X.K fd ps [])(I:Inv X pins σ H s)(r:RelV v u)(rr:RelV v2 u2)
 (h:∀s' x dx,Inv X pins σ (upd (upd H dx (.xd [(a,v),(b,v2)])) x (.ext (F2.XIs qx x C (some dx)))) s'->H x=none->H dx=none->dx≠x->s.heap.objs.size<=x->XRec true s'.heap x C (some dx) .none->Q (.ref x) s'):wpAny (model X.prog X.w) X.A (call (.ref C) [u,u2]) Q X.xe s:=by
 obtain ⟨nm,q,N,bs,sn,sub,ab,col,dd,k0,k1,k2,k3,k5,hC,hN⟩:=M.cl.obj I.kIn;have hni:s.heap.nsMap N "__init__" = some (.ref f):=by
  obtain ⟨cd,c1,c2⟩:=M.init;refine Kg I.kIn hN ?_;unfold clsIn at c1
  split at c1
  ·next l=>
   cases c1
   have z:=I.kIn _ _ l;rw [hC] at z
   cases z
   exact c2
  ·cases c1
 have I1:Inv X pins σ (upd H (s.heap.objs.size + 1) (exO (s.heap.objs.size + 1) C s.heap.objs.size)) { s with heap:=Ec s.heap C [u,u2] }:=by
  refine I.laid (t':=s.toks) (λb o e=>uc5 _ (uc5 _ e)) (un8 _) (Qk ?_);show ((s.heap.push _).push _).get? _=_
  heap_get
 have hx0:=I.hok.fresh (un8 s.heap.objs.size);have r2:Vals [V.ref (s.heap.objs.size + 1),v,v2] [Value.ref (s.heap.objs.size + 1),u,u2]:=.cons rfl (.cons r (.cons rr .nil));have hsp:HG X.K P a b [V.ref (s.heap.objs.size + 1),v,v2] (upd H (s.heap.objs.size + 1) (exO (s.heap.objs.size + 1) C s.heap.objs.size))
  (λw' H'=>w' = .non/\∃dx,H dx=none/\dx≠s.heap.objs.size + 1/\H'=upd (upd H dx (.xd [(a,v),(b,v2)])) (s.heap.objs.size + 1) (Ge (s.heap.objs.size + 1) C s.heap.objs.size dx)) E0:=by
  refine ⟨_,C,s.heap.objs.size,v,v2,rfl,Ax,ha,hab,λdx h1 h2=>⟨rfl,dx,by rw [Ar h2] at h1;exact h1,h2,?_⟩⟩
  funext b
  by_cases e1:b=s.heap.objs.size + 1
  ·subst e1;rw [Ax,Ax]
  ·by_cases e2:b=dx
   ·subst e2;rw [Ar e1,Ar e1,Ax,Ax]
   ·rw [Ar e1,Ar e1,Ar e2,Ar e2,Ar e1]
 have hl:([Value.ref (s.heap.objs.size + 1),u,u2]++[]).length=ps.length:=by
  have e:=F.len _ _ _ _ hsp;simpa using e
 obtain ⟨hh,g,d,t,os⟩:=s;refine wpAny_call (Nl ub0 (M.cl.tail I.kIn) hC hN hni ((bind_fn I.kIn _ (beq_iff_eq.mp M.fn))) (by show 2<=sizeLine;decide) ?_);refine codeAny_mono (F.run _ X.stack _ _ ⟨[Value.ref (hh.objs.size + 1),u,u2],[]⟩ [Value.ref (hh.objs.size + 1),u,u2] _ _ E0 (hr.make C [u,u2] []) (I1.env0.make C [u,u2] []) (by have:=hb _ [Value.ref (hh.objs.size + 1),u,u2] I1.kIn hl;simpa using this) r2 hsp) λr s' hq'=>?_
 cases r with
 | error e=>exact hq'.elim
 | ok fl=>
   cases fl with
   | ret w'=>
     obtain ⟨v',H',I3,rv,rfl,dx,d1,d2,rfl⟩:=I1.after hq';refine ⟨rv,?_⟩;have hx:=(I3.hok (hh.objs.size + 1) _ Ax).1;have hx:s'.heap.get? (hh.objs.size + 1)=some { excObj C hh.objs.size with dict:=some dx }:=hx;have xr:XRec true s'.heap (hh.objs.size + 1) C (some dx) .none:=⟨_,_,hx,rfl,rfl,rfl,rfl,λ_=>⟨rfl,by show 4 < 6;decide⟩⟩;have I4:=I3.write (x:=hh.objs.size + 1) (e:=hh.objs.size + 1) (o:=.ext (F2.XIs qx (hh.objs.size + 1) C (some dx))) (h':=s'.heap) (t':=s'.toks) (by rw [Ax];trivial) (.inl rfl) (λ_ _ _ z=>z) ⟨_,hx⟩ (JN xr.to.is);rw [OZ] at I4;exact h s' (hh.objs.size + 1) dx I4 hx0 d1 d2 (un8 _) xr
   | next=>exact False.elim hq'
   | brk=>exact False.elim hq'
   | cont=>exact False.elim hq'
end
section
variable {X:Cx}{k:Nat}{f C P:Addr}{fd:FuncData}{a b:Str}{ps:List Str}{n:Str}{p pos:Pos}{e e':Expr}
theorem WI {t:TA}(M:XMk X.K C P f)(ha:XAt X.K C P a)(hab:XAt X.K C P b)(F:FnOk X.prog X.w X.K X.mg X.base CX0 k f fd ps (HG X.K P a b))(hr:Room (k + 1) X.A)(hb:Binds X.K fd ps [])(hg:Gl X n)(hm:X.mg n=some (.ref C))(hA:PA X [e,e'] t)
 (hdb:(n == ("__debug__" : Str))=false:=by decide) (h1:starEach [e,e'] X.env=(false,eval e X.env) :: starEach [e'] X.env:=by rfl) (hpl:(backTo pos (starEach [e'] X.env)).any (·.1)=false:=by rfl) :
 PM qx X (.Call (.Name n p) [e,e'] [] pos) C (λσ H Q=>t σ H λvs H1=>∃v u,vs=[v,u]/\∀x dx,H1 x=none->H1 dx=none->dx≠x->Q x (some dx) (upd (upd H1 dx (.xd [(a,v),(b,u)])) x (.ext (F2.XIs qx x C (some dx))))):=by
 intro pins s σ H Q I h;refine wpAny_Call_Name_kw (El I hg hm ?_ hdb);refine uf6 (h₀:=X.base) I.ok.mod.kin M.kp (thn (hA pos pins s σ H _ I h) λus s1 z9=>?_) h1 hpl;obtain ⟨vs,H1,I1,r,v,u,ev,q⟩:=z9;refine ⟨I1.kIn,?_⟩;subst ev
 cases r with
 | cons r0 rs=>
   cases rs with
   | cons r1 rs=>
     cases rs
     exact PL M ha hab F hr hb I1 r0 r1 λs' x dx I' hx hdx ne nx rc=>⟨x,some dx,_,rfl,I',Ax,um5 I1.sz nx,rc,q x dx hx hdx ne⟩
end
end L2
namespace F2
open PySem L2 PySem.Spec PySem.W
variable {qx:Bool}
section
variable {X:Cx}{e e':Expr}{pos p pos2:Pos}{E:L2.St->XK}{P:Addr}{ca:Str->Addr}
def XN2 (prog:Program)(w:World)(K:PySem.W.Frag)(mg:Str->Option Value)(base:Heap)(C P:Addr):Prop:=
 ∃(f:Addr) (fd:FuncData) (ps:List Str),XMk K C P f/\XAt K C P "at"/\XAt K C P "side"/\Binds K fd ps []/\FnOk prog w K mg base CX0 1 f fd ps (HG K P "at" "side")
def EB (n:Str)(f:M (List D)):M Out:=bnd f λds=>match ds with
 | [d,d']=>ret (.ret (.exc n [d,d']))
 | _=>fail
theorem F6 {f:M (List D)}(x:XM X.K X.mg P ca)(xn:XN2 X.prog X.w X.K X.mg X.base (ca "Broken") P)(hr:L2.Room 2 X.A)(hc:X.calm=true)(hx:Gp qx X E)(hg:Gl X "Broken")(ha:PA X [e,e'] (RA X.K f))
 (h1:Cb e=false:=by rfl) (h2:Cd [e']=true:=by rfl):PS X (.Raise (some (.Call (.Name "Broken" p) [e,e'] [] pos)) none pos2) (RSX X.K E (EB "Broken" f)):=by
 obtain ⟨fa,fd,ps,M,A,A2,B,F⟩:=xn;have hn:("Broken" : Str)∈Ca:=by decide
 refine B0 (NE hc M.cl hx (WI M A A2 F hr B hg (x.ms _ hn) ha (by decide) (B7 h1) (BU h2).1)) λD σ H z9=>?_;obtain ⟨Oo,c,t,fi,o,t',eq,k⟩:=z9;obtain ⟨ds,t1,e1,eq⟩:=Ao eq;refine ⟨Oo,c,t,fi,ds,t1,e1,λvs H1 c1 f1 s1 rvs=>?_⟩;rcases ds with _ | ⟨d,_ | ⟨d',_ | ⟨_,_⟩⟩⟩
 ·cases eq
 ·cases eq
 ·cases rvs with
  | @cons v0 _ _ _ rv r=>
  cases r with
  | @cons v1 _ _ _ rv1 r=>
  cases r
  cases eq
  refine ⟨_,_,rfl,λy dx hy hdx ne=>?_⟩;have f2:=f1.laid (o:=.xd [("at",v0),("side",v1)]) hdx;have hy2:upd H1 dx (.xd [("at",v0),("side",v1)]) y=none:=by rw [Ar (Ne.symm ne)];exact hy
  have f3:=f2.laid (o:=.ext (XIs qx y (ca "Broken") (some dx))) hy2;have ex:=(f1.stp_laid (o:=.xd [("at",v0),("side",v1)]) hdx).ext.trans (f2.stp_laid (o:=.ext (XIs qx y (ca "Broken") (some dx))) hy2).ext;have s3:=s1.trans ((f1.stp_laid (o:=.xd [("at",v0),("side",v1)]) hdx).trans (f2.stp_laid (o:=.ext (XIs qx y (ca "Broken") (some dx))) hy2));refine k σ _ c1 f3 s3 (.ref y) (.exc (x.ns _ hn) Ax (f2.s.free hy2) ?_ (.cons (rv.mono ex) (.cons (rv1.mono ex) .nil))) y (some dx) rfl;exact ⟨by rw [Ar ne,Ax];rfl,f1.s.free hdx⟩
 ·cases eq
end
def XF2 (K:PySem.W.Frag)(C P:Addr)(qual:Str)(st:Stmt):Prop:=∃(f:Addr) (fd:FuncData),XMk K C P f/\XAt K C P "at"/\XAt K C P "side"/\Binds K fd ["self", "at", "side"] []/\Fun K "__init__" qual st f fd
theorem Xz {K:PySem.W.Frag}{C P f:Addr}{qual:Str}{st:Stmt}{od an:Option Addr}{sl:Array (Option Value)}{oc kV dc pm cd ct:Value}(o:XOne K P C)(i:Nb K C f=true)(hf:isFn K (.ref f)=true)(hs:findIn K (.ref C) "__setattr__" = some (some (.builtin "object.__setattr__")))
 (l:K.lookup f=some ⟨oc,od,.func (PySem.W.fnOf "__init__" qual (Ek st) (B5 st) (Ap st) .none kV dc pm an cd ct),sl⟩) (c:codeIn K cd qual=true) (k:keepIn K (.ref f)=true)
 (hb:∀(kV doc pm:Value) (an:Option Addr) (cdv ct:Value) (us:List Value),us.length=3->bindArgs (PySem.W.fnOf "__init__" qual (Ek st) (B5 st) (Ap st) .none kV doc pm an cdv ct) ⟨us,[]⟩=pure ((["self", "at", "side"]:List Str).zip us)):XF2 K C P qual st:=by
 refine ⟨f,_,⟨o.cl,?_,hf,o.kp⟩,⟨o.cl,hs,o.na⟩,⟨o.cl,hs,o.nd⟩,(JW (st:=st) l c k).binds (ps:=["self", "at", "side"]) hb,JW (st:=st) l c k⟩;unfold Nb at i
 split at i
 ·next cd' e=>exact ⟨cd',e,beq_iff_eq.mp i⟩
 ·cases i
theorem GW {prog:Program}{w:World}{K:PySem.W.Frag}{mg:Str->Option Value}{base:Heap}{C P:Addr}{qual:Str}{st:Stmt}{p1 p2 p3 p4 p5 p6 p7 p8:Pos}(hbd:B5 st=[.Assign [.Attribute (.Name "self" p1) "at" p2] (.Name "at" p3) p4,.Assign [.Attribute (.Name "self" p5) "side" p6] (.Name "side" p7) p8])(S:FnScope ["self", "at", "side"] ["self", "at", "side"] (Ap st))
 (s1:(Ap st).names.lookup ("self" : Str)=some NameKind.local) (s2:(Ap st).names.lookup ("at" : Str)=some NameKind.local) (s3:(Ap st).names.lookup ("side" : Str)=some NameKind.local) (x:XF2 K C P qual st):XN2 prog w K mg base C P:=by
 obtain ⟨f,fd,M,A,A2,B,F⟩:=x;refine ⟨f,fd,_,M,A,A2,B,F.ok (k:=0) S (λvs H Q E h=>?_) λcdv A' outer s H vs Q E hr h=>?_⟩
 ·obtain ⟨y,C',tp,v,u,rfl,_⟩:=h;rfl
 ·rw [hbd];refine ⟨_,Jg (Tx (P:=P) (Dz (i:=0) rfl (.inl s1) (by decide) (by decide)) (Dz (i:=1) rfl (.inl s2) (by decide) (by decide)) rfl) (Ij (Q3 (P:=P) (f1:="at") (by decide) (Dz (i:=0) rfl (.inl s1) (by decide) (by decide)) (Dz (i:=2) rfl (.inl s3) (by decide) (by decide)) rfl)),?_⟩;obtain ⟨y,C',tp,v,u,rfl,hy,ha,ha2,k⟩:=h;refine ⟨v,rfl,.ref y,rfl,y,C',tp,rfl,hy,ha,λdx h1 h2=>⟨u,rfl,.ref y,rfl,y,C',tp,dx,v,rfl,Ax,by rw [Ar h2,Ax],h2,ha2,?_⟩⟩;have z:=k dx h1 h2;have e:upd (upd (upd H dx (.xd [("at",v)])) y (Ge y C' tp dx)) dx (.xd [("at",v),("side",u)])=upd (upd H dx (.xd [("at",v),("side",u)])) y (Ge y C' tp dx):=by
   funext b
   by_cases e1:b=dx
   ·subst e1;rw [Ax,Ar h2,Ax]
   ·by_cases e2:b=y
    ·subst e2;rw [Ar e1,Ax,Ax]
    ·rw [Ar e1,Ar e2,Ar e1,Ar e2,Ar e1]
  rw [e];exact z
end F2
namespace L2
open PySem PySem.Spec PyProof.Rows PySem.W
end L2
namespace F2
open PySem L2 PySem.Spec
section
variable {X:Cx}{a b:Expr}{pos:Pos}
end
end F2
namespace L2
open PySem PySem.Spec PyProof.Rows PySem.W
theorem LS:entryFor table "proto.unchain" = some Builtin.«proto.unchain»:=entryFor_of_tree (by kernel_rfl)
section
variable {prog:Program}{w:World}{A:Around}{E:Value->Shared->Prop}{env:Env}{K:PySem.W.Frag}{C:Addr}{bm:List Value}{s:Shared}
theorem PV {x y:Addr}{ox:Obj}{vx:Array Value}{Q:Value->Shared->Prop}(gx:s.heap.get? x=some ox)(dx:ox.data = .fields vx)(x2:vx[2]?=some .none)(h:Q .none s) :
 wpAny (model prog w) A (runValue (.builtin "proto.unchain" ⟨[.ref y,.ref x,.ref x,.bool false],[]⟩)) Q E s:=by
 refine runValue_entry LS ?_;unfold Builtin.«proto.unchain»;refine uo0 (un9 gx dx x2 ?_);rw [if_pos (by decide)];refine uo0 (uo1 (uo1 ⟨_,rfl,h⟩))
theorem SN {t c0:Sem Value}{x:Addr}{Q:Flow->Shared->Prop}(c:XCl K C bm)(hh:A.handled=some (.ref x))
 (hc0:∀(s:Shared) (Q:Value->Shared->Prop) (E:Value->Shared->Prop),Q Value.none s->wpAny (model prog w) A c0 Q E s)
 (h:wpAny (model prog w) A t (λv s1=>∃y dy ox vx,v = .ref y/\y≠x/\K.In s1.heap/\XRec true s1.heap y C dy .none/\s1.heap.get? x=some ox/\ox.data = .fields vx/\vx[2]?=some .none/\
   ∀h',XRec false h' y C dy .none->(∀b,b≠y->h'.get? b=s1.heap.get? b)->E v { s1 with heap:=h' }) E s):wpAny (model prog w) A (raiseStmt env (some t) (some c0)) Q E s:=by
 unfold raiseStmt;refine uo0 (uo2 h (λv s1 q=>?_) λ_ _ z=>z);obtain ⟨y,dy,ox,vx,rfl,ne,X,⟨o,vs,hx,hc,hd,hdt,h1,h2⟩,gx,dx,x2,hE⟩:=q;obtain ⟨h2,h4⟩:=h2 rfl;obtain ⟨nm,q,N,bs,sn,sub,ab,col,dd,k0,k1,k2,k3,k5,hC,_⟩:=c.obj X;have hb:=c.has X;obtain ⟨hp,g,d,tk,os⟩:=s1;refine uo0 (um2 (hc0 _ _ _ (uo0 (uo1 ?_))))
 repeat (first
  | (with_reducible refine wpAny_loadPart_at hx ?_;rw [hc])
  | with_reducible refine wpAny_loadPart_at hC ?_
  | (with_reducible refine wpAny_isSubtype_exc hC ?_;rw [hb])
  | with_reducible refine un9 hx hdt h1 ?_
  | wp_step)
 have nC:C≠y:=by
  rintro rfl;rw [hC] at hx
  cases hx
  cases hdt
 rw [hdt];show wpAny _ _ (if 3 < vs.size then _ else _) _ _ _;rw [if_pos (Nat.lt_of_succ_lt h4)];refine wpAny_update hx ?_;obtain ⟨m1,m2,m3⟩:=FO hdt (·.setIfInBounds 3 Value.none);have hx1:=ud7 (Obj.mapFields (·.setIfInBounds 3 Value.none)) hx (Obj.isFreed_of_fields m1);refine uo0 (wpAny_setField hx1 m1 (by rw [ub8];exact h4) ?_);obtain ⟨n1,n2,n3⟩:=FO m1 (·.setIfInBounds 4 (Value.bool true));have hx2:=ud7 (Obj.mapFields (·.setIfInBounds 4 (Value.bool true))) hx1 (Obj.isFreed_of_fields n1);have oth:∀b,b≠y->((hp.update y (Obj.mapFields (·.setIfInBounds 3 Value.none))).update y (Obj.mapFields (·.setIfInBounds 4 (Value.bool true)))).get? b=hp.get? b:=λb z=>by
  rw [uc8 _ _ (Ne.symm z),uc8 _ _ (Ne.symm z)]
 have hC2:=(oth C nC).trans hC;have gx2:=(oth x (Ne.symm ne)).trans gx;have hc2:=n2.trans (m2.trans hc);have hd2:=n3.trans (m3.trans hd);have t1:((vs.setIfInBounds 3 Value.none).setIfInBounds 4 (Value.bool true))[1]?=some .none:=by
  rw [ua2 (by decide),ua2 (by decide)];exact h1
 have t4:2 < ((vs.setIfInBounds 3 Value.none).setIfInBounds 4 (Value.bool true)).size:=by
  rw [ub8,ub8];lia
 show wpAny (model prog w) A _ Q E ⟨(hp.update y (Obj.mapFields (·.setIfInBounds 3 Value.none))).update y (Obj.mapFields (·.setIfInBounds 4 (Value.bool true))),g,d,tk,os⟩;generalize (hp.update y (Obj.mapFields (·.setIfInBounds 3 Value.none))).update y (Obj.mapFields (·.setIfInBounds 4 (Value.bool true)))=h3 at hx2 oth hC2 gx2;generalize ((o.mapFields (·.setIfInBounds 3 Value.none)).mapFields (·.setIfInBounds 4 (Value.bool true)))=o2 at hx2 hc2 hd2 n1;generalize ((vs.setIfInBounds 3 Value.none).setIfInBounds 4 (Value.bool true))=vs2 at n1 t1 t4;clear hx1 m1 m2 m3 n2 n3
 repeat (first
  | (with_reducible refine wpAny_loadPart_at hx2 ?_;rw [hc2])
  | with_reducible refine wpAny_loadPart_at hC2 ?_
  | (with_reducible refine wpAny_isSubtype_exc hC2 ?_;rw [hb])
  | with_reducible refine un9 hx2 n1 t1 ?_
  | wp_step)
 unfold raiseNew;refine uo0 (wpAny_handled ?_);rw [hh];dsimp only;rw [if_pos (by simpa using Ne.symm ne)];refine uo0 (um2 (PV gx2 dx x2 (uo0 ?_)));obtain ⟨z1,z2,z3⟩:=FO n1 (·.setIfInBounds 2 (Value.ref x));refine wpAny_setField hx2 n1 t4 ?_;have hx3:=ud7 (Obj.mapFields (·.setIfInBounds 2 (Value.ref x))) hx2 (Obj.isFreed_of_fields z1);refine wpAny_throw (hE _ ⟨_,_,hx3,z2.trans hc2,z3.trans hd2,z1,?_,λz=>by cases z⟩ λb hb'=>?_)
 ·rw [ua2 (by decide)];exact t1
 ·rw [uc8 _ _ (Ne.symm hb')];exact oth b hb'
end
section
variable {X:Cx}{pins:List (Addr×Obj)}{σ:St}{H:Hp}{s s':Shared}{qx:Bool}{x C:Addr}{dx T:Option Addr}{fl:Value}
theorem XOn.keep (I:Inv X pins σ H s)(o:XOn qx X pins H s x C dx T fl)(k:∀b,b≠X.env.locals->(∀z c,X.env.cells.lookup z=some c->c≠b)->s'.heap.get? b=s.heap.get? b):XOn qx X pins H s' x C dx T fl:=by
 obtain ⟨ox,vs,gx,cx,dxe,dtx,tbx,xc⟩:=id o.rc;have nl:x≠X.env.locals:=λz=>by have:=o.hx;rw [z,I.free] at this;cases this
 have nc:∀z c,X.env.cells.lookup z=some c->c≠x:=λz c e w=>by
  have:=o.hx;rw [<-w,I.freeC z c e] at this
  cases this
 refine ⟨o.hx,o.nx,⟨ox,vs,(k x nl nc).trans gx,cx,dxe,dtx,tbx,xc⟩,λa e=>?_,o.fo⟩;obtain ⟨z1,z2,z3,⟨y1,y2,y3⟩,ot,ts,gT,dT,t3⟩:=o.tb a e;exact ⟨z1,z2,z3,⟨y1,y2,y3⟩,ot,ts,(k a y1 y2).trans gT,dT,t3⟩
theorem Rt {M:Model}{A:Around}{E:Value->Shared->Prop}{i:Nat}{n:Str}{pos:Pos}{Q:Unit->Shared->Prop}(I:Inv X pins σ H s)(hN:X.N.Nodup)(hi:X.N[i]?=some n)(hk:X.env.scope.names.lookup n=some .local)
 (h:∀s',Inv X pins (σ.set i none) H s'->(∀b,b≠X.env.locals->(∀z c,X.env.cells.lookup z=some c->c≠b)->s'.heap.get? b=s.heap.get? b)->Q () s'):wpAny M A (do bindName X.env n .none;unbindBehindTheSuite X.env n pos) Q E s:=by
 refine uo0 (wpAny_bindName (HI (v:=.non) I hN hi (.inl hk) rfl (λs1 I1 sb1=>?_) (.inr hk)));obtain ⟨a1,sb1,ha1⟩:=sb1;unfold unbindBehindTheSuite;have hiσ:i < σ.length:=by rw [I.len];exact (ub2.mp hi).1
 obtain ⟨m,hn,hl⟩:=id I1.loc;have hcls:(X.env.scope.kind == .class || (X.env.scope.kind == .module && X.env.locals != X.env.globals))=false:=by rw [I.ok.kind];rfl
 obtain ⟨u0,_,lk⟩:=hl i n .non hi (by rw [uc4 hiσ]) (.inl hk);have hv:m n=some u0:=by
  rcases lk with ⟨_,e⟩ | ⟨k,_⟩
  ·exact e
  ·have k:X.env.scope.names.lookup n=some .cell\/X.env.scope.names.lookup n=some .free:=k;rw [hk] at k;rcases k with k | k <;> cases k
 refine wpAny_onRaise (wpAny_unbindName_local hk hn hv hcls λh' u hn' hs=>?_);have cne:=I1.cne;have tracked:HOk X.prog X.w H h':=λb ob e=>by
  refine (I1.hok b ob e).stay (λc w' hc q=>(hs.2 c ?_).trans q) (λ_ q=>q) λ_ _ q=>q;rintro rfl;rcases hc with rfl | hc
  ·rw [I1.free] at e;cases e
  ·rw [I1.free] at hc;cases hc
 have far:∀b o,X.s₀.heap.get? b=some o->b≠X.env.locals:=λb o e=>um4 (uf2 (um3 e) I1.ok.above);refine h _ ⟨I1.ok,I1.os,I1.bare,⟨λb o e n hb hx=>?_,λb o e n hb hx=>?_,I1.base.free,λb o e hx=>?_,I1.base.tups,I1.base.frzs,I1.base.tbls⟩,⟨_,hn',λj y v' e1 e2 e3=>?_⟩,λy c e=>?_,I1.free,I1.freeC,λp hp=>?_,tracked,by simpa using I.len⟩ λb hb hc=>?_
 ·exact (hs.2 b (far b o e)).trans (I1.base.keep b o e n hb hx)
 ·obtain ⟨sl,e1⟩:=I1.base.slot b o e n hb hx;exact ⟨sl,(hs.2 b (far b o e)).trans e1⟩
 ·obtain ⟨o',e1⟩:=I1.base.there b o e hx;exact ⟨o',(hs.2 b (far b o e)).trans e1⟩
 ·by_cases hj:j=i
  ·subst hj;rw [uc4 hiσ] at e2
   cases e2
  ·rw [ue1 (Ne.symm hj)] at e2;obtain ⟨u',r',q⟩:=hl j y v' e1 (by rw [ue1 (Ne.symm hj)];exact e2) e3;refine ⟨u',r',?_⟩;rcases q with ⟨k,e⟩ | ⟨k,c,e,z⟩
   ·refine .inl ⟨k,?_⟩;have:y≠n:=λe=>hj (IZ hN e1 (e ▸ hi));simp [this,e]
   ·exact .inr ⟨k,c,e,z.sameBut hs (cne y c e)⟩
 ·obtain ⟨w',z⟩:=I1.cell y c e;exact ⟨w',z.sameBut hs (cne y c e)⟩
 ·obtain ⟨e,n,ne,nf,d⟩:=I1.pin p hp;exact ⟨(hs.2 p.1 ne).trans e,n,ne,nf,d⟩
 ·rw [hs.2 b hb];refine sb1.2 b ?_;rintro rfl;rcases ha1 with z | z
  ·exact hb z
  ·exact hc _ _ z rfl
end
def HQ (X:Cx)(E:St->XK):Prop:=∀(pins:List (Addr×Obj)) (σ:St) (H:Hp) (s:Shared) (x C:Addr) (dx T:Option Addr) (fl:Value),Inv X pins σ H s->XOn false X pins H s x C dx T fl->E σ (.ref x) dx H->X.xe (.ref x) s
theorem XE.raisesT {X:Cx}{E:St->XK}:HQ (X.wish (XE false X E)) E:=λpins σ H s x C dx T fl I o q=>⟨pins,σ,H,x,C,dx,T,fl,rfl,I.unwish,⟨o.hx,o.nx,o.rc,o.tb,o.fo⟩,q⟩
section
variable {X:Cx}{n v:Str}{C' C2:Addr}{bm' bm2:List Value}{p pos p2:Pos}{e cN:Expr}{rest:List ExceptHandler}{t:St->Hp->(Addr->Option Addr->Hp->Prop)->Prop}{tr:Addr->Addr->Option Addr->TS}{i:Nat}{E:St->XK}
def Zm (K:PySem.W.Frag)(C':Addr)(i:Nat)(t:St->Hp->(Addr->Option Addr->Hp->Prop)->Prop)(E:St->XK)(tr:Addr->Addr->Option Addr->TS):Addr->Addr->Option Addr->TS:=λx C dx D σ H=>∃bm,XCl K C bm/\
 if (Value.ref C :: bm).contains (.ref C')=true then t (σ.set i (some (.ref x))) H (λy dy H1=>y≠x/\H1 x=some (.ext (F2.XIs true x C dx))/\E ((σ.set i (some (.ref x))).set i none) (.ref y) dy H1) else tr x C dx D σ H
theorem XV (h1:X.stack=X.env :: X.outer)(h2:X.env.frame=some X.env.locals)(hg:Gl X n)(hm:X.mg n=some (.ref C'))(c':XCl X.K C' bm')(hN:X.N.Nodup)(hi:X.N[i]?=some v)(hl:X.env.scope.names.lookup v=some .local)
 (c2:XCl X.K C2 bm2) (hp:∀x,PM false (X.mark x) e C2 t) (hx:HQ X E)
 (hz:∀(A:Around) (s:Shared) (Q:Value->Shared->Prop) (E:Value->Shared->Prop),Q Value.none s->wpAny (model X.prog X.w) A (eval cN X.env) Q E s)
 (hr:PH true X rest tr) (hdb:(n == ("__debug__" : Str))=false:=by decide):PH true X (.ExceptHandler (some (.Name n p)) (some v) [.Raise (some e) (some cN) p2] pos :: rest) (Zm X.K C' i t E tr):=by
 intro pins s σ H x C dx T D I o ⟨bm,c,q⟩;have Im:=I.mark x;refine wpAny_handleBy_cons (codeAny_handlers_test (El Im hg hm ?_ hdb)) (by intro z;cases z)
 refine Nm c c' I.kIn o.rc ?_
 cases hc:(Value.ref C :: bm).contains (.ref C') with
 | false=>
   rw [hc,if_neg (by decide)] at q;exact hr pins s σ H x C dx T D I o q
 | true=>
   rw [hc,if_pos rfl] at q;refine codeAny_handlers_suite_as ?_;refine EQ none I o (.inl rfl) λh1' I1 o1=>?_;refine Jq (v:=.ref x) I1 hN hi (.inl hl) rfl (λs2 I2=>?_) (.inr hl);refine wpAny_execs_cons ?_;rw [arm_exec_Raise];refine uo0 (wpAny_standAt ?_);refine SN (x:=x) c2 rfl (λs Q E h=>uo0 (hz _ _ _ _ (uo0 (wpAny_standAt (uo1 h))))) ?_;refine uo0 (uo2 (hp x pins s2 _ H _ (I2.mark x) q) (λw' s3 z9=>?_) λ_ _ z=>z.elim);obtain ⟨y,dy,H1,e1,I3,hy,ny,r,ne,hxx,q1⟩:=z9;subst e1;have J3:=I3.unmark I.ok;obtain ⟨ox,vx,gx,_,_,dtx,xc⟩:=(I3.hok x _ hxx).1;refine uo0 (wpAny_standAt (uo1 ⟨y,dy,ox,vx,rfl,ne,I3.kIn,r,gx,dtx,(xc rfl).1,λh' r' kp=>?_⟩));obtain ⟨o1',o2',o3'⟩:=J3.newT (un6 _);have J4:=J3.left hy (J3.hok.fresh (un6 _)) ny (um5 J3.sz (un6 _)) (ch:=[y]) (h':=h') ⟨λb u hb _ e=>(kp b (by simpa using hb)).trans e,λb u hb e=>⟨u.slots,(kp b (by simpa using hb)).trans e⟩⟩ (λb hb=>.inl (by simpa using hb)) r'.is o2' o1' o3';have o4:XOn false X pins H1 { s3 with heap:=h' } y C2 dy none .none:=⟨hy,ny,r',(λa e=>by cases e),.inl rfl⟩;refine FR I3.ok.frames J4 h1 h2 o4 λh5 a J5 o5=>?_;refine Rt J5 hN hi hl λs6 J6 k6=>?_;have o6:=o5.keep J5 k6;obtain ⟨oy,vy,gy,_,_,dty,tby,_⟩:=id o6.rc;unfold PySem.passOn;refine uo0 (un9 gy dty tby ?_);rw [if_neg (show ¬((Value.ref a == Value.none)=true) from by intro z;cases z)]
   rw [h2];refine uo0 (EQ (some X.env.locals) J6 o6 (.inr rfl) λh7 J7 o7=>wpAny_throw ?_);refine FR I3.ok.frames J7 h1 h2 o7 λh8 a8 J8 o8=>?_;obtain ⟨oz,vz,gz,_,_,dtz,tbz,_⟩:=id o8.rc;show cameBackBy _ _ _ _ _ _;unfold cameBackBy;refine uo0 (un9 gz dtz tbz ?_);rw [if_neg (show ¬((Value.ref a8 == Value.none)=true) from by intro z;cases z)]
   rw [h2];exact EQ (some X.env.locals) J8 o8 (.inr rfl) λh9 J9 o9=>hx pins _ H1 _ y C2 dy _ _ J9 o9 q1
end
structure FnOkH (P:Program)(w:World)(K:PySem.W.Frag)(mg:Str->Option Value)(base:Heap)(CX:CXT)(k:Nat)(f:Addr)(fd:FuncData)(ps:List Str)(sp:Sp):Prop where
 len:∀vs H Q E,sp vs H Q E->vs.length=ps.length
 run:∀(z:Addr) (A:Around) (outer:List Env) (s:Shared) (H:Hp) (args:Args) (us:List Value) (vs:List V) (Q:VK) (E:XK),Room k A->Env0 P w K mg base A outer s H->BindsTo s fd args (ps.zip us)->Vals vs us->sp vs H Q E->
  codeAny (model P w) (A.mark (some (.ref z))) (.call (.ref f) args) (CR CX outer P w H s Q E) s
theorem V6 {CX:CXT}{P:Program}{w:World}{K:PySem.W.Frag}{mg:Str->Option Value}{base:Heap}{k:Nat}{f:Addr}{name qual:Str}{params:Arguments}{body:List Stmt}{scope:Scope}{dV kV doc pm cdv ct oc:Value}{an od:Option Addr}
 {osl:Array (Option Value)} {N ps:List Str} {sp:Sp} (lk:K.lookup f=some ⟨oc,od,.func (PySem.W.fnOf name qual params body scope dV kV doc pm an cdv ct),osl⟩) (hcd:PySem.W.codeIn K cdv qual=true) (S:FnScope N ps scope)
 (len:∀vs H Q E,sp vs H Q E->vs.length=ps.length)
 (hbody:∀(z:Addr) (A:Around) (outer:List Env) (s:Shared) (H:Hp) (vs:List V) (Q:VK) (E:XK),Room k (A.deeper (envOfC qual scope s.heap.objs.size f cdv))->sp vs H Q E->
   ∃t,PSs ((DM CX P w K mg base N qual scope f cdv A outer s H E).mark z) body t/\t { nx:=λ_ H'=>Q .non H',rt:=Q } (Da N vs) H) :
 FnOkH P w K mg base CX (k + 1) f (PySem.W.fnOf name qual params body scope dV kV doc pm an cdv ct) ps sp:=by
 refine ⟨len,λz A outer s H args us vs Q E hr e0 hb r hsp=>?_⟩;have hl:=len _ _ _ _ hsp;have KX:K.In s.heap:=e0.mod.kin.keeps λb o e=>(e0.bs b o e).1;have lim:s.heap.NoLimit:=e0.mod.nolimit.keeps λb o e=>(e0.bs b o e).1;have hkind:∀y∈ps.zip us,scope.names.lookup y.1=some .local\/(scope.names.lookup y.1=some .cell/\((cellsFrom (s.heap.objs.size + 1) scope.names []).lookup y.1).isSome=true):=λz9 hy=>by
  obtain ⟨n,v⟩:=z9;rcases S.par n (uj4 hy).1 with q | q
  ·exact .inl q
  ·exact .inr ⟨q,uc6 _ _ _ (.inl q)⟩
 refine codeAny_call_function (A:=A.mark (some (.ref z))) hr.depth (KX _ _ lk) rfl S.co S.gen rfl (PySem.W.codeRec_of KX hcd) (hb _ _ _ _ ?_);refine wpAny_newFunctionEnv_cells S.kind hkind λenv he s1 x=>?_;subst he;refine ⟨lim.keeps x.toInCall.keep,codeAny_func ?_⟩;obtain ⟨t,ht,hq⟩:=hbody z A outer s H vs Q E (hr.deeper _) hsp;have I:Inv (DM CX P w K mg base N qual scope f cdv A outer s H E) [] (Da N vs) H s1:=LC S hr.hd e0 hl r x;refine uo2 (ht [] s1 (Da N vs) H _ (I.mark z) hq) (λfl s' hs=>?_) λe s' hs=>hs.elim;have fin:∀{σ':St} {H':Hp} {v:V} {u:Value},Inv ((DM CX P w K mg base N qual scope f cdv A outer s H E).mark z) [] σ' H' s'->RelV v u->Q v H'->CE outer P w H s Q u s':=
  λ{σ' H' v u} J rv q=>⟨v,H',J.os,J.bare,J.base,J.hok,rv,q⟩
 cases fl with
 | ret u=>
   obtain ⟨v,σ',H',J,rv,q⟩:=hs;exact fin J rv q
 | next=>
   obtain ⟨σ',H',J,q⟩:=hs;exact fin (v:=V.non) (u:=Value.none) J rfl q
 | brk=>
   obtain ⟨_,_,_,q⟩:=hs;exact False.elim q
 | cont=>
   obtain ⟨_,_,_,q⟩:=hs;exact False.elim q
theorem Fun.okH {P:Program}{w:World}{K:PySem.W.Frag}{mg:Str->Option Value}{base:Heap}{x qual:Str}{st:Stmt}{f:Addr}{fd:FuncData}{N ps:List Str}{k:Nat}{sp:Sp}(F:Fun K x qual st f fd)(S:FnScope N ps (Ap st))(len:∀vs H Q E,sp vs H Q E->vs.length=ps.length)
 (hbody:∀(cdv:Value) (z:Addr) (A:Around) (outer:List Env) (s:Shared) (H:Hp) (vs:List V) (Q:VK) (E:XK),Room k (A.deeper (envOfC qual (Ap st) s.heap.objs.size f cdv))->sp vs H Q E->
   ∃t,PSs ((DM CX0 P w K mg base N qual (Ap st) f cdv A outer s H E).mark z) (B5 st) t/\t { nx:=λ_ H'=>Q .non H',rt:=Q } (Da N vs) H):FnOkH P w K mg base CX0 (k + 1) f fd ps sp:=by
 obtain ⟨oc,od,kV,doc,pm,an,cdv,ct,osl,rfl,lk,hcd⟩:=F.ex;exact V6 lk hcd S len λz A outer s H vs Q E hr hsp=>hbody cdv z A outer s H vs Q E hr hsp
section
variable {qx:Bool}{X:Cx}{k:Nat}{f C P:Addr}{fd:FuncData}{pins:List (Addr×Obj)}{σ:St}{H:Hp}{s:Shared}{Q:Value->Shared->Prop}{us:List Value}{vs:List V}{a b:Str}{ps:List Str}{v v2:V}{u u2:Value}{n:Str}{p pos:Pos}{e e':Expr}
theorem Oi {z:Addr}(M:XMk X.K C P f)(ha:XAt X.K C P a)(hab:XAt X.K C P b)(F:FnOkH X.prog X.w X.K X.mg X.base CX0 k f fd ps (HG X.K P a b))(hr:Room (k + 1) X.A)(hb:Binds X.K fd ps [])(I:Inv (X.mark z) pins σ H s)(r:RelV v u)(rr:RelV v2 u2)
 (h:∀s' x dx,Inv (X.mark z) pins σ (upd (upd H dx (.xd [(a,v),(b,v2)])) x (.ext (F2.XIs qx x C (some dx)))) s'->H x=none->H dx=none->dx≠x->s.heap.objs.size<=x->XRec true s'.heap x C (some dx) .none->Q (.ref x) s'):wpAny (model X.prog X.w) (X.mark z).A (call (.ref C) [u,u2]) Q (X.mark z).xe s:=by
 obtain ⟨nm,q,N,bs,sn,sub,ab,col,dd,k0,k1,k2,k3,k5,hC,hN⟩:=M.cl.obj I.kIn;have hni:s.heap.nsMap N "__init__" = some (.ref f):=by
  obtain ⟨cd,c1,c2⟩:=M.init;refine Kg I.kIn hN ?_;unfold clsIn at c1
  split at c1
  ·next l=>
   cases c1
   have z:=I.kIn _ _ l;rw [hC] at z
   cases z
   exact c2
  ·cases c1
 have I1:Inv (X.mark z) pins σ (upd H (s.heap.objs.size + 1) (exO (s.heap.objs.size + 1) C s.heap.objs.size)) { s with heap:=Ec s.heap C [u,u2] }:=by
  refine I.laid (t':=s.toks) (λb o e=>uc5 _ (uc5 _ e)) (un8 _) (Qk ?_);show ((s.heap.push _).push _).get? _=_
  heap_get
 have hx0:=I.hok.fresh (un8 s.heap.objs.size);have r2:Vals [V.ref (s.heap.objs.size + 1),v,v2] [Value.ref (s.heap.objs.size + 1),u,u2]:=.cons rfl (.cons r (.cons rr .nil));have hsp:HG X.K P a b [V.ref (s.heap.objs.size + 1),v,v2] (upd H (s.heap.objs.size + 1) (exO (s.heap.objs.size + 1) C s.heap.objs.size))
  (λw' H'=>w' = .non/\∃dx,H dx=none/\dx≠s.heap.objs.size + 1/\H'=upd (upd H dx (.xd [(a,v),(b,v2)])) (s.heap.objs.size + 1) (Ge (s.heap.objs.size + 1) C s.heap.objs.size dx)) E0:=by
  refine ⟨_,C,s.heap.objs.size,v,v2,rfl,Ax,ha,hab,λdx h1 h2=>⟨rfl,dx,by rw [Ar h2] at h1;exact h1,h2,?_⟩⟩
  funext b
  by_cases e1:b=s.heap.objs.size + 1
  ·subst e1;rw [Ax,Ax]
  ·by_cases e2:b=dx
   ·subst e2;rw [Ar e1,Ar e1,Ax,Ax]
   ·rw [Ar e1,Ar e1,Ar e2,Ar e2,Ar e1]
 have hl:([Value.ref (s.heap.objs.size + 1),u,u2]++[]).length=ps.length:=by
  have e:=F.len _ _ _ _ hsp;simpa using e
 obtain ⟨hh,g,d,t,os⟩:=s;refine wpAny_call (Nl ub0 (M.cl.tail I.kIn) hC hN hni ((bind_fn I.kIn _ (beq_iff_eq.mp M.fn))) (by show 2<=sizeLine;decide) ?_);refine codeAny_mono (F.run z _ X.stack _ _ ⟨[Value.ref (hh.objs.size + 1),u,u2],[]⟩ [Value.ref (hh.objs.size + 1),u,u2] _ _ E0 (hr.make C [u,u2] []) (Env0.make (A:=X.A) ⟨I1.env0.frames,I1.env0.mod,I1.env0.bs,I1.env0.bsz,I1.env0.funs,I1.env0.frf,I1.env0.hok,I1.env0.bare⟩ C [u,u2] []) (by have:=hb _ [Value.ref (hh.objs.size + 1),u,u2] I1.kIn hl;simpa using this) r2 hsp) λr s' hq'=>?_
 cases r with
 | error e=>exact hq'.elim
 | ok fl=>
   cases fl with
   | ret w'=>
     obtain ⟨v',H',I3,rv,rfl,dx,d1,d2,rfl⟩:=I1.after hq';refine ⟨rv,?_⟩;have hx:=(I3.hok (hh.objs.size + 1) _ Ax).1;have hx:s'.heap.get? (hh.objs.size + 1)=some { excObj C hh.objs.size with dict:=some dx }:=hx;have xr:XRec true s'.heap (hh.objs.size + 1) C (some dx) .none:=⟨_,_,hx,rfl,rfl,rfl,rfl,λ_=>⟨rfl,by show 4 < 6;decide⟩⟩;have I4:=I3.write (x:=hh.objs.size + 1) (e:=hh.objs.size + 1) (o:=.ext (F2.XIs qx (hh.objs.size + 1) C (some dx))) (h':=s'.heap) (t':=s'.toks) (by rw [Ax];trivial) (.inl rfl) (λ_ _ _ z=>z) ⟨_,hx⟩ (JN xr.to.is);rw [OZ] at I4;exact h s' (hh.objs.size + 1) dx I4 hx0 d1 d2 (un8 _) xr
   | next=>exact False.elim hq'
   | brk=>exact False.elim hq'
   | cont=>exact False.elim hq'
theorem U0 {z:Addr}{t:TA}(M:XMk X.K C P f)(ha:XAt X.K C P a)(hab:XAt X.K C P b)(F:FnOkH X.prog X.w X.K X.mg X.base CX0 k f fd ps (HG X.K P a b))(hr:Room (k + 1) X.A)(hb:Binds X.K fd ps [])(hg:Gl (X.mark z) n)(hm:X.mg n=some (.ref C))(hA:PA (X.mark z) [e,e'] t)
 (hdb:(n == ("__debug__" : Str))=false:=by decide) (h1:starEach [e,e'] X.env=(false,eval e X.env) :: starEach [e'] X.env:=by rfl) (hpl:(backTo pos (starEach [e'] X.env)).any (·.1)=false:=by rfl) :
 PM qx (X.mark z) (.Call (.Name n p) [e,e'] [] pos) C (λσ H Q=>t σ H λvs H1=>∃v u,vs=[v,u]/\∀x dx,H1 x=none->H1 dx=none->dx≠x->Q x (some dx) (upd (upd H1 dx (.xd [(a,v),(b,u)])) x (.ext (F2.XIs qx x C (some dx))))):=by
 intro pins s σ H Q I h;refine wpAny_Call_Name_kw (El I hg hm ?_ hdb);refine uf6 (h₀:=X.base) I.ok.mod.kin M.kp (thn (hA pos pins s σ H _ I h) λus s1 z9=>?_) h1 hpl;obtain ⟨vs,H1,I1,r,v,u,ev,q⟩:=z9;refine ⟨I1.kIn,?_⟩;subst ev
 cases r with
 | cons r0 rs=>
   cases rs with
   | cons r1 rs=>
     cases rs
     exact Oi (X:=X) (z:=z) M ha hab F hr hb I1 r0 r1 λs' x dx I' hx hdx ne nx rc=>⟨x,some dx,_,rfl,I',Ax,um5 I1.sz nx,rc,q x dx hx hdx ne⟩
end
end L2
namespace F2
open PySem L2 PySem.Spec PySem.W
section
variable {X:Cx}{pos p p2 p3 p4:Pos}{P:Addr}{ca:Str->Addr}{E:XK}{e e' cN:Expr}
def RM (prog:Program)(w:World)(K:PySem.W.Frag)(mg:Str->Option Value)(base:Heap)(C P:Addr):Prop:=
 ∃(f:Addr) (fd:FuncData) (ps:List Str),XMk K C P f/\XAt K C P "at"/\XAt K C P "side"/\Binds K fd ps []/\FnOkH prog w K mg base CX0 1 f fd ps (HG K P "at" "side")
theorem XH {n' v:Str}{C':Addr}{bm':List Value}{i:Nat}{rest:List ExceptHandler}{f:M (List D)}{r:D->M Out}(x:XM X.K X.mg P ca)(xn:RM X.prog X.w X.K X.mg X.base (ca "Broken") P)(h1:X.stack=X.env :: X.outer)(h2:X.env.frame=some X.env.locals)(hr:L2.Room 2 X.A)
 (hg:Gl X n') (hm:X.mg n'=some (.ref C')) (c':XCl X.K C' bm') (hs:∀n∈Ca,(Value.ref (ca n) :: .ref P :: VE).contains (.ref C')=Fe n n')
 (hN:X.N.Nodup) (hi:X.N[i]?=some v) (hl:X.env.scope.names.lookup v=some .local) (hx:HQ X (λ_=>E)) (hgB:Gl X "Broken") (ha:∀x,PA (X.mark x) [e,e'] (RA X.K f))
 (hz:∀(A:Around) (s:Shared) (Q:Value->Shared->Prop) (E:Value->Shared->Prop),Q Value.none s->wpAny (model X.prog X.w) A (eval cN X.env) Q E s)
 (hrest:PH true X rest (RH X.K ca (μX X.K E) r)) (hdb:(n' == ("__debug__" : Str))=false:=by decide) (hs1:Cb e=false:=by rfl) (hs2:Cd [e']=true:=by rfl) :
 PH true X (.ExceptHandler (some (.Name n' p)) (some v) [.Raise (some (.Call (.Name "Broken" p3) [e,e'] [] p4)) (some cN) p2] pos :: rest) (RH X.K ca (μX X.K E) (hAs n' i (EB "Broken" f) r)):=by
 obtain ⟨fa,fd,ps,M,A,A2,B,F⟩:=xn;have hnB:("Broken" : Str)∈Ca:=by decide
 intro pins s0 σ H y C dx T D I o q;refine XV h1 h2 hg hm c' hN hi hl M.cl (λz=>U0 M A A2 F hr B hgB (x.ms _ hnB) (ha z) (by decide) (B7 hs1) (BU hs2).1) hx hz hrest hdb pins s0 σ H y C dx T D I o ?_;obtain ⟨Oo,c,t,n,ds,fi,hn,rfl,rv,o1,t',eq,k⟩:=q;refine ⟨_,x.cl n hn,?_⟩;rw [hs n hn];unfold hAs at eq;dsimp only at eq
 by_cases hb':Fe n n'=true
 ·rw [if_pos hb'] at eq ⊢
  cases e1:EB "Broken" f { t with env:=t.env.set i (some (.val (.exc n ds))) } with
  | none=>rw [e1] at eq;cases eq
  | some z=>
    obtain ⟨o2,t2⟩:=z;rw [e1] at eq
    cases eq
    obtain ⟨es,t1,e2,e1⟩:=Ao e1;have hny:¬c.A y:=by cases rv with | exc _ _ hA _ _=>exact hA
    refine ⟨Oo,c,_,fi.set rv,es,t1,e2,λvs H1 c1 f1 s1 rvs=>?_⟩;rcases es with _ | ⟨d,_ | ⟨d',_ | ⟨_,_⟩⟩⟩
    ·cases e1
    ·cases e1
    ·cases rvs with
     | @cons v0 _ _ _ r0 rs=>
     cases rs with
     | @cons v1 _ _ _ r1 rs=>
     cases rs
     cases e1
     refine ⟨_,_,rfl,λu du hu hdu ne=>?_⟩;have hy1:H1 y=some (.ext (XIs true y (ca n) dx)):=s1.ext.keep _ _ o.hx hny;have nyu:y≠u:=λz=>by rw [z,hu] at hy1;cases hy1
     have nyd:y≠du:=λz=>by rw [z,hdu] at hy1;cases hy1
     have f2:=f1.laid (o:=.xd [("at",v0),("side",v1)]) hdu;have hu2:upd H1 du (.xd [("at",v0),("side",v1)]) u=none:=by rw [Ar (Ne.symm ne)];exact hu
     have f3:=f2.laid (o:=.ext (XIs false u (ca "Broken") (some du))) hu2;have ex:=(f1.stp_laid (o:=.xd [("at",v0),("side",v1)]) hdu).ext.trans (f2.stp_laid (o:=.ext (XIs false u (ca "Broken") (some du))) hu2).ext;have s3:=s1.trans ((f1.stp_laid (o:=.xd [("at",v0),("side",v1)]) hdu).trans (f2.stp_laid (o:=.ext (XIs false u (ca "Broken") (some du))) hu2));refine ⟨Ne.symm nyu,by rw [Ar nyu,Ar nyd];exact hy1,?_⟩;refine k _ _ c1 (f3.unset i) s3 (.ref u) (.exc (x.ns _ hnB) Ax (f2.s.free hu2) ?_ (.cons (r0.mono ex) (.cons (r1.mono ex) .nil))) u (some du) rfl;exact ⟨by rw [Ar ne,Ax];rfl,f1.s.free hdu⟩
    ·cases e1
 ·rw [if_neg hb'] at eq ⊢;exact ⟨Oo,c,t,n,ds,fi,hn,rfl,rv,o1,t',eq,k⟩
end
theorem QC {prog:Program}{w:World}{K:PySem.W.Frag}{mg:Str->Option Value}{base:Heap}{C P:Addr}{qual:Str}{st:Stmt}{p1 p2 p3 p4 p5 p6 p7 p8:Pos}(hbd:B5 st=[.Assign [.Attribute (.Name "self" p1) "at" p2] (.Name "at" p3) p4,.Assign [.Attribute (.Name "self" p5) "side" p6] (.Name "side" p7) p8])(S:FnScope ["self", "at", "side"] ["self", "at", "side"] (Ap st))
 (s1:(Ap st).names.lookup ("self" : Str)=some NameKind.local) (s2:(Ap st).names.lookup ("at" : Str)=some NameKind.local) (s3:(Ap st).names.lookup ("side" : Str)=some NameKind.local) (x:XF2 K C P qual st):RM prog w K mg base C P:=by
 obtain ⟨f,fd,M,A,A2,B,F⟩:=x;refine ⟨f,fd,_,M,A,A2,B,F.okH (k:=0) S (λvs H Q E h=>?_) λcdv z A' outer s H vs Q E hr h=>?_⟩
 ·obtain ⟨y,C',tp,v,u,rfl,_⟩:=h;rfl
 ·rw [hbd];refine ⟨_,Jg (Tx (P:=P) (Dz (i:=0) rfl (.inl s1) (by decide) (by decide)) (Dz (i:=1) rfl (.inl s2) (by decide) (by decide)) rfl) (Ij (Q3 (P:=P) (f1:="at") (by decide) (Dz (i:=0) rfl (.inl s1) (by decide) (by decide)) (Dz (i:=2) rfl (.inl s3) (by decide) (by decide)) rfl)),?_⟩;obtain ⟨y,C',tp,v,u,rfl,hy,ha,ha2,k⟩:=h;refine ⟨v,rfl,.ref y,rfl,y,C',tp,rfl,hy,ha,λdx h1 h2=>⟨u,rfl,.ref y,rfl,y,C',tp,dx,v,rfl,Ax,by rw [Ar h2,Ax],h2,ha2,?_⟩⟩;have z:=k dx h1 h2;have e:upd (upd (upd H dx (.xd [("at",v)])) y (Ge y C' tp dx)) dx (.xd [("at",v),("side",u)])=upd (upd H dx (.xd [("at",v),("side",u)])) y (Ge y C' tp dx):=by
   funext b
   by_cases e1:b=dx
   ·subst e1;rw [Ax,Ar h2,Ax]
   ·by_cases e2:b=y
    ·subst e2;rw [Ar e1,Ax,Ax]
    ·rw [Ar e1,Ar e2,Ar e1,Ar e2,Ar e1]
  rw [e];exact z
end F2
namespace L2
open PySem PySem.Spec PyProof.Rows
section
variable {prog:Program}{w:World}{A:Around}{E:Value->Shared->Prop}{s:Shared}
variable {I:Addr}{fp wr:List Addr}{G:Array GenState->Array GenState->Prop}{n:Nat}{P:Nat->Value->Prop}{St:Nat->Shared->Prop}
def Z9 (prog:Program)(w:World)(h:Heap)(no:List Addr)(k:Key)(x v:Value):Prop:=∃(p:Addr) (o:Obj) (kv:Value) (q:Nat),v = .ref p/\p∉no/\h.get? p=some o/\o.cls = .type "tuple"/\o.data = .seq #[kv,x] q/\(Co prog w).is k kv=true
end
section
variable {X:Cx}
end
end L2
namespace F2
open PySem L2 PySem.Spec PyProof.Rows
section
variable {X:Cx}{pos:Pos}{e:Expr}
end
end F2
namespace L2
open PySem PySem.Spec PyProof.Rows
def WS (neg:Bool):R2:=λx y H Q=>∃a kvs k,x = .str k/\y = .ref a/\H a=some (.dK kvs)/\Q (.bl (if neg then !(DY kvs (Sum.inr k:Key)).isSome else (DY kvs (Sum.inr k:Key)).isSome)) H
section
variable {X:Cx}
theorem Wu (hu:X.A.units + 64 < cLine):OpR X (compareOp .In) (WS false):=by
 intro pins s σ H x y v u Q I rx ry h;obtain ⟨a,kvs,k,rfl,rfl,e,q⟩:=h
 cases ry
 exact Y1 (by lia) I (DGet.k (k:=(Sum.inr k:Key)) e) rx λs' I'=>⟨.bl _,H,I',rfl,q⟩
theorem Pe:CW X (.type "dict") (λxs H Q=>∃(p:Addr) (kvs:List (Key×V)),xs=[.ref p]/\H p=some (.dK kvs)/\∀l,H l=none->Q (.ref l) (upd H l (.dK kvs))):=by
 intro pins s σ H xs us0 Q I r h;obtain ⟨p,kvs,rfl,e,q⟩:=h;obtain ⟨u,rfl,rx⟩:=Fl r
 cases rx
 obtain ⟨hz,hp,vs,rel,dd⟩:=Mm I.hok e;refine kt_call_dict hp dd (by rw [<-rel.length];exact hz) λh' hD sb=>?_;have nm:(s.heap.objs.size == sysModules)=false:=by
  have:=I.big;rw [beq_eq_false_iff_ne];exact um7 this
 have hk:∀b o,s.heap.get? b=some o->h'.get? b=some o:=λb o eb=>by
  rw [sb.2 b (um4 (um3 eb))];exact uc5 _ eb
 exact ⟨.ref s.heap.objs.size,_,I.laid (t':=s.toks) hk (un6 _) (MY hz nm rel hD),rfl,q _ (I.hok.fresh (un6 _))⟩
end
end L2
namespace F2
open PySem L2 PySem.Spec PyProof.Rows
def inS (neg:Bool):D->D->M D
 | .str k,.obj n=>λt=>match t.S[n]? with
   | some (.dct kvs)=>some (.bl (if neg then !(BM kvs (.inr k)).isSome else (BM kvs (.inr k)).isSome),t)
   | _=>none
 | _,_=>fail
def JK:List D->M D
 | [.obj n]=>λt=>match t.S[n]? with
   | some (.dct kvs)=>some (.obj t.S.length,{ t with S:=t.S++[.dct kvs] })
   | _=>none
 | _=>fail
section
variable {K:PySem.W.Frag}
theorem Ve {neg:Bool}:BY K (WS neg) (inS neg):=λ{Oo c t σ H x y dx dy r t' Q} f rx ry eq k=>by
 unfold inS at eq
 split at eq
 ·next z n=>
  cases rx
  cases ry with
  | @obj a kk hk=>
    split at eq
    ·next kvs es=>
     cases eq
     obtain ⟨us,g1,g2⟩:=f.s.obs _ a _ hk es;refine ⟨a,us,z,rfl,rfl,g1,?_⟩;rw [g2.has];exact k _ H c f .refl (.bl _)
    ·cases eq
 ·cases eq
end
section
variable {X:Cx}{pos:Pos}{e:Expr}
theorem R1 {f:M (List D)}{p:Pos}(hg:Gl X "dict")(hm:X.mg "dict" = none)(ha:PA X [e] (RA X.K f))(h1:Cb e=false:=by rfl) :
 PE X (.Call (.Name "dict" p) [e] [] pos) (RE X.K (fB f JK)):=
 BC (Hz Pe hg hm (by decide +kernel) ha (by decide) (by decide) (B7 h1) rfl) λσ H Q z9=>by
  obtain ⟨Oo,c,t,fi,r,t',eq,k⟩:=z9;obtain ⟨as,t1,e1,eq⟩:=Ao eq;unfold JK at eq
  split at eq
  ·next n=>
   split at eq
   ·next kvs es=>
    cases eq
    refine ⟨Oo,c,t,fi,_,_,e1,λvs H1 c1 f1 s1 rv=>?_⟩;obtain ⟨v,rfl,rw1⟩:=Ed rv
    cases rw1 with
    | @obj a kk hk=>
    obtain ⟨us,g1,g2⟩:=f1.s.obs _ a _ hk es;refine ⟨a,us,rfl,g1,λl hnl=>?_⟩;obtain ⟨c2,f2,s2,eo⟩:=f1.newObj (o:=.dct kvs) (u:=.dK us) hnl λc' H' ex hu=>⟨_,hu,g2.mono ex⟩;exact k _ _ c2 f2 (s1.trans s2) (.obj eo)
   ·cases eq
  ·cases eq
end
end F2
namespace F2
open PySem L2 PySem.Spec PySem.W
theorem KU {P:Program}{w:World}{K:PySem.W.Frag}{mg:Str->Option Value}{base:Heap}{x qual:Str}{st:Stmt}{fa:Addr}{fd:FuncData}{N ps:List Str}{k n m:Nat}{g:M Out}(e1:ps.length=n)(e2:N.length=m)(F:Fun K x qual st fa fd)(S:FnScope N ps (Ap st))
 (hb:∀(cdv:Value) (A:Around) (outer:List Env) (s:Shared) (H:Hp) (E:XK),L2.Room k (A.deeper (PyProof.Rows.envOfC qual (Ap st) s.heap.objs.size fa cdv))->
   Fm (CX1 false P w) (cxX false P w K mg base N qual (Ap st) fa cdv A outer s H E) (λ_=>E)->Gp false (cxX false P w K mg base N qual (Ap st) fa cdv A outer s H E) (λ_=>E)->
   PassesOwn (model P w) (cxX false P w K mg base N qual (Ap st) fa cdv A outer s H E).A (cxX false P w K mg base N qual (Ap st) fa cdv A outer s H E).env (cxX false P w K mg base N qual (Ap st) fa cdv A outer s H E).xe->
   HQ (cxX false P w K mg base N qual (Ap st) fa cdv A outer s H E) (λ_=>E)->
   PSs (cxX false P w K mg base N qual (Ap st) fa cdv A outer s H E) (B5 st) (RSg K (μX K E) g)):FnOk P w K mg base (CX1 false P w) (k + 1) fa fd ps (spX K (fnOf n m g)):=
 Df e1 e2 F S λcdv A outer s H E hr h1 h2 h3=>hb cdv A outer s H E hr h1 h2 h3 XE.raisesT
theorem Ul {M:Model}{env:Env}{j:Nat}{pos:Pos}:∀(A:Around) (s:Shared) (Q:Value->Shared->Prop) (E:Value->Shared->Prop),Q Value.none s->wpAny M A (eval (.Constant .none j pos) env) Q E s:=λA s Q E h=>uo1 h
section
variable {X:Cx}
end
end F2
namespace F2
open PySem L2 PySem.Spec PyProof.Rows
section
variable {K:PySem.W.Frag}
def Lm:D->Option Int->Option Int->M D
 | .obj k,lo,hi=>λt=>match t.S[k]? with
   | some (.lst ds)=>some (.lst (Cu ds lo hi),t)
   | _=>none
 | x,lo,hi=>Eh x lo hi
theorem NQ:O5 K (SL K) Lm:=λ{Oo c t σ H x dx r lo hi t' Q} f rx eq k=>by
 unfold Lm at eq
 split at eq
 ·next kk=>
  cases rx with
  | @obj a kk h1=>
    split at eq
    ·next ds es=>
     cases eq
     obtain ⟨vs,g1,g2⟩:=f.s.obs kk a _ h1 es;exact .inl (.inl ⟨a,vs,rfl,SqL.of g1,λq hq=>k _ _ c (f.laid hq) (f.stp_laid hq) (.lst Ax (f.s.free hq) ((G9 g2 lo hi).mono (Ext.laid f.s hq)))⟩)
    ·cases eq
 ·exact Fz f rx eq k
end
abbrev Gd:=Option (Nat×List D)
def Gon (g:Gd)(S:List Ob):Prop:=∀k xs,g=some (k,xs)->S[k]?=some (.lst xs)
def chk (g:Gd):M Unit:=λt=>@ite _ (Gon g t.S) (Classical.propDecidable _) (some ((),t)) none
variable {g:Gd}
theorem GM {t t':T}{u:Unit}(h:chk g t=some (u,t')):Gon g t.S/\t'=t:=by
 unfold chk at h
 split at h
 ·next q=>cases h;exact ⟨q,rfl⟩
 ·cases h
theorem JI {t:T}(h:Gon g t.S):chk g t=some ((),t):=by unfold chk;rw [if_pos h]
def compG (g:Gd)(st:D->M Unit)(tst:M Bool)(elt:M D):List D->M (List D)
 | []=>bnd (chk g) λ_=>ret []
 | d :: r=>bnd (chk g) λ_=>bnd (st d) λ_=>bnd tst λk=>if k=true then bnd elt λx=>bnd (compG g st tst elt r) λxs=>ret (x :: xs) else compG g st tst elt r
def JP (n:Nat)(fr:List Nat)(f:M (Gd×List D))(st:D->M Unit)(tst:M Bool)(elt:M D):M (List D):=bnd f λp t=>match compG p.1 st tst elt p.2 ⟨cenv n fr t.env,t.S⟩ with
 | some (xs,t')=>if xs.length<=LIM then some (xs,{ t with S:=t'.S }) else none
 | none=>none
structure ItOk3 (K:PySem.W.Frag)(J:It)(g:Gd)(c:Cf)(H:Hp)(ds:List D):Prop where
 go:∀c' H' S' (i:Nat),Ext c H c' H'->SInv K c' S' H'->Gon g S'->i < ds.length->J.go i H'
 yld:∀c' H' S' (i:Nat) x H'' d,Ext c H c' H'->SInv K c' S' H'->Gon g S'->ds[i]?=some d->J.yld i H' x H''->∃p vs es,x = .ref p/\H' p=none/\H''=upd H' p (.tup vs)/\d = .tup es/\Reps K c' H' vs es
 stop:∀c' H' S',Ext c H c' H'->SInv K c' S' H'->Gon g S'->J.stop ds.length H'
section
variable {X:Cx}{e a b tg iter elt:Expr}{ifs:List Expr}{pos:Pos}{scope:Scope}{N':List Str}{n:Nat}{fr:List Nat}{st:D->M Unit}{tst:M Bool}{el:M D}
end
structure ItOkG (K:PySem.W.Frag)(J:It)(g:Gd)(c:Cf)(H:Hp)(ds:List D):Prop where
 go:∀c' H' S' (i:Nat),Ext c H c' H'->SInv K c' S' H'->Gon g S'->i < ds.length->J.go i H'
 yld:∀c' H' S' (i:Nat) x H'' d,Ext c H c' H'->SInv K c' S' H'->Gon g S'->ds[i]?=some d->J.yld i H' x H''->H''=H'/\Rep K c' H' x d
 stop:∀c' H' S',Ext c H c' H'->SInv K c' S' H'->Gon g S'->J.stop ds.length H'
variable {K:PySem.W.Frag}{H:Hp}
theorem ItOk.toG {J:It}{c:Cf}{ds:List D}(h:ItOk K J c H ds):ItOkG K J g c H ds:=
 ⟨λc' H' _ i e _ _=>h.go c' H' i e,λc' H' _ i x H'' d e _ _=>h.yld c' H' i x H'' d e,λc' H' _ e _ _=>h.stop c' H' e⟩
def RIG (K:PySem.W.Frag)(f:M (Gd×List D)):TI:=λσ H R=>∃Oo c t,FInv K Oo c t σ H/\∃p t',f t=some (p,t')/\∀J H' c',FInv K Oo c' t' σ H'->Stp Oo c H c' H'->ItOkG K J p.1 c' H' p.2->R J H'
def forG (g:Gd)(st:D->M Unit)(b:M Out):List D->M Out
 | []=>bnd (chk g) λ_=>ret .next
 | d :: r=>bnd (chk g) λ_=>bnd (st d) λ_=>bnd b λo=>match o with
   | .next=>forG g st b r
   | .cont=>forG g st b r
   | .brk=>ret .next
   | .ret x=>ret (.ret x)
def Mo (f:M (Gd×List D))(st:D->M Unit)(b:M Out):M Out:=bnd f λp=>forG p.1 st b p.2
theorem RS.forG {μ:Cf->Hp->D->(V->Hp->Prop)->Prop}{K:PySem.W.Frag}{f:M (Gd×List D)}{st:D->M Unit}{b:M Out}{E:Ends}{σ:L2.St}{H:Hp}(q:RSg K μ (Mo f st b) E σ H):SW (RIG K f) (RG K st) (RSg K μ b) E σ H:=by
 obtain ⟨Oo,c,t,fi,o,t',eq,k⟩:=q;obtain ⟨pg,t1,e1,eq⟩:=Ao eq;refine ⟨Oo,c,t,fi,pg,t1,e1,λJ H1 c1 f1 s1 it=>?_⟩;obtain ⟨g,ds⟩:=pg;dsimp only at eq it;refine ⟨λi m σ' H'=>m=ds.length - i/\i<=ds.length/\∃c' t2,FInv K Oo c' t2 σ' H'/\Stp Oo c1 H1 c' H'/\F2.forG g st b (ds.drop i) t2=some (o,t'),⟨_,rfl,un7 _,c1,t1,f1,.refl,by rw [ul1];exact eq⟩,?_⟩;rintro i m σ' H' ⟨rfl,hi,c',t2,f2,s2,e2⟩
 by_cases hlt:i < ds.length
 ·rw [ub4 hlt] at e2;unfold F2.forG at e2;obtain ⟨u0,t0,e0,e2⟩:=Ao e2;obtain ⟨hon,ht0⟩:=GM e0;rw [ht0] at e2;clear e0 ht0;refine .inr ⟨it.go c' H' _ i s2.ext f2.s hon hlt,λσ3 H3=>∃c3 t3,FInv K Oo c3 t3 σ3 H3/\Stp Oo c1 H1 c3 H3/\F2.forG g st b (ds.drop (i + 1)) t3=some (o,t'),λσ3 H3 h=>⟨ds.length - (i + 1),by lia,rfl,hlt,h⟩,λx H'' hy=>?_⟩;obtain ⟨rfl,rx⟩:=it.yld c' H' _ i x H'' _ s2.ext f2.s hon (ub7 hlt) hy;obtain ⟨u,t3,e3,e2⟩:=Ao e2;obtain ⟨o4,t4,e4,e2⟩:=Ao e2;refine ⟨Oo,c',t2,_,f2,rx,t3,e3,λσ3 H3 c3 f3 s3=>?_⟩;refine ⟨Oo,c3,t3,f3,o4,t4,e4,λσ5 H5 c5 f5 s5=>?_⟩;have s':=(s2.trans s3).trans s5
  cases o4 with
  | next=>exact ⟨c5,t4,f5,s',e2⟩
  | cont=>exact ⟨c5,t4,f5,s',e2⟩
  | brk=>cases e2;exact k σ5 H5 c5 f5 (s1.trans s')
  | ret r=>cases e2;exact k σ5 H5 c5 f5 (s1.trans s')
 ·have hi':i=ds.length:=by lia
  subst hi';rw [ui1] at e2;unfold F2.forG at e2;obtain ⟨u0,t0,e0,e2⟩:=Ao e2;obtain ⟨hon,ht0⟩:=GM e0;rw [ht0] at e2;clear e0 ht0
  cases e2
  exact .inl ⟨it.stop c' H' _ s2.ext f2.s hon,k σ' H' c' f2 (s1.trans s2)⟩
theorem RF.compG {K:PySem.W.Frag}{n:Nat}{fr:List Nat}{f:M (Gd×List D)}{st:D->M Unit}{tst:M Bool}{elt:M D}{σ:L2.St}{H:Hp}{Q:VK}(q:RF K (JP n fr f st tst elt) σ H Q):Mr (RIG K f) (RG K st) (RT K tst) (RE K elt) (FF n fr) σ H Q:=by
 obtain ⟨Oo,c,t,fi,xs,t',eq,k⟩:=q;obtain ⟨pg,t1,e1,eq⟩:=Ao eq;refine ⟨Oo,c,t,fi,pg,t1,e1,λJ H1 c1 f1 s1 it=>?_⟩;obtain ⟨g,ds⟩:=pg;dsimp only at eq it
 cases e3:F2.compG g st tst elt ds ⟨cenv n fr t1.env,t1.S⟩ with
 | none=>rw [e3] at eq;cases eq
 | some p=>
   obtain ⟨ys,t3⟩:=p;rw [e3] at eq;dsimp only at eq
   split at eq
   case isFalse=>cases eq
   next hl=>
   cases eq
   refine ⟨λi m acc σ' H'=>m=ds.length - i/\i<=ds.length/\∃c' t2 zs rest,FInv K c1.O c' t2 σ' H'/\Stp c1.O c1 H1 c' H'/\Reps K c' H' acc zs/\F2.compG g st tst elt (ds.drop i) t2=some (rest,t3)/\xs=zs++rest,
    ⟨_,rfl,un7 _,c1,_,[],xs,JU f1,.refl,.nil,by rw [ul1];exact e3,rfl⟩,?_⟩
   rintro i m acc σ' H' ⟨rfl,hi,c',t2,zs,rest,f2,s2,ra,e2,ez⟩;have hacc:acc.length<=sizeLine:=by
    have:zs.length<=xs.length:=by rw [ez,uf7];exact ui2 _ _
    rw [ra.length];exact um5 this (um5 hl CH)
   refine ⟨hacc,?_⟩
   by_cases hlt:i < ds.length
   ·rw [ub4 hlt] at e2;unfold F2.compG at e2;obtain ⟨u0,t0,e0,e2⟩:=Ao e2;obtain ⟨hon,ht0⟩:=GM e0;rw [ht0] at e2;clear e0 ht0;refine .inr ⟨it.go c' H' _ i s2.ext f2.s hon hlt,λx H'' hy=>?_⟩;obtain ⟨rfl,rx⟩:=it.yld c' H' _ i x H'' _ s2.ext f2.s hon (ub7 hlt) hy;obtain ⟨u,t4,e4,e2⟩:=Ao e2;obtain ⟨kb,t5,e5,e2⟩:=Ao e2;refine ⟨c1.O,c',t2,_,f2,rx,t4,e4,λσ3 H3 c3 f3 s3=>⟨c1.O,c3,t4,f3,kb,t5,e5,λH4 c4 f4 s4=>?_⟩⟩
    cases kb with
    | false=>
      rw [if_neg uf4] at e2 ⊢;exact ⟨ds.length - (i + 1),by lia,rfl,hlt,c4,t5,zs,rest,f4,(s2.trans s3).trans s4,ra.mono (s3.trans s4).ext,e2,ez⟩
    | true=>
      rw [if_pos rfl] at e2 ⊢;obtain ⟨x6,t6,e6,e2⟩:=Ao e2;obtain ⟨r7,t7,e7,e2⟩:=Ao e2
      cases e2
      refine ⟨c1.O,c4,t5,f4,x6,t6,e6,λv H5 c5 f5 s5 rv=>?_⟩;exact ⟨ds.length - (i + 1),by lia,rfl,hlt,c5,t6,zs++[x6],r7,f5,((s2.trans s3).trans s4).trans s5,(ra.mono ((s3.trans s4).trans s5).ext).append (.cons rv .nil),e7,by rw [ez,ug9];rfl⟩
   ·have hi':i=ds.length:=by lia
    subst hi';rw [ui1] at e2;unfold F2.compG at e2;obtain ⟨u0,t0,e0,e2⟩:=Ao e2;obtain ⟨hon,ht0⟩:=GM e0;rw [ht0] at e2;clear e0 ht0
    cases e2
    refine .inl ⟨it.stop c' H' _ s2.ext f2.s hon,λp hp _=>?_⟩;obtain ⟨si,ext⟩:=f2.leave;obtain ⟨f6,s6⟩:=f1.after si ⟨s2.ext.trans ext,s2.oo⟩ (λ_=>Iff.rfl);rw [uj2] at ez;subst ez;exact k p acc H' _ f6 (s1.trans s6) (ra.mono ext) hp
def Gv:D->M (Gd×List D)
 | .obj k=>λt=>match t.S[k]? with
   | some (.lst ds)=>some ((some (k,ds),ds),t)
   | _=>none
 | d=>bnd (D2 d) λds=>ret (none,ds)
def Ph (f:M D):M (Gd×List D):=bnd f Gv
theorem ItOkG.lst {K:PySem.W.Frag}{g:Gd}{c:Cf}{H:Hp}{p:Addr}{ds:List D}(r:∀c' H' S',Ext c H c' H'->SInv K c' S' H'->Gon g S'->∃vs,SqL K H' p vs/\Reps K c' H' vs ds):ItOkG K (Itl K p) g c H ds:=by
 refine ⟨λc' H' S' i ex si on hi=>?_,λc' H' S' i x H'' d ex si on hd hy=>?_,λc' H' S' ex si on=>?_⟩
 ·obtain ⟨vs,h1,h2⟩:=r c' H' S' ex si on;obtain ⟨v,e,_⟩:=h2.at (ub7 hi);exact ⟨vs,v,h1,e⟩
 ·obtain ⟨vs,h1,h2⟩:=r c' H' S' ex si on;obtain ⟨rfl,hx⟩:=hy;exact ⟨rfl,h2.get (hx vs h1) hd⟩
 ·obtain ⟨vs,h1,h2⟩:=r c' H' S' ex si on;exact ⟨vs,h1,by rw [h2.length];exact un6 _⟩
section
variable {X:Cx}{e a b tg iter elt:Expr}{ifs:List Expr}{pos:Pos}{scope:Scope}{N':List Str}{n:Nat}{fr:List Nat}{st:D->M Unit}{tst:M Bool}{el:M D}
theorem Ui {μ:Cf->Hp->D->(V->Hp->Prop)->Prop}{body:List Stmt}{f:M (Gd×List D)}{b:M Out}(hp:PassesOwn (model X.prog X.w) X.A X.env X.xe)(hc:X.calm=true)(hi:PI X tg iter (RIG X.K f))(hg:PG X tg (RG X.K st))(hb:PSs X body (RSg X.K μ b))
 (hs:∀x,foldedSetIterable iter X.env x=pure x:=by intro _;rfl):PS X (.For tg iter body [] pos) (RSg X.K μ (Mo f st b)):=
 B0 (Q2 hp hc hi hg hb hs) λ_ _ _ q=>RS.forG q
theorem R4 {f:M (Gd×List D)}(O:CmpOk X scope N' (FF n fr))(hc:X.calm=true)(hi:PI X tg iter (RIG X.K f))
 (hg:∀cl C s2 H2 fp,PG (CF X N' scope cl C s2 H2 fp) tg (RG X.K st)) (ht:∀cl C s2 H2 fp,PIf (CF X N' scope cl C s2 H2 fp) ifs (RT X.K tst)) (he:∀cl C s2 H2 fp,PE (CF X N' scope cl C s2 H2 fp) elt (RE X.K el))
 (hs:∀x,foldedSetIterable iter X.env x=pure x:=by intro _;rfl):PE X (.ListComp elt [⟨tg,iter,ifs,0⟩] scope pos) (RF X.K (JP n fr f st tst el)):=
 BC (OO O hc hi hg ht he hs) λ_ _ _ q=>RF.compG q
theorem OF {f:M D}(h:PE X e (RE X.K f)):PI X tg e (RIG X.K (Ph f)):=
 Jx (QW h) λσ H R z=>by
  obtain ⟨Oo,c,t,fi,ds,t',eq,k⟩:=z;obtain ⟨d,t1,e1,eq⟩:=Ao eq;refine ⟨Oo,c,t,fi,d,t1,e1,λv H1 c1 f1 s1 rv=>?_⟩
  cases rv with
  | @obj a kk hk=>
    unfold Gv at eq;dsimp only at eq
    split at eq
    ·next es hS=>
     cases eq
     obtain ⟨ws,g1,g3⟩:=f1.s.obs kk a _ hk hS;refine .inl ⟨a,rfl,⟨ws,SqL.of g1⟩,k _ H1 c1 f1 s1 (ItOkG.lst λc' H' S' ex si on=>?_)⟩;obtain ⟨us,q1,q2⟩:=si.obs kk a _ (ex.io _ _ hk) (on kk es rfl);exact ⟨us,SqL.of q1,q2⟩
    ·cases eq
  | @lst p vs ds' h1 h2 h3=>
    cases eq
    exact .inl ⟨p,rfl,⟨vs,SqL.of h1⟩,k _ H1 c1 f1 s1 (ItOk.toG (ItOk.lst λc' H' ex=>⟨vs,SqL.of (ex.keep _ _ h1 h2),h3.mono ex⟩))⟩
  | @scr p ns h1=>
    cases eq
    exact .inl ⟨p,rfl,⟨_,h1.sq⟩,k _ H1 c1 f1 s1 (ItOk.toG (ItOk.lst λc' H' ex=>⟨_,(h1.mono ex).sq,Reps.ints ns⟩))⟩
  | @tup p vs ds' h1 h2 h3=>
    cases eq
    exact .inr (.inl ⟨p,rfl,⟨vs,SqT.of h1⟩,k _ H1 c1 f1 s1 (ItOk.toG (ItOk.tup λc' H' ex=>⟨vs,SqT.of (ex.keep _ _ h1 h2),h3.mono ex⟩))⟩)
  | str x=>
    cases eq
    exact .inr (.inr ⟨x,rfl,k _ H1 c1 f1 s1 (ItOk.toG ItOk.str)⟩)
  | _=>cases eq
def Sj (f:M D):M D:=bnd f λo=>match o with
 | .obj k=>λt=>match t.S[k]? with
   | some (.lst xs)=>match xs[xs.length - 1]? with
     | some y=>some (y,{ t with S:=t.S.set k (.lst xs.dropLast) })
     | none=>none
   | _=>none
 | _=>fail
theorem L8 {c:Cf}{vs:List V}{ds:List D}(h:Reps K c H vs ds):Reps K c H vs.dropLast ds.dropLast:=by
 rw [List.dropLast_eq_take,List.dropLast_eq_take,h.length];exact h.take _
theorem Qq {o:Expr}{f:M D}{apos cpos:Pos}(ho:PE X o (RE X.K f))
 (hbase:attributeBase o "pop" X.env (eval o X.env)=eval o X.env:=by rfl) (hline:(apos.endLine == cpos.line)=true:=by rfl) :
 PE X (.Call (.Attribute o "pop" apos) [] [] cpos) (RE X.K (Sj f)):=
 BC (Wz uc2 PySem.F.slot_list_pop PySem.F.type_list_pop Wm ho hbase hline) λσ H Q z=>by
  obtain ⟨Oo,c,t,fi,r,t',eq,k⟩:=z;obtain ⟨d,t1,e1,eq⟩:=Ao eq;refine ⟨Oo,c,t,fi,d,t1,e1,λv H1 c1 f1 s1 rv=>?_⟩
  cases rv with
  | @obj a kk hk=>
    dsimp only at eq
    split at eq
    ·next xs hS=>
     split at eq
     ·next y hy=>
      cases eq
      obtain ⟨vs,g1,g2⟩:=f1.s.obs kk a _ hk hS;obtain ⟨w,gw,rw'⟩:=g2.at hy;rw [<-g2.length] at gw;refine ⟨.inl ⟨rfl,vs,SqL.of g1⟩,a,vs,w,rfl,rfl,g1,gw,?_⟩;obtain ⟨f2,s2⟩:=f1.wrObj (o:=.lst xs.dropLast) (u:=.lst vs.dropLast) hk λc' H' ext hu=>⟨vs.dropLast,hu,(L8 g2).mono ext⟩;exact k _ _ c1 f2 (s1.trans s2) (rw'.mono s2.ext)
     ·cases eq
    ·cases eq
  | _=>cases eq
end
def Cw (S:List Ob):Nat->D->D
 | 0,d=>d
 | n + 1,.obj k=>match S[k]? with
   | some (.lst ds)=>.lst (ds.map (Cw S n))
   | _=>.obj k
 | n + 1,.tup ds=>.tup (ds.map (Cw S n))
 | n + 1,.lst ds=>.lst (ds.map (Cw S n))
 | _ + 1,d=>d
def eqO (g:Bool->Bool)(x y:D):M D:=λt=>if (Ce (Cw t.S 16 x) && Ce (Cw t.S 16 y))=true then (eqN EQD (Cw t.S 16 x) (Cw t.S 16 y)).map λb=>(.bl (g b),t) else none
theorem Jh {K:PySem.W.Frag}{c:Cf}{S:List Ob}{H:Hp}(s:SInv K c S H):∀(n:Nat) {v:V} {d:D},Rep K c H v d->Ce (Cw S n d)=true->Rep K c0 H v (Cw S n d)
 | 0,v,d,r,p=>D5 r (by simpa only [Cw] using p)
 | n + 1,v,d,r,p=>by
   have row:∀{vs:List V} {ds:List D},Reps K c H vs ds->G7 (ds.map (Cw S n))=true->Reps K c0 H vs (ds.map (Cw S n)):=by
    intro vs ds q
    induction ds generalizing vs with
    | nil=>intro _;cases q;exact .nil
    | cons d ds ih=>
      intro p
      cases q with
      | cons a b=>
        rw [ul7,G7,uh8] at p;exact .cons (Jh s n a p.1) (ih b p.2)
   cases r with
   | @obj a k hk=>
     unfold Cw at p ⊢
     split
     ·next ds e=>
      rw [e] at p;obtain ⟨vs,h1,h2⟩:=s.obs k a _ hk e;exact .lst h1 (Hl _) (row h2 (by simpa [Ce] using p))
     ·next h=>
      split at p
      ·next ds e=>exact absurd e (h ds)
      ·simp [Ce] at p
   | tup h m q=>rw [Cw] at p ⊢;exact .tup h (Hl _) (row q (by simpa only [Ce] using p))
   | lst h m q=>rw [Cw] at p ⊢;exact .lst h (Hl _) (row q (by simpa only [Ce] using p))
   | non=>exact .non
   | bl b=>exact .bl b
   | int b=>exact .int b
   | str b=>exact .str b
   | ty b=>exact .ty b
   | scr h=>exact D5 (c:=c) (.scr h) p
   | dic h n=>exact D5 (.dic h n) p
   | exc a b n f q=>exact D5 (.exc a b n f q) p
theorem Fw {g:Bool->Bool}:BY K (PF K g) (eqO g):=λ{Oo c t σ H x y dx dy r t' Q} f rx ry eq k=>by
 unfold eqO at eq
 split at eq
 ·next hp=>
  rw [uh8] at hp;obtain ⟨b,e1,e2⟩:=uc9.mp eq
  cases e2
  exact ⟨c0,_,_,b,Jh f.s 16 rx hp.1,Jh f.s 16 ry hp.2,e1,k _ H c f .refl (.bl (g b))⟩
 ·cases eq
theorem Pp {X:Cx}{pins:List (Addr×Obj)}{σ:L2.St}{s:Shared}{A:Around}{E:Value->Shared->Prop}{Q:Value->Shared->Prop}{b:Bool}{x:V}{u:Value}{T:String}{tp:Addr}{dd:Option Addr}{its:List Value}{n:Nat}{sl:Array (Option Value)}(I:Inv X pins σ H s)(rx:RelV x u)(ty:TyOf X.K H x (.type T))(htp:s.heap.get? tp=some ⟨.type "tuple",dd,.seq its.toArray n,sl⟩)
 (e:PySem.W.kitAny X.K (.type T) its=some b) (h:∀tk,Q (.bool b) { s with toks:=tk }):wpAny (model X.prog X.w) A (call (.builtin "isinstance") [u,.ref tp]) Q E s:=by
 cases ty with
 | non=>cases (show u=Value.none from rx);exact uk2 PySem.W.kitx_none I.kIn True.intro htp e (λz=>nomatch z) h
 | bl y=>cases (show u=Value.bool y from rx);exact uk2 PySem.W.kitx_bool I.kIn True.intro htp e (λz=>nomatch z) h
 | int i=>obtain ⟨t,q⟩:=(show ∃t,u=Value.int i t from rx);cases q;exact uk2 PySem.W.kitx_int I.kIn True.intro htp e (λz=>nomatch z) h
 | str y=>obtain ⟨t,q⟩:=(show ∃t,u=Value.str y t from rx);cases q;exact uk2 PySem.W.kitx_str I.kIn True.intro htp e (λz=>nomatch z) h
 | flt y=>obtain ⟨t,q⟩:=(show ∃t,u=Value.float y t from rx);cases q;exact uk2 PySem.W.kitx_float I.kIn True.intro htp e (λz=>nomatch z) h
 | @lst a xs ea=>
   cases (show u=Value.ref a from rx)
   obtain ⟨_,_,n,_,h1⟩:=(show ObjOk X.prog X.w H s.heap a (.lst xs) from I.hok a _ ea);exact uk2 ug4 I.kIn ⟨_,h1,rfl⟩ htp e (λz=>nomatch z) h
 | @frz a ob xs ea=>
   cases (show u=Value.ref a from rx)
   obtain ⟨_,_,_,n,_,h1⟩:=(show ObjOk X.prog X.w H s.heap a (.frz ob (.lst xs)) from I.hok a _ ea);exact uk2 ug4 I.kIn ⟨_,h1,rfl⟩ htp e (λz=>nomatch z) h
 | @tup a xs ea=>
   cases (show u=Value.ref a from rx)
   obtain ⟨_,_,_,p⟩:=(show ObjOk X.prog X.w H s.heap a (.tup xs) from I.hok a _ ea);obtain ⟨o,h1,h2,_⟩:=p;exact uk2 PySem.W.kitx_tuple I.kIn ⟨o,h1,h2⟩ htp e (λz=>nomatch z) h
 | @dK a kvs ea=>
   cases (show u=Value.ref a from rx)
   obtain ⟨_,_,vs,_,p⟩:=(show ObjOk X.prog X.w H s.heap a (.dK kvs) from I.hok a _ ea);obtain ⟨o,es,ep,h1,h2,_⟩:=p;exact uk2 ug5 I.kIn ⟨o,h1,h2.1⟩ htp e (λz=>nomatch z) h
 | @dT a kvs ea=>
   cases (show u=Value.ref a from rx)
   obtain ⟨_,_,xs,_,o,es,ep,h1,h2,_⟩:=(show ObjOk X.prog X.w H s.heap a (.dT kvs) from I.hok a _ ea);exact uk2 ug5 I.kIn ⟨o,h1,h2.1⟩ htp e (λz=>nomatch z) h
def TD (K:PySem.W.Frag):List V->Hp->VK->Prop:=λxs H Q=>∃x p n1 n2 T b,xs=[x,.ref p]/\H p=some (.tup [.ty n1,.ty n2])/\TyOf K H x (.type T)/\PySem.W.kitAny K (.type T) [.type n1,.type n2]=some b/\Q (.bl b) H
theorem Qd {X:Cx}:CW X (.builtin "isinstance") (TD X.K):=by
 intro pins s σ H xs us Q I r h;obtain ⟨x,p,n1,n2,T,b,rfl,hp,ty,e,q⟩:=h;obtain ⟨u,w',rfl,rx,rt⟩:=Ky r
 cases (show w'=Value.ref p from rt)
 obtain ⟨_,its,rv,hit⟩:=(show ObjOk X.prog X.w H s.heap p (.tup [.ty n1,.ty n2]) from I.hok p _ hp);obtain ⟨u1,u2,rfl,r1,r2⟩:=Ky rv
 cases (show u1=Value.type n1 from r1)
 cases (show u2=Value.type n2 from r2)
 obtain ⟨o,h1,h2,n,h3⟩:=hit;obtain ⟨oc,od,oda,osl⟩:=o;dsimp only at h2 h3;subst h2 h3;exact Pp I rx ty h1 e λtk=>⟨.bl b,H,I.tok tk,rfl,q⟩
def IU:List D->M D
 | [d,.tup [.ty m1,.ty m2]]=>λt=>match d with
   | .obj k=>match t.S[k]? with
     | some (.lst _)=>match DF "list" m1,DF "list" m2 with
       | some b1,some b2=>some (.bl (b1 || b2),t)
       | _,_=>none
     | _=>none
   | d=>match tyD d with
     | some n=>match DF n m1,DF n m2 with
       | some b1,some b2=>some (.bl (b1 || b2),t)
       | _,_=>none
     | none=>none
 | _=>fail
theorem OJ {d:D}{n m1 m2:String}{b1 b2:Bool}(h:tyD d=some n)(h1:DF n m1=some b1)(h2:DF n m2=some b2):PySem.W.kitAny K (.type n) [.type m1,.type m2]=some (b1 || b2):=by
 rw [PySem.W.kitAny,Ia h h1]
 cases b1 with
 | true=>rfl
 | false=>rw [PySem.W.kitAny,Ia h h2];cases b2 <;> rfl
theorem SR:Es K (TD K) IU:=λ{Oo c t σ H xs ds r t' Q} f rx eq k=>by
 unfold IU at eq
 split at eq
 ·next d m1 m2=>
  obtain ⟨v,u,rfl,rv,ru⟩:=Ik rx
  cases ru with
  | @tup p ws _ g1 g2 g3=>
  obtain ⟨w1,w2,rfl,r1,r2⟩:=Ik g3
  cases r1
  cases r2
  split at eq
  ·next kk=>
   cases rv with
   | @obj a _ hk=>
   split at eq
   ·next xs hS=>
    obtain ⟨vs,q1,q2⟩:=f.s.obs kk a _ hk hS
    split at eq
    ·next b1 b2 e1 e2=>
     cases eq
     exact ⟨_,p,m1,m2, "list",_,rfl,g1,.lst q1,OJ (d:=.lst xs) rfl e1 e2,k _ H c f .refl (.bl _)⟩
    ·cases eq
   ·cases eq
  ·next nk=>
   split at eq
   ·next n et=>
    split at eq
    ·next b1 b2 e1 e2=>
     cases eq
     refine ⟨v,p,m1,m2,n,_,rfl,g1,?_,OJ et e1 e2,k _ H c f .refl (.bl _)⟩
     cases rv <;> first | (cases et;first | exact .non | exact .bl _ | exact .int _ | exact .str _ | exact .lst ‹_› | exact .tup ‹_› | exact .dK ‹_›) | cases et
    ·cases eq
   ·cases eq
 ·cases eq
end F2
namespace LW
open PySem L2 F2
def EY:M Out:=
 (AR (F5 (fB (Ac (Ad 0) (Ac (fC (.ty "int")) Aj)) DP) (HU (fB (Ac (Ad 0) (Ac (fC (.ty "bool")) Aj)) DP))))
def C5 (MM:Fn):M Out:=
 (AR (F5 (Au MM (Ac (Ad 0) Aj)) (FI (Ad 1) (Ad 0) (Ad 2) leA leA)))
def Kc (KM MK MJ ML DB:Fn):M Out:=
 (Aq (A5 2 (Ag (Ad 0) (fC (.int 0)) ixD))
 (Aq (ifS (AJ (Ag (Ad 2) (fC (.str "nothing")) (eqS id)))
   (AR (Ag (Ad 1) (fC .non) isC))
   AU)
 (Aq (ifS (AJ (Ag (Ad 2) (fC (.str "number")) (eqS id)))
   (AR (Au DB (Ac (Ad 1) (Ac (Ag (Ad 0) (fC (.int 1)) ixD) (Ac (Ag (Ad 0) (fC (.int 2)) ixD) Aj)))))
   AU)
 (Aq (ifS (AJ (Ag (Ad 2) (fC (.str "text")) (eqS id)))
   (AR (Au ML (Ac (Ad 0) (Ac (Ad 1) Aj))))
   AU)
 (Aq (ifS (AJ (Ag (Ad 2) (fC (.str "list")) (eqS id)))
   (AR (Au MJ (Ac (Ad 0) (Ac (Ad 1) Aj))))
   AU)
 (Aq (ifS (AJ (Ag (Ad 2) (fC (.str "pair")) (eqS id)))
   (AR (Au MK (Ac (Ad 0) (Ac (Ad 1) Aj))))
   AU)
 (AR (Au KM (Ac (Ad 0) (Ac (Ad 1) Aj))))))))))
def EX (GJ:Fn):M Out:=
 (Aq (ifS (fOr (De (AJ (fB (Ac (Ad 1) (Ac (fC (.ty "str")) Aj)) DP))) (AJ (Ag (fB (Ac (Ad 1) Aj) BQ) (Ag (Ad 0) (fC (.int 1)) ixD) gtA)))
   (AR (fC (.bl false)))
   AU)
 (Aq (C8 (Fb (Ad 1)) (BD 2)
   (ifS (De (AJ (Au GJ (Ac (fB (Ac (Ad 2) Aj) La) Aj))))
   (AR (fC (.bl false)))
   AU))
 (AR (fC (.bl true)))))
def F7:M Out:=
 (AR (F5 (FI (fC (.int 32)) (Ad 0) (fC (.int 126)) leA leA) (Ag (Ad 0) (fC (.int 37)) (eqS λb=>!b))))
def EV (Ej:Fn):M Out:=
 (Aq (ifS (fOr (De (AJ (fB (Ac (Ad 1) (Ac (fC (.ty "list")) Aj)) DP))) (AJ (Ag (fB (Ac (Ad 1) Aj) BQ) (Ag (Ad 0) (fC (.int 2)) ixD) gtA)))
   (AR (fC (.bl false)))
   AU)
 (Aq (C8 (Fb (Ad 1)) (BD 2)
   (ifS (De (AJ (Au Ej (Ac (Ag (Ad 0) (fC (.int 1)) ixD) (Ac (Ad 2) Aj)))))
   (AR (fC (.bl false)))
   AU))
 (AR (fC (.bl true)))))
def EW (Ej:Fn):M Out:=
 (Aq (ifS (fOr (De (AJ (fB (Ac (Ad 1) (Ac (fC (.ty "tuple")) Aj)) DP))) (AJ (Ag (fB (Ac (Ad 1) Aj) BQ) (fC (.int 2)) (eqS λb=>!b))))
   (AR (fC (.bl false)))
   AU)
 (AR (F5 (Au Ej (Ac (Ag (Ad 0) (fC (.int 1)) ixD) (Ac (Ag (Ad 1) (fC (.int 0)) ixD) Aj))) (Au Ej (Ac (Ag (Ad 0) (fC (.int 2)) ixD) (Ac (Ag (Ad 1) (fC (.int 1)) ixD) Aj))))))
def Ea (Ej DB:Fn):M Out:=
 (Aq (ifS (fOr (De (AJ (fB (Ac (Ad 1) (Ac (fC (.ty "tuple")) Aj)) DP))) (AJ (Ag (fB (Ac (Ad 1) Aj) BQ) (fC (.int 3)) (eqS λb=>!b))))
   (AR (fC (.bl false)))
   AU)
 (Aq (ifS (fOr (De (AJ (fB (Ac (Ag (Ad 1) (fC (.int 0)) ixD) (Ac (fC (.ty "str")) Aj)) DP))) (AJ (Ag (Ag (Ad 1) (fC (.int 0)) ixD) (fC (.str "of")) (eqS λb=>!b))))
   (AR (fC (.bl false)))
   AU)
 (Aq (ifS (De (AJ (Au DB (Ac (Ag (Ad 1) (fC (.int 1)) ixD) (Ac (fC (.int 0)) (Ac (Ag (fB (Ac (Ag (Ad 0) (fC (.int 1)) ixD) Aj) BQ) (fC (.int 1)) CU) Aj))))))
   (AR (fC (.bl false)))
   AU)
 (AR (Au Ej (Ac (Ag (Ag (Ad 0) (fC (.int 1)) ixD) (Ag (Ad 1) (fC (.int 1)) ixD) ixD) (Ac (Ag (Ad 1) (fC (.int 2)) ixD) Aj)))))))
def DI (Cl EC JF:Fn):M Out:=
 (Aq (A5 2 (Ag (Ad 0) (fC (.int 0)) ixD))
 (Aq (ifS (AJ (Ag (Ad 2) (fC (.str "nothing")) (eqS id)))
   (HE (BI Aj))
   AU)
 (Aq (ifS (AJ (Ag (Ad 2) (fC (.str "number")) (eqS id)))
   (HE (Ev JF (Ac (Ag (Ad 1) (Ag (Ad 0) (fC (.int 1)) ixD) CU) (Ac (Au EC (Ac (Ag (Ag (Ad 0) (fC (.int 2)) ixD) (Ag (Ad 0) (fC (.int 1)) ixD) CU) Aj)) Aj))))
   AU)
 (Aq (ifS (AJ (Ag (Ad 2) (fC (.str "text")) (eqS id)))
   (HE (bnd (Ba (BI (Ac (fB (Ac (Ad 1) Aj) BQ) Aj))) λx=>bnd (Ba (Dr 1 [] (Fb (Ad 1)) (BD 0) Ei (fB (Ac (Ad 0) Aj) La))) λy=>IM x y))
   AU)
 (Aq (ifS (AJ (Ag (Ad 2) (fC (.str "list")) (eqS id)))
   (Aq (EA 3 (BI (Ac (fB (Ac (Ad 1) Aj) BQ) Aj)))
 (Aq (C8 (Fb (Ad 1)) (BD 4)
   (ownM 3 IP (Ac (Ba (Ev Cl (Ac (Ag (Ad 0) (fC (.int 1)) ixD) (Ac (Ad 4) Aj)))) Aj)))
 (HF 3)))
   AU)
 (Aq (ifS (AJ (Ag (Ad 2) (fC (.str "pair")) (eqS id)))
   (HE (bnd (Ba (Ev Cl (Ac (Ag (Ad 0) (fC (.int 1)) ixD) (Ac (Ag (Ad 1) (fC (.int 0)) ixD) Aj)))) λx=>bnd (Ba (Ev Cl (Ac (Ag (Ad 0) (fC (.int 2)) ixD) (Ac (Ag (Ad 1) (fC (.int 1)) ixD) Aj)))) λy=>IM x y))
   AU)
 (HE (bnd (Ba (BI (Ac (Ag (Ad 1) (fC (.int 1)) ixD) Aj))) λx=>bnd (Ba (Ev Cl (Ac (Ag (Ag (Ad 0) (fC (.int 1)) ixD) (Ag (Ad 1) (fC (.int 1)) ixD) ixD) (Ac (Ag (Ad 1) (fC (.int 2)) ixD) Aj)))) λy=>IM x y))))))))
def Eb:M Out:=
 (AR (Ag (Ag (fUn (Ad 0) Mi) (fC (.int 7)) Bj) (fC (.int 8)) GP))
def DT (GK:Fn):M Out:=
 (HE (Dr 1 [0,1] (GO (Ac (fC (.int 1)) (Ac (Ag (Ad 1) (fC (.int 1)) Bj) Aj))) (BD 0) Ei (Ag (Au GK (Ac (Ad 1) (Ac (Ag (Ad 2) (Ad 0) CU) Aj))) (fC (.int 256)) FQ)))
def F9:M Out:=
 (AR (Ag (Ad 0) (Ag (fC (.int 8)) (Ad 1) EJ) PN))
def DJ (KN MO MN MP KO:Fn):M Out:=
 (Aq (A5 3 (Ag (Ad 0) (fC (.int 0)) ixD))
 (Aq (ifS (AJ (Ag (Ad 3) (fC (.str "nothing")) (eqS id)))
   (AR (nxD (BL (Ac (fC .non) (Ac (Ad 2) Aj)))))
   AU)
 (Aq (ifS (AJ (Ag (Ad 3) (fC (.str "number")) (eqS id)))
   (AR (Au KO (Ac (Ad 0) (Ac (Ad 1) (Ac (Ad 2) Aj)))))
   AU)
 (Aq (ifS (AJ (Ag (Ad 3) (fC (.str "text")) (eqS id)))
   (AR (Au MP (Ac (Ad 0) (Ac (Ad 1) (Ac (Ad 2) Aj)))))
   AU)
 (Aq (ifS (AJ (Ag (Ad 3) (fC (.str "list")) (eqS id)))
   (AR (Au MN (Ac (Ad 0) (Ac (Ad 1) (Ac (Ad 2) Aj)))))
   AU)
 (Aq (ifS (AJ (Ag (Ad 3) (fC (.str "pair")) (eqS id)))
   (AR (Au MO (Ac (Ad 0) (Ac (Ad 1) (Ac (Ad 2) Aj)))))
   AU)
 (AR (Au KN (Ac (Ad 0) (Ac (Ad 1) (Ac (Ad 2) Aj)))))))))))
def Ew:M Out:=
 (Aq (ifS (AJ (Ag (Ad 1) (fB (Ac (Ad 0) Aj) BQ) geA))
   (HD "Short" (Ac (fC (.str "the bytes end within a value")) Aj))
   AU)
 (AR (nxD (Ag (Ad 0) (Ad 1) ixD))))
def DG (Eu:Fn):M Out:=
 (Aq (DX 3 (Au Eu (Ac (Ad 1) (Ac (Ad 2) Aj))))
 (Aq (ifS (AJ (Ag (Ad 3) (Ad 0) gtA))
   (EB "Broken" (Ac (Ad 2) (Ac (fC .non) Aj)))
   AU)
 (AR (nxD (Ad 3)))))
def CQ (GK Eu EC:Fn):M Out:=
 (Aq (A5 3 (Ag (Ag (Ad 0) (fC (.int 2)) ixD) (Ag (Ad 0) (fC (.int 1)) ixD) CU))
 (Aq (A5 4 (Au EC (Ac (Ad 3) Aj)))
 (Aq (A5 5 (fC (.int 0)))
 (Aq (C8 (Cy (Ac (Ad 4) Aj)) (BD 6)
   (Aq (DX 5 (JO (Ag (Ad 5) (fC (.int 256)) EJ) (Au Eu (Ac (Ad 1) (Ac (Ag (Ad 2) (Ad 6) Bj) Aj))) Bj))
 (ifS (AJ (Ag (Ad 5) (Au GK (Ac (Ad 3) (Ac (Ag (Ag (Ad 4) (fC (.int 1)) CU) (Ad 6) CU) Aj))) gtA))
   (EB "Broken" (Ac (Ag (Ad 2) (Ad 6) Bj) (Ac (fC .non) Aj)))
   AU)))
 (AR (nxD (BL (Ac (Ag (Ag (Ad 0) (fC (.int 1)) ixD) (Ad 5) Bj) (Ac (Ag (Ad 2) (Ad 4) Bj) Aj)))))))))
def Dj (Pc Dx:Fn):M Out:=
 (Aq (DX 3 (Au Dx (Ac (Ag (Ad 0) (fC (.int 1)) ixD) (Ac (Ad 1) (Ac (Ad 2) Aj)))))
 (Aq (A5 4 (Ag (Ad 2) (fC (.int 1)) Bj))
 (Aq (A5 5 (fC (.str "")))
 (Aq (C8 (Cy (Ac (Ad 3) Aj)) (BD 6)
   (DX 5 (JO (Ad 5) (Au Pc (Ac (Ad 1) (Ac (Ag (Ad 4) (Ad 6) Bj) Aj))) Bj)))
 (AR (nxD (BL (Ac (Ad 5) (Ac (Ag (Ad 4) (Ad 3) Bj) Aj)))))))))
def Ey (GJ Eu:Fn):M Out:=
 (Aq (DX 2 (Au Eu (Ac (Ad 0) (Ac (Ad 1) Aj))))
 (Aq (ifS (De (AJ (Au GJ (Ac (Ad 2) Aj))))
   (EB "Broken" (Ac (Ad 1) (Ac (fC .non) Aj)))
   AU)
 (AR (nxD (Ag (fC (.str " !\"#$ &'()*+,-./0123456789:;<=>?@ABCDEFGHIJKLMNOPQRSTUVWXYZ[\\]^_`abcdefghijklmnopqrstuvwxyz{|}~")) (Ag (Ad 2) (fC (.int 32)) CU) ixD)))))
def Di (Ci:Fn):M Out:=
 (Aq (DX 3 (Au Ci (Ac (Ag (Ad 0) (fC (.int 1)) ixD) (Ac (Ad 1) (Ac (Ad 2) Aj)))))
 (Aq (DX 4 (Au Ci (Ac (Ag (Ad 0) (fC (.int 2)) ixD) (Ac (Ad 1) (Ac (Ag (Ad 3) (fC (.int 1)) ixD) Aj)))))
 (AR (nxD (BL (Ac (BL (Ac (Ag (Ad 3) (fC (.int 0)) ixD) (Ac (Ag (Ad 4) (fC (.int 0)) ixD) Aj))) (Ac (Ag (Ad 4) (fC (.int 1)) ixD) Aj)))))))
def CP (Ci Dx:Fn):M Out:=
 (Aq (DX 3 (Au Dx (Ac (Ag (fB (Ac (Ag (Ad 0) (fC (.int 1)) ixD) Aj) BQ) (fC (.int 1)) CU) (Ac (Ad 1) (Ac (Ad 2) Aj)))))
 (Aq (DX 4 (Au Ci (Ac (Ag (Ag (Ad 0) (fC (.int 1)) ixD) (Ad 3) ixD) (Ac (Ad 1) (Ac (Ag (Ad 2) (fC (.int 1)) Bj) Aj)))))
 (AR (nxD (BL (Ac (BL (Ac (fC (.str "of")) (Ac (Ad 3) (Ac (Ag (Ad 4) (fC (.int 0)) ixD) Aj)))) (Ac (Ag (Ad 4) (fC (.int 1)) ixD) Aj)))))))
def C3:M Out:=
 (Aq (ifS (AJ (Ag (Ad 1) (fB (Ac (Ad 0) Aj) BQ) ltA))
   (AR (Ag (Ad 0) (Ad 1) ixD))
   AU)
 (AR (fC (.int 0))))
def CA (JD:Fn):M Out:=
 (Aq (A5 2 (Au JD (Ac (Ad 0) (Ac (Ad 1) Aj))))
 (AR (Fg [("rest",(Ad 2)),("mixed",(Ag (Ad 2) (Ag (fC (.int 10)) (fC (.int 12)) Jf) ltA)),("count",(Ag (fC (.int 3)) (Ag (fC (.int 5)) (Ad 1) EJ) Bj))])))
def CB:M Out:=
 (Aq (A5 2 (Ag (Ad 0) (fC (.str "rest")) BH))
 (Aq (ifS (De (AJ (Ag (Ad 0) (fC (.str "mixed")) BH)))
   (Aq (Dq (Ag (Ad 2) (Ad 1) JQ) (DK (Ad 0) (fC (.str "rest"))))
 (AR (Ag (Ad 2) (Ad 1) FQ)))
   AU)
 (Aq (Dq (Ag (Ag (Ad 0) (fC (.str "count")) BH) (fC (.int 1)) Bj) (DK (Ad 0) (fC (.str "count"))))
 (Aq (A5 2 (Ag (Ag (Ad 2) (fC (.int 1000000000163)) FQ) (Ag (fC (.int 70001)) (Ag (Ad 0) (fC (.str "count")) BH) K1) Bj))
 (Aq (A5 2 (Ag (Ag (Ad 2) (Ag (Ad 2) (fC (.int 29)) Bj) K1) (fC (.int 1000000000193)) FQ))
 (Aq (A5 2 (Ag (Ag (Ad 2) (Ad 2) K1) (fC (.int 999999999959)) FQ))
 (Aq (Dq (Ad 2) (DK (Ad 0) (fC (.str "rest"))))
 (AR (Ag (Ag (Ad 2) (fC (.int 9)) JQ) (Ad 1) FQ)))))))))
def Du (AC CZ:Fn):M Out:=
 (Aq (A5 2 (Au AC (Ac (Ad 0) (Ac (Ag (fC (.int 3)) (Ag (fC (.int 3)) (fB (Ac (Ag (Ad 1) (fC (.int 0)) gtA) Aj) Nc) EJ) Bj) Aj))))
 (Aq (ifS (AJ (Ag (Ad 2) (fC (.int 0)) (eqS id)))
   (AR (BL (Ac (fC (.str "nothing")) Aj)))
   AU)
 (Aq (ifS (AJ (Ag (Ad 2) (fC (.int 1)) (eqS id)))
   (Aq (A5 3 (Ag (Ba (BI (Ac (fC (.int 0)) (Ac (Ag (Au AC (Ac (Ad 0) (Ac (fC (.int 9)) Aj))) (fC (.int 4)) CU) (Ac (Ag (Au AC (Ac (Ad 0) (Ac (Ag (fC (.int 10)) (fC (.int 17)) Jf) Aj))) (Ag (fC (.int 10)) (fC (.int 16)) Jf) CU) Aj))))) (Au AC (Ac (Ad 0) (Ac (fC (.int 3)) Aj))) ixD))
 (AR (BL (Ac (fC (.str "number")) (Ac (Ad 3) (Ac (Ag (Ad 3) (Ag (Ba (BI (Ac (fC (.int 0)) (Ac (fC (.int 1)) (Ac (fC (.int 255)) (Ac (fC (.int 256)) (Ac (fC (.int 300)) (Ac (fC (.int 70000)) (Ac (Au AC (Ac (Ad 0) (Ac (Ag (fC (.int 10)) (fC (.int 17)) Jf) Aj))) Aj))))))))) (Au AC (Ac (Ad 0) (Ac (fC (.int 7)) Aj))) ixD) Bj) Aj))))))
   AU)
 (Aq (ifS (AJ (Ag (Ad 2) (fC (.int 2)) (eqS id)))
   (AR (BL (Ac (fC (.str "text")) (Ac (Ag (Ba (BI (Ac (fC (.int 0)) (Ac (fC (.int 1)) (Ac (fC (.int 5)) (Ac (fC (.int 250)) Aj)))))) (Au AC (Ac (Ad 0) (Ac (fC (.int 4)) Aj))) ixD) Aj))))
   AU)
 (Aq (ifS (AJ (Ag (Ad 2) (fC (.int 3)) (eqS id)))
   (AR (BL (Ac (fC (.str "list")) (Ac (Au CZ (Ac (Ad 0) (Ac (Ag (Ad 1) (fC (.int 1)) CU) Aj))) (Ac (Ag (Ba (BI (Ac (fC (.int 0)) (Ac (fC (.int 2)) (Ac (fC (.int 6)) (Ac (fC (.int 250)) Aj)))))) (Au AC (Ac (Ad 0) (Ac (fC (.int 4)) Aj))) ixD) Aj)))))
   AU)
 (Aq (ifS (AJ (Ag (Ad 2) (fC (.int 4)) (eqS id)))
   (AR (BL (Ac (fC (.str "pair")) (Ac (Au CZ (Ac (Ad 0) (Ac (Ag (Ad 1) (fC (.int 1)) CU) Aj))) (Ac (Au CZ (Ac (Ad 0) (Ac (Ag (Ad 1) (fC (.int 1)) CU) Aj))) Aj)))))
   AU)
 (AR (BL (Ac (fC (.str "choice")) (Ac (fB (Ac (Ba (Dr 1 [0,1] (Cy (Ac (Ag (fC (.int 1)) (Au AC (Ac (Ad 0) (Ac (fC (.int 3)) Aj))) Bj) Aj)) (BD 0) Ei (Au CZ (Ac (Ad 1) (Ac (Ag (Ad 2) (fC (.int 1)) CU) Aj))))) Aj) N0) Aj))))))))))
def Dv (C1 AC:Fn):M Out:=
 (Aq (A5 2 (Ag (Ad 1) (fC (.int 0)) ixD))
 (Aq (ifS (AJ (Ag (Ad 2) (fC (.str "nothing")) (eqS id)))
   (AR (fC .non))
   AU)
 (Aq (ifS (AJ (Ag (Ad 2) (fC (.str "number")) (eqS id)))
   (AR (Ag (Ba (BI (Ac (Ag (Ad 1) (fC (.int 1)) ixD) (Ac (Ag (Ad 1) (fC (.int 2)) ixD) (Ac (Ag (Ag (Ad 1) (fC (.int 1)) ixD) (Au AC (Ac (Ad 0) (Ac (Ag (Ag (Ag (Ad 1) (fC (.int 2)) ixD) (Ag (Ad 1) (fC (.int 1)) ixD) CU) (fC (.int 1)) Bj) Aj))) Bj) Aj))))) (Au AC (Ac (Ad 0) (Ac (fC (.int 3)) Aj))) ixD))
   AU)
 (Aq (ifS (AJ (Ag (Ad 2) (fC (.str "text")) (eqS id)))
   (Aq (A5 3 (fC (.str " !#09AZaz~{")))
 (AR (joinM (fC (.str "")) (Ac (Ba (Dr 1 [3,0] (Cy (Ac (fB (Ac (Ag (Ad 1) (fC (.int 1)) ixD) (Ac (Au AC (Ac (Ad 0) (Ac (fC (.int 7)) Aj))) Aj)) G1) Aj)) (BD 0) Ei (Ag (Ad 1) (Au AC (Ac (Ad 2) (Ac (fC (.int 11)) Aj))) ixD))) Aj))))
   AU)
 (Aq (ifS (AJ (Ag (Ad 2) (fC (.str "list")) (eqS id)))
   (AR (Ba (Dr 1 [0,1] (Cy (Ac (fB (Ac (Ag (Ad 1) (fC (.int 2)) ixD) (Ac (Au AC (Ac (Ad 0) (Ac (fC (.int 4)) Aj))) Aj)) G1) Aj)) (BD 0) Ei (Au C1 (Ac (Ad 1) (Ac (Ag (Ad 2) (fC (.int 1)) ixD) Aj))))))
   AU)
 (Aq (ifS (AJ (Ag (Ad 2) (fC (.str "pair")) (eqS id)))
   (AR (BL (Ac (Au C1 (Ac (Ad 0) (Ac (Ag (Ad 1) (fC (.int 1)) ixD) Aj))) (Ac (Au C1 (Ac (Ad 0) (Ac (Ag (Ad 1) (fC (.int 2)) ixD) Aj))) Aj))))
   AU)
 (Aq (A5 4 (Au AC (Ac (Ad 0) (Ac (fB (Ac (Ag (Ad 1) (fC (.int 1)) ixD) Aj) BQ) Aj))))
 (AR (BL (Ac (fC (.str "of")) (Ac (Ad 4) (Ac (Au C1 (Ac (Ad 0) (Ac (Ag (Ag (Ad 1) (fC (.int 1)) ixD) (Ad 4) ixD) Aj))) Aj))))))))))))
def C4 (AC CZ Dd:Fn):M Out:=
 (Aq (A5 1 (Au Dd (Ac (Ad 0) (Ac (fC (.int 0)) Aj))))
 (Aq (A5 2 (Ag (Ba (BI (Ac (Ag (fC (.int 1)) (Au AC (Ac (Ad 1) (Ac (fC (.int 5)) Aj))) Bj) (Ac (Ag (fC (.int 1)) (Au AC (Ac (Ad 1) (Ac (fC (.int 9)) Aj))) Bj) (Ac (fC (.int 30)) Aj))))) (Au AC (Ac (Ad 1) (Ac (fC (.int 3)) Aj))) ixD))
 (Aq (EA 3 (BI Aj))
 (Aq (C8 (Cy (Ac (Ad 2) Aj)) (BD 4)
   (Aq (A5 1 (Au Dd (Ac (Ad 0) (Ac (Ag (fC (.int 1)) (Ag (Ad 4) (fC (.int 13)) FQ) Bj) Aj))))
 (Aq (Dq (Ag (Ag (Ag (Ad 1) (fC (.str "rest")) BH) (Ag (fC (.int 1)) (Ag (Ad 4) (fC (.int 13)) GP) Bj) GP) (Ag (fC (.int 37)) (Ad 4) EJ) Bj) (DK (Ad 1) (fC (.str "rest"))))
 (ifS (IQ (AJ (Ag (Au AC (Ac (Ad 1) (Ac (fC (.int 6)) Aj))) (fC (.int 0)) (eqS id))) (AJ (Ag (Ad 4) (fC (.int 0)) gtA)))
   (ownM 3 Ct (Ac (BL (Ac (fC (.str "end")) Aj)) Aj))
   (Aq (A5 5 (Ag (Ba (BI (Ac (fC (.str "left")) (Ac (fC (.str "right")) Aj)))) (Au AC (Ac (Ad 1) (Ac (fC (.int 2)) Aj))) ixD))
 (Aq (EA 6 (BI Aj))
 (Aq (C8 (Cy (Ac (Ag (Ba (BI (Ac (fC (.int 1)) (Ac (fC (.int 2)) (Ac (fC (.int 3)) (Ac (fC (.int 9)) Aj)))))) (Au AC (Ac (Ad 1) (Ac (fC (.int 4)) Aj))) ixD) Aj)) (BD 7)
   (Aq (A5 8 (Ag (Ag (fC (.str "abcdefghi")) (Ad 7) ixD) (Ag (Ag (fC (.str "xyz")) (Au AC (Ac (Ad 1) (Ac (fC (.int 3)) Aj))) ixD) (Au AC (Ac (Ad 1) (Ac (fC (.int 8)) Aj))) EJ) Bj))
 (Aq (A5 9 (Ag (Ba (BI (Ac (Au AC (Ac (Ad 1) (Ac (Ad 2) Aj))) (Ac (fB (Ac (Ag (Ad 2) (fC (.int 1)) CU) (Ac (Ag (Ad 4) (fC (.int 1)) Bj) Aj)) G1) Aj)))) (Au AC (Ac (Ad 1) (Ac (fC (.int 2)) Aj))) ixD))
 (ownM 6 Ct (Ac (BL (Ac (Ad 8) (Ac (Au CZ (Ac (Ad 1) (Ac (Au AC (Ac (Ad 1) (Ac (fC (.int 3)) Aj))) Aj))) (Ac (Ad 9) Aj)))) Aj)))))
 (ownM 3 Ct (Ac (BL (Ac (Ad 5) (Ac (Ad 6) Aj))) Aj)))))))))
 (AR (Ad 3))))))
def DH (C1 AC Dd:Fn):M Out:=
 (Aq (EA 4 (BI Aj))
 (Aq (A5 5 (fC (.int 0)))
 (Aq (EA 6 (BI (Ac (fC (.int 0)) Aj)))
 (Aq (C8 (GO (Ac (Ad 2) (Ac (fB (Ac (fB (Ac (Ad 0) Aj) BQ) (Ac (Ad 3) Aj)) G1) Aj))) (BD 7)
   (Aq (A5 8 (Au Dd (Ac (Ad 0) (Ac (Ad 7) Aj))))
 (ifS (AJ (Ag (Ag (Ad 1) (Ad 5) ixD) (BL (Ac (fC (.str "end")) Aj)) (eqS λb=>!b)))
   (Aq (Dq (Ag (Ad 1) (Ad 5) ixD) (unS 2 (Cp (BD 9) (Cp (BD 10) FV))))
 (Aq (Dq (Ag (Ad 10) (Au AC (Ac (Ad 8) (Ac (fB (Ac (Ad 10) Aj) BQ) Aj))) ixD) (unS 3 (Cp (BD 11) (Cp (BD 12) (Cp (BD 13) FV)))))
 (Aq (ownM 4 Ct (Ac (BL (Ac (Ad 9) (Ac (Ad 11) (Ac (Au C1 (Ac (Ad 8) (Ac (Ad 12) Aj))) Aj)))) Aj))
 (Aq (A5 5 (Ad 13))
 (ownM 6 Ct (Ac (Ad 5) Aj))))))
   AU)))
 (AR (Ba (BI (Ac (Ad 4) (Ac (Ad 6) Aj)))))))))
def Dw (Cl Ej:Fn):M Out:=
 (Aq (ifS (De (AJ (Au Ej (Ac (Ad 0) (Ac (Ad 1) Aj)))))
   (HD "NoValue" (Ac (fC (.str "the value does not fit the shape")) Aj))
   AU)
 (AR (nxD (Ba (Ev Cl (Ac (Ad 0) (Ac (Ad 1) Aj)))))))
def Ga (Pb:Fn):M Out:=
 (Aq (DX 3 (Au Pb (Ac (Ad 0) (Ac (fC (.int 0)) (Ac (Fg [("left",(Ad 1)),("right",(Ad 2))]) (Ac (Fg [("left",(fC (.int 0))),("right",(fC (.int 0)))]) Aj))))))
 (AR (nxD (BL (Ac (Ag (Ad 3) (fC (.int 0)) ixD) (Ac (Ag (Ad 3) (fC (.int 1)) ixD) (Ac (BL (Ac (Ag (Ag (Ad 3) (fC (.int 2)) ixD) (fC (.str "left")) BH) (Ac (Ag (Ag (Ad 3) (fC (.int 2)) ixD) (fC (.str "right")) BH) Aj))) Aj)))))))
def DU (Ci:Fn):M Out:=
 (Aq (ifS (AJ (Ag (Ad 2) (fB (Ac (Ad 1) Aj) BQ) geA))
   (AR (nxD (fC .non)))
   AU)
 (Aq (ifS (AJ (Ag (Ag (Ad 1) (Ad 2) ixD) (fB (Ac (Ag (Ad 0) (fC (.int 1)) ixD) Aj) BQ) geA))
   (EB "Broken" (Ac (Ad 2) (Ac (Ag (Ad 0) (fC (.int 0)) ixD) Aj)))
   AU)
 (Aq (A5 3 (Ag (Ag (Ad 0) (fC (.int 1)) ixD) (Ag (Ad 1) (Ad 2) ixD) ixD))
 (Aq (Gk (DX 4 (Au Ci (Ac (Ag (Ad 3) (fC (.int 1)) ixD) (Ac (Ad 1) (Ac (Ag (Ad 2) (fC (.int 1)) Bj) Aj))))) (hNo "Short" (AR (nxD (fC .non))) (hAs "Broken" 5 (EB "Broken" (Ac (bnd (Ad 5) (MF "at")) (Ac (Ag (Ad 0) (fC (.int 0)) ixD) Aj))) V8)))
 (AR (nxD (BL (Ac (BL (Ac (Ag (Ad 0) (fC (.int 0)) ixD) (Ac (Ag (Ad 3) (fC (.int 0)) ixD) (Ac (Ag (Ad 4) (fC (.int 0)) ixD) Aj)))) (Ac (Ag (Ad 3) (fC (.int 2)) ixD) (Ac (Ag (Ad 4) (fC (.int 1)) ixD) Aj))))))))))
def D9 (KP:Fn):M Out:=
 (Aq (EA 2 (BI Aj))
 (Aq (A5 3 (fC (.int 0)))
 (Aq (C8 (Fb (Ad 1)) (unS 3 (Cp (BD 4) (Cp (BD 5) (Cp (BD 6) FV))))
   (Aq (A5 7 (Ag (Ag (Ad 0) (Ad 3) ixD) (fC (.int 1)) ixD))
 (Aq (A5 8 (idxM (Ba (Dr 1 [] (Fb (Ad 7)) (BD 0) Ei (Ag (Ad 0) (fC (.int 0)) ixD))) (Ac (Ad 5) Aj)))
 (Aq (ownM 2 Ct (Ac (Ag (Ba (BI (Ac (Ad 8) Aj))) (Au (G2 KP) (Ac (Ag (Ag (Ad 7) (Ad 8) ixD) (fC (.int 1)) ixD) (Ac (Ad 6) Aj))) Bj) Aj))
 (A5 3 (Ag (Ag (Ad 7) (Ad 8) ixD) (fC (.int 2)) ixD))))))
 (AR (Ad 2)))))
def Dh (Ci Dx:Fn):M Out:=
 (Aq (DX 3 (Au Dx (Ac (Ag (Ad 0) (fC (.int 2)) ixD) (Ac (Ad 1) (Ac (Ad 2) Aj)))))
 (Aq (A5 4 (Ag (Ad 2) (fC (.int 1)) Bj))
 (Aq (A5 5 (KR (BI Aj)))
 (Aq (C8 (Cy (Ac (Ad 3) Aj)) (BD 6)
   (Aq (DX 7 (Au Ci (Ac (Ag (Ad 0) (fC (.int 1)) ixD) (Ac (Ad 1) (Ac (Ad 4) Aj)))))
 (Aq (D6 (objM Ct (Ad 5) (Ac (Ag (Ad 7) (fC (.int 0)) ixD) Aj)))
 (A5 4 (Ag (Ad 7) (fC (.int 1)) ixD)))))
 (AR (nxD (BL (Ac (Ad 5) (Ac (Ad 4) Aj)))))))))
def Ex (JG:Fn):M Out:=
 (Aq (A5 4 (KR (BI Aj)))
 (Aq (A5 5 (Ad 1))
 (Aq (A5 6 (fB (Ac (Ad 3) Aj) JK))
 (Aq (KA (AJ (Ag (Ag (Ag (Ad 0) (Ad 5) ixD) (fC (.int 0)) ixD) (Ad 2) (inS false)))
   (Aq (A5 7 (Ag (Ag (Ad 0) (Ad 5) ixD) (fC (.int 0)) ixD))
 (Aq (DX 8 (Au JG (Ac (Ag (Ad 0) (Ad 5) ixD) (Ac (Ag (Ad 2) (Ad 7) BH) (Ac (Ag (Ad 6) (Ad 7) BH) Aj)))))
 (Aq (ifS (AJ (Ag (Ad 8) (fC .non) isC))
   (ret .brk)
   AU)
 (Aq (D6 (objM Ct (Ad 4) (Ac (Ag (Ad 8) (fC (.int 0)) ixD) Aj)))
 (Aq (A5 5 (Ag (Ad 8) (fC (.int 1)) ixD))
 (Dq (Ag (Ad 8) (fC (.int 2)) ixD) (DK (Ad 6) (Ad 7)))))))))
 (AR (nxD (BL (Ac (Ad 4) (Ac (Ad 5) (Ac (Ad 6) Aj))))))))))
def DS:M Out:=
 (Aq (A5 4 (Fg [("left",(fC (.int 0))),("right",(fC (.int 0)))]))
 (Aq (A5 5 (fC (.int 0)))
 (Aq (KA (AJ (Ag (Ad 5) (fB (Ac (Ad 0) Aj) BQ) ltA))
   (Aq (A5 6 (Ag (Ag (Ad 0) (Ad 5) ixD) (fC (.int 0)) ixD))
 (Aq (ifS (AJ (Ag (Ag (Ag (Ad 4) (Ad 6) BH) (fB (Ac (Ag (Ad 2) (Ad 5) ixD) Aj) BQ) Bj) (Ag (Ad 3) (Ad 6) BH) gtA))
   (ret .brk)
   AU)
 (Aq (Dq (Ag (Ag (Ad 4) (Ad 6) BH) (fB (Ac (Ag (Ad 2) (Ad 5) ixD) Aj) BQ) Bj) (DK (Ad 4) (Ad 6)))
 (A5 5 (Ag (Ad 5) (fC (.int 1)) Bj))))))
 (AR (BL (Ac (fSl (Ad 0) fNo (D7 (Ad 5)) Eh) (Ac (Ag (Ad 1) (Ad 5) ixD) (Ac (BL (Ac (Ag (Ad 4) (fC (.str "left")) BH) (Ac (Ag (Ad 4) (fC (.str "right")) BH) Aj))) Aj))))))))
def D8 (Fa:Fn):M Out:=
 (Aq (ifS (AJ (fB (Ac (Ad 0) (Ac (BL (Ac (fC (.ty "list")) (Ac (fC (.ty "tuple")) Aj))) Aj)) IU))
   (AR (Ag (Ba (JP 1 [] (Ph (Ad 0)) (BD 0) (De (AJ (Au Fa (Ac (Ad 0) Aj)))) (Ad 0))) (Ba (BI Aj)) (eqO id)))
   AU)
 (AR (HU (fB (Ac (Ad 0) (Ac (fC (.ty "bool")) Aj)) Gf))))
def C9:M Out:=
 (Aq (C8 (Cy (Ac (fB (Ac (Ad 0) Aj) BQ) Aj)) (BD 2)
   (ifS (AJ (fB (Ac (Ag (Ag (Ad 0) (Ad 2) ixD) (fC (.int 2)) ixD) (Ac (fC (.ty "list")) Aj)) Gf))
   (Aq (D6 (objM Ct (Ag (Ag (Ad 0) (Ad 2) ixD) (fC (.int 2)) ixD) (Ac (fC .non) Aj)))
 (Aq (A5 3 (Ag (fSl (Ad 0) fNo (D7 (Ad 2)) Lm) (fSl (Ad 0) (D7 (Ag (Ad 2) (fC (.int 1)) Bj)) fNo Lm) Bj))
 (Aq (ifS (AJ (Ag (Ad 3) (Ag (fSl (Ad 1) fNo (D7 (Ad 2)) Eh) (fSl (Ad 1) (D7 (Ag (Ad 2) (fC (.int 1)) Bj)) fNo Eh) Bj) (eqO λb=>!b)))
   (AR (fC (.bl false)))
   AU)
 (D6 (Sj (Ag (Ag (Ad 0) (Ad 2) ixD) (fC (.int 2)) ixD))))))
   AU))
 (AR (Ag (Ad 0) (Ad 1) (eqO id))))
def F8 (GL Fa ID AC N6 Dd LQ MI JE:Fn):M Out:=
 (Aq (A5 1 (Au JE (Ac (Ad 0) Aj)))
 (Aq (Dq (Au MI (Ac (Ad 0) (Ac (Ad 1) (Ac (fC (.int 14)) (Ac (fC (.int 60)) Aj))))) (unS 2 (Cp (BD 2) (Cp (BD 3) FV))))
 (Aq (A5 4 (Au LQ (Ac (Ad 1) (Ac (Ad 2) Aj))))
 (Aq (A5 5 (Fg [("left",(Ba (BI Aj))),("right",(Ba (BI Aj)))]))
 (Aq (C8 (Cy (Ac (fB (Ac (Ad 2) Aj) BQ) Aj)) (BD 6)
   (Dq (Ag (Ag (Ad 5) (Ag (Ag (Ad 2) (Ad 6) ixD) (fC (.int 0)) ixD) BH) (Ag (Ad 4) (Ad 6) ixD) Bj) (DK (Ad 5) (Ag (Ag (Ad 2) (Ad 6) ixD) (fC (.int 0)) ixD))))
 (Aq (A5 7 (Au Dd (Ac (Ad 0) (Ac (fC (.int 61)) Aj))))
 (Aq (C8 (Cy (Ac (fC (.int 8)) Aj)) (BD 8)
   (Aq (A5 9 (Gq []))
 (Aq (C8 (Fb (Ba (BI (Ac (fC (.str "left")) (Ac (fC (.str "right")) Aj))))) (BD 10)
   (Aq (A5 11 (fB (Ac (Ag (Ad 5) (Ad 10) BH) Aj) BQ))
 (Aq (EA 12 (BI (Ac (Ad 11) (Ac (Au AC (Ac (Ad 7) (Ac (Ag (Ad 11) (fC (.int 1)) Bj) Aj))) Aj))))
 (Aq (ownM 12 Ct (Ac (fB (Ac (fC (.int 0)) (Ac (Ag (Ad 11) (Au AC (Ac (Ad 7) (Ac (fC (.int 5)) Aj))) CU) Aj)) K0) Aj))
 (Dq (Ag (Ad 12) (Au AC (Ac (Ad 7) (Ac (fC (.int 3)) Aj))) ixD) (DK (Ad 9) (Ad 10)))))))
 (Aq (A5 13 (Au N6 (Ac (Ad 2) (Ac (Ad 3) (Ac (Ad 4) (Ac (Ad 9) Aj))))))
 (Aq (A5 14 (Fg [("left",(fSl (Ag (Ad 5) (fC (.str "left")) BH) fNo (D7 (Ag (Ad 9) (fC (.str "left")) BH)) Eh))]))
 (Aq (Dq (fSl (Ag (Ad 5) (fC (.str "right")) BH) fNo (D7 (Ag (Ad 9) (fC (.str "right")) BH)) Eh) (DK (Ad 14) (fC (.str "right"))))
 (Aq (C8 (Fb (Ba (BI (Ac (fC (.str "left")) (Ac (fC (.str "right")) Aj))))) (BD 10)
   (Aq (A5 15 (Ag (Ag (Ad 13) (fC (.int 2)) ixD) (idxM (Ba (BI (Ac (fC (.str "left")) (Ac (fC (.str "right")) Aj)))) (Ac (Ad 10) Aj)) ixD))
 (ifS (IQ (AJ (Ag (Ag (Ag (Ad 1) (Ag (Ad 13) (fC (.int 1)) ixD) ixD) (fC (.int 0)) ixD) (Ad 10) (eqS λb=>!b))) (AJ (Ag (Ag (Ad 9) (Ad 10) BH) (Ad 15) (eqS id))))
   (Aq (A5 16 (Ba (Dr 1 [7] (Cy (Ac (Au AC (Ac (Ad 7) (Ac (fC (.int 4)) Aj))) Aj)) (BD 0) Ei (Au AC (Ac (Ad 1) (Ac (fC (.int 256)) Aj))))))
 (Dq (Ag (Ag (Ad 14) (Ad 10) BH) (Ad 16) Bj) (DK (Ad 14) (Ad 10))))
   AU)))
 (Aq (A5 17 (Ba (BI (Ac (Ba (fBF (Ac (Ag (Ad 14) (fC (.str "left")) BH) Aj) IW)) (Ac (Ba (fBF (Ac (Ag (Ad 14) (fC (.str "right")) BH) Aj) IW)) Aj)))))
 (Aq (A5 18 (Au (G2 GL) (Ac (Ad 1) (Ac (Ag (Ad 17) (fC (.int 0)) ixD) (Ac (Ag (Ad 17) (fC (.int 1)) ixD) Aj)))))
 (Aq (ifS (fOr (De (AJ (fB (Ac (Ad 18) (Ac (fC (.ty "tuple")) Aj)) DP))) (AJ (Ag (Ad 18) (Ad 13) (eqO λb=>!b))))
   (AR (fC (.bl false)))
   AU)
 (Aq (ifS (AJ (Ag (Ad 17) (Ba (BI (Ac (Ag (Ad 14) (fC (.str "left")) BH) (Ac (Ag (Ad 14) (fC (.str "right")) BH) Aj)))) (eqS λb=>!b)))
   (AR (fC (.bl false)))
   AU)
 (Aq (ifS (fOr (De (AJ (Au Fa (Ac (Ad 18) Aj)))) (De (AJ (Au ID (Ac (Ag (Ad 18) (fC (.int 0)) ixD) (Ac (Ag (Ad 13) (fC (.int 0)) ixD) Aj))))))
   (AR (fC (.bl false)))
   AU)
 (Aq (Mo (Ph (Ag (Ad 18) (fC (.int 0)) ixD)) (BD 19)
   (ifS (AJ (fB (Ac (Ag (Ad 19) (fC (.int 2)) ixD) (Ac (fC (.ty "list")) Aj)) Gf))
   (D6 (objM Ct (Ag (Ad 19) (fC (.int 2)) ixD) (Ac (fC .non) Aj)))
   AU))
 (Aq (D6 (objM Ct (Ag (Ad 18) (fC (.int 0)) ixD) (Ac (BL (Ac (fC (.str "left")) (Ac (fC (.str "a")) (Ac (fC .non) Aj)))) Aj)))
 (ifS (AJ (Ag (Au (G2 GL) (Ac (Ad 1) (Ac (Ag (Ad 17) (fC (.int 0)) ixD) (Ac (Ag (Ad 17) (fC (.int 1)) ixD) Aj)))) (Ad 13) (eqO λb=>!b)))
   (AR (fC (.bl false)))
   AU)))))))))))))))
 (AR (Ag (Au (G2 GL) (Ac (Ad 1) (Ac (Ba (BI Aj)) (Ac (Ba (BI Aj)) Aj)))) (BL (Ac (Ba (BI Aj)) (Ac (fC (.int 0)) (Ac (BL (Ac (fC (.int 0)) (Ac (fC (.int 0)) Aj))) Aj)))) (eqO id))))))))))
end LW
namespace F2
open PySem L2
def W {α:Type}(m:M α)(t:T)(P:α->T->Prop):Prop:=∃a t',m t=some (a,t')/\P a t'
def Wf (g:Fn)(ds:List D)(S:List Ob)(P:D->List Ob->Prop):Prop:=∃r S',g ds S=some (r,S')/\P r S'
theorem W.mono {α:Type}{m:M α}{t:T}{P Q:α->T->Prop}(h:W m t P)(i:∀a t',P a t'->Q a t'):W m t Q:=by
 obtain ⟨a,t',e,p⟩:=h;exact ⟨a,t',e,i a t' p⟩
theorem Wf.mono {g:Fn}{ds:List D}{S:List Ob}{P Q:D->List Ob->Prop}(h:Wf g ds S P)(i:∀r S',P r S'->Q r S'):Wf g ds S Q:=by
 obtain ⟨a,t',e,p⟩:=h;exact ⟨a,t',e,i a t' p⟩
section
variable {α β:Type}
theorem AT {m:M α}{t:T}{P:α->T->Prop}{a:α}{t':T}(e:m t=some (a,t')):W m t P↔P a t':=by
 constructor
 ·rintro ⟨a',t1,e',p⟩;rw [e] at e';cases e';exact p
 ·exact λp=>⟨a,t',e,p⟩
theorem Et {m:M α}{t:T}{P:α->T->Prop}(e:m t=none):W m t P↔False:=by
 constructor
 ·rintro ⟨a',t1,e',p⟩;rw [e] at e';cases e'
 ·exact False.elim
@[simp] theorem W_ret {a:α} {t:T} {P:α->T->Prop}:W (ret a) t P↔P a t:=AT rfl
@[simp] theorem W_fail {t:T} {P:α->T->Prop}:W (fail:M α) t P↔False:=Et rfl
@[simp] theorem W_bnd {f:M α} {g:α->M β} {t:T} {P:β->T->Prop}:W (bnd f g) t P↔W f t λa t1=>W (g a) t1 P:=by
 constructor
 ·rintro ⟨b,t',e,p⟩;obtain ⟨a,t1,e1,e2⟩:=Ao e;exact ⟨a,t1,e1,b,t',e2,p⟩
 ·rintro ⟨a,t1,e1,b,t',e2,p⟩;exact ⟨b,t',by unfold bnd;rw [e1];exact e2,p⟩
@[simp] theorem Tm {c:Prop} [Decidable c] {f g:M α} {t:T} {P:α->T->Prop}:W (if c then f else g) t P↔if c then W f t P else W g t P:=by split <;> rfl
@[simp] theorem aj {n:Nat} {a:α} {t:T} {P:α->T->Prop}:W (lim n a) t P↔n<=LIM/\P a t:=by
 unfold lim;constructor
 ·rintro ⟨a',t',e,p⟩
  split at e
  ·cases e;exact ⟨by assumption,p⟩
  ·cases e
 ·rintro ⟨h,p⟩;exact ⟨a,t,by simp only [h,if_true],p⟩
end
variable {t:T}{env:List (Option Sl)}{S:List Ob}
@[simp] theorem W_fC {d:D} {P:D->T->Prop}:W (fC d) t P↔P d t:=AT rfl
@[simp] theorem P7 {i:Nat} {P:D->T->Prop}:W (Ad i) t P↔match t.env[i]? with
 | some (some (.val d))=>P d t
 | some (some (.own ds))=>P (.lst ds) ⟨t.env.set i (some (.val (.lst ds))),t.S⟩
 | _=>False:=by
 cases e:t.env[i]? with
 | none=>exact Et (by unfold Ad;simp [e])
 | some o=>
   cases o with
   | none=>exact Et (by unfold Ad;simp [e])
   | some sl=>
     cases sl with
     | val d=>exact AT (by unfold Ad;simp [e])
     | own ds=>exact AT (by unfold Ad;simp [e])
@[simp] theorem W_fBin {f g:M D} {h:D->D->M D} {P:D->T->Prop}:W (Ag f g h) t P↔W f t λx t1=>W g t1 λy t2=>W (h x y) t2 P:=by simp [Ag]
@[simp] theorem W_fUn {f:M D} {h:D->M D} {P:D->T->Prop}:W (fUn f h) t P↔W f t λx t1=>W (h x) t1 P:=by simp [fUn]
@[simp] theorem W_toB {b:Bool} {P:Bool->T->Prop}:W (toB (.bl b)) t P↔P b t:=AT rfl
@[simp] theorem W_fTst {f:M D} {P:Bool->T->Prop}:W (AJ f) t P↔W f t λx t1=>W (toB x) t1 P:=by simp [AJ]
@[simp] theorem W_fChain {f g w:M D} {h h':D->D->M D} {P:D->T->Prop}:W (FI f g w h h') t P↔W f t λx t1=>W g t1 λy t2=>W (h x y) t2 λk t3=>W (toB k) t3 λk t4=>if k=true then W w t4 λz t5=>W (h' y z) t5 P else P (.bl false) t4:=by
 simp [FI]
@[simp] theorem W_fAnd {f g:M Bool} {P:Bool->T->Prop}:W (IQ f g) t P↔W f t λk t1=>if k=true then W g t1 P else P false t1:=by simp [IQ]
@[simp] theorem W_fOr {f g:M Bool} {P:Bool->T->Prop}:W (fOr f g) t P↔W f t λk t1=>if k=true then P true t1 else W g t1 P:=by simp [fOr]
@[simp] theorem W_fNot {f:M Bool} {P:Bool->T->Prop}:W (De f) t P↔W f t λk t1=>P (!k) t1:=by simp [De]
@[simp] theorem W_fAndV {f g:M D} {P:D->T->Prop}:W (F5 f g) t P↔W f t λx t1=>W (toB x) t1 λk t2=>if k=true then W g t2 P else P (.bl false) t2:=by simp [F5]
@[simp] theorem ac {f g:M D} {P:D->T->Prop}:W (V2 f g) t P↔W f t λx t1=>W (toB x) t1 λk t2=>if k=true then P (.bl true) t2 else W g t2 P:=by simp [V2]
@[simp] theorem W_fNotV {f:M D} {P:D->T->Prop}:W (HU f) t P↔W f t λx t1=>W (toB x) t1 λk t2=>P (.bl (!k)) t2:=by simp [HU]
@[simp] theorem ai {f:M Bool} {g h:M D} {P:D->T->Prop}:W (fIf f g h) t P↔W f t λk t1=>if k=true then W g t1 P else W h t1 P:=by simp [fIf]
@[simp] theorem W_fNil {P:List D->T->Prop}:W Aj t P↔P [] t:=AT rfl
@[simp] theorem W_fCons {f:M D} {g:M (List D)} {P:List D->T->Prop}:W (Ac f g) t P↔W f t λd t1=>W g t1 λds t2=>P (d :: ds) t2:=by simp [Ac]
@[simp] theorem W_fTup {f:M (List D)} {P:D->T->Prop}:W (BL f) t P↔W f t λds t1=>ds.length<=LIM/\P (.tup ds) t1:=by simp [BL]
@[simp] theorem W_fLst {f:M (List D)} {P:List D->T->Prop}:W (BI f) t P↔W f t λds t1=>ds.length<=LIM/\P ds t1:=by simp [BI]
@[simp] theorem W_fPure {f:M (List D)} {P:D->T->Prop}:W (Ba f) t P↔W f t λds t1=>P (.lst ds) t1:=by simp [Ba]
@[simp] theorem W_newOb {o:Ob} {P:D->T->Prop}:W (Pw o) t P↔P (.obj t.S.length) ⟨t.env,t.S++[o]⟩:=AT rfl
@[simp] theorem VQ {f:M (List D)} {P:D->T->Prop}:W (KR f) t P↔W f t λds t1=>W (Pw (.lst ds)) t1 P:=by simp [KR]
@[simp] theorem W_fCall {g:Fn} {f:M (List D)} {P:D->T->Prop}:W (Au g f) t P↔W f t λds t1=>Wf g ds t1.S λr S'=>P r ⟨t1.env,S'⟩:=by
 unfold Au;rw [W_bnd];constructor
 ·rintro ⟨ds,t1,e1,r,t',e2,p⟩;refine ⟨ds,t1,e1,?_⟩;dsimp only at e2
  cases e:g ds t1.S with
  | none=>rw [e] at e2;cases e2
  | some z=>obtain ⟨r',S'⟩:=z;rw [e] at e2;cases e2;exact ⟨r,_,e,p⟩
 ·rintro ⟨ds,t1,e1,r,S',e2,p⟩;exact ⟨ds,t1,e1,r,_,by simp only [e2],p⟩
@[simp] theorem W_fB {f:M (List D)} {h:List D->M D} {P:D->T->Prop}:W (fB f h) t P↔W f t λds t1=>W (h ds) t1 P:=by simp [fB]
@[simp] theorem W_fBF {f:M (List D)} {h:List D->M (List D)} {P:List D->T->Prop}:W (fBF f h) t P↔W f t λds t1=>W (h ds) t1 P:=by simp [fBF]
@[simp] theorem W_seqS {f g:M Out} {P:Out->T->Prop}:W (Aq f g) t P↔W f t λo t1=>match o with
 | .next=>W g t1 P
 | .brk=>P .brk t1
 | .cont=>P .cont t1
 | .ret d=>P (.ret d) t1:=by
 unfold Aq;constructor
 ·rintro ⟨o,t',e,p⟩;dsimp only at e
  cases e1:f t with
  | none=>rw [e1] at e;cases e
  | some z=>
    obtain ⟨o1,t1⟩:=z;rw [e1] at e;refine ⟨o1,t1,e1,?_⟩
    cases o1 with
    | next=>exact ⟨o,t',e,p⟩
    | brk=>cases e;exact p
    | cont=>cases e;exact p
    | ret d=>cases e;exact p
 ·rintro ⟨o,t1,e,p⟩
  cases o with
  | next=>obtain ⟨o,t',e',p⟩:=p;exact ⟨o,t',by simp only [e];exact e',p⟩
  | brk=>exact ⟨_,_,by simp only [e],p⟩
  | cont=>exact ⟨_,_,by simp only [e],p⟩
  | ret d=>exact ⟨_,_,by simp only [e],p⟩
@[simp] theorem W_skipS {P:Out->T->Prop}:W AU t P↔P .next t:=AT rfl
@[simp] theorem W_retS {f:M D} {P:Out->T->Prop}:W (AR f) t P↔W f t λd t1=>P (.ret d) t1:=by simp [AR]
@[simp] theorem W_dropS {f:M D} {P:Out->T->Prop}:W (D6 f) t P↔W f t λd t1=>P .next t1:=by simp [D6]
@[simp] theorem W_ifS {f:M Bool} {g h:M Out} {P:Out->T->Prop}:W (ifS f g h) t P↔W f t λk t1=>if k=true then W g t1 P else W h t1 P:=by simp [ifS]
@[simp] theorem W_putV {i:Nat} {d:D} {P:Unit->T->Prop}:W (BD i d) t P↔P () ⟨t.env.set i (some (.val d)),t.S⟩:=AT rfl
@[simp] theorem W_setS {i:Nat} {f:M D} {P:Out->T->Prop}:W (A5 i f) t P↔W f t λd t1=>P .next ⟨t1.env.set i (some (.val d)),t1.S⟩:=by
 simp only [A5,W_bnd,W_ret,W_putV]
@[simp] theorem W_ownS {i:Nat} {f:M (List D)} {P:Out->T->Prop}:W (EA i f) t P↔W f t λds t1=>P .next ⟨t1.env.set i (some (.own ds)),t1.S⟩:=by
 unfold EA;rw [W_bnd];have:∀(ds:List D) (t1:T),W (λt:T=>some (Out.next,({ t with env:=t.env.set i (some (.own ds)) }:T))) t1 P↔P .next ⟨t1.env.set i (some (.own ds)),t1.S⟩:=λds t1=>AT rfl;simp only [this]
@[simp] theorem W_asgS {f:M D} {g:D->M Unit} {P:Out->T->Prop}:W (Dq f g) t P↔W f t λd t1=>W (g d) t1 λ_ t2=>P .next t2:=by simp [Dq]
@[simp] theorem W_putNil {P:Unit->T->Prop}:W (FV []) t P↔P () t:=AT rfl
@[simp] theorem W_putCons {f:D->M Unit} {g:List D->M Unit} {d:D} {ds:List D} {P:Unit->T->Prop}:W (Cp f g (d :: ds)) t P↔W (f d) t λ_ t1=>W (g ds) t1 P:=by simp [Cp]
@[simp] theorem W_unS_lst {n:Nat} {g:List D->M Unit} {ds:List D} {P:Unit->T->Prop}:W (unS n g (.lst ds)) t P↔ds.length=n/\W (g ds) t P:=by
 unfold unS;simp only [Tm,W_fail];split <;> simp [*]
@[simp] theorem W_unS_tup {n:Nat} {g:List D->M Unit} {ds:List D} {P:Unit->T->Prop}:W (unS n g (.tup ds)) t P↔ds.length=n/\W (g ds) t P:=by
 unfold unS;simp only [Tm,W_fail];split <;> simp [*]
@[simp] theorem W_forS {f:M (List D)} {st:D->M Unit} {b:M Out} {P:Out->T->Prop}:W (C8 f st b) t P↔W f t λds t1=>W (DE st b ds) t1 P:=by simp [C8]
@[simp] theorem W_forL_nil {st:D->M Unit} {b:M Out} {P:Out->T->Prop}:W (DE st b []) t P↔P .next t:=AT rfl
theorem D0 {st:D->M Unit}{b:M Out}{d:D}{r:List D}{P:Out->T->Prop}:W (DE st b (d :: r)) t P↔W (st d) t λ_ t1=>W b t1 λo t2=>match o with
 | .next=>W (DE st b r) t2 P
 | .cont=>W (DE st b r) t2 P
 | .brk=>P .next t2
 | .ret x=>P (.ret x) t2:=by
 constructor
 ·rintro ⟨o,t',e,p⟩;unfold DE at e
  cases e1:st d t with
  | none=>rw [e1] at e;cases e
  | some z=>
    obtain ⟨u,t1⟩:=z;rw [e1] at e
    try dsimp only at e
    refine ⟨u,t1,e1,?_⟩
    cases e2:b t1 with
    | none=>rw [e2] at e;cases e
    | some z=>
      obtain ⟨o2,t2⟩:=z;rw [e2] at e
      try dsimp only at e
      refine ⟨o2,t2,e2,?_⟩
      cases o2 with
      | next=>exact ⟨o,t',e,p⟩
      | cont=>exact ⟨o,t',e,p⟩
      | brk=>cases e;exact p
      | ret x=>cases e;exact p
 ·rintro ⟨u,t1,e1,o,t2,e2,p⟩
  cases o with
  | next=>obtain ⟨o,t',e',p⟩:=p;exact ⟨o,t',by unfold DE;simp only [e1,e2];exact e',p⟩
  | cont=>obtain ⟨o,t',e',p⟩:=p;exact ⟨o,t',by unfold DE;simp only [e1,e2];exact e',p⟩
  | brk=>exact ⟨_,_,by unfold DE;simp only [e1,e2],p⟩
  | ret x=>exact ⟨_,_,by unfold DE;simp only [e1,e2],p⟩
theorem Dp {st:D->M Unit}{b:M Out}{P:Out->T->Prop}(I:List D->T->Prop):∀(ds:List D) (t:T),I ds t->
 (∀d r t,I (d :: r) t->d∈ds->W (st d) t λ_ t1=>W b t1 λo t2=>match o with
   | .next=>I r t2
   | .cont=>I r t2
   | .brk=>P .next t2
   | .ret x=>P (.ret x) t2)->(∀t,I [] t->P .next t)->W (DE st b ds) t P
 | [],t,h,_,fin=>W_forL_nil.mpr (fin t h)
 | d :: r,t,h,turn,fin=>by
   rw [D0];refine (turn d r t h uf3).mono λ_ t1 h1=>h1.mono λo t2 h2=>?_
   cases o with
   | next=>exact Dp I r t2 h2 (λd' r' t' h' m=>turn d' r' t' h' (ud9 _ m)) fin
   | cont=>exact Dp I r t2 h2 (λd' r' t' h' m=>turn d' r' t' h' (ud9 _ m)) fin
   | brk=>exact h2
   | ret x=>exact h2
@[simp] theorem W_fComp {n:Nat} {fr:List Nat} {f:M (List D)} {st:D->M Unit} {tst:M Bool} {elt:M D} {P:List D->T->Prop}:W (Dr n fr f st tst elt) t P↔W f t λds t1=>W (CY st tst elt ds) ⟨cenv n fr t1.env,t1.S⟩ λxs t'=>xs.length<=LIM/\P xs ⟨t1.env,t'.S⟩:=by
 unfold Dr;rw [W_bnd];constructor
 ·rintro ⟨ds,t1,e1,xs,t',e2,p⟩;refine ⟨ds,t1,e1,?_⟩;dsimp only at e2
  cases e:CY st tst elt ds ⟨cenv n fr t1.env,t1.S⟩ with
  | none=>rw [e] at e2;cases e2
  | some z=>
    obtain ⟨ys,t3⟩:=z;rw [e] at e2;dsimp only at e2
    split at e2
    ·cases e2;exact ⟨_,_,e,by assumption,p⟩
    ·cases e2
 ·rintro ⟨ds,t1,e1,xs,t',e2,h,p⟩;exact ⟨ds,t1,e1,xs,_,by simp only [e2,h,if_true],p⟩
@[simp] theorem W_compL_nil {st:D->M Unit} {tst:M Bool} {elt:M D} {P:List D->T->Prop}:W (CY st tst elt []) t P↔P [] t:=AT rfl
theorem Hk {st:D->M Unit}{tst:M Bool}{elt:M D}{d:D}{r:List D}{P:List D->T->Prop}:W (CY st tst elt (d :: r)) t P↔W (st d) t λ_ t1=>W tst t1 λk t2=>
 if k=true then W elt t2 λx t3=>W (CY st tst elt r) t3 λxs t4=>P (x :: xs) t4 else W (CY st tst elt r) t2 P:=by
 rw [CY];simp
theorem FB {st:D->M Unit}{tst:M Bool}{elt:M D}{P:List D->T->Prop}(I:List D->List D->T->Prop):∀(ds:List D) (acc:List D) (t:T),I acc ds t->
 (∀acc d r t,I acc (d :: r) t->d∈ds->W (st d) t λ_ t1=>W tst t1 λk t2=>if k=true then W elt t2 λx t3=>I (acc++[x]) r t3 else I acc r t2)->
 (∀acc t,I acc [] t->P acc t)->W (CY st tst elt ds) t λxs t'=>P (acc++xs) t'
 | [],acc,t,h,_,fin=>W_compL_nil.mpr (by rw [uj2];exact fin acc t h)
 | d :: r,acc,t,h,turn,fin=>by
   rw [Hk];have turn':∀acc d' r' t',I acc (d' :: r') t'->d'∈r->_:=λacc d' r' t' h' m=>turn acc d' r' t' h' (ud9 _ m);refine (turn acc d r t h uf3).mono λ_ t1 h1=>h1.mono λk t2 h2=>?_
   cases k with
   | true=>
     rw [if_pos rfl] at h2 ⊢;refine h2.mono λx t3 h3=>(FB I r (acc++[x]) t3 h3 turn' fin).mono λxs t4 h4=>?_;rw [ug9] at h4;exact h4
   | false=>
     rw [if_neg uf4] at h2 ⊢;exact FB I r acc t2 h2 turn' fin
theorem A1 {n m:Nat}{g:M Out}{ds:List D}{P:D->List Ob->Prop}(h:ds.length=n)(w:W g ⟨env0 m ds,S⟩ λo t=>match o with
 | .ret r=>P r t.S
 | .next=>P .non t.S
 | _=>False):Wf (fnOf n m g) ds S P:=by
 obtain ⟨o,t,e,p⟩:=w
 cases o with
 | ret r=>exact ⟨r,t.S,by unfold fnOf;rw [if_pos h,e],p⟩
 | next=>exact ⟨.non,t.S,by unfold fnOf;rw [if_pos h,e],p⟩
 | brk=>exact p.elim
 | cont=>exact p.elim
@[simp] theorem W_tTru {P:Bool->T->Prop}:W Ei t P↔P true t:=AT rfl
@[simp] theorem aa {P:D->T->Prop}:W Y5 t P↔P .dic t:=AT rfl
end F2
namespace F2
open PySem L2
variable {t:T}{P:D->T->Prop}
theorem Mg {α β:Type}{o:Option β}{g:β->α×T}{Q:α->T->Prop}{m:M α}(e:m t=o.map g):W m t Q↔∃b,o=some b/\Q (g b).1 (g b).2:=by
 constructor
 ·rintro ⟨a,t',e',p⟩;rw [e] at e';obtain ⟨b,h1,h2⟩:=uc9.mp e';exact ⟨b,h1,by rw [h2];exact p⟩
 ·rintro ⟨b,h,p⟩;exact ⟨_,_,by rw [e,h];rfl,p⟩
theorem O9 {α:Type}{c:Prop}[Decidable c]{z:α×T}{Q:α->T->Prop}{m:M α}(e:m t=if c then some z else none):W m t Q↔c/\Q z.1 z.2:=by
 constructor
 ·rintro ⟨a,t',e',p⟩;rw [e] at e'
  split at e'
  ·cases e';exact ⟨by assumption,p⟩
  ·cases e'
 ·rintro ⟨h,p⟩;exact ⟨_,_,by rw [e,if_pos h],p⟩
theorem MD {α β:Type}{o:Option β}(f:β->α){Q:α->T->Prop}{m:M α}(e:m t=o.map λb=>(f b,t)):W m t Q↔∃b,o=some b/\Q (f b) t:=Mg (g:=λb=>(f b,t)) e
theorem HS {α:Type}{c:Prop}[Decidable c]{a:α}{Q:α->T->Prop}{m:M α}(e:m t=if c then some (a,t) else none):W m t Q↔c/\Q a t:=O9 (z:=(a,t)) e
@[simp] theorem W_ix_tup {ds:List D} {i:Int}:W (ixD (.tup ds) (.int i)) t P↔∃d,atI ds i=some d/\P d t:=MD id rfl
@[simp] theorem W_ix_lst {ds:List D} {i:Int}:W (ixD (.lst ds) (.int i)) t P↔∃d,atI ds i=some d/\P d t:=MD id rfl
@[simp] theorem W_ix_scr {ns:List Int} {i:Int}:W (ixD (.scr ns) (.int i)) t P↔∃n,atI ns i=some n/\P (.int n) t:=MD D.int rfl
@[simp] theorem W_ix_str {x:Str} {i:Int}:W (ixD (.str x) (.int i)) t P↔x.length<=LIM/\∃n,atI x.cps.toList i=some n/\P (.str ⟨#[n]⟩) t:=by
 by_cases h:x.length<=LIM
 ·have:ixD (.str x) (.int i) t=(atI x.cps.toList i).map λn=>(.str ⟨#[n]⟩,t):=by simp only [ixD,h,if_true]
  rw [Mg this];simp [h]
 ·rw [Et (by simp only [ixD,h,if_false])];simp [h]
@[simp] theorem W_ix_obj {k:Nat} {i:Int}:W (ixD (.obj k) (.int i)) t P↔∃ds,t.S[k]?=some (.lst ds)/\∃d,atI ds i=some d/\P d t:=by
 cases e:t.S[k]? with
 | none=>rw [Et (by simp only [ixD,e])];simp
 | some o=>
   cases o with
   | dct _=>rw [Et (by simp only [ixD,e])];simp
   | lst ds=>
     have:ixD (.obj k) (.int i) t=(atI ds i).map λd=>(d,t):=by simp only [ixD,e]
     rw [Mg this];simp
@[simp] theorem JA {α:Type} {a:α} {r:List α}:atI (a :: r) 0=some a:=by simp [atI,ixN]
@[simp] theorem Tn {α:Type} {a b:α} {r:List α}:atI (a :: b :: r) 1=some b:=by
 have:(1:Int) < ((a :: b :: r).length:Nat):=by simp;lia
 simp only [atI,ixN,this,if_true,show (0:Int)<=1 by decide];rfl
@[simp] theorem To {α:Type} {a b c:α} {r:List α}:atI (a :: b :: c :: r) 2=some c:=by
 have:(2:Int) < ((a :: b :: c :: r).length:Nat):=by simp;lia
 simp only [atI,ixN,this,if_true,show (0:Int)<=2 by decide];rfl
theorem T4 {α:Type}{xs:List α}{i:Int}(h0:0<=i)(h1:i < xs.length):∃d,atI xs i=some d/\d∈xs/\xs[i.toNat]?=some d:=by
 have hl:i.toNat < xs.length:=by lia
 refine ⟨xs[i.toNat],?_,ui5 hl,ub7 hl⟩;simp [atI,ixN,h0,h1,hl]
@[simp] theorem W_len_lst {ds:List D}:W (BQ [.lst ds]) t P↔P (.int ds.length) t:=AT rfl
@[simp] theorem W_len_tup {ds:List D}:W (BQ [.tup ds]) t P↔P (.int ds.length) t:=AT rfl
@[simp] theorem W_len_scr {ds:List Int}:W (BQ [.scr ds]) t P↔P (.int ds.length) t:=AT rfl
@[simp] theorem W_len_str {x:Str}:W (BQ [.str x]) t P↔x.length<=LIM/\P (.int x.length) t:=by simp [BQ]
@[simp] theorem W_len_obj {k:Nat}:W (BQ [.obj k]) t P↔∃ds,t.S[k]?=some (.lst ds)/\P (.int ds.length) t:=by
 cases e:t.S[k]? with
 | none=>rw [Et (by simp only [BQ,e])];simp
 | some o=>
   cases o with
   | dct _=>rw [Et (by simp only [BQ,e])];simp
   | lst ds=>rw [AT (a:=.int ds.length) (t':=t) (by simp only [BQ,e])];simp
@[simp] theorem W_isi {d:D} {m:String}:W (DP [d,.ty m]) t P↔∃n,tyD d=some n/\∃b,DF n m=some b/\P (.bl b) t:=by
 cases e:tyD d with
 | none=>rw [Et (by simp only [DP,e])];simp
 | some n=>
   have:DP [d,.ty m] t=(DF n m).map λb=>(.bl b,t):=by simp only [DP,e]
   rw [Mg this];simp
noncomputable def HZ:D->Bool
 | .non=>true
 | _=>false
noncomputable def Zd (b:Bool):D->Bool
 | .bl c=>c == b
 | _=>false
@[simp] theorem W_is_non {x:D}:W (isC x .non) t P↔P (.bl (HZ x)) t:=AT (by cases x <;> rfl)
@[simp] theorem Z8 {x:D} {b:Bool}:W (isC x (.bl b)) t P↔P (.bl (Zd b x)) t:=AT (by cases x <;> rfl)
@[simp] theorem Z7 {x y:D}:W (QF x y) t P↔W (isC x y) t λd t1=>W (toB d) t1 λb t2=>P (.bl (!b)) t2:=by
 unfold QF;rw [W_bnd];constructor
 ·exact λh=>h.mono λd t1 h1=>by
   cases d with
   | bl b=>simpa using h1
   | _=>exact (W_fail.mp h1).elim
 ·exact λh=>h.mono λd t1 h1=>by
   cases d with
   | bl b=>simpa using h1
   | _=>obtain ⟨_,_,e,_⟩:=h1;cases e
@[simp] theorem W_add_int {i j:Int}:W (Bj (.int i) (.int j)) t P↔P (.int (i + j)) t:=AT rfl
@[simp] theorem W_sub_int {i j:Int}:W (CU (.int i) (.int j)) t P↔P (.int (i - j)) t:=AT rfl
@[simp] theorem W_lt_int {i j:Int}:W (ltA (.int i) (.int j)) t P↔P (.bl (decide (i < j))) t:=AT rfl
@[simp] theorem W_le_int {i j:Int}:W (leA (.int i) (.int j)) t P↔P (.bl (decide (i<=j))) t:=AT rfl
@[simp] theorem W_gt_int {i j:Int}:W (gtA (.int i) (.int j)) t P↔P (.bl (decide (j < i))) t:=AT rfl
@[simp] theorem W_ge_int {i j:Int}:W (geA (.int i) (.int j)) t P↔P (.bl (decide (j<=i))) t:=AT rfl
@[simp] theorem YT {i j:Str}:W (ltA (.str i) (.str j)) t P↔P (.bl (decide (i.cps.toList < j.cps.toList))) t:=AT rfl
@[simp] theorem YQ {i j:Str}:W (gtA (.str i) (.str j)) t P↔P (.bl (decide (j.cps.toList < i.cps.toList))) t:=AT rfl
@[simp] theorem ak {i:Int}:W (Zf (.int i)) t P↔P (.int (-i)) t:=AT rfl
@[simp] theorem W_fdiv {i j:Int}:W (GP (.int i) (.int j)) t P↔(0 < j/\j < 1073741824)/\P (.int (i / j)) t:=by
 rw [O9 (m:=GP (.int i) (.int j)) (c:=Ml i j=true) (z:=(.int (i / j),t)) rfl];simp [Ml]
@[simp] theorem W_mod {i j:Int}:W (FQ (.int i) (.int j)) t P↔0 < j/\P (.int (i % j)) t:=by
 rw [O9 (m:=FQ (.int i) (.int j)) (c:=decide (0 < j)=true) (z:=(.int (i % j),t)) rfl];simp
@[simp] theorem W_pow {i j:Int}:W (Jf (.int i) (.int j)) t P↔Mq i j=true/\P (.int (i ^ j.toNat)) t:=HS rfl
@[simp] theorem W_mul_int {i j:Int}:W (EJ (.int i) (.int j)) t P↔Fk i j=true/\P (.int (i * j)) t:=HS rfl
@[simp] theorem W_mul_str {x:Str} {k:Int}:W (EJ (.str x) (.int k)) t P↔(CD k=true/\x.length * k.toNat<=LIM/\k<=LIM/\x.length<=LIM)/\P (.str (Txt.mul x k)) t:=HS rfl
theorem Gx {i j:Int}(h1 : -18446744073709551616 < i)(h2:i < 18446744073709551616):Fk i j=true:=by simp [Fk,h1,h2]
theorem UA {i j:Int}(h1 : -18446744073709551616 < j)(h2:j < 18446744073709551616):Fk i j=true:=by simp [Fk,h1,h2]
theorem CT {k:Int}(h1 : -4611686018427387904<=k)(h2:k < 4611686018427387904):CD k=true:=by simp [CD,h1,h2]
@[simp] theorem W_add_str {x y:Str}:W (Bj (.str x) (.str y)) t P↔x.length + y.length<=LIM/\P (.str (x++y)) t:=by
 have:Bj (.str x) (.str y)=lim (x.length + y.length) (.str (x++y)):=rfl;rw [this];simp
@[simp] theorem W_add_lst {x y:List D}:W (Bj (.lst x) (.lst y)) t P↔x.length + y.length<=LIM/\P (.lst (x++y)) t:=by
 have:Bj (.lst x) (.lst y)=lim (x.length + y.length) (.lst (x++y)):=rfl;rw [this];simp
@[simp] theorem YK {d:D} {x y:List D}:W (Bj (.tup (d :: x)) (.tup y)) t P↔x.length + 1 + y.length<=LIM/\P (.tup (d :: x++y)) t:=by
 have:Bj (.tup (d :: x)) (.tup y) t=if (d :: x).isEmpty=false/\(d :: x).length + y.length<=LIM then some (.tup (d :: x++y),t) else none:=rfl;rw [O9 this];simp
@[simp] theorem XB {y:List D}:W (Bj (.tup []) (.tup y)) t P↔P (.tup y) t:=AT rfl
@[simp] theorem W_cat {x y:List D} {Q:List D->T->Prop}:W (IM (.lst x) (.lst y)) t Q↔x.length + y.length<=LIM/\Q (x++y) t:=by
 have:IM (.lst x) (.lst y)=lim (x.length + y.length) (x++y):=rfl;rw [this];simp
@[simp] theorem ah {i:Int}:W (YX [.int i]) t P↔P (.int (if i < 0 then -i else i)) t:=AT rfl
@[simp] theorem W_min {i j:Int}:W (G1 [.int i,.int j]) t P↔P (.int (if j < i then j else i)) t:=AT rfl
@[simp] theorem W_max {i j:Int}:W (K0 [.int i,.int j]) t P↔P (.int (if j > i then j else i)) t:=AT rfl
@[simp] theorem YL {i:Int}:W (Nc [.int i]) t P↔P (.int i) t:=AT rfl
@[simp] theorem W_int_bl {b:Bool}:W (Nc [.bl b]) t P↔P (.int (if b then 1 else 0)) t:=AT rfl
@[simp] theorem W_ord {x:Str}:W (La [.str x]) t P↔x.length=1/\P (.int (x.cps.getD 0 0:Nat)) t:=HS rfl
@[simp] theorem W_tup_lst {ds:List D}:W (N0 [.lst ds]) t P↔P (.tup ds) t:=AT rfl
@[simp] theorem W_lst_lst {ds:List D} {Q:List D->T->Prop}:W (IW [.lst ds]) t Q↔Q ds t:=AT rfl
@[simp] theorem YM {ds:List D} {Q:List D->T->Prop}:W (IW [.tup ds]) t Q↔Q ds t:=AT rfl
@[simp] theorem W_eq_str {g:Bool->Bool} {x y:Str}:W (eqS g (.str x) (.str y)) t P↔P (.bl (g (x == y))) t:=AT rfl
@[simp] theorem W_eq_int {g:Bool->Bool} {x y:Int}:W (eqS g (.int x) (.int y)) t P↔P (.bl (g (x == y))) t:=AT rfl
@[simp] theorem Z6 {g:Bool->Bool} {x y:Bool}:W (eqS g (.bl x) (.bl y)) t P↔P (.bl (g (x == y))) t:=AT rfl
@[simp] theorem YO {g:Bool->Bool} {x:List D}:W (eqS g (.lst x) (.lst [])) t P↔P (.bl (g x.isEmpty)) t:=by
 refine AT ?_
 cases x <;> rfl
theorem Ez {a b:String}:Str.ofString a=Str.ofString b↔a=b:=by
 constructor
 ·intro h;rw [Str.ofString_eq_toList,Str.ofString_eq_toList] at h;injection h with h
  have h:=congrArg Array.toList h;simp only at h;have hinj:∀xs ys:List Char,xs.map Char.toNat=ys.map Char.toNat->xs=ys:=by
   intro xs
   induction xs with
   | nil=>intro ys h;cases ys with | nil=>rfl | cons _ _=>simp at h
   | cons x xs ih=>
     intro ys h
     cases ys with
     | nil=>simp at h
     | cons y ys=>
       simp only [ul7,List.cons.injEq] at h;rw [ih ys h.2,Char.toNat_inj.mp h.1]
  exact String.toList_inj.mp (hinj _ _ (by simpa using h))
 ·exact λh=>by rw [h]
@[simp] theorem W_sl_lst {ds:List D} {lo hi:Option Int}:W (Eh (.lst ds) lo hi) t P↔P (.lst (Cu ds lo hi)) t:=AT rfl
@[simp] theorem YU {ds:List Int} {lo hi:Option Int}:W (Eh (.scr ds) lo hi) t P↔P (.lst ((Cu ds lo hi).map .int)) t:=AT rfl
@[simp] theorem YV {x:Str} {lo hi:Option Int}:W (Eh (.str x) lo hi) t P↔x.length<=LIM/\P (.str (Txt.slice x lo hi)) t:=by
 have:Eh (.str x) lo hi=lim x.length (.str (Txt.slice x lo hi)):=rfl;rw [this];simp
@[simp] theorem YW {ds:List D} {lo hi:Option Int}:W (Eh (.tup ds) lo hi) t P↔P (.tup (Cu ds lo hi)) t:=AT rfl
@[simp] theorem W_fSl {f:M D} {l u:M (Option Int)} {h:D->Option Int->Option Int->M D}:W (fSl f l u h) t P↔W f t λx t1=>W l t1 λlo t2=>W u t2 λhi t3=>W (h x lo hi) t3 P:=by simp [fSl]
@[simp] theorem W_fNo {Q:Option Int->T->Prop}:W fNo t Q↔Q none t:=AT rfl
@[simp] theorem W_asI {i:Int} {Q:Option Int->T->Prop}:W (asI (.int i)) t Q↔Q (some i) t:=AT rfl
@[simp] theorem W_fPart {f:M D} {Q:Option Int->T->Prop}:W (D7 f) t Q↔W f t λx t1=>W (asI x) t1 Q:=by simp [D7]
@[simp] theorem W_fItA {f:M D} {Q:List D->T->Prop}:W (Fb f) t Q↔W f t λx t1=>W (D2 x) t1 Q:=by simp [Fb]
@[simp] theorem W_it_lst {ds:List D} {Q:List D->T->Prop}:W (D2 (.lst ds)) t Q↔Q ds t:=AT rfl
@[simp] theorem YS {ds:List D} {Q:List D->T->Prop}:W (D2 (.tup ds)) t Q↔Q ds t:=AT rfl
@[simp] theorem YR {ds:List Int} {Q:List D->T->Prop}:W (D2 (.scr ds)) t Q↔Q (ds.map .int) t:=AT rfl
@[simp] theorem W_it_str {x:Str} {Q:List D->T->Prop}:W (D2 (.str x)) t Q↔Q (x.cps.toList.map λc=>.str ⟨#[c]⟩) t:=AT rfl
@[simp] theorem W_fRng1 {f:M (List D)} {Q:List D->T->Prop}:W (Cy f) t Q↔W f t λx t1=>W (Lg x) t1 Q:=by simp [Cy]
@[simp] theorem W_fRng2 {f:M (List D)} {Q:List D->T->Prop}:W (GO f) t Q↔W f t λx t1=>W (Lh x) t1 Q:=by simp [GO]
@[simp] theorem W_rng1 {j:Int} {Q:List D->T->Prop}:W (Lg [.int j]) t Q↔CD j=true/\Q (rngL 0 j.toNat) t:=HS rfl
@[simp] theorem W_rng2 {i j:Int} {Q:List D->T->Prop}:W (Lh [.int i,.int j]) t Q↔(CD i && CD j)=true/\Q (rngL i (j - i).toNat) t:=HS rfl
@[simp] theorem W_ownM {i:Nat} {h:List D->List D->Option (List D)} {g:M (List D)} {Q:Out->T->Prop}:W (ownM i h g) t Q↔(∃xs,t.env[i]?=some (some (.own xs)))/\W g t λds t1=>∃xs,t1.env[i]?=some (some (.own xs))/\∃ys,h xs ds=some ys/\Q .next ⟨t1.env.set i (some (.own ys)),t1.S⟩:=by
 constructor
 ·rintro ⟨o,t',e,p⟩;unfold ownM at e
  split at e
  ·next xs e0=>
   refine ⟨⟨xs,e0⟩,?_⟩;obtain ⟨ds,t1,e1,e⟩:=Ao e;refine ⟨ds,t1,e1,?_⟩
   split at e
   ·next ys e2=>
    obtain ⟨zs,e3,e4⟩:=uc9.mp e
    cases e4
    exact ⟨ys,e2,zs,e3,p⟩
   ·cases e
  ·cases e
 ·rintro ⟨⟨xs,e0⟩,ds,t1,e1,ys,e2,zs,e3,p⟩;exact ⟨_,_,by unfold ownM bnd;simp only [e0,e1,e2,e3,uk0],p⟩
@[simp] theorem app1_one {xs:List D} {d:D} {ys:List D}:Ct xs [d]=some ys↔xs.length < LIM/\xs++[d]=ys:=by
 unfold Ct;split <;> simp [*]
@[simp] theorem al {f g:M D} {d:D} {Q:Unit->T->Prop}:W (stD f g d) t Q↔W f t λo t1=>W g t1 λi t2=>W (Xb o i d) t2 Q:=by simp [stD]
end F2
namespace F2
open PySem L2
variable {t:T}{P:D->T->Prop}{Q:List D->T->Prop}{R:Out->T->Prop}{B:Bool->T->Prop}{U:Unit->T->Prop}
def Gg (k:Bool)(A B:Prop):Prop:=if k=true then A else B
theorem Gh {k:Bool}{A B:Prop}(h:k=true)(a:A):Gg k A B:=by unfold Gg;rw [if_pos h];exact a
theorem Ht {k:Bool}{A B:Prop}(h:k=false)(b:B):Gg k A B:=by unfold Gg;rw [if_neg (by rw [h];exact uf4)];exact b
theorem CO {k:Bool}{A B:Prop}(a:k=true->A)(b:k=false->B):Gg k A B:=by cases h:k with
 | true=>exact Gh rfl (a h)
 | false=>exact Ht rfl (b h)
def Fd (g:M Out)(R:Out->T->Prop)(o:Out)(t1:T):Prop:=match o with
 | .next=>W g t1 R
 | o=>R o t1
variable {g:M Out}{t1:T}
theorem Dn (h:W g t1 R):Fd g R .next t1:=h
theorem NR {d:D}(h:R (.ret d) t1):Fd g R (.ret d) t1:=h
theorem Xu {f:M Out}(h:W f t (Fd g R)):W (Aq f g) t R:=W_seqS.mpr (h.mono λo t1 h1=>by cases o <;> exact h1)
theorem YC (h:R .next t):W AU t R:=W_skipS.mpr h
variable {f:M D}
theorem ZY (h:W f t λd t1=>R (.ret d) t1):W (AR f) t R:=W_retS.mpr h
theorem Yj (h:W f t λd t1=>R .next t1):W (D6 f) t R:=W_dropS.mpr h
theorem wIf {f:M Bool}{h:M Out}(w:W f t λk t1=>Gg k (W g t1 R) (W h t1 R)):W (ifS f g h) t R:=W_ifS.mpr w
theorem Xv {i:Nat}(h:W f t λd t1=>R .next ⟨t1.env.set i (some (.val d)),t1.S⟩):W (A5 i f) t R:=W_setS.mpr h
theorem ZW {i:Nat}{f:M (List D)}(h:W f t λd t1=>R .next ⟨t1.env.set i (some (.own d)),t1.S⟩):W (EA i f) t R:=W_ownS.mpr h
theorem ZA {g:D->M Unit}(h:W f t λd t1=>W (g d) t1 λ_ t2=>R .next t2):W (Dq f g) t R:=W_asgS.mpr h
theorem ZD {f:M (List D)}{st:D->M Unit}{b:M Out}(h:W f t λds t1=>W (DE st b ds) t1 R):W (C8 f st b) t R:=W_forS.mpr h
theorem wC {d:D}(h:P d t):W (fC d) t P:=W_fC.mpr h
theorem ET {i:Nat}{d:D}(e:t.env[i]?=some (some (.val d)))(h:P d t):W (Ad i) t P:=by rw [P7,e];exact h
variable {ds:List D}
theorem YG {i:Nat}(e:t.env[i]?=some (some (.own ds)))(h:P (.lst ds) ⟨t.env.set i (some (.val (.lst ds))),t.S⟩):W (Ad i) t P:=by rw [P7,e];exact h
theorem Lo {g:M D}{h:D->D->M D}(w:W f t λx t1=>W g t1 λy t2=>W (h x y) t2 P):W (Ag f g h) t P:=W_fBin.mpr w
theorem wUn {h:D->M D}(w:W f t λx t1=>W (h x) t1 P):W (fUn f h) t P:=W_fUn.mpr w
theorem DZ {α β:Type}{f:M α}{g:α->M β}{K:β->T->Prop}(w:W f t λx t1=>W (g x) t1 K):W (bnd f g) t K:=W_bnd.mpr w
theorem PX {b:Bool}(h:B b t):W (toB (.bl b)) t B:=W_toB.mpr h
theorem PY (h:W f t λx t1=>W (toB x) t1 B):W (AJ f) t B:=W_fTst.mpr h
theorem Xk {g w:M D}{h h':D->D->M D}(q:W f t λx t1=>W g t1 λy t2=>W (h x y) t2 λk t3=>W (toB k) t3 λk t4=>Gg k (W w t4 λz t5=>W (h' y z) t5 P) (P (.bl false) t4)):W (FI f g w h h') t P:=W_fChain.mpr q
theorem Zx {f g:M Bool}(h:W f t λk t1=>Gg k (W g t1 B) (B false t1)):W (IQ f g) t B:=W_fAnd.mpr h
theorem wOr {f g:M Bool}(h:W f t λk t1=>Gg k (B true t1) (W g t1 B)):W (fOr f g) t B:=W_fOr.mpr h
theorem ZU {f:M Bool}(h:W f t λk t1=>B (!k) t1):W (De f) t B:=W_fNot.mpr h
theorem Ye {g:M D}(h:W f t λx t1=>W (toB x) t1 λk t2=>Gg k (W g t2 P) (P (.bl false) t2)):W (F5 f g) t P:=W_fAndV.mpr h
theorem Yw (h:W f t λx t1=>W (toB x) t1 λk t2=>P (.bl (!k)) t2):W (HU f) t P:=W_fNotV.mpr h
theorem Ju (h:Q [] t):W Aj t Q:=W_fNil.mpr h
theorem DL {g:M (List D)}(h:W f t λd t1=>W g t1 λds t2=>Q (d :: ds) t2):W (Ac f g) t Q:=W_fCons.mpr h
def GZ (n:Nat)(A:Prop):Prop:=n<=LIM/\A
variable {n:Nat}
theorem CI {A:Prop}(h:n<=LIM)(a:A):GZ n A:=⟨h,a⟩
theorem Z2 {f:M (List D)}(h:W f t λds t1=>GZ ds.length (P (.tup ds) t1)):W (BL f) t P:=W_fTup.mpr h
theorem ZP {f:M (List D)}(h:W f t λds t1=>GZ ds.length (Q ds t1)):W (BI f) t Q:=W_fLst.mpr h
theorem TY {f:M (List D)}(h:W f t λds t1=>P (.lst ds) t1):W (Ba f) t P:=W_fPure.mpr h
theorem ZV {f:M (List D)}(h:W f t λds t1=>P (.obj t1.S.length) ⟨t1.env,t1.S++[.lst ds]⟩):W (KR f) t P:=by rw [VQ];exact h.mono λds t1 h=>W_newOb.mpr h
theorem Ix {g:Fn}{f:M (List D)}(h:W f t λds t1=>Wf g ds t1.S λr S'=>P r ⟨t1.env,S'⟩):W (Au g f) t P:=W_fCall.mpr h
theorem wB {f:M (List D)}{h:List D->M D}(w:W f t λds t1=>W (h ds) t1 P):W (fB f h) t P:=W_fB.mpr w
theorem wBF {f:M (List D)}{h:List D->M (List D)}(w:W f t λds t1=>W (h ds) t1 Q):W (fBF f h) t Q:=W_fBF.mpr w
theorem ES {i:Nat}{d:D}(h:U () ⟨t.env.set i (some (.val d)),t.S⟩):W (BD i d) t U:=W_putV.mpr h
theorem VA (h:U () t):W (FV []) t U:=W_putNil.mpr h
theorem Tg {f:D->M Unit}{g:List D->M Unit}{d:D}(h:W (f d) t λ_ t1=>W (g ds) t1 U):W (Cp f g (d :: ds)) t U:=W_putCons.mpr h
theorem Z3 {g:List D->M Unit}(e:ds.length=n)(h:W (g ds) t U):W (unS n g (.lst ds)) t U:=W_unS_lst.mpr ⟨e,h⟩
theorem Z4 {g:List D->M Unit}(e:ds.length=n)(h:W (g ds) t U):W (unS n g (.tup ds)) t U:=W_unS_tup.mpr ⟨e,h⟩
theorem TU {fr:List Nat}{f:M (List D)}{st:D->M Unit}{tst:M Bool}{elt:M D}(h:W f t λds t1=>W (CY st tst elt ds) ⟨cenv n fr t1.env,t1.S⟩ λxs t'=>GZ xs.length (Q xs ⟨t1.env,t'.S⟩)):W (Dr n fr f st tst elt) t Q:=W_fComp.mpr h
theorem Jv (h:B true t):W Ei t B:=W_tTru.mpr h
variable {i:Int}
theorem Gm {d:D}(e:atI ds i=some d)(h:P d t):W (ixD (.tup ds) (.int i)) t P:=W_ix_tup.mpr ⟨d,e,h⟩
theorem B3 {d:D}(e:atI ds i=some d)(h:P d t):W (ixD (.lst ds) (.int i)) t P:=W_ix_lst.mpr ⟨d,e,h⟩
theorem Tf {k:Nat}{d:D}(e0:t.S[k]?=some (.lst ds))(e:atI ds i=some d)(h:P d t):W (ixD (.obj k) (.int i)) t P:=W_ix_obj.mpr ⟨ds,e0,d,e,h⟩
theorem Yq (h:P (.int ds.length) t):W (BQ [.lst ds]) t P:=W_len_lst.mpr h
theorem Yt (h:P (.int ds.length) t):W (BQ [.tup ds]) t P:=W_len_tup.mpr h
theorem Ys {ds:List Int}(h:P (.int ds.length) t):W (BQ [.scr ds]) t P:=W_len_scr.mpr h
theorem Yr {k:Nat}(e:t.S[k]?=some (.lst ds))(h:P (.int ds.length) t):W (BQ [.obj k]) t P:=W_len_obj.mpr ⟨ds,e,h⟩
variable {x:Str}
theorem TX (e:x.length<=LIM)(h:P (.int x.length) t):W (BQ [.str x]) t P:=W_len_str.mpr ⟨e,h⟩
theorem ZJ {d:D}{m n:String}{b:Bool}(e:tyD d=some n)(e':DF n m=some b)(h:P (.bl b) t):W (DP [d,.ty m]) t P:=W_isi.mpr ⟨n,e,b,e',h⟩
theorem ZI {x:D}(h:P (.bl (HZ x)) t):W (isC x .non) t P:=W_is_non.mpr h
variable {j:Int}
theorem Yb (h:P (.int (i + j)) t):W (Bj (.int i) (.int j)) t P:=W_add_int.mpr h
theorem YD (h:P (.int (i - j)) t):W (CU (.int i) (.int j)) t P:=W_sub_int.mpr h
theorem ZQ (h:P (.bl (decide (i < j))) t):W (ltA (.int i) (.int j)) t P:=W_lt_int.mpr h
theorem ZO (h:P (.bl (decide (i<=j))) t):W (leA (.int i) (.int j)) t P:=W_le_int.mpr h
theorem ZF (h:P (.bl (decide (j < i))) t):W (gtA (.int i) (.int j)) t P:=W_gt_int.mpr h
theorem ZE (h:P (.bl (decide (j<=i))) t):W (geA (.int i) (.int j)) t P:=W_ge_int.mpr h
theorem Xm (h1:0 < j)(h2:j < 1073741824)(h:P (.int (i / j)) t):W (GP (.int i) (.int j)) t P:=W_fdiv.mpr ⟨⟨h1,h2⟩,h⟩
theorem N3 (h1:0 < j)(h:P (.int (i % j)) t):W (FQ (.int i) (.int j)) t P:=W_mod.mpr ⟨h1,h⟩
theorem ZX (h1:Mq i j=true)(h:P (.int (i ^ j.toNat)) t):W (Jf (.int i) (.int j)) t P:=W_pow.mpr ⟨h1,h⟩
theorem Iy (h1:Fk i j=true)(h:P (.int (i * j)) t):W (EJ (.int i) (.int j)) t P:=W_mul_int.mpr ⟨h1,h⟩
theorem Yv {k:Int}(h1:CD k=true/\x.length * k.toNat<=LIM/\k<=LIM/\x.length<=LIM)(h:P (.str (Txt.mul x k)) t):W (EJ (.str x) (.int k)) t P:=W_mul_str.mpr ⟨h1,h⟩
theorem Yd {y:Str}(h:GZ (x.length + y.length) (P (.str (x++y)) t)):W (Bj (.str x) (.str y)) t P:=W_add_str.mpr h
theorem Yc {x y:List D}(h:GZ (x.length + y.length) (P (.lst (x++y)) t)):W (Bj (.lst x) (.lst y)) t P:=W_add_lst.mpr h
theorem ZB {x y:List D}(h:GZ (x.length + y.length) (Q (x++y) t)):W (IM (.lst x) (.lst y)) t Q:=W_cat.mpr h
theorem ZS (h:P (.int (if j < i then j else i)) t):W (G1 [.int i,.int j]) t P:=W_min.mpr h
theorem ZR (h:P (.int (if j > i then j else i)) t):W (K0 [.int i,.int j]) t P:=W_max.mpr h
theorem Yl {i:Bool}(h:P (.int (if i then 1 else 0)) t):W (Nc [.bl i]) t P:=W_int_bl.mpr h
theorem Xt (e:x.length=1)(h:P (.int (x.cps.getD 0 0:Nat)) t):W (La [.str x]) t P:=W_ord.mpr ⟨e,h⟩
theorem YE (h:P (.tup ds) t):W (N0 [.lst ds]) t P:=W_tup_lst.mpr h
theorem Yu (h:Q ds t):W (IW [.lst ds]) t Q:=W_lst_lst.mpr h
theorem Td {g:Bool->Bool}{y:Str}(h:P (.bl (g (x == y))) t):W (eqS g (.str x) (.str y)) t P:=W_eq_str.mpr h
theorem Xo {g:Bool->Bool}{x y:Int}(h:P (.bl (g (x == y))) t):W (eqS g (.int x) (.int y)) t P:=W_eq_int.mpr h
theorem Z0 {lo hi:Option Int}(h:P (.lst (Cu ds lo hi)) t):W (Eh (.lst ds) lo hi) t P:=W_sl_lst.mpr h
theorem wSl {l u:M (Option Int)}{h:D->Option Int->Option Int->M D}(w:W f t λx t1=>W l t1 λlo t2=>W u t2 λhi t3=>W (h x lo hi) t3 P):W (fSl f l u h) t P:=W_fSl.mpr w
variable {K:Option Int->T->Prop}
theorem wNo (h:K none t):W fNo t K:=W_fNo.mpr h
theorem Zz (h:K (some i) t):W (asI (.int i)) t K:=W_asI.mpr h
theorem Yz (h:W f t λx t1=>W (asI x) t1 K):W (D7 f) t K:=W_fPart.mpr h
theorem ZK (h:W f t λx t1=>W (D2 x) t1 Q):W (Fb f) t Q:=W_fItA.mpr h
theorem ZM (h:Q ds t):W (D2 (.lst ds)) t Q:=W_it_lst.mpr h
theorem ZN (h:Q (x.cps.toList.map λc=>.str ⟨#[c]⟩) t):W (D2 (.str x)) t Q:=W_it_str.mpr h
theorem TZ {f:M (List D)}(h:W f t λx t1=>W (Lg x) t1 Q):W (Cy f) t Q:=W_fRng1.mpr h
theorem YA {f:M (List D)}(h:W f t λx t1=>W (Lh x) t1 Q):W (GO f) t Q:=W_fRng2.mpr h
theorem Ff (e:CD j=true)(h:Q (rngL 0 j.toNat) t):W (Lg [.int j]) t Q:=W_rng1.mpr ⟨e,h⟩
theorem Th (e:(CD i && CD j)=true)(h:Q (rngL i (j - i).toNat) t):W (Lh [.int i,.int j]) t Q:=W_rng2.mpr ⟨e,h⟩
theorem Yy {i:Nat}{xs:List D}{h:List D->List D->Option (List D)}{g:M (List D)}(e:t.env[i]?=some (some (.own xs)))(w:W g t λds t1=>∃xs,t1.env[i]?=some (some (.own xs))/\∃ys,h xs ds=some ys/\R .next ⟨t1.env.set i (some (.own ys)),t1.S⟩):W (ownM i h g) t R:=W_ownM.mpr ⟨⟨xs,e⟩,w⟩
theorem Zy {i:Nat}{xs:List D}{d:D}{A:List D->Prop}(e:t1.env[i]?=some (some (.own xs)))(w:GZ (xs.length + 1) (A (xs++[d]))):∃xs,t1.env[i]?=some (some (.own xs))/\∃ys,Ct xs [d]=some ys/\A ys:=
 ⟨xs,e,_,app1_one.mpr ⟨w.1,rfl⟩,w.2⟩
end F2
namespace F2
open PySem L2
variable {i:Nat}{g:Fn}{d':D}
section
variable {t:T}{P:D->T->Prop}{B:Bool->T->Prop}{Q:List D->T->Prop}
theorem YF {n:Int}{ds:List D}{d:D}(e:t.env[i]?=some (some (.val (.tup ds))))(a:atI ds n=some d)(h:P d t):W (Ag (Ad i) (fC (.int n)) ixD) t P:=Lo (ET e (wC (Gm a h)))
theorem Yp {x y:Str}{ds:List D}{g:Bool->Bool}(e:t.env[i]?=some (some (.val (.tup (.str y :: ds)))))(h:B (g (y == x)) t):W (AJ (Ag (Ag (Ad i) (fC (.int 0)) ixD) (fC (.str x)) (eqS g))) t B:=PY (Lo (Lo (ET e (wC (Gm JA (wC (Td (PX h))))))))
theorem Xy {x y:Str}{g:Bool->Bool}(e:t.env[i]?=some (some (.val (.str y))))(h:B (g (y == x)) t):W (AJ (Ag (Ad i) (fC (.str x)) (eqS g))) t B:=PY (Lo (ET e (wC (Td (PX h)))))
theorem Xx {x y:Int}{g:Bool->Bool}(e:t.env[i]?=some (some (.val (.int y))))(h:B (g (y == x)) t):W (AJ (Ag (Ad i) (fC (.int x)) (eqS g))) t B:=PY (Lo (ET e (wC (Xo (PX h)))))
theorem Vt {d:D}(e:t.env[i]?=some (some (.val d)))(h:Wf g [d] t.S λr S'=>P r ⟨t.env,S'⟩):W (Au g (Ac (Ad i) Aj)) t P:=Ix (DL (ET e (Ju h)))
theorem Vu {j:Nat}{d:D}(e:t.env[i]?=some (some (.val d)))(e':t.env[j]?=some (some (.val d')))(h:Wf g [d,d'] t.S λr S'=>P r ⟨t.env,S'⟩):W (Au g (Ac (Ad i) (Ac (Ad j) Aj))) t P:=Ix (DL (ET e (DL (ET e' (Ju h)))))
theorem Vw {d:D}(e:t.env[i]?=some (some (.val d)))(h:Wf g [d,d'] t.S λr S'=>P r ⟨t.env,S'⟩):W (Au g (Ac (Ad i) (Ac (fC d') Aj))) t P:=Ix (DL (ET e (DL (wC (Ju h)))))
theorem Vv {j k:Nat}{d d'':D}(e:t.env[i]?=some (some (.val d)))(e':t.env[j]?=some (some (.val d')))(e'':t.env[k]?=some (some (.val d'')))(h:Wf g [d,d',d''] t.S λr S'=>P r ⟨t.env,S'⟩):W (Au g (Ac (Ad i) (Ac (Ad j) (Ac (Ad k) Aj)))) t P:=Ix (DL (ET e (DL (ET e' (DL (ET e'' (Ju h)))))))
end
end F2
set_option maxHeartbeats 1000000
namespace LW
open PySem L2 F2
set_option compiler.extract_closed false
local macro_rules | `(tactic| walk_at "w1")=>`(tactic| first
 | ((with_reducible first | refine' Yp ?wv ?_ | refine' Xy ?wv ?_ | refine' Vt ?wv ?_);(case wv=>exact rfl))
 | ((with_reducible first | refine' Xx ?wv ?_ | refine' Vw ?wv ?_);(case wv=>exact rfl))
 | ((with_reducible refine' YF ?wv ?wu ?_);(case wv=>exact rfl);(case wu=>first | exact rfl | exact JA | exact Tn | exact To))
 | ((with_reducible refine' Vu ?wv ?wu ?_);(case wv=>exact rfl);(case wu=>exact rfl))
 | ((with_reducible refine' Vv ?wv ?wu ?wt ?_);(case wv=>exact rfl);(case wu=>exact rfl);(case wt=>exact rfl))
 | with_reducible (first | refine Xu ?_ | refine Dn ?_ | refine NR ?_ | refine Xv ?_ | refine Lo ?_ | refine wC ?_ | refine DL ?_ | refine Ju ?_ | refine wIf ?_ | refine PY ?_ | refine PX ?_ | refine ZY ?_ | refine Ix ?_ | refine Td ?_ | refine Xo ?_ | refine wEqB ?_ | refine Yb ?_ | refine YD ?_ | refine YC ?_ | refine wB ?_ | refine wBF ?_ | refine TY ?_ | refine Z2 ?_ | refine ZP ?_ | refine ZV ?_ | refine ZA ?_ | refine ZD ?_ | refine Zx ?_ | refine wOr ?_ | refine ZU ?_ | refine Ye ?_ | refine wOrV ?_ | refine Yw ?_ | refine wIfE ?_ | refine Xk ?_ | refine wUn ?_ | refine wNeg ?_ | refine ZI ?_ | refine wIsB ?_ | refine wIsNot ?_ | refine ZQ ?_ | refine ZO ?_ | refine ZF ?_ | refine ZE ?_ | refine wLtS ?_ | refine wGtS ?_ | refine Yq ?_ | refine Yt ?_ | refine Ys ?_ | refine wAbs ?_ | refine ZS ?_ | refine ZR ?_ | refine wInt ?_ | refine Yl ?_ | refine YE ?_ | refine Yu ?_ | refine wLstT ?_ | refine Yd ?_ | refine Yc ?_ | refine wAddT ?_ | refine wAddT0 ?_ | refine ZB ?_ | refine wEqNil ?_ | refine wSl ?_ | refine wNo ?_ | refine Yz ?_ | refine Zz ?_ | refine Z0 ?_ | refine wSlR ?_ | refine wSlS ?_ | refine wSlT ?_ | refine ZK ?_ | refine ZM ?_ | refine wItT ?_ | refine wItR ?_ | refine ZN ?_ | refine TZ ?_ | refine YA ?_ | refine ES ?_ | refine VA ?_ | refine Tg ?_ | refine TU ?_ | refine Jv ?_ | refine wDic ?_ | refine ZW ?_ | refine DZ ?_ | refine Yj ?_ | refine wStD ?_)
 | ((with_reducible first | refine' ET ?wv ?_ | refine' Gh ?wv ?_ | refine' Z3 ?wv ?_ | refine' Yy ?wv ?_ | refine' Zy ?wv ?_);(case wv=>exact rfl))
 | ((with_reducible first | refine' Ht ?wv ?_ | refine' YG ?wv ?_ | refine' Z4 ?wv ?_);(case wv=>exact rfl))
 | ((with_reducible first | refine' Gm ?wv ?_ | refine' B3 ?wv ?_);(case wv=>first | exact rfl | exact JA | exact Tn | exact To))
 | ((with_reducible refine CI ?wv ?_);(case wv=>exact ud6 rfl))
 | ((with_reducible refine' ZJ ?wv ?wu ?_);(case wv=>exact rfl);(case wu=>exact rfl))
 | ((with_reducible refine Xm ?wv ?wu ?_);(case wv=>decide);(case wu=>decide))
 | ((with_reducible first | refine' ZX ?wv ?_ | refine' N3 ?wv ?_ | refine' Ff ?wv ?_ | refine' Th ?wv ?_);(case wv=>decide)))
local macro_rules | `(tactic| right)=>`(tactic| repeat (walk_at "w1"))
structure DeckAt (k c:Nat)(S:List Ob):Prop where
 ne:k≠c
 at_:∃(cells:List Int) (par pos:Int),S[k]?=some (.lst [.obj c,.int par,.int pos])/\S[c]?=some (.lst (cells.map .int))/\cells≠[]/\0<=pos
def aq (k c:Nat)(S S':List Ob):Prop:=S'.length=S.length/\∀j:Nat,j≠k->j≠c->S'[j]?=S[j]?
variable {n:Nat}{i:Int}
theorem Cn (h0:0<=i)(h1:i < n):ixN n i=some i.toNat:=by simp [ixN,h0,h1]
variable {S:List Ob}{o o':Ob}
theorem KW {k:Nat}(h:S[k]?=some o):(S.set k o')[k]?=some o':=by
 obtain ⟨hl,_⟩:=ub2.mp h;exact uc4 hl
inductive Sh where
 | nothing | number (lo hi:Int) | text (m:Int) | list (s:Sh) (m:Int) | pair (s r:Sh) | choice (ss:List Sh)
mutual
noncomputable def Sh.d:Sh->D
 | .nothing=>.tup [.str "nothing"]
 | .number lo hi=>.tup [.str "number",.int lo,.int hi]
 | .text m=>.tup [.str "text",.int m]
 | .list s m=>.tup [.str "list",s.d,.int m]
 | .pair s r=>.tup [.str "pair",s.d,r.d]
 | .choice ss=>.tup [.str "choice",.tup (shD ss)]
noncomputable def shD:List Sh->List D
 | []=>[]
 | s :: r=>s.d :: shD r
end
mutual
noncomputable def Sh.depth:Sh->Nat
 | .nothing=>1
 | .number _ _=>1
 | .text _=>1
 | .list s _=>s.depth + 1
 | .pair s r=>max s.depth r.depth + 1
 | .choice ss=>EZ ss + 1
noncomputable def EZ:List Sh->Nat
 | []=>0
 | s :: r=>max s.depth (EZ r)
end
theorem En:∀ss:List Sh,(shD ss).length=ss.length
 | []=>rfl
 | s :: r=>by simp [shD,En r]
theorem GC:∀(ss:List Sh) (k:Nat),(shD ss)[k]?=(ss[k]?).map Sh.d
 | [],k=>by simp [shD]
 | s :: r,0=>by simp [shD]
 | s :: r,k + 1=>by simp [shD,GC r k]
theorem Do:∀(ss:List Sh) (k:Nat) (s:Sh),ss[k]?=some s->s.depth<=EZ ss
 | [],k,s,h=>by simp at h
 | s :: r,0,s',h=>by simp at h;subst h;simp [EZ];lia
 | s :: r,k + 1,s',h=>by
   have:=Do r k s' (by simpa using h);simp [EZ];lia
theorem Sh.depth_pos (s:Sh):1<=s.depth:=by cases s <;> simp [Sh.depth]
noncomputable def Ch (n:Nat):Bool:=decide (32<=n) && decide (n<=126) && decide (n≠37)
noncomputable def GY:Str->Bool:=λo=>o == ("of" : Str)
mutual
def Aw:Sh->D->Bool
 | .nothing,d=>HZ d
 | .number lo hi,d=>match d with
   | .int i=>decide (lo<=i) && decide (i<=hi)
   | _=>false
 | .text m,d=>match d with
   | .str x=>decide ((x.length:Int)<=m) && x.cps.toList.all Ch
   | _=>false
 | .list s m,d=>match d with
   | .lst ds=>decide ((ds.length:Int)<=m) && ds.all λe=>Aw s e
   | _=>false
 | .pair s r,d=>match d with
   | .tup [a,b]=>Aw s a && Aw r b
   | _=>false
 | .choice ss,d=>match d with
   | .tup [.str o,.int k,x]=>GY o && (decide (0<=k) && decide (k < ss.length)) && JV ss k.toNat x
   | _=>false
def JV:List Sh->Nat->D->Bool
 | [],_,_=>false
 | s :: _,0,d=>Aw s d
 | _ :: r,k + 1,d=>JV r k d
end
theorem Dm:∀(ss:List Sh) (k:Nat) (s:Sh) (d:D),ss[k]?=some s->JV ss k d=Aw s d
 | [],k,s,d,h=>by simp at h
 | s :: r,0,s',d,h=>by simp at h;subst h;simp [JV]
 | s :: r,k + 1,s',d,h=>by rw [JV];exact Dm r k s' d (by simpa using h)
mutual
noncomputable def okD:D->Bool
 | .str x=>decide (x.length<=90000)
 | .tup xs=>oks xs
 | .lst xs=>oks xs
 | .obj _=>false
 | .scr _=>false
 | .exc _ _=>false
 | .ty _=>false
 | _=>true
noncomputable def oks:List D->Bool
 | []=>true
 | d :: r=>okD d && oks r
end
theorem Ii:∀{xs:List D},oks xs=true->∀d∈xs,okD d=true
 | x :: r,h,d,m=>by
   rw [oks,uh8] at h;rcases ul4.mp m with z | z
   ·subst z;exact h.1
   ·exact Ii h.2 d z
abbrev Pure1 (f:Fn)(ds:List D)(r:D):Prop:=∀S,Wf f ds S λv S'=>v=r/\S'=S
variable {ds:List D}
theorem Pure1.use {f:Fn}{r:D}(h:Pure1 f ds r){S:List Ob}{P:D->List Ob->Prop}(p:P r S):Wf f ds S P:=(h S).mono λ_ _ ⟨e1,e2⟩=>by subst e1 e2;exact p
noncomputable def QE:D->Bool
 | .int _=>true
 | _=>false
theorem Nf {d:D}(h:okD d=true):Pure1 (fnOf 1 1 EY) [d] (.bl (QE d)):=by
 intro S;refine A1 rfl ?_;unfold EY
 cases d <;> first | (simp [okD] at h;done) | (right;exact ⟨rfl,rfl⟩)
noncomputable def FA (lo hi:Int):D->Bool
 | .int i=>decide (lo<=i) && decide (i<=hi)
 | _=>false
def Ot (f:Fn):Prop:=∀d,okD d=true->Pure1 f [d] (.bl (QE d))
def GI (f:Fn):Prop:=∀d lo hi,okD d=true->Pure1 f [d,.int lo,.int hi] (.bl (FA lo hi d))
variable {c:Fn}
theorem Rz (hc:Ot c):GI (fnOf 3 3 (C5 c)):=by
 intro d lo hi h S;refine A1 rfl ?_;unfold C5;right;refine (hc d h).use ?_
 cases d with
 | int i=>
   right;refine CO (λe=>?_) λe=>?_
   ·right;exact ⟨by simp only [FA,e,ul9],rfl⟩
   ·exact ⟨by simp only [FA,e,uk9],rfl⟩
 | _=>right;exact ⟨rfl,rfl⟩
def Jy (f:Fn):Prop:=∀n:Nat,Pure1 f [.int n] (.bl (Ch n))
theorem Po:Jy (fnOf 1 1 F7):=by
 intro n S;refine A1 rfl ?_;unfold F7;right;have c1:decide ((32:Int)<=n)=decide (32<=n):=decide_eq_decide.mpr (by lia);have c2:decide ((n:Int)<=126)=decide (n<=126):=decide_eq_decide.mpr (by lia);have c3:(!((n:Int) == 37))=decide (n≠37):=by
  by_cases h:n=37
  ·subst h;rfl
  ·have:¬((n:Int)=37):=by lia
   simp [h,this]
 rw [c1];refine CO (λe=>?_) λe=>?_
 ·right;rw [c2];refine CO (λe'=>?_) λe'=>?_
  ·right;exact ⟨by simp only [Ch,e,e',c3,ul9],rfl⟩
  ·exact ⟨by simp only [Ch,e,e',uk9,ul0],rfl⟩
 ·right;exact ⟨by simp only [Ch,e,uk9],rfl⟩
def MB (f:Fn):Prop:=∀m d,okD d=true->Pure1 f [(Sh.text m).d,d] (.bl (Aw (.text m) d))
theorem M7 (hc:Jy c):MB (fnOf 2 3 (EX c)):=by
 intro m d h S;refine A1 rfl ?_;unfold EX;rw [Sh.d]
 cases d with
 | str x=>
   have hx:x.length<=LIM:=um5 (by simpa [okD] using h) (show 90000<=LIM by decide);right;refine TX hx ?_;right;refine CO (λe=>?_) λe=>?_
   ·right;have:¬((x.length:Int)<=m):=by have:=uh4 e;lia
    exact ⟨by simp [Aw,this],rfl⟩
   ·right;have e':(x.length:Int)<=m:=by have:=of_decide_eq_false e;lia
    refine Dp (λr t=>t.S=S/\∃cs:List Nat,r=cs.map (λc=>D.str ⟨#[c]⟩)/\(x.cps.toList.all Ch=cs.all Ch)/\∃z,t.env=[some (.val (.tup [.str "text",.int m])),some (.val (.str x)),z]) _ _ ⟨rfl,x.cps.toList,rfl,rfl,_,rfl⟩ ?_ ?_
    ·rintro d r t ⟨hs,cs,hr,hall,z,ht⟩ _;obtain ⟨env,S2⟩:=t;subst hs ht
     cases cs with
     | nil=>simp at hr
     | cons c cs=>
       simp only [ul7,List.cons.injEq] at hr;obtain ⟨rfl,rfl⟩:=hr;right;refine Xt rfl ?_;right;refine (hc c).use ?_;right;refine CO (λq=>?_) λq=>?_
       ·right;have q':Ch c=false:=by simpa using q
        refine ⟨?_,rfl⟩;simp only [Aw,hall,ul6,q',uk9,ul0]
       ·right;have q':Ch c=true:=by simpa using q
        exact ⟨rfl,cs,rfl,by rw [hall,ul6,q',ul9],_,rfl⟩
    ·rintro t ⟨hs,cs,hr,hall,z,ht⟩;obtain ⟨env,S2⟩:=t;subst hs ht;have:cs=[]:=by cases cs with | nil=>rfl | cons _ _=>simp at hr
     subst this;right;exact ⟨by simp [Aw,e',hall],rfl⟩
 | obj _=>simp [okD] at h
 | scr _=>simp [okD] at h
 | ty _=>simp [okD] at h
 | exc _ _=>simp [okD] at h
 | _=>right;exact ⟨by simp [Aw],rfl⟩
def Gn (f:Fn)(n:Nat):Prop:=∀s:Sh,s.depth<=n->∀d,okD d=true->Pure1 f [s.d,d] (.bl (Aw s d))
def P2 (f:Fn)(n:Nat):Prop:=∀(s:Sh) (m:Int),s.depth<=n->∀d,okD d=true->Pure1 f [(Sh.list s m).d,d] (.bl (Aw (.list s m) d))
theorem M5 (hc:Gn c n):P2 (fnOf 2 3 (EV c)) n:=by
 intro s m hs d h S;refine A1 rfl ?_;unfold EV;rw [Sh.d]
 cases d with
 | lst ds=>
   have hx:∀d∈ds,okD d=true:=Ii (by simpa [okD] using h);right;refine CO (λe=>?_) λe=>?_
   ·right;have:¬((ds.length:Int)<=m):=by have:=uh4 e;lia
    exact ⟨by simp [Aw,this],rfl⟩
   ·right;have e':(ds.length:Int)<=m:=by have:=of_decide_eq_false e;lia
    refine Dp (λr t=>t.S=S/\(ds.all (λe=>Aw s e)=r.all λe=>Aw s e)/\∃z,t.env=[some (.val (.tup [.str "list",s.d,.int m])),some (.val (.lst ds)),z]) _ _ ⟨rfl,rfl,_,rfl⟩ ?_ ?_
    ·rintro d r t ⟨hS,hall,z,ht⟩ hm;obtain ⟨env,S2⟩:=t;subst hS ht;right;refine (hc s hs d (hx d hm)).use ?_;right;refine CO (λq=>?_) λq=>?_
     ·right;have q':Aw s d=false:=by simpa using q
      refine ⟨?_,rfl⟩;simp only [Aw,hall,ul6,q',uk9,ul0]
     ·right;have q':Aw s d=true:=by simpa using q
      exact ⟨rfl,by rw [hall,ul6,q',ul9],_,rfl⟩
    ·rintro t ⟨hS,hall,z,ht⟩;obtain ⟨env,S2⟩:=t;subst hS ht;right;exact ⟨by simp only [Aw,e',decide_true,hall,List.all_nil,ul9],rfl⟩
 | obj _=>simp [okD] at h
 | scr _=>simp [okD] at h
 | ty _=>simp [okD] at h
 | exc _ _=>simp [okD] at h
 | _=>right;exact ⟨by simp [Aw],rfl⟩
def P6 (f:Fn)(n:Nat):Prop:=∀(s r:Sh),s.depth<=n->r.depth<=n->∀d,okD d=true->Pure1 f [(Sh.pair s r).d,d] (.bl (Aw (.pair s r) d))
theorem M6 (hc:Gn c n):P6 (fnOf 2 2 (EW c)) n:=by
 intro s r hs hr d h S;refine A1 rfl ?_;unfold EW;rw [Sh.d]
 cases d with
 | tup ds=>
   have hx:∀d∈ds,okD d=true:=Ii (by simpa [okD] using h);right
   match ds,hx with
   | [],_=>right;exact ⟨by simp [Aw],rfl⟩
   | [a],_=>right;exact ⟨by simp [Aw],rfl⟩
   | [a,b],hx=>
     right;refine (hc s hs a (hx a (by simp))).use ?_;right;refine CO (λe=>?_) λe=>?_
     ·right;refine (hc r hr b (hx b (by simp))).use ?_;exact ⟨by simp only [Aw,e,ul9],rfl⟩
     ·exact ⟨by simp only [Aw,e,uk9],rfl⟩
   | a :: b :: e :: l,_=>
     refine Gh ?_ ?_
     ·show (!(((a :: b :: e :: l).length:Int) == 2))=true;simp;lia
     right;exact ⟨by simp [Aw],rfl⟩
 | obj _=>simp [okD] at h
 | scr _=>simp [okD] at h
 | ty _=>simp [okD] at h
 | exc _ _=>simp [okD] at h
 | _=>right;exact ⟨by simp [Aw],rfl⟩
def Mu (f:Fn)(n:Nat):Prop:=∀(ss:List Sh),EZ ss<=n->∀d,okD d=true->Pure1 f [(Sh.choice ss).d,d] (.bl (Aw (.choice ss) d))
theorem KS {c':Fn}(hc:Gn c n)(hw:GI c'):Mu (fnOf 2 2 (Ea c c')) n:=by
 intro ss hs d h S;refine A1 rfl ?_;unfold Ea;rw [Sh.d]
 cases d with
 | tup ds=>
   have hx:∀d∈ds,okD d=true:=Ii (by simpa [okD] using h);right
   match ds,hx with
   | [],_=>right;exact ⟨by simp [Aw],rfl⟩
   | [a],_=>right;exact ⟨by simp [Aw],rfl⟩
   | [a,b],_=>right;exact ⟨by simp [Aw],rfl⟩
   | [a,b,e],hx=>
     right;have ha:=hx a (by simp)
     cases a with
     | str o=>
       right;refine CO (λq=>?_) λq=>?_
       ·right;have q':GY o=false:=by simpa [GY] using q
        refine ⟨?_,rfl⟩
        cases b <;> simp only [Aw,q',uk9]
       ·right;have q':GY o=true:=by simpa [GY] using q
        refine (hw b 0 _ (hx b (by simp))).use ?_;right
        cases b with
        | int k=>
          refine CO (λq=>?_) λq=>?_
          ·right;refine ⟨?_,rfl⟩;have:(decide (0<=k) && decide (k < (ss.length:Int)))=false:=by
            have q2:k < 0\/((shD ss).length:Int) - 1 < k:=by simpa [FA] using q
            rw [En] at q2;simp;lia
           simp only [Aw,this,uk9,ul0]
          ·have q2:0<=k/\k<=((shD ss).length:Int) - 1:=by simpa [FA] using q
           have q3:=q2;rw [En] at q3;have hk:k.toNat < ss.length:=by lia
           have e1:ss[k.toNat]?=some ss[k.toNat]:=ub7 hk;have e2:atI (shD ss) k=some (ss[k.toNat]).d:=by
            unfold atI;rw [En,Cn q3.1 (by lia)];simp [GC,e1]
           right;refine Gm e2 ?_;right;refine (hc _ (um5 (Do ss _ _ e1) hs) e (hx e (by simp))).use ?_;refine ⟨?_,rfl⟩;have:(decide (0<=k) && decide (k < (ss.length:Int)))=true:=by simp;lia
           simp only [Aw,q',this,ul9,Dm ss _ _ e e1]
        | _=>
          right;exact ⟨by simp [Aw],rfl⟩
     | obj _=>simp [okD] at ha
     | scr _=>simp [okD] at ha
     | ty _=>simp [okD] at ha
     | exc _ _=>simp [okD] at ha
     | _=>right;exact ⟨by simp [Aw],rfl⟩
   | a :: b :: e :: f :: l,_=>
     refine Gh ?_ ?_
     ·show (!(((a :: b :: e :: f :: l).length:Int) == 3))=true;simp;lia
     right;exact ⟨by simp [Aw],rfl⟩
 | obj _=>simp [okD] at h
 | scr _=>simp [okD] at h
 | ty _=>simp [okD] at h
 | exc _ _=>simp [okD] at h
 | _=>right;exact ⟨by simp [Aw],rfl⟩
variable {cc cp cl ct cw:Fn}
theorem Ug (h1:Mu cc n)(h2:P6 cp n)(h3:P2 cl n)(h4:MB ct)(h5:GI cw):Gn (fnOf 2 3 (Kc cc cp cl ct cw)) (n + 1):=by
 intro s hs d h S;refine A1 rfl ?_;unfold Kc
 cases s with
 | nothing=>
   rw [Sh.d];right;exact ⟨by rw [Aw],rfl⟩
 | number lo hi=>
   rw [Sh.d];right;refine (h5 d lo hi h).use ⟨?_,rfl⟩
   cases d <;> simp [Aw,FA]
 | text m=>
   rw [Sh.d];right;exact (h4 m d h).use ⟨rfl,rfl⟩
 | list s m=>
   rw [Sh.depth] at hs;have q:=h3 s m (by lia) d h;rw [Sh.d] at q ⊢;right;exact q.use ⟨rfl,rfl⟩
 | pair s r=>
   rw [Sh.depth] at hs;have q:=h2 s r (by lia) (by lia) d h;rw [Sh.d] at q ⊢;right;exact q.use ⟨rfl,rfl⟩
 | choice ss=>
   rw [Sh.depth] at hs;have q:=h1 ss (by lia) d h;rw [Sh.d] at q ⊢;right;exact q.use ⟨rfl,rfl⟩
theorem LA (x:Array Nat):∀(n:Nat) (acc:Array Nat),((List.replicate n x).foldl (·++·) acc).toList=acc.toList++(List.replicate n x.toList).flatten
 | 0,acc=>by simp
 | n + 1,acc=>by
   rw [ue7,uj6,LA x n,ue7,ug8];simp
variable {x:Str}
theorem QO {k:Int}:(Txt.mul x k).cps.toList=(List.replicate k.toNat x.cps.toList).flatten:=by
 unfold Txt.mul
 split
 ·have:k.toNat=0:=by lia
  rw [this];rfl
 ·split
  ·next h=>
   rw [uk1] at h;rcases h with h | h
   ·have:k=1:=by simpa using h
    subst this;simp
   ·have:x.cps.toList=[]:=by
     have h':x.length=0:=by simpa using h
     exact ua4 (by simpa [Str.length] using h')
    rw [this];simp
  ·have:=LA x.cps k.toNat #[];simpa using this
theorem E8 (x:Str):x.length=x.cps.toList.length:=by simp [Str.length]
theorem F0 (x y:Str):(x++y).cps.toList=x.cps.toList++y.cps.toList:=by
 show (x.cps++y.cps).toList=_;simp
variable {α:Type}
theorem Va (a:α)(k:Nat):(List.replicate k [a]).flatten=List.replicate k a:=by
 induction k with
 | zero=>rfl
 | succ k ih=>rw [ue7,ug8,ih,ue7];rfl
variable {fr:List (Option Sl)}{elt:M D}{z:Option Sl}
theorem Lq {f:D->D}(h:∀d∈ds,W elt ⟨some (.val d) :: fr,S⟩ λx t'=>x=f d/\t'=⟨some (.val d) :: fr,S⟩) :
 W (CY (BD 0) Ei elt ds) ⟨z :: fr,S⟩ λxs t'=>xs=ds.map f/\t'.S=S:=by
 refine (FB (P:=λxs t'=>xs=ds.map f/\t'.S=S) (λacc r t=>acc++r.map f=ds.map f/\∃z,t=⟨z :: fr,S⟩) ds [] _ ⟨rfl,z,rfl⟩ ?_ ?_).mono λxs t' h=>h
 ·rintro acc d r t ⟨h1,z,rfl⟩ hm;refine ES (Jv ?_);rw [if_pos rfl];refine (h d hm).mono λx t' z9=>?_;obtain ⟨e1,e2⟩:=z9;subst e1 e2;exact ⟨by rw [ug9];exact h1,_,rfl⟩
 ·rintro acc t ⟨h1,z,rfl⟩;exact ⟨by simpa using h1,rfl⟩
mutual
noncomputable def sz:D->Nat
 | .tup xs=>szs xs + 1
 | .lst xs=>szs xs + 1
 | _=>1
noncomputable def szs:List D->Nat
 | []=>0
 | d :: r=>sz d + szs r
end
theorem Vp {y:Str}(h:x.cps.toList=y.cps.toList):x=y:=by
 cases x;cases y
 congr
 exact Array.toList_inj.mp h
mutual
noncomputable def wf:Sh->Bool
 | .nothing=>true
 | .number lo hi=>decide (-1000000000000000000 < lo) && decide (lo<=hi) && decide (hi < 1000000000000000000)
 | .text m=>decide (0<=m) && decide (m<=250)
 | .list s m=>decide (0<=m) && decide (m<=250) && wf s
 | .pair s r=>wf s && wf r
 | .choice ss=>decide (1<=ss.length) && decide (ss.length<=9) && wfs ss
noncomputable def wfs:List Sh->Bool
 | []=>true
 | s :: r=>wf s && wfs r
end
mutual
noncomputable def cnt:Sh->Nat
 | .list s _=>cnt s + 1
 | .pair s r=>cnt s + cnt r + 1
 | .choice ss=>VW ss + 1
 | _=>1
noncomputable def VW:List Sh->Nat
 | []=>0
 | s :: r=>cnt s + VW r
end
theorem Ep:∀{ss:List Sh},wfs ss=true->∀s∈ss,wf s=true
 | x :: r,h,s,m=>by
   rw [wfs,uh8] at h;rcases ul4.mp m with z | z
   ·subst z;exact h.1
   ·exact Ep h.2 s z
theorem Rx:∀{ss:List Sh},(∀s∈ss,wf s=true)->wfs ss=true
 | [],_=>rfl
 | x :: r,h=>by rw [wfs,h x uf3,Rx λs m=>h s (ud9 _ m)];rfl
theorem NS:∀ss:List Sh,shD ss=ss.map Sh.d
 | []=>rfl
 | s :: r=>by rw [shD,NS r];rfl
theorem LJ:∀{ss:List Sh} {s:Sh},s∈ss->s.depth<=EZ ss
 | x :: r,s,m=>by
   rw [EZ];rcases ul4.mp m with z | z
   ·subst z;lia
   ·have:=LJ z;lia
variable {xs:List D}
theorem Gi (h0:0<=i)(h1:i < xs.length){p:D->Prop}(h:∀d∈xs,p d):∃d,atI xs i=some d/\p d:=by
 obtain ⟨d,e,m,_⟩:=T4 h0 h1;exact ⟨d,e,h d m⟩
def O2 (k c l:Nat)(S S':List Ob):Prop:=S'.length=S.length/\∀j:Nat,j≠k->j≠c->j≠l->S'[j]?=S[j]?
noncomputable def PP (deep:Int):Int:=if deep < 2 then 0 else 2 * deep + 4
def bd (deep x:Int):Int:=if deep < 2 then 1 else max x 1 + PP deep - (if deep + 1<=x then 1 else 0)
def tb (deep y i:Int):Int:=if deep=2 then i else if i=0 then 0 else y + PP (deep - 1) + i - 1 - (if deep<=y then 1 else 0)
structure ShapeRes (k c l:Nat)(S:List Ob)(deep x:Int)(s:Sh)(S':List Ob):Prop where
 w:wf s=true
 dep:(s.depth:Int)<=max deep 1
 lft:S'[l]?=some (.lst [.int (x - cnt s)])
 one:x<=1->cnt s=1
 few:(cnt s:Int)<=max x 1 + PP deep
 deck:DeckAt k c S'
 kp:O2 k c l S S'
 few2:(cnt s:Int)<=bd deep x
theorem Wo {k:Int}:(Txt.mul ⟨#[n]⟩ k).cps.toList=List.replicate k.toNat n:=by rw [QO];exact Va n k.toNat
theorem Sc {k:Int}:(Txt.mul ⟨#[n]⟩ k).length=k.toNat:=by rw [E8,Wo,ud4]
structure Sep (ks:List (Nat×Nat)):Prop where
 sep:∀p∈ks,∀q∈ks,p=q\/(q.1≠p.1/\q.1≠p.2/\q.2≠p.1/\q.2≠p.2)
mutual
noncomputable def dpt:D->Nat
 | .lst ds=>FG ds + 1
 | .tup ds=>FG ds + 1
 | _=>1
noncomputable def FG:List D->Nat
 | []=>0
 | d :: r=>max (dpt d) (FG r)
end
theorem OC:∀{ds:List D} {n:Nat},(∀d∈ds,dpt d<=n)->FG ds<=n
 | [],n,_=>by simp [FG]
 | x :: r,n,h=>by
   rw [FG];have h1:=h x uf3;have h2:=OC λd m=>h d (ud9 _ m);lia
theorem OB (d:D):0 < dpt d:=by cases d <;> simp [dpt]
mutual
noncomputable def smD:D->Bool
 | .str x=>decide (x.length<=300)
 | .int i=>decide (-1000000000000000000000000 < i) && decide (i < 1000000000000000000000000)
 | .tup xs=>decide (xs.length<=300) && sms xs
 | .lst xs=>decide (xs.length<=300) && sms xs
 | .obj _=>false
 | .scr _=>false
 | .ty _=>false
 | .exc _ _=>false
 | _=>true
noncomputable def sms:List D->Bool
 | []=>true
 | d :: r=>smD d && sms r
end
theorem Rf:∀{xs:List D},(∀d∈xs,smD d=true)->sms xs=true
 | [],_=>rfl
 | x :: r,h=>by
   rw [sms,uh8];exact ⟨h x uf3,Rf λd m=>h d (ud9 _ m)⟩
mutual
theorem TM:∀{d:D},smD d=true->okD d=true
 | .str x,h=>by rw [smD,uh3] at h;rw [okD,uh3];lia
 | .tup xs,h=>by rw [smD,uh8] at h;rw [okD];exact NW h.2
 | .lst xs,h=>by rw [smD,uh8] at h;rw [okD];exact NW h.2
 | .obj _,h=>by simp [smD] at h
 | .scr _,h=>by simp [smD] at h
 | .ty _,h=>by simp [smD] at h
 | .non,_=>by simp [okD]
 | .bl _,_=>by simp [okD]
 | .int _,_=>by simp [okD]
 | .dic,_=>by simp [okD]
theorem NW:∀{xs:List D},sms xs=true->oks xs=true
 | [],_=>by simp [oks]
 | d :: r,h=>by rw [sms,uh8] at h;rw [oks,uh8];exact ⟨TM h.1,NW h.2⟩
end
theorem E4 {f:D->D->Option Bool}:∀{xs:List D},(∀d∈xs,f d d=some true)->DC f xs xs=some true
 | [],_=>rfl
 | x :: r,h=>by
   rw [DC,h x uf3,E4 λd m=>h d (ud9 _ m)];rfl
theorem DO:∀(n:Nat) (d:D),dpt d<=n->smD d=true->d≠.dic->(∀xs,d = .lst xs\/d = .tup xs->∀x∈xs,eqN (n - 1) x x=some true)->eqN n d d=some true
 | 0,d,hd,_,_,_=>absurd hd (by have:=OB d;lia)
 | n + 1,.lst xs,_,_,_,h=>by
   rw [eqN,if_pos rfl];exact E4 (h xs (.inl rfl))
 | n + 1,.tup xs,_,_,_,h=>by
   have e:DC (eqN n) xs xs=some true:=E4 (h xs (.inr rfl));rw [eqN,e];simp
 | n + 1,.non,_,_,_,_=>rfl
 | n + 1,.bl b,_,_,_,_=>by show some (b == b)=some true;rw [ui8]
 | n + 1,.int b,_,_,_,_=>by show some (b == b)=some true;rw [ui8]
 | n + 1,.str b,_,_,_,_=>by show some (b == b)=some true;rw [ui8]
 | n + 1,.dic,_,_,h,_=>absurd rfl h
 | n + 1,.obj _,_,h,_,_=>by simp [smD] at h
 | n + 1,.scr _,_,h,_,_=>by simp [smD] at h
 | n + 1,.ty _,_,h,_,_=>by simp [smD] at h
theorem Gs:∀(n:Nat) (s:Sh),s.depth<=n->wf s=true->∀d,Aw s d=true->smD d=true/\dpt d<=s.depth/\∀m,s.depth<=m->eqN m d d=some true
 | 0,s,h,_,_,_=>absurd s.depth_pos (by lia)
 | n + 1,s,hs,hw,d,hf=>by
   have l2:(Str.ofString "of").length<=300:=by decide +kernel
   cases s with
   | nothing=>
     cases d <;> simp [Aw,HZ] at hf
     refine ⟨rfl,by simp [dpt,Sh.depth],λm hm=>?_⟩;have:=(Sh.nothing).depth_pos;obtain ⟨m,rfl⟩:∃k,m=k + 1:=⟨m - 1,by lia⟩;exact DO _ _ (by simp [dpt]) rfl (by simp) (by simp)
   | number lo hi=>
     simp only [wf,uh8,uh3] at hw
     cases d <;> simp [Aw] at hf
     rename_i i;have sm:smD (.int i)=true:=by
      simp only [smD,uh8,uh3];lia
     refine ⟨sm,by simp [dpt,Sh.depth],λm hm=>?_⟩;rw [Sh.depth] at hm;obtain ⟨m,rfl⟩:∃k,m=k + 1:=⟨m - 1,by lia⟩;exact DO _ _ (by simp [dpt]) sm (by simp) (by simp)
   | text q=>
     simp only [wf,uh8,uh3] at hw
     cases d <;> simp [Aw] at hf
     rename_i x;have sm:smD (.str x)=true:=by
      simp only [smD,uh3];lia
     refine ⟨sm,by simp [dpt,Sh.depth],λm hm=>?_⟩;rw [Sh.depth] at hm;obtain ⟨m,rfl⟩:∃k,m=k + 1:=⟨m - 1,by lia⟩;exact DO _ _ (by simp [dpt]) sm (by simp) (by simp)
   | list s q=>
     simp only [wf,uh8,uh3] at hw;rw [Sh.depth] at hs
     cases d <;> simp only [Aw,uf8] at hf
     rename_i ds;rw [uh8,uh3,ui3] at hf;have ih:=λd m=>Gs n s (by lia) hw.2 d (hf.2 d m);have sm:smD (.lst ds)=true:=by
      rw [smD,uh8,uh3];exact ⟨by lia,Rf λd m=>(ih d m).1⟩
     have dd:FG ds<=s.depth:=OC λd m=>(ih d m).2.1;refine ⟨sm,by rw [dpt,Sh.depth];lia,λm hm=>?_⟩;rw [Sh.depth] at hm;obtain ⟨m,rfl⟩:∃k,m=k + 1:=⟨m - 1,by lia⟩;refine DO _ _ (by rw [dpt];lia) sm (by simp) λxs e x hx=>?_;rcases e with e | e
     ·cases e;exact (ih x hx).2.2 m (by lia)
     ·cases e
   | pair s r=>
     simp only [wf,uh8] at hw;rw [Sh.depth] at hs;unfold Aw at hf
     split at hf
     case h_2=>cases hf
     case h_1 a b=>
      rw [uh8] at hf;have i1:=Gs n s (by lia) hw.1 a hf.1;have i2:=Gs n r (by lia) hw.2 b hf.2;have sm:smD (.tup [a,b])=true:=by simp [smD,sms,i1.1,i2.1]
      have h1:=i1.2.1;have h2:=i2.2.1;refine ⟨sm,by simp only [dpt,FG,Sh.depth];lia,λm hm=>?_⟩;rw [Sh.depth] at hm;obtain ⟨m,rfl⟩:∃k,m=k + 1:=⟨m - 1,by lia⟩;refine DO _ _ (by simp only [dpt,FG];lia) sm (by simp) λxs e x hx=>?_;rcases e with e | e
      ·cases e
      ·cases e
       simp only [ul4,ui4,or_false] at hx;rcases hx with rfl | rfl
       ·exact i1.2.2 m (by lia)
       ·exact i2.2.2 m (by lia)
   | choice ss=>
     simp only [wf,uh8,uh3] at hw;rw [Sh.depth] at hs;unfold Aw at hf
     split at hf
     case h_2=>cases hf
     case h_1 o k x=>
      simp only [uh8,uh3] at hf;obtain ⟨⟨ho,k0,k1⟩,hf⟩:=hf;have hk:k.toNat < ss.length:=by lia
      have e1:ss[k.toNat]?=some ss[k.toNat]:=ub7 hk;rw [Dm ss _ _ _ e1] at hf;have hd:=Do ss _ _ e1;have ih:=Gs n _ (by lia) (Ep hw.2 _ (ui5 hk)) x hf;have ho':o.length<=300:=by
       have:o=("of" : Str):=by simpa [GY] using ho
       subst this;exact l2
      have sm:smD (.tup [.str o,.int k,x])=true:=by
       simp only [smD,sms,ih.1,Bool.and_true,uh8,uh3,uh9,uj9];lia
      have h1:=ih.2.1;have h2:=OB x;have p1:=(ss[k.toNat]).depth_pos;refine ⟨sm,by simp only [dpt,FG,Sh.depth];lia,λm hm=>?_⟩;rw [Sh.depth] at hm;obtain ⟨m,rfl⟩:∃k,m=k + 1:=⟨m - 1,by lia⟩;refine DO _ _ (by simp only [dpt,FG];lia) sm (by simp) λxs e y hy=>?_;rcases e with e | e
      ·cases e
      ·cases e
       obtain ⟨m',rfl⟩:∃k,m=k + 1:=⟨m - 1,by lia⟩;simp only [ul4,ui4,or_false] at hy;rcases hy with rfl | rfl | rfl
       ·exact DO _ _ (by simp [dpt]) (by simp [smD,ho']) (by simp) (by simp)
       ·exact DO _ _ (by simp [dpt]) (by simp only [smD,uh8,uh3];lia) (by simp) (by simp)
       ·exact ih.2.2 _ (by lia)
variable {t:T}{P:D->T->Prop}
theorem Vz {d:D}{g:Bool->Bool}(h0:Nd d=false)(h:eqN EQD d d=some true)(p:P (.bl (g true)) t):W (eqS g d d) t P:=⟨_,_,by simp [eqS,h0,h],p⟩
variable {f:M D}
theorem Yo {g:M (List D)}(h:W f t λo t1=>W g t1 λas t2=>∃z ds ys,o = .str z/\as=[.lst ds]/\FZ ds=some ys/\(z.length<=8/\ys.length<=1048576)/\P (.str (Txt.join z ys)) t2):W (joinM f g) t P:=by
 refine DZ (h.mono λo t1 h1=>DZ (h1.mono λas t2 h2=>?_));obtain ⟨z,ds,ys,rfl,rfl,e,hl,p⟩:=h2;refine ⟨_,_,?_,p⟩;simp only [e];rw [if_pos hl]
theorem HJ:∀ns:List Nat,FZ (ns.map λn=>D.str ⟨#[n]⟩)=some (ns.map λn=>(⟨#[n]⟩:Str))
 | []=>rfl
 | n :: r=>by
   rw [ul7,FZ,if_pos (ud6 rfl),HJ r];rfl
theorem JY:∀(ns:List Nat) (acc:Array Nat),((ns.map λn=>(⟨#[n]⟩:Str)).foldl (λacc p=>acc++(Str.ofString "").cps++p.cps) acc).toList=acc.toList++ns
 | [],acc=>by simp
 | n :: r,acc=>by
   have e:(Str.ofString "").cps=#[]:=by decide +kernel
   rw [ul7,uj6,JY r,e];simp
theorem J0 (ns:List Nat):(Txt.join (Str.ofString "") (ns.map λn=>(⟨#[n]⟩:Str))).cps.toList=ns:=by
 show (List.foldl (λ(acc:Array Nat) (p:Str)=>acc++(Str.ofString "").cps++p.cps) (((ns.map λn=>(⟨#[n]⟩:Str)).headD Str.empty).cps) ((ns.map λn=>(⟨#[n]⟩:Str)).drop 1)).toList=ns
 cases ns with
 | nil=>rfl
 | cons n r=>
   rw [ul7,List.drop_one,List.tail_cons,JY];rfl
structure ValueRes (k c l:Nat)(S:List Ob)(s:Sh)(r:D)(S':List Ob):Prop where
 fit:Aw s r=true
 lft:∃a b:Int,S'[l]?=some (.lst [.int a,.int b])
 deck:DeckAt k c S'
 kp:O2 k c l S S'
theorem IB {f:M (List D)}{P:Out->T->Prop}(h:W f t λds t1=>P (.ret (.lst ds)) t1):W (HE f) t P:=W_bnd.mpr (h.mono λ_ _ p=>W_ret.mpr p)
theorem GF {g:Fn}{f:M (List D)}{P:List D->T->Prop}(h:W f t λds t1=>Wf g ds t1.S λr S'=>∃rs,r = .lst rs/\P rs ⟨t1.env,S'⟩):W (Ev g f) t P:=by
 refine W_bnd.mpr (h.mono λds t1 z9=>?_);obtain ⟨r,S',e,rs,er,p⟩:=z9;subst er;exact ⟨rs,⟨t1.env,S'⟩,by simp only [e],p⟩
theorem VF {i:Nat}{P:Out->T->Prop}(e:t.env[i]?=some (some (.own xs)))(h:P (.ret (.lst xs)) ⟨t.env.set i none,t.S⟩):W (HF i) t P:=⟨_,_,by simp only [HF,e],h⟩
theorem Yh (h:P (.int (Builtin.Int.intBits i:Nat)) t):W (Mi (.int i)) t P:=⟨_,_,rfl,h⟩
theorem ZZ {j:Int}(h0:0<=j)(h:P (.int (i / 2 ^ j.toNat)) t):W (PN (.int i) (.int j)) t P:=⟨_,_,by simp [PN,i2C,h0],h⟩
variable {ys:List D}{t1:T}
theorem ZC {i:Nat}{A:List D->Prop}(e:t1.env[i]?=some (some (.own xs)))(l:xs.length + ys.length<=LIM)(w:A (xs++ys)):∃xs,t1.env[i]?=some (some (.own xs))/\∃zs,IP xs [.lst ys]=some zs/\A zs:=
 ⟨xs,e,xs++ys,by simp [IP,l],w⟩
theorem GH {f:M Bool}{b:M Out}{P:Out->T->Prop}(I:Nat->T->Prop)(turn:∀n t,I n t->W f t λk t1=>match k with
 | true=>∃m,n=m + 1/\W b t1 λo t2=>match o with
   | .next=>I m t2
   | .cont=>I m t2
   | .brk=>P .next t2
   | .ret x=>P (.ret x) t2
 | false=>P .next t1):∀(fuel n:Nat) (t:T),n < fuel->I n t->W (DA f b fuel) t P
 | 0,n,t,h,_=>absurd h (uk3 _)
 | fuel + 1,n,t,h,i=>by
   obtain ⟨k,t1,e1,p⟩:=turn n t i
   cases k with
   | false=>exact ⟨_,_,by simp only [DA,e1],p⟩
   | true=>
     obtain ⟨m,rfl,o,t2,e2,p⟩:=p
     cases o with
     | next=>obtain ⟨o,t',e',p⟩:=GH I turn fuel m t2 (by lia) p;exact ⟨o,t',by simp only [DA,e1,e2];exact e',p⟩
     | cont=>obtain ⟨o,t',e',p⟩:=GH I turn fuel m t2 (by lia) p;exact ⟨o,t',by simp only [DA,e1,e2];exact e',p⟩
     | brk=>exact ⟨_,_,by simp only [DA,e1,e2],p⟩
     | ret x=>exact ⟨_,_,by simp only [DA,e1,e2],p⟩
noncomputable def wid (n:Nat):Nat:=if n=0 then 0 else n.log2 / 8 + 1
theorem QL (h:2<=n):n.log2=(n / 2).log2 + 1:=by rw [Nat.log2_def,if_pos h]
theorem Sf (h:n < 2):n.log2=0:=by rw [Nat.log2_def,if_neg (by lia)]
theorem Ni:∀(k:Nat) {n:Nat},2 ^ k<=n->n.log2=(n / 2 ^ k).log2 + k
 | 0,n,_=>by rw [Nat.pow_zero,Nat.div_one,Nat.add_zero]
 | k + 1,n,h=>by
   have h2:2 ^ k * 2<=n:=by rw [<-un0];exact h
   have h3:2<=n / 2 ^ k:=(Nat.le_div_iff_mul_le (Nat.pow_pos (by decide))).mpr (by rw [um8];exact h2);rw [Ni k (um5 (Nat.le_mul_of_pos_right _ (by decide)) h2),QL h3,ud1,<-un0,um0,Nat.add_comm 1 k]
theorem Sd (h:256<=n):n.log2=(n / 256).log2 + 8:=Ni 8 h
theorem Se (h:n < 256):n.log2 < 8:=by
 by_cases z:n=0
 ·subst z;rw [Sf (by lia)];lia
 ·exact (Nat.log2_lt z).mpr h
theorem Jw (h:0 < n):wid n=wid (n / 256) + 1:=by
 unfold wid;rw [if_neg (by lia)]
 by_cases z:n < 256
 ·have:=Se z;rw [if_pos (by lia)];lia
 ·rw [if_neg (by lia),Sd (by lia)];lia
theorem KB:∀(k n:Nat),n < 256 ^ k->wid n<=k
 | 0,n,h=>by
   have:n=0:=by simpa using h
   subst this;decide
 | k + 1,n,h=>by
   by_cases z:n=0
   ·subst z;exact un7 _
   ·rw [Jw (by lia)];have:=KB k (n / 256) (Nat.div_lt_of_lt_mul (by rw [un0] at h;lia));lia
theorem RV (n:Nat):((Builtin.Int.intBits (n:Int):Nat) + 7) / 8=wid n:=by
 unfold Builtin.Int.intBits wid
 by_cases z:n=0
 ·subst z;rfl
 ·have:((n:Int) == 0)=false:=by simp;exact z
  rw [this,if_neg (by simp),if_neg z,Int.natAbs_natCast];lia
noncomputable def nb:Nat->Nat->List D
 | 0,_=>[]
 | w + 1,n=>nb w (n / 256)++[.int ((n % 256:Nat):Int)]
theorem Nr:∀w n,(nb w n).length=w
 | 0,n=>rfl
 | w + 1,n=>by rw [nb,uf7,Nr];rfl
theorem QR:∀w n:Nat,(List.range w).map (λk=>D.int ((n / 2 ^ (8 * (w - 1 - k)) % 256:Nat):Int))=nb w n
 | 0,n=>rfl
 | w + 1,n=>by
   rw [List.range_succ,uk4,nb,<-QR w (n / 256)]
   congr 1
   ·refine ue8 λk hk=>?_;rw [uk8] at hk;have e:8 * (w + 1 - 1 - k)=8 + 8 * (w - 1 - k):=by lia
    rw [e,Nat.pow_add,ud1]
   ·simp
mutual
def Bb:Sh->D->List D
 | .nothing,_=>[]
 | .number lo hi,d=>match d with
   | .int i=>nb (wid (hi - lo).toNat) (i - lo).toNat
   | _=>[]
 | .text _,d=>match d with
   | .str x=>.int (x.length:Nat) :: x.cps.toList.map λn=>D.int (n:Nat)
   | _=>[]
 | .list s _,d=>match d with
   | .lst ds=>.int (ds.length:Nat) :: (ds.map λd=>Bb s d).flatten
   | _=>[]
 | .pair s r,d=>match d with
   | .tup [a,b]=>Bb s a++Bb r b
   | _=>[]
 | .choice ss,d=>match d with
   | .tup [_,.int k,x]=>.int k :: JC ss k.toNat x
   | _=>[]
def JC:List Sh->Nat->D->List D
 | [],_,_=>[]
 | s :: _,0,d=>Bb s d
 | _ :: r,k + 1,d=>JC r k d
end
theorem E1:∀(ss:List Sh) (k:Nat) (s:Sh) (d:D),ss[k]?=some s->JC ss k d=Bb s d
 | [],k,s,d,h=>by simp at h
 | s :: r,0,s',d,h=>by simp at h;subst h;simp [JC]
 | s :: r,k + 1,s',d,h=>by rw [JC];exact E1 r k s' d (by simpa using h)
def HL (f:Fn)(n:Nat):Prop:=∀(s:Sh),s.depth<=n->wf s=true->∀d,Aw s d=true->(Bb s d).length<=LIM->Pure1 f [s.d,d] (.lst (Bb s d))
def Hj (f:Fn):Prop:=∀(n j:Nat),j<=1000->Pure1 f [.int n,.int j] (.int ((n / 2 ^ (8 * j):Nat):Int))
theorem Ut:Hj (fnOf 2 2 F9):=by
 intro n j hj S;refine A1 rfl ?_;unfold F9;right;refine Iy (Gx (by decide) (by decide)) ?_;refine ZZ (by lia) ?_;refine ⟨?_,rfl⟩;have:(8 * (j:Int)).toNat=8 * j:=by lia
 rw [this];simp
def Jz (f:Fn):Prop:=∀n:Nat,n < 256 ^ 9->Pure1 f [.int n] (.int (wid n:Nat))
theorem Tj:Jz (fnOf 1 1 Eb):=by
 intro n _ S;refine A1 rfl ?_;unfold Eb;right;refine Yh ?_;right;refine ⟨?_,rfl⟩;rw [<-RV];simp
def Mw (f:Fn):Prop:=∀(n w:Nat),w<=1000->Pure1 f [.int n,.int w] (.lst (nb w n))
theorem Li (i:Int)(n:Nat):rngL i n=(List.range n).map λk:Nat=>D.int (i + k):=by
 rfl
theorem UG (hc:Hj c):Mw (fnOf 2 2 (DT c)):=by
 intro n w hw S;have hL:LIM=100000:=rfl;refine A1 rfl ?_;unfold DT;refine IB ?_;right;refine Th (by rw [CT (by decide) (by decide),CT (by lia) (by lia)];rfl) ?_;refine (Lq (f:=λd=>match d with | .int k=>.int ((n / 2 ^ (8 * (w - k.toNat)) % 256:Nat):Int) | _=>d) (fr:=[some (.val (.int n)),some (.val (.int w))]) ?_).mono ?_
 ·intro d m;rw [Li] at m;obtain ⟨k,hk,rfl⟩:=un1.mp m;rw [uk8] at hk;right;have e:((w:Int) - (1 + (k:Int)))=((w - (1 + k):Nat):Int):=by lia
  rw [e];refine (hc n (w - (1 + k)) (by lia)).use ?_;right;refine ⟨?_,rfl⟩;have e2:(1 + (k:Int)).toNat=1 + k:=by lia
  dsimp only;rw [e2];simp
 ·rintro xs t' ⟨rfl,hS⟩;have hn:((w:Int) + 1 - 1).toNat=w:=by lia
  rw [Li,hn];refine CI (by simp only [uj5,List.length_range,hL];lia) ?_;refine ⟨?_,hS⟩;rw [<-QR w n,un2]
  congr 1
  refine ue8 λk hk=>?_;rw [uk8] at hk;have e2:(1 + (k:Int)).toNat=1 + k:=by lia
  have e3:w - (1 + k)=w - 1 - k:=by lia
  simp only [Function.comp,e2,e3]
variable {lo hi:Int}
theorem OY (h:wf (.number lo hi)=true):(hi - lo).toNat < 256 ^ 9:=by
 simp only [wf,uh8,uh3] at h;have:(256:Nat) ^ 9=4722366482869645213696:=by decide
 lia
theorem Qf (x:Str):(x.cps.toList.map λc=>D.str ⟨#[c]⟩).map (λd=>match d with | .str y=>D.int (y.cps.getD 0 0:Nat) | _=>d)=x.cps.toList.map λn=>D.int (n:Nat):=by
 rw [un2];refine ue8 λn _=>?_;rfl
theorem Uf {cn:Fn}(hc:HL c n)(hw:Jz cw)(hn:Mw cn):HL (fnOf 2 5 (DI c cw cn)) (n + 1):=by
 intro s hs hwf d hf hlen S;have hL:LIM=100000:=rfl;refine A1 rfl ?_;unfold DI
 cases s with
 | nothing=>
   rw [Sh.d];right;refine IB ?_;right;exact ⟨by rw [Bb],rfl⟩
 | number lo hi=>
   have hsp:=OY hwf;have hwd:=KB 9 _ hsp;simp only [wf,uh8,uh3] at hwf
   cases d <;> simp [Aw] at hf
   rename_i i;rw [Sh.d];right;refine IB (GF ?_);right;have e1:hi - lo=(((hi - lo).toNat:Nat):Int):=by lia
   have e2:i - lo=(((i - lo).toNat:Nat):Int):=by lia
   rw [e1,e2];refine (hw _ hsp).use ?_;right;refine (hn _ _ (by lia)).use ?_;exact ⟨_,rfl,by rw [Bb],rfl⟩
 | text q=>
   simp only [wf,uh8,uh3] at hwf
   cases d <;> simp [Aw] at hf
   rename_i x;rw [Sh.d];right;refine IB ?_;refine DZ ?_;right;refine TX (by rw [hL];lia) ?_;right;refine (Lq (f:=λd=>match d with | .str y=>D.int (y.cps.getD 0 0:Nat) | _=>d) (fr:=[]) ?_).mono ?_
   ·intro d m;obtain ⟨k,hk,rfl⟩:=un1.mp m;right;refine Xt rfl ?_;exact ⟨rfl,rfl⟩
   ·rintro xs t' ⟨rfl,hS⟩;rw [Qf];have hl:x.cps.toList.length<=250:=by rw [<-E8];lia
    refine CI (by rw [uj5,hL];lia) ?_;right;refine CI (by simp only [uj5,uh9,uj9,hL];lia) ?_;exact ⟨by rw [Bb];rfl,hS⟩
 | list s q=>
   simp only [wf,uh8,uh3] at hwf;rw [Sh.depth] at hs
   cases d <;> simp only [Aw,uf8] at hf
   rename_i ds;rw [uh8,uh3,ui3] at hf;rw [Bb] at hlen ⊢;rw [Sh.d];right;refine Dp (λr t=>∃(z:Option Sl) (acc:List D),t=⟨[some (.val (.tup [.str "list",s.d,.int q])),some (.val (.lst ds)),some (.val (.str "list")),some (.own acc),z],S⟩/\acc++(r.map λd=>Bb s d).flatten = .int (ds.length:Nat) :: (ds.map λd=>Bb s d).flatten) _ _ ⟨_,_,rfl,rfl⟩ ?_ ?_
   ·rintro d r t ⟨z,acc,rfl,hacc⟩ m;rw [ul7,ug8,<-ug9] at hacc;have hl:acc.length + (Bb s d).length<=LIM:=by
     have:=congrArg List.length hacc;rw [uf7,uf7] at this;lia
    right;refine GF ?_;right;refine (hc s (ud2 hs) hwf.2 d (hf.2 d m) (um5 (Nat.le_add_left _ _) hl)).use ⟨_,rfl,?_⟩;right;refine ZC rfl hl ?_;exact ⟨_,_,rfl,hacc⟩
   ·rintro t ⟨z,acc,rfl,hacc⟩;rw [um9,List.flatten_nil,uj2] at hacc;right;refine VF rfl ?_;exact ⟨by rw [hacc],rfl⟩
 | pair s r=>
   simp only [wf,uh8] at hwf;rw [Sh.depth] at hs;unfold Aw at hf
   split at hf
   case h_2=>cases hf
   case h_1 a b=>
    rw [uh8] at hf;rw [Bb] at hlen ⊢;rw [uf7] at hlen;rw [Sh.d];right;refine IB ?_;refine DZ ?_;right;refine GF ?_;right;refine (hc s (um5 (Nat.le_max_left _ _) (ud2 hs)) hwf.1 a hf.1 (um5 (ui2 _ _) hlen)).use ⟨_,rfl,?_⟩;refine DZ ?_;right;refine GF ?_;right;refine (hc r (um5 (Nat.le_max_right _ _) (ud2 hs)) hwf.2 b hf.2 (um5 (Nat.le_add_left _ _) hlen)).use ⟨_,rfl,?_⟩;right;refine CI hlen ?_;exact ⟨rfl,rfl⟩
 | choice ss=>
   simp only [wf,uh8,uh3] at hwf;rw [Sh.depth] at hs;unfold Aw at hf
   split at hf
   case h_2=>cases hf
   case h_1 o k x=>
    simp only [uh8,uh3] at hf;obtain ⟨⟨ho,k0,k1⟩,hf⟩:=hf;have hk:k.toNat < ss.length:=by lia
    have e1:ss[k.toNat]?=some ss[k.toNat]:=ub7 hk;have hl:=En ss;have e2:atI (shD ss) k=some (ss[k.toNat]).d:=by
     unfold atI;rw [Cn k0 (by lia)];show (shD ss)[k.toNat]?=_;rw [GC,e1];rfl
    rw [Dm ss _ _ _ e1] at hf;rw [Bb] at hlen ⊢;rw [E1 ss _ _ _ e1] at hlen ⊢;rw [uh9] at hlen;rw [Sh.d];right;refine IB ?_;right;refine GF ?_;right;refine Gm e2 ?_;right;refine (hc _ (um5 (Do ss _ _ e1) (ud2 hs)) (Ep hwf.2 _ (ui5 hk)) x hf (Nat.le_of_succ_le hlen)).use ⟨_,rfl,?_⟩;right;refine CI (by simp only [uh9,uj9];lia) ?_;exact ⟨rfl,rfl⟩
theorem Kq (a:Int)(n:Nat):(rngL a n).length=n:=by simp [rngL]
variable {j:Nat}
theorem Ld {a:Int}{d:D}{r:List D}(e:d :: r=(rngL a n).drop j):d = .int (a + j)/\r=(rngL a n).drop (j + 1)/\j < n:=by
 have hj:j < (rngL a n).length:=by
  rcases Nat.lt_or_ge j (rngL a n).length with h | h
  ·exact h
  ·rw [List.drop_eq_nil_of_le h] at e;cases e
 rw [ub4 hj] at e;injection e with e1 e2
 rw [Kq] at hj;refine ⟨?_,e2,hj⟩;rw [e1];simp [rngL]
noncomputable def sgs:Str:=" !\"#$ &'()*+,-./0123456789:;<=>?@ABCDEFGHIJKLMNOPQRSTUVWXYZ[\\]^_`abcdefghijklmnopqrstuvwxyz{|}~"
theorem W9 {c:Nat}(h:Ch c=true):atI sgs.cps.toList ((c:Int) - 32)=some c:=by
 have hl:sgs.cps.toList.length=95:=by decide +kernel
 have hall:(List.range 127).all (λc=>!Ch c || decide (sgs.cps.toList[c - 32]?=some c))=true:=by decide +kernel
 have h':=h;simp only [Ch,uh8,uh3] at h';have:=ui3.mp hall c (uk8.mpr (by lia));rw [h,Bool.not_true,Bool.false_or,uh3] at this;rw [show ((c:Int) - 32)=((c - 32:Nat):Int) by lia];exact KK this
variable {h:D->M Out}{n':Str}
section
variable {t:T}{P:D->T->Prop}{R:Out->T->Prop}
def Tb (h:D->M Out)(R:Out->T->Prop)(o:Out)(t1:T):Prop:=match o with
 | .ret (.exc n ds)=>n∈Ca/\W (h (.exc n ds)) t1 R
 | o=>R o t1
theorem Z1 {b:M Out}(w:W b t (Tb h R)):W (Gk b h) t R:=by
 obtain ⟨o,t1,e,q⟩:=w;have rest:∀d,BR d=false->o = .ret d->W (Gk b h) t R:=λd hd ho=>by
  subst ho;refine ⟨.ret d,t1,?_,?_⟩
  ·unfold Gk;rw [e];cases d <;> first | rfl | cases hd
  ·cases d <;> first | exact q | cases hd
 cases o with
 | next=>exact ⟨.next,t1,by unfold Gk;rw [e],q⟩
 | brk=>exact ⟨.brk,t1,by unfold Gk;rw [e],q⟩
 | cont=>exact ⟨.cont,t1,by unfold Gk;rw [e],q⟩
 | ret d=>
   cases d with
   | exc n ds=>
     obtain ⟨hn,o2,t2,e2,q2⟩:=q;exact ⟨o2,t2,by unfold Gk;rw [e];dsimp only;rw [if_pos hn,e2],q2⟩
   | _=>exact rest _ rfl rfl
theorem Ro (q:R .next t1):Tb h R .next t1:=q
theorem Vr {n:Str}(e:n∈Ca)(q:W (h (.exc n ds)) t1 R):Tb h R (.ret (.exc n ds)) t1:=⟨e,q⟩
def xK (d:D)(A B:Prop):Prop:=if BR d=true then A else B
theorem YI {d:D}{A B:Prop}(e:BR d=false)(b:B):xK d A B:=by unfold xK;rw [if_neg (by rw [e];decide)];exact b
theorem YH {d:D}{A B:Prop}(e:BR d=true)(a:A):xK d A B:=by unfold xK;rw [if_pos e];exact a
theorem YB {i:Nat}(w:W f t λd t1=>xK d (R (.ret d) t1) (R .next ⟨t1.env.set i (some (.val d)),t1.S⟩)):W (DX i f) t R:=by
 refine DZ (w.mono λd t1 q=>?_);unfold xK at q
 split at q
 ·next h=>rw [if_pos h];exact ⟨_,_,rfl,q⟩
 ·next h=>rw [if_neg h];exact ⟨_,_,rfl,q⟩
theorem wNx (w:W f t λd t1=>BR d=false/\P d t1):W (nxD f) t P:=by
 refine DZ (w.mono λd t1 z9=>?_);obtain ⟨h,q⟩:=z9;rw [if_neg (by rw [h];decide)];exact ⟨_,_,rfl,q⟩
theorem Yi {g:M D}{h:D->M D}(w:W g t λy t1=>xK y (P y t1) (W (h y) t1 λd t2=>BR d=false/\P d t2)):W (KL g h) t P:=by
 refine DZ (w.mono λy t1 q=>?_);unfold xK at q
 split at q
 ·next z=>rw [if_pos z];exact ⟨_,_,rfl,q⟩
 ·next z=>rw [if_neg z];exact wNx q
theorem Yg {g:M D}{h:D->D->M D}(w:W f t λx t1=>W (KL g (h x)) t1 P):W (JO f g h) t P:=DZ w
theorem VB {n:Str}{f:M (List D)}(w:W f t λds t1=>ds.length<=1000/\R (.ret (.exc n [])) t1):W (HD n f) t R:=
 DZ (w.mono λds t1 ⟨e,q⟩=>by rw [if_pos e];exact ⟨_,_,rfl,q⟩)
theorem VD {n:Str}(w:W f t λ_ t1=>R (.ret (.exc n [])) t1):W (HD n (Ac f Aj)) t R:=VB (DL (w.mono λd t1 q=>Ju ⟨by show 1<=1000;decide,q⟩))
theorem ZG {n:Str}{i:Nat}{s:M Out}{r:D->M Out}(e:Fe n n'=true)(w:W s { t with env:=t.env.set i (some (.val (.exc n ds))) } λo t2=>R o (unE i t2)):W (hAs n' i s r (.exc n ds)) t R:=by
 obtain ⟨o,t2,e1,q⟩:=w;exact ⟨o,unE i t2,by unfold hAs;dsimp only;rw [if_pos e,e1],q⟩
theorem ZH {n:Str}{s:M Out}{r:D->M Out}(e:Fe n n'=true)(w:W s t R):W (hNo n' s r (.exc n ds)) t R:=by
 obtain ⟨o,t2,e1,q⟩:=w;exact ⟨o,t2,by unfold hNo;dsimp only;rw [if_pos e,e1],q⟩
theorem Yk {n:Str}{s:M Out}{r:D->M Out}(e:Fe n n'=false)(w:W (r (.exc n ds)) t R):W (hNo n' s r (.exc n ds)) t R:=by
 obtain ⟨o,t2,e1,q⟩:=w;exact ⟨o,t2,by unfold hNo;dsimp only;rw [if_neg (by rw [e];decide),e1],q⟩
theorem Yf {m n:Str}{d:D}(e:m∈Ca)(l:((IS m).zip ds).lookup n=some d)(q:P d t):W (MF n (.exc m ds)) t P:=⟨_,_,by unfold MF;dsimp only;rw [if_pos e,l];rfl,q⟩
theorem Mh {g:Fn}{Q:D->List Ob->Prop}(w:Wf g ds S λr S'=>BR r=false/\Q r S'):Wf (G2 g) ds S Q:=by
 obtain ⟨r,S',e,h,q⟩:=w;exact ⟨r,S',by unfold G2;rw [e];dsimp only;rw [if_neg (by rw [h];decide)],q⟩
end
theorem VC {n:Str}{g:M D}{R:Out->T->Prop}(w:W f t λa t1=>W g t1 λb t2=>R (.ret (.exc n [a,b])) t2):W (EB n (Ac f (Ac g Aj))) t R:=
 DZ (DL (w.mono λa t1 q=>DL (q.mono λb t2 q=>Ju ⟨_,_,rfl,q⟩)))
local macro_rules | `(tactic| walk_at "x1")=>`(tactic| first
 | walk_at "w1"
 | with_reducible refine Z1 ?_ | with_reducible refine YB ?_ | with_reducible refine wDropX ?_ | with_reducible refine wAsgX ?_ | with_reducible refine wNx ?_ | with_reducible refine Yg ?_ | with_reducible refine wBinY ?_ | with_reducible refine Yi ?_ | with_reducible refine wCallY ?_ | with_reducible refine Ro ?_
 | ((with_reducible refine' Vr ?wv ?_);(case wv=>decide)) | ((with_reducible refine' YI ?wv ?_);(case wv=>exact rfl)) | ((with_reducible refine' YH ?wv ?_);(case wv=>exact rfl))
 | with_reducible refine wRaiseT ?_ | with_reducible refine VD ?_ | ((with_reducible refine' ZG ?wv ?_);(case wv=>decide)) | ((with_reducible refine' wHAsN ?wv ?_);(case wv=>decide)) | ((with_reducible refine' ZH ?wv ?_);(case wv=>decide)) | ((with_reducible refine' Yk ?wv ?_);(case wv=>decide))
 | ((with_reducible refine' wIsiX ?wv ?_);(case wv=>decide)) | with_reducible refine wIsiXN ?_ | ((with_reducible refine' Yf ?wv ?wu ?_);(case wv=>decide);(case wu=>exact rfl)))
local macro_rules | `(tactic| left)=>`(tactic| repeat (walk_at "x1"))
inductive Rd where
 | done (v:D)
 | need (ok:Nat->Bool) (nx:Nat->Rd)
inductive RR where
 | told (v:D) (a:Nat)
 | short
 | broken (a:Nat)
noncomputable def Rd.run:Rd->List Nat->Nat->RR
 | .done v,_,a=>.told v a
 | .need ok nx,w,a=>match w[a]? with
   | none=>.short
   | some b=>if ok b=true then (nx b).run w (a + 1) else .broken a
noncomputable def Rd.bnd:Rd->(D->Rd)->Rd
 | .done v,k=>k v
 | .need ok nx,k=>.need ok λb=>(nx b).bnd k
def RR.thn (r:RR)(w:List Nat)(k:D->Rd):RR:=match r with
 | .told v a=>(k v).run w a
 | .short=>.short
 | .broken a=>.broken a
variable {w:List Nat}
theorem Cq {ok:Nat->Bool}{nx:Nat->Rd}{a:Nat}(h:w[a]?=none):(Rd.need ok nx).run w a = .short:=by rw [Rd.run,h]
theorem BW {ok:Nat->Bool}{nx:Nat->Rd}{a b:Nat}(h:w[a]?=some b):(Rd.need ok nx).run w a=if ok b=true then (nx b).run w (a + 1) else .broken a:=by rw [Rd.run,h]
theorem Em (k:D->Rd)(w:List Nat):∀(p:Rd) (a:Nat),(p.bnd k).run w a=(p.run w a).thn w k:=by
 intro p
 induction p with
 | done v=>intro a;rfl
 | need ok nx ih=>
   intro a;rw [Rd.bnd]
   cases h:w[a]? with
   | none=>rw [Cq h,Cq h];rfl
   | some b=>
     rw [BW h,BW h]
     by_cases q:ok b=true
     ·rw [if_pos q,if_pos q];exact ih b (a + 1)
     ·rw [if_neg q,if_neg q];rfl
variable {v:D}
theorem Ln {b:Nat}:∀(p:Rd) (a:Nat),a<=w.length->p.run w a = .told v b->a<=b/\b<=w.length:=by
 intro p
 induction p with
 | done v'=>intro a ha h;cases h;exact ⟨un6 _,ha⟩
 | need ok nx ih=>
   intro a ha h
   cases e:w[a]? with
   | none=>rw [Cq e] at h;cases h
   | some c=>
     rw [BW e] at h;have hl:=(ub2.mp e).1
     by_cases q:ok c=true
     ·rw [if_pos q] at h;have:=ih c (a + 1) hl h;lia
     ·rw [if_neg q] at h;cases h
def Rd.good:Rd->Prop
 | .done _=>True
 | .need ok nx=>(ok 0=true\/ok 32=true)/\∀b,ok b=true->(nx b).good
noncomputable def EL (lo:Int)(M:Nat):Nat->Nat->Rd
 | 0,x=>.done (.int (lo + x))
 | r + 1,x=>.need (λb=>decide (x * 256 + b<=M / 2 ^ (8 * r))) λb=>EL lo M r (x * 256 + b)
def FU:Nat->List Nat->Rd
 | 0,cs=>.done (.str ⟨cs.toArray⟩)
 | n + 1,cs=>.need Ch λc=>FU n (cs++[c])
def G5 (p:Rd):Nat->List D->Rd
 | 0,ds=>.done (.lst ds)
 | n + 1,ds=>p.bnd λv=>G5 p n (ds++[v])
def pSh:Nat->Sh->Rd
 | 0,_=>.done .non
 | _ + 1,.nothing=>.done .non
 | _ + 1,.number lo hi=>EL lo (hi - lo).toNat (wid (hi - lo).toNat) 0
 | _ + 1,.text q=>.need (λb=>decide ((b:Int)<=q)) λb=>FU b []
 | n + 1,.list s q=>.need (λb=>decide ((b:Int)<=q)) λb=>G5 (pSh n s) b []
 | n + 1,.pair s r=>(pSh n s).bnd λv=>(pSh n r).bnd λu=>.done (.tup [v,u])
 | n + 1,.choice ss=>.need (λb=>decide (b < ss.length)) λb=>(pSh n (ss.getD b .nothing)).bnd λv=>.done (.tup [.str "of",.int b,v])
mutual
noncomputable def plD:D->Bool
 | .lst xs=>pls xs
 | .tup xs=>pls xs
 | .obj _=>false
 | .scr _=>false
 | .ty _=>false
 | .exc _ _=>false
 | .dic=>false
 | _=>true
noncomputable def pls:List D->Bool
 | []=>true
 | d :: r=>plD d && pls r
end
theorem MV {k:Int}(h0:0<=k)(h1:k<=xs.length):Cu xs none (some k)=xs.take k.toNat:=by
 have:HT.sIx xs.length xs.length (some k)=k.toNat:=by simp only [HT.sIx];rw [if_neg (by lia)];lia
 unfold Cu;rw [this];simp [HT.sIx]
theorem RY {k:Int}(h0:0<=k)(h1:k<=xs.length):Cu xs (some k) none=xs.drop k.toNat:=by
 have:HT.sIx xs.length 0 (some k)=k.toNat:=by simp only [HT.sIx];rw [if_neg (by lia)];lia
 unfold Cu;rw [this];simp only [HT.sIx];rw [ud0 (by simp)]
noncomputable def pos (i:Int):Int:=if 0 < i then i else 0
structure ValueRes2 (k c l:Nat)(S:List Ob)(s:Sh)(a b:Int)(r:D)(S':List Ob):Prop where
 fit:Aw s r=true
 lft:∃a' b':Int,S'[l]?=some (.lst [.int a',.int b'])/\((Bb s r).length:Int)<=9 * (a - a') + (pos b - pos b')/\pos b'<=pos b/\1<=a - a'/\a - a'<=cnt s + (14 * (s.depth:Int)) * pos a
 deck:DeckAt k c S'
 kp:O2 k c l S S'
mutual
noncomputable def szE:D->Nat
 | .lst xs=>1 + SV xs
 | .tup xs=>1 + SV xs
 | _=>1
noncomputable def SV:List D->Nat
 | []=>0
 | d :: r=>szE d + SV r
end
structure VOk (s:Sh)(v:D):Prop where
 fit:Aw s v=true
 len:(Bb s v).length<=14809
local macro_rules | `(tactic| walk_at "y1")=>`(tactic| first | walk_at "x1" | with_reducible refine VC ?_)
local macro_rules | `(tactic| symm)=>`(tactic| repeat (walk_at "y1"))
noncomputable def wD (w:List Nat):List D:=w.map λ(n:Nat)=>D.int (n:Int)
theorem CV (w:List Nat):(wD w).length=w.length:=by unfold wD;rw [uj5]
theorem Rv {a b:Nat}(h:w[a]?=some b):(wD w)[a]?=some (.int (b:Int)):=by unfold wD;rw [ug6,h];rfl
abbrev exS:D:=.exc "Short" []
abbrev exB (a:Nat):D:=.exc "Broken" [.int (a:Int),.non]
noncomputable def rrD:RR->D
 | .told v b=>.tup [v,.int (b:Int)]
 | .short=>exS
 | .broken a=>exB a
noncomputable def byX:Option Nat->D
 | none=>exS
 | some b=>.int (b:Int)
noncomputable def upX (m:Int)(a:Nat):Option Nat->D
 | none=>exS
 | some b=>if (b:Int)<=m then .int (b:Int) else exB a
def sgX (a:Nat):Option Nat->D
 | none=>exS
 | some c=>if Ch c=true then .str ⟨#[c]⟩ else exB a
def BX (f:Fn):Prop:=∀(w:List Nat) (a:Nat),Pure1 f [.lst (wD w),.int (a:Int)] (byX w[a]?)
theorem XC:BX (fnOf 2 2 Ew):=by
 intro w a S;refine A1 rfl ?_;unfold Ew;have hl:=CV w
 cases h:w[a]? with
 | none=>
   have:=ub5.mp h;symm;refine Gh (ul2 (by lia)) ?_;symm;exact ⟨rfl,rfl⟩
 | some b=>
   obtain ⟨hj,_⟩:=ub2.mp h;symm;refine Ht (uk7 (by lia)) ?_;symm;refine B3 (KK (Rv h)) ?_;exact ⟨rfl,rfl,rfl⟩
def UX (f:Fn):Prop:=∀(m:Int) (w:List Nat) (a:Nat),Pure1 f [.int m,.lst (wD w),.int (a:Int)] (upX m a w[a]?)
theorem Ya (hc:BX c):UX (fnOf 3 4 (DG c)):=by
 intro m w a S;refine A1 rfl ?_;unfold DG;have hb:=hc w a
 cases h:w[a]? with
 | none=>
   rw [h,byX] at hb;symm;refine hb.use ?_;symm;exact ⟨rfl,rfl⟩
 | some b=>
   rw [h,byX] at hb;symm;refine hb.use ?_;symm;rw [upX]
   by_cases q:(b:Int)<=m
   ·rw [if_pos q];refine Ht (uk7 (by lia)) ?_;symm;exact ⟨rfl,rfl,rfl⟩
   ·rw [if_neg q];refine Gh (ul2 (by lia)) ?_;symm;exact ⟨rfl,rfl⟩
def SX (f:Fn):Prop:=∀(w:List Nat) (a:Nat),Pure1 f [.lst (wD w),.int (a:Int)] (sgX a w[a]?)
variable {cb:Fn}
theorem X0 {cs:Fn}(hs:Jy cs)(hb:BX cb):SX (fnOf 2 3 (Ey cs cb)):=by
 intro w a S;refine A1 rfl ?_;unfold Ey;have hb:=hb w a
 cases h:w[a]? with
 | none=>
   rw [h,byX] at hb;symm;refine hb.use ?_;symm;exact ⟨rfl,rfl⟩
 | some c=>
   rw [h,byX] at hb;symm;refine hb.use ?_;symm;refine (hs c).use ?_;rw [sgX]
   by_cases q:Ch c=true
   ·rw [if_pos q,q];symm;refine W_ix_str.mpr ⟨by decide +kernel,c,W9 q,?_⟩;exact ⟨rfl,rfl,rfl⟩
   ·have q':Ch c=false:=by simpa using q
    rw [if_neg q,q'];symm;exact ⟨rfl,rfl⟩
theorem XY (hl:Hj cl)(hb:BX cb)(hw:Jz cw){lo hi:Int}(hwf:wf (.number lo hi)=true)(w:List Nat)(a:Nat):Pure1 (fnOf 3 7 (CQ cl cb cw)) [(Sh.number lo hi).d,.lst (wD w),.int (a:Int)] (rrD ((EL lo (hi - lo).toNat (wid (hi - lo).toNat) 0).run w a)):=by
 intro S;have hsp:=OY hwf;have hwd:=KB 9 _ hsp;refine A1 rfl ?_;unfold CQ;rw [Sh.d];have em:hi - lo=(((hi - lo).toNat:Nat):Int):=by
  simp only [wf,uh8,uh3] at hwf;lia
 have hww:=λS P p=>(hw (hi - lo).toNat hsp).use (S:=S) (P:=P) p;rw [<-em] at hww;generalize (hi - lo).toNat=M at *;generalize hW:wid M=n at *;symm;refine hww _ _ ?_;rw [em];symm;refine Ff (CT (by lia) (by lia)) ?_;refine Dp (λr t=>∃(j x:Nat) (e6:Option Sl),j<=n/\r=(rngL 0 ((n:Nat):Int).toNat).drop j/\(EL lo M n 0).run w a=(EL lo M (n - j) x).run w (a + j)/\t=⟨[some (.val (.tup [.str "number",.int lo,.int hi])),some (.val (.lst (wD w))),some (.val (.int a)),some (.val (.int M)),some (.val (.int n)),some (.val (.int x)),e6],S⟩) _ _ ⟨0,0,none,un7 _,rfl,rfl,rfl⟩ ?_ ?_
 ·rintro d r t ⟨j,x,e6,hj,hr,hrun,rfl⟩ _;obtain ⟨rfl,hr',hjn⟩:=Ld hr;rw [ug7] at hjn;rw [un3];obtain ⟨e,he⟩:∃e,n - j=e + 1:=⟨n - j - 1,by lia⟩;rw [he,EL] at hrun;have hby:=hb w (a + j);symm;refine Iy (UA (by decide) (by decide)) ?_;symm;rw [show ((a:Int) + (j:Int))=((a + j:Nat):Int) by lia]
  cases h:w[a + j]? with
  | none=>
    rw [h,byX] at hby;rw [Cq h] at hrun;refine hby.use ?_;symm;exact ⟨by rw [hrun];rfl,rfl⟩
  | some b=>
    rw [h,byX] at hby;rw [BW h] at hrun;refine hby.use ?_;symm;refine ⟨rfl,?_⟩;symm;rw [show ((n:Int) - 1 - (j:Int))=((e:Nat):Int) by lia,show ((x:Int) * 256 + (b:Int))=((x * 256 + b:Nat):Int) by lia];refine (hl M e (by lia)).use ?_;symm
    by_cases q:x * 256 + b<=M / 2 ^ (8 * e)
    ·rw [if_pos (ul2 q)] at hrun;refine Ht (uk7 (by lia)) ?_;symm;exact ⟨j + 1,x * 256 + b,_,hjn,hr',by rw [show n - (j + 1)=e by lia,hrun,um0],rfl⟩
    ·rw [if_neg (by rw [uh3];exact q)] at hrun;refine Gh (ul2 (by lia)) ?_;symm;exact ⟨by rw [hrun];rfl,rfl⟩
 ·rintro t ⟨j,x,e6,hj,hr,hrun,rfl⟩;have hj':j=n:=by
   have:=congrArg List.length hr;rw [uj9,uh7,Kq,ug7] at this;lia
  subst hj';rw [un4,EL,Rd.run] at hrun;symm;exact ⟨rfl,by rw [hrun];rfl,rfl⟩
variable {ca cu:Fn}
theorem W4 (ha:SX ca)(hu:UX cu){q:Int}(hwf:wf (.text q)=true)(n:Nat)(w:List Nat)(a:Nat):Pure1 (fnOf 3 7 (Dj ca cu)) [(Sh.text q).d,.lst (wD w),.int (a:Int)] (rrD ((pSh (n + 1) (.text q)).run w a)):=by
 intro S;have hL:LIM=100000:=rfl;refine A1 rfl ?_;unfold Dj;rw [Sh.d,pSh];simp only [wf,uh8,uh3] at hwf;have hup:=hu q w a;symm
 cases h:w[a]? with
 | none=>
   rw [h,upX] at hup;rw [Cq h];refine hup.use ?_;symm;exact ⟨rfl,rfl⟩
 | some b=>
   rw [h,upX] at hup;rw [BW h]
   by_cases hb:(b:Int)<=q
   ·rw [if_pos hb] at hup;rw [if_pos (ul2 hb)];refine hup.use ?_;symm;refine Ff (CT (by lia) (by lia)) ?_;refine Dp (λr t=>∃(j:Nat) (y:Str) (e6:Option Sl),j<=b/\r=(rngL 0 ((b:Nat):Int).toNat).drop j/\y.cps.toList.length=j/\(FU b []).run w (a + 1)=(FU (b - j) y.cps.toList).run w (a + 1 + j)/\t=⟨[some (.val (.tup [.str "text",.int q])),some (.val (.lst (wD w))),some (.val (.int a)),some (.val (.int b)),some (.val (.int ((a:Int) + 1))),some (.val (.str y)),e6],S⟩) _ _ ⟨0,Str.ofString "",none,un7 _,rfl,by decide +kernel,by rw [Nat.sub_zero,Nat.add_zero,show (Str.ofString "").cps.toList=[] by decide +kernel],rfl⟩ ?_ ?_
    ·rintro d r t ⟨j,y,e6,hj,hr,hyl,hrun,rfl⟩ _;obtain ⟨rfl,hr',hjn⟩:=Ld hr;rw [ug7] at hjn;rw [un3];obtain ⟨e,he⟩:∃e,b - j=e + 1:=⟨b - j - 1,by lia⟩;rw [he,FU] at hrun;have hsg:=ha w (a + 1 + j);symm;rw [show ((a:Int) + 1 + (j:Int))=((a + 1 + j:Nat):Int) by lia]
     cases h2:w[a + 1 + j]? with
     | none=>
       rw [h2,sgX] at hsg;rw [Cq h2] at hrun;refine hsg.use ?_;symm;exact ⟨by rw [hrun];rfl,rfl⟩
     | some c=>
       rw [h2,sgX] at hsg;rw [BW h2] at hrun
       by_cases hc:Ch c=true
       ·rw [if_pos hc] at hsg hrun;refine hsg.use ?_;symm;refine CI (by rw [E8 y,hyl,hL];show j + 1<=_;lia) ?_;refine ⟨rfl,?_⟩;symm;refine ⟨j + 1,_,_,hjn,hr',?_,?_,rfl⟩
        ·rw [F0,uf7,hyl];rfl
        ·rw [hrun,F0,show b - (j + 1)=e by lia,um0 (a + 1)]
       ·rw [if_neg hc] at hsg hrun;refine hsg.use ?_;symm;exact ⟨by rw [hrun];rfl,rfl⟩
    ·rintro t ⟨j,y,e6,hj,hr,hyl,hrun,rfl⟩;have hj':j=b:=by
      have:=congrArg List.length hr;rw [uj9,uh7,Kq,ug7] at this;lia
     subst hj';rw [un4,FU,Rd.run] at hrun;have ey:(⟨y.cps.toList.toArray⟩:Str)=y:=Vp (by simp);rw [ey] at hrun;symm;refine ⟨rfl,?_,rfl⟩;rw [hrun,rrD,show ((a:Int) + 1 + (j:Int))=((a + 1 + j:Nat):Int) by lia]
   ·rw [if_neg hb] at hup;rw [if_neg (by rw [uh3];exact hb)];refine hup.use ?_;symm;exact ⟨rfl,rfl⟩
def RX (c:Fn)(s:Sh)(p:Rd):Prop:=∀(w:List Nat) (a:Nat),a<=w.length->Pure1 c [s.d,.lst (wD w),.int (a:Int)] (rrD (p.run w a))
noncomputable def seg (w:List Nat)(a b:Nat):List Nat:=(w.drop a).take (b - a)
theorem GG (x y:List Nat):wD (x++y)=wD x++wD y:=by unfold wD;rw [uk4]
theorem OL:∀(r y:Nat),nb (r + 1) y = .int ((y / 256 ^ r % 256:Nat):Int) :: nb r y
 | 0,y=>by rw [nb,nb,nb,Nat.pow_zero,Nat.div_one];rfl
 | r + 1,y=>by
   rw [show nb (r + 1 + 1) y=nb (r + 1) (y / 256)++[.int ((y % 256:Nat):Int)] from rfl,OL r (y / 256),ui6,show nb (r + 1) y=nb r (y / 256)++[.int ((y % 256:Nat):Int)] from rfl,ud1,show 256 * 256 ^ r=256 ^ (r + 1) by rw [un0,um8]]
variable {kvs:List (Key×D)}
theorem BS {d:D}(e:t.S[n]?=some (.dct kvs))(e2:BM kvs (.inr x)=some d)(h:P d t):W (BH (.obj n) (.str x)) t P:=
 ⟨d,t,by simp only [BH,e,e2];rfl,h⟩
theorem Dl {g:M D}{d:D}{U:Unit->T->Prop}(h:W f t λo t1=>W g t1 λi t2=>W (GE o i d) t2 U):W (DK f g d) t U:=DZ (h.mono λo t1 h1=>DZ h1)
theorem Cr {d:D}{U:Unit->T->Prop}(e:t.S[n]?=some (.dct kvs))(hl:kvs.length < LIM)(h:U () ⟨t.env,t.S.set n (.dct (BN kvs (.inr x) d))⟩):W (GE (.obj n) (.str x) d) t U:=
 ⟨(),_,by simp only [GE,e,if_pos hl],h⟩
theorem Hf {l:List (Str×M D)}(h:W (D1 l) ⟨t.env,t.S++[.dct []]⟩ λps t1=>t1.S[t.S.length]?=some (.dct [])/\ps.length<=15/\P (.obj t.S.length) ⟨t1.env,t1.S.set t.S.length (.dct (BB ps))⟩):W (Fg l) t P:=by
 obtain ⟨ps,t1,e1,e2,e3,p⟩:=h;refine ⟨_,_,?_,p⟩;unfold Fg bnd;simp only [e1];unfold Fp;simp only [e2,if_pos e3]
theorem DQ {Q:List (Key×D)->T->Prop}(h:Q [] t):W (D1 []) t Q:=⟨_,_,rfl,h⟩
theorem BP {k:Str}{r:List (Str×M D)}{Q:List (Key×D)->T->Prop}(h:W f t λd t1=>W (D1 r) t1 λps t2=>Q ((.inr k,d) :: ps) t2):W (D1 ((k,f) :: r)) t Q:=
 DZ (h.mono λd t1 h1=>DZ (h1.mono λps t2 h2=>⟨_,_,rfl,h2⟩))
structure St where
 rest:Int
 mixed:Bool
 turn:Int
noncomputable def St.ob (s:St):Ob:=.dct [(.inr (Str.ofString "rest"),.int s.rest),(.inr (Str.ofString "mixed"),.bl s.mixed),(.inr (Str.ofString "turn"),.int s.turn)]
noncomputable def take (s:St)(m:Int):Int×St:=
 if s.mixed=false then (s.rest % m,⟨s.rest / m,s.mixed,s.turn⟩)
 else
  let stir:=(s.rest % 2147483579 + 70001 * (s.turn + 1)) % 2147483579
  let rest:=(stir * stir % 2147483563 * 50021 + 7) % 2147483579
  (rest / 5 % m,⟨rest,s.mixed,s.turn + 1⟩)
theorem CS (a:Int)(n:Nat):(rngL a n).length=n:=by simp [rngL]
inductive GS where
 | fin
 | st (side:Str) (ws:List (Str×Sh×Int))
def wdD (w:Str×Sh×Int):D:=.tup [.str w.1,w.2.1.d,.int w.2.2]
def GS.d:GS->D
 | .fin=>.tup [.str (Str.ofString "end")]
 | .st side ws=>.tup [.str side,.lst (ws.map wdD)]
noncomputable def GS.isFin:GS->Bool
 | .fin=>true
 | _=>false
theorem Xn {g:Bool->Bool}{x:GS}(h:P (.bl (g x.isFin)) t):W (eqS g x.d (.tup [.str (Str.ofString "end")])) t P:=by
 cases x with
 | fin=>exact ⟨_,_,by
    show Option.map (λb=>(D.bl (g b),t)) (Option.map (λb=>b && true) (some ((Str.ofString "end" == Str.ofString "end") && true)))=some (D.bl (g true),t);rw [ui8];rfl,h⟩
 | st side ws=>exact ⟨_,_,by
    show Option.map (λb=>(D.bl (g b),t)) (Option.map (λb=>b && false) (some ((side == Str.ofString "end") && true)))=some (D.bl (g false),t)
    cases (side == Str.ofString "end") <;> rfl,h⟩
theorem Ha {a:Int}{d:D}{r:List D}(e:d :: r=(rngL a n).drop j):d = .int (a + j)/\r=(rngL a n).drop (j + 1)/\j < n:=by
 have hj:j < (rngL a n).length:=by
  rcases Nat.lt_or_ge j (rngL a n).length with h | h
  ·exact h
  ·rw [List.drop_eq_nil_of_le h] at e;cases e
 rw [ub4 hj] at e;injection e with e1 e2
 rw [CS] at hj;refine ⟨?_,e2,hj⟩;rw [e1];simp [rngL]
structure WOk (n:Int)(w:Str×Sh×Int):Prop where
 ok:wf w.2.1=true
 dep:w.2.1.depth<=3
 lo:0<=w.2.2
 hi:w.2.2 < n
 nm:w.1.length<=90000
inductive GSOk (n:Int):GS->Prop
 | fin:GSOk n .fin
 | st {side:Str} {ws:List (Str×Sh×Int)}:(side=Str.ofString "left"\/side=Str.ofString "right")->0 < ws.length->ws.length<=9->(ws.map (·.1)).Nodup->(∀w∈ws,WOk n w)->GSOk n (.st side ws)
structure GOk (g:List GS):Prop where
 ne:0 < g.length
 le:g.length<=30
 all:∀x∈g,GSOk g.length x
def GS.words:GS->D
 | .fin=>.tup []
 | .st _ ws=>.lst (ws.map wdD)
noncomputable def GS.ws:GS->List (Str×Sh×Int)
 | .fin=>[]
 | .st _ ws=>ws
theorem M2 {p:α->Bool}{l:List α}(h:∀i (hi:i < l.length),i < j->p l[i]=false){x:α}(hx:l[j]?=some x)(hp:p x=true):l.findIdx? p=some j:=by
 obtain ⟨hj,e⟩:=ub2.mp hx;rw [ua0];exact ⟨hj,by rw [e];exact hp,λi hi=>by simpa using h i (by lia) hi⟩
noncomputable def GS.side:GS->Str
 | .fin=>Str.ofString "end"
 | .st s _=>s
noncomputable def Bz (g:List GS)(q:Nat):GS:=g.getD q .fin
def wdAt (g:List GS)(q p:Nat):Str×Sh×Int:=(Bz g q).ws.getD p (Str.ofString "",.nothing,0)
def C6 (g:List GS)(q p:Nat):Nat:=(wdAt g q p).2.2.toNat
def Fc (g:List GS)(q p:Nat)(v:D):D:=.tup [.str (Bz g q).side,.str (wdAt g q p).1,v]
abbrev Mv:=Nat×D
def lastQ (g:List GS):Nat->List Mv->Nat
 | q,[]=>q
 | q,(p,_) :: r=>lastQ g (C6 g q p) r
def Bv (g:List GS):Nat->List Mv->List D
 | _,[]=>[]
 | q,(p,v) :: r=>Fc g q p v :: Bv g (C6 g q p) r
def B8 (g:List GS):Nat->List Mv->List D
 | q,[]=>[.int q]
 | q,(p,_) :: r=>.int q :: B8 g (C6 g q p) r
structure MvOk (g:List GS)(q:Nat)(p:Nat)(v:D):Prop where
 lt:q < g.length
 pl:p < (Bz g q).ws.length
 fit:Aw (wdAt g q p).2.1 v=true
def okQ (g:List GS):Nat->List Mv->Prop
 | _,[]=>True
 | q,(p,v) :: r=>MvOk g q p v/\okQ g (C6 g q p) r
theorem Hu (g:List GS):∀(q:Nat) (a b:List Mv),lastQ g q (a++b)=lastQ g (lastQ g q a) b
 | q,[],b=>rfl
 | q,(p,v) :: r,b=>by rw [ui6,lastQ,lastQ,Hu g _ r b]
theorem LE (g:List GS):∀(q:Nat) (a b:List Mv),Bv g q (a++b)=Bv g q a++Bv g (lastQ g q a) b
 | q,[],b=>rfl
 | q,(p,v) :: r,b=>by rw [ui6,Bv,Bv,lastQ,LE g _ r b];rfl
theorem HH (g:List GS):∀(q:Nat) (a:List Mv) (p:Nat) (v:D),B8 g q (a++[(p,v)])=B8 g q a++[.int (C6 g (lastQ g q a) p)]
 | q,[],p,v=>rfl
 | q,(p',v') :: r,p,v=>by rw [ui6,B8,B8,lastQ,HH g _ r p v];rfl
theorem Ig (g:List GS):∀(q:Nat) (a b:List Mv),okQ g q (a++b)↔okQ g q a/\okQ g (lastQ g q a) b
 | q,[],b=>by simp [okQ,lastQ]
 | q,(p,v) :: r,b=>by rw [ui6,okQ,okQ,lastQ,Ig g _ r b,and_assoc]
theorem Cv (g:List GS):∀(q:Nat) (a:List Mv),(Bv g q a).length=a.length
 | q,[]=>rfl
 | q,(p,v) :: r=>by rw [Bv,uh9,Cv g _ r,uh9]
theorem Gj (g:List GS):∀(q:Nat) (a:List Mv),(B8 g q a).length=a.length + 1
 | q,[]=>rfl
 | q,(p,v) :: r=>by rw [B8,uh9,Gj g _ r,uh9]
theorem Ke (g:List GS):∀(q:Nat) (a:List Mv) (i:Nat),(Bv g q a).take i=Bv g q (a.take i)
 | q,[],i=>by simp [Bv]
 | q,(p,v) :: r,0=>rfl
 | q,(p,v) :: r,i + 1=>by rw [Bv,uf0,uf0,Bv,Ke g _ r i]
theorem IK (g:List GS):∀(q:Nat) (a:List Mv) (i:Nat),i<=a.length->(B8 g q a)[i]?=some (.int (lastQ g q (a.take i)))
 | q,[],0,_=>rfl
 | q,[],i + 1,h=>absurd h (by simp)
 | q,(p,v) :: r,0,_=>rfl
 | q,(p,v) :: r,i + 1,h=>by
   rw [B8,List.getElem?_cons_succ,IK g _ r i (by simpa using h),uf0,lastQ]
theorem Gb (g:List GS):∀(q:Nat) (a:List Mv) (i:Nat) (p:Nat) (v:D),a[i]?=some (p,v)->(Bv g q a)[i]?=some (Fc g (lastQ g q (a.take i)) p v)
 | q,[],i,p,v,h=>by simp at h
 | q,(p',v') :: r,0,p,v,h=>by
   simp at h;obtain ⟨rfl,rfl⟩:=h;rfl
 | q,(p',v') :: r,i + 1,p,v,h=>by
   rw [Bv,List.getElem?_cons_succ,Gb g _ r i p v (by simpa using h),uf0,lastQ]
variable {g:List GS}{q:Nat}
theorem G3 {a:List Mv}(h:okQ g q a)(i:Nat):okQ g q (a.take i):=by
 rw [<-ud8 i a,Ig] at h;exact h.1
theorem Ih {a:List Mv}(h:okQ g q a){i p:Nat}{v:D}(e:a[i]?=some (p,v)):MvOk g (lastQ g q (a.take i)) p v:=by
 obtain ⟨hi,e'⟩:=ub2.mp e;have hd:a.drop i=(p,v) :: a.drop (i + 1):=by rw [ub4 hi,e']
 rw [<-ud8 i a,Ig,hd,okQ] at h;exact h.2.1
theorem EG (h:GOk g){q:Nat}(hq:q < g.length):GSOk g.length (Bz g q):=by
 unfold Bz;rw [ub1,ub7 hq];exact h.all _ (ui5 hq)
theorem FN (hq:q < g.length):atI (g.map GS.d) q=some (Bz g q).d:=by
 unfold atI;rw [Cn (by lia) (by rw [uj5];lia)];show (g.map GS.d)[(q:Int).toNat]?=_;unfold Bz;rw [ug7,ug6,ub1,ub7 hq];rfl
variable {p:Nat}
theorem Iw (hp:p < (Bz g q).ws.length):∃side ws,Bz g q = .st side ws/\p < ws.length/\ws[p]?=some (wdAt g q p):=by
 unfold wdAt
 cases e:Bz g q with
 | fin=>rw [e] at hp;simp [GS.ws] at hp
 | st side ws=>
   rw [e] at hp;have hp:p < ws.length:=hp;refine ⟨side,ws,rfl,hp,?_⟩;show ws[p]?=some (ws.getD p _);rw [ub1,ub7 hp];rfl
theorem KD {ws:List (Str×Sh×Int)}{w:Str×Sh×Int}(e:ws[p]?=some w):atI (ws.map wdD) p=some (wdD w):=by
 obtain ⟨hp,_⟩:=ub2.mp e;unfold atI;rw [Cn (by lia) (by rw [uj5];lia)];show (ws.map wdD)[(p:Int).toNat]?=_;rw [ug7,ug6,e];rfl
theorem IC (h:GOk g){q p:Nat}(hq:q < g.length)(hp:p < (Bz g q).ws.length):WOk g.length (wdAt g q p):=by
 obtain ⟨side,ws,e,hp',e2⟩:=Iw hp;have:=EG h hq;rw [e] at this
 cases this with
 | st _ _ _ _ h5=>exact h5 _ (ue2 e2)
theorem UD (h:GOk g){q p:Nat}(hq:q < g.length)(hp:p < (Bz g q).ws.length):C6 g q p < g.length:=by
 have:=IC h hq hp;unfold C6;have h1:=this.lo;have h2:=this.hi;lia
theorem Ib {g:List GS}(h:GOk g):∀{a:List Mv} {q:Nat},q < g.length->okQ g q a->lastQ g q a < g.length
 | [],q,hq,_=>hq
 | (p,v) :: r,q,hq,hk=>by
   rw [okQ] at hk;rw [lastQ];exact Ib h (UD h hq hk.1.pl) hk.2
theorem Pk {ws:List (Str×Sh×Int)}(nd:(ws.map (·.1)).Nodup){p:Nat}{w:Str×Sh×Int}(e:ws[p]?=some w):(ws.findIdx? λx=>x.1 == w.1)=some p:=by
 obtain ⟨hp,ep⟩:=ub2.mp e;refine M2 (λi hi hip=>?_) e (by simp);rw [<-ep];have hne:¬ws[i].1=ws[p].1:=λz=>by
  have h1:i < (ws.map (·.1)).length:=by rw [uj5];exact hi
  have h2:p < (ws.map (·.1)).length:=by rw [uj5];exact hp
  have:(ws.map (·.1))[i]=(ws.map (·.1))[p]:=by rw [List.getElem_map,List.getElem_map];exact z
  have:=(uh5 nd).mp this;lia
 simpa using hne
abbrev kR:Key:=.inr (Str.ofString "rest")
abbrev kM:Key:=.inr (Str.ofString "mixed")
abbrev kC:Key:=.inr (Str.ofString "count")
theorem kRM:¬kR=kM:=by intro h;injection h with h;rw [Ez] at h;exact absurd h (by decide)
theorem kRC:¬kR=kC:=by intro h;injection h with h;rw [Ez] at h;exact absurd h (by decide)
theorem kMC:¬kM=kC:=by intro h;injection h with h;rw [Ez] at h;exact absurd h (by decide)
theorem kMR:¬kM=kR:=λh=>kRM h.symm
theorem kCR:¬kC=kR:=λh=>kRC h.symm
abbrev B4 (a b c:D):List (Key×D):=[(kR,a),(kM,b),(kC,c)]
variable {a b:D}
theorem Lb {c:D}:BM (B4 a b c) kR=some a:=by simp [BM,uj8]
theorem NB {c:D}:BM (B4 a b c) kM=some b:=by
 unfold BM B4;rw [uj8,show decide (kR=kM)=false from uk7 kRM];simp [uj8]
theorem G6 {c:D}:BM (B4 a b c) kC=some c:=by
 unfold BM B4;rw [uj8,show decide (kR=kC)=false from uk7 kRC];dsimp only;rw [uj8,show decide (kM=kC)=false from uk7 kMC];simp [uj8]
theorem Gz {c d:D}:BN (B4 a b c) kR d=B4 d b c:=by
 unfold BN B4;rw [if_pos (by simp)];simp only [ul7,um9,if_true,if_neg kMR,if_neg kCR]
theorem ND {c d:D}:BN (B4 a b c) kC d=B4 a b d:=by
 unfold BN B4;rw [if_pos (by simp)];simp only [ul7,um9,if_true,if_neg kRC,if_neg kMC]
theorem NA {c:D}:BB (B4 a b c)=B4 a b c:=by
 unfold BB;simp only [uj6,List.foldl_nil];have e1:BN [] kR a=[(kR,a)]:=by simp [BN]
 rw [e1];have e2:BN [(kR,a)] kM b=[(kR,a),(kM,b)]:=by
  unfold BN;rw [if_neg (by simp only [ul8,un5,ul5,uh3];exact kRM)];rfl
 rw [e2];unfold BN;rw [if_neg (by
  simp only [ul8,un5,ul5,uk1,uh3];intro h;rcases h with h | h
  ·exact kRC h
  ·exact kMC h)]
 rfl
def Room (k r:Nat)(S:List Ob):Prop:=∃(a c:Int) (b:Bool),S[k]?=some (.dct (B4 (.int a) (.bl b) (.int c)))/\0<=c/\c + r<=1000000000000000000000000000000
variable {r:Nat}
theorem Room.mono {k r':Nat}(h:Room k r S)(e:r'<=r):Room k r' S:=by
 obtain ⟨a,c,b,h1,h2,h3⟩:=h;exact ⟨a,c,b,h1,h2,by lia⟩
variable {m:Nat}
theorem Room.drop {k:Nat}(h:Room k (r + m) S):Room k r S:=h.mono (ui2 _ _)
theorem Room.loop {k:Nat}(h:Room k (r + q * (m + 1)) S):Room k (r + q * m + q) S:=by rw [Nat.mul_succ,<-um0] at h;exact h
theorem Iz {j:Int}(h1:i.natAbs < 2 ^ 512)(h2:j.natAbs < 2 ^ 512)(h:P (.int (i * j)) t):W (K1 (.int i) (.int j)) t P:=
 ⟨_,_,by simp only [K1,i2C,Nq,ul2 h1,ul2 h2];rfl,h⟩
theorem Ms {j:Int}(h1:0 < j)(h2:j < 18446744073709551616)(h:P (.int (i / j)) t):W (JQ (.int i) (.int j)) t P:=
 ⟨_,_,by simp only [JQ,i2C,MW,ul2 h1,ul2 h2];rfl,h⟩
theorem EU (h0:0<=i)(h:i < 10000000000000000000000000000000000000000000000000000000000000000000000000000000):i.natAbs < 2 ^ 512:=by
 have:(10000000000000000000000000000000000000000000000000000000000000000000000000000000:Nat)<=2 ^ 512:=by decide
 lia
theorem BV {k:Nat}(h:S[k]?=some o):(S.set k o')[k]?=some o':=KW h
def PTakeOk (f:Fn):Prop:=∀(k r:Nat) (S:List Ob) (m:Int),0 < m->m < 4611686018427387904->Room k (r + 1) S->Wf f [.obj k,.int m] S λv S'=>(∃i,v = .int i/\0<=i/\i < m)/\Room k r S'
theorem PTakeOk.use {f:Fn}(h:PTakeOk f){k r:Nat}{S:List Ob}{m:Int}(many:Int)(d:Room k (r + 1) S){P:D->List Ob->Prop}(p:∀i S',0<=i->i < many->Room k r S'->P (.int i) S')(e:m=many:=by first | rfl | decide)(h1:0 < many:=by decide)(h2:many < 4611686018427387904:=by decide):Wf f [.obj k,.int m] S P:=by
 subst e;exact (h k r S m h1 h2 d).mono λv S' ⟨⟨i,e,i0,i1⟩,q⟩=>by subst e;exact p i S' i0 i1 q
theorem SH:PTakeOk (fnOf 2 3 CB):=by
 intro k n S m hm0 hm1 ⟨a,c,b,hS,c0,c1⟩;refine A1 rfl ?_;unfold CB;right;refine BS hS Lb ?_;right;refine BS hS NB ?_;right;refine CO (λz=>?_) λz=>?_
 ·right;refine Ms hm0 (by lia) ?_;refine Dl ?_;right;refine Cr hS (by show 3 < 100000;decide) ?_;rw [Gz];right;refine N3 hm0 ?_;exact ⟨⟨_,rfl,uk5 _ (by lia),ug0 _ hm0⟩,_,_,_,BV hS,c0,by lia⟩
 ·right;refine BS hS G6 ?_;right;refine Dl ?_;right;refine Cr hS (by show 3 < 100000;decide) ?_;rw [ND];have g1:(S.set k (.dct (B4 (.int a) (.bl b) (.int (c + 1)))))[k]?=some (.dct (B4 (.int a) (.bl b) (.int (c + 1)))):=BV hS;refine Dn ?_
  change W _ ⟨[some (.val (.obj k)),some (.val (.int m)),some (.val (.int a))],S.set k (.dct (B4 (.int a) (.bl b) (.int (c + 1))))⟩ _
  generalize S.set k (.dct (B4 (.int a) (.bl b) (.int (c + 1))))=S1 at g1 ⊢;right;have a0:=uk5 a (b:=1000000000163) (by decide);have a1:=ug0 a (b:=1000000000163) (by decide);generalize a % 1000000000163=x at a0 a1;refine BS g1 G6 ?_;obtain ⟨s,es⟩:∃s,s=c + 1:=⟨_,rfl⟩;rw [<-es];rw [<-es] at g1;have s0:0<=s:=by lia
  have s1:s<=1000000000000000000000000000000:=by lia
  refine Iz (by decide) (EU s0 (by lia)) ?_;right;refine Iz (EU (by lia) (by lia)) (EU (by lia) (by lia)) ?_;right;have b0:=uk5 ((x + 70001 * s) * (x + 70001 * s + 29)) (b:=1000000000193) (by decide);have b1:=ug0 ((x + 70001 * s) * (x + 70001 * s + 29)) (b:=1000000000193) (by decide);generalize (x + 70001 * s) * (x + 70001 * s + 29) % 1000000000193=y at b0 b1;refine Iz (EU (by lia) (by lia)) (EU (by lia) (by lia)) ?_;right;refine Dl ?_;right;refine Cr g1 (by show 3 < 100000;decide) ?_;rw [Gz];right;refine Ms (by decide) (by decide) ?_;right;refine N3 hm0 ?_;exact ⟨⟨_,rfl,uk5 _ (by lia),ug0 _ hm0⟩,_,_,_,BV g1,by lia,by lia⟩
def HM (f:Fn):Prop:=∀(ns:List Int) (k:Nat),k<=1000->∃c:Int,Pure1 f [.scr ns,.int k] (.int c)
theorem Sq:HM (fnOf 2 2 C3):=by
 intro ns k hk
 by_cases z:k < ns.length
 ·refine ⟨ns[k],λS=>A1 rfl ?_⟩;unfold C3;right;refine Gh (ul2 (by lia)) ?_;right;refine W_ix_scr.mpr ⟨ns[k],?_,?_⟩
  ·unfold atI;rw [Cn (by lia) (by lia)];show ns[(k:Int).toNat]?=_;rw [ug7,ub7 z]
  ·right;exact ⟨rfl,rfl⟩
 ·refine ⟨0,λS=>A1 rfl ?_⟩;unfold C3;right;refine Ht (uk7 (by lia)) ?_;right;exact ⟨rfl,rfl⟩
theorem Dc {x:Ob}:(S++[x])[S.length]?=some x:=by simp
def HN (f:Fn):Prop:=∀(ns:List Int) (k:Nat) (S:List Ob),k<=1000->Wf f [.scr ns,.int k] S λr S'=>∃n,r = .obj n/\Room n 900000000000000000000000000000 S'
theorem SC (hc:HM cc):HN (fnOf 2 3 (CA cc)):=by
 intro ns k S hk;obtain ⟨c,hc⟩:=hc ns k hk;refine A1 rfl ?_;unfold CA;right;refine hc.use ?_;right;refine Hf ?_;refine BP ?_;right;refine BP ?_;right;refine BP ?_;right;refine Iy (Gx (by decide) (by decide)) ?_;right;refine DQ ?_;refine ⟨Dc,by show 3<=15;decide,S.length,rfl,?_⟩;exact ⟨c,3 + 5 * (k:Int),_,(BV Dc).trans (congrArg (λl=>some (Ob.dct l)) NA),by lia,by lia⟩
noncomputable def cs:Nat->Nat
 | 0=>10
 | d + 1=>10 + 3 * cs d
theorem XD (d:Nat):10<=cs d:=by cases d <;> simp [cs]
theorem GD (h:n<=m)(hm:m<=1000:=by decide):CD (n:Int)=true:=CT (by lia) (by lia)
theorem IV {l:List α}{x:α}(h:l.length + (m + 1)=n):(l++[x]).length + m=n:=by rw [uf7,<-h];simp only [uh9,uj9];lia
theorem Ic {l:List α}{x:α}{p:α->Prop}(h:∀y∈l,p y)(hx:p x):∀y∈l++[x],p y:=λy hy=>by
 rcases ui9.mp hy with h' | h'
 ·exact h y h'
 ·rw [uf9] at h';subst h';exact hx
theorem Nh {a:Nat}(h:a<=n)(hn:n<=100000:=by decide):a<=LIM:=um5 h hn
variable {ss:List Sh}
theorem Y2 (h:∀x∈ss,x.depth<=n):(Sh.choice ss).depth<=n + 1:=by
 rw [Sh.depth];refine ui7 ?_
 induction ss with
 | nil=>rw [EZ];exact un7 _
 | cons x r ih=>rw [EZ];exact Nat.max_le.mpr ⟨h x uf3,ih λy m=>h y (ud9 _ m)⟩
structure Drawn (k r:Nat)(dp:Nat)(v:D)(S':List Ob):Prop where
 ex:∃s:Sh,v=s.d/\s.depth<=dp/\wf s=true
 pool:Room k r S'
def PShapeOk (f:Fn)(n:Nat):Prop:=∀(d k r:Nat) (S:List Ob),d < n->Room k (r + cs d) S->Wf f [.obj k,.int d] S λv S'=>Drawn k r (d + 1) v S'
theorem PShapeOk.use {f:Fn}(h:PShapeOk f n){d k r:Nat}{S:List Ob}(hd:d < n)(q:Room k (r + cs d) S){P:D->List Ob->Prop}(p:∀s S',s.depth<=d + 1->wf s=true->Room k r S'->P s.d S'):Wf f [.obj k,.int d] S P:=
 (h d k r S hd q).mono λv S' ⟨⟨s,e,h1,h2⟩,q⟩=>by subst e;exact p s S' h1 h2 q
theorem Q4 {cr:Fn}(ht:PTakeOk ct)(hr:n=0\/PShapeOk cr n):PShapeOk (fnOf 2 4 (Du ct cr)) (n + 1):=by
 intro d k r S hd p0;refine A1 rfl ?_;unfold Du;have hcs:=XD d;right;refine Iy (Gx (by decide) (by decide)) ?_;right;refine ht.use (r:=r + (cs d - 1)) (if d=0 then 3 else 6) (p0.mono (by lia)) (λi S1 i0 i1 p1=>?_) ?_ (by split <;> decide) (by split <;> decide)
 ·right;refine CO (λz=>?_) λz=>?_
  ·right;exact ⟨⟨.nothing,by rw [Sh.d],by show 1<=_;lia,rfl⟩,p1.drop⟩
  right;refine CO (λy=>?_) λy=>?_
  ·right;refine ht.use (r:=r + 8) 9 (p1.mono (by lia)) λa S2 a0 a1 p2=>?_;right;refine ht.use (r:=r + 7) 100000000000000000 p2 λb S3 b0 b1 p3=>?_;right;refine ht.use (r:=r + 6) 3 p3 λg S4 z0 z1 p4=>?_;have e16:(10:Int) ^ (16:Int).toNat=10000000000000000:=by decide
   rw [e16];obtain ⟨dd,ed,lo,rfl,l0,l1⟩:=Gi (xs:=[D.int 0,D.int (a - 4),D.int (b - 10000000000000000)]) z0 (by simpa using z1) (p:=λd=>∃m:Int,d = .int m/\-100000000000000000<=m/\m<=100000000000000000) (by
    simp only [ue3];clear z0 z1 ht p4 p3 p2 p1 p0;exact ⟨⟨_,rfl,by decide,by decide⟩,⟨_,rfl,by lia,by lia⟩,⟨_,rfl,by lia,by lia⟩,λ_ z=>nomatch z⟩)
   refine B3 ed ?_;right;refine ht.use (r:=r + 5) 100000000000000000 p4 λx S5 x0 x1 p5=>?_;right;refine ht.use (r:=r + 4) 7 p5 λh S6 h0 h1 p6=>?_;obtain ⟨dd,ed,hi,rfl,m0,m1⟩:=Gi (xs:=[D.int 0,D.int 1,D.int 255,D.int 256,D.int 300,D.int 70000,D.int x]) h0 (by simpa using h1) (p:=λd=>∃m:Int,d = .int m/\0<=m/\m<=100000000000000000) (by
    simp only [ue3];exact ⟨⟨_,rfl,by decide,by decide⟩,⟨_,rfl,by decide,by decide⟩,⟨_,rfl,by decide,by decide⟩,⟨_,rfl,by decide,by decide⟩,⟨_,rfl,by decide,by decide⟩,⟨_,rfl,by decide,by decide⟩,⟨_,rfl,x0,Int.le_of_lt x1⟩,λ_ z=>nomatch z⟩)
   refine B3 ed ?_;right;refine ⟨⟨.number lo (lo + hi),by rw [Sh.d],by show 1<=_;lia,?_⟩,p6.drop⟩;simp only [wf,uh8,uh3];clear p0 p1 p2 p3 p4 p5 p6;lia
  right;refine CO (λx=>?_) λx=>?_
  ·right;refine ht.use (r:=r + 8) 4 (p1.mono (by lia)) λg S4 z0 z1 p4=>?_;obtain ⟨dd,ed,m,rfl,m0,m1⟩:=Gi (xs:=[D.int 0,D.int 1,D.int 5,D.int 250]) z0 (by simpa using z1) (p:=λd=>∃m:Int,d = .int m/\0<=m/\m<=250) (by
    simp only [ue3];exact ⟨⟨_,rfl,by decide,by decide⟩,⟨_,rfl,by decide,by decide⟩,⟨_,rfl,by decide,by decide⟩,⟨_,rfl,by decide,by decide⟩,λ_ z=>nomatch z⟩)
   refine B3 ed ?_;right;refine ⟨⟨.text m,by rw [Sh.d],by show 1<=_;lia,?_⟩,p4.drop⟩;simp only [wf,uh8,uh3];exact ⟨m0,m1⟩
  have i3:3<=i:=by
   have z':¬i=0:=by simpa using z
   have y':¬i=1:=by simpa using y
   have x':¬i=2:=by simpa using x
   lia
  obtain ⟨d,rfl⟩:∃e,d=e + 1:=⟨d - 1,by
   have:¬d=0:=λe=>by rw [if_pos e] at i1;lia
   lia⟩
  have e0:(((d + 1:Nat):Int) - 1)=(d:Int):=by lia
  rcases hr with rfl | hr
  ·exact absurd (Nat.lt_of_succ_lt_succ hd) (uk3 _)
  have hd':=Nat.lt_of_succ_lt_succ hd;have ec:cs (d + 1)=10 + 3 * cs d:=rfl;rw [ec] at p1;replace p1:Room k (r + 9 + 3 * cs d) S1:=p1.mono (by lia);clear p0 hcs ec;right;refine CO (λw=>?_) λw=>?_
  ·right;rw [e0];refine hr.use (r:=r + 9) hd' (p1.mono (by lia)) λs S2 s1 s2 p2=>?_;right;refine ht.use (r:=r + 8) 4 p2 λg S4 z0 z1 p4=>?_;obtain ⟨dd,ed,m,rfl,m0,m1⟩:=Gi (xs:=[D.int 0,D.int 2,D.int 6,D.int 250]) z0 (by simpa using z1) (p:=λd=>∃m:Int,d = .int m/\0<=m/\m<=250) (by
    simp only [ue3];exact ⟨⟨_,rfl,by decide,by decide⟩,⟨_,rfl,by decide,by decide⟩,⟨_,rfl,by decide,by decide⟩,⟨_,rfl,by decide,by decide⟩,λ_ z=>nomatch z⟩)
   refine B3 ed ?_;right;refine ⟨⟨.list s m,by rw [Sh.d],by rw [Sh.depth];lia,?_⟩,p4.drop⟩;simp only [wf,uh8,uh3];exact ⟨⟨m0,m1⟩,s2⟩
  right;refine CO (λv=>?_) λv=>?_
  ·right;rw [e0];refine hr.use (r:=r + cs d) hd' (p1.mono (by lia)) λs S2 s1 s2 p2=>?_;right;rw [e0];refine hr.use hd' p2 λs' S3 s3 s4 p3=>?_;right;exact ⟨⟨.pair s s',by rw [Sh.d],by rw [Sh.depth];lia,by simp only [wf,s2,s4,Bool.and_self]⟩,p3⟩
  right;refine ht.use (r:=r + 3 * cs d) 3 (p1.mono (by lia)) λa S3 a0 a1 p3=>?_;right;obtain ⟨m,em⟩:=uc3 (Int.add_nonneg (by decide:(0:Int)<=1) a0);rw [em];have m13:1<=m/\m<=3:=by clear p1 p3;lia
  refine Ff (GD m13.2) ?_;refine (FB (P:=λxs t'=>∃ss:List Sh,xs=ss.map Sh.d/\ss.length=m/\(∀s∈ss,s.depth<=d + 1/\wf s=true)/\Room k r t'.S) (λacc q t=>∃(ss:List Sh) (S':List Ob) (z:Option Sl),acc=ss.map Sh.d/\ss.length + q.length=m/\(∀s∈ss,s.depth<=d + 1/\wf s=true)/\Room k (r + cs d * q.length) S'/\t=⟨[z,some (.val (.obj k)),some (.val (.int ((d + 1:Nat):Int)))],S'⟩) _ [] _ ⟨[],S3,_,rfl,by simp [rngL],by simp,p3.mono (by rw [CS,ug7,um8];exact uf1 (Nat.mul_le_mul_right _ m13.2) _),rfl⟩ ?_ ?_).mono ?_
  ·rintro acc d' q t ⟨ss,S',z,rfl,h1,h2,h3,rfl⟩ _;rw [uh9] at h1 h3;refine ES (Jv ?_);rw [if_pos rfl];right;rw [e0];refine hr.use hd' h3.loop λs S5 q1 q2 q3=>?_;exact ⟨ss++[s],S5,_,by rw [uk4];rfl,IV h1,Ic h2 ⟨q1,q2⟩,q3,rfl⟩
  ·rintro acc t ⟨ss,S',z,rfl,h1,h2,h3,rfl⟩;exact ⟨ss,rfl,h1,h2,h3⟩
  ·rintro xs t' ⟨ss,hxs,h1,h2,h3⟩;rw [uj7] at hxs;subst hxs;refine CI (Nh (n:=3) (by rw [uj5,h1];exact m13.2)) ?_;right;refine ⟨⟨.choice ss,by rw [Sh.d,NS],Y2 λx hx=>(h2 x hx).1,?_⟩,h3⟩;simp only [wf,uh8,uh3];exact ⟨⟨by lia,by lia⟩,Rx λx hx=>(h2 x hx).2⟩
 ·by_cases e:d=0
  ·subst e;decide
  ·rw [if_neg e];have:decide ((d:Int) > 0)=true:=ul2 (by lia);rw [this];decide
variable {s:Sh}
theorem Y4 {q:Int}(h:(Sh.list s q).depth<=m + 1):s.depth<=m:=by rw [Sh.depth] at h;exact ud2 h
theorem VZ {a b:Sh}(h:(Sh.pair a b).depth<=m + 1):a.depth<=m/\b.depth<=m:=by rw [Sh.depth] at h;lia
theorem Y3 (h:(Sh.choice ss).depth<=m + 1):∀x∈ss,x.depth<=m:=λx hx=>by rw [Sh.depth] at h;exact um5 (LJ hx) (ud2 h)
theorem XZ {k:Nat}(h:k < ss.length):atI (shD ss) (k:Int)=some (ss[k]).d:=by
 unfold atI;rw [Cn (by lia) (by rw [En];lia)];show (shD ss)[(k:Int).toNat]?=_;rw [ug7,GC,ub7 h];rfl
def sg11:Str:=" !#09AZaz~{"
theorem Vm (h0:0<=i)(h1:i < 11):∃c,atI sg11.cps.toList i=some c/\Ch c=true:=by
 have hl:sg11.cps.toList.length=11:=by decide +kernel
 have ha:sg11.cps.toList.all Ch=true:=by decide +kernel
 have hi:i.toNat < sg11.cps.toList.length:=by lia
 refine ⟨sg11.cps.toList[i.toNat],?_,ui3.mp ha _ (ui5 hi)⟩;unfold atI;rw [Cn h0 (by lia)];show sg11.cps.toList[i.toNat]?=_;rw [ub7 hi]
noncomputable def vB:Nat->Nat
 | 0=>10
 | m + 1=>10 + vB m * 3
theorem Room.vA {k:Nat}(h:Room k (r + vB (m + 1)) S):Room k (r + 10) S:=h.mono (by rw [vB];lia)
theorem Room.vL {k:Nat}(h:Room k (r + vB (m + 1)) S):Room k (r + vB m * 3 + 1) S:=h.mono (by rw [vB];lia)
theorem Room.vP {k:Nat}(h:Room k (r + vB (m + 1)) S):Room k (r + vB m + vB m) S:=h.mono (by rw [vB];lia)
theorem Room.vC {k:Nat}(h:Room k (r + vB (m + 1)) S):Room k (r + vB m + 1) S:=h.mono (by rw [vB];lia)
theorem TR (h:n<=10):n<=vB (m + 1):=by rw [vB];lia
theorem Zv (h:n<=vB m * 3):n + 1<=vB (m + 1):=by rw [vB];lia
theorem Zw (h:n<=vB m)(h2:p<=vB m):n + p<=vB (m + 1):=by rw [vB];lia
theorem Zu (h:n<=vB m):n + 1<=vB (m + 1):=by rw [vB];lia
theorem Uh {A v b l c:Nat}(h:A + b * (l + 1)<=c)(hv:v<=b):A + v + b * l<=c:=by rw [Nat.mul_succ] at h;lia
theorem Wq (h:wf (.number lo hi)=true):lo<=hi/\0 < hi - lo + 1/\hi - lo + 1 < 4611686018427387904/\wid (hi - lo).toNat<=8:=by
 simp only [wf,uh8,uh3] at h;refine ⟨by lia,by lia,by lia,KB 8 _ ?_⟩;have:(256:Nat) ^ 8=18446744073709551616:=by decide
 lia
theorem UF {g:Int}(z0:0<=g)(z1:g < hi - lo + 1):lo<=lo + g/\lo + g<=hi:=by lia
theorem Tv {g q:Int}(c:Nat)(g0:0<=g)(q0:0<=q)(g1:g < (c:Int) + 1):∃m:Nat,(if g < q then g else q)=m/\m<=c/\(m:Int)<=q:=⟨(if g < q then g else q).toNat,by split <;> lia⟩
structure Val (k r:Nat)(s:Sh)(c:Nat)(v:D)(S':List Ob):Prop where
 fit:Aw s v=true
 len:(Bb s v).length<=c
 pool:Room k r S'
def PValOk (f:Fn)(m:Nat):Prop:=∀(s:Sh) (k r:Nat) (S:List Ob),s.depth<=m->wf s=true->Room k (r + vB m) S->Wf f [.obj k,s.d] S λv S'=>Val k r s (vB m) v S'
theorem U7 {cv:Fn}(ht:PTakeOk ct)(hv:m=0\/PValOk cv m):PValOk (fnOf 2 5 (Dv cv ct)) (m + 1):=by
 intro s k r S hd hw p0;have rec_:∀{s':Sh} {r':Nat} {S':List Ob} {P:D->List Ob->Prop},s'.depth<=m->wf s'=true->Room k (r' + vB m) S'->(∀v S'',Aw s' v=true->(Bb s' v).length<=vB m->Room k r' S''->P v S'')->Wf cv [.obj k,s'.d] S' P:=λ{s' r' S' P} h1 h2 q p=>by
  rcases hv with rfl | hv
  ·exact absurd (uf2 s'.depth_pos h1) (uk3 _)
  ·exact (hv s' k r' S' h1 h2 q).mono λv S'' ⟨g1,g2,g3⟩=>p v S'' g1 g2 g3
 refine A1 rfl ?_;unfold Dv
 cases s with
 | nothing=>
   rw [Sh.d];right;exact ⟨by rw [Aw];rfl,by rw [Bb];exact un7 _,p0.drop⟩
 | number lo hi=>
   obtain ⟨w0,w1,w2,w3⟩:=Wq hw;rw [Sh.d];right;refine ht.use (r:=r + 9) (hi - lo + 1) p0.vA (λg S1 z0 z1 p1=>?_) rfl w1 w2;right;refine ht.use (r:=r + 8) 3 p1 λi S2 i0 i1 p2=>?_;obtain ⟨d,ed,q,rfl,q0,q1⟩:=Gi (xs:=[D.int lo,D.int hi,D.int (lo + g)]) i0 (by simpa using i1) (p:=λd=>∃m:Int,d = .int m/\lo<=m/\m<=hi) (by
    simp only [ue3];exact ⟨⟨_,rfl,Int.le_refl _,w0⟩,⟨_,rfl,w0,Int.le_refl _⟩,⟨_,rfl,UF z0 z1⟩,λ_ z=>nomatch z⟩)
   refine B3 ed ?_;exact ⟨by simp only [Aw,uh8,uh3];exact ⟨q0,q1⟩,by rw [Bb,Nr];exact TR (um5 w3 (by decide)),p2.drop⟩
 | text q=>
   simp only [wf,uh8,uh3] at hw;rw [Sh.d];right;refine Yo ?_;right;refine ht.use (r:=r + 9) 7 p0.vA λg S1 z0 z1 p1=>?_;right;obtain ⟨n,en,n3,nq⟩:=Tv 6 z0 hw.1 z1;rw [en];refine Ff (GD n3) ?_;refine (FB (P:=λxs t'=>∃ns:List Nat,xs=ns.map (λn=>D.str ⟨#[n]⟩)/\ns.all Ch=true/\ns.length=n/\Room k r t'.S) (λacc q t=>∃(ns:List Nat) (S':List Ob) (z:Option Sl),acc=ns.map (λn=>D.str ⟨#[n]⟩)/\ns.all Ch=true/\ns.length + q.length=n/\Room k (r + 1 * q.length) S'/\t=⟨[z,some (.val (.str sg11)),some (.val (.obj k))],S'⟩) _ [] _ ⟨[],S1,_,rfl,rfl,by simp [rngL],p1.mono (by rw [CS,ug7];exact uf1 (um5 (Nat.mul_le_mul_left 1 n3) (by decide)) _),rfl⟩ ?_ ?_).mono ?_
   ·rintro acc d q t ⟨ns,S',z,rfl,h1,h2,h3,rfl⟩ _;rw [uh9] at h2 h3;refine ES (Jv ?_);rw [if_pos rfl];right;refine ht.use 11 h3.loop λi S5 i0 i1 p5=>?_;obtain ⟨c,ec,hc⟩:=Vm i0 i1;refine W_ix_str.mpr ⟨by decide +kernel,c,ec,?_⟩;refine ⟨ns++[c],S5,_,by rw [uk4];rfl,by simp [List.all_append,h1,hc],IV h2,p5,rfl⟩
   ·rintro acc t ⟨ns,S',z,rfl,h1,h2,h3,rfl⟩;exact ⟨ns,rfl,h1,h2,h3.drop⟩
   ·rintro xs t' ⟨ns,e,h1,h2,h3⟩;rw [uj7] at e;subst e h2;refine CI (Nh (n:=6) (by rw [uj5];exact n3)) ?_;right;refine ⟨_,_,_,rfl,rfl,HJ ns,⟨by decide +kernel,by rw [uj5];clear p0 p1;lia⟩,?_⟩;refine NR ?_;refine ⟨?_,?_,h3⟩
    ·rw [Aw];simp only [uh8,uh3];rw [E8,J0];exact ⟨nq,h1⟩
    ·rw [Bb,uh9,uj5,J0];exact TR (um5 (ui7 n3) (by decide))
 | list s q=>
   simp only [wf,uh8,uh3] at hw;rw [Sh.d];right;refine ht.use 4 p0.vL λg S1 z0 z1 p1=>?_;right;obtain ⟨n,en,n2,nq⟩:=Tv 3 z0 hw.1.1 z1;rw [en];have nb2:vB m * n<=vB m * 3:=Nat.mul_le_mul_left _ n2;refine Ff (GD n2) ?_;refine (FB (P:=λxs t'=>(∀x∈xs,Aw s x=true)/\xs.length=n/\((xs.map λd=>Bb s d).flatten).length<=vB m * 3/\Room k r t'.S) (λacc l t=>∃(S':List Ob) (z:Option Sl),(∀x∈acc,Aw s x=true)/\acc.length + l.length=n/\((acc.map λd=>Bb s d).flatten).length + vB m * l.length<=vB m * 3/\Room k (r + vB m * l.length) S'/\t=⟨[z,some (.val (.obj k)),some (.val (.tup [.str "list",s.d,.int q]))],S'⟩) _ [] _ ⟨S1,_,by simp,by simp [rngL],by rw [CS,ug7];exact um5 (Nat.le_of_eq (Nat.zero_add _)) nb2,p1.mono (by rw [CS,ug7];exact uf1 nb2 _),rfl⟩ ?_ ?_).mono ?_
   ·rintro acc d l t ⟨S',z,h1,h2,h3,h4,rfl⟩ _;rw [uh9] at h2 h3 h4;refine ES (Jv ?_);rw [if_pos rfl];right;refine rec_ (Y4 hd) hw.2 h4.loop λv S5 f1 f2 p5=>?_;refine ⟨S5,_,Ic h1 f1,IV h2,?_,p5,rfl⟩;rw [uk4,List.flatten_append,uf7];simp only [ul7,um9,ug8,List.flatten_nil,uj2];exact Uh h3 f2
   ·rintro acc t ⟨S',z,h1,h2,h3,h4,rfl⟩;exact ⟨h1,h2,h3,h4.drop⟩
   ·rintro xs t' ⟨h1,h2,h3,h4⟩;rw [uj7] at h1 h2 h3;subst h2;refine CI (Nh (n:=3) n2) ?_;refine ⟨?_,by rw [Bb,uh9];exact Zv h3,h4⟩;rw [Aw,uh8,uh3,ui3];exact ⟨nq,h1⟩
 | pair a b=>
   simp only [wf,uh8] at hw;rw [Sh.d];right;refine rec_ (VZ hd).1 hw.1 p0.vP λv S1 f1 f2 p1=>?_;right;refine rec_ (VZ hd).2 hw.2 p1 λu S2 g1 g2 p2=>?_;right;exact ⟨by simp only [Aw,f1,g1,Bool.and_self],by rw [Bb,uf7];exact Zw f2 g2,p2⟩
 | choice ss=>
   simp only [wf,uh8,uh3] at hw;rw [Sh.d];right;rw [En];refine ht.use (ss.length:Int) p0.vC (λi S1 i0 i1 p1=>?_) rfl (by clear p0;lia) (by clear p0;lia);obtain ⟨j,rfl⟩:=uc3 i0;have hj:j < ss.length:=Int.ofNat_lt.mp i1;have e1:ss[j]?=some ss[j]:=ub7 hj;right;refine Gm (XZ hj) ?_;right;refine rec_ (Y3 hd _ (ui5 hj)) (Ep hw.2 _ (ui5 hj)) p1 λv S2 f1 f2 p2=>?_;right;have hof:GY (Str.ofString "of")=true:=by decide +kernel
   refine ⟨?_,?_,p2⟩
   ·simp only [Aw,uh8,uh3];exact ⟨⟨hof,i0,i1⟩,by rw [ug7,Dm ss _ _ _ e1];exact f1⟩
   ·rw [Bb,ug7,E1 ss _ _ _ e1,uh9];exact Zu f2
def hd1 (x:Str):Option Nat:=x.cps.toList.head?
def abc9:Str:="abcdefghi"
def xyz3:Str:="xyz"
theorem VR (h:j < 9):atI abc9.cps.toList (j:Int)=some (97 + j):=by
 have:j=0\/j=1\/j=2\/j=3\/j=4\/j=5\/j=6\/j=7\/j=8:=by lia
 rcases this with rfl | rfl | rfl | rfl | rfl | rfl | rfl | rfl | rfl <;> decide +kernel
theorem XA (h0:0<=i)(h1:i < 3):∃c,atI xyz3.cps.toList i=some c:=by
 have hl:xyz3.cps.toList.length=3:=by decide +kernel
 have hi:i.toNat < xyz3.cps.toList.length:=by lia
 refine ⟨xyz3.cps.toList[i.toNat],?_⟩;unfold atI;rw [Cn h0 (by lia)];show xyz3.cps.toList[i.toNat]?=_;rw [ub7 hi]
theorem Wp {k:Int}(h:k < 8):((⟨#[n]⟩:Str)++Txt.mul ⟨#[m]⟩ k).length<=90000:=by
 rw [E8,F0,uf7,Wo,ud4];show 1 + _<=_;lia
theorem XO {k:Int}:hd1 ((⟨#[n]⟩:Str)++Txt.mul ⟨#[m]⟩ k)=some n:=by
 unfold hd1;rw [F0];rfl
theorem XN {ws:List (Str×Sh×Int)}(h:ws.map (λw=>hd1 w.1)=(List.range ws.length).map λi=>some (97 + i)):(ws.map (·.1)).Nodup:=by
 have h1:((ws.map (·.1)).map hd1).Nodup:=by
  rw [un2];show (ws.map λw=>hd1 w.1).Nodup;rw [h];refine List.Pairwise.map _ (R:=λa b:Nat=>a≠b) (λa b h e=>?_) List.nodup_range;injection e with e
  lia
 exact (List.pairwise_map.mp h1).imp λh e=>h (congrArg hd1 e)
theorem Uk {ws:List (Str×Sh×Int)}{w:Str×Sh×Int}(h:ws.map (λw=>hd1 w.1)=(List.range ws.length).map λi=>some (97 + i))(hw:hd1 w.1=some (97 + ws.length)):(ws++[w]).map (λw=>hd1 w.1)=(List.range (ws++[w]).length).map λi=>some (97 + i):=by
 rw [uk4,h,uf7,ud5,List.range_succ,uk4];simp [hw]
def KG (f:Fn):Prop:=∀(ns:List Int) (S:List Ob),Wf f [.scr ns] S λr _=>∃g:List GS,GOk g/\r = .lst (g.map GS.d)
variable {a0 a1 a2 e4 e5 e7 e8 e9:Option Sl}{X Y:List D}
theorem t10 {e6:Option Sl}(h:X=Y):(⟨[a0,a1,a2,some (.own X),e4,e5,e6,e7,e8,e9],S⟩:T)=⟨[a0,a1,a2,some (.own Y),e4,e5,e6,e7,e8,e9],S⟩:=by subst h;rfl
variable {a3:Option Sl}
theorem Zi (h:X=Y):(⟨[a0,a1,a2,a3,e4,e5,some (.own X),e7,e8,e9],S⟩:T)=⟨[a0,a1,a2,a3,e4,e5,some (.own Y),e7,e8,e9],S⟩:=by subst h;rfl
theorem Sy {cz:Fn}(ht:PTakeOk ct)(hs:PShapeOk cz 3)(hp:HN cp):KG (fnOf 1 10 (C4 ct cz cp)):=by
 intro ns S;have hL:LIM=100000:=rfl;refine A1 rfl ?_;unfold C4;right;refine (hp ns 0 S (by decide)).mono λr S1 z9=>?_;obtain ⟨K,e1,p1⟩:=z9;subst e1;right;refine ht.use (r:=3) 5 (p1.mono (by decide)) λa S2 a0 a1 p2=>?_;right;refine ht.use (r:=2) 9 (p2.mono (by decide)) λb S3 b0 b1 p3=>?_;right;refine ht.use (r:=1) 3 p3 λc S4 c0 c1 p4=>?_;obtain ⟨dd,ed,many,rfl,m0,m1⟩:=Gi (xs:=[D.int (1 + a),D.int (1 + b),D.int 30]) c0 (by simpa using c1) (p:=λd=>∃m:Nat,d = .int m/\1<=m/\m<=30) (by
  simp only [ue3];exact ⟨⟨(1 + a).toNat,by rw [ue9 (by lia)],by lia,by lia⟩,⟨(1 + b).toNat,by rw [ue9 (by lia)],by lia,by lia⟩,⟨30,rfl,by decide,by decide⟩,λ_ z=>nomatch z⟩)
 refine B3 ed ?_;clear p1 p2 p3 p4 ed a0 a1 b0 b1 c0 c1;right;refine Ff (GD m1) ?_;refine Dp (λr t=>∃(gs:List GS) (S':List Ob) (e1 e4 e5 e6 e7 e8 e9:Option Sl),gs.length<=many/\r=(rngL 0 ((many:Nat):Int).toNat).drop gs.length/\(∀x∈gs,GSOk many x)/\t=⟨[some (.val (.scr ns)),e1,some (.val (.int many)),some (.own (gs.map GS.d)),e4,e5,e6,e7,e8,e9],S'⟩) _ _ ⟨[],S4,_,none,none,none,none,none,none,un7 _,rfl,(λ_ z=>nomatch z),rfl⟩ ?_ ?_
 ·rintro d r t ⟨gs,S',e1,e4,e5,e6,e7,e8,e9,hj,hr,hg,rfl⟩ _;obtain ⟨rfl,hr',hjn⟩:=Ha hr;rw [ug7] at hjn;rw [un3];generalize hJ:gs.length=j at hj hjn;right;rw [show ((1:Int) + (j:Int) % 13)=((1 + j % 13:Nat):Int) by lia];refine (hp ns (1 + j % 13) S' (by lia)).mono λr1 S1 z9=>?_;obtain ⟨K,e,p1⟩:=z9;subst e;refine Dn ?_;obtain ⟨ra,rc,rb,hS,c0,c1⟩:=p1;right;refine BS hS Lb ?_;right;refine Xm (by lia) (by lia) ?_;right;refine Iy (Gx (by decide) (by decide)) ?_;right;refine Dl ?_;right;refine Cr hS (by show 3 < 100000;decide) ?_;rw [Gz];have p2:Room K 900000000000000000000000000000 (S1.set K (.dct (B4 (.int (ra / (1 + (j:Int) / 13) + 37 * (j:Int))) (.bl rb) (.int rc)))):=⟨_,_,_,BV hS,c0,c1⟩;refine Dn ?_
  change W _ ⟨[some (.val (.scr ns)),some (.val (.obj K)),some (.val (.int many)),some (.own (gs.map GS.d)),some (.val (.int j)),e5,e6,e7,e8,e9],S1.set K (.dct (B4 (.int (ra / (1 + (j:Int) / 13) + 37 * (j:Int))) (.bl rb) (.int rc)))⟩ _
  generalize S1.set K (.dct (B4 (.int (ra / (1 + (j:Int) / 13) + 37 * (j:Int))) (.bl rb) (.int rc)))=S2 at p2 ⊢;clear hS c0 c1 ra rc rb;right;refine ht.use (r:=5002) 6 (p2.mono (by decide)) λq S3 q0 q1 p3=>?_;have grow:∀(x:GS) (S':List Ob) (e1 e4 e5 e6 e7 e8 e9:Option Sl),GSOk many x->∃(gs':List GS) (S'':List Ob) (f1 f4 f5 f6 f7 f8 f9:Option Sl),gs'.length<=many/\r=(rngL 0 ((many:Nat):Int).toNat).drop gs'.length/\(∀x∈gs',GSOk many x)/\(⟨[some (.val (.scr ns)),e1,some (.val (.int many)),some (.own (gs.map GS.d++[x.d])),e4,e5,e6,e7,e8,e9],S'⟩:T)=⟨[some (.val (.scr ns)),f1,some (.val (.int many)),some (.own (gs'.map GS.d)),f4,f5,f6,f7,f8,f9],S''⟩:=by
   intro x S' e1 e4 e5 e6 e7 e8 e9 hx;refine ⟨gs++[x],S',e1,e4,e5,e6,e7,e8,e9,?_,?_,Ic hg hx,t10 (by rw [uk4];rfl)⟩
   ·rw [uf7,ud5];lia
   ·rw [uf7,ud5];exact hr'
  have fin:W (ownM 3 Ct (Ac (BL (Ac (fC (.str "end")) Aj)) Aj)) ⟨[some (.val (.scr ns)),some (.val (.obj K)),some (.val (.int many)),some (.own (gs.map GS.d)),some (.val (.int j)),e5,e6,e7,e8,e9],S3⟩ λo t=>o = .next/\∃(gs':List GS) (S'':List Ob) (f1 f4 f5 f6 f7 f8 f9:Option Sl),gs'.length<=many/\r=(rngL 0 ((many:Nat):Int).toNat).drop gs'.length/\(∀x∈gs',GSOk many x)/\t=⟨[some (.val (.scr ns)),f1,some (.val (.int many)),some (.own (gs'.map GS.d)),f4,f5,f6,f7,f8,f9],S''⟩:=by
   right;refine CI (by rw [uj5,hL];lia) ?_;exact ⟨rfl,grow .fin _ _ _ _ _ _ _ _ .fin⟩
  have els:W (Aq (A5 5 (Ag (Ba (BI (Ac (fC (.str "left")) (Ac (fC (.str "right")) Aj)))) (Au ct (Ac (Ad 1) (Ac (fC (.int 2)) Aj))) ixD)) (Aq (EA 6 (BI Aj)) (Aq (C8 (Cy (Ac (Ag (Ba (BI (Ac (fC (.int 1)) (Ac (fC (.int 2)) (Ac (fC (.int 3)) (Ac (fC (.int 9)) Aj)))))) (Au ct (Ac (Ad 1) (Ac (fC (.int 4)) Aj))) ixD) Aj)) (BD 7) (Aq (A5 8 (Ag (Ag (fC (.str "abcdefghi")) (Ad 7) ixD) (Ag (Ag (fC (.str "xyz")) (Au ct (Ac (Ad 1) (Ac (fC (.int 3)) Aj))) ixD) (Au ct (Ac (Ad 1) (Ac (fC (.int 8)) Aj))) EJ) Bj)) (Aq (A5 9 (Ag (Ba (BI (Ac (Au ct (Ac (Ad 1) (Ac (Ad 2) Aj))) (Ac (fB (Ac (Ag (Ad 2) (fC (.int 1)) CU) (Ac (Ag (Ad 4) (fC (.int 1)) Bj) Aj)) G1) Aj)))) (Au ct (Ac (Ad 1) (Ac (fC (.int 2)) Aj))) ixD)) (ownM 6 Ct (Ac (BL (Ac (Ad 8) (Ac (Au cz (Ac (Ad 1) (Ac (Au ct (Ac (Ad 1) (Ac (fC (.int 3)) Aj))) Aj))) (Ac (Ad 9) Aj)))) Aj))))) (ownM 3 Ct (Ac (BL (Ac (Ad 5) (Ac (Ad 6) Aj))) Aj))))) ⟨[some (.val (.scr ns)),some (.val (.obj K)),some (.val (.int many)),some (.own (gs.map GS.d)),some (.val (.int j)),e5,e6,e7,e8,e9],S3⟩ λo t=>o = .next/\∃(gs':List GS) (S'':List Ob) (f1 f4 f5 f6 f7 f8 f9:Option Sl),gs'.length<=many/\r=(rngL 0 ((many:Nat):Int).toNat).drop gs'.length/\(∀x∈gs',GSOk many x)/\t=⟨[some (.val (.scr ns)),f1,some (.val (.int many)),some (.own (gs'.map GS.d)),f4,f5,f6,f7,f8,f9],S''⟩:=by
   clear fin;right;refine ht.use (r:=5001) 2 p3 λs S4 s0 s1 p4=>?_;obtain ⟨dd,ed,side,rfl,hside⟩:=Gi (xs:=[D.str (Str.ofString "left"),D.str (Str.ofString "right")]) s0 (by simpa using s1) (p:=λd=>∃x:Str,d = .str x/\(x=Str.ofString "left"\/x=Str.ofString "right")) (by
    simp only [ue3];exact ⟨⟨_,rfl,.inl rfl⟩,⟨_,rfl,.inr rfl⟩,λ_ z=>nomatch z⟩)
   refine B3 ed ?_;right;refine ht.use (r:=5000) 4 p4 λg S5 z0 z1 p5=>?_;obtain ⟨dd,ed',cnt,rfl,n0,n1⟩:=Gi (xs:=[D.int 1,D.int 2,D.int 3,D.int 9]) z0 (by simpa using z1) (p:=λd=>∃m:Nat,d = .int m/\1<=m/\m<=9) (by
    simp only [ue3];exact ⟨⟨1,rfl,by decide,by decide⟩,⟨2,rfl,by decide,by decide⟩,⟨3,rfl,by decide,by decide⟩,⟨9,rfl,by decide,by decide⟩,λ_ z=>nomatch z⟩)
   refine B3 ed' ?_;right;clear ed ed' z0 z1 s0 s1 p2 p3 p4 q0 q1;refine Ff (GD n1) ?_;refine Dp (λr t=>∃(ws:List (Str×Sh×Int)) (S':List Ob) (e7 e8 e9:Option Sl),ws.length<=cnt/\r=(rngL 0 ((cnt:Nat):Int).toNat).drop ws.length/\ws.map (λw=>hd1 w.1)=(List.range ws.length).map (λi=>some (97 + i))/\(∀w∈ws,WOk many w)/\Room K (200 * (cnt - ws.length)) S'/\t=⟨[some (.val (.scr ns)),some (.val (.obj K)),some (.val (.int many)),some (.own (gs.map GS.d)),some (.val (.int j)),some (.val (.str side)),some (.own (ws.map wdD)),e7,e8,e9],S'⟩) _ _ ⟨[],S5,_,_,_,un7 _,rfl,rfl,(λ_ z=>nomatch z),p5.mono (by simp;lia),rfl⟩ ?_ ?_
   ·rintro d q t ⟨ws,S',e7,e8,e9,hl,hq,hh,hw,p6,rfl⟩ _;obtain ⟨rfl,hq',hin⟩:=Ha hq;rw [ug7] at hin;rw [un3];obtain ⟨m,em⟩:∃m,cnt - ws.length=m + 1:=⟨cnt - ws.length - 1,by lia⟩;rw [em] at p6;replace p6:Room K (200 * m + 200) S':=p6;right;refine W_ix_str.mpr ⟨by decide +kernel,97 + ws.length,VR (by lia),?_⟩;right;refine ht.use (r:=200 * m + 199) 3 p6 λx S6 x0 x1 p7=>?_;obtain ⟨c,ec⟩:=XA x0 x1;refine W_ix_str.mpr ⟨by decide +kernel,c,ec,?_⟩;right;refine ht.use (r:=200 * m + 198) 8 p7 λy S7 y0 y1 p8=>?_;refine Yv ⟨CT (by lia) (by lia),?_,by rw [hL];show y<=(100000:Int);lia,by rw [hL];show 1<=_;decide⟩ ?_
    ·show 1 * _<=_;rw [hL];lia
    right;have hnl:=Wp (n:=97 + ws.length) (m:=c) (k:=y) y1;refine CI (by rw [Sc,hL];show 1 + _<=_;lia) ?_;right;refine ht.use (r:=200 * m + 197) (many:Int) p8 (λu S8 u0 u1 p9=>?_) rfl (by lia) (by lia);right;refine ht.use (r:=200 * m + 196) 2 p9 λv S9 v0 v1 p10=>?_;obtain ⟨dd,ed,then_,rfl,h0,h1⟩:=Gi (xs:=[D.int u,D.int (if (j:Int) + 1 < (many:Int) - 1 then (j:Int) + 1 else (many:Int) - 1)]) v0 (by simpa using v1) (p:=λd=>∃m:Int,d = .int m/\0<=m/\m < many) (by
     simp only [ue3];exact ⟨⟨_,rfl,u0,u1⟩,⟨_,rfl,by split <;> lia,by split <;> lia⟩,λ_ z=>nomatch z⟩)
    refine B3 ed ?_;right;refine ht.use (r:=200 * m + 195) 3 p10 λdp S10 d0 d1 p11=>?_;obtain ⟨dq,rfl⟩:=uc3 d0;have hdq:dq < 3:=Int.ofNat_lt.mp d1;have hcs:cs dq<=130:=by
     have:dq=0\/dq=1\/dq=2:=by lia
     rcases this with rfl | rfl | rfl <;> decide
    right;refine hs.use (r:=200 * m) hdq (p11.mono (by lia)) λsh S11 g1 g2 p12=>?_;right;refine CI (by rw [uj5,hL];lia) ?_;refine ⟨ws++[(⟨#[97 + ws.length]⟩++Txt.mul ⟨#[c]⟩ y,sh,then_)],S11,_,_,_,?_,?_,Uk hh XO,Ic hw ⟨g2,by show sh.depth<=3;lia,h0,h1,hnl⟩,p12.mono (by rw [uf7,ud5];lia),Zi (by rw [uk4];rfl)⟩
    ·rw [uf7,ud5];lia
    ·rw [uf7,ud5];exact hq'
   ·rintro t ⟨ws,S',e7,e8,e9,hl,hq,hh,hw,p6,rfl⟩;have hl':ws.length=cnt:=by
     have:=congrArg List.length hq;rw [uj9,uh7,CS,ug7] at this;lia
    right;refine CI (by rw [uj5,hL];lia) ?_;exact ⟨rfl,grow (.st side ws) _ _ _ _ _ _ _ _ (.st hside (by lia) (by lia) (XN hh) hw)⟩
  right;refine CO (λz=>?_) λz=>?_
  ·right;refine CO (λy=>?_) λy=>?_
   ·exact fin.mono λo t ⟨e,h⟩=>by subst e;exact h
   ·exact els.mono λo t ⟨e,h⟩=>by subst e;exact h
  ·exact els.mono λo t ⟨e,h⟩=>by subst e;exact h
 ·rintro t ⟨gs,S',e1,e4,e5,e6,e7,e8,e9,hj,hr,hg,rfl⟩;have hj':gs.length=many:=by
   have:=congrArg List.length hr;rw [uj9,uh7,CS,ug7] at this;lia
  right;exact ⟨gs,⟨by lia,by lia,by rw [hj'];exact hg⟩,rfl⟩
def okB (g:List GS):Nat->List Mv->Prop
 | _,[]=>True
 | q,(p,v) :: r=>(Bb (wdAt g q p).2.1 v).length<=400/\okB g (C6 g q p) r
theorem Ie (g:List GS):∀(q:Nat) (a b:List Mv),okB g q (a++b)↔okB g q a/\okB g (lastQ g q a) b
 | q,[],b=>by simp [okB,lastQ]
 | q,(p,v) :: r,b=>by rw [ui6,okB,okB,lastQ,Ie g _ r b,and_assoc]
theorem Ja {a:List Mv}(h:okB g q a)(i:Nat):okB g q (a.take i):=by
 rw [<-ud8 i a,Ie] at h;exact h.1
structure TOk (g:List GS)(mv:List Mv):Prop where
 ok:okQ g 0 mv
 bd:okB g 0 mv
 len:mv.length<=60
theorem PValOk.use {f:Fn}(h:PValOk f m){s:Sh}{k r:Nat}{S:List Ob}(hd:s.depth<=m)(hw:wf s=true)(q:Room k (r + vB m) S){P:D->List Ob->Prop}(p:∀v S',Aw s v=true->(Bb s v).length<=vB m->P v S'):Wf f [.obj k,s.d] S P:=
 (h s k r S hd hw q).mono λv S' ⟨h1,h2,_⟩=>p v S' h1 h2
variable {y:D}
theorem t14 {e10 e11 e12 e13:Option Sl}{x:D}{X' Y':List D}(h:X=Y)(h2:x=y)(h3:X'=Y'):(⟨[a0,a1,a2,a3,some (.own X),some (.val x),some (.own X'),e7,e8,e9,e10,e11,e12,e13],S⟩:T)=⟨[a0,a1,a2,a3,some (.own Y),some (.val y),some (.own Y'),e7,e8,e9,e10,e11,e12,e13],S⟩:=by subst h h2 h3;rfl
def AG (g:List GS)(sd:Str):Nat->List Mv->List D
 | _,[]=>[]
 | q,(p,v) :: r=>(if (Bz g q).side=sd then .int p :: Bb (wdAt g q p).2.1 v else [])++AG g sd (C6 g q p) r
theorem HK (g:List GS)(sd:Str):∀(q:Nat) (a b:List Mv),AG g sd q (a++b)=AG g sd q a++AG g sd (lastQ g q a) b
 | q,[],b=>rfl
 | q,(p,v) :: r,b=>by rw [ui6,AG,AG,lastQ,HK g sd _ r b,ug9]
theorem E9 (g:List GS)(sd:Str):∀(q:Nat) (a:List Mv),okB g q a->(AG g sd q a).length<=401 * a.length
 | q,[],_=>un7 _
 | q,(p,v) :: r,h=>by
   rw [okB] at h;have:=E9 g sd _ r h.2;rw [AG,uf7,uh9];have h1:(if (Bz g q).side=sd then D.int p :: Bb (wdAt g q p).2.1 v else []).length<=401:=by
    split
    ·rw [uh9];exact ui7 h.1
    ·exact un7 _
   lia
abbrev kL:Key:=.inr (Str.ofString "left")
abbrev kRt:Key:=.inr (Str.ofString "right")
theorem kLR:¬kL=kRt:=by intro h;injection h with h;rw [Ez] at h;exact absurd h (by decide)
theorem kRL:¬kRt=kL:=λh=>kLR h.symm
theorem sLR:¬Str.ofString "left" = Str.ofString "right":=λh=>kLR (congrArg Sum.inr h)
theorem EH:BM [(kL,a),(kRt,b)] kL=some a:=by simp [BM,uj8]
theorem EI:BM [(kL,a),(kRt,b)] kRt=some b:=by
 unfold BM;rw [uj8,show decide (kL=kRt)=false from uk7 kLR];simp [uj8]
theorem G0:BB [(kL,a),(kRt,b)]=[(kL,a),(kRt,b)]:=by
 unfold BB;simp only [uj6,List.foldl_nil];have e1:BN [] kL a=[(kL,a)]:=by simp [BN]
 rw [e1];unfold BN;rw [if_neg (by simp only [ul8,un5,ul5,uh3];exact kLR)];rfl
theorem Uu {d:D}:BN [(kL,a),(kRt,b)] kL d=[(kL,d),(kRt,b)]:=by
 unfold BN;rw [if_pos (by simp)];simp only [ul7,um9,if_true,if_neg kRL]
theorem Uv {d:D}:BN [(kL,a),(kRt,b)] kRt d=[(kL,a),(kRt,d)]:=by
 unfold BN;rw [if_pos (by simp)];simp only [ul7,um9,if_true,if_neg kLR]
theorem Iv (hg:GOk g){q p:Nat}{v:D}(h:MvOk g q p v):(Bz g q).side=Str.ofString "left"\/(Bz g q).side=Str.ofString "right":=by
 obtain ⟨side,ws,e,hpl,ew⟩:=Iw h.pl;have:=EG hg h.lt;rw [e] at this ⊢
 cases this with
 | st hs _ _ _ _=>exact hs
abbrev sL:Str:=Str.ofString "left"
abbrev sR:Str:=Str.ofString "right"
structure Wr (K A B:Nat)(S:List Ob)(xs ys:List D):Prop where
 k:S[K]?=some (.dct [(kL,.obj A),(kRt,.obj B)])
 a:S[A]?=some (.lst xs)
 b:S[B]?=some (.lst ys)
 ab:A≠B
 ka:K≠A
 kb:K≠B
def FrO (F:List (Nat×Ob))(k:Nat)(S:List Ob):Prop:=∀p∈F,p.1≠k/\S[p.1]?=some p.2
theorem FrO.set {F:List (Nat×Ob)}{k:Nat}{S:List Ob}{o:Ob}(h:FrO F k S):FrO F k (S.set k o):=λp hp=>⟨(h p hp).1,by rw [ue1 (Ne.symm (h p hp).1)];exact (h p hp).2⟩
def FAll (F:List (Nat×Ob))(S:List Ob):Prop:=∀p∈F,S[p.1]?=some p.2
variable {F:List (Nat×Ob)}{ex:List Ob}
theorem FAll.app (h:FAll F S):FAll F (S++ex):=λp hp=>by rw [ub3 (ub2.mp (h p hp)).1];exact h p hp
theorem FrO.all {k:Nat}(h:FrO F k S):FAll F S:=λp hp=>(h p hp).2
theorem FrO.new {x:Ob}(h:FAll F S):FrO F S.length (S++[x]):=λp hp=>⟨um4 (ub2.mp (h p hp)).1,FAll.app h p hp⟩
theorem FrO.app {F:List (Nat×Ob)}{k:Nat}{S ex:List Ob}(h:FrO F k S):FrO F k (S++ex):=λp hp=>⟨(h p hp).1,FAll.app h.all p hp⟩
def RoomF (F:List (Nat×Ob))(k r:Nat)(S:List Ob):Prop:=Room k r S/\FrO F k S
theorem RoomF.mono {F:List (Nat×Ob)}{k r r':Nat}{S:List Ob}(h:RoomF F k r S)(e:r'<=r):RoomF F k r' S:=⟨h.1.mono e,h.2⟩
theorem RoomF.app {F:List (Nat×Ob)}{k r:Nat}{S ex:List Ob}(h:RoomF F k r S):RoomF F k r (S++ex):=by
 obtain ⟨⟨a,c,b,h1,h2,h3⟩,h4⟩:=h;exact ⟨⟨a,c,b,by rw [ub3 (ub2.mp h1).1];exact h1,h2,h3⟩,h4.app⟩
def PTakeF (F:List (Nat×Ob))(f:Fn):Prop:=∀(k r:Nat) (S:List Ob) (m:Int),0 < m->m < 4611686018427387904->RoomF F k (r + 1) S->Wf f [.obj k,.int m] S λv S'=>(∃i,v = .int i/\0<=i/\i < m)/\RoomF F k r S'
theorem PTakeF.use {f:Fn}(h:PTakeF F f){k r:Nat}{S:List Ob}{m:Int}(many:Int)(d:RoomF F k (r + 1) S){P:D->List Ob->Prop}(p:∀i S',0<=i->i < many->RoomF F k r S'->P (.int i) S')(e:m=many:=by first | rfl | decide)(h1:0 < many:=by decide)(h2:many < 4611686018427387904:=by decide):Wf f [.obj k,.int m] S P:=by
 subst e;exact (h k r S m h1 h2 d).mono λv S' ⟨⟨i,e,i0,i1⟩,q⟩=>by subst e;exact p i S' i0 i1 q
theorem WN:PTakeF F (fnOf 2 3 CB):=by
 intro k n S m hm0 hm1 ⟨⟨a,c,b,hS,c0,c1⟩,fr⟩;refine A1 rfl ?_;unfold CB;right;refine BS hS Lb ?_;right;refine BS hS NB ?_;right;refine CO (λz=>?_) λz=>?_
 ·right;refine Ms hm0 (by lia) ?_;refine Dl ?_;right;refine Cr hS (by show 3 < 100000;decide) ?_;rw [Gz];right;refine N3 hm0 ?_;exact ⟨⟨_,rfl,uk5 _ (by lia),ug0 _ hm0⟩,⟨_,_,_,BV hS,c0,by lia⟩,fr.set⟩
 ·right;refine BS hS G6 ?_;right;refine Dl ?_;right;refine Cr hS (by show 3 < 100000;decide) ?_;rw [ND];have g1:(S.set k (.dct (B4 (.int a) (.bl b) (.int (c + 1)))))[k]?=some (.dct (B4 (.int a) (.bl b) (.int (c + 1)))):=BV hS;have fr1:FrO F k (S.set k (.dct (B4 (.int a) (.bl b) (.int (c + 1))))):=fr.set;refine Dn ?_
  change W _ ⟨[some (.val (.obj k)),some (.val (.int m)),some (.val (.int a))],S.set k (.dct (B4 (.int a) (.bl b) (.int (c + 1))))⟩ _
  generalize S.set k (.dct (B4 (.int a) (.bl b) (.int (c + 1))))=S1 at g1 fr1 ⊢;right;have a0:=uk5 a (b:=1000000000163) (by decide);have a1:=ug0 a (b:=1000000000163) (by decide);generalize a % 1000000000163=x at a0 a1;refine BS g1 G6 ?_;obtain ⟨s,es⟩:∃s,s=c + 1:=⟨_,rfl⟩;rw [<-es];rw [<-es] at g1;have s0:0<=s:=by lia
  have s1:s<=1000000000000000000000000000000:=by lia
  refine Iz (by decide) (EU s0 (by lia)) ?_;right;refine Iz (EU (by lia) (by lia)) (EU (by lia) (by lia)) ?_;right;have b0:=uk5 ((x + 70001 * s) * (x + 70001 * s + 29)) (b:=1000000000193) (by decide);have b1:=ug0 ((x + 70001 * s) * (x + 70001 * s + 29)) (b:=1000000000193) (by decide);generalize (x + 70001 * s) * (x + 70001 * s + 29) % 1000000000193=y at b0 b1;refine Iz (EU (by lia) (by lia)) (EU (by lia) (by lia)) ?_;right;refine Dl ?_;right;refine Cr g1 (by show 3 < 100000;decide) ?_;rw [Gz];right;refine Ms (by decide) (by decide) ?_;right;refine N3 hm0 ?_;exact ⟨⟨_,rfl,uk5 _ (by lia),ug0 _ hm0⟩,⟨_,_,_,BV g1,by lia,by lia⟩,fr1.set⟩
def My (F:List (Nat×Ob))(f:Fn):Prop:=∀(ns:List Int) (k:Nat) (S:List Ob),k<=1000->FAll F S->Wf f [.scr ns,.int k] S λr S'=>∃n,r = .obj n/\RoomF F n 900000000000000000000000000000 S'
theorem WJ (hc:HM cc):My F (fnOf 2 3 (CA cc)):=by
 intro ns k S hk hF;obtain ⟨c,hc⟩:=hc ns k hk;refine A1 rfl ?_;unfold CA;right;refine hc.use ?_;right;refine Hf ?_;refine BP ?_;right;refine BP ?_;right;refine BP ?_;right;refine Iy (Gx (by decide) (by decide)) ?_;right;refine DQ ?_;refine ⟨Dc,by show 3<=15;decide,S.length,rfl,?_⟩;exact ⟨⟨c,3 + 5 * (k:Int),_,(BV Dc).trans (congrArg (λl=>some (Ob.dct l)) NA),by lia,by lia⟩,FrO.set (FrO.new hF)⟩
structure ValF (F:List (Nat×Ob))(k r:Nat)(s:Sh)(c:Nat)(v:D)(S':List Ob):Prop where
 fit:Aw s v=true
 len:(Bb s v).length<=c
 pool:RoomF F k r S'
def GS.sd:GS->Str
 | .fin=>Str.ofString "end"
 | .st s _=>s
inductive Odd (x:GS):D->Prop
 | non:Odd x .non
 | lst {ds:List D}:Odd x (.lst ds)
 | two {a b:D}:Odd x (.tup [a,b])
 | four {a b c d:D}:Odd x (.tup [a,b,c,d])
 | sideN {b c:D}:Odd x (.tup [.non,b,c])
 | side {s:Str} {b c:D}:¬s=x.sd->Odd x (.tup [.str s,b,c])
 | nmN {s:Str} {c:D}:Odd x (.tup [.str s,.non,c])
 | nmI {s:Str} {i:Int} {c:D}:Odd x (.tup [.str s,.int i,c])
 | nm {s nm:Str} {c:D}:(x.ws.findIdx? λw=>w.1 == nm)=none->Odd x (.tup [.str s,.str nm,c])
 | val {s nm:Str} {c:D} {p:Nat} {w:Str×Sh×Int}:(x.ws.findIdx? λw=>w.1 == nm)=some p->x.ws[p]?=some w->okD c=true->Aw w.2.1 c=false->Odd x (.tup [.str s,.str nm,c])
def Rq (n:Nat)(d:D):Prop:=∀m,n<=m->eqN m d d=some true
theorem NN:Rq n (.int i):=λm _=>by cases m <;> (show some (i == i)=some true;rw [ui8])
theorem Ra {i:Str}:Rq n (.str i):=λm _=>by cases m <;> (show some (i == i)=some true;rw [ui8])
theorem Q9:Rq n .non:=λm _=>by cases m <;> rfl
theorem W3 (h:∀x∈xs,Rq n x):Rq (n + 1) (.tup xs):=λm hm=>by
 obtain ⟨k,rfl⟩:∃k,m=k + 1:=⟨m - 1,by lia⟩;have e:DC (eqN k) xs xs=some true:=E4 λx hx=>h x hx k (by lia);rw [eqN,e];simp
theorem NO (h:∀x∈xs,Rq n x):Rq (n + 1) (.lst xs):=λm hm=>by
 obtain ⟨k,rfl⟩:∃k,m=k + 1:=⟨m - 1,by lia⟩;rw [eqN,if_pos rfl];exact E4 λx hx=>h x hx k (by lia)
theorem YZ {p:D->Prop}(h:p a):∀x∈[a],p x:=λx hx=>by rw [uf9.mp hx];exact h
theorem Y0 {p:D->Prop}(h:p a)(h2:p b):∀x∈[a,b],p x:=λx hx=>(ul4.mp hx).elim (λe=>by rw [e];exact h) (YZ h2 x)
def mB:Nat->Nat
 | 0=>0
 | m + 1=>10 + vB m * 2 + mB m * 2
structure Mis (n:Nat)(s:Sh)(v:D):Prop where
 ok:okD v=true
 no:Aw s v=false
 rq:Rq n v
structure Fit (n:Nat)(s:Sh)(v:D):Prop where
 ok:okD v=true
 fit:Aw s v=true
 rq:Rq n v
theorem V5 (hn:s.depth<=n)(hw:wf s=true)(h:Aw s v=true):Fit n s v:=by
 obtain ⟨h1,h2,h3⟩:=Gs s.depth s (un6 _) hw v h;exact ⟨TM h1,h,λm hm=>h3 m (um5 hn hm)⟩
def Gr (S S':List Ob):Prop:=S.length<=S'.length/\∀i,i < S.length->S'[i]?=S[i]?
theorem Gr.refl:Gr S S:=⟨un6 _,λ_ _=>rfl⟩
theorem Gr.trans {S S1 S2:List Ob}(a:Gr S S1)(b:Gr S1 S2):Gr S S2:=⟨um5 a.1 b.1,λi h=>(b.2 i (uf2 h a.1)).trans (a.2 i h)⟩
theorem Gr.app:Gr S (S++ex):=⟨by rw [uf7];lia,λi h=>ub3 h⟩
theorem Gr.set {S S':List Ob}{k:Nat}{o:Ob}(a:Gr S S')(h:S.length<=k):Gr S (S'.set k o):=⟨by rw [uk6];exact a.1,λi hi=>by rw [ue1 (by lia)];exact a.2 i hi⟩
theorem Gr.get {S S':List Ob}{k:Nat}{o:Ob}(a:Gr S S')(h:S[k]?=some o):S'[k]?=some o:=by rw [a.2 k (ub2.mp h).1];exact h
abbrev lr (a b:D):List (Key×D):=[(kL,a),(kRt,b)]
abbrev dW (l r:List Nat):List (Key×D):=lr (.lst (wD l)) (.lst (wD r))
abbrev dP (a b:Nat):List (Key×D):=lr (.int a) (.int b)
noncomputable def onS {α:Type}(s:Str)(a b:α):α:=if s=sL then a else b
theorem D3 {s:Str}(h:s=sL\/s=sR):BM (lr a b) (.inr s)=some (onS s a b):=by
 unfold onS;rcases h with rfl | rfl
 ·rw [if_pos rfl];exact EH
 ·rw [if_neg (Ne.symm sLR)];exact EI
theorem Kb {s:Str}{d:D}(h:s=sL\/s=sR):BN (lr a b) (.inr s) d=lr (onS s d a) (onS s b d):=by
 unfold onS;rcases h with rfl | rfl
 ·rw [if_pos rfl,if_pos rfl];exact Uu
 ·rw [if_neg (Ne.symm sLR),if_neg (Ne.symm sLR)];exact Uv
inductive Sr where
 | stop
 | brk (k:Nat) (s:Str)
 | next (m:D) (h a b:Nat)
def msgR (side:Str)(ws:List (Str×Sh×Int))(w:List Nat)(p:Nat):RR×Nat:=match w[p]? with
 | none=>(.short,0)
 | some c=>match ws[c]? with
   | none=>(.broken p,0)
   | some wd=>((pSh 3 wd.2.1).run w (p + 1),c)
def Ee (g:List GS)(wl wr:List Nat)(h a b:Nat):Sr:=match Bz g h with
 | .fin=>.stop
 | .st side ws=>match msgR side ws (onS side wl wr) (onS side a b) with
   | (.short,_)=>.stop
   | (.broken k,_)=>.brk k side
   | (.told v e,c)=>.next (.tup [.str side,.str (ws.getD c (Str.ofString "",.nothing,0)).1,v]) (ws.getD c (Str.ofString "",.nothing,0)).2.2.toNat (onS side e a) (onS side b e)
abbrev Rs:=List D×Nat×Nat×Nat×Option (Nat×Str)
def walkR (g:List GS)(wl wr:List Nat):Nat->Nat->Nat->Nat->List D->Rs
 | 0,h,a,b,t=>(t,h,a,b,none)
 | f + 1,h,a,b,t=>match Ee g wl wr h a b with
   | .stop=>(t,h,a,b,none)
   | .brk k s=>(t,h,a,b,some (k,s))
   | .next m h' a' b'=>walkR g wl wr f h' a' b' (t++[m])
structure Pl (g:List GS)(wl wr:List Nat)(h a b:Nat):Prop where
 h:h < g.length
 a:a<=wl.length
 b:b<=wr.length
variable {wl wr:List Nat}
theorem Ws {s:Str}{a b:Nat}(ha:a<=wl.length)(hb:b<=wr.length):onS s a b<=(onS s wl wr).length:=by unfold onS;split <;> assumption
theorem Rh {h a b:Nat}(hg:GOk g)(p:Pl g wl wr h a b){m:D}{h' a' b':Nat}(e:Ee g wl wr h a b = .next m h' a' b'):Pl g wl wr h' a' b'/\a + b < a' + b':=by
 have hgs:=EG hg p.h;unfold Ee at e
 cases eg:Bz g h with
 | fin=>rw [eg] at e;cases e
 | st side ws=>
   rw [eg] at e hgs
   cases hgs with
   | @st _ _ hs1 hs2 hs3 hs4 hs5=>
   dsimp only at e;unfold msgR at e
   cases hb:(onS side wl wr)[onS side a b]? with
   | none=>rw [hb] at e;cases e
   | some c=>
     rw [hb] at e;dsimp only at e
     cases hw:ws[c]? with
     | none=>rw [hw] at e;cases e
     | some wd=>
       rw [hw] at e;dsimp only at e;obtain ⟨hpl,_⟩:=ub2.mp hb;have hwo:=hs5 wd (ue2 hw);have hlo:=hwo.lo;have hhi:=hwo.hi;have hgd:ws.getD c (Str.ofString "",.nothing,0)=wd:=by rw [ub1,hw];rfl
       cases er:(pSh 3 wd.2.1).run (onS side wl wr) (onS side a b + 1) with
       | short=>rw [er] at e;cases e
       | broken k=>rw [er] at e;cases e
       | told v x=>
         rw [er] at e;dsimp only at e;rw [hgd] at e;injection e with e1 e2 e3 e4
         obtain ⟨l1,l2⟩:=Ln _ _ hpl er;have pa:=p.a;have pb:=p.b;subst e2;unfold onS at e3 e4 l1 l2
         by_cases q:side=sL
         ·rw [if_pos q] at e3 e4 l1 l2;exact ⟨⟨by lia,by lia,by lia⟩,by lia⟩
         ·rw [if_neg q] at e3 e4 l1 l2;exact ⟨⟨by lia,by lia,by lia⟩,by lia⟩
theorem Xr {neg:Bool}(e:t.S[n]?=some (.dct kvs))(h:P (.bl (if neg then !(BM kvs (.inr x)).isSome else (BM kvs (.inr x)).isSome)) t):W (inS neg (.str x) (.obj n)) t P:=
 ⟨_,_,by simp only [inS,e],h⟩
theorem Xl (e:t.S[n]?=some (.dct kvs))(h:P (.obj t.S.length) ⟨t.env,t.S++[.dct kvs]⟩):W (JK [.obj n]) t P:=
 ⟨_,_,by simp only [JK,e],h⟩
theorem R0:BM (lr a b) (.inr (Str.ofString "end"))=none:=by
 have h1:decide (kL=(Sum.inr (Str.ofString "end"):Key))=false:=by decide +kernel
 have h2:decide (kRt=(Sum.inr (Str.ofString "end"):Key))=false:=by decide +kernel
 unfold BM;rw [uj8,show decide ((kL,a).1=(Sum.inr (Str.ofString "end"):Key))=false from h1];dsimp only;rw [uj8,show decide ((kRt,b).1=(Sum.inr (Str.ofString "end"):Key))=false from h2];rfl
theorem T8 {l:List α}{d:α}{r:List α}(e:d :: r=l.drop j):l[j]?=some d/\r=l.drop (j + 1):=by
 constructor
 ·have:=congrArg (λx=>x[0]?) e;simp only [List.getElem?_cons_zero,List.getElem?_drop,Nat.add_zero] at this;exact this.symm
 ·have:=congrArg List.tail e;rw [List.tail_drop] at this;exact this
def isB (l:List D):Prop:=∀d∈l,∃x:Nat,d = .int (x:Int)/\x < 256
theorem QD:∀{l:List D},isB l->∃w:List Nat,l=wD w/\∀x∈w,x < 256
 | [],_=>⟨[],rfl,λx z=>nomatch z⟩
 | d :: r,h=>by
   obtain ⟨x,rfl,hx⟩:=h d uf3;obtain ⟨w,rfl,hw⟩:=QD λd m=>h d (ud9 _ m);refine ⟨x :: w,rfl,λy hy=>?_⟩;rcases ul4.mp hy with rfl | hy
   ·exact hx
   ·exact hw y hy
theorem OI {a b:List D}(ha:isB a)(hb:isB b):isB (a++b):=λd h=>(ui9.mp h).elim (ha d) (hb d)
theorem GX {x:Nat}{b:List D}(hx:x < 256)(hb:isB b):isB (.int (x:Int) :: b):=λd h=>by
 rcases ul4.mp h with rfl | h
 ·exact ⟨x,rfl,hx⟩
 ·exact hb d h
theorem QQ:∀(w n:Nat),isB (nb w n)
 | 0,n=>λd h=>nomatch h
 | w + 1,n=>OI (QQ w _) (GX (Nat.mod_lt _ (by decide)) λd h=>nomatch h)
theorem FD:∀(n:Nat) (s:Sh),s.depth<=n->wf s=true->∀v,Aw s v=true->isB (Bb s v)
 | 0,s,h,_,_,_=>absurd s.depth_pos (by lia)
 | n + 1,s,hs,hw,v,hf=>by
   cases s with
   | nothing=>rw [Bb];exact λd h=>nomatch h
   | number lo hi=>
     cases v <;> simp [Aw] at hf
     rw [Bb];exact QQ _ _
   | text q=>
     simp only [wf,uh8,uh3] at hw
     cases v <;> simp only [Aw,uf8] at hf
     rename_i x;simp only [uh8,uh3,ui3] at hf;rw [Bb];refine GX (by lia) λd h=>?_;obtain ⟨c,hc,rfl⟩:=un1.mp h;have:=hf.2 c hc;simp only [Ch,uh8,uh3] at this;exact ⟨c,rfl,by lia⟩
   | list s q=>
     simp only [wf,uh8,uh3] at hw;rw [Sh.depth] at hs
     cases v <;> simp only [Aw,uf8] at hf
     rename_i ds;simp only [uh8,uh3,ui3] at hf;rw [Bb];refine GX (by lia) λd h=>?_;obtain ⟨l,hl,hd⟩:=List.mem_flatten.mp h;obtain ⟨e,he,rfl⟩:=un1.mp hl;exact FD n s (by lia) hw.2 e (hf.2 e he) d hd
   | pair s r=>
     simp only [wf,uh8] at hw;rw [Sh.depth] at hs;unfold Aw at hf
     split at hf
     ·rw [uh8] at hf;rw [Bb];exact OI (FD n s (by lia) hw.1 _ hf.1) (FD n r (by lia) hw.2 _ hf.2)
     ·cases hf
   | choice ss=>
     simp only [wf,uh8,uh3] at hw;rw [Sh.depth] at hs;unfold Aw at hf
     split at hf
     ·next o k x=>
      simp only [uh8,uh3] at hf;obtain ⟨j,rfl⟩:=uc3 hf.1.2.1;have hj:j < ss.length:=by have:=hf.1.2.2;lia
      have e1:ss[j]?=some ss[j]:=ub7 hj;have h2:=hf.2;rw [ug7,Dm ss _ _ _ e1] at h2;rw [Bb,ug7,E1 ss _ _ _ e1];exact GX (by lia) (FD n _ (um5 (Do ss _ _ e1) (by lia)) (Ep hw.2 _ (ui5 hj)) x h2)
     ·cases hf
theorem Xq {g:M (List D)}(h:W f t λo t1=>W g t1 λas t2=>∃ds y j,o = .lst ds/\as=[y]/\(GR y=true/\ds.all GR=true)/\KY (toV y) (ds.map toV)=some j/\P (.int (j:Nat)) t2):W (idxM f g) t P:=by
 obtain ⟨o,t1,e1,as,t2,e2,ds,y,j,rfl,rfl,hf,hj,p⟩:=h;refine ⟨_,_,?_,p⟩;simp only [idxM,bnd,e1,e2,if_pos hf,hj]
theorem QA {ws:List (Str×Sh×Int)}(nd:(ws.map (·.1)).Nodup){p:Nat}{w:Str×Sh×Int}(e:ws[p]?=some w):KY (toV (.str w.1)) ((ws.map λw=>D.str w.1).map toV)=some p:=by
 unfold KY;rw [un2,List.findIdx?_map];rw [<-Pk nd e]
 congr 1
theorem Pm {ws:List (Str×Sh×Int)}:(ws.map λw=>D.str w.1).all GR=true:=by
 rw [List.all_map,ui3];intro w _;rfl
theorem O7 {l:List α}{ι f:α->D}(h:∀a∈l,W elt ⟨some (.val (ι a)) :: fr,S⟩ λx t'=>x=f a/\t'=⟨some (.val (ι a)) :: fr,S⟩) :
 W (CY (BD 0) Ei elt (l.map ι)) ⟨z :: fr,S⟩ λxs t'=>xs=l.map f/\t'.S=S:=by
 induction l generalizing z with
 | nil=>exact W_compL_nil.mpr ⟨rfl,rfl⟩
 | cons a r ih=>
   rw [ul7,Hk];refine ES (Jv ?_);rw [if_pos rfl];refine (h a uf3).mono λx t' z9=>?_;obtain ⟨e1,e2⟩:=z9;subst e1 e2;refine (ih (z:=some (.val (ι a))) λb hb=>h b (ud9 _ hb)).mono λxs t' z9=>?_;obtain ⟨e1,e2⟩:=z9;subst e1;exact ⟨rfl,e2⟩
def B256 (w:List Nat):Prop:=∀x∈w,x < 256
theorem B256.app {a b:List Nat}(h:B256 a)(h2:B256 b):B256 (a++b):=λx hx=>(ui9.mp hx).elim (h x) (h2 x)
def VBF (f:Fn):Prop:=∀(s:Sh),s.depth<=3->wf s=true->∀d,Aw s d=true->(Bb s d).length<=400->Pure1 f [s.d,d] (.lst (Bb s d))
theorem Xj {cf:Fn}(hc:HL c 3)(hf:Gn cf 3):VBF (fnOf 2 2 (Dw c cf)):=by
 intro s hs hwf d h hlen S;have hd:okD d=true:=(V5 hs hwf h).ok;refine A1 rfl ?_;unfold Dw;left;refine (hf s hs d hd).use ?_;rw [h];left;refine GF ?_;left;exact (hc s hs hwf d h (um5 hlen (by decide))).use ⟨_,rfl,rfl,rfl,rfl⟩
theorem t9s {e6:Option Sl}{x:D}(h1:X=Y)(h2:x=y):(⟨[a0,a1,some (.own X),some (.val x),e4,e5,e6,e7,e8],S⟩:T)=⟨[a0,a1,some (.own Y),some (.val y),e4,e5,e6,e7,e8],S⟩:=by subst h1 h2;rfl
theorem Qh {a:Nat}:Cu (wD w) none (some (a:Int))=wD (w.take a):=by
 unfold Cu;rw [HT.Vb,HT.SQ,ul1,Nat.sub_zero];unfold wD;rw [List.map_take];exact (List.take_eq_take_min ..).symm
theorem RoomF.put {K k:Nat}(h:RoomF ((K,o) :: F) k r S)(hF:∀p∈F,p.1≠K):RoomF ((K,o') :: F) k r (S.set K o'):=by
 obtain ⟨⟨a,c,b,h1,h2,h3⟩,h4⟩:=h;have hk:=h4 _ uf3;refine ⟨⟨a,c,b,by rw [ue1 hk.1];exact h1,h2,h3⟩,λp hp=>?_⟩;rcases ul4.mp hp with rfl | hp
 ·exact ⟨hk.1,BV hk.2⟩
 ·have:=h4 p (ud9 _ hp);exact ⟨this.1,by rw [ue1 (Ne.symm (hF p hp))];exact this.2⟩
theorem RoomF.lt {k:Nat}(h:RoomF F k r S):k < S.length:=by
 obtain ⟨⟨a,c,b,h1,_,_⟩,_⟩:=h;exact (ub2.mp h1).1
theorem RoomF.more {k:Nat}(h:RoomF F k r S):RoomF ((S.length,o) :: F) k r (S++[o]):=by
 refine ⟨(h.app (ex:=[o])).1,λp hp=>?_⟩;rcases ul4.mp hp with rfl | hp
 ·exact ⟨um7 h.lt,Dc⟩
 ·exact (h.app (ex:=[o])).2 p hp
structure Mvs (g:List GS)(wl wr:List Nat)(mv:List Mv)(h a b:Nat)(t:List D):Prop where
 t:t=Bv g 0 mv
 ok:okQ g 0 mv
 h:lastQ g 0 mv=h
 a:AG g sL 0 mv=wD (wl.take a)
 b:AG g sR 0 mv=wD (wr.take b)
theorem ER {side:Str}(h:side=sL\/side=sR):(side=sL/\¬side=sR)\/(¬side=sL/\side=sR):=by
 rcases h with rfl | rfl
 ·exact .inl ⟨rfl,sLR⟩
 ·exact .inr ⟨Ne.symm sLR,rfl⟩
def Agr (c:Nat)(w w2:List Nat):Prop:=∀i,i < c->w2[i]?=w[i]?
variable {S':List Ob}
theorem RoomF.gr {k:Nat}(h:RoomF F k r S)(e:Gr S S'):RoomF F k r S':=by
 obtain ⟨⟨a,c,b,h1,h2⟩,h3⟩:=h;exact ⟨⟨a,c,b,e.get h1,h2⟩,λp hp=>⟨(h3 p hp).1,e.get (h3 p hp).2⟩⟩
theorem QP {g:List GS}(hg:GOk g):∀(q:Nat) (mv:List Mv),okQ g q mv->mv.length<=(AG g sL q mv).length + (AG g sR q mv).length
 | q,[],_=>un7 _
 | q,(p,v) :: r,h=>by
   rw [okQ] at h;have ih:=QP hg _ r h.2;rw [AG,AG,uf7,uf7,uh9];rcases Iv hg h.1 with e | e
   ·rw [if_pos e,uh9];lia
   ·rw [if_pos (show (Bz g q).side=sR from e),uh9];lia
def At (w:List Nat)(a:Nat)(xs:List D):Prop:=∃p q,wD w=p++(xs++q)/\p.length=a
theorem At.left {a:Nat}(h:At w a (xs++ys)):At w a xs:=by
 obtain ⟨p,q,e,l⟩:=h;exact ⟨p,ys++q,by rw [e,ug9],l⟩
theorem At.right {a:Nat}(h:At w a (xs++ys)):At w (a + xs.length) ys:=by
 obtain ⟨p,q,e,l⟩:=h;exact ⟨p++xs,q,by rw [e,ug9,ug9],by rw [uf7,l]⟩
theorem At.head {a c:Nat}(h:At w a (.int (c:Int) :: xs)):w[a]?=some c/\At w (a + 1) xs:=by
 refine ⟨?_,At.right (xs:=[.int (c:Int)]) h⟩;obtain ⟨p,q,e,l⟩:=h;have e1:(wD w)[a]?=some (.int (c:Int)):=by rw [e,ua8 (by lia),l,un4];rfl
 unfold wD at e1;rw [ug6] at e1
 cases e2:w[a]? with
 | none=>rw [e2] at e1;cases e1
 | some x=>
   rw [e2] at e1;injection e1 with e1
   injection e1 with e1
   rw [show x=c by lia]
theorem Nt {lo:Int}{M:Nat}{w:List Nat}:∀(r x y a:Nat),y / 256 ^ r=x->y<=M->At w a (nb r y)->(EL lo M r x).run w a = .told (.int (lo + y)) (a + r)
 | 0,x,y,a,hx,hy,h=>by
   rw [Nat.pow_zero,Nat.div_one] at hx;subst hx;rfl
 | r + 1,x,y,a,hx,hy,h=>by
   rw [OL] at h;obtain ⟨h1,h2⟩:=h.head;have e:x * 256 + y / 256 ^ r % 256=y / 256 ^ r:=by
    rw [<-hx,un0,<-ud1];lia
   rw [EL,BW h1,if_pos (ul2 (by rw [e,Nat.pow_mul];exact Nat.div_le_div_right hy)),Nt r _ y (a + 1) e.symm hy h2]
   congr 1
   lia
theorem NT {w:List Nat}:∀(xs cs:List Nat) (a:Nat),(∀c∈xs,Ch c=true)->At w a (xs.map λ(n:Nat)=>D.int (n:Int))->(FU xs.length cs).run w a = .told (.str ⟨(cs++xs).toArray⟩) (a + xs.length)
 | [],cs,a,_,_=>by rw [uj2];rfl
 | x :: r,cs,a,hs,h=>by
   obtain ⟨h1,h2⟩:=At.head h;rw [uh9,FU,BW h1,if_pos (hs x uf3),NT r (cs++[x]) (a + 1) (λc hc=>hs c (ud9 _ hc)) h2,ug9]
   congr 1
   lia
theorem Nk {w:List Nat}{s:Sh}{p:Rd}(hp:∀(v:D) (a:Nat),Aw s v=true->At w a (Bb s v)->p.run w a = .told v (a + (Bb s v).length)):∀(es ds:List D) (a:Nat),(∀e∈es,Aw s e=true)->At w a (es.map λd=>Bb s d).flatten->(G5 p es.length ds).run w a = .told (.lst (ds++es)) (a + ((es.map λd=>Bb s d).flatten).length)
 | [],ds,a,_,_=>by rw [uj2];rfl
 | e :: r,ds,a,hf,h=>by
   rw [ul7,ug8] at h;rw [uh9,G5,Em,hp e a (hf e uf3) h.left,RR.thn,Nk hp r (ds++[e]) _ (λx hx=>hf x (ud9 _ hx)) h.right,ug9,ul7,ug8,uf7]
   congr 1
   lia
theorem Ry:∀(k n:Nat),wid n<=k->n < 256 ^ k
 | 0,n,h=>by
   by_cases z:n=0
   ·subst z;decide
   ·rw [Jw (by lia)] at h;lia
 | k + 1,n,h=>by
   by_cases z:n=0
   ·subst z;exact Nat.pow_pos (by decide)
   ·rw [Jw (by lia)] at h;have:=Ry k (n / 256) (by lia);rw [Nat.div_lt_iff_lt_mul (by decide)] at this;rw [un0];exact this
theorem Uq {o:Str}(h:GY o=true):o=Str.ofString "of":=by
 unfold GY at h;simpa using h
theorem back:∀(n:Nat) (s:Sh),s.depth<=n->wf s=true->∀(w:List Nat) (v:D) (a:Nat),Aw s v=true->At w a (Bb s v)->(pSh n s).run w a = .told v (a + (Bb s v).length)
 | 0,s,hs,_,_,_,_,_,_=>absurd s.depth_pos (by lia)
 | n + 1,s,hs,hwf,w,v,a,hf,h=>by
   cases s with
   | nothing=>
     have:v = .non:=by cases v <;> simp [Aw,HZ] at hf <;> rfl
     subst this;rfl
   | number lo hi=>
     simp only [wf,uh8,uh3] at hwf
     cases v with
     | int i=>
       simp only [Aw,uh8,uh3] at hf;rw [Bb] at h ⊢;rw [pSh,Nt (wid (hi - lo).toNat) 0 (i - lo).toNat a ?_ (by lia) h,Nr]
       ·congr 2;lia
       ·exact Nat.div_eq_of_lt (Nat.lt_of_le_of_lt (show (i - lo).toNat<=(hi - lo).toNat by lia) (Ry _ _ (un6 _)))
     | _=>simp [Aw] at hf
   | text q=>
     cases v with
     | str x=>
       simp only [Aw,uh8,uh3,ui3] at hf;rw [Bb] at h ⊢;obtain ⟨h1,h2⟩:=At.head h;rw [pSh,BW h1,if_pos (ul2 hf.1)];have hl:x.length=x.cps.toList.length:=rfl;rw [hl,NT x.cps.toList [] (a + 1) hf.2 h2,uj7,uh9,uj5]
       congr 1
       lia
     | _=>simp [Aw] at hf
   | list s q=>
     simp only [wf,uh8,uh3] at hwf;rw [Sh.depth] at hs
     cases v with
     | lst ds=>
       rw [Aw,uh8,uh3,ui3] at hf;rw [Bb] at h ⊢;obtain ⟨h1,h2⟩:=At.head h;rw [pSh,BW h1,if_pos (ul2 hf.1),Nk (λv a=>back n s (by lia) hwf.2 w v a) ds [] (a + 1) hf.2 h2,uj7,uh9]
       congr 1
       lia
     | _=>simp [Aw] at hf
   | pair s r=>
     simp only [wf,uh8] at hwf;rw [Sh.depth] at hs;unfold Aw at hf
     split at hf
     ·rw [uh8] at hf;rw [Bb] at h ⊢;rw [pSh,Em,back n s (by lia) hwf.1 w _ a hf.1 h.left,RR.thn,Em,back n r (by lia) hwf.2 w _ _ hf.2 h.right,RR.thn,Rd.run,uf7,um0]
     ·cases hf
   | choice ss=>
     simp only [wf,uh8,uh3] at hwf;rw [Sh.depth] at hs;unfold Aw at hf
     split at hf
     ·next o k x=>
      simp only [uh8,uh3] at hf;obtain ⟨j,rfl⟩:=uc3 hf.1.2.1;have hj:j < ss.length:=by have:=hf.1.2.2;lia
      have e1:ss[j]?=some ss[j]:=ub7 hj;have h2:=hf.2;rw [ug7,Dm ss _ _ _ e1] at h2;rw [Bb,ug7,E1 ss _ _ _ e1] at h ⊢;obtain ⟨h3,h4⟩:=At.head h;have ho:o=Str.ofString "of":=Uq hf.1.1;subst ho;rw [pSh,BW h3,if_pos (ul2 hj),ub1,e1,Option.getD_some,Em,back n _ (um5 (Do ss _ _ e1) (by lia)) (Ep hwf.2 _ (ui5 hj)) w x (a + 1) h2 h4,RR.thn,Rd.run,uh9]
      congr 1
      lia
     ·cases hf
theorem Ta {b c:Nat}:∀(p:Rd) (a:Nat),p.run w a = .told v b->a<=c->c < b->p.run (w.take c) a = .short:=by
 intro p
 induction p with
 | done v'=>intro a h h1 h2;rw [Rd.run] at h;cases h;lia
 | need ok nx ih=>
   intro a h h1 h2
   cases e:w[a]? with
   | none=>rw [Cq e] at h;cases h
   | some x=>
     rw [BW e] at h
     by_cases q:ok x=true
     ·rw [if_pos q] at h
      by_cases hac:a < c
      ·rw [BW (b:=x) (by rw [ug1,if_pos hac];exact e),if_pos q];exact ih x (a + 1) h hac h2
      ·exact Cq (by rw [ug1,if_neg hac])
     ·rw [if_neg q] at h;cases h
theorem Rg (hg:GOk g){q p a b:Nat}{v:D}(hm:MvOk g q p v)(ha:At wl a (if (Bz g q).side=sL then .int (p:Int) :: Bb (wdAt g q p).2.1 v else []))(hb:At wr b (if (Bz g q).side=sR then .int (p:Int) :: Bb (wdAt g q p).2.1 v else [])) :
 Ee g wl wr q a b = .next (Fc g q p v) (C6 g q p) (a + (if (Bz g q).side=sL then D.int (p:Int) :: Bb (wdAt g q p).2.1 v else []).length) (b + (if (Bz g q).side=sR then D.int (p:Int) :: Bb (wdAt g q p).2.1 v else []).length):=by
 have hw:=IC hg hm.lt hm.pl;have hsd:=Iv hg hm;have hfit:=hm.fit;obtain ⟨side,ws,e,hpl,ew⟩:=Iw hm.pl;have es:(Bz g q).side=side:=by rw [e];rfl
 have hgd:ws.getD p (Str.ofString "",.nothing,0)=wdAt g q p:=by rw [ub1,ew];rfl
 rw [es] at ha hb hsd;have key:∀(w:List Nat) (c:Nat),At w c (.int (p:Int) :: Bb (wdAt g q p).2.1 v)->msgR side ws w c=(.told v (c + (Bb (wdAt g q p).2.1 v).length + 1),p):=λw c h=>by
  obtain ⟨h1,h2⟩:=At.head h;unfold msgR;rw [h1];dsimp only;rw [ew];dsimp only;rw [back 3 _ hw.dep hw.ok w v (c + 1) hfit h2]
  congr 2
  lia
 unfold Ee;rw [e];dsimp only;unfold Fc C6;rw [es];rcases ER hsd with ⟨q1,q2⟩ | ⟨q1,q2⟩
 ·rw [if_pos q1] at ha;unfold onS;simp only [if_pos q1,key wl a ha,hgd];rw [show (GS.st side ws).side=side from rfl,if_pos q1,if_neg q2,uh9,uj9];rfl
 ·rw [if_pos q2] at hb;unfold onS;simp only [if_neg q1,key wr b hb,hgd];rw [show (GS.st side ws).side=side from rfl,if_neg q1,if_pos q2,uh9,uj9];rfl
theorem LO {g:List GS}{wl wr:List Nat}(hg:GOk g):∀(mv:List Mv) (q a b F:Nat) (t:List D),okQ g q mv->At wl a (AG g sL q mv)->At wr b (AG g sR q mv)->walkR g wl wr (F + mv.length) q a b t=walkR g wl wr F (lastQ g q mv) (a + (AG g sL q mv).length) (b + (AG g sR q mv).length) (t++Bv g q mv)
 | [],q,a,b,F,t,_,_,_=>by rw [Bv,uj2];rfl
 | (p,v) :: r,q,a,b,F,t,hk,ha,hb=>by
   rw [okQ] at hk;rw [AG] at ha hb;rw [uh9,<-um0,walkR,Rg hg hk.1 ha.left hb.left];dsimp only;rw [LO hg r _ _ _ F _ hk.2 ha.right hb.right,AG,AG,Bv,lastQ,uf7,uf7,ug9,List.singleton_append,um0,um0]
theorem SU {h:Nat}:Ee g wl wr h wl.length wr.length = .stop:=by
 unfold Ee
 cases e1:Bz g h with
 | fin=>rfl
 | st s ws=>
   dsimp only;unfold msgR;rw [show (onS s wl wr)[onS s wl.length wr.length]?=none by unfold onS;split <;> exact List.getElem?_eq_none (un6 _)]
theorem LP {h a b:Nat}{t:List D}(e:Ee g wl wr h a b = .stop):∀F,walkR g wl wr F h a b t=(t,h,a,b,none)
 | 0=>rfl
 | F + 1=>by unfold walkR;rw [e]
def Gw (S S':List Ob):Prop:=S.length<=S'.length/\∀i,i < S.length->S'[i]?=S[i]?
theorem Gw.refl:Gw S S:=⟨un6 _,λ_ _=>rfl⟩
theorem Gw.trans {S S1 S2:List Ob}(a:Gw S S1)(b:Gw S1 S2):Gw S S2:=⟨um5 a.1 b.1,λi h=>(b.2 i (uf2 h a.1)).trans (a.2 i h)⟩
theorem Gw.app:Gw S (S++ex):=⟨by rw [uf7];lia,λi h=>ub3 h⟩
theorem Gw.set {S S':List Ob}{k:Nat}{o:Ob}(a:Gw S S')(h:S.length<=k):Gw S (S'.set k o):=⟨by rw [uk6];exact a.1,λi hi=>by rw [ue1 (by lia)];exact a.2 i hi⟩
theorem Gw.get {S S':List Ob}{k:Nat}{o:Ob}(a:Gw S S')(h:S[k]?=some o):S'[k]?=some o:=by rw [a.2 k (ub2.mp h).1];exact h
theorem VS {x:Ob}:(S++[x])[S.length]?=some x:=by simp
theorem Kz {k:Nat}{h:List D->List D->Option (List D)}{g:M (List D)}(w:W f t λo t1=>o = .obj k/\∃xs0,t1.S[k]?=some (.lst xs0)/\W g t1 λds t2=>∃xs ys,t2.S[k]?=some (.lst xs)/\h xs ds=some ys/\P .non ⟨t2.env,t2.S.set k (.lst ys)⟩):W (objM h f g) t P:=by
 unfold objM;refine W_bnd.mpr (w.mono λo t1 z9=>?_);obtain ⟨e,xs0,e1,w⟩:=z9;subst e;obtain ⟨ds,t2,e2,xs,ys,e3,e4,p⟩:=w;refine ⟨_,_,?_,p⟩;simp only [e1,bnd,e2,e3,e4];rfl
mutual
inductive Ow (S:List Ob):D->D->List Nat->Prop
 | non:Ow S .non .non []
 | int (i:Int):Ow S (.int i) (.int i) []
 | str (x:Str):Ow S (.str x) (.str x) []
 | tup {ds vs:List D} {fp:List Nat}:Ows S ds vs fp->Ow S (.tup ds) (.tup vs) fp
 | obj {k:Nat} {ds vs:List D} {fp:List Nat}:S[k]?=some (.lst ds)->Ows S ds vs fp->k∉fp->Ow S (.obj k) (.lst vs) (k :: fp)
inductive Ows (S:List Ob):List D->List D->List Nat->Prop
 | nil:Ows S [] [] []
 | cons {d v:D} {fp fp':List Nat} {ds vs:List D}:Ow S d v fp->Ows S ds vs fp'->(∀k∈fp,k∉fp')->Ows S (d :: ds) (v :: vs) (fp++fp')
end
mutual
theorem Ow.mono {S S':List Ob}{d v:D}{fp:List Nat}(h:∀k∈fp,S'[k]?=S[k]?)(r:Ow S d v fp):Ow S' d v fp:=by
 cases r with
 | non=>exact .non
 | int i=>exact .int i
 | str x=>exact .str x
 | tup o=>exact .tup (Ows.mono h o)
 | obj e o n=>exact .obj ((h _ uf3).trans e) (Ows.mono (λk hk=>h k (ud9 _ hk)) o) n
theorem Ows.mono {S S':List Ob}{ds vs:List D}{fp:List Nat}(h:∀k∈fp,S'[k]?=S[k]?)(r:Ows S ds vs fp):Ows S' ds vs fp:=by
 cases r with
 | nil=>exact .nil
 | cons a b n=>exact .cons (Ow.mono (λk hk=>h k (ue0 _ hk)) a) (Ows.mono (λk hk=>h k (ud3 _ hk)) b) n
end
mutual
theorem Ow.lt {S:List Ob}{d v:D}{fp:List Nat}(r:Ow S d v fp):∀k∈fp,k < S.length:=by
 cases r with
 | tup o=>exact Ows.lt o
 | obj e o n=>exact λk h=>(ul4.mp h).elim (λz=>by rw [z];exact (ub2.mp e).1) (Ows.lt o k)
 | _=>exact λk h=>nomatch h
theorem Ows.lt {S:List Ob}{ds vs:List D}{fp:List Nat}(r:Ows S ds vs fp):∀k∈fp,k < S.length:=by
 cases r with
 | nil=>exact λk h=>nomatch h
 | cons a b n=>exact λk h=>(ui9.mp h).elim (Ow.lt a k) (Ows.lt b k)
end
theorem Ows.length {S:List Ob}{ds vs:List D}{fp:List Nat}(r:Ows S ds vs fp):ds.length=vs.length:=by
 cases r with
 | nil=>rfl
 | cons _ b _=>rw [uh9,uh9,Ows.length b]
theorem Ows.snoc {S:List Ob}{d v:D}{fp1:List Nat}(o:Ow S d v fp1){ds vs:List D}{fp:List Nat}(r:Ows S ds vs fp)(h:∀k∈fp,k∉fp1):Ows S (ds++[d]) (vs++[v]) (fp++fp1):=by
 cases r with
 | nil=>
   have:=Ows.cons o .nil (λ_ _ z=>nomatch z);rw [uj2] at this;exact this
 | cons a b n=>
   have:=Ows.cons a (Ows.snoc o b λk hk=>h k (ud3 _ hk)) (λk hk z=>(ui9.mp z).elim (n k hk) (h k (ue0 _ hk)));rw [<-ug9] at this;exact this
variable {fp:List Nat}
theorem Ow.gr {d:D}(o:Ow S d v fp)(g:Gw S S'):Ow S' d v fp:=o.mono λk hk=>g.2 k (o.lt k hk)
theorem Ows.gr {vs:List D}(o:Ows S ds vs fp)(g:Gw S S'):Ows S' ds vs fp:=o.mono λk hk=>g.2 k (o.lt k hk)
def roO (S S':List Ob)(r:D):RR->Prop
 | .told v b=>∃d fp,r = .tup [d,.int (b:Int)]/\Ow S' d v fp/\∀k∈fp,S.length<=k
 | .short=>r=exS
 | .broken a=>r=exB a
def RXO (c:Fn)(s:Sh)(p:Rd):Prop:=∀(w:List Nat) (a:Nat) (S:List Ob),a<=w.length->Wf c [s.d,.lst (wD w),.int (a:Int)] S λr S'=>Gw S S'/\roO S S' r (p.run w a)
theorem OM {lo:Int}{M:Nat}{w:List Nat}{v:D}{b:Nat}:∀(r x a:Nat),(EL lo M r x).run w a = .told v b->∃i,v = .int i
 | 0,x,a,h=>by rw [EL,Rd.run] at h;cases h;exact ⟨_,rfl⟩
 | r + 1,x,a,h=>by
   rw [EL] at h
   cases e:w[a]? with
   | none=>rw [Cq e] at h;cases h
   | some c=>
     rw [BW e] at h
     split at h
     ·exact OM r _ _ h
     ·cases h
theorem OX {w:List Nat}{v:D}{b:Nat}:∀(r:Nat) (cs:List Nat) (a:Nat),(FU r cs).run w a = .told v b->∃x,v = .str x
 | 0,cs,a,h=>by rw [FU,Rd.run] at h;cases h;exact ⟨_,rfl⟩
 | r + 1,cs,a,h=>by
   rw [FU] at h
   cases e:w[a]? with
   | none=>rw [Cq e] at h;cases h
   | some c=>
     rw [BW e] at h
     split at h
     ·exact OX r _ _ h
     ·cases h
theorem Sg {M x a b:Nat}(e:(EL lo M r x).run w a = .told v b):Ow S v v []:=by
 obtain ⟨i,rfl⟩:=OM _ _ _ e;exact .int i
theorem Rn {a b:Nat}{q:Int}(e:(pSh (n + 1) (.text q)).run w a = .told v b):Ow S v v []:=by
 rw [pSh] at e
 cases e0:w[a]? with
 | none=>rw [Cq e0] at e;cases e
 | some c=>
   rw [BW e0] at e
   split at e
   ·obtain ⟨x,rfl⟩:=OX _ _ _ e;exact .str x
   ·cases e
theorem Q5 {p:Rd}(h:RX c s p)(hl:∀w a v b,p.run w a = .told v b->∀S,Ow S v v []):RXO c s p:=by
 intro w a S ha;refine (h w a ha S).mono λr S' z9=>?_;obtain ⟨e1,e2⟩:=z9;subst e1 e2;refine ⟨.refl,?_⟩
 cases e:p.run w a with
 | told v b=>exact ⟨v,[],rfl,hl w a v b e _,λ_ z=>nomatch z⟩
 | short=>rfl
 | broken k=>rfl
theorem W1 {p:Rd}{q:Int}(hu:UX cu)(hq2:q<=250)(hc:RXO c s p)(w:List Nat)(a:Nat)(S:List Ob):Wf (fnOf 3 8 (Dh c cu)) [(Sh.list s q).d,.lst (wD w),.int (a:Int)] S λr S'=>Gw S S'/\roO S S' r ((Rd.need (λb=>decide ((b:Int)<=q)) λb=>G5 p b []).run w a):=by
 have hL:LIM=100000:=rfl;refine A1 rfl ?_;unfold Dh;rw [Sh.d];have hup:=hu q w a;symm
 cases h:w[a]? with
 | none=>
   rw [h,upX] at hup;rw [Cq h];refine hup.use ?_;symm;exact ⟨.refl,rfl⟩
 | some b=>
   have hal:=(ub2.mp h).1;rw [h,upX] at hup;rw [BW h]
   by_cases hb:(b:Int)<=q
   ·rw [if_pos hb] at hup;rw [if_pos (ul2 hb)];refine hup.use ?_;symm;refine Ff (CT (by lia) (by lia)) ?_;refine Dp (λr t=>∃(j a':Nat) (ds vs:List D) (fp:List Nat) (S':List Ob) (e6 e7:Option Sl),j<=b/\r=(rngL 0 ((b:Nat):Int).toNat).drop j/\vs.length=j/\a'<=w.length/\(G5 p b []).run w (a + 1)=(G5 p (b - j) vs).run w a'/\Gw S S'/\S'[S.length]?=some (.lst ds)/\Ows S' ds vs fp/\(∀k∈fp,S.length < k)/\t=⟨[some (.val (.tup [.str "list",s.d,.int q])),some (.val (.lst (wD w))),some (.val (.int a)),some (.val (.int b)),some (.val (.int (a':Int))),some (.val (.obj S.length)),e6,e7],S'⟩) _ _ ⟨0,a + 1,[],[],[],S++[.lst []],none,none,un7 _,rfl,rfl,hal,rfl,.app,VS,.nil,(λ_ z=>nomatch z),rfl⟩ ?_ ?_
    ·rintro d r t ⟨j,a',ds,vs,fp,S',e6,e7,hj,hr,hdl,ha',hrun,hG,hK,ho,hfp,rfl⟩ _;obtain ⟨rfl,hr',hjn⟩:=Ld hr;rw [ug7] at hjn;obtain ⟨e,he⟩:∃e,b - j=e + 1:=⟨b - j - 1,by lia⟩;rw [he,G5,Em] at hrun;have hKl:=(ub2.mp hK).1;symm;refine (hc w a' S' ha').mono λr1 S1 z9=>?_;obtain ⟨hG1,h1⟩:=z9
     cases h2:p.run w a' with
     | short=>
       rw [h2] at hrun h1;have h1:r1=exS:=h1;subst h1;symm;exact ⟨hG.trans hG1,by rw [hrun];rfl⟩
     | broken k=>
       rw [h2] at hrun h1;have h1:r1=exB k:=h1;subst h1;symm;exact ⟨hG.trans hG1,by rw [hrun];rfl⟩
     | told v a2=>
       have hle:=Ln p a' ha' h2;rw [h2] at hrun h1;obtain ⟨d1,fp1,e1,ho1,hf1⟩:=h1;subst e1;have hK1:=hG1.get hK;symm;refine Kz (k:=S.length) ?_;symm;refine ⟨rfl,_,hK1,?_⟩;symm;refine ⟨_,_,hK1,if_pos (by rw [ho.length,hdl,hL];lia),?_⟩;symm;refine ⟨j + 1,a2,ds++[d1],vs++[v],fp++fp1,_,_,_,hjn,hr',by rw [uf7,hdl];rfl,hle.2,by rw [hrun,show b - (j + 1)=e by lia];rfl,(hG.trans hG1).set (un6 _),KW hK1,?_,λk hk=>?_,rfl⟩
       ·refine Ows.snoc (ho1.mono λk hk=>?_) ((ho.gr hG1).mono λk hk=>?_) λk hk z=>?_
        ·exact ue1 (by have:=hf1 k hk;lia)
        ·exact ue1 (by have:=hfp k hk;lia)
        ·have:=hf1 k z;have:=ho.lt k hk;lia
       ·rcases ui9.mp hk with z | z
        ·exact hfp k z
        ·have:=hf1 k z;lia
    ·rintro t ⟨j,a',ds,vs,fp,S',e6,e7,hj,hr,hdl,ha',hrun,hG,hK,ho,hfp,rfl⟩;have hj':j=b:=by
      have:=congrArg List.length hr;rw [uj9,uh7,Kq,ug7] at this;lia
     subst hj';rw [un4,G5,Rd.run] at hrun;symm;refine ⟨rfl,hG,?_⟩;rw [hrun];exact ⟨_,_,rfl,.obj hK ho (λz=>ul3 _ (hfp _ z)),λk hk=>(ul4.mp hk).elim (λz=>by rw [z];exact un6 _) λz=>um6 (hfp k z)⟩
   ·rw [if_neg hb] at hup;rw [if_neg (by rw [uh3];exact hb)];refine hup.use ?_;symm;exact ⟨.refl,rfl⟩
theorem W2 {r:Sh}{p p':Rd}(hs:RXO c s p)(hr:RXO c r p')(w:List Nat)(a:Nat)(S:List Ob)(ha:a<=w.length):Wf (fnOf 3 5 (Di c)) [(Sh.pair s r).d,.lst (wD w),.int (a:Int)] S λx S'=>Gw S S'/\roO S S' x ((p.bnd λv=>p'.bnd λu=>.done (.tup [v,u])).run w a):=by
 refine A1 rfl ?_;unfold Di;rw [Sh.d,Em];symm;refine (hs w a S ha).mono λr1 S1 z9=>?_;obtain ⟨hG1,h1⟩:=z9
 cases e1:p.run w a with
 | short=>
   rw [e1] at h1;have h1:r1=exS:=h1;subst h1;symm;exact ⟨hG1,rfl⟩
 | broken k=>
   rw [e1] at h1;have h1:r1=exB k:=h1;subst h1;symm;exact ⟨hG1,rfl⟩
 | told v a'=>
   have hle:=Ln p a ha e1;rw [e1] at h1;obtain ⟨d1,fp1,e,ho1,hf1⟩:=h1;subst e;rw [RR.thn,Em];symm;refine (hr w a' S1 hle.2).mono λr2 S2 z9=>?_;obtain ⟨hG2,h2⟩:=z9
   cases e2:p'.run w a' with
   | short=>
     rw [e2] at h2;have h2:r2=exS:=h2;subst h2;symm;exact ⟨hG1.trans hG2,rfl⟩
   | broken k=>
     rw [e2] at h2;have h2:r2=exB k:=h2;subst h2;symm;exact ⟨hG1.trans hG2,rfl⟩
   | told u a2=>
     rw [e2] at h2;obtain ⟨d2,fp2,e,ho2,hf2⟩:=h2;subst e;symm;refine ⟨rfl,hG1.trans hG2,_,_,rfl,.tup (.cons (ho1.gr hG2) (.cons ho2 .nil (λ_ _ z=>nomatch z)) λk hk z=>?_),λk hk=>?_⟩
     ·rw [uj2] at z;have:=ho1.lt k hk;have:=hf2 k z;lia
     ·rw [uj2] at hk;rcases ui9.mp hk with z | z
      ·exact hf1 k z
      ·exact um5 hG1.1 (hf2 k z)
theorem SO {p:Nat->Rd}(hu:UX cu)(hc:∀(k:Nat) (h:k < ss.length),RXO c ss[k] (p k))(w:List Nat)(a:Nat)(S:List Ob):Wf (fnOf 3 5 (CP c cu)) [(Sh.choice ss).d,.lst (wD w),.int (a:Int)] S λx S'=>Gw S S'/\roO S S' x ((Rd.need (λb=>decide (b < ss.length)) λb=>(p b).bnd λv=>.done (.tup [.str "of",.int b,v])).run w a):=by
 refine A1 rfl ?_;unfold CP;rw [Sh.d];have hup:=hu ((ss.length:Int) - 1) w a;symm;rw [En];refine hup.use ?_
 cases h:w[a]? with
 | none=>
   rw [Cq h,upX];symm;exact ⟨.refl,rfl⟩
 | some b=>
   have hal:=(ub2.mp h).1;rw [BW h,upX]
   by_cases hb:b < ss.length
   ·rw [if_pos (show (b:Int)<=(ss.length:Int) - 1 by lia),if_pos (ul2 hb),Em];have e0:ss[b]?=some ss[b]:=ub7 hb;have hsd:atI (shD ss) (b:Int)=some ss[b].d:=KK (by rw [GC,e0];rfl);symm;refine Gm hsd ?_;symm;rw [show ((a:Int) + 1)=((a + 1:Nat):Int) by lia];refine (hc b hb w (a + 1) S hal).mono λr1 S1 z9=>?_;obtain ⟨hG1,h1⟩:=z9
    cases e2:(p b).run w (a + 1) with
    | short=>
      rw [e2] at h1;have h1:r1=exS:=h1;subst h1;symm;exact ⟨hG1,rfl⟩
    | broken k=>
      rw [e2] at h1;have h1:r1=exB k:=h1;subst h1;symm;exact ⟨hG1,rfl⟩
    | told u a2=>
      rw [e2] at h1;obtain ⟨d1,fp1,e,ho1,hf1⟩:=h1;subst e;symm;refine ⟨rfl,hG1,_,_,rfl,.tup (.cons (.str _) (.cons (.int _) (.cons ho1 .nil (λ_ _ z=>nomatch z)) (λ_ z=>nomatch z)) (λ_ z=>nomatch z)),λk hk=>?_⟩;rw [uj7,uj7,uj2] at hk;exact hf1 k hk
   ·rw [if_neg (show ¬(b:Int)<=(ss.length:Int) - 1 by lia),if_neg (by rw [uh3];exact hb)];symm;exact ⟨.refl,rfl⟩
def Mc (f:Fn)(n:Nat):Prop:=∀s:Sh,s.depth<=n->wf s=true->RXO f s (pSh n s)
theorem Q7 {cn:Fn}{cl':Fn}(e1:cc=fnOf 3 5 (CP c cu))(e2:cp=fnOf 3 5 (Di c))(e3:cl=fnOf 3 8 (Dh c cu))(e4:ct=fnOf 3 7 (Dj ca cu))(e5:cn=fnOf 3 7 (CQ cl' cb cw))
 (hu:UX cu) (ha:SX ca) (hl':Hj cl') (hb:BX cb) (hw:Jz cw) (hc:Mc c n):Mc (fnOf 3 4 (DJ cc cp cl ct cn)) (n + 1):=by
 subst e1 e2 e3 e4 e5;intro s hs hwf w a S ha';refine A1 rfl ?_;unfold DJ
 cases s with
 | nothing=>
   rw [Sh.d,pSh,Rd.run];symm;exact ⟨rfl,.refl,_,_,rfl,.non,λ_ z=>nomatch z⟩
 | number lo hi=>
   have h:=Q5 (λw a _=>XY hl' hb hw hwf w a) (λw a v b e S=>Sg e) w a S ha';rw [Sh.d] at h ⊢;rw [pSh];symm;exact h.mono λr S' z=>z
 | text q=>
   have h:=Q5 (p:=pSh (n + 1) (.text q)) (λw a _=>W4 ha hu hwf n w a) (λw a v b e S=>Rn e) w a S ha';rw [Sh.d] at h ⊢;symm;exact h.mono λr S' z=>z
 | list s q=>
   simp only [wf,uh8,uh3] at hwf;rw [Sh.depth] at hs;have h:=W1 hu hwf.1.2 (hc s (by lia) hwf.2) w a S;rw [Sh.d] at h ⊢;rw [pSh];symm;exact h.mono λr S' z=>z
 | pair s r=>
   simp only [wf,uh8] at hwf;rw [Sh.depth] at hs;have h:=W2 (hc s (by lia) hwf.1) (hc r (by lia) hwf.2) w a S ha';rw [Sh.d] at h ⊢;rw [pSh];symm;exact h.mono λr S' z=>z
 | choice ss=>
   simp only [wf,uh8,uh3] at hwf;rw [Sh.depth] at hs;have hcs:∀(k:Nat) (hk:k < ss.length),RXO c ss[k] (pSh n (ss.getD k .nothing)):=by
    intro k hk;rw [ub1,ub7 hk,Option.getD_some];exact hc _ (um5 (Do ss _ _ (ub7 hk)) (by lia)) (Ep hwf.2 _ (ui5 hk))
   have h:=SO hu (p:=λb=>pSh n (ss.getD b .nothing)) hcs w a S;rw [Sh.d] at h ⊢;rw [pSh];symm;exact h.mono λr S' z=>z
theorem TV {d:D}{m:String}(e:Nd d=false)(h:W (DP [d,.ty m]) t P):W (Gf [d,.ty m]) t P:=by
 cases d <;> first | exact h | cases e
theorem Rw {k:Nat}{m:String}{b:Bool}(e:t.S[k]?=some (.lst ds))(h:DF "list" m=some b)(q:P (.bl b) t):W (Gf [.obj k,.ty m]) t P:=⟨_,_,by simp only [Gf,e,h];rfl,q⟩
variable {tst:M Bool}
theorem N4 {g:Gd}{st:D->M Unit}{P:List D->T->Prop}(h:Gon g t.S)(q:P [] t):W (compG g st tst elt []) t P:=by
 unfold compG;exact W_bnd.mpr ⟨_,_,JI h,W_ret.mpr q⟩
theorem MC {g:Gd}{st:D->M Unit}{d:D}{r:List D}{P:List D->T->Prop}(h:Gon g t.S)(q:W (st d) t λ_ t1=>W tst t1 λk t2=>
 if k=true then W elt t2 λx t3=>W (compG g st tst elt r) t3 λxs t4=>P (x :: xs) t4 else W (compG g st tst elt r) t2 P):W (compG g st tst elt (d :: r)) t P:=by
 rw [compG];refine W_bnd.mpr ⟨_,_,JI h,W_bnd.mpr (q.mono λ_ t1 q=>W_bnd.mpr (q.mono λk t2 q=>?_))⟩
 split
 ·next hk=>
  rw [if_pos hk] at q;exact W_bnd.mpr (q.mono λx t3 q=>W_bnd.mpr (q.mono λxs t4 q=>W_ret.mpr q))
 ·next hk=>
  rw [if_neg hk] at q;exact q
theorem Ru {fr:List Nat}{f:M (Gd×List D)}{st:D->M Unit}{P:List D->T->Prop}(h:W f t λp t1=>W (compG p.1 st tst elt p.2) ⟨cenv n fr t1.env,t1.S⟩ λxs t2=>GZ xs.length (P xs { t1 with S:=t2.S })):W (JP n fr f st tst elt) t P:=by
 refine W_bnd.mpr (h.mono λp t1 h=>?_);obtain ⟨xs,t2,e,l,q⟩:=h;refine ⟨xs,_,?_,q⟩;simp only [e,if_pos l]
theorem R8:Gon none S:=λ_ _ z=>nomatch z
theorem IT {k:Nat}(h:S[k]?=some (.lst xs)):Gon (some (k,xs)) S:=λ_ _ z=>by cases z;exact h
theorem Ows.at {S:List Ob}{ds vs:List D}{fp:List Nat}(r:Ows S ds vs fp)(i:Nat)(d v:D)(h1:ds[i]?=some d)(h2:vs[i]?=some v):∃f,Ow S d v f:=by
 cases r with
 | nil=>cases h1
 | cons a b n=>
   cases i with
   | zero=>cases h1;cases h2;exact ⟨_,a⟩
   | succ i=>exact Ows.at b i d v h1 h2
def msO (S S':List Ob)(r:D)(side:Str)(ws:List (Str×Sh×Int)):RR×Nat->Prop
 | (.short,_)=>r = .non
 | (.broken k,_)=>r = .exc "Broken" [.int k,.str side]
 | (.told v e,c)=>∃d fp,r = .tup [.tup [.str side,.str (ws.getD c (Str.ofString "",.nothing,0)).1,d],.int (ws.getD c (Str.ofString "",.nothing,0)).2.2,.int e]/\Ow S' d v fp/\∀k∈fp,S.length<=k
def RD (f:Fn):Prop:=∀(n:Int) (side:Str) (ws:List (Str×Sh×Int)) (w:List Nat) (p:Nat) (S:List Ob),GSOk n (.st side ws)->p<=w.length->w.length<=50000->Wf f [(GS.st side ws).d,.lst (wD w),.int p] S λr S'=>Gr S S'/\msO S S' r side ws (msgR side ws w p)
theorem Uw (hc:Mc c 3):RD (fnOf 3 6 (DU c)):=by
 intro n side ws w p S hgs hp hwl;have hlw:=CV w
 cases hgs with
 | @st _ _ hs1 hs2 hs3 hs4 hs5=>
 refine A1 rfl ?_;unfold DU;rw [GS.d]
 cases hb:w[p]? with
 | none=>
   have hpl:¬p < w.length:=by rw [ub5] at hb;lia
   rw [show msgR side ws w p=(.short,0) by unfold msgR;rw [hb]];symm;rw [hlw];refine Gh (by simp;lia) ?_;symm;refine ⟨rfl,?_⟩;symm;exact ⟨.refl,rfl⟩
 | some cc=>
   obtain ⟨hpl,_⟩:=ub2.mp hb;have hix:atI (wD w) (p:Int)=some (.int (cc:Int)):=by
    unfold atI;rw [Cn (by lia) (by rw [hlw];lia)];show (wD w)[(p:Int).toNat]?=_;rw [ug7];exact Rv hb
   symm;rw [hlw];refine Ht (by simp;lia) ?_;symm;refine B3 hix ?_;symm;rw [uj5]
   cases hw:ws[cc]? with
   | none=>
     have hcl:¬cc < ws.length:=by rw [ub5] at hw;lia
     rw [show msgR side ws w p=(.broken p,0) by unfold msgR;simp only [hb,hw]];refine Gh (by simp;lia) ?_;symm;exact ⟨.refl,rfl⟩
   | some wd=>
     obtain ⟨hcl,_⟩:=ub2.mp hw;have hwo:=hs5 wd (ue2 hw);have hgd:ws.getD cc (Str.ofString "",.nothing,0)=wd:=by rw [ub1,hw];rfl
     have hrd:=hc wd.2.1 hwo.dep hwo.ok w (p + 1) S hpl;rw [show msgR side ws w p=((pSh 3 wd.2.1).run w (p + 1),cc) by unfold msgR;simp only [hb,hw]];refine Ht (by simp;lia) ?_;symm;refine B3 hix ?_;symm;refine B3 (KD hw) ?_;unfold wdD;dsimp only;symm;refine hrd.mono λr1 S1 z9=>?_;obtain ⟨hG1,h1⟩:=z9
     cases e:(pSh 3 wd.2.1).run w (p + 1) with
     | told v b=>
       rw [e] at h1;obtain ⟨d1,fp1,e1,ho1,hf1⟩:=h1;subst e1;symm;exact ⟨rfl,hG1,d1,fp1,by rw [hgd],ho1,hf1⟩
     | short=>
       rw [e] at h1;have h1:r1=exS:=h1;subst h1;symm;refine ⟨rfl,?_⟩;symm;exact ⟨hG1,rfl⟩
     | broken k=>
       rw [e] at h1;have h1:r1=exB k:=h1;subst h1;symm;exact ⟨hG1,rfl⟩
theorem t9b {a4 a6:Option Sl}{x:D}(h:x=y):(⟨[a0,a1,a2,a3,a4,some (.val x),a6,e7,e8],S⟩:T)=⟨[a0,a1,a2,a3,a4,some (.val y),a6,e7,e8],S⟩:=by subst h;rfl
def roT (S S':List Ob)(r:D):Rs->Prop
 | (t,h,a,b,none)=>∃T fp K,r = .tup [.obj T,.int h,.obj K]/\S'[K]?=some (.dct (dP a b))/\Ow S' (.obj T) (.lst t) fp/\∀k∈fp,S.length<=k
 | (_,_,_,_,some (k,s))=>r = .exc "Broken" [.int k,.str s]
def KI (f:Fn):Prop:=∀(g:List GS) (wl wr:List Nat) (h a b W P:Nat) (S:List Ob),GOk g->Pl g wl wr h a b->wl.length<=25000->wr.length<=25000->S[W]?=some (.dct (dW wl wr))->S[P]?=some (.dct (dP a b))->
 Wf f [.lst (g.map GS.d),.int h,.obj W,.obj P] S λr S'=>Gr S S'/\roT S S' r (walkR g wl wr (wl.length + wr.length + 1) h a b [])
theorem Oh (hc:RD c):KI (fnOf 4 9 (Ex c)):=by
 intro g wl wr h a b Wd P S hg p hl1 hl2 hW hP;have hL:LIM=100000:=rfl;refine A1 rfl ?_;unfold Ex;symm;have hP1:(S++[Ob.lst []])[P]?=some (.dct (dP a b)):=Gr.app.get hP;refine Xl hP1 ?_;symm;generalize hR:walkR g wl wr (wl.length + wr.length + 1) h a b []=R;obtain ⟨K,hK⟩:∃K,K=(S++[Ob.lst []]).length:=⟨_,rfl⟩;obtain ⟨T0,hT0⟩:∃T0,T0=S.length:=⟨_,rfl⟩;have hKT:K=T0 + 1:=by rw [hK,hT0,uf7];rfl
 show W _ ⟨[some (.val (.lst (g.map GS.d))),some (.val (.int h)),some (.val (.obj Wd)),some (.val (.obj P)),some (.val (.obj S.length)),some (.val (.int h)),some (.val (.obj (S++[Ob.lst []]).length)),none,none],S++[Ob.lst []]++[.dct (dP a b)]⟩ _;rw [<-hK,<-hT0];refine GH (λn t=>∃(h' a' b':Nat) (ds tk:List D) (fp:List Nat) (S':List Ob) (e7 e8:Option Sl),Pl g wl wr h' a' b'/\wl.length + wr.length + 1<=n + (a' + b')/\tk.length + n<=wl.length + wr.length + 1/\walkR g wl wr n h' a' b' tk=R/\Gr S S'/\S'[K]?=some (.dct (dP a' b'))/\S'[T0]?=some (.lst ds)/\Ows S' ds tk fp/\(∀k∈fp,K < k)/\t=⟨[some (.val (.lst (g.map GS.d))),some (.val (.int h)),some (.val (.obj Wd)),some (.val (.obj P)),some (.val (.obj T0)),some (.val (.int h')),some (.val (.obj K)),e7,e8],S'⟩) ?_ Mf (wl.length + wr.length + 1) _ ?_ ?_
 ·rintro n t ⟨h',a',b',ds,tk,fp,S',e7,e8,p',hn,ht,hR',hG,hK',hT',hO,hfp,rfl⟩;have pa:=p'.a;have pb:=p'.b;have hend:Ow S' (.obj T0) (.lst tk) (T0 :: fp):=.obj hT' hO λz=>by have:=hfp _ z;lia
  have hfe:∀k∈T0 :: fp,S.length<=k:=λk hk=>by
   rcases ul4.mp hk with rfl | hk
   ·lia
   ·have:=hfp k hk;lia
  obtain ⟨m,rfl⟩:∃m,n=m + 1:=⟨n - 1,by lia⟩;have hgs:=EG hg p'.h;have hix:=FN p'.h;have hW':=hG.get hW;unfold walkR Ee at hR'
  cases eg:Bz g h' with
  | fin=>
    rw [eg] at hix hR';rw [GS.d] at hix;symm;refine B3 hix ?_;symm;refine Xr hW' ?_;rw [R0];symm;show Fd _ _ Out.next _;symm;subst hR';exact ⟨rfl,hG,T0,_,K,rfl,hK',hend,hfe⟩
  | st side ws=>
    rw [eg] at hix hR' hgs;have hs:side=sL\/side=sR:=by cases hgs with | st hs1 _ _ _ _=>exact hs1
    have hix2:=hix;rw [GS.d] at hix2;symm;refine B3 hix2 ?_;symm;refine Xr hW' ?_;rw [D3 hs];symm;refine ⟨m,rfl,?_⟩;symm;refine B3 hix2 ?_;symm;refine B3 hix ?_;symm;refine BS hW' (D3 hs) ?_;symm;refine BS hK' (D3 hs) ?_;symm;have hon:(onS side (D.int (a':Int)) (D.int (b':Int))) = .int ((onS side a' b':Nat):Int):=by unfold onS;split <;> rfl
    have hon2:(onS side (D.lst (wD wl)) (D.lst (wD wr))) = .lst (wD (onS side wl wr)):=by unfold onS;split <;> rfl
    rw [hon,hon2];have hle:=Ws (s:=side) pa pb;refine (hc g.length side ws (onS side wl wr) (onS side a' b') S' hgs hle (by unfold onS;split <;> lia)).mono λr1 S1 ⟨hG1,h1⟩=>?_
    have hK1:=hG1.get hK';have hT1:=hG1.get hT';have hO1:Ows S1 ds tk fp:=hO.gr hG1;dsimp only at hR';generalize hmr:msgR side ws (onS side wl wr) (onS side a' b')=mr at h1 hR';obtain ⟨r0,c0⟩:=mr
    cases r0 with
    | short=>
      have h1:r1 = .non:=h1;subst h1;dsimp only at hR';symm;refine W_ret.mpr ?_;show Fd _ _ Out.next _;symm;subst hR';exact ⟨rfl,hG.trans hG1,T0,_,K,rfl,hK1,hend.gr hG1,hfe⟩
    | broken k=>
      have h1:r1 = .exc "Broken" [.int k,.str side]:=h1;subst h1;dsimp only at hR';symm;subst hR';exact ⟨hG.trans hG1,rfl⟩
    | told v e=>
      obtain ⟨d1,fp1,e1,ho1,hf1⟩:=h1;subst e1;dsimp only at hR';have hst:Ee g wl wr h' a' b' = .next (.tup [.str side,.str (ws.getD c0 (Str.ofString "",.nothing,0)).1,v]) (ws.getD c0 (Str.ofString "",.nothing,0)).2.2.toNat (onS side e a') (onS side b' e):=by
       unfold Ee;rw [eg];dsimp only;rw [hmr]
      obtain ⟨p2,hlt⟩:=Rh hg p' hst;have hKl:=(ub2.mp hK').1;symm;refine Kz (k:=T0) ?_;symm;refine ⟨rfl,_,hT1,?_⟩;symm;refine ⟨_,_,hT1,if_pos (by rw [hO.length,hL];lia),?_⟩;symm;refine Dl ?_;symm;refine Cr (kvs:=dP a' b') (by rw [ue1 (by lia)];exact hK1) (by show 2 < 100000;decide) ?_;rw [Kb hs];have hwl:(0:Int)<=(ws.getD c0 (Str.ofString "",.nothing,0)).2.2:=by
       cases hgs with
       | st _ h2 _ _ h5=>
         cases hq:ws[c0]? with
         | none=>rw [ub1,hq];exact Int.le_refl _
         | some wd=>rw [ub1,hq];exact (h5 wd (ue2 hq)).lo
      have hd:lr (onS side (D.int (e:Int)) (D.int (a':Int))) (onS side (D.int (b':Int)) (D.int (e:Int)))=dP (onS side e a') (onS side b' e):=by unfold onS;split <;> rfl
      rw [hd];have hoff:∀k,K < k->((S1.set T0 (.lst (ds++[.tup [.str side,.str (ws.getD c0 (Str.ofString "",.nothing,0)).1,d1]]))).set K (.dct (dP (onS side e a') (onS side b' e))))[k]?=S1[k]?:=λk hk=>by rw [ue1 (by lia),ue1 (by lia)]
      have hom:Ow S1 (.tup [.str side,.str (ws.getD c0 (Str.ofString "",.nothing,0)).1,d1]) (.tup [.str side,.str (ws.getD c0 (Str.ofString "",.nothing,0)).1,v]) fp1:=by
       have q:=Ow.tup (.cons (.str side) (.cons (.str (ws.getD c0 (Str.ofString "",.nothing,0)).1) (.cons ho1 .nil (λ_ _ z=>nomatch z)) (λ_ z=>nomatch z)) (λ_ z=>nomatch z));rw [uj7,uj7,uj2] at q;exact q
      have hG2:Gr S ((S1.set T0 (.lst (ds++[.tup [.str side,.str (ws.getD c0 (Str.ofString "",.nothing,0)).1,d1]]))).set K (.dct (dP (onS side e a') (onS side b' e)))):=((hG.trans hG1).set (k:=T0) (by lia)).set (k:=K) (by lia);have hK2:((S1.set T0 (.lst (ds++[.tup [.str side,.str (ws.getD c0 (Str.ofString "",.nothing,0)).1,d1]]))).set K (.dct (dP (onS side e a') (onS side b' e))))[K]?=some (.dct (dP (onS side e a') (onS side b' e))):=BV (o:=.dct (dP a' b')) (by rw [ue1 (by lia)];exact hK1);have hT2:((S1.set T0 (.lst (ds++[.tup [.str side,.str (ws.getD c0 (Str.ofString "",.nothing,0)).1,d1]]))).set K (.dct (dP (onS side e a') (onS side b' e))))[T0]?=some (.lst (ds++[.tup [.str side,.str (ws.getD c0 (Str.ofString "",.nothing,0)).1,d1]])):=by rw [ue1 (by lia)];exact BV hT1
      refine ⟨_,_,_,ds++[_],tk++[_],fp++fp1,_,_,_,p2,by lia,by rw [uf7,ud5];lia,hR',hG2,hK2,hT2,?_,λk hk=>?_,t9b (congrArg D.int (ue9 hwl).symm)⟩
      ·refine Ows.snoc (hom.mono λk hk=>hoff k (by have:=hf1 k hk;lia)) (hO1.mono λk hk=>hoff k (hfp k hk)) λk hk z=>?_;have:=hf1 k z;have:=hO.lt k hk;lia
      ·rcases ui9.mp hk with z | z
       ·exact hfp k z
       ·have:=hf1 k z;lia
 ·show _ < 1000000;lia
 ·refine ⟨h,a,b,[],[],[],_,none,none,p,by lia,by simp,hR,Gr.app.trans Gr.app,by rw [hK];exact Dc,by rw [hT0,ub3 (by simp)];exact Dc,.nil,(λ_ z=>nomatch z),rfl⟩
def HR (f:Fn):Prop:=∀(g:List GS) (wl wr:List Nat) (S:List Ob),GOk g->wl.length<=25000->wr.length<=25000->Wf f [.lst (g.map GS.d),.lst (wD wl),.lst (wD wr)] S λr S'=>Gr S S'/\match walkR g wl wr (wl.length + wr.length + 1) 0 0 0 [] with
 | (t,h,a,b,none)=>∃T fp,r = .tup [.obj T,.int h,.tup [.int a,.int b]]/\Ow S' (.obj T) (.lst t) fp/\∀k∈fp,S.length<=k
 | (_,_,_,_,some (k,s))=>r = .exc "Broken" [.int k,.str s]
theorem On (hc:KI c):HR (fnOf 3 4 (Ga c)):=by
 intro g wl wr S hg hl1 hl2;refine A1 rfl ?_;unfold Ga;symm;refine Hf ?_;refine BP ?_;symm;refine BP ?_;symm;refine DQ ?_;refine ⟨by simp,by show 2<=15;decide,?_⟩;have hA:Gr S ((S++[Ob.dct []]).set S.length (.dct (BB (dW wl wr)))):=Gr.app.set (un6 _);have hB:((S++[Ob.dct []]).set S.length (.dct (BB (dW wl wr))))[S.length]?=some (.dct (dW wl wr)):=by rw [G0];exact BV Dc
 show W _ ⟨_,(S++[Ob.dct []]).set S.length (.dct (BB (dW wl wr)))⟩ _;generalize (S++[Ob.dct []]).set S.length (.dct (BB (dW wl wr)))=S1 at hA hB ⊢;symm;refine Hf ?_;refine BP ?_;symm;refine BP ?_;symm;refine DQ ?_;refine ⟨by simp,by show 2<=15;decide,?_⟩;have hC:Gr S1 ((S1++[Ob.dct []]).set S1.length (.dct (BB (dP 0 0)))):=Gr.app.set (un6 _);have hD:((S1++[Ob.dct []]).set S1.length (.dct (BB (dP 0 0))))[S1.length]?=some (.dct (dP 0 0)):=by rw [G0];exact BV Dc
 show W _ ⟨_,(S1++[Ob.dct []]).set S1.length (.dct (BB (dP 0 0)))⟩ _;generalize (S1++[Ob.dct []]).set S1.length (.dct (BB (dP 0 0)))=S2 at hC hD ⊢;symm;refine (hc g wl wr 0 0 0 S.length S1.length S2 hg ⟨hg.ne,un7 _,un7 _⟩ hl1 hl2 (hC.get hB) hD).mono λr S3 z9=>?_;obtain ⟨hG,hr⟩:=z9;have hS:=hA.trans (hC.trans hG);generalize walkR g wl wr (wl.length + wr.length + 1) 0 0 0 []=R at hr ⊢;obtain ⟨t,h,a,b,o⟩:=R
 cases o with
 | none=>
   obtain ⟨T,fp,K,rfl,hK,ho,hf⟩:=hr;symm;refine BS hK EH ?_;symm;refine BS hK EI ?_;symm;exact ⟨rfl,hS,T,fp,rfl,ho,λk hk=>um5 (hA.trans hC).1 (hf k hk)⟩
 | some z=>
   obtain ⟨k,s⟩:=z;have hr:r = .exc "Broken" [.int k,.str s]:=hr;subst hr;symm;exact ⟨hS,rfl⟩
def prt (g:List GS)(mv:List Mv)(i:Nat):List D:=match mv[i]? with
 | some (p,v)=>.int (p:Int) :: Bb (wdAt g (lastQ g 0 (mv.take i)) p).2.1 v
 | none=>[]
def PsX (g:List GS)(mv:List Mv)(n:Nat)(ps:List (List Nat)):Prop:=ps.length=n/\∀(i:Nat) (w:List Nat),ps[i]?=some w->wD w=prt g mv i/\w.length<=401/\B256 w
def KF (f:Fn):Prop:=∀(g:List GS) (mv:List Mv) (S:List Ob),GOk g->TOk g mv->Wf f [.lst (g.map GS.d),.lst (Bv g 0 mv)] S λr S'=>S'=S/\∃ps,PsX g mv mv.length ps/\r = .lst (ps.map λw=>.lst (wD w))
theorem Ps (hc:VBF c):KF (fnOf 2 9 (D9 c)):=by
 intro g mv S hg hT;have hL:LIM=100000:=rfl;have hlen:=hT.len;refine A1 rfl ?_;unfold D9;left;refine Dp (λr t=>∃(j:Nat) (ps:List (List Nat)) (e4 e5 e6 e7 e8:Option Sl),j<=mv.length/\r=(Bv g 0 mv).drop j/\PsX g mv j ps/\t=⟨[some (.val (.lst (g.map GS.d))),some (.val (.lst (Bv g 0 mv))),some (.own (ps.map λw=>.lst (wD w))),some (.val (.int (lastQ g 0 (mv.take j)))),e4,e5,e6,e7,e8],S⟩) _ _ ⟨0,[],none,none,none,none,none,un7 _,rfl,⟨rfl,λi w z=>by simp at z⟩,rfl⟩ ?_ ?_
 ·rintro d r t ⟨j,ps,e4,e5,e6,e7,e8,hjl,hr,hps,rfl⟩ _;obtain ⟨hdj,hr'⟩:=T8 hr;have hjn:j < mv.length:=by
   obtain ⟨h,_⟩:=ub2.mp hdj;rw [Cv] at h;exact h
  cases em:mv[j]? with
  | none=>rw [ub5] at em;lia
  | some x=>
  obtain ⟨p,v⟩:=x;have hm:=Ih hT.ok em;have htk:mv.take (j + 1)=mv.take j++[(p,v)]:=by
   rw [List.take_succ,em];rfl
  have hprt:prt g mv j = .int (p:Int) :: Bb (wdAt g (lastQ g 0 (mv.take j)) p).2.1 v:=by unfold prt;rw [em]
  have hbd:(Bb (wdAt g (lastQ g 0 (mv.take j)) p).2.1 v).length<=400:=by
   have:=Ja hT.bd (j + 1);rw [htk,Ie] at this;exact this.2.1
  rw [Gb g 0 mv j p v em] at hdj
  cases hdj
  have nQ:lastQ g 0 (mv.take (j + 1))=C6 g (lastQ g 0 (mv.take j)) p:=by rw [htk,Hu];rfl
  have hlt:=hm.lt;obtain ⟨side,ws,egs,hpl,ew⟩:=Iw hm.pl;have hgs:=EG hg hlt;have hw:=IC hg hlt hm.pl;have hfit:=hm.fit;have hget:=FN hlt;have hnx:D.int (wdAt g (lastQ g 0 (mv.take j)) p).2.2=D.int (lastQ g 0 (mv.take (j + 1)):Nat):=by
   have:=hw.lo;rw [nQ];unfold C6
   congr 1
   lia
  unfold Fc;have hpc:p < 9:=by
   rw [egs] at hgs
   cases hgs with
   | st _ _ h3 _ _=>lia
  obtain ⟨bs,hbs,hb256⟩:=QD (FD 3 _ hw.dep hw.ok v hfit);have hvb:=hc _ hw.dep hw.ok v hfit hbd;generalize lastQ g 0 (mv.take j)=q at *;generalize wdAt g q p=w at *;rw [egs] at hgs hget;obtain ⟨nd,h9⟩:(ws.map (·.1)).Nodup/\ws.length<=9:=by
   cases hgs with
   | st _ _ h3 h4 _=>exact ⟨h4,h3⟩
  rw [GS.d] at hget;rw [hbs] at hvb hbd;rw [CV] at hbd;left;refine B3 hget ?_;left;refine Xq ?_;left;refine (O7 (f:=λw=>.str w.1) (fr:=[]) ?_).mono ?_
  ·intro w' _;unfold wdD;left;exact ⟨rfl,rfl⟩
  rintro xs tc ⟨rfl,hS⟩;refine CI (by rw [uj5,hL];lia) ?_;rw [hS];left;refine ⟨_,_,p,rfl,rfl,⟨rfl,Pm⟩,QA nd ew,?_⟩;left;refine B3 (KD ew) ?_;unfold wdD;dsimp only;left;refine Mh (hvb.use ⟨rfl,?_⟩);left;refine CI (by rw [CV,hL];show 1 + _<=_;lia) ?_;left;refine CI (by rw [uj5,hps.1,hL];lia) ?_;left;refine B3 (KD ew) ?_;unfold wdD;dsimp only;left;refine ⟨j + 1,ps++[p :: bs],_,_,_,_,_,hjn,hr',⟨by rw [uf7,hps.1];rfl,λi x hx=>?_⟩,t9s (by rw [uk4];rfl) hnx⟩
  by_cases hi:i < ps.length
  ·rw [ub3 hi] at hx;exact hps.2 i x hx
  ·have hi':i=j:=by
    have:=(ub2.mp hx).1;rw [uf7,ud5] at this;have:=hps.1;lia
   subst hi';rw [ua8 (by lia),hps.1,un4] at hx;have hx:p :: bs=x:=uj0 hx;subst hx;exact ⟨by rw [hprt];exact congrArg _ hbs.symm,by rw [uh9];lia,λy hy=>(ul4.mp hy).elim (λe=>by rw [e];lia) (hb256 y)⟩
 ·rintro t ⟨j,ps,e4,e5,e6,e7,e8,hjl,hr,hps,rfl⟩;have hj':j=mv.length:=by
   have:=congrArg List.length hr;rw [uj9,uh7,Cv] at this;lia
  subst hj';left;exact ⟨rfl,ps,hps,rfl⟩
variable {mv:List Mv}
theorem Gc (sd:Str)(em:mv[j]?=some (p,v)):AG g sd 0 (mv.take (j + 1))=AG g sd 0 (mv.take j)++(if (Bz g (lastQ g 0 (mv.take j))).side=sd then prt g mv j else []):=by
 rw [show mv.take (j + 1)=mv.take j++[(p,v)] by rw [List.take_succ,em];rfl,HK,AG,AG,uj2];unfold prt;rw [em]
structure Due (g:List GS)(mv:List Mv)(rl rr k:Nat):Prop where
 le:k<=mv.length
 a:(AG g sL 0 (mv.take k)).length<=rl
 b:(AG g sR 0 (mv.take k)).length<=rr
 z:k=mv.length\/(k < mv.length/\onS (Bz g (lastQ g 0 (mv.take k))).side rl rr < onS (Bz g (lastQ g 0 (mv.take k))).side (AG g sL 0 (mv.take k)).length (AG g sR 0 (mv.take k)).length + (prt g mv k).length)
def FH (g:List GS)(mv:List Mv)(k:Nat):D:=.tup [.lst (Bv g 0 (mv.take k)),.int (lastQ g 0 (mv.take k)),.tup [.int (AG g sL 0 (mv.take k)).length,.int (AG g sR 0 (mv.take k)).length]]
def RC (f:Fn):Prop:=∀(g:List GS) (mv:List Mv) (ps:List (List Nat)) (rl rr R:Nat) (S:List Ob),GOk g->TOk g mv->PsX g mv mv.length ps->S[R]?=some (.dct (dP rl rr))->Wf f [.lst (Bv g 0 mv),.lst (B8 g 0 mv),.lst (ps.map λw=>.lst (wD w)),.obj R] S λr S'=>Gr S S'/\∃k,Due g mv rl rr k/\r=FH g mv k
theorem Us:RC (fnOf 4 7 DS):=by
 intro g mv ps rl rr R S hg hT hps hR;have hL:LIM=100000:=rfl;have hlen:=hT.len;refine A1 rfl ?_;unfold DS;left;refine Hf ?_;refine BP ?_;left;refine BP ?_;left;refine DQ ?_;refine ⟨by simp,by show 2<=15;decide,?_⟩;have hA:Gr S ((S++[Ob.dct []]).set S.length (.dct (BB (dP 0 0)))):=Gr.app.set (un6 _);have hB:((S++[Ob.dct []]).set S.length (.dct (BB (dP 0 0))))[S.length]?=some (.dct (dP 0 0)):=by rw [G0];exact BV Dc
 show Fd _ _ Out.next ⟨_,(S++[Ob.dct []]).set S.length (.dct (BB (dP 0 0)))⟩;generalize (S++[Ob.dct []]).set S.length (.dct (BB (dP 0 0)))=S1 at hA hB ⊢;obtain ⟨K,hK⟩:∃K,K=S.length:=⟨_,rfl⟩;rw [<-hK] at hB ⊢;left;refine GH (λn t=>∃(k:Nat) (S':List Ob) (e6:Option Sl),n=mv.length + 1 - k/\k<=mv.length/\(AG g sL 0 (mv.take k)).length<=rl/\(AG g sR 0 (mv.take k)).length<=rr/\Gr S S'/\S'[K]?=some (.dct (dP (AG g sL 0 (mv.take k)).length (AG g sR 0 (mv.take k)).length))/\t=⟨[some (.val (.lst (Bv g 0 mv))),some (.val (.lst (B8 g 0 mv))),some (.val (.lst (ps.map λw=>.lst (wD w)))),some (.val (.obj R)),some (.val (.obj K)),some (.val (.int k)),e6],S'⟩) ?_ Mf (mv.length + 1) _ ?_ ?_
 ·rintro n t ⟨k,S',e6,rfl,hk,ha,hb,hG,hK',rfl⟩;have fin:∀(S2:List Ob) (e:Option Sl),Gr S S2->S2[K]?=some (.dct (dP (AG g sL 0 (mv.take k)).length (AG g sR 0 (mv.take k)).length))->Due g mv rl rr k->W (AR (BL (Ac (fSl (Ad 0) fNo (D7 (Ad 5)) Eh) (Ac (Ag (Ad 1) (Ad 5) ixD) (Ac (BL (Ac (Ag (Ad 4) (fC (.str "left")) BH) (Ac (Ag (Ad 4) (fC (.str "right")) BH) Aj))) Aj))))) ⟨[some (.val (.lst (Bv g 0 mv))),some (.val (.lst (B8 g 0 mv))),some (.val (.lst (ps.map λw=>.lst (wD w)))),some (.val (.obj R)),some (.val (.obj K)),some (.val (.int k)),e],S2⟩ λo t=>∃r,o = .ret r/\Gr S t.S/\∃k,Due g mv rl rr k/\r=FH g mv k:=λS2 e hG2 hK2 hD=>by
   have hst:atI (B8 g 0 mv) k=some (.int (lastQ g 0 (mv.take k))):=by
    unfold atI;rw [Cn (by lia) (by rw [Gj];lia)];show (B8 g 0 mv)[(k:Int).toNat]?=_;rw [ug7,IK g 0 mv k hk]
   left;rw [MV (by lia) (by rw [Cv];lia),ug7,Ke];refine B3 hst ?_;left;refine BS hK2 EH ?_;left;refine BS hK2 EI ?_;left;exact ⟨_,rfl,hG2,k,hD,rfl⟩
  left;rw [Cv]
  by_cases hlt:k < mv.length
  ·rw [ul2 (show (k:Int) < (mv.length:Int) by lia)];refine ⟨mv.length - k,by lia,?_⟩
   cases em:mv[k]? with
   | none=>rw [ub5] at em;lia
   | some x=>
   obtain ⟨p,v⟩:=x;have hm:=Ih hT.ok em;have hmi:atI (Bv g 0 mv) k=some (Fc g (lastQ g 0 (mv.take k)) p v):=by
    unfold atI;rw [Cn (by lia) (by rw [Cv];lia)];show (Bv g 0 mv)[(k:Int).toNat]?=_;rw [ug7,Gb g 0 mv k p v em]
   have hjp:k < ps.length:=by rw [hps.1];exact hlt
   have hpi:atI (ps.map λw=>D.lst (wD w)) (k:Int)=some (.lst (wD ps[k])):=by
    unfold atI;rw [Cn (by lia) (by rw [uj5];lia)];show (ps.map λw=>D.lst (wD w))[(k:Int).toNat]?=_;rw [ug7,ug6,ub7 hjp];rfl
   obtain ⟨hp1,hp2,_⟩:=hps.2 k _ (ub7 hjp);have hs:=Iv hg hm;have hR':=hG.get hR;have nA:=Gc (g:=g) sL em;have nB:=Gc (g:=g) sR em;rw [<-hp1] at nA nB;have hD:¬(onS (Bz g (lastQ g 0 (mv.take k))).side (AG g sL 0 (mv.take k)).length (AG g sR 0 (mv.take k)).length + (wD ps[k]).length<=onS (Bz g (lastQ g 0 (mv.take k))).side rl rr)->Due g mv rl rr k:=λz=>⟨hk,ha,hb,.inr ⟨hlt,by rw [<-hp1];lia⟩⟩;unfold Fc at hmi;generalize (Bz g (lastQ g 0 (mv.take k))).side=side at *;have hon:∀x y:Nat,(onS side (D.int (x:Int)) (D.int (y:Int))) = .int ((onS side x y:Nat):Int):=λx y=>by unfold onS;split <;> rfl
   left;refine B3 hmi ?_;left;refine BS hK' (D3 hs) ?_;rw [hon];left;refine B3 hpi ?_;left;refine BS hR' (D3 hs) ?_;rw [hon];left;refine CO (λz=>?_) λz=>?_
   ·have z:=uh4 z;left;refine W_ret.mpr ?_;show Fd _ _ Out.next _;refine Dn ?_;refine (fin _ _ hG hK' (hD (by lia))).mono ?_;rintro o t ⟨r,rfl,h⟩;exact h
   ·have z:((onS side (AG g sL 0 (mv.take k)).length (AG g sR 0 (mv.take k)).length:Nat):Int) + ((wD ps[k]).length:Int)<=((onS side rl rr:Nat):Int):=by simpa using z
    left;refine BS hK' (D3 hs) ?_;rw [hon];left;refine B3 hpi ?_;left;refine Dl ?_;left;refine Cr hK' (by show 2 < 100000;decide) ?_;rw [Kb hs];left;refine ⟨k + 1,_,_,by lia,hlt,?_,?_,hG.set (by lia),(BV hK').trans (congrArg (λl=>some (Ob.dct l)) ?_),rfl⟩
    ·rw [nA,uf7];rcases ER hs with ⟨q1,q2⟩ | ⟨q1,q2⟩
     ·rw [if_pos q1];unfold onS at z;rw [if_pos q1,if_pos q1] at z;lia
     ·rw [if_neg q1,uj9];lia
    ·rw [nB,uf7];rcases ER hs with ⟨q1,q2⟩ | ⟨q1,q2⟩
     ·rw [if_neg q2,uj9];lia
     ·rw [if_pos q2];unfold onS at z;rw [if_neg q1,if_neg q1] at z;lia
    ·rw [nA,nB,uf7,uf7];unfold onS;rcases ER hs with ⟨q1,q2⟩ | ⟨q1,q2⟩
     ·rw [if_pos q1,if_pos q1,if_pos q1,if_pos q1,if_neg q2];rfl
     ·rw [if_neg q1,if_neg q1,if_neg q1,if_neg q1,if_pos q2];rfl
  ·rw [uk7 (show ¬(k:Int) < (mv.length:Int) by lia)];show Fd _ _ Out.next _;refine Dn ?_;refine (fin _ _ hG hK' ⟨hk,ha,hb,.inl (by lia)⟩).mono ?_;rintro o t ⟨r,rfl,h⟩;exact h
 ·show _ < 1000000;lia
 ·exact ⟨0,S1,none,rfl,un7 _,un7 _,un7 _,hA,hB,rfl⟩
theorem Vx (w:List Nat)(r:Nat):wD (w.take r)=(wD w).take r:=by unfold wD;rw [List.map_take]
theorem P8 {m:List Nat}{R:List D}(e:wD w=xs++R)(h:xs.length<=r):At (w.take r++m) 0 xs:=by
 refine ⟨[],R.take (r - xs.length)++wD m,?_,rfl⟩;rw [uj7,GG,Vx,e,List.take_append,ud0 h,ug9]
theorem Hg (sd:Str)(k:Nat):AG g sd 0 mv=AG g sd 0 (mv.take k)++AG g sd (lastQ g 0 (mv.take k)) (mv.drop k):=by
 have e:AG g sd 0 mv=AG g sd 0 (mv.take k++mv.drop k):=by rw [ud8]
 rw [e,HK]
theorem Wk {k:Nat}{sd:Str}(em:mv[k]?=some (p,v))(es:(Bz g (lastQ g 0 (mv.take k))).side=sd)(e:wD w=AG g sd 0 mv):At w (AG g sd 0 (mv.take k)).length (prt g mv k):=by
 have hk:=(ub2.mp em).1;have ed:mv.drop k=(p,v) :: mv.drop (k + 1):=by
  rw [ub4 hk];rw [ub7 hk] at em;rw [uj0 em]
 refine ⟨AG g sd 0 (mv.take k),AG g sd (C6 g (lastQ g 0 (mv.take k)) p) (mv.drop (k + 1)),?_,rfl⟩;rw [e,Hg sd k,ed,AG,if_pos es];unfold prt;rw [em]
theorem RZ {k:Nat}{side:Str}{ws:List (Str×Sh×Int)}(hg:GOk g)(hok:okQ g 0 mv)(em:mv[k]?=some (p,v))(eg:Bz g (lastQ g 0 (mv.take k)) = .st side ws)(e:wD w=AG g side 0 mv)(h:r < (AG g side 0 (mv.take k)).length + (prt g mv k).length):(msgR side ws (w.take r) (AG g side 0 (mv.take k)).length).1 = .short:=by
 have hm:=Ih hok em;have hw:=IC hg hm.lt hm.pl;have hfit:=hm.fit;have hA:=Wk em (by rw [eg];rfl) e;have hp:prt g mv k = .int (p:Int) :: Bb (wdAt g (lastQ g 0 (mv.take k)) p).2.1 v:=by unfold prt;rw [em]
 rw [hp] at hA h;rw [uh9] at h;obtain ⟨h1,h2⟩:=At.head hA;have hrun:=back 3 _ hw.dep hw.ok w v _ hfit h2;generalize (AG g side 0 (mv.take k)).length=a at *;obtain ⟨side',ws',eg',hpl,ew⟩:=Iw hm.pl;rw [eg] at eg'
 cases eg'
 unfold msgR
 by_cases hr:a < r
 ·rw [show (w.take r)[a]?=some p by rw [ug1,if_pos hr];exact h1];dsimp only;rw [ew];dsimp only;exact Ta _ _ hrun hr (by lia)
 ·rw [show (w.take r)[a]?=none by rw [ug1,if_neg hr]]
theorem Ti {ml mr:List Nat}{rl rr k:Nat}(hg:GOk g)(hok:okQ g 0 mv)(el:wD wl=AG g sL 0 mv)(er:wD wr=AG g sR 0 mv)(hrl:rl<=wl.length)(hrr:rr<=wr.length)(hD:Due g mv rl rr k)(hml:ml=[]\/(Bz g (lastQ g 0 (mv.take k))).side≠sL)(hmr:mr=[]\/(Bz g (lastQ g 0 (mv.take k))).side≠sR) :
 walkR g (wl.take rl++ml) (wr.take rr++mr) ((wl.take rl++ml).length + (wr.take rr++mr).length + 1) 0 0 0 []=(Bv g 0 (mv.take k),lastQ g 0 (mv.take k),(AG g sL 0 (mv.take k)).length,(AG g sR 0 (mv.take k)).length,none):=by
 have hokk:=G3 hok k;have hlen:=QP hg 0 (mv.take k) hokk;have ha:=hD.a;have hb:=hD.b;have l1:(wl.take rl).length=rl:=by rw [uh6];lia
 have l2:(wr.take rr).length=rr:=by rw [uh6];lia
 obtain ⟨F,hF⟩:∃F,(wl.take rl++ml).length + (wr.take rr++mr).length + 1=F + (mv.take k).length:=⟨(wl.take rl++ml).length + (wr.take rr++mr).length + 1 - (mv.take k).length,by rw [uf7,uf7];lia⟩;rw [hF,LO hg (mv.take k) 0 0 0 F [] hokk (P8 (el.trans (Hg sL k)) ha) (P8 (er.trans (Hg sR k)) hb),Nat.zero_add,Nat.zero_add,uj7];refine LP ?_ F;unfold Ee
 cases eg:Bz g (lastQ g 0 (mv.take k)) with
 | fin=>rfl
 | st side ws=>
   rw [eg] at hml hmr;have hz:=hD.z;rw [eg] at hz;have hs:side=sL\/side=sR:=by
    have hgs:=EG hg (Ib hg hg.ne hokk);rw [eg] at hgs
    cases hgs with
    | st h1 _ _ _ _=>exact h1
   dsimp only;have key:(msgR side ws (onS side (wl.take rl++ml) (wr.take rr++mr)) (onS side (AG g sL 0 (mv.take k)).length (AG g sR 0 (mv.take k)).length)).1 = .short:=by
    have one:∀(w:List Nat) (r:Nat),wD w=AG g side 0 mv->r<=w.length->(AG g side 0 (mv.take k)).length<=r->(k=mv.length\/(k < mv.length/\r < (AG g side 0 (mv.take k)).length + (prt g mv k).length))->(msgR side ws (w.take r) (AG g side 0 (mv.take k)).length).1 = .short:=λw r e h1 h2 h3=>by
     rcases h3 with h3 | ⟨h3,h4⟩
     ·subst h3;rw [List.take_length] at h2 ⊢;rw [<-e,CV] at h2 ⊢;unfold msgR;rw [show (w.take r)[w.length]?=none by rw [ug1];split <;> first | exact List.getElem?_eq_none (un6 _) | rfl]
     ·obtain ⟨p,v,hpv⟩:∃p v,mv[k]?=some (p,v):=⟨mv[k].1,mv[k].2,ub7 h3⟩;exact RZ hg hok hpv eg e h4
    have hsd:(GS.st side ws).side=side:=rfl;rw [hsd] at hml hmr hz;unfold onS at hz ⊢;rcases ER hs with ⟨q1,q2⟩ | ⟨q1,q2⟩
    ·rw [if_pos q1,if_pos q1] at hz ⊢;have hml:ml=[]:=by rcases hml with h | h;exact h;exact absurd q1 h
     rw [hml,uj2];subst q1;exact one wl rl el hrl ha hz
    ·rw [if_neg q1,if_neg q1] at hz ⊢;have hmr:mr=[]:=by rcases hmr with h | h;exact h;exact absurd q2 h
     rw [hmr,uj2];subst q2;exact one wr rr er hrr hb hz
   generalize msgR side ws (onS side (wl.take rl++ml) (wr.take rr++mr)) (onS side (AG g sL 0 (mv.take k)).length (AG g sR 0 (mv.take k)).length)=mr' at key;obtain ⟨r0,c0⟩:=mr';have key:r0 = .short:=key;subst key;rfl
def nvO:Nat->D->Bool
 | _,.non=>true
 | _,.int _=>true
 | _,.str _=>true
 | n + 1,.lst xs=>decide (xs.length<=1000) && xs.all (nvO n)
 | n + 1,.tup xs=>decide (xs.length<=1000) && xs.all (nvO n)
 | _,_=>false
theorem FK:∀(n:Nat) (s:Sh),s.depth<=n->wf s=true->∀v,Aw s v=true->nvO n v=true
 | 0,s,h,_,_,_=>absurd s.depth_pos (by lia)
 | n + 1,s,hs,hw,v,hf=>by
   cases s with
   | nothing=>cases v <;> simp [Aw,HZ] at hf;rfl
   | number lo hi=>cases v <;> simp [Aw] at hf;rfl
   | text q=>cases v <;> simp only [Aw,uf8] at hf;rfl
   | list s q=>
     simp only [wf,uh8,uh3] at hw;rw [Sh.depth] at hs
     cases v <;> simp only [Aw,uf8] at hf
     rename_i ds;simp only [uh8,uh3,ui3] at hf;rw [nvO,uh8,uh3,ui3];exact ⟨by lia,λd hd=>FK n s (by lia) hw.2 d (hf.2 d hd)⟩
   | pair s r=>
     simp only [wf,uh8] at hw;rw [Sh.depth] at hs;unfold Aw at hf
     split at hf
     ·rw [uh8] at hf;have h1:=FK n s (by lia) hw.1 _ hf.1;have h2:=FK n r (by lia) hw.2 _ hf.2;simp [nvO,h1,h2]
     ·cases hf
   | choice ss=>
     simp only [wf,uh8,uh3] at hw;rw [Sh.depth] at hs;unfold Aw at hf
     split at hf
     ·next o k x=>
      simp only [uh8,uh3] at hf;obtain ⟨j,rfl⟩:=uc3 hf.1.2.1;have hj:j < ss.length:=by have:=hf.1.2.2;lia
      have e1:ss[j]?=some ss[j]:=ub7 hj;have h2:=hf.2;rw [ug7,Dm ss _ _ _ e1] at h2;have h3:=FK n _ (um5 (Do ss _ _ e1) (by lia)) (Ep hw.2 _ (ui5 hj)) x h2;have g1:∀o:Str,nvO n (.str o)=true:=λo=>by cases n <;> rfl
      have g2:∀i:Int,nvO n (.int i)=true:=λo=>by cases n <;> rfl
      simp [nvO,h3,g1,g2]
     ·cases hf
theorem Nu:∀(n:Nat) (v:D),nvO n v=true->nvO (n + 1) v=true
 | 0,v,h=>by cases v <;> first | rfl | (simp [nvO] at h;done)
 | n + 1,v,h=>by
   cases v <;> first | rfl | (simp [nvO] at h;done) | skip
   all_goals
    rw [nvO,uh8,ui3] at h;rw [nvO,uh8,ui3];exact ⟨h.1,λd hd=>Nu n d (h.2 d hd)⟩
theorem Gy {n:Nat}{v:D}(h:nvO n v=true):∀m,nvO (n + m) v=true
 | 0=>h
 | m + 1=>Nu _ _ (Gy h m)
theorem OQ:∀{xs:List D},(∀x∈xs,Ce x=true)->G7 xs=true
 | [],_=>rfl
 | x :: r,h=>by rw [G7,h x uf3,OQ λy m=>h y (ud9 _ m)];rfl
theorem NG:∀(n:Nat) (v:D),nvO n v=true->Ce v=true
 | 0,v,h=>by cases v <;> first | rfl | (simp [nvO] at h;done)
 | n + 1,v,h=>by
   cases v <;> first | rfl | (simp [nvO] at h;done) | skip
   all_goals
    rw [nvO,uh8,ui3] at h;rw [Ce];exact OQ λx hx=>NG n x (h.2 x hx)
theorem NP:∀(n:Nat) (v:D),nvO n v=true->Rq n v
 | 0,v,h=>by cases v <;> first | exact Q9 | exact NN | exact Ra | (simp [nvO] at h;done)
 | n + 1,v,h=>by
   cases v <;> first | exact Q9 | exact NN | exact Ra | (simp [nvO] at h;done) | skip
   ·rw [nvO,uh8,ui3] at h;exact W3 λx hx=>NP n x (h.2 x hx)
   ·rw [nvO,uh8,ui3] at h;exact NO λx hx=>NP n x (h.2 x hx)
theorem Io {S:List Ob}{n:Nat}(ih:∀{d v:D} {fp:List Nat},Ow S d v fp->nvO n v=true->Cw S n d=v):∀{ds vs:List D} {fp:List Nat},Ows S ds vs fp->(∀v∈vs,nvO n v=true)->ds.map (Cw S n)=vs
 | _,_,_,.nil,_=>rfl
 | _,_,_,.cons a b _,h=>by rw [ul7,ih a (h _ uf3),Io ih b λv hv=>h v (ud9 _ hv)]
theorem FX {S:List Ob}:∀(n:Nat) {d v:D} {fp:List Nat},Ow S d v fp->nvO n v=true->Cw S n d=v
 | 0,d,v,fp,o,h=>by
   cases o <;> first | rfl | (simp [nvO] at h;done)
 | n + 1,d,v,fp,o,h=>by
   cases o with
   | non=>rfl
   | int i=>rfl
   | str x=>rfl
   | tup o=>
     rw [nvO,uh8,ui3] at h;rw [Cw,Io (λa b=>FX n a b) o h.2]
   | obj e o _=>
     rw [nvO,uh8,ui3] at h;unfold Cw;rw [e];dsimp only;rw [Io (λa b=>FX n a b) o h.2]
theorem GB {S:List Ob}:∀(n:Nat) (v:D),nvO n v=true->Cw S n v=v
 | 0,v,h=>by cases v <;> first | rfl | (simp [nvO] at h;done)
 | n + 1,v,h=>by
   cases v <;> first | rfl | (simp [nvO] at h;done) | skip
   all_goals
    rw [nvO,uh8,ui3] at h;rw [Cw]
    congr 1
    rw [ue8 λx hx=>GB n x (h.2 x hx),List.map_id']
theorem Jt {g:Bool->Bool}{x d:D}(hx:Cw t.S 16 x=d)(hy:Cw t.S 16 y=d)(hn:nvO 16 d=true)(h:P (.bl (g true)) t):W (eqO g x y) t P:=
 ⟨_,_,by unfold eqO;rw [hx,hy,NG 16 d hn,NP 16 d hn EQD (by decide)];rfl,h⟩
theorem Ym {d:D}{n m1 m2:String}{b1 b2:Bool}(h0:Nd d=false)(h1:tyD d=some n)(h2:DF n m1=some b1)(h3:DF n m2=some b2)(h:P (.bl (b1 || b2)) t):W (IU [d,.tup [.ty m1,.ty m2]]) t P:=by
 refine ⟨_,_,?_,h⟩
 cases d <;> first | (simp only [IU,h1,h2,h3];done) | cases h0
theorem Xs {k:Nat}{m1 m2:String}{b1 b2:Bool}(e:t.S[k]?=some (.lst ds))(h2:DF "list" m1=some b1)(h3:DF "list" m2=some b2)(h:P (.bl (b1 || b2)) t):W (IU [.obj k,.tup [.ty m1,.ty m2]]) t P:=⟨_,_,by simp only [IU,e,h2,h3],h⟩
local macro_rules | `(tactic| walk_at "y1")=>`(tactic| first | walk_at "x1" | ((with_reducible refine' TV ?wv ?_);(case wv=>exact rfl)) | ((with_reducible refine' Ym ?wv ?wu ?wt ?ws ?_);(case wv=>exact rfl);(case wu=>exact rfl);(case wt=>exact rfl);(case ws=>exact rfl)))
def Go (f:Fn)(n:Nat):Prop:=∀(S:List Ob) (d v:D) (fp:List Nat),Ow S d v fp->nvO n v=true->Wf f [d] S λr S'=>r = .bl true/\S'=S
theorem HB {c:Fn}{g:Gd}{S:List Ob}(hg:Gon g S):∀{ds:List D} {z:Option Sl},(∀d∈ds,Wf c [d] S λr S'=>r = .bl true/\S'=S)->W (compG g (BD 0) (De (AJ (Au c (Ac (Ad 0) Aj)))) (Ad 0) ds) ⟨[z],S⟩ λxs t'=>xs=[]/\t'.S=S
 | [],z,_=>N4 hg ⟨rfl,rfl⟩
 | d :: ds,z,h=>by
   refine MC hg ?_;refine ES ?_;symm;refine (h d uf3).mono ?_;rintro r S' ⟨rfl,rfl⟩;symm;rw [if_neg (by decide)];exact HB hg λx hx=>h x (ud9 _ hx)
theorem Te {P:Gd×List D->T->Prop}(h:W f t λd t1=>W (Gv d) t1 P):W (Ph f) t P:=W_bnd.mpr h
theorem TW {k:Nat}{P:Gd×List D->T->Prop}(e:t.S[k]?=some (.lst ds))(h:P (some (k,ds),ds) t):W (Gv (.obj k)) t P:=⟨_,_,by simp only [Gv,e],h⟩
theorem Yn {P:Gd×List D->T->Prop}(h:P (none,ds) t):W (Gv (.tup ds)) t P:=⟨_,_,rfl,h⟩
theorem LG (hc:n=0\/Go c (n - 1)):Go (fnOf 1 1 (D8 c)) n:=by
 intro S d v fp ho hn;have hL:LIM=100000:=rfl;refine A1 rfl ?_;unfold D8
 cases ho with
 | non=>symm;exact ⟨rfl,rfl⟩
 | int i=>symm;exact ⟨rfl,rfl⟩
 | str x=>symm;exact ⟨rfl,rfl⟩
 | @tup ds vs _ o=>
   obtain ⟨m,rfl⟩:∃m,n=m + 1:=by cases n with | zero=>simp [nvO] at hn | succ m=>exact ⟨m,rfl⟩
   rw [nvO,uh8,uh3,ui3] at hn;have hcc:Go c m:=by rcases hc with h | h;cases h;exact h
   symm;refine Ru ?_;refine Te ?_;symm;refine Yn ?_;refine (HB R8 λd hd=>?_).mono ?_
   ·obtain ⟨i,hi⟩:=List.mem_iff_getElem?.mp hd;obtain ⟨hi1,_⟩:=ub2.mp hi;have hi2:i < vs.length:=by rw [<-o.length];exact hi1
    obtain ⟨f,q⟩:=o.at i _ _ hi (ub7 hi2);exact hcc S _ _ f q (hn.2 _ (ui5 hi2))
   rintro xs t' ⟨rfl,hS⟩;symm;refine Jt rfl rfl rfl ?_;exact ⟨rfl,hS⟩
 | @obj k ds vs fp e o nk=>
   obtain ⟨m,rfl⟩:∃m,n=m + 1:=by cases n with | zero=>simp [nvO] at hn | succ m=>exact ⟨m,rfl⟩
   rw [nvO,uh8,uh3,ui3] at hn;have hcc:Go c m:=by rcases hc with h | h;cases h;exact h
   symm;refine Xs e rfl rfl ?_;symm;refine Ru ?_;refine Te ?_;symm;refine TW e ?_;refine (HB (IT e) λd hd=>?_).mono ?_
   ·obtain ⟨i,hi⟩:=List.mem_iff_getElem?.mp hd;obtain ⟨hi1,_⟩:=ub2.mp hi;have hi2:i < vs.length:=by rw [<-o.length];exact hi1
    obtain ⟨f,q⟩:=o.at i _ _ hi (ub7 hi2);exact hcc S _ _ f q (hn.2 _ (ui5 hi2))
   rintro xs t' ⟨rfl,hS⟩;symm;refine Jt rfl rfl rfl ?_;exact ⟨rfl,hS⟩
theorem Xw {k:Nat}{lo hi:Option Int}(e:t.S[k]?=some (.lst ds))(h:P (.lst (Cu ds lo hi)) t):W (Lm (.obj k) lo hi) t P:=⟨_,_,by simp only [Lm,e],h⟩
local macro_rules | `(tactic| walk_at "y1")=>`(tactic| first | walk_at "x1" | with_reducible refine wSlOL ?_)
local macro_rules | `(tactic| walk_at "y1")=>`(tactic| first | walk_at "x1" | ((with_reducible refine' TV ?wv ?_);(case wv=>exact rfl)))
theorem Ows.split {S:List Ob}:∀{ds vs:List D} {fp:List Nat},Ows S ds vs fp->∀(k:Nat) (d v:D),ds[k]?=some d->vs[k]?=some v->∃f f2,Ow S d v f/\Ows S (ds.eraseIdx k) (vs.eraseIdx k) f2/\(∀x∈f,x∉f2)/\(∀x∈f,x∈fp)/\∀x∈f2,x∈fp
 | _,_,_,.nil,k,d,v,h,_=>by simp at h
 | _,_,_,.cons a b n,0,d,v,h1,h2=>by
   simp at h1 h2;subst h1 h2;exact ⟨_,_,a,b,n,λx hx=>ue0 _ hx,λx hx=>ud3 _ hx⟩
 | _,_,_,.cons a b n,k + 1,d,v,h1,h2=>by
   obtain ⟨f,f2,o1,o2,h3,h4,h5⟩:=Ows.split b k d v (by simpa using h1) (by simpa using h2);refine ⟨f,_++f2,o1,.cons a o2 λx hx z=>n x hx (h5 x z),λx hx z=>?_,λx hx=>ud3 _ (h4 x hx),λx hx=>?_⟩
   ·rcases ui9.mp z with z | z
    ·exact n x z (h4 x hx)
    ·exact h3 x hx z
   ·rcases ui9.mp hx with z | z
    ·exact ue0 _ z
    ·exact ud3 _ (h5 x z)
def RJ (m:D):Prop:=nvO 5 m=true/\∃a b v,m = .tup [.str a,.str b,v]
theorem No {d:D}{a b:Str}{f:List Nat}(o:Ow S d (.tup [.str a,.str b,v]) f):∃d' f',d = .tup [.str a,.str b,d']/\Ow S d' v f'/\∀x∈f',x∈f:=by
 cases o with
 | tup o=>
   cases o with
   | cons o1 o=>
     cases o1
     cases o with
     | cons o2 o=>
       cases o2
       cases o with
       | cons o3 o=>
         cases o
         exact ⟨_,_,rfl,o3,λx hx=>by simpa using hx⟩
theorem Yx {k:Nat}(h:W f t λo t1=>o = .obj k/\t1.S[k]?=some (.lst (xs++[y]))/\P y ⟨t1.env,t1.S.set k (.lst xs)⟩):W (Sj f) t P:=by
 refine W_bnd.mpr (h.mono λo t1 z9=>?_);obtain ⟨e,e1,p⟩:=z9;subst e;refine ⟨_,_,?_,p⟩;simp [e1]
theorem SS (h:S[j]?=some o):(S.set j o').set j o=S:=by
 rw [List.set_set];obtain ⟨hl,rfl⟩:=ub2.mp h;exact List.set_getElem_self hl
def RK (f:Fn):Prop:=∀(S:List Ob) (T:Nat) (fp:List Nat) (ms:List D),Ow S (.obj T) (.lst ms) fp->(∀m∈ms,RJ m)->ms.length<=60->Wf f [.obj T,.lst ms] S λr S'=>r = .bl true/\S'=S
theorem UO:RK (fnOf 2 4 C9):=by
 intro S T fp ms ho hms hlen;have hL:LIM=100000:=rfl;refine A1 rfl ?_;unfold C9;have ho0:=ho;have hnm:nvO 16 (.lst ms)=true:=by
  rw [nvO,uh8,uh3,ui3];exact ⟨by lia,λm hm=>Gy (hms m hm).1 10⟩
 cases ho with
 | @obj _ ds _ fp e o nk=>
 have hl:=o.length;symm;refine Yr e ?_;symm;refine Ff (CT (by lia) (by lia)) ?_;refine Dp (λr t=>∃(j:Nat) (e2 e3:Option Sl),j<=ds.length/\r=(rngL 0 ((ds.length:Nat):Int).toNat).drop j/\t=⟨[some (.val (.obj T)),some (.val (.lst ms)),e2,e3],S⟩) _ _ ⟨0,none,none,un7 _,rfl,rfl⟩ ?_ ?_
 ·rintro d r t ⟨k,e2,e3,hk,hr,rfl⟩ _;obtain ⟨rfl,hr',hkn⟩:=Ha hr;rw [ug7] at hkn;rw [un3];have hdk:ds[k]?=some ds[k]:=ub7 hkn;have hmk:ms[k]?=some (ms[k]'(by lia)):=ub7 (by lia);obtain ⟨f,f2,o1,o2,h3,h4,h5⟩:=o.split k _ _ hdk hmk;obtain ⟨_,a,b,v,em⟩:=hms _ (ui5 (h:=(by lia:k < ms.length)));rw [em] at o1;obtain ⟨d',f',ed,o',h6⟩:=No o1;have hix:atI ds (k:Int)=some (.tup [.str a,.str b,d']):=by
   unfold atI;rw [Cn (by lia) (by lia)];show ds[(k:Int).toNat]?=_;rw [ug7,hdk,ed]
  symm;refine Tf e hix ?_;symm
  cases o' with
  | non=>symm;exact ⟨k + 1,_,_,hkn,hr',rfl⟩
  | int i=>symm;exact ⟨k + 1,_,_,hkn,hr',rfl⟩
  | str x=>symm;exact ⟨k + 1,_,_,hkn,hr',rfl⟩
  | tup q=>symm;exact ⟨k + 1,_,_,hkn,hr',rfl⟩
  | @obj j es vs f'' ej q nj=>
    have hjT:j≠T:=λz=>nk (by rw [<-z];exact h4 _ (h6 _ uf3));have hjf:j∉f2:=h3 j (h6 _ uf3);have hes:es.length < 1000 + 1:=by
     have hv:=(hms _ (ui5 (h:=(by lia:k < ms.length)))).1;rw [em,nvO,uh8,ui3] at hv;have:=hv.2 (.lst vs) (by simp);rw [nvO,uh8,uh3] at this;rw [q.length];lia
    refine Rw ej rfl ?_;symm;refine Kz (k:=j) ?_;symm;refine Tf e hix ?_;symm;refine ⟨rfl,_,ej,?_⟩;symm;refine ⟨_,_,ej,if_pos (by rw [hL];lia),?_⟩;have eT:(S.set j (.lst (es++[.non])))[T]?=some (.lst ds):=by rw [ue1 hjT];exact e
    have eJ:(S.set j (.lst (es++[.non])))[j]?=some (.lst (es++[.non])):=KW ej;have o2':Ows (S.set j (.lst (es++[.non]))) (ds.eraseIdx k) (ms.eraseIdx k) f2:=o2.mono λx hx=>ue1 λz=>hjf (by rw [z];exact hx);have hback:=SS (o':=.lst (es++[.non])) ej;generalize S.set j (.lst (es++[.non]))=S1 at eT eJ o2' hback;symm;refine Xw eT ?_;symm;refine Xw eT ?_;symm;have c1:∀{xs:List D},k < xs.length->Cu xs none (some (k:Int))=xs.take k:=λ{xs} h=>by rw [MV (by lia) (by lia),ug7]
    have c2:∀{xs:List D},k < xs.length->Cu xs (some ((k:Int) + 1)) none=xs.drop (k + 1):=λ{xs} h=>by
     rw [RY (by lia) (by lia)]
     congr 1
    rw [c1 hkn,c2 hkn];refine CI (by rw [uh6,uh7,hL];lia) ?_;symm;rw [c1 (by lia),c2 (by lia)];refine CI (by rw [uh6,uh7,hL];lia) ?_;rw [<-ua3,<-ua3];have hne:∀m∈ms.eraseIdx k,nvO 15 m=true:=λm hm=>Gy (hms m (List.mem_of_mem_eraseIdx hm)).1 10;have hn16:nvO 16 (.lst (ms.eraseIdx k))=true:=by
     rw [nvO,uh8,uh3,ui3];exact ⟨um5 (List.length_eraseIdx_le ms k) (by lia),hne⟩
    refine Jt (by show Cw S1 (15 + 1) (.lst (ds.eraseIdx k))=_;rw [Cw,Io (λa b=>FX 15 a b) o2' hne]) (GB 16 _ hn16) hn16 ?_;symm;refine Yx (k:=j) (xs:=es) (y:=.non) ?_;symm;refine Tf eT hix ?_;symm;refine ⟨rfl,eJ,?_⟩;symm;rw [hback];exact ⟨k + 1,_,_,hkn,hr',rfl⟩
 ·rintro t ⟨k,e2,e3,hk,hr,rfl⟩;symm;refine Jt (FX 16 ho0 hnm) (GB 16 _ hnm) hnm ?_;exact ⟨rfl,rfl⟩
theorem VX {k R:Nat}(p:RoomF F k (R + m) S)(h:∀(R:Nat) (S':List Ob) (d:D),RoomF F k (R + 1) S'->W elt ⟨some (.val d) :: fr,S'⟩ λx t'=>∃(b:Nat) (S'':List Ob),x = .int b/\b < 256/\RoomF F k R S''/\t'=⟨some (.val d) :: fr,S''⟩) :
 W (CY (BD 0) Ei elt (rngL 0 (m:Int).toNat)) ⟨z :: fr,S⟩ λxs t'=>∃w2:List Nat,xs=wD w2/\B256 w2/\w2.length<=m/\RoomF F k R t'.S:=by
 refine (FB (P:=λxs t'=>∃w2:List Nat,xs=wD w2/\B256 w2/\w2.length<=m/\RoomF F k R t'.S) (λacc q t=>∃(w2:List Nat) (S':List Ob) (z:Option Sl),acc=wD w2/\B256 w2/\w2.length + q.length=m/\RoomF F k (R + q.length) S'/\t=⟨z :: fr,S'⟩) _ [] _ ⟨[],S,_,rfl,(λ_ z=>nomatch z),by rw [CS,ug7,uj9];lia,p.mono (by rw [CS,ug7];lia),rfl⟩ ?_ ?_).mono ?_
 ·rintro acc d q t ⟨w2,S',z,rfl,h1,h2,h3,rfl⟩ _;rw [uh9] at h2 h3;refine ES (Jv ?_);rw [if_pos rfl];refine (h (R + q.length) S' d h3).mono ?_;rintro x t' ⟨b,S'',rfl,hb,h4,rfl⟩;exact ⟨w2++[b],S'',_,by rw [GG];rfl,h1.app λy hy=>by rw [uf9.mp hy];exact hb,by rw [uf7,ud5];lia,h4,rfl⟩
 ·rintro acc t ⟨w2,S',z,rfl,h1,h2,h3,rfl⟩;exact ⟨w2,rfl,h1,by lia,h3.mono (by lia)⟩
 ·rintro xs t' ⟨w2,e,h1,h2,h3⟩;exact ⟨w2,by rw [uj7] at e;exact e,h1,h2,h3⟩
def KH (f:Fn):Prop:=∀(ns:List Int) (g:List GS) (S:List Ob),GOk g->Wf f [.scr ns,.lst (g.map GS.d),.int 14,.int 60] S λr _=>∃mv:List Mv,TOk g mv/\r = .lst [.lst (Bv g 0 mv),.lst (B8 g 0 mv)]
theorem PC {cv:Fn}(hv:PValOk cv 3)(ht:PTakeOk ct)(hp:HN cp):KH (fnOf 4 14 (DH cv ct cp)):=by
 intro ns g S hg;have hL:LIM=100000:=rfl;refine A1 rfl ?_;unfold DH;right;have hN:(if (60:Int) < (ns.length:Int) then (60:Int) else (ns.length:Int))<=60/\0<=(if (60:Int) < (ns.length:Int) then (60:Int) else (ns.length:Int)):=by split <;> lia
 generalize (if (60:Int) < (ns.length:Int) then (60:Int) else (ns.length:Int))=N at hN ⊢;refine Th (by rw [CT (by lia) (by lia),CT (by lia) (by lia)];rfl) ?_;have hlen:(rngL 14 (N - 14).toNat).length<=49:=by rw [CS];lia
 have hmem:∀d∈rngL 14 (N - 14).toNat,∃k:Nat,d = .int k/\k<=1000:=λd hd=>by
  rw [Li] at hd;obtain ⟨i,hi,rfl⟩:=un1.mp hd;have:=uk8.mp hi;exact ⟨14 + i,by congr 1,by lia⟩
 generalize rngL 14 (N - 14).toNat=ds at hlen hmem ⊢;refine Dp (λr t=>∃(mv:List Mv) (st:List D) (S':List Ob) (e7 e8 e9 e10 e11 e12 e13:Option Sl),mv.length + r.length<=49/\okQ g 0 mv/\okB g 0 mv/\st=B8 g 0 mv/\t=⟨[some (.val (.scr ns)),some (.val (.lst (g.map GS.d))),some (.val (.int 14)),some (.val (.int 60)),some (.own (Bv g 0 mv)),some (.val (.int (lastQ g 0 mv))),some (.own st),e7,e8,e9,e10,e11,e12,e13],S'⟩) _ _ ⟨[],[.int 0],S,none,none,none,none,none,none,none,by rw [uj9];lia,trivial,trivial,rfl,rfl⟩ ?_ ?_
 ·rintro d r t ⟨mv,st,S',e7,e8,e9,e10,e11,e12,e13,hl,hk,hb,hst,rfl⟩ hd;obtain ⟨k,rfl,hk1⟩:=hmem d hd;rw [uh9] at hl;have hlt:=Ib hg hg.ne hk;right;refine (hp ns k S' hk1).mono λr1 S1 z9=>?_;obtain ⟨K,e,p1⟩:=z9;subst e;refine Dn ?_;right;refine B3 (FN hlt) ?_;right;refine Xn ?_;right;refine CO (λq=>?_) λq=>?_
  ·have hnf:¬(Bz g (lastQ g 0 mv)).isFin=true:=by simpa using q
   have hgs:=EG hg hlt;obtain ⟨side,ws,egs⟩:∃side ws,Bz g (lastQ g 0 mv) = .st side ws:=by
    cases e:Bz g (lastQ g 0 mv) with
    | fin=>rw [e] at hnf;simp [GS.isFin] at hnf
    | st side ws=>exact ⟨side,ws,rfl⟩
   have hws:(Bz g (lastQ g 0 mv)).ws=ws:=by rw [egs];rfl
   have hside:(Bz g (lastQ g 0 mv)).side=side:=by rw [egs];rfl
   have hpos:0 < ws.length/\ws.length<=9:=by
    rw [egs] at hgs
    cases hgs with
    | st _ h2 h3 _ _=>exact ⟨h2,h3⟩
   right;refine B3 (FN hlt) ?_;rw [egs,GS.d];right;rw [uj5];refine ht.use (r:=1000) (ws.length:Int) (p1.mono (by decide)) (λi S2 i0 i1 p2=>?_) rfl (by lia) (by lia);obtain ⟨p,rfl⟩:=uc3 i0;have hpl:p < (Bz g (lastQ g 0 mv)).ws.length:=by rw [hws];exact Int.ofNat_lt.mp i1
   obtain ⟨side',ws',egs',_,ew⟩:=Iw hpl;rw [egs] at egs'
   cases egs'
   have hw:=IC hg hlt hpl;have hlo:=hw.lo;refine B3 (KD ew) ?_;unfold wdD;right;refine hv.use (r:=0) hw.dep hw.ok (p2.mono (by decide)) λx S3 x1 x2=>?_;right;refine CI (by rw [Cv,hL];lia) ?_;right;refine CI (by rw [hst,Gj,hL];lia) ?_;refine ⟨mv++[(p,x)],st++[.int (wdAt g (lastQ g 0 mv) p).2.2],S3,_,_,_,_,_,_,_,?_,?_,?_,?_,t14 ?_ ?_ rfl⟩
   ·rw [uf7,ud5];lia
   ·rw [Ig];exact ⟨hk,⟨hlt,hpl,x1⟩,trivial⟩
   ·rw [Ie];exact ⟨hb,x2,trivial⟩
   ·rw [HH,hst];unfold C6
    congr 2
    congr 1
    lia
   ·rw [LE];show _=_++[Fc g (lastQ g 0 mv) p _];unfold Fc;rw [hside]
   ·rw [Hu];show _=D.int (C6 g (lastQ g 0 mv) p:Nat);unfold C6
    congr 1
    lia
  ·right;exact ⟨mv,st,_,_,_,_,_,_,_,_,by lia,hk,hb,hst,rfl⟩
 ·rintro t ⟨mv,st,S',e7,e8,e9,e10,e11,e12,e13,hl,hk,hb,hst,rfl⟩;right;exact ⟨mv,⟨hk,hb,by rw [uj9] at hl;lia⟩,by rw [hst]⟩
theorem Vy (h:P (.obj t.S.length) ⟨t.env,t.S++[.dct []]⟩):W (Gq []) t P:=by
 refine ⟨_,_,?_,h⟩;simp [Gq,HV,bnd,F2.ret,Fp,BB]
theorem O8 {g:Gd}{st:D->M Unit}{b:M Out}{P:Out->T->Prop}(h:Gon g t.S)(q:P .next t):W (forG g st b []) t P:=by
 unfold forG;exact W_bnd.mpr ⟨_,_,JI h,W_ret.mpr q⟩
theorem N5 {g:Gd}{st:D->M Unit}{b:M Out}{d:D}{r:List D}{P:Out->T->Prop}(h:Gon g t.S)(q:W (st d) t λ_ t1=>W b t1 λo t2=>o = .next/\W (forG g st b r) t2 P):W (forG g st b (d :: r)) t P:=by
 rw [forG];refine W_bnd.mpr ⟨_,_,JI h,W_bnd.mpr (q.mono λ_ t1 q=>W_bnd.mpr (q.mono λo t2 q=>?_))⟩;obtain ⟨rfl,q⟩:=q;exact q
theorem Nj {T0:Nat}{ds0:List D}{a0 a1 a2 a3 a4 a5 a6 a7 a8 a9 a10 a11 a12 a13 a14 a15 a16 a17 a18:Option Sl}:∀{S:List Ob} {ds ms:List D} {fp:List Nat} (e:Option Sl),Ows S ds ms fp->T0∉fp->S[T0]?=some (.lst ds0)->(∀m∈ms,RJ m)->W (forG (some (T0,ds0)) (BD 19) (ifS (AJ (fB (Ac (Ag (Ad 19) (fC (.int 2)) ixD) (Ac (fC (.ty "list")) Aj)) Gf)) (D6 (objM Ct (Ag (Ad 19) (fC (.int 2)) ixD) (Ac (fC .non) Aj))) AU) ds) ⟨[a0,a1,a2,a3,a4,a5,a6,a7,a8,a9,a10,a11,a12,a13,a14,a15,a16,a17,a18,e],S⟩ λo t=>o = .next/\∃(S':List Ob) (e':Option Sl),t=⟨[a0,a1,a2,a3,a4,a5,a6,a7,a8,a9,a10,a11,a12,a13,a14,a15,a16,a17,a18,e'],S'⟩/\S'.length=S.length/\∀k,k∉fp->S'[k]?=S[k]?
 | S,_,_,_,e,.nil,_,hT,_=>O8 (IT hT) ⟨rfl,S,e,rfl,rfl,λ_ _=>rfl⟩
 | S,_,_,_,e,@Ows.cons _ d m f1 f2 ds ms a b n,hn,hT,hm=>by
   have hL:LIM=100000:=rfl;rw [ui9,not_or] at hn;refine N5 (IT hT) ?_;refine ES ?_;obtain ⟨hv,x,y,v,rfl⟩:=hm m uf3;obtain ⟨d',f',rfl,o',h6⟩:=No a;have rest:∀(S1:List Ob) (e1:Option Sl),S1.length=S.length->(∀k,k∉f1->S1[k]?=S[k]?)->W (forG (some (T0,ds0)) (BD 19) (ifS (AJ (fB (Ac (Ag (Ad 19) (fC (.int 2)) ixD) (Ac (fC (.ty "list")) Aj)) Gf)) (D6 (objM Ct (Ag (Ad 19) (fC (.int 2)) ixD) (Ac (fC .non) Aj))) AU) ds) ⟨[a0,a1,a2,a3,a4,a5,a6,a7,a8,a9,a10,a11,a12,a13,a14,a15,a16,a17,a18,e1],S1⟩ λo t=>o = .next/\∃(S':List Ob) (e':Option Sl),t=⟨[a0,a1,a2,a3,a4,a5,a6,a7,a8,a9,a10,a11,a12,a13,a14,a15,a16,a17,a18,e'],S'⟩/\S'.length=S.length/\∀k,k∉f1++f2->S'[k]?=S[k]?:=λS1 e1 l1 u1=>by
    refine (Nj e1 (b.mono λk hk=>u1 k λz=>n k z hk) hn.2 ((u1 _ hn.1).trans hT) λm hm'=>hm m (ud9 _ hm')).mono ?_;rintro o t ⟨rfl,S',e',rfl,l2,u2⟩;refine ⟨rfl,S',e',rfl,l2.trans l1,λk hk=>?_⟩;rw [ui9,not_or] at hk;exact (u2 k hk.2).trans (u1 k hk.1)
   symm
   cases o' with
   | non=>symm;exact ⟨rfl,rest S _ rfl λ_ _=>rfl⟩
   | int i=>symm;exact ⟨rfl,rest S _ rfl λ_ _=>rfl⟩
   | str x=>symm;exact ⟨rfl,rest S _ rfl λ_ _=>rfl⟩
   | tup q=>symm;exact ⟨rfl,rest S _ rfl λ_ _=>rfl⟩
   | @obj j es vs f'' ej q nj=>
     have hes:es.length < 1000 + 1:=by
      rw [nvO,uh8,ui3] at hv;have:=hv.2 (.lst vs) (by simp);rw [nvO,uh8,uh3] at this;rw [q.length];lia
     refine Rw ej rfl ?_;symm;refine Kz (k:=j) ?_;symm;refine ⟨rfl,_,ej,?_⟩;symm;refine ⟨_,_,ej,if_pos (by rw [hL];lia),?_⟩;symm;exact ⟨rfl,rest _ _ (by rw [uk6]) λk hk=>ue1 λz=>hk (by rw [<-z];exact h6 _ uf3)⟩
theorem XQ {s:Str}{x y:Nat}:(onS s (D.int (x:Int)) (D.int (y:Int))) = .int ((onS s x y:Nat):Int):=by unfold onS;split <;> rfl
variable {ck:Fn}
theorem LM (hk:∀F,PTakeF F ck){F:List (Nat×Ob)}{n r K Rm:Nat}{S:List Ob}{wl wr:List Nat}{kvs:List (Key×D)}{sd:Str}{a0 a1 a2 a3 a4 e6 e8 e11 e12 e13 e14 e15 e16 e17 e18 e19:Option Sl}(hs:sd=sL\/sd=sR)(mK:(K,Ob.dct (dW wl wr))∈F)(hne:∀p∈F,p.1≠Rm)(h1:wl.length<=25000)(h2:wr.length<=25000)(hkv:kvs.length < 100000)(p:RoomF ((Rm,.dct kvs) :: F) n (r + 3) S) :
 W (Aq (A5 11 (fB (Ac (Ag (Ad 5) (Ad 10) BH) Aj) BQ)) (Aq (EA 12 (BI (Ac (Ad 11) (Ac (Au ck (Ac (Ad 7) (Ac (Ag (Ad 11) (fC (.int 1)) Bj) Aj))) Aj)))) (Aq (ownM 12 Ct (Ac (fB (Ac (fC (.int 0)) (Ac (Ag (Ad 11) (Au ck (Ac (Ad 7) (Ac (fC (.int 5)) Aj))) CU) Aj)) K0) Aj)) (Dq (Ag (Ad 12) (Au ck (Ac (Ad 7) (Ac (fC (.int 3)) Aj))) ixD) (DK (Ad 9) (Ad 10)))))) ⟨[a0,a1,a2,a3,a4,some (.val (.obj K)),e6,some (.val (.obj n)),e8,some (.val (.obj Rm)),some (.val (.str sd)),e11,e12,e13,e14,e15,e16,e17,e18,e19],S⟩ λo t=>o = .next/\∃(x:Nat) (S':List Ob) (f11 f12:Option Sl),x<=(onS sd wl wr).length/\RoomF ((Rm,.dct (BN kvs (.inr sd) (.int (x:Int)))) :: F) n r S'/\t=⟨[a0,a1,a2,a3,a4,some (.val (.obj K)),e6,some (.val (.obj n)),e8,some (.val (.obj Rm)),some (.val (.str sd)),f11,f12,e13,e14,e15,e16,e17,e18,e19],S'⟩:=by
 have hL:LIM=100000:=rfl;have hon:(onS sd (D.lst (wD wl)) (D.lst (wD wr))) = .lst (wD (onS sd wl wr)):=by unfold onS;split <;> rfl
 have hw:(onS sd wl wr).length<=25000:=by unfold onS;split <;> assumption
 symm;refine BS (p.2.all _ (ud9 _ mK)) (D3 hs) ?_;rw [hon];generalize onS sd wl wr=w at hw;symm;rw [CV];refine (hk _).use (r:=r + 2) ((w.length:Int) + 1) p (λx S1 x0 x1 p1=>?_) rfl (by lia) (by lia);obtain ⟨x,rfl⟩:=uc3 x0;symm;refine (hk _).use (r:=r + 1) 5 p1 (λy S2 y0 y1 p2=>?_);obtain ⟨y,rfl⟩:=uc3 y0;symm;refine (hk _).use (r:=r) 3 p2 (λz S3 z0 z1 p3=>?_);obtain ⟨dd,ed,q,rfl,hq⟩:=Gi (xs:=[D.int (w.length:Int),D.int (x:Int)]++[D.int (if (w.length:Int) - (y:Int) > 0 then (w.length:Int) - (y:Int) else 0)]) z0 (by simpa using z1) (p:=λd=>∃m:Nat,d = .int (m:Int)/\m<=w.length) (by
  simp only [ui6,uj7,ue3];refine ⟨⟨_,rfl,un6 _⟩,⟨_,rfl,by lia⟩,?_,λ_ z=>nomatch z⟩
  split
  ·exact ⟨w.length - y,by congr 1;lia,by lia⟩
  ·exact ⟨0,rfl,un7 _⟩)
 refine B3 ed ?_;symm;refine Dl ?_;symm;refine Cr (p3.2.all _ uf3) (by rw [hL];exact hkv) ?_;exact ⟨rfl,q,_,_,_,hq,p3.put hne,rfl⟩
theorem Wj (hk:∀F,PTakeF F ck){F:List (Nat×Ob)}{n R:Nat}{S:List Ob}{en:List (Option Sl)}(he:en[7]?=some (some (.val (.obj n))))(p:RoomF F n (R + 4) S):W (Ba (Dr 1 [7] (Cy (Ac (Au ck (Ac (Ad 7) (Ac (fC (.int 4)) Aj))) Aj)) (BD 0) Ei (Au ck (Ac (Ad 1) (Ac (fC (.int 256)) Aj))))) ⟨en,S⟩ λx t'=>∃(w2:List Nat) (S2:List Ob),x = .lst (wD w2)/\w2.length<=3/\RoomF F n R S2/\t'=⟨en,S2⟩:=by
 have hL:LIM=100000:=rfl;refine TY ?_;refine TU ?_;refine TZ ?_;refine DL ?_;refine Ix ?_;refine DL ?_;refine ET he ?_;symm;refine (hk _).use (r:=R + 3) 4 p λc S6 c0 c1 p6=>?_;obtain ⟨m1,rfl⟩:=uc3 c0;have hm1:m1<=3:=by lia
 symm;refine Ff (GD hm1) ?_;have hce:cenv 1 [7] en=[none,some (.val (.obj n))]:=by unfold cenv;simp [he,TQ]
 show W _ ⟨cenv 1 [7] en,S6⟩ _;rw [hce];refine (VX (R:=R) (m:=m1) (fr:=[some (.val (.obj n))]) (p6.mono (by lia)) ?_).mono ?_
 ·intro R S' d q;symm;refine (hk _).use 256 q λi S5 i0 i1 p5=>?_;obtain ⟨x,rfl⟩:=uc3 i0;exact ⟨x,S5,rfl,by lia,p5,rfl⟩
 rintro xs t' ⟨w2,rfl,bw,hw2,p9⟩;refine CI (by rw [CV,hL];lia) ?_;exact ⟨w2,_,rfl,by lia,p9,rfl⟩
theorem Vn (h:P (.str (Bz g q).side) t):W (ixD (Bz g q).d (.int 0)) t P:=by
 cases e:Bz g q with
 | fin=>rw [e] at h;rw [GS.d];exact Gm JA h
 | st s w=>rw [e] at h;rw [GS.d];exact Gm JA h
theorem LL (hk:∀F,PTakeF F ck){g:List GS}{mv:List Mv}(hg:GOk g)(hok:okQ g 0 mv){F:List (Nat×Ob)}{n r k C Rm rl rr:Nat}{S:List Ob}{cl cr:List Nat}{sd:Str}{a0 a2 a3 a4 a5 e6 e8 e11 e12 e15 e16 e17 e18 e19:Option Sl}(hs:sd=sL\/sd=sR)(mR:(Rm,Ob.dct (dP rl rr))∈F)(hne:∀p∈F,p.1≠C)(h1:cl.length<=25000)(h2:cr.length<=25000)(p:RoomF ((C,.dct (dW cl cr)) :: F) n (r + 4) S) :
 W (Aq (A5 15 (Ag (Ag (Ad 13) (fC (.int 2)) ixD) (idxM (Ba (BI (Ac (fC (.str "left")) (Ac (fC (.str "right")) Aj)))) (Ac (Ad 10) Aj)) ixD))
 (ifS (IQ (AJ (Ag (Ag (Ag (Ad 1) (Ag (Ad 13) (fC (.int 1)) ixD) ixD) (fC (.int 0)) ixD) (Ad 10) (eqS λb=>!b))) (AJ (Ag (Ag (Ad 9) (Ad 10) BH) (Ad 15) (eqS id))))
   (Aq (A5 16 (Ba (Dr 1 [7] (Cy (Ac (Au ck (Ac (Ad 7) (Ac (fC (.int 4)) Aj))) Aj)) (BD 0) Ei (Au ck (Ac (Ad 1) (Ac (fC (.int 256)) Aj))))))
 (Dq (Ag (Ag (Ad 14) (Ad 10) BH) (Ad 16) Bj) (DK (Ad 14) (Ad 10))))
   AU)) ⟨[a0,some (.val (.lst (g.map GS.d))),a2,a3,a4,a5,e6,some (.val (.obj n)),e8,some (.val (.obj Rm)),some (.val (.str sd)),e11,e12,some (.val (FH g mv k)),some (.val (.obj C)),e15,e16,e17,e18,e19],S⟩ λo t=>o = .next/\∃(m:List Nat) (S':List Ob) (f15 f16:Option Sl),m.length<=3/\(m=[]\/(Bz g (lastQ g 0 (mv.take k))).side≠sd)/\RoomF ((C,.dct (dW (onS sd (cl++m) cl) (onS sd cr (cr++m)))) :: F) n r S'/\t=⟨[a0,some (.val (.lst (g.map GS.d))),a2,a3,a4,a5,e6,some (.val (.obj n)),e8,some (.val (.obj Rm)),some (.val (.str sd)),e11,e12,some (.val (FH g mv k)),some (.val (.obj C)),f15,f16,e17,e18,e19],S'⟩:=by
 have hL:LIM=100000:=rfl;have hon:(onS sd (D.lst (wD cl)) (D.lst (wD cr))) = .lst (wD (onS sd cl cr)):=by unfold onS;split <;> rfl
 have hw:(onS sd cl cr).length<=25000:=by unfold onS;split <;> assumption
 have hlt:=Ib hg hg.ne (G3 hok k);obtain ⟨j,hj,x,hx⟩:∃j:Nat,KY (toV (.str sd)) ([D.str "left",D.str "right"].map toV)=some j/\∃x:Int,atI [D.int ((AG g sL 0 (mv.take k)).length:Int),D.int ((AG g sR 0 (mv.take k)).length:Int)] (j:Int)=some (.int x):=by
  rcases hs with rfl | rfl
  ·exact ⟨0,by decide +kernel,_,rfl⟩
  ·exact ⟨1,by decide +kernel,_,rfl⟩
 have same:RoomF ((C,.dct (dW (onS sd (cl++[]) cl) (onS sd cr (cr++[])))) :: F) n r S:=by
  rw [uj2,uj2];unfold onS
  split <;> exact p.mono (by lia)
 unfold FH;symm;refine Xq ?_;symm;refine ⟨_,_,j,rfl,rfl,⟨rfl,rfl⟩,hj,?_⟩;symm;refine Gm hx ?_;symm;refine B3 (FN hlt) ?_;symm;refine Vn ?_;symm;refine CO (λz=>?_) λz=>?_
 ·have hsd:(Bz g (lastQ g 0 (mv.take k))).side≠sd:=by simpa using z
  symm;refine BS (p.2.all _ (ud9 _ mR)) (D3 hs) ?_;rw [XQ];symm;refine CO (λz=>?_) λz=>?_
  ·refine Xu ?_;refine Xv ?_;refine (Wj hk (R:=r) rfl p).mono ?_;rintro y t ⟨m,S1,rfl,hm,p1,rfl⟩;symm;refine BS (p1.2.all _ uf3) (D3 hs) ?_;rw [hon];symm;refine CI (by rw [CV,CV,hL];lia) ?_;rw [<-GG];symm;refine Dl ?_;symm;refine Cr (p1.2.all _ uf3) (by show 2 < 100000;decide) ?_;rw [Kb hs];have hd:lr (onS sd (D.lst (wD (onS sd cl cr++m))) (D.lst (wD cl))) (onS sd (D.lst (wD cr)) (D.lst (wD (onS sd cl cr++m))))=dW (onS sd (cl++m) cl) (onS sd cr (cr++m)):=by unfold onS;split <;> rfl
   rw [hd];exact ⟨rfl,m,_,_,_,hm,.inr hsd,p1.put hne,rfl⟩
  ·symm;exact ⟨rfl,[],S,_,_,un7 _,.inl rfl,same,rfl⟩
 ·symm;exact ⟨rfl,[],S,_,_,un7 _,.inl rfl,same,rfl⟩
theorem Np {g:List GS}(hg:GOk g):∀(q:Nat) (mv:List Mv),okQ g q mv->∀m∈Bv g q mv,RJ m
 | _,[],_,m,h=>nomatch h
 | q,(p,v) :: r,ho,m,h=>by
   rw [okQ] at ho;rw [Bv] at h;rcases ul4.mp h with rfl | h
   ·have hw:=IC hg ho.1.lt ho.1.pl;have hv:=Gy (FK 3 _ hw.dep hw.ok v ho.1.fit) 1;refine ⟨?_,_,_,_,rfl⟩;unfold Fc;rw [nvO,uh8,uh3,ui3];refine ⟨by show 3<=1000;decide,λx hx=>?_⟩;simp only [ul4,ui4,or_false] at hx;rcases hx with rfl | rfl | rfl
    ·rfl
    ·rfl
    ·exact hv
   ·exact Np hg _ r ho.2 m h
theorem V0 (hg:GOk g)(hok:okQ g 0 mv)(hl:mv.length<=60)(k:Nat):nvO 7 (FH g mv k)=true:=by
 have hm:nvO 6 (.lst (Bv g 0 (mv.take k)))=true:=by
  rw [nvO,uh8,uh3,ui3];refine ⟨by rw [Cv,uh6];lia,λm h=>(Np hg 0 _ (G3 hok k) m h).1⟩
 unfold FH;rw [nvO,uh8,uh3,ui3];refine ⟨by show 3<=1000;decide,λx hx=>?_⟩;simp only [ul4,ui4,or_false] at hx;rcases hx with rfl | rfl | rfl
 ·exact hm
 ·rfl
 ·rfl
theorem Jr (ht:HR ct){g:List GS}{mv:List Mv}{k:Nat}{wl wr:List Nat}{S:List Ob}(hg:GOk g)(h1:wl.length<=25000)(h2:wr.length<=25000)(hw:walkR g wl wr (wl.length + wr.length + 1) 0 0 0 []=(Bv g 0 (mv.take k),lastQ g 0 (mv.take k),(AG g sL 0 (mv.take k)).length,(AG g sR 0 (mv.take k)).length,none)) :
 Wf ct [.lst (g.map GS.d),.lst (wD wl),.lst (wD wr)] S λr S'=>BR r=false/\Gr S S'/\∃T fp,r = .tup [.obj T,.int (lastQ g 0 (mv.take k)),.tup [.int (AG g sL 0 (mv.take k)).length,.int (AG g sR 0 (mv.take k)).length]]/\Ow S' (.obj T) (.lst (Bv g 0 (mv.take k))) fp/\∀k∈fp,S.length<=k:=by
 have h:=ht g wl wr S hg h1 h2;rw [hw] at h;refine h.mono ?_;rintro r S' ⟨hG,T,fp,rfl,ho,hf⟩;exact ⟨rfl,hG,T,fp,rfl,ho,hf⟩
theorem JM {k T:Nat}(ho:Ow S (.obj T) (.lst (Bv g 0 (mv.take k))) fp):Ow S (.tup [.obj T,.int (lastQ g 0 (mv.take k)),.tup [.int (AG g sL 0 (mv.take k)).length,.int (AG g sR 0 (mv.take k)).length]]) (FH g mv k) (fp++([]++(([]++([]++[]))++[]))):=by
 unfold FH;refine .tup (.cons ho (.cons (.int _) (.cons (.tup (.cons (.int _) (.cons (.int _) .nil (λ_ z=>nomatch z)) (λ_ z=>nomatch z))) .nil (λ_ z=>nomatch z)) (λ_ z=>nomatch z)) (λ_ _ z=>by simp at z))
theorem Xp {f:M (Gd×List D)}{st:D->M Unit}{b:M Out}{P:Out->T->Prop}(h:W f t λp t1=>W (forG p.1 st b p.2) t1 P):W (Mo f st b) t P:=W_bnd.mpr h
theorem Wc {cpl co cdu cz cg:Fn}(ht:HR ct)(hpl:Go cpl 7)(hown:RK co)(hk:∀F,PTakeF F ck)(hdu:RC cdu)(hp:∀F,My F cp)(hz:KF cz)(ha:KH ca)(hgr:KG cg){ns:List Int}:Wf (fnOf 1 20 (F8 ct cpl co ck cdu cp cz ca cg)) [.scr ns] [] λr _=>r = .bl true:=by
 have hL:LIM=100000:=rfl;refine A1 rfl ?_;unfold F8;symm;refine (hgr ns []).mono λr S1 z9=>?_;obtain ⟨g,hg,e⟩:=z9;subst e;symm;refine (ha ns g S1 hg).mono λr S2 z9=>?_;obtain ⟨mv,hT,e⟩:=z9;subst e;symm;refine (hz g mv S2 hg hT).mono λr S3 z9=>?_;obtain ⟨e3,ps,hps,e⟩:=z9;subst e3 e;have hok:=hT.ok;have hlen:=hT.len;symm;refine Hf ?_;refine BP ?_;symm;refine BP ?_;symm;refine DQ ?_;refine ⟨by simp,by show 2<=15;decide,?_⟩;have hB:((S3++[Ob.dct []]).set S3.length (.dct (BB (dW [] []))))[S3.length]?=some (.dct (dW [] [])):=by rw [G0];exact BV Dc
 show Fd _ _ Out.next ⟨_,(S3++[Ob.dct []]).set S3.length (.dct (BB (dW [] [])))⟩;generalize (S3++[Ob.dct []]).set S3.length (.dct (BB (dW [] [])))=S4 at hB ⊢;generalize S3.length=K at hB ⊢;symm;rw [Cv];refine Ff (CT (by lia) (by lia)) ?_;refine Dp (λr t=>∃(j:Nat) (S':List Ob) (e6:Option Sl) (wl wr:List Nat),j<=mv.length/\r=(rngL 0 ((mv.length:Nat):Int).toNat).drop j/\S'[K]?=some (.dct (dW wl wr))/\wD wl=AG g sL 0 (mv.take j)/\wD wr=AG g sR 0 (mv.take j)/\t=⟨[some (.val (.scr ns)),some (.val (.lst (g.map GS.d))),some (.val (.lst (Bv g 0 mv))),some (.val (.lst (B8 g 0 mv))),some (.val (.lst (ps.map λw=>.lst (wD w)))),some (.val (.obj K)),e6,none,none,none,none,none,none,none,none,none,none,none,none,none],S'⟩) _ _ ⟨0,S4,none,[],[],un7 _,rfl,hB,rfl,rfl,rfl⟩ ?_ ?_
 ·rintro d r t ⟨j,S',e6,wl,wr,hjl,hr,hKw,el,er,rfl⟩ _;obtain ⟨rfl,hr',hjn⟩:=Ha hr;rw [ug7] at hjn;rw [un3]
  cases em:mv[j]? with
  | none=>rw [ub5] at em;lia
  | some x=>
  obtain ⟨p,v⟩:=x;have hm:=Ih hok em;have hmi:atI (Bv g 0 mv) j=some (Fc g (lastQ g 0 (mv.take j)) p v):=by
   unfold atI;rw [Cn (by lia) (by rw [Cv];lia)];show (Bv g 0 mv)[(j:Int).toNat]?=_;rw [ug7,Gb g 0 mv j p v em]
  have hjp:j < ps.length:=by rw [hps.1];exact hjn
  have hpi:atI (ps.map λw=>D.lst (wD w)) (j:Int)=some (.lst (wD ps[j])):=by
   unfold atI;rw [Cn (by lia) (by rw [uj5];lia)];show (ps.map λw=>D.lst (wD w))[(j:Int).toNat]?=_;rw [ug7,ug6,ub7 hjp];rfl
  obtain ⟨hp1,hp2,_⟩:=hps.2 j _ (ub7 hjp);have hs:=Iv hg hm;have nA:=Gc (g:=g) sL em;have nB:=Gc (g:=g) sR em;rw [<-hp1] at nA nB;have lA:=E9 g sL 0 (mv.take j) (Ja hT.bd j);have lB:=E9 g sR 0 (mv.take j) (Ja hT.bd j);rw [<-el,CV,uh6] at lA;rw [<-er,CV,uh6] at lB;unfold Fc at hmi;generalize (Bz g (lastQ g 0 (mv.take j))).side=side at *;have hon2:(onS side (D.lst (wD wl)) (D.lst (wD wr))) = .lst (wD (onS side wl wr)):=by unfold onS;split <;> rfl
  have hol:(onS side wl wr).length<=25000:=by unfold onS;split <;> lia
  symm;refine B3 hmi ?_;symm;refine BS hKw (D3 hs) ?_;rw [hon2];symm;refine B3 hpi ?_;symm;refine CI (by rw [CV,CV,hL];lia) ?_;rw [<-GG];symm;refine Dl ?_;symm;refine B3 hmi ?_;symm;refine Cr hKw (by show 2 < 100000;decide) ?_;rw [Kb hs];have hd:lr (onS side (D.lst (wD (onS side wl wr++ps[j]))) (D.lst (wD wl))) (onS side (D.lst (wD wr)) (D.lst (wD (onS side wl wr++ps[j]))))=dW (onS side (wl++ps[j]) wl) (onS side wr (wr++ps[j])):=by unfold onS;split <;> rfl
  rw [hd];refine ⟨j + 1,_,_,onS side (wl++ps[j]) wl,onS side wr (wr++ps[j]),hjn,hr',BV hKw,?_,?_,rfl⟩
  ·rw [nA,<-el];unfold onS;rcases ER hs with ⟨q1,q2⟩ | ⟨q1,q2⟩
   ·rw [if_pos q1,if_pos q1,GG]
   ·rw [if_neg q1,if_neg q1,uj2]
  ·rw [nB,<-er];unfold onS;rcases ER hs with ⟨q1,q2⟩ | ⟨q1,q2⟩
   ·rw [if_pos q1,if_neg q2,uj2]
   ·rw [if_neg q1,if_pos q2,GG]
 ·rintro t ⟨j,S',e6,wl,wr,hjl,hr,hKw,el,er,rfl⟩;have hj':j=mv.length:=by
   have:=congrArg List.length hr;rw [uj9,uh7,CS,ug7] at this;lia
  subst hj';rw [List.take_length] at el er;have lA:=E9 g sL 0 mv hT.bd;have lB:=E9 g sR 0 mv hT.bd;rw [<-el,CV] at lA;rw [<-er,CV] at lB;symm;refine (hp [(K,.dct (dW wl wr))] ns 61 S' (by decide) (λp hp=>by rw [uf9.mp hp];exact hKw)).mono λr1 S5 z9=>?_;obtain ⟨n,e,p5⟩:=z9;subst e;have mK:(K,Ob.dct (dW wl wr))∈[(K,Ob.dct (dW wl wr))]:=uf3;generalize [(K,Ob.dct (dW wl wr))]=F at p5 mK;symm;refine Dp (λr t=>∃(S':List Ob) (e8 e9 e10 e11 e12 e13 e14 e15 e16 e17 e18 e19:Option Sl),RoomF F n (1000 + 100 * r.length) S'/\t=⟨[some (.val (.scr ns)),some (.val (.lst (g.map GS.d))),some (.val (.lst (Bv g 0 mv))),some (.val (.lst (B8 g 0 mv))),some (.val (.lst (ps.map λw=>.lst (wD w)))),some (.val (.obj K)),e6,some (.val (.obj n)),e8,e9,e10,e11,e12,e13,e14,e15,e16,e17,e18,e19],S'⟩) _ _ ⟨S5,_,_,_,_,_,_,_,_,_,_,_,_,p5.mono (by decide),rfl⟩ ?_ ?_
  ·rintro d r t ⟨S6,e8,e9,e10,e11,e12,e13,e14,e15,e16,e17,e18,e19,p6,rfl⟩ _;rw [uh9] at p6;symm;refine Vy ?_;have p7:=p6.more (o:=.dct []);have hneR:∀p∈F,p.1≠S6.length:=λp hp=>um4 (ub2.mp (p6.2.all p hp)).1;generalize S6++[Ob.dct []]=S7 at p7 ⊢;generalize S6.length=Rm at p7 hneR ⊢;symm;rw [D0];refine ES ?_;refine (LM hk (sd:=sL) (r:=1000 + 100 * r.length + 90) (.inl rfl) mK hneR (by lia) (by lia) (by decide) (p7.mono (by lia))).mono ?_;rintro o t ⟨rfl,rl,S8,f11,f12,hrl,p8,rfl⟩;have hp1:∀d:D,BN [] (.inr sL) d=[(kL,d)]:=λd=>by simp [BN]
   rw [hp1] at p8;show W _ _ _;rw [D0];refine ES ?_;refine (LM hk (sd:=sR) (r:=1000 + 100 * r.length + 80) (.inr rfl) mK hneR (by lia) (by lia) (by show 1 < 100000;decide) (p8.mono (by lia))).mono ?_;rintro o t ⟨rfl,rr,S9,g11,g12,hrr,p9,rfl⟩;show W _ _ _;refine W_forL_nil.mpr ?_;have hrl:rl<=wl.length:=hrl;have hrr:rr<=wr.length:=by
    unfold onS at hrr;rw [if_neg (Ne.symm sLR)] at hrr;exact hrr
   have hpt:∀a b:D,BN [(kL,a)] (.inr sR) b=lr a b:=λa b=>by
    unfold BN;rw [if_neg (by simp only [ul8,un5,ul5,uh3];exact kLR)];rfl
   rw [hpt] at p9;have hRm:=p9.2.all _ uf3;symm;refine (hdu g mv ps rl rr Rm S9 hg hT hps hRm).mono ?_;rintro r10 S10 ⟨hG10,k,hD,rfl⟩;have p10:=p9.gr hG10;have mR:(Rm,Ob.dct (dP rl rr))∈(Rm,Ob.dct (dP rl rr)) :: F:=uf3;have mK':(K,Ob.dct (dW wl wr))∈(Rm,Ob.dct (dP rl rr)) :: F:=ud9 _ mK;have mF:∀q∈F,q∈(Rm,Ob.dct (dP rl rr)) :: F:=λq hq=>ud9 _ hq;generalize (Rm,Ob.dct (dP rl rr)) :: F=F1 at p10 mR mK' mF;symm;refine Hf ?_;have p11:=p10.more (o:=.dct []);have hneC:∀p∈F1,p.1≠S10.length:=λp hp=>um4 (ub2.mp (p10.2.all p hp)).1;generalize S10++[Ob.dct []]=S11 at p11 ⊢;generalize S10.length=C at p11 hneC ⊢;refine BP ?_;symm;refine BS (p11.2.all _ (ud9 _ mK')) EH ?_;symm;refine BS (p11.2.all _ (ud9 _ mR)) EH ?_;symm;rw [Qh];refine DQ ?_;refine ⟨p11.2.all _ uf3,by show 1<=15;decide,?_⟩;have hmg:BB [(kL,D.lst (wD (wl.take rl)))]=[(kL,.lst (wD (wl.take rl)))]:=by simp [BB,BN]
   have p12:=p11.put (o':=.dct [(kL,.lst (wD (wl.take rl)))]) hneC;show Fd _ _ Out.next ⟨_,S11.set C (.dct (BB [(kL,.lst (wD (wl.take rl)))]))⟩;rw [hmg];generalize S11.set C (.dct [(kL,.lst (wD (wl.take rl)))])=S12 at p12 ⊢;symm;refine BS (p12.2.all _ (ud9 _ mK')) EI ?_;symm;refine BS (p12.2.all _ (ud9 _ mR)) EI ?_;symm;rw [Qh];refine Dl ?_;symm;refine Cr (p12.2.all _ uf3) (by show 1 < 100000;decide) ?_;have p13:=p12.put (o':=.dct (dW (wl.take rl) (wr.take rr))) hneC;show Fd _ _ Out.next ⟨_,S12.set C (.dct (BN [(kL,.lst (wD (wl.take rl)))] (.inr sR) (.lst (wD (wr.take rr)))))⟩;rw [hpt];show Fd _ _ Out.next ⟨_,S12.set C (.dct (dW (wl.take rl) (wr.take rr)))⟩;generalize S12.set C (.dct (dW (wl.take rl) (wr.take rr)))=S13 at p13 ⊢;have l1:(wl.take rl).length<=24060:=by rw [uh6];lia
   have l2:(wr.take rr).length<=24060:=by rw [uh6];lia
   symm;rw [D0];refine ES ?_;refine (LL hk hg hok (sd:=sL) (r:=1000 + 100 * r.length + 70) (.inl rfl) mR hneC (by lia) (by lia) (p13.mono (by lia))).mono ?_;rintro o t ⟨rfl,ml,S14,f15,f16,hml,cml,p14,rfl⟩;have onL:∀{α:Type} {a b:α},onS sL a b=a:=if_pos rfl;have onR:∀{α:Type} {a b:α},onS sR a b=b:=if_neg (Ne.symm sLR);rw [onL,onL] at p14;show W _ _ _;rw [D0];refine ES ?_;refine (LL hk hg hok (sd:=sR) (r:=1000 + 100 * r.length + 60) (.inr rfl) mR hneC (by rw [uf7];lia) (by lia) (p14.mono (by lia))).mono ?_;rintro o t ⟨rfl,mr,S15,h15,h16,hmr,cmr,p15,rfl⟩;rw [onR,onR] at p15;show W _ _ _;refine W_forL_nil.mpr ?_;have hwalk:=Ti hg hok el er hrl hrr hD cml cmr;have l3:(wl.take rl++ml).length<=25000:=by rw [uf7];lia
   have l4:(wr.take rr++mr).length<=25000:=by rw [uf7];lia
   generalize wl.take rl++ml=cl at hwalk p15 l3;generalize wr.take rr++mr=cr at hwalk p15 l4;have hC:=p15.2.all _ uf3;have p15F:RoomF F n (1000 + 100 * r.length + 60) S15:=⟨p15.1,λq hq=>p15.2 q (ud9 _ (mF q hq))⟩;have hdn:=V0 hg hok hlen k;have hdn16:=Gy hdn 9;symm;refine BS hC EH ?_;symm;refine BS hC EI ?_;symm;refine Mh ?_;refine (Jr ht hg l3 l4 hwalk).mono ?_;rintro r16 S16 ⟨hx16,hG16,T,fp,rfl,ho,hf⟩;have hf:∀k∈fp,S15.length<=k:=hf;have hG16:Gr S15 S16:=hG16;refine ⟨hx16,?_⟩;have hC16:=hG16.get hC;symm;refine Jt (FX 16 (JM ho) hdn16) (GB 16 _ hdn16) hdn16 ?_;symm;refine BS hC16 EH ?_;symm;refine BS hC16 EI ?_;symm;have hrw:∀w:List Nat,Rq 1 (.lst (wD w)):=λw=>NO (n:=0) λx hx=>by
    obtain ⟨y,_,rfl⟩:=un1.mp hx;exact NN
   refine Vz rfl (NO (n:=1) (Y0 (hrw cl) (hrw cr)) 40 (by decide)) ?_;symm;refine (hpl S16 _ _ _ (JM ho) hdn).mono ?_;rintro r17 S17 ⟨rfl,rfl⟩;have hmsg:=Np hg 0 (mv.take k) (G3 hok k);have hml60:(Bv g 0 (mv.take k)).length<=60:=by rw [Cv,uh6];lia
   unfold FH;symm;refine (hown S17 T fp _ ho hmsg hml60).mono ?_;rintro r18 S18 ⟨rfl,rfl⟩;symm
   cases ho with
   | @obj _ ds _ fp e o nk=>
   have hTl:=hf T uf3;refine Xp ?_;refine Te ?_;symm;refine TW e ?_;refine (Nj _ o nk e hmsg).mono ?_;rintro o' t ⟨rfl,S19,e19',rfl,hl19,hu19⟩;have e19T:S19[T]?=some (.lst ds):=(hu19 T nk).trans e;have hG19:Gr S15 S19:=⟨by rw [hl19];exact hG16.1,λi hi=>(hu19 i λz=>absurd (hf i (ud9 _ z)) (by lia)).trans (hG16.2 i hi)⟩;symm;refine Kz (k:=T) ?_;symm;refine ⟨rfl,_,e19T,?_⟩;symm;refine ⟨_,_,e19T,if_pos (by rw [o.length,hL];lia),?_⟩;have hG20:=hG19.set (o:=.lst (ds++[.tup [.str "left",.str "a",.non]])) hTl;generalize S19.set T (.lst (ds++[.tup [.str "left",.str "a",.non]]))=S20 at hG20;symm;refine Mh ?_;refine (Jr ht hg l3 l4 hwalk).mono ?_;rintro r21 S21 ⟨hx21,hG21,T2,fp2,rfl,ho2,hf2⟩;refine ⟨hx21,?_⟩;symm;refine Jt (FX 16 (JM ho2) hdn16) (GB 16 _ hdn16) hdn16 ?_;symm;exact ⟨S21,_,_,_,_,_,_,_,_,_,_,_,_,(p15F.gr (hG20.trans hG21)).mono (by lia),rfl⟩
  ·rintro t ⟨S6,e8,e9,e10,e11,e12,e13,e14,e15,e16,e17,e18,e19,p6,rfl⟩;symm;refine Mh ?_;refine (Jr ht (mv:=[]) (k:=0) (wl:=[]) (wr:=[]) hg (by decide) (by decide) (LP (SU (wl:=[]) (wr:=[])) 1)).mono ?_;rintro r21 S21 ⟨hx21,hG21,T2,fp2,rfl,ho2,hf2⟩;refine ⟨hx21,?_⟩;symm;refine Jt (d:=FH g [] 0) (FX 16 (JM (mv:=[]) (k:=0) ho2) rfl) rfl rfl ?_;symm;rfl
end LW
set_option maxHeartbeats 4000000
namespace F2
open PySem L2 PySem.Spec PySem.W
theorem Sk {k:Kd}{P:Program}{w:World}{K:PySem.W.Frag}{mg:Str->Option Value}{base:Heap}{n:Nat}{fa:Addr}{fd:FuncData}{ps:List Str}:okK k P w K mg base n fa fd ps (λ_ _=>none):=by
 cases k <;> exact ⟨λvs H Q E h=>(by obtain ⟨c,ds,S,_,_,r,S',e,_⟩:=h;cases e),λA' outer s H args us vs Q E _ _ _ _ h=>(by obtain ⟨c,ds,S,_,_,r,S',e,_⟩:=h;cases e)⟩
theorem us0 {n:Nat}:∀{us:List Value},us.length=n + 1->∃a vs,us=a :: vs/\vs.length=n
 | _ :: _,h=>⟨_,_,rfl,Nat.succ.inj h⟩
variable {us:List Value}
theorem us1 (h:us.length=1):∃a,us=[a]:=by
 obtain ⟨a,vs,rfl,q⟩:=us0 h;exact ⟨a,by rw [ua4 q]⟩
theorem us2 (h:us.length=2):∃a b,us=[a,b]:=by
 obtain ⟨_,vs,rfl,q⟩:=us0 h;obtain ⟨_,rfl⟩:=us1 q;exact ⟨_,_,rfl⟩
theorem us3 (h:us.length=3):∃a b c,us=[a,b,c]:=by
 obtain ⟨_,vs,rfl,q⟩:=us0 h;obtain ⟨_,_,rfl⟩:=us2 q;exact ⟨_,_,_,rfl⟩
theorem us4 (h:us.length=4):∃a b c d,us=[a,b,c,d]:=by
 obtain ⟨_,vs,rfl,q⟩:=us0 h;obtain ⟨_,_,_,rfl⟩:=us3 q;exact ⟨_,_,_,_,rfl⟩
theorem us5 (h:us.length=5):∃a b c d e,us=[a,b,c,d,e]:=by
 obtain ⟨_,vs,rfl,q⟩:=us0 h;obtain ⟨_,_,_,_,rfl⟩:=us4 q;exact ⟨_,_,_,_,_,rfl⟩
theorem us6 (h:us.length=6):∃a b c d e f,us=[a,b,c,d,e,f]:=by
 obtain ⟨_,vs,rfl,q⟩:=us0 h;obtain ⟨_,_,_,_,_,rfl⟩:=us5 q;exact ⟨_,_,_,_,_,_,rfl⟩
theorem us7 (h:us.length=7):∃a b c d e f g,us=[a,b,c,d,e,f,g]:=by
 obtain ⟨_,vs,rfl,q⟩:=us0 h;obtain ⟨_,_,_,_,_,_,rfl⟩:=us6 q;exact ⟨_,_,_,_,_,_,_,rfl⟩
end F2
namespace K26
open PySem L2 F2 LW
set_option hygiene false
set_option compiler.extract_closed false
local macro_rules
 | `(tactic| clear 0)=>`(tactic| exact ⟨rfl,rfl,rfl,by decide +kernel,rfl,by decide +kernel,by decide +kernel⟩)
 | `(tactic| clear 1 $x $a)=>`(tactic| refine @As _ _ _ _ _ _ _ _ _ _ _ _ $a hr rfl (M.mgs $x) (Fun.kp (M.fn $x)) (M.bd $x) ?_ (by decide) (by rfl) (by rfl))
 | `(tactic| clear 2 $a $b)=>`(tactic| refine @Aa _ _ _ _ _ $a $b rfl)
 | `(tactic| clear 3 $a $b $c $d)=>`(tactic| refine @Am _ _ _ _ _ _ _ _ $a $b $c $d (λ_ _=>rfl))
 | `(tactic| clear 4 $a $b $c)=>`(tactic| refine @AM _ _ _ _ $a _ _ _ $b rfl $c ?_ (by rfl) (by first | exact .inl rfl | exact .inr rfl | assumption))
 | `(tactic| clear 5)=>`(tactic| refine @Ai _ _ _ _ _ _ ?_ ?_)
 | `(tactic| clear 6 $a $b $c $d)=>`(tactic| refine @By _ _ _ _ _ _ _ _ _ _ $a $b rfl $c $d ?_ (by decide) (by decide) (by rfl) (by rfl))
 | `(tactic| clear 7 $a $b $c $d)=>`(tactic| refine @AE _ _ _ _ _ _ _ _ _ $a $b $c $d)
 | `(tactic| clear 8)=>`(tactic| refine @An _ _ _ _ ?_)
 | `(tactic| clear 9 $a)=>`(tactic| refine @A4 _ _ _ _ _ _ _ _ _ ?_ ?_ $a)
 | `(tactic| clear 10 $a $b $c $d)=>`(tactic| refine @AV _ _ _ _ _ _ _ _ _ $a $b ?_ $c $d)
 | `(tactic| clear 11 $a)=>`(tactic| refine @CM _ _ _ _ _ _ _ _ _ $a rfl ?_ ?_ ?_ (by intro _;rfl))
 | `(tactic| clear 12 $a $b)=>`(tactic| refine @FL _ _ _ _ $a _ _ _ $b rfl (.inl rfl) ?_ (by rfl) (by first | exact .inl rfl | exact .inr rfl | assumption))
inductive Fx where
 | Bo | Az | Bp | Bn | Bk | Bq | Br | A7 | A6 | Av | AK | AY | Bl | Ay | A3 | AH | A9 | Bu | BG | Bs | Bt | A8 | Bd | BF | AZ | AW | AF | Ae | AA | AB | AX | Bm | Bc | Bx | AS | AL | law_
noncomputable def top (i:Nat):Stmt:=PySem.Challenge.pw_wireparley_k26_talks_by_wires.main.body.getD i (.Pass ⟨0,0,0,0⟩)
noncomputable abbrev nm:Fx->Str
 | .Bo=>"is_number"
 | .Az=>"is_number_within"
 | .Bp=>"fits"
 | .Bn=>"fits_text"
 | .Bk=>"is_sign"
 | .Bq=>"fits_list"
 | .Br=>"fits_pair"
 | .A7=>"fits_choice"
 | .A6=>"value_bytes"
 | .Av=>"fitting_bytes"
 | .AK=>"width_up_to"
 | .AY=>"number_bytes"
 | .Bl=>"leading"
 | .Ay=>"read_value"
 | .A3=>"byte_at"
 | .AH=>"byte_up_to"
 | .A9=>"read_number"
 | .Bu=>"read_text"
 | .BG=>"sign_at"
 | .Bs=>"read_list"
 | .Bt=>"read_pair"
 | .A8=>"read_choice"
 | .Bd=>"talk_by"
 | .BF=>"read_on"
 | .AZ=>"read_message"
 | .AW=>"_law_cell_at"
 | .AF=>"_law_pool"
 | .Ae=>"_law_take"
 | .AA=>"_law_shape"
 | .AB=>"_law_value"
 | .AX=>"_law_grammar"
 | .Bm=>"_law_talk"
 | .Bc=>"_law_sizes"
 | .Bx=>"_law_due"
 | .AS=>"_law_plain"
 | .AL=>"_law_own_lists"
 | .law_=>"law"
abbrev st:Fx->Stmt
 | .Bo=>top 9
 | .Az=>top 10
 | .Bp=>top 11
 | .Bn=>top 12
 | .Bk=>top 13
 | .Bq=>top 14
 | .Br=>top 15
 | .A7=>top 16
 | .A6=>top 19
 | .Av=>top 20
 | .AK=>top 21
 | .AY=>top 22
 | .Bl=>top 23
 | .Ay=>top 24
 | .A3=>top 25
 | .AH=>top 26
 | .A9=>top 27
 | .Bu=>top 28
 | .BG=>top 29
 | .Bs=>top 30
 | .Bt=>top 31
 | .A8=>top 32
 | .Bd=>top 34
 | .BF=>top 35
 | .AZ=>top 36
 | .AW=>top 38
 | .AF=>top 39
 | .Ae=>top 40
 | .AA=>top 41
 | .AB=>top 42
 | .AX=>top 43
 | .Bm=>top 44
 | .Bc=>top 45
 | .Bx=>top 46
 | .AS=>top 47
 | .AL=>top 48
 | .law_=>top 49
noncomputable abbrev ps:Fx->List Str
 | .Bo=>["thing"]
 | .Az=>["thing", "low", "high"]
 | .Bp=>["s", "thing"]
 | .Bn=>["s", "thing"]
 | .Bk=>["number"]
 | .Bq=>["s", "thing"]
 | .Br=>["s", "thing"]
 | .A7=>["s", "thing"]
 | .A6=>["s", "value"]
 | .Av=>["s", "value"]
 | .AK=>["most"]
 | .AY=>["number", "width"]
 | .Bl=>["number", "cut"]
 | .Ay=>["s", "wire", "at"]
 | .A3=>["wire", "at"]
 | .AH=>["most", "wire", "at"]
 | .A9=>["s", "wire", "at"]
 | .Bu=>["s", "wire", "at"]
 | .BG=>["wire", "at"]
 | .Bs=>["s", "wire", "at"]
 | .Bt=>["s", "wire", "at"]
 | .A8=>["s", "wire", "at"]
 | .Bd=>["g", "left", "right"]
 | .BF=>["g", "state", "wires", "places"]
 | .AZ=>["state", "wire", "at"]
 | .AW=>["script", "k"]
 | .AF=>["script", "k"]
 | .Ae=>["pool", "many"]
 | .AA=>["pool", "deep"]
 | .AB=>["pool", "s"]
 | .AX=>["script"]
 | .Bm=>["script", "g", "start", "most"]
 | .Bc=>["g", "talk"]
 | .Bx=>["talk", "states", "parts", "room"]
 | .AS=>["value"]
 | .AL=>["talk", "due"]
 | .law_=>["script"]
noncomputable abbrev ns:Fx->List Str
 | .Bo=>["thing"]
 | .Az=>["thing", "low", "high"]
 | .Bp=>["s", "thing", "kind"]
 | .Bn=>["s", "thing", "sign"]
 | .Bk=>["number"]
 | .Bq=>["s", "thing", "part"]
 | .Br=>["s", "thing"]
 | .A7=>["s", "thing"]
 | .A6=>["s", "value"]
 | .Av=>["s", "value", "kind", "row", "thing"]
 | .AK=>["most"]
 | .AY=>["number", "width"]
 | .Bl=>["number", "cut"]
 | .Ay=>["s", "wire", "at", "kind"]
 | .A3=>["wire", "at"]
 | .AH=>["most", "wire", "at", "byte"]
 | .A9=>["s", "wire", "at", "most", "width", "number", "k"]
 | .Bu=>["s", "wire", "at", "length", "place", "text", "k"]
 | .BG=>["wire", "at", "number"]
 | .Bs=>["s", "wire", "at", "length", "place", "things", "k", "part"]
 | .Bt=>["s", "wire", "at", "first", "second"]
 | .A8=>["s", "wire", "at", "k", "part"]
 | .Bd=>["g", "left", "right", "read"]
 | .BF=>["g", "state", "wires", "places", "talk", "standing", "behind", "side", "read"]
 | .AZ=>["state", "wire", "at", "word", "read", "e"]
 | .AW=>["script", "k"]
 | .AF=>["script", "k", "cell"]
 | .Ae=>["pool", "many", "rest"]
 | .AA=>["pool", "deep", "kind", "low"]
 | .AB=>["pool", "s", "kind", "signs", "k"]
 | .AX=>["script", "pool", "many", "g", "h", "side", "words", "k", "name", "then"]
 | .Bm=>["script", "g", "start", "most", "talk", "here", "states", "k", "pool", "side", "words", "name", "shape", "then"]
 | .Bc=>["g", "talk", "found", "here", "side", "name", "value", "words", "k"]
 | .Bx=>["talk", "states", "parts", "room", "gone", "k", "side"]
 | .AS=>["value"]
 | .AL=>["talk", "due", "k", "others"]
 | .law_=>["script", "g", "talk", "states", "parts", "wires", "k", "pool", "turn", "room", "side", "many", "rooms", "due", "cut", "gone", "more", "handed", "found", "message"]
def body (Φ:Fx->Fn):Fx->Fn
 | .Bo=>fnOf 1 1 (EY)
 | .Az=>fnOf 3 3 (C5 (Φ .Bo))
 | .Bp=>fnOf 2 3 (Kc (Φ .A7) (Φ .Br) (Φ .Bq) (Φ .Bn) (Φ .Az))
 | .Bn=>fnOf 2 3 (EX (Φ .Bk))
 | .Bk=>fnOf 1 1 (F7)
 | .Bq=>fnOf 2 3 (EV (Φ .Bp))
 | .Br=>fnOf 2 2 (EW (Φ .Bp))
 | .A7=>fnOf 2 2 (Ea (Φ .Bp) (Φ .Az))
 | .A6=>fnOf 2 2 (Dw (Φ .Av) (Φ .Bp))
 | .Av=>fnOf 2 5 (DI (Φ .Av) (Φ .AK) (Φ .AY))
 | .AK=>fnOf 1 1 (Eb)
 | .AY=>fnOf 2 2 (DT (Φ .Bl))
 | .Bl=>fnOf 2 2 (F9)
 | .Ay=>fnOf 3 4 (DJ (Φ .A8) (Φ .Bt) (Φ .Bs) (Φ .Bu) (Φ .A9))
 | .A3=>fnOf 2 2 (Ew)
 | .AH=>fnOf 3 4 (DG (Φ .A3))
 | .A9=>fnOf 3 7 (CQ (Φ .Bl) (Φ .A3) (Φ .AK))
 | .Bu=>fnOf 3 7 (Dj (Φ .BG) (Φ .AH))
 | .BG=>fnOf 2 3 (Ey (Φ .Bk) (Φ .A3))
 | .Bs=>fnOf 3 8 (Dh (Φ .Ay) (Φ .AH))
 | .Bt=>fnOf 3 5 (Di (Φ .Ay))
 | .A8=>fnOf 3 5 (CP (Φ .Ay) (Φ .AH))
 | .Bd=>fnOf 3 4 (Ga (Φ .BF))
 | .BF=>fnOf 4 9 (Ex (Φ .AZ))
 | .AZ=>fnOf 3 6 (DU (Φ .Ay))
 | .AW=>fnOf 2 2 (C3)
 | .AF=>fnOf 2 3 (CA (Φ .AW))
 | .Ae=>fnOf 2 3 (CB)
 | .AA=>fnOf 2 4 (Du (Φ .Ae) (Φ .AA))
 | .AB=>fnOf 2 5 (Dv (Φ .AB) (Φ .Ae))
 | .AX=>fnOf 1 10 (C4 (Φ .Ae) (Φ .AA) (Φ .AF))
 | .Bm=>fnOf 4 14 (DH (Φ .AB) (Φ .Ae) (Φ .AF))
 | .Bc=>fnOf 2 9 (D9 (Φ .A6))
 | .Bx=>fnOf 4 7 (DS)
 | .AS=>fnOf 1 1 (D8 (Φ .AS))
 | .AL=>fnOf 2 4 (C9)
 | .law_=>fnOf 1 20 (F8 (Φ .Bd) (Φ .AS) (Φ .AL) (Φ .Ae) (Φ .Bx) (Φ .AF) (Φ .Bc) (Φ .Bm) (Φ .AX))
def run:Nat->Fx->Fn
 | 0=>λ_ _ _=>none
 | n + 1=>body (run n)
structure Md (K:PySem.W.Frag)(mg:Str->Option Value)(A:Fx->Addr)(fd:Fx->FuncData):Prop where
 fn:∀x,Fun K (nm x) (nm x) (st x) (A x) (fd x)
 mgs:∀x,mg (nm x)=some (.ref (A x))
 bd:∀x,Binds K (fd x) (ps x) []
 z_bool:mg "bool" = none
 z_dict:mg "dict" = none
 z_int:mg "int" = none
 z_isinstance:mg "isinstance" = none
 z_len:mg "len" = none
 z_list:mg "list" = none
 z_max:mg "max" = none
 z_min:mg "min" = none
 z_ord:mg "ord" = none
 z_range:mg "range" = none
 z_str:mg "str" = none
 z_tuple:mg "tuple" = none
 g_FIRST_SIGN:∃tk,mg "FIRST_SIGN" = some (.int 32 tk)
 g_LAST_SIGN:∃tk,mg "LAST_SIGN" = some (.int 126 tk)
 g_PERCENT_SIGN:∃tk,mg "PERCENT_SIGN" = some (.int 37 tk)
 g_SIGNS:∃tk,mg "SIGNS" = some (.str " !\"#$ &'()*+,-./0123456789:;<=>?@ABCDEFGHIJKLMNOPQRSTUVWXYZ[\\]^_`abcdefghijklmnopqrstuvwxyz{|}~" tk)
 xm:∃(P:Addr) (ca:Str->Addr),XM K mg P ca/\XF2 K (ca "Broken") P "Broken.__init__" (E2 (top 4) 0)/\∀n∈(["NoValue", "Short"]:List Str),XN0 K (ca n)
noncomputable abbrev kd:Fx->Kd
 | .Bo=>.pl
 | .Az=>.pl
 | .Bp=>.pl
 | .Bn=>.pl
 | .Bk=>.pl
 | .Bq=>.pl
 | .Br=>.pl
 | .A7=>.pl
 | .A6=>.ex
 | .Av=>.fr
 | .AK=>.pl
 | .AY=>.fr
 | .Bl=>.pl
 | .Ay=>.ex
 | .A3=>.ex
 | .AH=>.ex
 | .A9=>.ex
 | .Bu=>.ex
 | .BG=>.ex
 | .Bs=>.ex
 | .Bt=>.ex
 | .A8=>.ex
 | .Bd=>.er
 | .BF=>.er
 | .AZ=>.er
 | .AW=>.pl
 | .AF=>.pl
 | .Ae=>.pl
 | .AA=>.pl
 | .AB=>.pl
 | .AX=>.pl
 | .Bm=>.pl
 | .Bc=>.pl
 | .Bx=>.pl
 | .AS=>.pl
 | .AL=>.pl
 | .law_=>.pl
theorem Ku:FnScope ["self", "at", "side"] ["self", "at", "side"] (Ap (E2 (top 4) 0)):=by clear 0
section
variable {P:Program}{w:World}{K:PySem.W.Frag}{mg:Str->Option Value}{base:Heap}{A:Fx->Addr}{fd:Fx->FuncData}{n:Nat}
theorem Ma:FnScope (ns .Bo) (ps .Bo) (Ap (st .Bo)):=by clear 0
abbrev qIh (P:Program)(w:World)(K:PySem.W.Frag)(mg:Str->Option Value)(base:Heap)(A:Fx->Addr)(fd:Fx->FuncData)(n:Nat):Prop:=∀x,okK (kd x) P w K mg base (n + 2) (A x) (fd x) (ps x) (run n x)
abbrev qOk (P:Program)(w:World)(K:PySem.W.Frag)(mg:Str->Option Value)(base:Heap)(A:Fx->Addr)(fd:Fx->FuncData)(n:Nat)(k:Kd)(x:Fx):Prop:=okK k P w K mg base (n + 2 + 1) (A x) (fd x) (ps x) (run (n + 1) x)
theorem L4 (M:Md K mg A fd)(ih:qIh P w K mg base A fd n):qOk P w K mg base A fd n .pl .Bo:=by
 refine B2 (g:=fnOf 1 1 (EY)) rfl (B1 rfl rfl (M.fn .Bo) Ma (λcdv A' outer s H E hr=>?_));clear 8;refine @AQ _ _ _ _ ?_;refine @JR _ _ _ _ _ _ _ ?_ ?_;clear 6 CL DV M.z_isinstance BK;clear 2 ?_ ?_;exact (Ab 0);clear 2 ?_ Af;exact (DR rfl M.z_int P9);refine @JS _ _ _ _ _ ?_;refine @Qo _ _ _ _ ?_;clear 6 CL DV M.z_isinstance BK;clear 2 ?_ ?_;exact (Ab 0);clear 2 ?_ Af;exact (DR rfl M.z_bool Oy)
theorem Hb:FnScope (ns .Az) (ps .Az) (Ap (st .Az)):=by clear 0
theorem G4 (M:Md K mg A fd)(ih:qIh P w K mg base A fd n):qOk P w K mg base A fd n .pl .Az:=by
 refine B2 (g:=fnOf 3 3 (C5 (run n .Bo))) rfl (B1 rfl rfl (M.fn .Az) Hb (λcdv A' outer s H E hr=>?_));clear 8;refine @AQ _ _ _ _ ?_;refine @JR _ _ _ _ _ _ _ ?_ ?_;clear 1 .Bo (ih .Bo);clear 2 ?_ Af;exact (Ab 0);refine @JS _ _ _ _ _ ?_;refine MZ Km Km Iq Iq ?_ ?_ ?_;exact (Ab 1);exact (Ab 0);exact (Ab 2)
theorem sc_fits_:FnScope (ns .Bp) (ps .Bp) (Ap (st .Bp)):=by clear 0
theorem Sm (M:Md K mg A fd)(ih:qIh P w K mg base A fd n):qOk P w K mg base A fd n .pl .Bp:=by
 refine B2 (g:=fnOf 2 3 (Kc (run n .A7) (run n .Br) (run n .Bq) (run n .Bn) (run n .Az))) rfl (B1 rfl rfl (M.fn .Bp) sc_fits_ (λcdv A' outer s H E hr=>?_));clear 5;clear 4 2 sc_fits_.nd (.inl rfl);clear 3 Ak Al ?_ Ah;exact (Ab 0);clear 5;clear 9 AI;clear 10 (BE hr.units) (Be (g:=id)) AD (AN _);exact (Ab 2);clear 8;refine @AQ _ _ _ _ ?_;refine @FJ _ _ _ _ _ _ _ _ _ QU Rc ?_ Dy (AN _);exact (Ab 1);clear 5;clear 9 AI;clear 10 (BE hr.units) (Be (g:=id)) AD (AN _);exact (Ab 2);clear 8;refine @AQ _ _ _ _ ?_;clear 1 .Az (ih .Az);clear 2 ?_ ?_;exact (Ab 1);clear 2 ?_ ?_;clear 3 Ak Al ?_ Ah;exact (Ab 0);clear 2 ?_ Af;clear 3 Ak Al ?_ Ah;exact (Ab 0);clear 5;clear 9 AI;clear 10 (BE hr.units) (Be (g:=id)) AD (AN _);exact (Ab 2);clear 8;refine @AQ _ _ _ _ ?_;clear 1 .Bn (ih .Bn);clear 2 ?_ ?_;exact (Ab 0);clear 2 ?_ Af;exact (Ab 1);clear 5;clear 9 AI;clear 10 (BE hr.units) (Be (g:=id)) AD (AN _);exact (Ab 2);clear 8;refine @AQ _ _ _ _ ?_;clear 1 .Bq (ih .Bq);clear 2 ?_ ?_;exact (Ab 0);clear 2 ?_ Af;exact (Ab 1);clear 5;clear 9 AI;clear 10 (BE hr.units) (Be (g:=id)) AD (AN _);exact (Ab 2);clear 8;refine @AQ _ _ _ _ ?_;clear 1 .Br (ih .Br);clear 2 ?_ ?_;exact (Ab 0);clear 2 ?_ Af;exact (Ab 1);clear 8;refine @AQ _ _ _ _ ?_;clear 1 .A7 (ih .A7);clear 2 ?_ ?_;exact (Ab 0);clear 2 ?_ Af;exact (Ab 1)
theorem sc_fits_text_:FnScope (ns .Bn) (ps .Bn) (Ap (st .Bn)):=by clear 0
theorem L3 (M:Md K mg A fd)(ih:qIh P w K mg base A fd n):qOk P w K mg base A fd n .pl .Bn:=by
 refine B2 (g:=fnOf 2 3 (EX (run n .Bk))) rfl (B1 rfl rfl (M.fn .Bn) sc_fits_text_ (λcdv A' outer s H E hr=>?_));clear 5;clear 9 AI;refine @Fi _ _ _ ?_;refine @GT _ _ _ _ _ _ _ ?_ ?_;refine @CN _ _ _ _ ?_;refine @Cj _ _ _ ?_ (by intro _;rfl);clear 6 CL DV M.z_isinstance BK;clear 2 ?_ ?_;exact (Ab 1);clear 2 ?_ Af;exact (DR rfl M.z_str Qb);refine @FM _ _ _ _ ?_;clear 10 FS EM ?_ (AN _);clear 6 BJ BT M.z_len B9;clear 2 ?_ Af;exact (Ab 1);clear 3 Ak Al ?_ Ah;exact (Ab 0);clear 8;exact (AQ Ds);clear 5;clear 11 PassesOwn.never;refine @E7 _ _ _ _ ?_;exact (Ab 1);exact (Bi sc_fits_text_.nd rfl (.inl rfl));clear 8;clear 9 AI;refine @CN _ _ _ _ ?_;refine @Cj _ _ _ ?_ (by intro _;rfl);clear 1 .Bk (ih .Bk);clear 2 ?_ Af;clear 6 MQ OW M.z_ord Qa;clear 2 ?_ Af;exact (Ab 2);clear 8;exact (AQ Ds);clear 8;exact (AQ Ds)
theorem Ol:FnScope (ns .Bk) (ps .Bk) (Ap (st .Bk)):=by clear 0
theorem Oc (M:Md K mg A fd)(ih:qIh P w K mg base A fd n):qOk P w K mg base A fd n .pl .Bk:=by
 obtain ⟨_,g_FIRST_SIGN⟩:=M.g_FIRST_SIGN;obtain ⟨_,g_LAST_SIGN⟩:=M.g_LAST_SIGN;obtain ⟨_,g_PERCENT_SIGN⟩:=M.g_PERCENT_SIGN;refine B2 (g:=fnOf 1 1 (F7)) rfl (B1 rfl rfl (M.fn .Bk) Ol (λcdv A' outer s H E hr=>?_));clear 8;refine @AQ _ _ _ _ ?_;refine @JR _ _ _ _ _ _ _ ?_ ?_;refine MZ Km Km Iq Iq ?_ ?_ ?_;exact (HW rfl g_FIRST_SIGN);exact (Ab 0);exact (HW rfl g_LAST_SIGN);refine @JS _ _ _ _ _ ?_;refine @FJ _ _ _ _ _ _ _ _ _ (D4 hr.units) (Be (g:=λb=>!b)) ?_ ?_ (AN _);exact (Ab 0);exact (HW rfl g_PERCENT_SIGN)
theorem sc_fits_list_:FnScope (ns .Bq) (ps .Bq) (Ap (st .Bq)):=by clear 0
theorem LY (M:Md K mg A fd)(ih:qIh P w K mg base A fd n):qOk P w K mg base A fd n .pl .Bq:=by
 refine B2 (g:=fnOf 2 3 (EV (run n .Bp))) rfl (B1 rfl rfl (M.fn .Bq) sc_fits_list_ (λcdv A' outer s H E hr=>?_));clear 5;clear 9 AI;refine @Fi _ _ _ ?_;refine @GT _ _ _ _ _ _ _ ?_ ?_;refine @CN _ _ _ _ ?_;refine @Cj _ _ _ ?_ (by intro _;rfl);clear 6 CL DV M.z_isinstance BK;clear 2 ?_ ?_;exact (Ab 1);clear 2 ?_ Af;exact (DR rfl M.z_list Fo);refine @FM _ _ _ _ ?_;clear 10 FS EM ?_ (AN _);clear 6 BJ BT M.z_len B9;clear 2 ?_ Af;exact (Ab 1);clear 3 Ak Al ?_ Ah;exact (Ab 0);clear 8;exact (AQ Ds);clear 5;clear 11 PassesOwn.never;refine @E7 _ _ _ _ ?_;exact (Ab 1);exact (Bi sc_fits_list_.nd rfl (.inl rfl));clear 8;clear 9 AI;refine @CN _ _ _ _ ?_;refine @Cj _ _ _ ?_ (by intro _;rfl);clear 1 .Bp (ih .Bp);clear 2 ?_ ?_;clear 3 Ak Al ?_ Ah;exact (Ab 0);clear 2 ?_ Af;exact (Ab 2);clear 8;exact (AQ Ds);clear 8;exact (AQ Ds)
theorem L9:FnScope (ns .Br) (ps .Br) (Ap (st .Br)):=by clear 0
theorem LZ (M:Md K mg A fd)(ih:qIh P w K mg base A fd n):qOk P w K mg base A fd n .pl .Br:=by
 refine B2 (g:=fnOf 2 2 (EW (run n .Bp))) rfl (B1 rfl rfl (M.fn .Br) L9 (λcdv A' outer s H E hr=>?_));clear 5;clear 9 AI;refine @Fi _ _ _ ?_;refine @GT _ _ _ _ _ _ _ ?_ ?_;refine @CN _ _ _ _ ?_;refine @Cj _ _ _ ?_ (by intro _;rfl);clear 6 CL DV M.z_isinstance BK;clear 2 ?_ ?_;exact (Ab 1);clear 2 ?_ Af;exact (DR rfl M.z_tuple FC);refine @FM _ _ _ _ ?_;clear 10 (D4 hr.units) (Be (g:=λb=>!b)) Ah (AN _);clear 6 BJ BT M.z_len B9;clear 2 ?_ Af;exact (Ab 1);clear 8;exact (AQ Ds);clear 8;refine @AQ _ _ _ _ ?_;refine @JR _ _ _ _ _ _ _ ?_ ?_;clear 1 .Bp (ih .Bp);clear 2 ?_ ?_;clear 3 Ak Al ?_ Ah;exact (Ab 0);clear 2 ?_ Af;clear 3 Ak Al ?_ Ah;exact (Ab 1);refine @JS _ _ _ _ _ ?_;clear 1 .Bp (ih .Bp);clear 2 ?_ ?_;clear 3 Ak Al ?_ Ah;exact (Ab 0);clear 2 ?_ Af;clear 3 Ak Al ?_ Ah;exact (Ab 1)
theorem Kr:FnScope (ns .A7) (ps .A7) (Ap (st .A7)):=by clear 0
theorem Kh (M:Md K mg A fd)(ih:qIh P w K mg base A fd n):qOk P w K mg base A fd n .pl .A7:=by
 refine B2 (g:=fnOf 2 2 (Ea (run n .Bp) (run n .Az))) rfl (B1 rfl rfl (M.fn .A7) Kr (λcdv A' outer s H E hr=>?_));clear 5;clear 9 AI;refine @Fi _ _ _ ?_;refine @GT _ _ _ _ _ _ _ ?_ ?_;refine @CN _ _ _ _ ?_;refine @Cj _ _ _ ?_ (by intro _;rfl);clear 6 CL DV M.z_isinstance BK;clear 2 ?_ ?_;exact (Ab 1);clear 2 ?_ Af;exact (DR rfl M.z_tuple FC);refine @FM _ _ _ _ ?_;clear 10 (D4 hr.units) (Be (g:=λb=>!b)) Ah (AN _);clear 6 BJ BT M.z_len B9;clear 2 ?_ Af;exact (Ab 1);clear 8;exact (AQ Ds);clear 5;clear 9 AI;refine @Fi _ _ _ ?_;refine @GT _ _ _ _ _ _ _ ?_ ?_;refine @CN _ _ _ _ ?_;refine @Cj _ _ _ ?_ (by intro _;rfl);clear 6 CL DV M.z_isinstance BK;clear 2 ?_ ?_;clear 3 Ak Al ?_ Ah;exact (Ab 1);clear 2 ?_ Af;exact (DR rfl M.z_str Qb);refine @FM _ _ _ _ ?_;clear 10 (D4 hr.units) (Be (g:=λb=>!b)) AD (AN _);clear 3 Ak Al ?_ Ah;exact (Ab 1);clear 8;exact (AQ Ds);clear 5;clear 9 AI;refine @CN _ _ _ _ ?_;refine @Cj _ _ _ ?_ (by intro _;rfl);clear 1 .Az (ih .Az);clear 2 ?_ ?_;clear 3 Ak Al ?_ Ah;exact (Ab 1);clear 2 Ah ?_;clear 2 ?_ Af;clear 7 Ck B6 ?_ Ah;clear 6 BJ BT M.z_len B9;clear 2 ?_ Af;clear 3 Ak Al ?_ Ah;exact (Ab 0);clear 8;exact (AQ Ds);clear 8;refine @AQ _ _ _ _ ?_;clear 1 .Bp (ih .Bp);clear 2 ?_ ?_;clear 3 Ak Al ?_ ?_;clear 3 Ak Al ?_ Ah;exact (Ab 0);clear 3 Ak Al ?_ Ah;exact (Ab 1);clear 2 ?_ Af;clear 3 Ak Al ?_ Ah;exact (Ab 1)
theorem Ks:FnScope (ns .A6) (ps .A6) (Ap (st .A6)):=by clear 0
theorem Kk (M:Md K mg A fd)(ih:qIh P w K mg base A fd n):qOk P w K mg base A fd n .ex .A6:=by
 obtain ⟨P',ca,x,xt,x0⟩:=M.xm;refine CK (g:=fnOf 2 2 (Dw (run n .Av) (run n .Bp))) rfl (Df rfl rfl (M.fn .A6) Ks (λcdv A' outer s H E hr hp hq ho=>?_));clear 5;clear 9 AI;refine @CN _ _ _ _ ?_;refine @Cj _ _ _ ?_ (by intro _;rfl);clear 1 .Bp (ih .Bp);clear 2 ?_ ?_;exact (Ab 0);clear 2 ?_ Af;exact (Ab 1);clear 8;refine Cg ?_;refine LB (n:="NoValue") x (by decide) rfl (x0 "NoValue" (by decide)) rfl hq rfl ?_;clear 2 AD Af;clear 8;refine Cm ?_;refine E6 (ih .Av) hr rfl (M.mgs .Av) (Fun.kp (M.fn .Av)) (M.bd .Av) ?_;clear 2 ?_ ?_;exact (Ab 0);clear 2 ?_ Af;exact (Ab 1)
theorem sc_fitting_bytes_:FnScope (ns .Av) (ps .Av) (Ap (st .Av)):=by clear 0
theorem IF (M:Md K mg A fd)(ih:qIh P w K mg base A fd n):qOk P w K mg base A fd n .fr .Av:=by
 refine OT (g:=fnOf 2 5 (DI (run n .Av) (run n .AK) (run n .AY))) rfl (OG rfl rfl (M.fn .Av) sc_fitting_bytes_ (λcdv A' outer s H E hr=>?_));clear 5;clear 4 2 sc_fitting_bytes_.nd (.inl rfl);clear 3 Ak Al ?_ Ah;exact (Ab 0);clear 5;clear 9 AI;clear 10 (BE hr.units) (Be (g:=id)) AD (AN _);exact (Ab 2);clear 8;refine Fu ?_;exact (Bw Af);clear 5;clear 9 AI;clear 10 (BE hr.units) (Be (g:=id)) AD (AN _);exact (Ab 2);clear 8;refine Fu ?_;refine M1 (ih .AY) hr rfl (M.mgs .AY) (Fun.kp (M.fn .AY)) (M.bd .AY) ?_;clear 2 ?_ ?_;clear 7 Ck B6 ?_ ?_;exact (Ab 1);clear 3 Ak Al ?_ Ah;exact (Ab 0);clear 2 ?_ Af;clear 1 .AK (ih .AK);clear 2 ?_ Af;clear 7 Ck B6 ?_ ?_;clear 3 Ak Al ?_ Ah;exact (Ab 0);clear 3 Ak Al ?_ Ah;exact (Ab 0);clear 5;clear 9 AI;clear 10 (BE hr.units) (Be (g:=id)) AD (AN _);exact (Ab 2);clear 8;refine Fu ?_;refine @Pj _ _ _ _ _ _ _ _ _ op_cat Jl ?_ ?_;refine @Bh _ _ _ ?_;refine @Bw _ _ _ _ ?_;clear 2 ?_ Af;clear 6 BJ BT M.z_len B9;clear 2 ?_ Af;exact (Ab 1);refine @Bh _ _ _ ?_;refine Fr (E3 ["sign"] [] rfl rfl rfl rfl rfl) rfl ?_ ?_ ?_ ?_;refine @E7 _ _ _ _ ?_;exact (Ab 1);intro _ _ _ _ _;exact (Bi (by show List.Nodup [("sign" : Str)] ;decide +kernel) rfl (.inl rfl));intro _ _ _ _ _;exact ED;intro _ _ _ _ _;clear 6 MQ OW M.z_ord Qa;clear 2 ?_ Af;exact (Ab 0);clear 5;clear 9 AI;clear 10 (BE hr.units) (Be (g:=id)) AD (AN _);exact (Ab 2);clear 5;clear 12 3 sc_fitting_bytes_.nd;refine @Bw _ _ _ _ ?_;clear 2 ?_ Af;clear 6 BJ BT M.z_len B9;clear 2 ?_ Af;exact (Ab 1);clear 5;clear 11 PassesOwn.never;refine @E7 _ _ _ _ ?_;exact (Ab 1);exact (Bi sc_fitting_bytes_.nd rfl (.inl rfl));clear 8;refine Pn 3 ?_;clear 2 ?_ Af;refine E6 (ih .Av) hr rfl (M.mgs .Av) (Fun.kp (M.fn .Av)) (M.bd .Av) ?_;clear 2 ?_ ?_;clear 3 Ak Al ?_ Ah;exact (Ab 0);clear 2 ?_ Af;exact (Ab 4);clear 8;exact (Qw 3);clear 5;clear 9 AI;clear 10 (BE hr.units) (Be (g:=id)) AD (AN _);exact (Ab 2);clear 8;refine Fu ?_;refine @Pj _ _ _ _ _ _ _ _ _ op_cat Jl ?_ ?_;refine E6 (ih .Av) hr rfl (M.mgs .Av) (Fun.kp (M.fn .Av)) (M.bd .Av) ?_;clear 2 ?_ ?_;clear 3 Ak Al ?_ Ah;exact (Ab 0);clear 2 ?_ Af;clear 3 Ak Al ?_ Ah;exact (Ab 1);refine E6 (ih .Av) hr rfl (M.mgs .Av) (Fun.kp (M.fn .Av)) (M.bd .Av) ?_;clear 2 ?_ ?_;clear 3 Ak Al ?_ Ah;exact (Ab 0);clear 2 ?_ Af;clear 3 Ak Al ?_ Ah;exact (Ab 1);clear 8;refine Fu ?_;refine @Pj _ _ _ _ _ _ _ _ _ op_cat Jl ?_ ?_;refine @Bh _ _ _ ?_;refine @Bw _ _ _ _ ?_;clear 2 ?_ Af;clear 3 Ak Al ?_ Ah;exact (Ab 1);refine E6 (ih .Av) hr rfl (M.mgs .Av) (Fun.kp (M.fn .Av)) (M.bd .Av) ?_;clear 2 ?_ ?_;clear 3 Ak Al ?_ ?_;clear 3 Ak Al ?_ Ah;exact (Ab 0);clear 3 Ak Al ?_ Ah;exact (Ab 1);clear 2 ?_ Af;clear 3 Ak Al ?_ Ah;exact (Ab 1)
theorem Kt:FnScope (ns .AK) (ps .AK) (Ap (st .AK)):=by clear 0
theorem Kl (M:Md K mg A fd)(ih:qIh P w K mg base A fd n):qOk P w K mg base A fd n .pl .AK:=by
 refine B2 (g:=fnOf 1 1 (Eb)) rfl (B1 rfl rfl (M.fn .AK) Kt (λcdv A' outer s H E hr=>?_));clear 8;refine @AQ _ _ _ _ ?_;clear 7 K8 Jm ?_ Ah;clear 7 A0 AO ?_ Ah;refine Qm ?_;exact (Ab 0)
theorem Jk:FnScope (ns .AY) (ps .AY) (Ap (st .AY)):=by clear 0
theorem Jd (M:Md K mg A fd)(ih:qIh P w K mg base A fd n):qOk P w K mg base A fd n .fr .AY:=by
 refine OT (g:=fnOf 2 2 (DT (run n .Bl))) rfl (OG rfl rfl (M.fn .AY) Jk (λcdv A' outer s H E hr=>?_));clear 8;refine Fu ?_;refine Fr (E3 ["k"] [(0 , "number") ,(1 , "width")] rfl rfl rfl rfl rfl) rfl ?_ ?_ ?_ ?_;refine JT rfl M.z_range ?_;clear 2 Ah ?_;clear 2 ?_ Af;clear 7 A0 AO ?_ Ah;exact (Ab 1);intro _ _ _ _ _;exact (Bi (by show List.Nodup [("k" : Str) ,("number" : Str) ,("width" : Str)] ;decide +kernel) rfl (.inl rfl));intro _ _ _ _ _;exact ED;intro _ _ _ _ _;clear 7 FT EN ?_ Ah;clear 1 .Bl (ih .Bl);clear 2 ?_ ?_;exact (Ab 1);clear 2 ?_ Af;clear 7 Ck B6 ?_ ?_;exact (Ab 2);exact (Ab 0)
theorem Om:FnScope (ns .Bl) (ps .Bl) (Ap (st .Bl)):=by clear 0
theorem Od (M:Md K mg A fd)(ih:qIh P w K mg base A fd n):qOk P w K mg base A fd n .pl .Bl:=by
 refine B2 (g:=fnOf 2 2 (F9)) rfl (B1 rfl rfl (M.fn .Bl) Om (λcdv A' outer s H E hr=>?_));clear 8;refine @AQ _ _ _ _ ?_;clear 7 Ww Vi ?_ ?_;exact (Ab 0);clear 7 Fv EO Ah ?_;exact (Ab 1)
theorem sc_read_value_:FnScope (ns .Ay) (ps .Ay) (Ap (st .Ay)):=by clear 0
theorem K7 (M:Md K mg A fd)(ih:qIh P w K mg base A fd n):qOk P w K mg base A fd n .ex .Ay:=by
 refine CK (g:=fnOf 3 4 (DJ (run n .A8) (run n .Bt) (run n .Bs) (run n .Bu) (run n .A9))) rfl (Df rfl rfl (M.fn .Ay) sc_read_value_ (λcdv A' outer s H E hr hp hq ho=>?_));clear 5;clear 4 3 sc_read_value_.nd (.inl rfl);clear 3 Ak Al ?_ Ah;exact (Ab 0);clear 5;clear 9 AI;clear 10 (BE hr.units) (Be (g:=id)) AD (AN _);exact (Ab 3);clear 8;refine Cm ?_;refine @BA _ _ _ _ _ ?_;clear 2 Dy ?_;clear 2 ?_ Af;exact (Ab 2);clear 5;clear 9 AI;clear 10 (BE hr.units) (Be (g:=id)) AD (AN _);exact (Ab 3);clear 8;refine Cg ?_;refine Gu ?_;refine BZ (ih .A9) hr rfl (M.mgs .A9) (Fun.kp (M.fn .A9)) (M.bd .A9) hp ?_;clear 2 ?_ ?_;exact (Ab 0);clear 2 ?_ ?_;exact (Ab 1);clear 2 ?_ Af;exact (Ab 2);clear 5;clear 9 AI;clear 10 (BE hr.units) (Be (g:=id)) AD (AN _);exact (Ab 3);clear 8;refine Cg ?_;refine Gu ?_;refine BZ (ih .Bu) hr rfl (M.mgs .Bu) (Fun.kp (M.fn .Bu)) (M.bd .Bu) hp ?_;clear 2 ?_ ?_;exact (Ab 0);clear 2 ?_ ?_;exact (Ab 1);clear 2 ?_ Af;exact (Ab 2);clear 5;clear 9 AI;clear 10 (BE hr.units) (Be (g:=id)) AD (AN _);exact (Ab 3);clear 8;refine Cg ?_;refine Gu ?_;refine BZ (ih .Bs) hr rfl (M.mgs .Bs) (Fun.kp (M.fn .Bs)) (M.bd .Bs) hp ?_;clear 2 ?_ ?_;exact (Ab 0);clear 2 ?_ ?_;exact (Ab 1);clear 2 ?_ Af;exact (Ab 2);clear 5;clear 9 AI;clear 10 (BE hr.units) (Be (g:=id)) AD (AN _);exact (Ab 3);clear 8;refine Cg ?_;refine Gu ?_;refine BZ (ih .Bt) hr rfl (M.mgs .Bt) (Fun.kp (M.fn .Bt)) (M.bd .Bt) hp ?_;clear 2 ?_ ?_;exact (Ab 0);clear 2 ?_ ?_;exact (Ab 1);clear 2 ?_ Af;exact (Ab 2);clear 8;refine Cg ?_;refine Gu ?_;refine BZ (ih .A8) hr rfl (M.mgs .A8) (Fun.kp (M.fn .A8)) (M.bd .A8) hp ?_;clear 2 ?_ ?_;exact (Ab 0);clear 2 ?_ ?_;exact (Ab 1);clear 2 ?_ Af;exact (Ab 2)
theorem Oj:FnScope (ns .A3) (ps .A3) (Ap (st .A3)):=by clear 0
theorem Oa (M:Md K mg A fd)(ih:qIh P w K mg base A fd n):qOk P w K mg base A fd n .ex .A3:=by
 obtain ⟨P',ca,x,xt,x0⟩:=M.xm;refine CK (g:=fnOf 2 2 (Ew)) rfl (Df rfl rfl (M.fn .A3) Oj (λcdv A' outer s H E hr hp hq ho=>?_));clear 5;clear 9 AI;clear 10 Ny Lk ?_ (AN _);exact (Ab 1);clear 6 BJ BT M.z_len B9;clear 2 ?_ Af;exact (Ab 0);clear 8;refine Cg ?_;refine LB (n:="Short") x (by decide) rfl (x0 "Short" (by decide)) rfl hq rfl ?_;clear 2 AD Af;clear 8;refine Cm ?_;clear 3 Ak Al ?_ ?_;exact (Ab 0);exact (Ab 1)
theorem sc_byte_up_to_:FnScope (ns .AH) (ps .AH) (Ap (st .AH)):=by clear 0
theorem K2 (M:Md K mg A fd)(ih:qIh P w K mg base A fd n):qOk P w K mg base A fd n .ex .AH:=by
 obtain ⟨P',ca,x,xt,x0⟩:=M.xm;have xb:XN2 P w K mg base (ca "Broken") P':=GW rfl Ku rfl rfl rfl xt;refine CK (g:=fnOf 3 4 (DG (run n .A3))) rfl (Df rfl rfl (M.fn .AH) sc_byte_up_to_ (λcdv A' outer s H E hr hp hq ho=>?_));clear 5;refine Cg ?_;refine Cz (i:=3) sc_byte_up_to_.nd rfl (.inl rfl) ?_;refine BZ (ih .A3) hr rfl (M.mgs .A3) (Fun.kp (M.fn .A3)) (M.bd .A3) hp ?_;clear 2 ?_ ?_;exact (Ab 1);clear 2 ?_ Af;exact (Ab 2);clear 5;clear 9 AI;clear 10 FS EM ?_ (AN _);exact (Ab 3);exact (Ab 0);clear 8;refine Cg ?_;refine F6 x xb (hr.mono (by lia)) rfl hq rfl ?_;clear 2 ?_ ?_;exact (Ab 2);clear 2 Dy Af;clear 8;refine Cm ?_;exact (Ab 3)
theorem sc_read_number_:FnScope (ns .A9) (ps .A9) (Ap (st .A9)):=by clear 0
theorem Kj (M:Md K mg A fd)(ih:qIh P w K mg base A fd n):qOk P w K mg base A fd n .ex .A9:=by
 obtain ⟨P',ca,x,xt,x0⟩:=M.xm;have xb:XN2 P w K mg base (ca "Broken") P':=GW rfl Ku rfl rfl rfl xt;refine CK (g:=fnOf 3 7 (CQ (run n .Bl) (run n .A3) (run n .AK))) rfl (Df rfl rfl (M.fn .A9) sc_read_number_ (λcdv A' outer s H E hr hp hq ho=>?_));clear 5;clear 4 3 sc_read_number_.nd (.inl rfl);clear 7 Ck B6 ?_ ?_;clear 3 Ak Al ?_ Ah;exact (Ab 0);clear 3 Ak Al ?_ Ah;exact (Ab 0);clear 5;clear 4 4 sc_read_number_.nd (.inl rfl);clear 1 .AK (ih .AK);clear 2 ?_ Af;exact (Ab 3);clear 5;exact (AM (i:=5) sc_read_number_.nd rfl (.inl rfl) Ah);clear 5;clear 11 ho;refine Cc rfl M.z_range ?_;clear 2 ?_ Af;exact (Ab 4);exact (Bi sc_read_number_.nd rfl (.inl rfl));clear 5;refine Cg ?_;refine Cz (i:=5) sc_read_number_.nd rfl (.inl rfl) ?_;refine Tt A0 AO ?_ ?_;clear 7 Fv EO ?_ Ah;exact (Ab 5);refine BZ (ih .A3) hr rfl (M.mgs .A3) (Fun.kp (M.fn .A3)) (M.bd .A3) hp ?_;clear 2 ?_ ?_;exact (Ab 1);clear 2 ?_ Af;clear 7 A0 AO ?_ ?_;exact (Ab 2);exact (Ab 6);clear 8;clear 9 AI;clear 10 FS EM ?_ (AN _);exact (Ab 5);clear 1 .Bl (ih .Bl);clear 2 ?_ ?_;exact (Ab 3);clear 2 ?_ Af;clear 7 Ck B6 ?_ ?_;clear 7 Ck B6 ?_ Ah;exact (Ab 4);exact (Ab 6);clear 8;refine Cg ?_;refine F6 x xb (hr.mono (by lia)) rfl hq rfl ?_;clear 2 ?_ ?_;clear 7 A0 AO ?_ ?_;exact (Ab 2);exact (Ab 6);clear 2 Dy Af;clear 8;refine Cm ?_;refine @BA _ _ _ _ _ ?_;clear 2 ?_ ?_;clear 7 A0 AO ?_ ?_;clear 3 Ak Al ?_ Ah;exact (Ab 0);exact (Ab 5);clear 2 ?_ Af;clear 7 A0 AO ?_ ?_;exact (Ab 2);exact (Ab 4)
theorem sc_read_text_:FnScope (ns .Bu) (ps .Bu) (Ap (st .Bu)):=by clear 0
theorem L7 (M:Md K mg A fd)(ih:qIh P w K mg base A fd n):qOk P w K mg base A fd n .ex .Bu:=by
 refine CK (g:=fnOf 3 7 (Dj (run n .BG) (run n .AH))) rfl (Df rfl rfl (M.fn .Bu) sc_read_text_ (λcdv A' outer s H E hr hp hq ho=>?_));clear 5;refine Cg ?_;refine Cz (i:=3) sc_read_text_.nd rfl (.inl rfl) ?_;refine BZ (ih .AH) hr rfl (M.mgs .AH) (Fun.kp (M.fn .AH)) (M.bd .AH) hp ?_;clear 2 ?_ ?_;clear 3 Ak Al ?_ Ah;exact (Ab 0);clear 2 ?_ ?_;exact (Ab 1);clear 2 ?_ Af;exact (Ab 2);clear 5;clear 4 4 sc_read_text_.nd (.inl rfl);clear 7 A0 AO ?_ Ah;exact (Ab 2);clear 5;exact (AM (i:=5) sc_read_text_.nd rfl (.inl rfl) AD);clear 5;clear 11 ho;refine Cc rfl M.z_range ?_;clear 2 ?_ Af;exact (Ab 3);exact (Bi sc_read_text_.nd rfl (.inl rfl));clear 8;refine Cg ?_;refine Cz (i:=5) sc_read_text_.nd rfl (.inl rfl) ?_;refine Tt A0 AO ?_ ?_;exact (Ab 5);refine BZ (ih .BG) hr rfl (M.mgs .BG) (Fun.kp (M.fn .BG)) (M.bd .BG) hp ?_;clear 2 ?_ ?_;exact (Ab 1);clear 2 ?_ Af;clear 7 A0 AO ?_ ?_;exact (Ab 4);exact (Ab 6);clear 8;refine Cm ?_;refine @BA _ _ _ _ _ ?_;clear 2 ?_ ?_;exact (Ab 5);clear 2 ?_ Af;clear 7 A0 AO ?_ ?_;exact (Ab 4);exact (Ab 3)
theorem sc_sign_at_:FnScope (ns .BG) (ps .BG) (Ap (st .BG)):=by clear 0
theorem Of (M:Md K mg A fd)(ih:qIh P w K mg base A fd n):qOk P w K mg base A fd n .ex .BG:=by
 obtain ⟨_,g_FIRST_SIGN⟩:=M.g_FIRST_SIGN;obtain ⟨_,g_SIGNS⟩:=M.g_SIGNS;obtain ⟨P',ca,x,xt,x0⟩:=M.xm;have xb:XN2 P w K mg base (ca "Broken") P':=GW rfl Ku rfl rfl rfl xt;refine CK (g:=fnOf 2 3 (Ey (run n .Bk) (run n .A3))) rfl (Df rfl rfl (M.fn .BG) sc_sign_at_ (λcdv A' outer s H E hr hp hq ho=>?_));clear 5;refine Cg ?_;refine Cz (i:=2) sc_sign_at_.nd rfl (.inl rfl) ?_;refine BZ (ih .A3) hr rfl (M.mgs .A3) (Fun.kp (M.fn .A3)) (M.bd .A3) hp ?_;clear 2 ?_ ?_;exact (Ab 0);clear 2 ?_ Af;exact (Ab 1);clear 5;clear 9 AI;refine @CN _ _ _ _ ?_;refine @Cj _ _ _ ?_ (by intro _;rfl);clear 1 .Bk (ih .Bk);clear 2 ?_ Af;exact (Ab 2);clear 8;refine Cg ?_;refine F6 x xb (hr.mono (by lia)) rfl hq rfl ?_;clear 2 ?_ ?_;exact (Ab 1);clear 2 Dy Af;clear 8;refine Cm ?_;clear 3 Ak Al ?_ ?_;exact (R3 rfl g_SIGNS);clear 7 Ck B6 ?_ ?_;exact (Ab 2);exact (HW rfl g_FIRST_SIGN)
theorem sc_read_list_:FnScope (ns .Bs) (ps .Bs) (Ap (st .Bs)):=by clear 0
theorem L5 (M:Md K mg A fd)(ih:qIh P w K mg base A fd n):qOk P w K mg base A fd n .ex .Bs:=by
 refine CK (g:=fnOf 3 8 (Dh (run n .Ay) (run n .AH))) rfl (Df rfl rfl (M.fn .Bs) sc_read_list_ (λcdv A' outer s H E hr hp hq ho=>?_));clear 5;refine Cg ?_;refine Cz (i:=3) sc_read_list_.nd rfl (.inl rfl) ?_;refine BZ (ih .AH) hr rfl (M.mgs .AH) (Fun.kp (M.fn .AH)) (M.bd .AH) hp ?_;clear 2 ?_ ?_;clear 3 Ak Al ?_ Ah;exact (Ab 0);clear 2 ?_ ?_;exact (Ab 1);clear 2 ?_ Af;exact (Ab 2);clear 5;clear 4 4 sc_read_list_.nd (.inl rfl);clear 7 A0 AO ?_ Ah;exact (Ab 2);clear 5;clear 4 5 sc_read_list_.nd (.inl rfl);refine @Qp _ _ _ ?_;exact (Bw Af);clear 5;clear 11 ho;refine Cc rfl M.z_range ?_;clear 2 ?_ Af;exact (Ab 3);exact (Bi sc_read_list_.nd rfl (.inl rfl));clear 5;refine Cg ?_;refine Cz (i:=7) sc_read_list_.nd rfl (.inl rfl) ?_;refine BZ (ih .Ay) hr rfl (M.mgs .Ay) (Fun.kp (M.fn .Ay)) (M.bd .Ay) hp ?_;clear 2 ?_ ?_;clear 3 Ak Al ?_ Ah;exact (Ab 0);clear 2 ?_ ?_;exact (Ab 1);clear 2 ?_ Af;exact (Ab 4);clear 5;refine Ft ?_;refine E5 ?_ ?_;exact (Ab 5);clear 2 ?_ Af;clear 3 Ak Al ?_ Ah;exact (Ab 7);clear 8;clear 4 4 sc_read_list_.nd (.inl rfl);clear 3 Ak Al ?_ Ah;exact (Ab 7);clear 8;refine Cm ?_;refine @BA _ _ _ _ _ ?_;clear 2 ?_ ?_;exact (Ab 5);clear 2 ?_ Af;exact (Ab 4)
theorem sc_read_pair_:FnScope (ns .Bt) (ps .Bt) (Ap (st .Bt)):=by clear 0
theorem L6 (M:Md K mg A fd)(ih:qIh P w K mg base A fd n):qOk P w K mg base A fd n .ex .Bt:=by
 refine CK (g:=fnOf 3 5 (Di (run n .Ay))) rfl (Df rfl rfl (M.fn .Bt) sc_read_pair_ (λcdv A' outer s H E hr hp hq ho=>?_));clear 5;refine Cg ?_;refine Cz (i:=3) sc_read_pair_.nd rfl (.inl rfl) ?_;refine BZ (ih .Ay) hr rfl (M.mgs .Ay) (Fun.kp (M.fn .Ay)) (M.bd .Ay) hp ?_;clear 2 ?_ ?_;clear 3 Ak Al ?_ Ah;exact (Ab 0);clear 2 ?_ ?_;exact (Ab 1);clear 2 ?_ Af;exact (Ab 2);clear 5;refine Cg ?_;refine Cz (i:=4) sc_read_pair_.nd rfl (.inl rfl) ?_;refine BZ (ih .Ay) hr rfl (M.mgs .Ay) (Fun.kp (M.fn .Ay)) (M.bd .Ay) hp ?_;clear 2 ?_ ?_;clear 3 Ak Al ?_ Ah;exact (Ab 0);clear 2 ?_ ?_;exact (Ab 1);clear 2 ?_ Af;clear 3 Ak Al ?_ Ah;exact (Ab 3);clear 8;refine Cm ?_;refine @BA _ _ _ _ _ ?_;clear 2 ?_ ?_;refine @BA _ _ _ _ _ ?_;clear 2 ?_ ?_;clear 3 Ak Al ?_ Ah;exact (Ab 3);clear 2 ?_ Af;clear 3 Ak Al ?_ Ah;exact (Ab 4);clear 2 ?_ Af;clear 3 Ak Al ?_ Ah;exact (Ab 4)
theorem sc_read_choice_:FnScope (ns .A8) (ps .A8) (Ap (st .A8)):=by clear 0
theorem Ki (M:Md K mg A fd)(ih:qIh P w K mg base A fd n):qOk P w K mg base A fd n .ex .A8:=by
 refine CK (g:=fnOf 3 5 (CP (run n .Ay) (run n .AH))) rfl (Df rfl rfl (M.fn .A8) sc_read_choice_ (λcdv A' outer s H E hr hp hq ho=>?_));clear 5;refine Cg ?_;refine Cz (i:=3) sc_read_choice_.nd rfl (.inl rfl) ?_;refine BZ (ih .AH) hr rfl (M.mgs .AH) (Fun.kp (M.fn .AH)) (M.bd .AH) hp ?_;clear 2 ?_ ?_;clear 7 Ck B6 ?_ Ah;clear 6 BJ BT M.z_len B9;clear 2 ?_ Af;clear 3 Ak Al ?_ Ah;exact (Ab 0);clear 2 ?_ ?_;exact (Ab 1);clear 2 ?_ Af;exact (Ab 2);clear 5;refine Cg ?_;refine Cz (i:=4) sc_read_choice_.nd rfl (.inl rfl) ?_;refine BZ (ih .Ay) hr rfl (M.mgs .Ay) (Fun.kp (M.fn .Ay)) (M.bd .Ay) hp ?_;clear 2 ?_ ?_;clear 3 Ak Al ?_ ?_;clear 3 Ak Al ?_ Ah;exact (Ab 0);exact (Ab 3);clear 2 ?_ ?_;exact (Ab 1);clear 2 ?_ Af;clear 7 A0 AO ?_ Ah;exact (Ab 2);clear 8;refine Cm ?_;refine @BA _ _ _ _ _ ?_;clear 2 ?_ ?_;refine @BA _ _ _ _ _ ?_;clear 2 AD ?_;clear 2 ?_ ?_;exact (Ab 3);clear 2 ?_ Af;clear 3 Ak Al ?_ Ah;exact (Ab 4);clear 2 ?_ Af;clear 3 Ak Al ?_ Ah;exact (Ab 4)
theorem sc_talk_by_:FnScope (ns .Bd) (ps .Bd) (Ap (st .Bd)):=by clear 0
theorem Og (M:Md K mg A fd)(ih:qIh P w K mg base A fd n):qOk P w K mg base A fd n .er .Bd:=by
 refine CK (g:=fnOf 3 4 (Ga (run n .BF))) rfl (KU rfl rfl (M.fn .Bd) sc_talk_by_ (λcdv A' outer s H E hr hp hq ho ht=>?_));clear 5;refine Cg ?_;refine Cz (i:=3) sc_talk_by_.nd rfl (.inl rfl) ?_;refine BZ (ih .BF) hr rfl (M.mgs .BF) (Fun.kp (M.fn .BF)) (M.bd .BF) hp ?_;clear 2 ?_ ?_;exact (Ab 0);clear 2 Ah ?_;clear 2 ?_ ?_;refine Fq ?_;refine CG ?_ ?_;exact (Ab 1);refine CG ?_ Fs;exact (Ab 2);clear 2 ?_ Af;refine Fq ?_;refine CG Ah ?_;exact (CG Ah Fs);clear 8;refine Cm ?_;refine @BA _ _ _ _ _ ?_;clear 2 ?_ ?_;clear 3 Ak Al ?_ Ah;exact (Ab 3);clear 2 ?_ ?_;clear 3 Ak Al ?_ Ah;exact (Ab 3);clear 2 ?_ Af;refine @BA _ _ _ _ _ ?_;clear 2 ?_ ?_;clear 3 BO Bf ?_ AD;clear 3 Ak Al ?_ Ah;exact (Ab 3);clear 2 ?_ Af;clear 3 BO Bf ?_ AD;clear 3 Ak Al ?_ Ah;exact (Ab 3)
theorem sc_read_on_:FnScope (ns .BF) (ps .BF) (Ap (st .BF)):=by clear 0
theorem Oe (M:Md K mg A fd)(ih:qIh P w K mg base A fd n):qOk P w K mg base A fd n .er .BF:=by
 refine CK (g:=fnOf 4 9 (Ex (run n .AZ))) rfl (KU rfl rfl (M.fn .BF) sc_read_on_ (λcdv A' outer s H E hr hp hq ho ht=>?_));clear 5;clear 4 4 sc_read_on_.nd (.inl rfl);refine @Qp _ _ _ ?_;exact (Bw Af);clear 5;clear 4 5 sc_read_on_.nd (.inl rfl);exact (Ab 1);clear 5;clear 4 6 sc_read_on_.nd (.inl rfl);refine R1 rfl M.z_dict ?_;clear 2 ?_ Af;exact (Ab 3);clear 5;refine Na ho ?_ ?_;clear 10 (Wu hr.units) (Ve (neg:=false)) ?_ (by with_unfolding_all rfl);clear 3 Ak Al ?_ Ah;clear 3 Ak Al ?_ ?_;exact (Ab 0);exact (Ab 5);exact (Ab 2);clear 5;clear 4 7 sc_read_on_.nd (.inl rfl);clear 3 Ak Al ?_ Ah;clear 3 Ak Al ?_ ?_;exact (Ab 0);exact (Ab 5);clear 5;refine Cg ?_;refine Cz (i:=8) sc_read_on_.nd rfl (.inl rfl) ?_;refine BZ (ih .AZ) hr rfl (M.mgs .AZ) (Fun.kp (M.fn .AZ)) (M.bd .AZ) hp ?_;clear 2 ?_ ?_;clear 3 Ak Al ?_ ?_;exact (Ab 0);exact (Ab 5);clear 2 ?_ ?_;clear 3 BO Bf ?_ ?_;exact (Ab 2);exact (Ab 7);clear 2 ?_ Af;clear 3 BO Bf ?_ ?_;exact (Ab 6);exact (Ab 7);clear 5;clear 9 AI;clear 10 QU Rc Dy (AN _);exact (Ab 8);exact (An M9);clear 5;refine Ft ?_;refine E5 ?_ ?_;exact (Ab 4);clear 2 ?_ Af;clear 3 Ak Al ?_ Ah;exact (Ab 8);clear 5;clear 4 5 sc_read_on_.nd (.inl rfl);clear 3 Ak Al ?_ Ah;exact (Ab 8);clear 8;refine Dg ?_ ?_;clear 3 Ak Al ?_ Ah;exact (Ab 8);refine CJ ?_ ?_;exact (Ab 6);exact (Ab 7);clear 8;refine Cm ?_;refine @BA _ _ _ _ _ ?_;clear 2 ?_ ?_;exact (Ab 4);clear 2 ?_ ?_;exact (Ab 5);clear 2 ?_ Af;exact (Ab 6)
theorem sc_read_message_:FnScope (ns .AZ) (ps .AZ) (Ap (st .AZ)):=by clear 0
theorem Je (M:Md K mg A fd)(ih:qIh P w K mg base A fd n):qOk P w K mg base A fd n .er .AZ:=by
 obtain ⟨P',ca,x,xt,x0⟩:=M.xm;have xb:XN2 P w K mg base (ca "Broken") P':=GW rfl Ku rfl rfl rfl xt;have xh:RM P w K mg base (ca "Broken") P':=QC rfl Ku rfl rfl rfl xt;refine CK (g:=fnOf 3 6 (DU (run n .Ay))) rfl (KU rfl rfl (M.fn .AZ) sc_read_message_ (λcdv A' outer s H E hr hp hq ho ht=>?_));clear 5;clear 9 AI;clear 10 Ny Lk ?_ (AN _);exact (Ab 2);clear 6 BJ BT M.z_len B9;clear 2 ?_ Af;exact (Ab 1);clear 8;exact (Cm Dy);clear 5;clear 9 AI;clear 10 Ny Lk ?_ (AN _);clear 3 Ak Al ?_ ?_;exact (Ab 1);exact (Ab 2);clear 6 BJ BT M.z_len B9;clear 2 ?_ Af;clear 3 Ak Al ?_ Ah;exact (Ab 0);clear 8;refine Cg ?_;refine F6 x xb (hr.mono (by lia)) rfl hq rfl ?_;clear 2 ?_ ?_;exact (Ab 2);clear 2 ?_ Af;clear 3 Ak Al ?_ Ah;exact (Ab 0);clear 5;clear 4 3 sc_read_message_.nd (.inl rfl);clear 3 Ak Al ?_ ?_;clear 3 Ak Al ?_ Ah;exact (Ab 0);clear 3 Ak Al ?_ ?_;exact (Ab 1);exact (Ab 2);clear 5;refine V7 (qx:=true) x Wn rfl rfl ?_ ?_;intro pn E hp;refine R5 ?_;refine Cz (i:=4) sc_read_message_.nd rfl (.inl rfl) ?_;refine BZ (ih .Ay) hr rfl (M.mgs .Ay) (Fun.kp (M.fn .Ay)) (M.bd .Ay) hp ?_;clear 2 ?_ ?_;clear 3 Ak Al ?_ Ah;exact (Ab 3);clear 2 ?_ ?_;exact (Ab 1);clear 2 ?_ Af;clear 7 A0 AO ?_ Ah;exact (Ab 2);refine XG x rfl (x.ms "Short" (by decide)) (x.cl "Short" (by decide)) (λ_ hn=>x.subE hn (by decide)) ?_ ?_;intro y;clear 8;exact (Cm Dy);refine XH (i:=5) x xh rfl rfl (hr.mono (by lia)) rfl (x.ms "Broken" (by decide)) (x.cl "Broken" (by decide)) (λ_ hn=>x.subE hn (by decide)) sc_read_message_.nd rfl rfl ht rfl ?_ Ul V4;intro y;clear 2 ?_ ?_;refine V3 x x.na ?_ rfl;exact (Ab 5);clear 2 ?_ Af;clear 3 Ak Al ?_ Ah;exact (Ab 0);clear 8;refine Cm ?_;refine @BA _ _ _ _ _ ?_;clear 2 ?_ ?_;refine @BA _ _ _ _ _ ?_;clear 2 ?_ ?_;clear 3 Ak Al ?_ Ah;exact (Ab 0);clear 2 ?_ ?_;clear 3 Ak Al ?_ Ah;exact (Ab 3);clear 2 ?_ Af;clear 3 Ak Al ?_ Ah;exact (Ab 4);clear 2 ?_ ?_;clear 3 Ak Al ?_ Ah;exact (Ab 3);clear 2 ?_ Af;clear 3 Ak Al ?_ Ah;exact (Ab 4)
theorem Jj:FnScope (ns .AW) (ps .AW) (Ap (st .AW)):=by clear 0
theorem Jb (M:Md K mg A fd)(ih:qIh P w K mg base A fd n):qOk P w K mg base A fd n .pl .AW:=by
 refine B2 (g:=fnOf 2 2 (C3)) rfl (B1 rfl rfl (M.fn .AW) Jj (λcdv A' outer s H E hr=>?_));clear 5;clear 9 AI;clear 10 Nz Ll ?_ (AN _);exact (Ab 1);clear 6 BJ BT M.z_len B9;clear 2 ?_ Af;exact (Ab 0);clear 8;refine @AQ _ _ _ _ ?_;clear 3 Ak Al ?_ ?_;exact (Ab 0);exact (Ab 1);clear 8;exact (AQ Ah)
theorem sc_f_law_pool:FnScope (ns .AF) (ps .AF) (Ap (st .AF)):=by clear 0
theorem LU (M:Md K mg A fd)(ih:qIh P w K mg base A fd n):qOk P w K mg base A fd n .pl .AF:=by
 refine B2 (g:=fnOf 2 3 (CA (run n .AW))) rfl (B1 rfl rfl (M.fn .AF) sc_f_law_pool (λcdv A' outer s H E hr=>?_));clear 5;clear 4 2 sc_f_law_pool.nd (.inl rfl);clear 1 .AW (ih .AW);clear 2 ?_ ?_;exact (Ab 0);clear 2 ?_ Af;exact (Ab 1);clear 8;refine @AQ _ _ _ _ ?_;refine Fq ?_;refine CG ?_ ?_;exact (Ab 2);refine CG ?_ ?_;refine @FJ _ _ _ _ _ _ _ _ _ Nz Ll ?_ ?_ (AN _);exact (Ab 2);exact (AE Kn Iu Ah Ah);refine CG ?_ Fs;clear 7 A0 AO Ah ?_;clear 7 Fv EO Ah ?_;exact (Ab 1)
theorem sc_f_law_take:FnScope (ns .Ae) (ps .Ae) (Ap (st .Ae)):=by clear 0
theorem LV (M:Md K mg A fd)(ih:qIh P w K mg base A fd n):qOk P w K mg base A fd n .pl .Ae:=by
 refine B2 (g:=fnOf 2 3 (CB)) rfl (B1 rfl rfl (M.fn .Ae) sc_f_law_take (λcdv A' outer s H E hr=>?_));clear 5;clear 4 2 sc_f_law_take.nd (.inl rfl);clear 3 BO Bf ?_ AD;exact (Ab 0);clear 5;clear 9 AI;refine @CN _ _ _ _ ?_;refine @Cj _ _ _ ?_ (by intro _;rfl);clear 3 BO Bf ?_ AD;exact (Ab 0);clear 5;refine Dg ?_ ?_;clear 7 Nx LI ?_ ?_;exact (Ab 2);exact (Ab 1);refine CJ ?_ AD;exact (Ab 0);clear 8;refine @AQ _ _ _ _ ?_;clear 7 FT EN ?_ ?_;exact (Ab 2);exact (Ab 1);clear 5;refine Dg ?_ ?_;clear 7 A0 AO ?_ Ah;clear 3 BO Bf ?_ AD;exact (Ab 0);refine CJ ?_ AD;exact (Ab 0);clear 5;clear 4 2 sc_f_law_take.nd (.inl rfl);clear 7 A0 AO ?_ ?_;clear 7 FT EN ?_ Ah;exact (Ab 2);clear 7 K9 Jo Ah ?_;clear 3 BO Bf ?_ AD;exact (Ab 0);clear 5;clear 4 2 sc_f_law_take.nd (.inl rfl);clear 7 FT EN ?_ Ah;clear 7 K9 Jo ?_ ?_;exact (Ab 2);clear 7 A0 AO ?_ Ah;exact (Ab 2);clear 5;clear 4 2 sc_f_law_take.nd (.inl rfl);clear 7 FT EN ?_ Ah;clear 7 K9 Jo ?_ ?_;exact (Ab 2);exact (Ab 2);clear 5;refine Dg ?_ ?_;exact (Ab 2);refine CJ ?_ AD;exact (Ab 0);clear 8;refine @AQ _ _ _ _ ?_;clear 7 FT EN ?_ ?_;clear 7 Nx LI ?_ Ah;exact (Ab 2);exact (Ab 1)
theorem sc_f_law_shape:FnScope (ns .AA) (ps .AA) (Ap (st .AA)):=by clear 0
theorem K4 (M:Md K mg A fd)(ih:qIh P w K mg base A fd n):qOk P w K mg base A fd n .pl .AA:=by
 refine B2 (g:=fnOf 2 4 (Du (run n .Ae) (run n .AA))) rfl (B1 rfl rfl (M.fn .AA) sc_f_law_shape (λcdv A' outer s H E hr=>?_));clear 5;clear 4 2 sc_f_law_shape.nd (.inl rfl);clear 1 .Ae (ih .Ae);clear 2 ?_ ?_;exact (Ab 0);clear 2 ?_ Af;clear 7 A0 AO Ah ?_;clear 7 Fv EO Ah ?_;refine @Tq _ _ _ _ _ _ _ _ _ _ Qc Vf rfl M.z_int P9 ?_ (by decide) (by decide) (by rfl) (by rfl);clear 2 ?_ Af;refine @FJ _ _ _ _ _ _ _ _ _ FS EM ?_ Ah (AN _);exact (Ab 1);clear 5;clear 9 AI;clear 10 (BE hr.units) (Be (g:=id)) Ah (AN _);exact (Ab 2);clear 8;refine @AQ _ _ _ _ ?_;refine @BA _ _ _ _ _ ?_;clear 2 AD Af;clear 5;clear 9 AI;clear 10 (BE hr.units) (Be (g:=id)) Ah (AN _);exact (Ab 2);clear 5;clear 4 3 sc_f_law_shape.nd (.inl rfl);clear 3 Ak Al ?_ ?_;refine @Bh _ _ _ ?_;refine @Bw _ _ _ _ ?_;clear 2 Ah ?_;clear 2 ?_ ?_;clear 7 Ck B6 ?_ Ah;clear 1 .Ae (ih .Ae);clear 2 ?_ ?_;exact (Ab 0);clear 2 Ah Af;clear 2 ?_ Af;clear 7 Ck B6 ?_ ?_;clear 1 .Ae (ih .Ae);clear 2 ?_ ?_;exact (Ab 0);clear 2 ?_ Af;exact (AE Kn Iu Ah Ah);exact (AE Kn Iu Ah Ah);clear 1 .Ae (ih .Ae);clear 2 ?_ ?_;exact (Ab 0);clear 2 Ah Af;clear 8;refine @AQ _ _ _ _ ?_;refine @BA _ _ _ _ _ ?_;clear 2 AD ?_;clear 2 ?_ ?_;exact (Ab 3);clear 2 ?_ Af;clear 7 A0 AO ?_ ?_;exact (Ab 3);clear 3 Ak Al ?_ ?_;refine @Bh _ _ _ ?_;refine @Bw _ _ _ _ ?_;clear 2 Ah ?_;clear 2 Ah ?_;clear 2 Ah ?_;clear 2 Ah ?_;clear 2 Ah ?_;clear 2 Ah ?_;clear 2 ?_ Af;clear 1 .Ae (ih .Ae);clear 2 ?_ ?_;exact (Ab 0);clear 2 ?_ Af;exact (AE Kn Iu Ah Ah);clear 1 .Ae (ih .Ae);clear 2 ?_ ?_;exact (Ab 0);clear 2 Ah Af;clear 5;clear 9 AI;clear 10 (BE hr.units) (Be (g:=id)) Ah (AN _);exact (Ab 2);clear 8;refine @AQ _ _ _ _ ?_;refine @BA _ _ _ _ _ ?_;clear 2 AD ?_;clear 2 ?_ Af;clear 3 Ak Al ?_ ?_;refine @Bh _ _ _ ?_;refine @Bw _ _ _ _ ?_;clear 2 Ah ?_;clear 2 Ah ?_;clear 2 Ah ?_;clear 2 Ah Af;clear 1 .Ae (ih .Ae);clear 2 ?_ ?_;exact (Ab 0);clear 2 Ah Af;clear 5;clear 9 AI;clear 10 (BE hr.units) (Be (g:=id)) Ah (AN _);exact (Ab 2);clear 8;refine @AQ _ _ _ _ ?_;refine @BA _ _ _ _ _ ?_;clear 2 AD ?_;clear 2 ?_ ?_;clear 1 .AA (ih .AA);clear 2 ?_ ?_;exact (Ab 0);clear 2 ?_ Af;clear 7 Ck B6 ?_ Ah;exact (Ab 1);clear 2 ?_ Af;clear 3 Ak Al ?_ ?_;refine @Bh _ _ _ ?_;refine @Bw _ _ _ _ ?_;clear 2 Ah ?_;clear 2 Ah ?_;clear 2 Ah ?_;clear 2 Ah Af;clear 1 .Ae (ih .Ae);clear 2 ?_ ?_;exact (Ab 0);clear 2 Ah Af;clear 5;clear 9 AI;clear 10 (BE hr.units) (Be (g:=id)) Ah (AN _);exact (Ab 2);clear 8;refine @AQ _ _ _ _ ?_;refine @BA _ _ _ _ _ ?_;clear 2 AD ?_;clear 2 ?_ ?_;clear 1 .AA (ih .AA);clear 2 ?_ ?_;exact (Ab 0);clear 2 ?_ Af;clear 7 Ck B6 ?_ Ah;exact (Ab 1);clear 2 ?_ Af;clear 1 .AA (ih .AA);clear 2 ?_ ?_;exact (Ab 0);clear 2 ?_ Af;clear 7 Ck B6 ?_ Ah;exact (Ab 1);clear 8;refine @AQ _ _ _ _ ?_;refine @BA _ _ _ _ _ ?_;clear 2 AD ?_;clear 2 ?_ Af;refine @Tq _ _ _ _ _ _ _ _ _ _ LR Vj rfl M.z_tuple FC ?_ (by decide) (by decide) (by rfl) (by rfl);clear 2 ?_ Af;refine @Bh _ _ _ ?_;refine Fr (E3 ["k"] [(0 , "pool") ,(1 , "deep")] rfl rfl rfl rfl rfl) rfl ?_ ?_ ?_ ?_;refine Cc rfl M.z_range ?_;clear 2 ?_ Af;clear 7 A0 AO Ah ?_;clear 1 .Ae (ih .Ae);clear 2 ?_ ?_;exact (Ab 0);clear 2 Ah Af;intro _ _ _ _ _;exact (Bi (by show List.Nodup [("k" : Str) ,("pool" : Str) ,("deep" : Str)] ;decide +kernel) rfl (.inl rfl));intro _ _ _ _ _;exact ED;intro _ _ _ _ _;clear 1 .AA (ih .AA);clear 2 ?_ ?_;exact (Ab 1);clear 2 ?_ Af;clear 7 Ck B6 ?_ Ah;exact (Ab 2)
theorem sc_f_law_value:FnScope (ns .AB) (ps .AB) (Ap (st .AB)):=by clear 0
theorem K6 (M:Md K mg A fd)(ih:qIh P w K mg base A fd n):qOk P w K mg base A fd n .pl .AB:=by
 refine B2 (g:=fnOf 2 5 (Dv (run n .AB) (run n .Ae))) rfl (B1 rfl rfl (M.fn .AB) sc_f_law_value (λcdv A' outer s H E hr=>?_));clear 5;clear 4 2 sc_f_law_value.nd (.inl rfl);clear 3 Ak Al ?_ Ah;exact (Ab 1);clear 5;clear 9 AI;clear 10 (BE hr.units) (Be (g:=id)) AD (AN _);exact (Ab 2);clear 8;exact (AQ Dy);clear 5;clear 9 AI;clear 10 (BE hr.units) (Be (g:=id)) AD (AN _);exact (Ab 2);clear 8;refine @AQ _ _ _ _ ?_;clear 3 Ak Al ?_ ?_;refine @Bh _ _ _ ?_;refine @Bw _ _ _ _ ?_;clear 2 ?_ ?_;clear 3 Ak Al ?_ Ah;exact (Ab 1);clear 2 ?_ ?_;clear 3 Ak Al ?_ Ah;exact (Ab 1);clear 2 ?_ Af;clear 7 A0 AO ?_ ?_;clear 3 Ak Al ?_ Ah;exact (Ab 1);clear 1 .Ae (ih .Ae);clear 2 ?_ ?_;exact (Ab 0);clear 2 ?_ Af;clear 7 A0 AO ?_ Ah;clear 7 Ck B6 ?_ ?_;clear 3 Ak Al ?_ Ah;exact (Ab 1);clear 3 Ak Al ?_ Ah;exact (Ab 1);clear 1 .Ae (ih .Ae);clear 2 ?_ ?_;exact (Ab 0);clear 2 Ah Af;clear 5;clear 9 AI;clear 10 (BE hr.units) (Be (g:=id)) AD (AN _);exact (Ab 2);clear 5;exact (AM (i:=3) sc_f_law_value.nd rfl (.inr rfl) AD);clear 8;refine @AQ _ _ _ _ ?_;refine Ud AD ?_;clear 2 ?_ Af;refine @Bh _ _ _ ?_;refine Fr (E3 ["k"] [(3 , "signs") ,(0 , "pool")] rfl rfl rfl rfl rfl) rfl ?_ ?_ ?_ ?_;refine Cc rfl M.z_range ?_;clear 2 ?_ Af;clear 6 (F3 rfl) Ir M.z_min JB;clear 2 ?_ ?_;clear 3 Ak Al ?_ Ah;exact (Ab 1);clear 2 ?_ Af;clear 1 .Ae (ih .Ae);clear 2 ?_ ?_;exact (Ab 0);clear 2 Ah Af;intro _ _ _ _ _;exact (Bi (by show List.Nodup [("k" : Str) ,("signs" : Str) ,("pool" : Str)] ;decide +kernel) rfl (.inl rfl));intro _ _ _ _ _;exact ED;intro _ _ _ _ _;clear 3 Ak Al ?_ ?_;exact (Ab 1);clear 1 .Ae (ih .Ae);clear 2 ?_ ?_;exact (Ab 2);clear 2 Ah Af;clear 5;clear 9 AI;clear 10 (BE hr.units) (Be (g:=id)) AD (AN _);exact (Ab 2);clear 8;refine @AQ _ _ _ _ ?_;refine @Bh _ _ _ ?_;refine Fr (E3 ["k"] [(0 , "pool") ,(1 , "s")] rfl rfl rfl rfl rfl) rfl ?_ ?_ ?_ ?_;refine Cc rfl M.z_range ?_;clear 2 ?_ Af;clear 6 (F3 rfl) Ir M.z_min JB;clear 2 ?_ ?_;clear 3 Ak Al ?_ Ah;exact (Ab 1);clear 2 ?_ Af;clear 1 .Ae (ih .Ae);clear 2 ?_ ?_;exact (Ab 0);clear 2 Ah Af;intro _ _ _ _ _;exact (Bi (by show List.Nodup [("k" : Str) ,("pool" : Str) ,("s" : Str)] ;decide +kernel) rfl (.inl rfl));intro _ _ _ _ _;exact ED;intro _ _ _ _ _;clear 1 .AB (ih .AB);clear 2 ?_ ?_;exact (Ab 1);clear 2 ?_ Af;clear 3 Ak Al ?_ Ah;exact (Ab 2);clear 5;clear 9 AI;clear 10 (BE hr.units) (Be (g:=id)) AD (AN _);exact (Ab 2);clear 8;refine @AQ _ _ _ _ ?_;refine @BA _ _ _ _ _ ?_;clear 2 ?_ ?_;clear 1 .AB (ih .AB);clear 2 ?_ ?_;exact (Ab 0);clear 2 ?_ Af;clear 3 Ak Al ?_ Ah;exact (Ab 1);clear 2 ?_ Af;clear 1 .AB (ih .AB);clear 2 ?_ ?_;exact (Ab 0);clear 2 ?_ Af;clear 3 Ak Al ?_ Ah;exact (Ab 1);clear 5;clear 4 4 sc_f_law_value.nd (.inl rfl);clear 1 .Ae (ih .Ae);clear 2 ?_ ?_;exact (Ab 0);clear 2 ?_ Af;clear 6 BJ BT M.z_len B9;clear 2 ?_ Af;clear 3 Ak Al ?_ Ah;exact (Ab 1);clear 8;refine @AQ _ _ _ _ ?_;refine @BA _ _ _ _ _ ?_;clear 2 AD ?_;clear 2 ?_ ?_;exact (Ab 4);clear 2 ?_ Af;clear 1 .AB (ih .AB);clear 2 ?_ ?_;exact (Ab 0);clear 2 ?_ Af;clear 3 Ak Al ?_ ?_;clear 3 Ak Al ?_ Ah;exact (Ab 1);exact (Ab 4)
theorem sc_f_law_grammar:FnScope (ns .AX) (ps .AX) (Ap (st .AX)):=by clear 0
theorem Jc (M:Md K mg A fd)(ih:qIh P w K mg base A fd n):qOk P w K mg base A fd n .pl .AX:=by
 refine B2 (g:=fnOf 1 10 (C4 (run n .Ae) (run n .AA) (run n .AF))) rfl (B1 rfl rfl (M.fn .AX) sc_f_law_grammar (λcdv A' outer s H E hr=>?_));clear 5;clear 4 1 sc_f_law_grammar.nd (.inl rfl);clear 1 .AF (ih .AF);clear 2 ?_ ?_;exact (Ab 0);clear 2 Ah Af;clear 5;clear 4 2 sc_f_law_grammar.nd (.inl rfl);clear 3 Ak Al ?_ ?_;refine @Bh _ _ _ ?_;refine @Bw _ _ _ _ ?_;clear 2 ?_ ?_;clear 7 A0 AO Ah ?_;clear 1 .Ae (ih .Ae);clear 2 ?_ ?_;exact (Ab 1);clear 2 Ah Af;clear 2 ?_ ?_;clear 7 A0 AO Ah ?_;clear 1 .Ae (ih .Ae);clear 2 ?_ ?_;exact (Ab 1);clear 2 Ah Af;clear 2 Ah Af;clear 1 .Ae (ih .Ae);clear 2 ?_ ?_;exact (Ab 1);clear 2 Ah Af;clear 5;clear 12 3 sc_f_law_grammar.nd;exact (Bw Af);clear 5;clear 11 PassesOwn.never;refine Cc rfl M.z_range ?_;clear 2 ?_ Af;exact (Ab 2);exact (Bi sc_f_law_grammar.nd rfl (.inl rfl));clear 5;clear 4 1 sc_f_law_grammar.nd (.inl rfl);clear 1 .AF (ih .AF);clear 2 ?_ ?_;exact (Ab 0);clear 2 ?_ Af;clear 7 A0 AO Ah ?_;clear 7 FT EN ?_ Ah;exact (Ab 4);clear 5;refine Dg ?_ ?_;clear 7 A0 AO ?_ ?_;clear 7 K8 Jm ?_ ?_;clear 3 BO Bf ?_ AD;exact (Ab 1);clear 7 A0 AO Ah ?_;clear 7 K8 Jm ?_ Ah;exact (Ab 4);clear 7 Fv EO Ah ?_;exact (Ab 4);refine CJ ?_ AD;exact (Ab 1);clear 8;clear 9 ?_;refine @Fi _ _ _ ?_;refine @Qx _ _ _ _ _ _ _ ?_ ?_;clear 10 (BE hr.units) (Be (g:=id)) Ah (AN _);clear 1 .Ae (ih .Ae);clear 2 ?_ ?_;exact (Ab 1);clear 2 Ah Af;refine @OH _ _ _ _ ?_;clear 10 FS EM Ah (AN _);exact (Ab 4);clear 8;refine Dt 3 ?_;clear 2 ?_ Af;refine @BA _ _ _ _ _ ?_;clear 2 AD Af;clear 5;clear 4 5 sc_f_law_grammar.nd (.inl rfl);clear 3 Ak Al ?_ ?_;refine @Bh _ _ _ ?_;refine @Bw _ _ _ _ ?_;clear 2 AD ?_;clear 2 AD Af;clear 1 .Ae (ih .Ae);clear 2 ?_ ?_;exact (Ab 1);clear 2 Ah Af;clear 5;clear 12 6 sc_f_law_grammar.nd;exact (Bw Af);clear 5;clear 11 PassesOwn.never;refine Cc rfl M.z_range ?_;clear 2 ?_ Af;clear 3 Ak Al ?_ ?_;refine @Bh _ _ _ ?_;refine @Bw _ _ _ _ ?_;clear 2 Ah ?_;clear 2 Ah ?_;clear 2 Ah ?_;clear 2 Ah Af;clear 1 .Ae (ih .Ae);clear 2 ?_ ?_;exact (Ab 1);clear 2 Ah Af;exact (Bi sc_f_law_grammar.nd rfl (.inl rfl));clear 5;clear 4 8 sc_f_law_grammar.nd (.inl rfl);clear 7 A0 AO ?_ ?_;clear 3 Ak Al AD ?_;exact (Ab 7);clear 7 Fv EO ?_ ?_;clear 3 Ak Al AD ?_;clear 1 .Ae (ih .Ae);clear 2 ?_ ?_;exact (Ab 1);clear 2 Ah Af;clear 1 .Ae (ih .Ae);clear 2 ?_ ?_;exact (Ab 1);clear 2 Ah Af;clear 5;clear 4 9 sc_f_law_grammar.nd (.inl rfl);clear 3 Ak Al ?_ ?_;refine @Bh _ _ _ ?_;refine @Bw _ _ _ _ ?_;clear 2 ?_ ?_;clear 1 .Ae (ih .Ae);clear 2 ?_ ?_;exact (Ab 1);clear 2 ?_ Af;exact (Ab 2);clear 2 ?_ Af;clear 6 (F3 rfl) Ir M.z_min JB;clear 2 ?_ ?_;clear 7 Ck B6 ?_ Ah;exact (Ab 2);clear 2 ?_ Af;clear 7 A0 AO ?_ Ah;exact (Ab 4);clear 1 .Ae (ih .Ae);clear 2 ?_ ?_;exact (Ab 1);clear 2 Ah Af;clear 8;refine Dt 6 ?_;clear 2 ?_ Af;refine @BA _ _ _ _ _ ?_;clear 2 ?_ ?_;exact (Ab 8);clear 2 ?_ ?_;clear 1 .AA (ih .AA);clear 2 ?_ ?_;exact (Ab 1);clear 2 ?_ Af;clear 1 .Ae (ih .Ae);clear 2 ?_ ?_;exact (Ab 1);clear 2 Ah Af;clear 2 ?_ Af;exact (Ab 9);clear 8;refine Dt 3 ?_;clear 2 ?_ Af;refine @BA _ _ _ _ _ ?_;clear 2 ?_ ?_;exact (Ab 5);clear 2 ?_ Af;exact (Ab 6);clear 8;refine @AQ _ _ _ _ ?_;exact (Ab 3)
theorem sc_f_law_talk:FnScope (ns .Bm) (ps .Bm) (Ap (st .Bm)):=by clear 0
theorem LX (M:Md K mg A fd)(ih:qIh P w K mg base A fd n):qOk P w K mg base A fd n .pl .Bm:=by
 refine B2 (g:=fnOf 4 14 (DH (run n .AB) (run n .Ae) (run n .AF))) rfl (B1 rfl rfl (M.fn .Bm) sc_f_law_talk (λcdv A' outer s H E hr=>?_));clear 5;clear 12 4 sc_f_law_talk.nd;exact (Bw Af);clear 5;exact (AM (i:=5) sc_f_law_talk.nd rfl (.inl rfl) Ah);clear 5;clear 12 6 sc_f_law_talk.nd;refine @Bw _ _ _ _ ?_;clear 2 Ah Af;clear 5;clear 11 PassesOwn.never;refine JT rfl M.z_range ?_;clear 2 ?_ ?_;exact (Ab 2);clear 2 ?_ Af;clear 6 (F3 rfl) Ir M.z_min JB;clear 2 ?_ ?_;clear 6 BJ BT M.z_len B9;clear 2 ?_ Af;exact (Ab 0);clear 2 ?_ Af;exact (Ab 3);exact (Bi sc_f_law_talk.nd rfl (.inl rfl));clear 5;clear 4 8 sc_f_law_talk.nd (.inl rfl);clear 1 .AF (ih .AF);clear 2 ?_ ?_;exact (Ab 0);clear 2 ?_ Af;exact (Ab 7);clear 8;clear 9 AI;clear 10 (D4 hr.units) (Be (g:=λb=>!b)) ?_ (AN _);clear 3 Ak Al ?_ ?_;exact (Ab 1);exact (Ab 5);refine @BA _ _ _ _ _ ?_;clear 2 AD Af;clear 5;refine Dg ?_ ?_;clear 3 Ak Al ?_ ?_;exact (Ab 1);exact (Ab 5);refine Mn rfl ?_;refine C7 ?_ ?_;exact (Bi sc_f_law_talk.nd rfl (.inl rfl));refine C7 ?_ HX;exact (Bi sc_f_law_talk.nd rfl (.inl rfl));clear 5;refine Dg ?_ ?_;clear 3 Ak Al ?_ ?_;exact (Ab 10);clear 1 .Ae (ih .Ae);clear 2 ?_ ?_;exact (Ab 8);clear 2 ?_ Af;clear 6 BJ BT M.z_len B9;clear 2 ?_ Af;exact (Ab 10);refine Mn rfl ?_;refine C7 ?_ ?_;exact (Bi sc_f_law_talk.nd rfl (.inl rfl));refine C7 ?_ ?_;exact (Bi sc_f_law_talk.nd rfl (.inl rfl));refine C7 ?_ HX;exact (Bi sc_f_law_talk.nd rfl (.inl rfl));clear 5;refine Dt 4 ?_;clear 2 ?_ Af;refine @BA _ _ _ _ _ ?_;clear 2 ?_ ?_;exact (Ab 9);clear 2 ?_ ?_;exact (Ab 11);clear 2 ?_ Af;clear 1 .AB (ih .AB);clear 2 ?_ ?_;exact (Ab 8);clear 2 ?_ Af;exact (Ab 12);clear 5;clear 4 5 sc_f_law_talk.nd (.inl rfl);exact (Ab 13);clear 8;refine Dt 6 ?_;clear 2 ?_ Af;exact (Ab 5);clear 8;refine @AQ _ _ _ _ ?_;refine @Bh _ _ _ ?_;refine @Bw _ _ _ _ ?_;clear 2 ?_ ?_;exact (Ab 4);clear 2 ?_ Af;exact (Ab 6)
theorem sc_f_law_sizes:FnScope (ns .Bc) (ps .Bc) (Ap (st .Bc)):=by clear 0
theorem K5 (M:Md K mg A fd)(ih:qIh P w K mg base A fd n):qOk P w K mg base A fd n .pl .Bc:=by
 refine B2 (g:=fnOf 2 9 (D9 (run n .A6))) rfl (B1 rfl rfl (M.fn .Bc) sc_f_law_sizes (λcdv A' outer s H E hr=>?_));clear 5;clear 12 2 sc_f_law_sizes.nd;exact (Bw Af);clear 5;exact (AM (i:=3) sc_f_law_sizes.nd rfl (.inl rfl) Ah);clear 5;clear 11 PassesOwn.never;refine @E7 _ _ _ _ ?_;exact (Ab 1);refine Mn rfl ?_;refine C7 ?_ ?_;exact (Bi sc_f_law_sizes.nd rfl (.inl rfl));refine C7 ?_ ?_;exact (Bi sc_f_law_sizes.nd rfl (.inl rfl));refine C7 ?_ HX;exact (Bi sc_f_law_sizes.nd rfl (.inl rfl));clear 5;clear 4 7 sc_f_law_sizes.nd (.inl rfl);clear 3 Ak Al ?_ Ah;clear 3 Ak Al ?_ ?_;exact (Ab 0);exact (Ab 3);clear 5;clear 4 8 sc_f_law_sizes.nd (.inl rfl);refine M0 ?_ ?_;refine @Bh _ _ _ ?_;refine Fr (E3 ["word"] [] rfl rfl rfl rfl rfl) rfl ?_ ?_ ?_ ?_;refine @E7 _ _ _ _ ?_;exact (Ab 7);intro _ _ _ _ _;exact (Bi (by show List.Nodup [("word" : Str)] ;decide +kernel) rfl (.inl rfl));intro _ _ _ _ _;exact ED;intro _ _ _ _ _;clear 3 Ak Al ?_ Ah;exact (Ab 0);clear 2 ?_ Af;exact (Ab 5);clear 5;refine Dt 2 ?_;clear 2 ?_ Af;clear 7 A0 AO ?_ ?_;refine @Bh _ _ _ ?_;refine @Bw _ _ _ _ ?_;clear 2 ?_ Af;exact (Ab 8);clear 1 .A6 (Mj (ih .A6));clear 2 ?_ ?_;clear 3 Ak Al ?_ Ah;clear 3 Ak Al ?_ ?_;exact (Ab 7);exact (Ab 8);clear 2 ?_ Af;exact (Ab 6);clear 8;clear 4 3 sc_f_law_sizes.nd (.inl rfl);clear 3 Ak Al ?_ Ah;clear 3 Ak Al ?_ ?_;exact (Ab 7);exact (Ab 8);clear 8;refine @AQ _ _ _ _ ?_;exact (Ab 2)
theorem sc_f_law_due:FnScope (ns .Bx) (ps .Bx) (Ap (st .Bx)):=by clear 0
theorem Nw (M:Md K mg A fd)(ih:qIh P w K mg base A fd n):qOk P w K mg base A fd n .pl .Bx:=by
 refine B2 (g:=fnOf 4 7 (DS)) rfl (B1 rfl rfl (M.fn .Bx) sc_f_law_due (λcdv A' outer s H E hr=>?_));clear 5;clear 4 4 sc_f_law_due.nd (.inl rfl);refine Fq ?_;refine CG Ah ?_;exact (CG Ah Fs);clear 5;exact (AM (i:=5) sc_f_law_due.nd rfl (.inl rfl) Ah);clear 5;refine Na PassesOwn.never ?_ ?_;clear 10 Nz Ll ?_ (AN _);exact (Ab 5);clear 6 BJ BT M.z_len B9;clear 2 ?_ Af;exact (Ab 0);clear 5;clear 4 6 sc_f_law_due.nd (.inl rfl);clear 3 Ak Al ?_ Ah;clear 3 Ak Al ?_ ?_;exact (Ab 0);exact (Ab 5);clear 5;clear 9 AI;clear 10 FS EM ?_ (AN _);clear 7 A0 AO ?_ ?_;clear 3 BO Bf ?_ ?_;exact (Ab 4);exact (Ab 6);clear 6 BJ BT M.z_len B9;clear 2 ?_ Af;clear 3 Ak Al ?_ ?_;exact (Ab 2);exact (Ab 5);clear 3 BO Bf ?_ ?_;exact (Ab 3);exact (Ab 6);exact (An M9);clear 5;refine Dg ?_ ?_;clear 7 A0 AO ?_ ?_;clear 3 BO Bf ?_ ?_;exact (Ab 4);exact (Ab 6);clear 6 BJ BT M.z_len B9;clear 2 ?_ Af;clear 3 Ak Al ?_ ?_;exact (Ab 2);exact (Ab 5);refine CJ ?_ ?_;exact (Ab 4);exact (Ab 6);clear 8;clear 4 5 sc_f_law_due.nd (.inl rfl);clear 7 A0 AO ?_ Ah;exact (Ab 5);clear 8;refine @AQ _ _ _ _ ?_;refine @BA _ _ _ _ _ ?_;clear 2 ?_ ?_;refine @Ef _ _ _ _ _ _ _ _ _ _ _ sl3 Fz ?_ EE ?_;exact (Ab 0);refine EF ?_;exact (Ab 5);clear 2 ?_ ?_;clear 3 Ak Al ?_ ?_;exact (Ab 1);exact (Ab 5);clear 2 ?_ Af;refine @BA _ _ _ _ _ ?_;clear 2 ?_ ?_;clear 3 BO Bf ?_ AD;exact (Ab 4);clear 2 ?_ Af;clear 3 BO Bf ?_ AD;exact (Ab 4)
theorem Lj:FnScope (ns .AS) (ps .AS) (Ap (st .AS)):=by clear 0
theorem K3 (M:Md K mg A fd)(ih:qIh P w K mg base A fd n):qOk P w K mg base A fd n .pl .AS:=by
 refine B2 (g:=fnOf 1 1 (D8 (run n .AS))) rfl (B1 rfl rfl (M.fn .AS) Lj (λcdv A' outer s H E hr=>?_));clear 5;clear 9 AI;refine @Cj _ _ _ ?_ (by intro _;rfl);clear 6 Qd SR M.z_isinstance BK;clear 2 ?_ ?_;exact (Ab 0);clear 2 ?_ Af;refine @BA _ _ _ _ _ ?_;clear 2 ?_ ?_;exact (DR rfl M.z_list Fo);clear 2 ?_ Af;exact (DR rfl M.z_tuple FC);clear 8;refine @AQ _ _ _ _ ?_;refine @FJ _ _ _ _ _ _ _ _ _ (BE hr.units) (Fw (g:=id)) ?_ ?_ (AN _);refine @Bh _ _ _ ?_;refine R4 (E3 ["one"] [] rfl rfl rfl rfl rfl) rfl ?_ ?_ ?_ ?_;refine OF ?_;exact (Ab 0);intro _ _ _ _ _;exact (Bi (by show List.Nodup [("one" : Str)] ;decide +kernel) rfl (.inl rfl));intro _ _ _ _ _;refine Ue ?_;refine @CN _ _ _ _ ?_;refine @Cj _ _ _ ?_ (by intro _;rfl);clear 1 .AS (ih .AS);clear 2 ?_ Af;exact (Ab 0);intro _ _ _ _ _;exact (Ab 0);refine @Bh _ _ _ ?_;exact (Bw Af);clear 8;refine @AQ _ _ _ _ ?_;refine @Qo _ _ _ _ ?_;clear 6 CL Jn M.z_isinstance BK;clear 2 ?_ ?_;exact (Ab 0);clear 2 ?_ Af;exact (DR rfl M.z_bool Oy)
theorem sc_f_law_own_lists:FnScope (ns .AL) (ps .AL) (Ap (st .AL)):=by clear 0
theorem Hy (M:Md K mg A fd)(ih:qIh P w K mg base A fd n):qOk P w K mg base A fd n .pl .AL:=by
 refine B2 (g:=fnOf 2 4 (C9)) rfl (B1 rfl rfl (M.fn .AL) sc_f_law_own_lists (λcdv A' outer s H E hr=>?_));clear 5;clear 11 PassesOwn.never;refine Cc rfl M.z_range ?_;clear 2 ?_ Af;clear 6 BJ BT M.z_len B9;clear 2 ?_ Af;exact (Ab 0);exact (Bi sc_f_law_own_lists.nd rfl (.inl rfl));clear 8;clear 9 AI;refine @Cj _ _ _ ?_ (by intro _;rfl);clear 6 CL Jn M.z_isinstance BK;clear 2 ?_ ?_;clear 3 Ak Al ?_ Ah;clear 3 Ak Al ?_ ?_;exact (Ab 0);exact (Ab 2);clear 2 ?_ Af;exact (DR rfl M.z_list Fo);clear 5;refine Ft ?_;refine E5 ?_ ?_;clear 3 Ak Al ?_ Ah;clear 3 Ak Al ?_ ?_;exact (Ab 0);exact (Ab 2);clear 2 Dy Af;clear 5;clear 4 3 sc_f_law_own_lists.nd (.inl rfl);clear 7 A0 AO ?_ ?_;refine @Ef _ _ _ _ _ _ _ _ _ _ _ sl3 NQ ?_ EE ?_;exact (Ab 0);refine EF ?_;exact (Ab 2);refine @Ef _ _ _ _ _ _ _ _ _ _ _ sl3 NQ ?_ ?_ EE;exact (Ab 0);refine EF ?_;clear 7 A0 AO ?_ Ah;exact (Ab 2);clear 5;clear 9 AI;clear 10 (D4 hr.units) (Fw (g:=λb=>!b)) ?_ (AN _);exact (Ab 3);clear 7 A0 AO ?_ ?_;refine @Ef _ _ _ _ _ _ _ _ _ _ _ sl3 Fz ?_ EE ?_;exact (Ab 1);refine EF ?_;exact (Ab 2);refine @Ef _ _ _ _ _ _ _ _ _ _ _ sl3 Fz ?_ ?_ EE;exact (Ab 1);refine EF ?_;clear 7 A0 AO ?_ Ah;exact (Ab 2);clear 8;exact (AQ Ds);clear 8;refine Ft ?_;refine Qq ?_;clear 3 Ak Al ?_ Ah;clear 3 Ak Al ?_ ?_;exact (Ab 0);exact (Ab 2);clear 8;refine @AQ _ _ _ _ ?_;refine @FJ _ _ _ _ _ _ _ _ _ (BE hr.units) (Fw (g:=id)) ?_ ?_ (AN _);exact (Ab 0);exact (Ab 1)
theorem sc_law_:FnScope (ns .law_) (ps .law_) (Ap (st .law_)):=by clear 0
theorem UI (M:Md K mg A fd)(ih:qIh P w K mg base A fd n):qOk P w K mg base A fd n .pl .law_:=by
 refine B2 (g:=fnOf 1 20 (F8 (run n .Bd) (run n .AS) (run n .AL) (run n .Ae) (run n .Bx) (run n .AF) (run n .Bc) (run n .Bm) (run n .AX))) rfl (B1 rfl rfl (M.fn .law_) sc_law_ (λcdv A' outer s H E hr=>?_));clear 5;clear 4 1 sc_law_.nd (.inl rfl);clear 1 .AX (ih .AX);clear 2 ?_ Af;exact (Ab 0);clear 5;refine Dg ?_ ?_;clear 1 .Bm (ih .Bm);clear 2 ?_ ?_;exact (Ab 0);clear 2 ?_ ?_;exact (Ab 1);clear 2 Ah ?_;clear 2 Ah Af;refine Mn rfl ?_;refine C7 ?_ ?_;exact (Bi sc_law_.nd rfl (.inl rfl));refine C7 ?_ HX;exact (Bi sc_law_.nd rfl (.inl rfl));clear 5;clear 4 4 sc_law_.nd (.inl rfl);clear 1 .Bc (ih .Bc);clear 2 ?_ ?_;exact (Ab 1);clear 2 ?_ Af;exact (Ab 2);clear 5;clear 4 5 sc_law_.nd (.inl rfl);refine Fq ?_;refine CG ?_ ?_;refine @Bh _ _ _ ?_;exact (Bw Af);refine CG ?_ Fs;refine @Bh _ _ _ ?_;exact (Bw Af);clear 5;clear 11 PassesOwn.never;refine Cc rfl M.z_range ?_;clear 2 ?_ Af;clear 6 BJ BT M.z_len B9;clear 2 ?_ Af;exact (Ab 2);exact (Bi sc_law_.nd rfl (.inl rfl));clear 8;refine Dg ?_ ?_;clear 7 A0 AO ?_ ?_;clear 3 BO Bf ?_ ?_;exact (Ab 5);clear 3 Ak Al ?_ Ah;clear 3 Ak Al ?_ ?_;exact (Ab 2);exact (Ab 6);clear 3 Ak Al ?_ ?_;exact (Ab 4);exact (Ab 6);refine CJ ?_ ?_;exact (Ab 5);clear 3 Ak Al ?_ Ah;clear 3 Ak Al ?_ ?_;exact (Ab 2);exact (Ab 6);clear 5;clear 4 7 sc_law_.nd (.inr rfl);clear 1 .AF (ih .AF);clear 2 ?_ ?_;exact (Ab 0);clear 2 Ah Af;clear 5;clear 11 PassesOwn.never;refine Cc rfl M.z_range ?_;clear 2 Ah Af;exact (Bi sc_law_.nd rfl (.inl rfl));clear 5;exact (AM (i:=9) sc_law_.nd rfl (.inl rfl) Qn);clear 5;clear 11 PassesOwn.never;refine @E7 _ _ _ _ ?_;refine @Bh _ _ _ ?_;refine @Bw _ _ _ _ ?_;clear 2 AD ?_;clear 2 AD Af;exact (Bi sc_law_.nd rfl (.inl rfl));clear 5;clear 4 11 sc_law_.nd (.inl rfl);clear 6 BJ BT M.z_len B9;clear 2 ?_ Af;clear 3 BO Bf ?_ ?_;exact (Ab 5);exact (Ab 10);clear 5;clear 12 12 sc_law_.nd;refine @Bw _ _ _ _ ?_;clear 2 ?_ ?_;exact (Ab 11);clear 2 ?_ Af;clear 1 .Ae (ih .Ae);clear 2 ?_ ?_;exact (Ab 7);clear 2 ?_ Af;clear 7 A0 AO ?_ Ah;exact (Ab 11);clear 5;refine Dt 12 ?_;clear 2 ?_ Af;clear 6 (Qe rfl) Vg M.z_max VT;clear 2 Ah ?_;clear 2 ?_ Af;clear 7 Ck B6 ?_ ?_;exact (Ab 11);clear 1 .Ae (ih .Ae);clear 2 ?_ ?_;exact (Ab 7);clear 2 Ah Af;clear 8;refine Dg ?_ ?_;clear 3 Ak Al ?_ ?_;exact (Ab 12);clear 1 .Ae (ih .Ae);clear 2 ?_ ?_;exact (Ab 7);clear 2 Ah Af;refine CJ ?_ ?_;exact (Ab 9);exact (Ab 10);clear 5;clear 4 13 sc_law_.nd (.inl rfl);clear 1 .Bx (ih .Bx);clear 2 ?_ ?_;exact (Ab 2);clear 2 ?_ ?_;exact (Ab 3);clear 2 ?_ ?_;exact (Ab 4);clear 2 ?_ Af;exact (Ab 9);clear 5;clear 4 14 sc_law_.nd (.inl rfl);refine Fq ?_;refine CG ?_ Fs;refine @Ef _ _ _ _ _ _ _ _ _ _ _ sl3 Fz ?_ EE ?_;clear 3 BO Bf ?_ AD;exact (Ab 5);refine EF ?_;clear 3 BO Bf ?_ AD;exact (Ab 9);clear 5;refine Dg ?_ ?_;refine @Ef _ _ _ _ _ _ _ _ _ _ _ sl3 Fz ?_ EE ?_;clear 3 BO Bf ?_ AD;exact (Ab 5);refine EF ?_;clear 3 BO Bf ?_ AD;exact (Ab 9);refine CJ ?_ AD;exact (Ab 14);clear 5;clear 11 PassesOwn.never;refine @E7 _ _ _ _ ?_;refine @Bh _ _ _ ?_;refine @Bw _ _ _ _ ?_;clear 2 AD ?_;clear 2 AD Af;exact (Bi sc_law_.nd rfl (.inl rfl));clear 5;clear 4 15 sc_law_.nd (.inl rfl);clear 3 Ak Al ?_ ?_;clear 3 Ak Al ?_ Ah;exact (Ab 13);refine M0 ?_ ?_;refine @Bh _ _ _ ?_;refine @Bw _ _ _ _ ?_;clear 2 AD ?_;clear 2 AD Af;clear 2 ?_ Af;exact (Ab 10);clear 8;clear 9 AI;refine @Fi _ _ _ ?_;refine @Qx _ _ _ _ _ _ _ ?_ ?_;clear 10 (D4 hr.units) (Be (g:=λb=>!b)) ?_ (AN _);clear 3 Ak Al ?_ Ah;clear 3 Ak Al ?_ ?_;exact (Ab 1);clear 3 Ak Al ?_ Ah;exact (Ab 13);exact (Ab 10);refine @OH _ _ _ _ ?_;clear 10 (BE hr.units) (Be (g:=id)) ?_ (AN _);clear 3 BO Bf ?_ ?_;exact (Ab 9);exact (Ab 10);exact (Ab 15);clear 5;refine Uj (i:=16) (E3 ["k"] [(7 , "pool")] rfl rfl rfl rfl rfl) rfl sc_law_.nd rfl rfl ?_ ?_ ?_ ?_;refine Cc rfl M.z_range ?_;clear 2 ?_ Af;clear 1 .Ae (ih .Ae);clear 2 ?_ ?_;exact (Ab 7);clear 2 Ah Af;intro _ _ _ _ _;exact (Bi (by show List.Nodup [("k" : Str) ,("pool" : Str)] ;decide +kernel) rfl (.inl rfl));intro _ _ _ _ _;exact ED;intro _ _ _ _ _;clear 1 .Ae (ih .Ae);clear 2 ?_ ?_;exact (Ab 1);clear 2 Ah Af;clear 8;refine Dg ?_ ?_;clear 7 A0 AO ?_ ?_;clear 3 BO Bf ?_ ?_;exact (Ab 14);exact (Ab 10);exact (Ab 16);refine CJ ?_ ?_;exact (Ab 14);exact (Ab 10);clear 5;clear 4 17 sc_law_.nd (.inl rfl);refine @Bh _ _ _ ?_;refine @Bw _ _ _ _ ?_;clear 2 ?_ ?_;refine @Bh _ _ _ ?_;refine @Tr _ _ _ _ _ _ _ _ _ _ Hm OV rfl M.z_list Fo ?_ (by decide) (by decide) (by rfl) (by rfl);clear 2 ?_ Af;clear 3 BO Bf ?_ AD;exact (Ab 14);clear 2 ?_ Af;refine @Bh _ _ _ ?_;refine @Tr _ _ _ _ _ _ _ _ _ _ Hm OV rfl M.z_list Fo ?_ (by decide) (by decide) (by rfl) (by rfl);clear 2 ?_ Af;clear 3 BO Bf ?_ AD;exact (Ab 14);clear 5;clear 4 18 sc_law_.nd (.inl rfl);clear 1 .Bd (Mj (ih .Bd));clear 2 ?_ ?_;exact (Ab 1);clear 2 ?_ ?_;clear 3 Ak Al ?_ Ah;exact (Ab 17);clear 2 ?_ Af;clear 3 Ak Al ?_ Ah;exact (Ab 17);clear 5;clear 9 AI;refine @Fi _ _ _ ?_;refine @GT _ _ _ _ _ _ _ ?_ ?_;refine @CN _ _ _ _ ?_;refine @Cj _ _ _ ?_ (by intro _;rfl);clear 6 CL DV M.z_isinstance BK;clear 2 ?_ ?_;exact (Ab 18);clear 2 ?_ Af;exact (DR rfl M.z_tuple FC);refine @FM _ _ _ _ ?_;clear 10 (D4 hr.units) (Fw (g:=λb=>!b)) ?_ (AN _);exact (Ab 18);exact (Ab 13);clear 8;exact (AQ Ds);clear 5;clear 9 AI;clear 10 (D4 hr.units) (Be (g:=λb=>!b)) ?_ (AN _);exact (Ab 17);refine @Bh _ _ _ ?_;refine @Bw _ _ _ _ ?_;clear 2 ?_ ?_;clear 3 BO Bf ?_ AD;exact (Ab 14);clear 2 ?_ Af;clear 3 BO Bf ?_ AD;exact (Ab 14);clear 8;exact (AQ Ds);clear 5;clear 9 AI;refine @Fi _ _ _ ?_;refine @GT _ _ _ _ _ _ _ ?_ ?_;refine @CN _ _ _ _ ?_;refine @Cj _ _ _ ?_ (by intro _;rfl);clear 1 .AS (ih .AS);clear 2 ?_ Af;exact (Ab 18);refine @FM _ _ _ _ ?_;refine @CN _ _ _ _ ?_;refine @Cj _ _ _ ?_ (by intro _;rfl);clear 1 .AL (ih .AL);clear 2 ?_ ?_;clear 3 Ak Al ?_ Ah;exact (Ab 18);clear 2 ?_ Af;clear 3 Ak Al ?_ Ah;exact (Ab 13);clear 8;exact (AQ Ds);clear 5;refine Ui PassesOwn.never rfl ?_ ?_ ?_;refine OF ?_;clear 3 Ak Al ?_ Ah;exact (Ab 18);exact (Bi sc_law_.nd rfl (.inl rfl));clear 8;clear 9 AI;refine @Cj _ _ _ ?_ (by intro _;rfl);clear 6 CL Jn M.z_isinstance BK;clear 2 ?_ ?_;clear 3 Ak Al ?_ Ah;exact (Ab 19);clear 2 ?_ Af;exact (DR rfl M.z_list Fo);clear 8;refine Ft ?_;refine E5 ?_ ?_;clear 3 Ak Al ?_ Ah;exact (Ab 19);clear 2 Dy Af;clear 5;refine Ft ?_;refine E5 ?_ ?_;clear 3 Ak Al ?_ Ah;exact (Ab 18);clear 2 ?_ Af;refine @BA _ _ _ _ _ ?_;clear 2 AD ?_;clear 2 AD ?_;clear 2 Dy Af;clear 8;clear 9 AI;clear 10 (D4 hr.units) (Fw (g:=λb=>!b)) ?_ (AN _);clear 1 .Bd (Mj (ih .Bd));clear 2 ?_ ?_;exact (Ab 1);clear 2 ?_ ?_;clear 3 Ak Al ?_ Ah;exact (Ab 17);clear 2 ?_ Af;clear 3 Ak Al ?_ Ah;exact (Ab 17);exact (Ab 13);clear 8;exact (AQ Ds);clear 8;refine @AQ _ _ _ _ ?_;refine @FJ _ _ _ _ _ _ _ _ _ (BE hr.units) (Fw (g:=id)) ?_ ?_ (AN _);clear 1 .Bd (Mj (ih .Bd));clear 2 ?_ ?_;exact (Ab 1);clear 2 ?_ ?_;refine @Bh _ _ _ ?_;exact (Bw Af);clear 2 ?_ Af;refine @Bh _ _ _ ?_;exact (Bw Af);refine @BA _ _ _ _ _ ?_;clear 2 ?_ ?_;refine @Bh _ _ _ ?_;exact (Bw Af);clear 2 Ah ?_;clear 2 ?_ Af;refine @BA _ _ _ _ _ ?_;clear 2 Ah ?_;clear 2 Ah Af
theorem all_ok (M:Md K mg A fd):∀(n:Nat) (x:Fx),okK (kd x) P w K mg base (n + 2) (A x) (fd x) (ps x) (run n x)
 | 0,x=>Sk
 | n + 1,x=>by
   have ih:=all_ok M n
   cases x with
   | Bo=>exact L4 M ih
   | Az=>exact G4 M ih
   | Bp=>exact Sm M ih
   | Bn=>exact L3 M ih
   | Bk=>exact Oc M ih
   | Bq=>exact LY M ih
   | Br=>exact LZ M ih
   | A7=>exact Kh M ih
   | A6=>exact Kk M ih
   | Av=>exact IF M ih
   | AK=>exact Kl M ih
   | AY=>exact Jd M ih
   | Bl=>exact Od M ih
   | Ay=>exact K7 M ih
   | A3=>exact Oa M ih
   | AH=>exact K2 M ih
   | A9=>exact Kj M ih
   | Bu=>exact L7 M ih
   | BG=>exact Of M ih
   | Bs=>exact L5 M ih
   | Bt=>exact L6 M ih
   | A8=>exact Ki M ih
   | Bd=>exact Og M ih
   | BF=>exact Oe M ih
   | AZ=>exact Je M ih
   | AW=>exact Jb M ih
   | AF=>exact LU M ih
   | Ae=>exact LV M ih
   | AA=>exact K4 M ih
   | AB=>exact K6 M ih
   | AX=>exact Jc M ih
   | Bm=>exact LX M ih
   | Bc=>exact K5 M ih
   | Bx=>exact Nw M ih
   | AS=>exact K3 M ih
   | AL=>exact Hy M ih
   | law_=>exact UI M ih
end
abbrev fno (x:Fx)(kV dc pm:Value)(an:Option Addr)(cd ct:Value):FuncData:=PySem.W.fnOf (nm x) (nm x) (Ek (st x)) (B5 (st x)) (Ap (st x)) .none kV dc pm an cd ct
structure At (K:PySem.W.Frag)(x:Fx)(f:Addr)(fd:FuncData):Prop where
 a:PySem.W.nsIn K mainGlobals (nm x)=some (some (.ref f))
 fn:Fun K (nm x) (nm x) (st x) f fd
 bd:Binds K fd (ps x) []
 eq:∃kV dc pm an cd ct,fd=fno x kV dc pm an cd ct
theorem at_mk {K:PySem.W.Frag}{x:Fx}{f:Addr}{od an:Option Addr}{sl:Array (Option Value)}{oc kV dc pm cd ct:Value}(a:PySem.W.nsIn K mainGlobals (nm x)=some (some (.ref f)))(l:K.lookup f=some ⟨oc,od,.func (fno x kV dc pm an cd ct),sl⟩)(c:PySem.W.codeIn K cd (nm x)=true)(k:PySem.W.keepIn K (.ref f)=true):∃p:Addr×FuncData,At K x p.1 p.2:=by
 refine ⟨(f,fno x kV dc pm an cd ct),a,JW (st:=st x) l c k,(JW (st:=st x) l c k).binds (ps:=ps x) λ_ _ _ _ _ _ us hl=>?_,_,_,_,_,_,_,rfl⟩
 cases x <;> first | (obtain ⟨_,rfl⟩:=us1 hl;rfl) | (obtain ⟨_,_,rfl⟩:=us2 hl;rfl) | (obtain ⟨_,_,_,rfl⟩:=us3 hl;rfl) | (obtain ⟨_,_,_,_,rfl⟩:=us4 hl;rfl) | (obtain ⟨_,_,_,_,_,rfl⟩:=us5 hl;rfl) | (obtain ⟨_,_,_,_,_,_,rfl⟩:=us6 hl;rfl) | (obtain ⟨_,_,_,_,_,_,_,rfl⟩:=us7 hl;rfl)
theorem xm_all {K:PySem.W.Frag}{h:Heap}{mg:Str->Option Value}{P c1 c2 c3:Addr}{f2:Addr}{od2 an2:Option Addr}{sl2:Array (Option Value)}{oc2 kV2 dc2 pm2 cd2 ct2:Value}(X:K.In h)(G:h.Ns mainGlobals mg)(p:PySem.W.nsIn K mainGlobals "ParleyError" = some (some (.ref P)))(a1:PySem.W.nsIn K mainGlobals "NoValue" = some (some (.ref c1)))(a2:PySem.W.nsIn K mainGlobals "Short" = some (some (.ref c2)))(a3:PySem.W.nsIn K mainGlobals "Broken" = some (some (.ref c3)))(q:PZ K P [c1,c2,c3]=true)(nd:[P,c1,c2,c3].Nodup)(fi2:PySem.W.findIn K (.ref c3) "__init__" = some (some (.ref f2)))(l2:K.lookup f2=some ⟨oc2,od2,.func (PySem.W.fnOf "__init__" "Broken.__init__" (Ek (E2 (top 4) 0)) (B5 (E2 (top 4) 0)) (Ap (E2 (top 4) 0)) .none kV2 dc2 pm2 an2 cd2 ct2),sl2⟩)(ii2:Nb K c3 f2=true)(hf2:PySem.W.isFn K (.ref f2)=true)(hs2:PySem.W.findIn K (.ref c3) "__setattr__" = some (some (.builtin "object.__setattr__")))(cc2:PySem.W.codeIn K cd2 "Broken.__init__" = true)(k2:PySem.W.keepIn K (.ref f2)=true)(n1:Kf K c1=true)(n2:Kf K c2=true):∃(P:Addr) (ca:Str->Addr),XM K mg P ca/\XF2 K (ca "Broken") P "Broken.__init__" (E2 (top 4) 0)/\∀n∈(["NoValue", "Short"]:List Str),XN0 K (ca n):=by
 have x:=YJ X G p a1 a2 a3 q nd;refine ⟨P,_,x,Xz (C:=c3) (st:=(E2 (top 4) 0)) ⟨x.cl "Broken" (by decide),x.kp "Broken" (by decide),x.gt "Broken" (by decide),x.gc "Broken" (by decide),x.na "Broken" (by decide),x.nd "Broken" (by decide)⟩ ii2 hf2 hs2 l2 cc2 k2 (λ_ _ _ _ _ _ us hl=>by match us,hl with | [_,_,_],_=>rfl),?_⟩;intro n hn;simp only [ul4,ui4,or_false] at hn;rcases hn with rfl | rfl
 ·exact RB n1
 ·exact RB n2
theorem fin_mk {K:PySem.W.Frag}{h:Heap}{mg:Str->Option Value}{fa:Addr}(X:K.In h)(G:h.Ns mainGlobals mg)(hmg:mg "law" = some (.ref fa))(H:∀x:Fx,∃p:Addr×FuncData,At K x p.1 p.2)(z_bool:PySem.W.nsIn K mainGlobals "bool" = some none)(z_dict:PySem.W.nsIn K mainGlobals "dict" = some none)(z_int:PySem.W.nsIn K mainGlobals "int" = some none)(z_isinstance:PySem.W.nsIn K mainGlobals "isinstance" = some none)(z_len:PySem.W.nsIn K mainGlobals "len" = some none)(z_list:PySem.W.nsIn K mainGlobals "list" = some none)(z_max:PySem.W.nsIn K mainGlobals "max" = some none)(z_min:PySem.W.nsIn K mainGlobals "min" = some none)(z_ord:PySem.W.nsIn K mainGlobals "ord" = some none)(z_range:PySem.W.nsIn K mainGlobals "range" = some none)(z_str:PySem.W.nsIn K mainGlobals "str" = some none)(z_tuple:PySem.W.nsIn K mainGlobals "tuple" = some none){tk_FIRST_SIGN:Tok}(g_FIRST_SIGN:PySem.W.nsIn K mainGlobals "FIRST_SIGN" = some (some (.int 32 tk_FIRST_SIGN))){tk_LAST_SIGN:Tok}(g_LAST_SIGN:PySem.W.nsIn K mainGlobals "LAST_SIGN" = some (some (.int 126 tk_LAST_SIGN))){tk_PERCENT_SIGN:Tok}(g_PERCENT_SIGN:PySem.W.nsIn K mainGlobals "PERCENT_SIGN" = some (some (.int 37 tk_PERCENT_SIGN))){tk_SIGNS:Tok}(g_SIGNS:PySem.W.nsIn K mainGlobals "SIGNS" = some (some (.str " !\"#$ &'()*+,-./0123456789:;<=>?@ABCDEFGHIJKLMNOPQRSTUVWXYZ[\\]^_`abcdefghijklmnopqrstuvwxyz{|}~" tk_SIGNS)))(xm:∃(P:Addr) (ca:Str->Addr),XM K mg P ca/\XF2 K (ca "Broken") P "Broken.__init__" (E2 (top 4) 0)/\∀n∈(["NoValue", "Short"]:List Str),XN0 K (ca n)):∃(A:Fx->Addr) (fd:Fx->FuncData),Md K mg A fd/\A .law_=fa/\∀(s:Shared) (u:Value),BindsTo s (fd .law_) ⟨[u],[]⟩ [("script",u)]:=by
 obtain ⟨F,hF⟩:=Classical.axiomOfChoice H;refine ⟨λx=>(F x).1,λx=>(F x).2,{ fn:=λx=>(hF x).fn,mgs:=λx=>um1 X G (hF x).a,bd:=λx=>(hF x).bd,xm:=xm,z_bool:=ug2 X G z_bool,z_dict:=ug2 X G z_dict,z_int:=ug2 X G z_int,z_isinstance:=ug2 X G z_isinstance,z_len:=ug2 X G z_len,z_list:=ug2 X G z_list,z_max:=ug2 X G z_max,z_min:=ug2 X G z_min,z_ord:=ug2 X G z_ord,z_range:=ug2 X G z_range,z_str:=ug2 X G z_str,z_tuple:=ug2 X G z_tuple,g_FIRST_SIGN:=⟨tk_FIRST_SIGN,um1 X G g_FIRST_SIGN⟩,g_LAST_SIGN:=⟨tk_LAST_SIGN,um1 X G g_LAST_SIGN⟩,g_PERCENT_SIGN:=⟨tk_PERCENT_SIGN,um1 X G g_PERCENT_SIGN⟩,g_SIGNS:=⟨tk_SIGNS,um1 X G g_SIGNS⟩ },?_,λs u=>?_⟩
 ·have e:=hmg.symm.trans (um1 X G (hF .law_).a)
  cases e
  rfl
 ·obtain ⟨_,_,_,_,_,_,e⟩:=(hF .law_).eq;show BindsTo s (F .law_).2 _ _;rw [e];exact .of_eq rfl
theorem walk {l:PySem.W.OpenLaw}{q:Program}{loose:List Str}{XP:(Str->Option Value)->Heap->Prop}{YP:World->Heap->Prop}{d:DefRec}{K:Params->PySem.W.Frag}(m:Nat)(hm:Room (m + 2) callerA)(hn:l.most=some 63)(hdf:d.params.defaults=[])
 (hY:∀(w:World) (h:Heap),YP w h->(K w.params).In h) (lt:∀ns:List Int,ns.length<=63->∃S',run m .law_ [.scr ns] []=some (.bl true,S'))
 (F:∀(w:World) (mg:Str->Option Value) (fa:Addr) (h:Heap),(K w.params).In h->h.Ns mainGlobals mg->mg d.name=some (.ref fa)->
   ∃(A:Fx->Addr) (fd:Fx->FuncData),Md (K w.params) mg A fd/\A .law_=fa/\∀(s:Shared) (u:Value),BindsTo s (fd .law_) ⟨[u],[]⟩ [("script",u)]) :
 PySem.W.WalkO q loose XP YP l.row.toRowW d [] (λf vs=>PySem.call f vs):=
 L2.VG (n:=63) (k:=m + 2) (x:="script") (CX:=λ_=>CX0) (sp:=λw=>spF (K w.params) (run m .law_)) hn (by decide) hdf hm hY
  (λw mg fa h KX G hmg=>by obtain ⟨A,fd,M,e,b⟩:=F w mg fa h KX G hmg;subst e;exact ⟨fd .law_,b,λbase _ _=>all_ok M m .law_⟩)
  (λw H a ns hl hO hS=>by obtain ⟨S',e⟩:=lt ns hl;exact QK hO hS e) λ_ _ _ _ _ z=>z
theorem UE (k:Nat):Ot (run (k + 1) .Bo):=λd h=>Nf h
theorem KC (k:Nat):GI (run (k + 2) .Az):=Rz (UE k)
theorem NU (k:Nat):Jy (run (k + 1) .Bk):=Po
theorem SZ (k:Nat):MB (run (k + 2) .Bn):=M7 (NU k)
theorem M4:∀(n k:Nat),2 * n + 3<=k->Gn (run k .Bp) n
 | 0,k,_=>λs hs=>absurd s.depth_pos (by lia)
 | n + 1,k,h=>by
   obtain ⟨j,rfl⟩:∃j,k=j + 4:=⟨k - 4,by lia⟩;have ih:=M4 n (j + 2) (by lia);exact Ug (KS ih (KC j)) (M6 ih) (M5 ih) (SZ (j + 1)) (KC (j + 1))
theorem Ng (k:Nat):Hj (run (k + 1) .Bl):=Ut
theorem Si (k:Nat):Mw (run (k + 2) .AY):=UG (Ng k)
theorem O1 (k:Nat):Jz (run (k + 1) .AK):=Tj
theorem M3:∀(n k:Nat),n + 3<=k->HL (run k .Av) n
 | 0,k,_=>λs hs=>absurd s.depth_pos (by lia)
 | n + 1,k,h=>by
   obtain ⟨j,rfl⟩:∃j,k=j + 3:=⟨k - 3,by lia⟩;exact Uf (M3 n (j + 2) (by lia)) (O1 (j + 1)) (Si j)
theorem MH (k:Nat):BX (run (k + 1) .A3):=XC
theorem Xi (k:Nat):UX (run (k + 2) .AH):=Ya (MH k)
theorem Xd (k:Nat):SX (run (k + 2) .BG):=X0 (NU k) (MH k)
theorem NJ:∀(n k:Nat),2 * n + 4<=k->Mc (run k .Ay) n
 | 0,k,_=>λs hs=>absurd s.depth_pos (by lia)
 | n + 1,k,h=>by
   obtain ⟨j,rfl⟩:∃j,k=j + 5:=⟨k - 5,by lia⟩;exact Q7 rfl rfl rfl rfl rfl (Xi (j + 1)) (Xd (j + 1)) (Ng (j + 2)) (MH (j + 2)) (O1 (j + 2)) (NJ n (j + 3) (by lia))
theorem Ux (k:Nat):RD (run (k + 11) .AZ):=Uw (NJ 3 (k + 10) (by lia))
theorem PK (k:Nat):KI (run (k + 12) .BF):=Oh (Ux k)
theorem PQ (k:Nat):HR (run (k + 13) .Bd):=On (PK k)
theorem Vs:VBF (run 98 .A6):=Xj (M3 3 97 (by decide)) (M4 3 97 (by decide))
theorem Re:KF (run 99 .Bc):=Ps Vs
theorem MR (k:Nat):HM (run (k + 1) .AW):=Sq
theorem NC (k:Nat):HN (run (k + 2) .AF):=SC (MR k)
theorem Hc (k:Nat):PTakeOk (run (k + 1) .Ae):=SH
theorem QZ (k:Nat)(F:List (Nat×Ob)):My F (run (k + 2) .AF):=WJ (MR k)
theorem Rl (k:Nat)(F:List (Nat×Ob)):PTakeF F (run (k + 1) .Ae):=WN
theorem LK:∀(n k:Nat),n + 1<=k->PShapeOk (run k .AA) n
 | 0,k,_=>λd a b S h=>absurd h (by lia)
 | n + 1,k,h=>by
   obtain ⟨j,rfl⟩:∃j,k=j + 2:=⟨k - 2,by lia⟩;exact Q4 (Hc j) (.inr (LK n (j + 1) (by lia)))
theorem O0:∀(n k:Nat),n + 1<=k->PValOk (run k .AB) n
 | 0,k,_=>λs a b S h=>absurd s.depth_pos (by lia)
 | n + 1,k,h=>by
   obtain ⟨j,rfl⟩:∃j,k=j + 2:=⟨k - 2,by lia⟩;exact U7 (Hc j) (.inr (O0 n (j + 1) (by lia)))
theorem R9:KG (run 99 .AX):=Sy (Hc 97) (LK 3 98 (by decide)) (NC 96)
theorem SY:KH (run 99 .Bm):=PC (O0 3 98 (by decide)) (Hc 97) (NC 96)
theorem LH:∀(n k:Nat),n + 1<=k->Go (run k .AS) n
 | 0,k,h=>by
   obtain ⟨j,rfl⟩:∃j,k=j + 1:=⟨k - 1,by lia⟩;exact LG (.inl rfl)
 | n + 1,k,h=>by
   obtain ⟨j,rfl⟩:∃j,k=j + 1:=⟨k - 1,by lia⟩;exact LG (.inr (LH n j (by lia)))
theorem UN:RK (run 99 .AL):=UO
theorem T9:RC (run 99 .Bx):=Us
theorem law_true (ns:List Int)(h:ns.length<=63):∃S',run 100 .law_ [.scr ns] []=some (.bl true,S'):=by
 obtain ⟨r,S',e,p⟩:=Wc (PQ 86) (LH 7 99 (by decide)) UN (Rl 98) T9 (QZ 97) Re SY R9 (ns:=ns);subst p;exact ⟨S',e⟩
end K26
namespace PySem.W.Fast
def tw1001250280663406155:=0
def tw10022427717773596773:=0
def tw10110974276411427445:=0
def tw10224516927878834281:=0
def tw10235453131919848455:=0
def tw1025721723358535437:=0
def tw10292424959610692522:=0
def tw10370892943454919684:=0
def tw10495780916975058811:=0
def tw10517547822167500904:=0
def tw10553535806313939945:=0
def tw10561060477452868560:=0
def tw10600967182439276911:=0
def tw10657087480109172016:=0
def tw10683128728177689759:=0
def tw10717503909878075829:=0
def tw10737791336271941467:=0
def tw10894684216541992939:=0
def tw10985221119790351185:=0
def tw10990813078827345638:=0
def tw11029586625291292234:=0
def tw11044755683133549753:=0
def tw11095148141051691396:=0
def tw11176728891298445793:=0
def tw11222925895258462083:=0
def tw1122403390406333895:=0
def tw11224834284561943334:=0
def tw11247039326842402595:=0
def tw11335517491188107341:=0
def tw11347818843992024380:=0
def tw11356541630104237804:=0
def tw11418067891581722188:=0
def tw1143134506944480026:=0
def tw11454962654493729509:=0
def tw11632829887790690069:=0
def tw11662632743841620340:=0
def tw11706847729609486834:=0
def tw11746732203471691539:=0
def tw11762886042146487761:=0
def tw11842728549678069229:=0
def tw11939364843498769708:=0
def tw11979189008938729617:=0
def tw12083050010005040699:=0
def tw1220412277665655046:=0
def tw12239608913306253029:=0
def tw12338221417192514307:=0
def tw12427522987283949992:=0
def tw12502623549641348893:=0
def tw12505617432823684768:=0
def tw12550017498921941788:=0
def tw12817331023215828228:=0
def tw12858286047094331936:=0
def tw12873649057193024843:=0
def tw12931968697314276484:=0
def tw1309924442380890326:=0
def tw13161270876897908246:=0
def tw13167074370572735865:=0
def tw13208082905052061381:=0
def tw13248162744067438094:=0
def tw13287894495833641376:=0
def tw13297621982027675161:=0
def tw13306101395066425093:=0
def tw13348790577160680746:=0
def tw13427325639563028320:=0
def tw13469817774335826269:=0
def tw13596098268122014558:=0
def tw1374439497084993444:=0
def tw13803803591091660568:=0
def tw13834923079717756243:=0
def tw13887355932855464854:=0
def tw13940203040735926403:=0
def tw13963484442626801532:=0
def tw14068721218508229518:=0
def tw14101687454092421344:=0
def tw14150105902335529016:=0
def tw14169249413151965439:=0
def tw14311139269596219835:=0
def tw14367480851581688340:=0
def tw14382608886833900387:=0
def tw14495891919378770900:=0
def tw14530807473755967534:=0
def tw1459052257204933042:=0
def tw14663508137158883862:=0
def tw14665726437507664256:=0
def tw14675862558352149072:=0
def tw14684408350102511429:=0
def tw14728855244449462194:=0
def tw1477217579670885130:=0
def tw1485367245534364223:=0
def tw14868722520526045589:=0
def tw14994167636964035100:=0
def tw14995062206841143813:=0
def tw15036175609538713337:=0
def tw15192468488470754117:=0
def tw15254818474979310437:=0
def tw15327356862352196715:=0
def tw15333196091415954627:=0
def tw15363917489695288780:=0
def tw15390336787349476226:=0
def tw15412802822293038509:=0
def tw15502820337814297343:=0
def tw15503980372890676224:=0
def tw15514239854072168962:=0
def tw15515086663436673031:=0
def tw15536721211403329532:=0
def tw15609026625642017669:=0
def tw15684703040078827834:=0
def tw15847361198347869205:=0
def tw15884471339474943502:=0
def tw15970004412841157252:=0
def tw15976506794647781632:=0
def tw15979309682110183438:=0
def tw16045748953322541520:=0
def tw16071448099749623892:=0
def tw16160608318847033717:=0
def tw16167378397578293195:=0
def tw16224161739016668727:=0
def tw16241355635078941905:=0
def tw16275596415789098872:=0
def tw16281053962280005465:=0
def tw16433503035093154694:=0
def tw16478956625310238244:=0
def tw16511809400744238476:=0
def tw16650119088533575677:=0
def tw16684029029133700106:=0
def tw16762831980025473575:=0
def tw16766975344958128867:=0
def tw16808516861587139744:=0
def tw1681525351463510260:=0
def tw16880378272785992434:=0
def tw16925192555871545043:=0
def tw17205903745232827539:=0
def tw17254205943197199184:=0
def tw17388111706734485594:=0
def tw17476371564489671614:=0
def tw17602135845636374292:=0
def tw17609853093691888441:=0
def tw17671917661988985779:=0
def tw17851112646737652046:=0
def tw17851248069588981580:=0
def tw17982843822022367248:=0
def tw18001389008915086780:=0
def tw18085909162598560822:=0
def tw18094455274226752696:=0
def tw18127417677191133084:=0
def tw18174595033023197860:=0
def tw18180567888131973797:=0
def tw18243016446217793193:=0
def tw18306343643218762745:=0
def tw196298503483017999:=0
def tw1978031536569364859:=0
def tw2007524279879989818:=0
def tw2030259730234410010:=0
def tw2081993019431724086:=0
def tw2124789776256704059:=0
def tw2270510514090253930:=0
def tw2327600586628571864:=0
def tw2351428647742484646:=0
def tw2368696444511624178:=0
def tw2369743126664113589:=0
def tw2382053181030561273:=0
def tw2442559647944477755:=0
def tw2482557767469029797:=0
def tw2545232090265236760:=0
def tw2620323355144420598:=0
def tw2834950083589685831:=0
def tw2835515117165483420:=0
def tw2882148503750373827:=0
def tw2916955709750027219:=0
def tw2998773945198447684:=0
def tw3097805380297567976:=0
def tw3134340268760354704:=0
def tw3142919313979545884:=0
def tw3143511770686386425:=0
def tw317158008467797134:=0
def tw3174957975877779607:=0
def tw3223982910205146297:=0
def tw3359065125888886925:=0
def tw3446157338395630723:=0
def tw3477522216140107550:=0
def tw3497723414704930535:=0
def tw351468721231338726:=0
def tw3535457719289386734:=0
def tw3570573020610939545:=0
def tw362192738262126240:=0
def tw3749282139397988796:=0
def tw3755403847711867638:=0
def tw3893862849412912296:=0
def tw3931140711128226946:=0
def tw4015307493178065326:=0
def tw415110919280399353:=0
def tw4170719694532449063:=0
def tw4197343758079166413:=0
def tw4215827365262264089:=0
def tw4391141820512868017:=0
def tw449011643429646236:=0
def tw4562614672200686003:=0
def tw46024358842131293:=0
def tw4626011491821977471:=0
def tw4645383774155002480:=0
def tw4739542901863945496:=0
def tw4743272735036271700:=0
def tw4814929566081522880:=0
def tw4874609128237818373:=0
def tw4898654455853397353:=0
def tw4948261006028143660:=0
def tw4949296105723614397:=0
def tw5183395005335633900:=0
def tw5251363516726586181:=0
def tw5316842703303325645:=0
def tw5326750213415652095:=0
def tw5328485188108034153:=0
def tw5356100448249251685:=0
def tw538252569509345342:=0
def tw5397713479784691342:=0
def tw5511002530676809567:=0
def tw5596380450663109985:=0
def tw5663782091497092972:=0
def tw57075468526532485:=0
def tw5816279857604982194:=0
def tw5884720614288907659:=0
def tw5909350503275805147:=0
def tw5955278166167826241:=0
def tw6093821600227816271:=0
def tw6141667153974414547:=0
def tw6158764607285524892:=0
def tw6190745605122054109:=0
def tw6203082551388752115:=0
def tw624775250832832606:=0
def tw6331601257412389791:=0
def tw6409227979724700697:=0
def tw6416125399448273039:=0
def tw6653025983203278488:=0
def tw6721553877924404148:=0
def tw6874326460653249070:=0
def tw6882485099985014638:=0
def tw6889519655485986852:=0
def tw6907069430520750668:=0
def tw6912200898714077800:=0
def tw6971063761551195368:=0
def tw7060444867360971645:=0
def tw7173188246256246631:=0
def tw7188379843173719695:=0
def tw7212508588265567888:=0
def tw7242156157051631159:=0
def tw7293811174653019340:=0
def tw7365940547272550515:=0
def tw7389058122471710109:=0
def tw7416860011516800482:=0
def tw7430760210589399817:=0
def tw7528986797187685587:=0
def tw7544634527574836167:=0
def tw7574869526322038028:=0
def tw7612759247352422823:=0
def tw7640799930363051706:=0
def tw7643517054547718270:=0
def tw7655378709938776980:=0
def tw7670664849899819680:=0
def tw7764980058520638804:=0
def tw7772603231036109024:=0
def tw7788632093471224694:=0
def tw7888209174092565815:=0
def tw7893705450670157522:=0
def tw7954712311654762785:=0
def tw8085290307231363449:=0
def tw8241797333873599557:=0
def tw8259209712675754075:=0
def tw8571073832345514071:=0
def tw8577628156978611525:=0
def tw8580060896285221444:=0
def tw8623346840499906546:=0
def tw8649939449774251103:=0
def tw8677096605154184907:=0
def tw8722762938553104212:=0
def tw8827795109517059461:=0
def tw8830737013544756295:=0
def tw8900339136884086557:=0
def tw9063658294324390796:=0
def tw907017961438154954:=0
def tw912653836453437370:=0
def tw9166177863576671845:=0
def tw9185649242736582755:=0
def tw9225947682320864083:=0
def tw929168639092190654:=0
def tw93156489030159501:=0
def tw9351721404034885143:=0
def tw9453966862751650690:=0
def tw948082699996785319:=0
def tw9497449698639483502:=0
def tw9593249997483076822:=0
def tw9686650993900127383:=0
def tw9692377449471461326:=0
def tw9847001653686953235:=0
def tw9987732642907163720:=0
end PySem.W.Fast
open PySem PySem.W PyProof.Rows
set_option maxRecDepth 100000 in
set_option maxHeartbeats 0 in
theorem PySem.Challenge.cw_wireparley_k26_talks_by_wires_holds : PySem.Challenge.rw_wireparley_k26_talks_by_wires.Holds := by
 w_on;o_law;k_head;(case hw=>w_witness2)
 k_fill
 refine K26.walk (l:=PySem.Challenge.rw_wireparley_k26_talks_by_wires) 100 ⟨rfl,by decide,by decide⟩ rfl rfl (λw h Y=>PySem.W.kIn_of Y) K26.law_true ?F
 case F=>
  intro w mg fa h KX G hmg;refine' K26.fin_mk KX G hmg ?H ?z_bool ?z_dict ?z_int ?z_isinstance ?z_len ?z_list ?z_max ?z_min ?z_ord ?z_range ?z_str ?z_tuple ?g_FIRST_SIGN ?g_LAST_SIGN ?g_PERCENT_SIGN ?g_SIGNS ?xm
  (case H=>intro x;cases x <;> (refine' K26.at_mk ?a ?l ?c ?k;(case a=>k_is);(case l=>k_is);(case c=>k_is);(case k=>k_is)))
  (case z_bool=>k_is)
  (case z_dict=>k_is)
  (case z_int=>k_is)
  (case z_isinstance=>k_is)
  (case z_len=>k_is)
  (case z_list=>k_is)
  (case z_max=>k_is)
  (case z_min=>k_is)
  (case z_ord=>k_is)
  (case z_range=>k_is)
  (case z_str=>k_is)
  (case z_tuple=>k_is)
  (case g_FIRST_SIGN=>k_is)
  (case g_LAST_SIGN=>k_is)
  (case g_PERCENT_SIGN=>k_is)
  (case g_SIGNS=>k_is)
  (case xm=>refine' K26.xm_all KX G ?x_p ?x_a1 ?x_a2 ?x_a3 ?x_q ?x_nd ?y_fi ?y_l ?y_ii ?y_hf ?y_hs ?y_cc ?y_k ?x_n1 ?x_n2;(case x_p=>k_is);(case x_a1=>k_is);(case x_a2=>k_is);(case x_a3=>k_is);(case x_q=>kernel_rfl);(case x_nd=>decide);(case y_fi=>k_is);(case y_l=>k_is);(case y_ii=>kernel_rfl);(case y_hf=>k_is);(case y_hs=>k_is);(case y_cc=>k_is);(case y_k=>k_is);(case x_n1=>kernel_rfl);(case x_n2=>kernel_rfl))
