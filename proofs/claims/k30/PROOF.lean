import PyProof.Rows.All
import Wide.All
import OpenK.AllK
import Wide.FinOn
import Lean
import PyProof.EqAt
import PyProof.EqKinds
import PyProof.TupleCall
import PyProof.NeKinds
import PyProof.ListMulRoad
import PyProof.MaxThree
import PyProof.Rows.StrJoinMade
import PyProof.ListStr
import PyProof.Rows.MinMaxN
import PyProof.Rows.Range3
import PyProof.ListRange
import PyProof.Rows.SetFrom
import PyProof.Rows.StrCase
import PyProof.SumAny
import PyProof.AutoIntG2
import PyProof.AutoListH
import PyProof.EnumStmt
import PyProof.EnumFor
import PyProof.EnumMake
import PyProof.Rows.EnumRows
import PyProof.ConsumeS
import PyProof.Rows.SortWalk
import KE.KDictSum
import PyProof.ZipIter
import KE.KEqDict
import PyProof.ExcClass2
import PyProof.RaisesMany
import PyProof.ExcBaseAll.ValueError
import PyProof.RulesDel
import PyProof.RulesAs
import PyProof.ExcArgs
import KE.KDictOf
import PyProof.AttrMissHeap
import PySem.Challenge.RW_wireparley_k30_whole_any_bytes
noncomputable section
abbrev ua0:=@List.findIdx?_eq_some_iff_getElem
abbrev ua1:=@PyProof.Rows.slot_tuple_getitem
abbrev ua2:=@Array.getElem?_setIfInBounds_ne
abbrev ua3:=@List.eq_nil_of_length_eq_zero
abbrev ua4:=@PyProof.Rows.callWith_type1
abbrev ua5:=@PySem.F.slot_int_bit_length
abbrev ua6:=@Int.fdiv_eq_ediv_of_nonneg
abbrev ua7:=@List.getElem?_append_right
abbrev ua8:=@PySem.F.excBase_ValueError
abbrev ua9:=@Array.getElem?_eq_some_iff
abbrev ub0:=@List.getD_eq_getElem?_getD
abbrev ub1:=@List.getElem?_eq_some_iff
abbrev ub2:=@List.getElem?_append_left
abbrev ub3:=@List.drop_eq_getElem_cons
abbrev ub4:=@List.getElem?_eq_none_iff
abbrev ub5:=@PySem.F.args_tuple_add_2
abbrev ub6:=@List.getElem?_eq_getElem
abbrev ub7:=@Array.size_setIfInBounds
abbrev ub8:=@List.getElem?_replicate
abbrev ub9:=@PySem.F.entry_tuple_add
abbrev uc0:=@List.length_eq_zero_iff
abbrev uc1:=@PySem.F.plainAttrs_list
abbrev uc2:=@Int.eq_ofNat_of_zero_le
abbrev uc3:=@List.getElem?_set_self
abbrev uc4:=@PySem.Heap.get?_push_of_some
abbrev uc5:=@PySem.W.cellsFrom_some
abbrev uc6:=@PySem.F.slot_tuple_add
abbrev uc7:=@PySem.Heap.get?_update_other
abbrev uc8:=@Option.map_eq_some_iff
abbrev uc9:=@Nat.div_div_eq_div_mul
abbrev ud0:=@Nat.le_of_succ_le_succ
abbrev ud1:=@List.mem_append_right
abbrev ud2:=@List.length_replicate
abbrev ud3:=@List.length_singleton
abbrev ud4:=@Nat.le_of_ble_eq_true
abbrev ud5:=@PySem.Heap.get?_update_self
abbrev ud6:=@List.take_append_drop
abbrev ud7:=@List.mem_cons_of_mem
abbrev ud8:=@List.mem_append_left
abbrev ud9:=@List.getElem?_set_ne
abbrev ue0:=@List.mem_of_getElem?
abbrev ue1:=@List.forall_mem_cons
abbrev ue2:=@List.filterMap_cons
abbrev ue3:=@Array.length_toList
abbrev ue4:=@PySem.Heap.get?_push_size
abbrev ue5:=@List.replicate_succ
abbrev ue6:=@List.map_congr_left
abbrev ue7:=@Int.toNat_of_nonneg
abbrev ue8:=@List.take_succ_cons
abbrev ue9:=@Nat.add_le_add_left
abbrev uf0:=@Nat.lt_of_lt_of_le
abbrev uf1:=@List.mem_cons_self
abbrev uf2:=@Bool.false_ne_true
abbrev uf3:=@Array.find?_toList
abbrev uf4:=@PySem.W.callWith_K
abbrev uf5:=@List.length_append
abbrev uf6:=@Bool.false_eq_true
abbrev uf7:=@List.mem_singleton
abbrev uf8:=@List.getElem?_take
abbrev uf9:=@Int.emod_lt_of_pos
abbrev ug0:=@PySem.W.mg_none_of
abbrev ug1:=@List.size_toArray
abbrev ug2:=@List.getElem?_map
abbrev ug3:=@Int.toNat_natCast
abbrev ug4:=@List.flatten_cons
abbrev ug5:=@List.append_assoc
abbrev ug6:=@Bool.eq_false_iff
abbrev ug7:=@List.getElem?_set
abbrev ug8:=@Option.some.injEq
abbrev ug9:=@decide_eq_true_eq
abbrev uh0:=@of_decide_eq_true
abbrev uh1:=@List.getElem_inj
abbrev uh2:=@List.length_take
abbrev uh3:=@List.length_drop
abbrev uh4:=@Bool.and_eq_true
abbrev uh5:=@List.length_cons
abbrev uh6:=@List.lookup_cons
abbrev uh7:=@Nat.le_add_right
abbrev uh8:=@List.all_eq_true
abbrev uh9:=@List.not_mem_nil
abbrev ui0:=@List.getElem_mem
abbrev ui1:=@List.cons_append
abbrev ui2:=@beq_self_eq_true
abbrev ui3:=@List.mem_append
abbrev ui4:=@Option.some.inj
abbrev ui5:=@PySem.W.kia_one
abbrev ui6:=@List.append_nil
abbrev ui7:=@List.nodup_cons
abbrev ui8:=@List.of_mem_zip
abbrev ui9:=@List.length_map
abbrev uj0:=@List.foldl_cons
abbrev uj1:=@List.nil_append
abbrev uj2:=@List.find?_cons
abbrev uj3:=@List.length_nil
abbrev uj4:=@Option.map_some
abbrev uj5:=@Bool.or_eq_true
abbrev uj6:=@Nat.not_lt_zero
abbrev uj7:=@List.map_append
abbrev uj8:=@Int.emod_nonneg
abbrev uj9:=@decide_eq_false
abbrev uk0:=@List.mem_range
abbrev uk1:=@Bool.false_and
abbrev uk2:=@Bool.and_false
abbrev uk3:=@List.drop_zero
abbrev uk4:=@decide_eq_true
abbrev uk5:=@Nat.lt_irrefl
abbrev uk6:=@List.mem_cons
abbrev uk7:=@Bool.or_false
abbrev uk8:=@List.all_cons
abbrev uk9:=@List.map_cons
abbrev ul0:=@List.any_cons
abbrev ul1:=@Bool.true_and
abbrev ul2:=@Nat.add_assoc
abbrev ul3:=@PySem.W.mg_of
abbrev ul4:=@PySem.wpAny_holding
abbrev ul5:=@PySem.Heap.lt_size
abbrev ul6:=@Nat.ne_of_lt
abbrev ul7:=@Nat.le_trans
abbrev ul8:=@Nat.ne_of_gt
abbrev ul9:=@Nat.mul_comm
abbrev um0:=@List.map_nil
abbrev um1:=@Nat.pow_zero
abbrev um2:=@Nat.pow_succ
abbrev um3:=@List.mem_map
abbrev um4:=@List.map_map
abbrev um5:=@Int.zero_add
abbrev um6:=@Nat.sub_self
abbrev um7:=@Nat.sub_zero
abbrev um8:=@List.any_nil
abbrev um9:=@Nat.le_refl
abbrev un0:=@Nat.zero_le
abbrev un1:=@Nat.le_succ
abbrev un2:=@Nat.div_one
abbrev un3:=@PySem.wpAny_field
abbrev un4:=@PySem.wpAny_bind
abbrev un5:=@PySem.wpAny_pure
abbrev un6:=@PySem.wpAny_mono
set_option Elab.async false
set_option linter.all false
set_option maxRecDepth 100000
namespace L2
open PySem PySem.Spec PyProof.Rows
abbrev Key:=Sum Int Str
noncomputable def IU:Key->Value->Bool
 | .inl k,v=>Value.isInt k v
 | .inr x,v=>Value.isStrOf x v
noncomputable def ad (w:World):Key->Int
 | .inl k=>hashInt k
 | .inr x=>hashStr w x
theorem CZ:∀{k:Key} {v:Value},IU k v=true->(∃i t,k=Sum.inl i/\v=Value.int i t)\/(∃x t,k=Sum.inr x/\v=Value.str x t)
 | .inl i,v,h=>by
   obtain ⟨t,e⟩:=Value.isInt_shape (k:=i) (v:=v) h;exact .inl ⟨i,t,rfl,e⟩
 | .inr x,v,h=>by
   obtain ⟨t,e⟩:=Value.isStrOf_shape (x:=x) (v:=v) h;exact .inr ⟨x,t,rfl,e⟩
theorem RC (i:Int)(t:Tok):IU (.inl i) (.int i t)=true:=by simp [IU,Value.isInt]
theorem RD (x:Str)(t:Tok):IU (.inr x) (.str x t)=true:=by simp [IU,Value.isStrOf]
theorem W8 (a b:Int):decide ((Sum.inl a:Key)=Sum.inl b)=(a == b):=by
 by_cases e:a=b
 ·subst e;simp
 ·have h:¬(Sum.inl a:Key)=Sum.inl b:=λq=>e (Sum.inl.inj q);rw [uj9 h];exact (beq_eq_false_iff_ne.mpr e).symm
theorem Xb (a b:Str):decide ((Sum.inr a:Key)=Sum.inr b)=decide (a=b):=by
 by_cases e:a=b
 ·subst e;simp
 ·have h:¬(Sum.inr a:Key)=Sum.inr b:=λq=>e (Sum.inr.inj q);rw [uj9 h,uj9 e]
theorem W9 (a:Int)(b:Str):decide ((Sum.inl a:Key)=Sum.inr b)=false:=uj9 (λq=>nomatch q)
theorem Xa (a:Str)(b:Int):decide ((Sum.inr a:Key)=Sum.inl b)=false:=uj9 (λq=>nomatch q)
def CV (prog:Program)(w:World):PySem.KeyKind prog w Key where
 is:=IU
 hash:=ad w
 inj:=λv a b ha hb=>by
  rcases CZ ha with ⟨i,t,rfl,rfl⟩ | ⟨x,t,rfl,rfl⟩
  ·rcases CZ hb with ⟨j,u,rfl,e⟩ | ⟨y,u,rfl,e⟩
   ·injection e with e1 _;rw [e1]
   ·exact nomatch e
  ·rcases CZ hb with ⟨j,u,rfl,e⟩ | ⟨y,u,rfl,e⟩
   ·exact nomatch e
   ·injection e with e1 _;rw [e1]
 byValue:=λk v h=>by
  rcases CZ h with ⟨i,t,rfl,rfl⟩ | ⟨x,t,rfl,rfl⟩ <;> rfl
 pyHash:=λhv h=>by
  rcases CZ hv with ⟨i,t,rfl,rfl⟩ | ⟨x,t,rfl,rfl⟩
  ·exact wpAny_pyHash_int h
  ·exact wpAny_pyHash_str h
 eqBool:=λhu hv h=>by
  rcases CZ hu with ⟨i,t,rfl,rfl⟩ | ⟨x,t,rfl,rfl⟩
  ·rcases CZ hv with ⟨j,u,rfl,rfl⟩ | ⟨y,u,rfl,rfl⟩
   ·rw [W8] at h;exact wpAny_eqBool_int h
   ·rw [W9] at h;exact SeqAt.EqAt.int_str i t y u _ _ _ _ h
  ·rcases CZ hv with ⟨j,u,rfl,rfl⟩ | ⟨y,u,rfl,rfl⟩
   ·rw [Xa] at h;exact SeqAt.EqAt.str_int x t j u _ _ _ _ h
   ·rw [Xb] at h;exact wpAny_eqBool_str h
 «strs»:=λk x t v h=>by
  rcases CZ h with ⟨i,u,rfl,e⟩ | ⟨y,u,rfl,e⟩
  ·exact nomatch e
  ·injection e with e1 _
   subst e1
   cases v <;> rfl
theorem OK (prog:Program)(w:World)(i:Int)(t:Tok):(CV prog w).is (.inl i) (.int i t)=true:=RC i t
theorem OL (prog:Program)(w:World)(x:Str)(t:Tok):(CV prog w).is (.inr x) (.str x t)=true:=RD x t
inductive V where
 | non | bl (b:Bool) | int (i:Int) | str (x:Str) | byt (b:Array UInt8) | flt (b:UInt64) | ref (a:Addr) | ty (n:String)
 deriving DecidableEq
noncomputable def RelV:V->Value->Prop
 | .non,u=>u=Value.none
 | .bl b,u=>u=Value.bool b
 | .int i,u=>∃t,u=Value.int i t
 | .str x,u=>∃t,u=Value.str x t
 | .byt b,u=>∃t,u=Value.bytes b t
 | .flt b,u=>∃t,u=Value.float b t
 | .ref a,u=>u=Value.ref a
 | .ty n,u=>u=Value.type n
abbrev Vals:List V->List Value->Prop:=Paired RelV
theorem Vals.length {xs:List V}{us:List Value}(r:Vals xs us):xs.length=us.length:=Paired.length r
theorem Vals.get:∀{xs:List V} {us:List Value} {i:Nat} {x:V},Vals xs us->xs[i]?=some x->∃u,us[i]?=some u/\RelV x u
 | _,_,_,_,.nil,e=>by simp at e
 | _,_,0,_,.cons r _,e=>by simp at e;subst e;exact ⟨_,rfl,r⟩
 | _,_,i + 1,x,.cons _ t,e=>by
   obtain ⟨u,h1,h2⟩:=Vals.get (i:=i) (x:=x) t (by simpa using e);exact ⟨u,by simpa using h1,h2⟩
theorem Vals.append {xs ys:List V}{us ws:List Value}(r:Vals xs us)(s:Vals ys ws):Vals (xs++ys) (us++ws):=by
 cases r with
 | nil=>exact s
 | cons r t=>exact .cons r (Vals.append t s)
theorem Vals.take:∀{xs:List V} {us:List Value} (n:Nat),Vals xs us->Vals (xs.take n) (us.take n)
 | _,_,0,_=>.nil
 | _,_,_ + 1,.nil=>.nil
 | _,_,n + 1,.cons r t=>.cons r (Vals.take n t)
theorem Vals.drop:∀{xs:List V} {us:List Value} (n:Nat),Vals xs us->Vals (xs.drop n) (us.drop n)
 | _,_,0,r=>r
 | _,_,_ + 1,.nil=>.nil
 | _,_,n + 1,.cons _ t=>Vals.drop n t
def RelO:Option V->Option Value->Prop
 | some v,some u=>RelV v u
 | none,none=>True
 | _,_=>False
def KV {κ:Type}:List (κ×V)->List (κ×Value)->Prop:=Paired λ(p:κ×V) (q:κ×Value)=>p.1=q.1/\RelV p.2 q.2
noncomputable def kV:Key->V
 | .inl i=>.int i
 | .inr x=>.str x
inductive HO where
 /-- a list -/
 | lst (xs:List V)
 /-- a tuple (never changes) -/
 | tup (xs:List V)
 /-- a dict whose keys are ints and texts;one whose keys are tuples of ints and texts (the empty one is both) -/
 | dK (kvs:List (Key×V)) | dT (kvs:List (List Key×V))
 /-- a set of ints: its members,its size -/
 | set (S:Int->Bool) (n:Nat)
 /-- an instance of the class at C,its dict at dx,its attributes -/
 | ins (C dx:Addr) (fs:List (Str×V))
 /-- the dict of the instance at x -/
 | own (x:Addr)
 /-- the dict of an exception -/
 | xd (fs:List (Str×V))
 /-- a bound method,f of x -/
 | met (f x:Addr)
 /-- a range object lo,lo + 1,.. below hi -/
 | rng (lo hi:Int)
 /-- a thing that is known to the object (the script;a dict while a loop walks it): read,never written while it is so -/
 | frz (o:Obj) (u:HO)
 /-- a code object's table -/
 | tbl (ps:Array Value)
 /-- any other thing,by what is true of its one object (a def of one's own: SetO a S n:=HO.ext λh=>..) -/
 | ext (φ:Heap->Prop)
abbrev Hp:=Addr->Option HO
noncomputable def upd (H:Hp)(a:Addr)(o:HO):Hp:=λb=>if b=a then some o else H b
variable {H:Hp}{a:Addr}{o:HO}
theorem Ax:upd H a o a=some o:=by unfold upd;rw [if_pos rfl]
variable {b:Addr}
theorem As (h:b≠a):upd H a o b=H b:=by unfold upd;rw [if_neg h]
theorem L7 {u:HO}:upd (upd H a o) a u=upd H a u:=by
 funext b;unfold upd;split <;> rfl
theorem Bs (h:H a=some o)(h':H b=none):a≠b:=by
 intro e;subst e;rw [h] at h';cases h'
section
variable (P:Program)(w:World)
def ObjOk (H:Hp)(h:Heap)(a:Addr):HO->Prop
 | .lst xs=>xs.length<=sizeLine/\∃(its:List Value) (n:Nat),Vals xs its/\h.get? a=some { cls:=.type "list",data:=.seq its.toArray n }
 | .tup xs=>xs.length<=sizeLine/\∃its:List Value,Vals xs its/\IsTup h a its.toArray
 | .dK kvs=>kvs.length<=sizeLine/\(a == sysModules)=false/\∃vs,KV kvs vs/\h.DictOf (CV P w) a vs
 | .dT kvs=>kvs.length<=sizeLine/\(a == sysModules)=false/\∃xs:List (List Key×Addr×Value),
    Paired (λ(p:List Key×V) (q:List Key×Addr×Value)=>p.1=q.1/\H q.2.1=some (.tup (p.1.map kV))/\RelV p.2 q.2.2) kvs xs/\
    ∃o es ep,h.get? a=some o/\o.ExactDict/\o.data = .dict es ep/\es.toList=xs.map (entryOfKey (tupleKind (CV P w)))/\(xs.map (·.1)).Nodup
 | .set S n=>h.SetOf (intKind P w) a S n
 | .ins C dx fs=>H dx=some (.own a)/\fs.length<=1000/\dx≠a/\h.get? a=some (PySem.W.instObj C dx)/\
    ∃mA,h.Ns1 dx mA/\(∀f,RelO (fs.lookup f) (mA f))/\PySem.Within mA (fs.map (·.1))
 | .own _=>∃o,h.get? a=some o
 | .xd fs=>∃mA,h.Ns1 a mA/\∀f,RelO (fs.lookup f) (mA f)
 | .rng lo hi=>∃t u v,h.get? a=some { cls:=.type "range",data:=.fields #[.int lo t,.int hi u,.int 1 v] }
 | .frz o u=>h.get? a=some o/\ObjOk H h a u
 | .tbl ps=>h.get? a=some { cls:=.none,data:=.fields ps }
 | .met f x=>h.get? a=some (PySem.W.methodObj (.ref f) (.ref x))
 | .ext φ=>φ h/\(∃o,h.get? a=some o)/\∀h1 h2:Heap,φ h1->(∀o,h1.get? a=some o->h2.get? a=some o)->φ h2
def HOk (H:Hp)(h:Heap):Prop:=∀a o,H a=some o->ObjOk P w H h a o
end
section
variable {P:Program}{w:World}{H H':Hp}{h h':Heap}{a:Addr}{o:HO}
theorem ObjOk.lt (x:ObjOk P w H h a o):a < h.objs.size:=by
 cases o with
 | lst xs=>obtain ⟨_,_,_,_,e⟩:=x;exact ul5 e
 | tup xs=>obtain ⟨_,_,_,p⟩:=x;exact p.lt
 | dK kvs=>obtain ⟨_,_,_,_,o,_,_,e,_⟩:=x;exact ul5 e
 | dT kvs=>obtain ⟨_,_,_,_,o,_,_,e,_⟩:=x;exact ul5 e
 | set S n=>obtain ⟨o,_,_,_,e,_⟩:=x;exact ul5 e
 | ins C dx fs=>obtain ⟨_,_,_,e,_⟩:=x;exact ul5 e
 | own y=>obtain ⟨_,e⟩:=x;exact ul5 e
 | xd fs=>obtain ⟨_,⟨_,_,_,e,_⟩,_⟩:=x;exact ul5 e
 | rng lo hi=>obtain ⟨_,_,_,e⟩:=x;exact ul5 e
 | frz ob u=>obtain ⟨e,_⟩:=x;exact ul5 e
 | tbl ps=>exact ul5 (show h.get? a=some _ from x)
 | met f y=>exact ul5 (show h.get? a=some _ from x)
 | ext φ=>obtain ⟨_,⟨_,e⟩,_⟩:=x;exact ul5 e
theorem Paired.mapP {α β:Type}{F G:α->β->Prop}:∀{l₁:List α} {l₂:List β},Paired F l₁ l₂->(∀a b,F a b->G a b)->Paired G l₁ l₂
 | _,_,.nil,_=>.nil
 | _,_,.cons r t,f=>.cons (f _ _ r) (Paired.mapP t f)
theorem ObjOk.stay (x:ObjOk P w H h a o)(k:∀b u,(b=a\/H b=some (.own a))->h.get? b=some u->h'.get? b=some u)
 (ho:∀b,H b=some (.own a)->H' b=some (.own a)) (ht:∀b xs,H b=some (.tup xs)->H' b=some (.tup xs)):ObjOk P w H' h' a o:=by
 induction o with
 | lst xs=>obtain ⟨z,its,n,r,e⟩:=x;exact ⟨z,its,n,r,k _ _ (.inl rfl) e⟩
 | tup xs=>obtain ⟨z,its,r,ob,e,c⟩:=x;exact ⟨z,its,r,ob,k _ _ (.inl rfl) e,c⟩
 | dK kvs=>obtain ⟨z,y,vs,r,ob,es,ep,e,c⟩:=x;exact ⟨z,y,vs,r,ob,es,ep,k _ _ (.inl rfl) e,c⟩
 | dT kvs=>
   obtain ⟨z,y,xs,r,ob,es,ep,e,c⟩:=x;exact ⟨z,y,xs,Paired.mapP r λp q z=>⟨z.1,ht _ _ z.2.1,z.2.2⟩,ob,es,ep,k _ _ (.inl rfl) e,c⟩
 | set S n=>obtain ⟨ob,es,ep,t,e,c⟩:=x;exact ⟨ob,es,ep,t,k _ _ (.inl rfl) e,c⟩
 | ins C dx fs=>
   obtain ⟨d,z,ne,e,mA,⟨od,es,ep,e2,c⟩,r⟩:=x;exact ⟨ho _ d,z,ne,k _ _ (.inl rfl) e,mA,⟨od,es,ep,k _ _ (.inr d) e2,c⟩,r⟩
 | own y=>obtain ⟨ob,e⟩:=x;exact ⟨ob,k _ _ (.inl rfl) e⟩
 | xd fs=>obtain ⟨mA,⟨od,es,ep,e,c⟩,r⟩:=x;exact ⟨mA,⟨od,es,ep,k _ _ (.inl rfl) e,c⟩,r⟩
 | rng lo hi=>obtain ⟨t,u,v,e⟩:=x;exact ⟨t,u,v,k _ _ (.inl rfl) e⟩
 | frz ob u ih=>obtain ⟨e,q⟩:=x;exact ⟨k _ _ (.inl rfl) e,ih q⟩
 | tbl ps=>
   have e:h.get? a=some { cls:=.none,data:=.fields ps }:=x;show h'.get? a=some { cls:=.none,data:=.fields ps };exact k a _ (.inl rfl) e
 | met f y=>
   have e:h.get? a=some (PySem.W.methodObj (.ref f) (.ref y)):=x;show h'.get? a=some (PySem.W.methodObj (.ref f) (.ref y));exact k a _ (.inl rfl) e
 | ext φ=>obtain ⟨p,⟨o,e⟩,st⟩:=x;exact ⟨st _ _ p λo q=>k _ _ (.inl rfl) q,⟨o,k _ _ (.inl rfl) e⟩,st⟩
theorem HOk.lt (x:HOk P w H h)(e:H a=some o):a < h.objs.size:=(x a o e).lt
theorem HOk.fresh (x:HOk P w H h)(e:h.objs.size<=a):H a=none:=by
 cases q:H a with
 | none=>rfl
 | some u=>exact absurd (uf0 (x.lt q) e) (uk5 _)
theorem HOk.kept (x:HOk P w H h)(k:∀b u,h.get? b=some u->h'.get? b=some u):HOk P w H h':=λa o e=>
 (x a o e).stay (λb u _ q=>k b u q) (λ_ q=>q) λ_ _ q=>q
theorem HOk.laid (x:HOk P w H h)(k:∀b u,h.get? b=some u->h'.get? b=some u)(hp:h.objs.size<=a)(new:ObjOk P w (upd H a o) h' a o):HOk P w (upd H a o) h':=λb u e=>by
 have hn:=x.fresh hp
 by_cases hb:b=a
 ·subst hb;rw [Ax] at e;cases e;exact new
 ·rw [As hb] at e;exact (x b u e).stay (λc v _ q=>k c v q) (λc q=>by rw [As (Bs q hn)];exact q) λc xs q=>by rw [As (Bs q hn)];exact q
end
def Rd (H:Hp)(a:Addr)(u:HO):Prop:=H a=some u\/∃o,H a=some (.frz o u)
variable {P:Program}{w:World}{h:Heap}
theorem Rd.ok {u:HO}(r:Rd H a u)(x:HOk P w H h):ObjOk P w H h a u:=by
 rcases r with r | ⟨o,r⟩
 ·exact x a u r
 ·obtain ⟨_,q⟩:=x a _ r;exact q
def Mut:Option HO->Prop
 | some (.lst _)=>True
 | some (.dK _)=>True
 | some (.dT _)=>True
 | some (.set _ _)=>True
 | some (.ins _ _ _)=>True
 | some (.ext _)=>True
 | _=>False
section
variable {P:Program}{w:World}{H:Hp}{h h':Heap}{x e:Addr}{o':HO}
theorem HOk.write (ok:HOk P w H h)(mu:Mut (H x))(he:e=x\/H e=some (.own x))(k:∀b u,b≠e->h.get? b=some u->h'.get? b=some u)(heo:∃u,h'.get? e=some u)
 (new:ObjOk P w (upd H x o') h' x o'):HOk P w (upd H x o') h':=λb u q=>by
 have nown:∀c y,H c=some (.own y)->c≠x:=λc y r z=>by subst z;rw [r] at mu;exact mu
 have ntup:∀c xs,H c=some (.tup xs)->c≠x:=λc xs r z=>by subst z;rw [r] at mu;exact mu
 by_cases hb:b=x
 ·subst hb;rw [Ax] at q;cases q;exact new
 ·rw [As hb] at q
  by_cases hbe:b=e
  ·have q':H b=some (.own x):=by
    rcases he with z | z
    ·exact absurd (hbe.trans z) hb
    ·rw [hbe];exact z
   rw [q] at q';cases q'
   obtain ⟨v,hv⟩:=heo;exact ⟨v,by rw [hbe];exact hv⟩
  ·refine (ok b u q).stay (λc v hc r=>k c v ?_ r) (λc r=>by rw [As (nown c b r)];exact r) λc xs r=>by rw [As (ntup c xs r)];exact r
   rcases hc with rfl | hc
   ·exact hbe
   ·rintro rfl;rcases he with z | z
    ·exact nown c b hc z
    ·rw [hc] at z;cases z;exact hb rfl
end
structure Un (fs ex:List Addr)(H H':Hp)(h h':Heap):Prop where
 keep:∀b o,h.get? b=some o->H b=none->b∉fs->b∉ex->h'.get? b=some o
 slot:∀b o,h.get? b=some o->H b=none->b∈fs->b∉ex->∃sl,h'.get? b=some { o with slots:=sl }
 free:∀b o,h.get? b=some o->H b=none->b∉ex->H' b=none
 there:∀b o,h.get? b=some o->b∉ex->∃o',h'.get? b=some o'
 tups:∀b xs,H b=some (.tup xs)->H' b=some (.tup xs)
 frzs:∀b o u,H b=some (.frz o u)->H' b=some (.frz o u)
 tbls:∀b ps,H b=some (.tbl ps)->∃more,H' b=some (.tbl (ps++more))
section
variable {fs fs' ex ex':List Addr}{H H1 H2:Hp}{h h1 h2 h':Heap}{a x e:Addr}{o:HO}
theorem Un.any (u:Un fs ex H H1 h h1){b:Addr}{ob:Obj}(q:h.get? b=some ob)(n:H b=none)(hx:b∉ex):∃sl,h1.get? b=some { ob with slots:=sl }:=by
 by_cases hb:b∈fs
 ·exact u.slot b ob q n hb hx
 ·exact ⟨ob.slots,u.keep b ob q n hb hx⟩
theorem Un.kept (k:∀b u,h.get? b=some u->h'.get? b=some u):Un fs ex H H h h':=
 ⟨λb ob q _ _ _=>k b ob q,λb ob q _ _ _=>⟨ob.slots,k b ob q⟩,λ_ _ _ n _=>n,λb ob q _=>⟨ob,k b ob q⟩,λ_ _ q=>q,λ_ _ _ q=>q,λ_ ps q=>⟨#[],by rw [q];simp⟩⟩
theorem Un.refl:Un fs ex H H h h:=Un.kept λ_ _ q=>q
theorem Un.laid (k:∀b u,h.get? b=some u->h'.get? b=some u)(hp:h.objs.size<=a)(hn:H a=none):Un fs ex H (upd H a o) h h' where
 keep:=λb u q _ _ _=>k b u q
 slot:=λb u q _ _ _=>⟨u.slots,k b u q⟩
 free:=λb u q n _=>by rw [As (ul6 (uf0 (ul5 q) hp))];exact n
 there:=λb u q _=>⟨u,k b u q⟩
 tups:=λb xs q=>by rw [As (Bs q hn)];exact q
 frzs:=λb u xs q=>by rw [As (Bs q hn)];exact q
 tbls:=λb ps q=>⟨#[],by rw [As (Bs q hn),q];simp⟩
theorem Un.write (mu:Mut (H x))(he:e=x\/H e=some (.own x))(k:∀b u,b≠e->h.get? b=some u->h'.get? b=some u)(heo:∃u,h'.get? e=some u):Un fs ex H (upd H x o) h h':=by
 have hx:∀b,H b=none->b≠x:=λb n z=>by subst z;rw [n] at mu;exact mu
 have hb:∀b,H b=none->b≠e:=λb n z=>by
  subst z;rcases he with r | r
  ·exact hx b n r
  ·rw [n] at r;cases r
 have hm:∀b u,H b=some u->¬Mut (some u)->b≠x:=λb u q nm z=>by subst z;rw [q] at mu;exact nm mu
 refine ⟨λb u q n _ _=>k b u (hb b n) q,λb u q n _ _=>⟨u.slots,k b u (hb b n) q⟩,λb u q n _=>by rw [As (hx b n)];exact n,λb u q _=>?_,
  λb xs q=>by rw [As (hm b _ q λz=>z)];exact q,λb u xs q=>by rw [As (hm b _ q λz=>z)];exact q,λb ps q=>⟨#[],by rw [As (hm b _ q λz=>z),q];simp⟩⟩
 by_cases hbe:b=e
 ·subst hbe;exact heo
 ·exact ⟨u,k b u hbe q⟩
end
noncomputable def trk (h:Heap)(H:Hp):List Addr:=(List.range h.objs.size).filter λa=>(H a).isSome
def Hn (h:Heap)(H:Hp):Heap:=PySem.W.hideAll h (trk h H)
theorem Rt (h:Heap)(H:Hp):(Hn h H).objs.size=h.objs.size:=PySem.W.hideAll_size _ _
theorem Ts {o:Obj}(e:h.get? b=some o)(n:H b=none):(Hn h H).get? b=some o:=
 PySem.W.hideAll_get _ e λhm=>by
  have q:(H b).isSome=true:=(List.mem_filter.mp hm).2;rw [n] at q;simp at q
theorem VB {o:Obj}(e:(Hn h H).get? b=some o):h.get? b=some o/\H b=none:=by
 have e':h.get? b=some o:=PySem.W.of_hideAll (trk h H) e;refine ⟨e',?_⟩
 cases q:H b with
 | none=>rfl
 | some x=>
   have hm:b∈trk h H:=List.mem_filter.mpr ⟨uk0.mpr (ul5 e'),by simp [q]⟩;have z:(Hn h H).get? b=none:=PySem.W.hideAll_none (trk h H) hm;rw [z] at e;cases e
noncomputable def UV (g h:Heap)(L:Addr):List (Addr×Obj):=(List.range h.objs.size).filterMap λa=>if a=L\/(g.get? a).isSome=true then none else (h.get? a).map λo=>(a,o)
def rest (g h:Heap)(L d:Addr):List (Addr×Obj):=(UV g h L).filter λp=>decide (p.1≠d)
structure Mod (K:PySem.W.Frag)(mg:Str->Option Value)(base:Heap):Prop where
 kin:K.In base
 glob:base.Ns mainGlobals mg
 blt:∃mb,base.Ns builtinsNs mb/\∀x:Str,x≠"__name__"->mb x=bootBuiltins x
 nolimit:base.NoLimit
structure Cx where
 prog:Program
 w:World
 K:PySem.W.Frag
 mg:Str->Option Value
 base:Heap
 A:Around
 N:List Str
 s₀:Shared
 H₀:Hp
 env:Env
 outer:List Env
 stack:List Env
 ex:List Addr
 fn:Str->Bool
 calm:Bool
 pn:List (Addr×Obj)
 xe:Value->Shared->Prop
noncomputable def frs (l:List Env):List Addr:=l.filterMap (·.frame)
abbrev Cx.fs (X:Cx):List Addr:=frs X.outer
def Vis (sc:Scope)(x:Str):Prop:=sc.names.lookup x=some .local\/sc.names.lookup x=some .cell\/sc.names.lookup x=some .free
def Loc (sc:Scope)(x:Str):Prop:=sc.names.lookup x=some .local\/sc.names.lookup x=some .cell
def ZK (env:Env)(h:Heap)(m:Str->Option Value)(x:Str)(u:Value):Prop:=
 (env.kindOf x=some .local/\m x=some u)\/((env.kindOf x=some .cell\/env.kindOf x=some .free)/\∃c,env.cells.lookup x=some c/\h.IsCell c (some u))
structure Cx.Ok (X:Cx):Prop where
 mod:Mod X.K X.mg X.base
 kind:X.env.scope.kind = .function
 glob:X.env.globals=mainGlobals
 blt:X.env.builtins=builtinsNs
 above:X.s₀.heap.objs.size<=X.env.locals
 inj:∀x y c,X.env.cells.lookup x=some c->X.env.cells.lookup y=some c->x=y
 has:∀x,(X.env.kindOf x=some .cell\/X.env.kindOf x=some .free)->∃c,X.env.cells.lookup x=some c
 cab:∀x c,X.fn x=true->X.env.cells.lookup x=some c->X.s₀.heap.objs.size<=c
 hd:X.calm=true->X.A.handled=none
 frames:X.A.frames=some X.stack
 stk:X.stack=X.outer\/(X.stack=X.env :: X.outer/\X.env.frame=some X.env.locals)
 exf:∀b∈X.ex,b≠X.env.locals/\∀x c,X.env.cells.lookup x=some c->c≠b
 bs:∀b o,X.base.get? b=some o->X.s₀.heap.get? b=some o/\X.H₀ b=none
 bsz:X.base.objs.size<=X.s₀.heap.objs.size
 noex:∀b o,X.base.get? b=some o->b∉X.ex
 exfs:∀b∈X.ex,b∉X.fs
 funs:X.s₀.heap.FunFrames X.base X.outer
 frf:∀b∈X.fs,X.H₀ b=none
structure Inv (X:Cx)(pins:List (Addr×Obj))(σ:List (Option V))(H:Hp)(s:Shared):Prop where
 ok:X.Ok
 os:s.os=X.s₀.os
 bare:AllBare s.gens
 base:Un X.fs X.ex X.H₀ H X.s₀.heap s.heap
 loc:∃m,s.heap.Ns X.env.locals m/\∀(i:Nat) (x:Str) (v:V),X.N[i]?=some x->σ[i]?=some (some v)->Vis X.env.scope x->∃u,RelV v u/\ZK X.env s.heap m x u
 cell:∀x c,X.env.cells.lookup x=some c->∃v,s.heap.IsCell c v
 free:H X.env.locals=none
 freeC:∀x c,X.env.cells.lookup x=some c->H c=none
 pin:∀p∈X.pn++pins,s.heap.get? p.1=some p.2/\H p.1=none/\p.1≠X.env.locals/\p.1∉X.fs/\∀v,p.2.data≠.cell v
 hok:HOk X.prog X.w H s.heap
 len:σ.length=X.N.length
variable {t' i:Nat}{ch:List Addr}{E:Value->Shared->Prop}{x:Str}{v:V}{u:Value}{Q:Unit->Shared->Prop}
section
variable {X:Cx}{pins:List (Addr×Obj)}{σ:List (Option V)}{H H':Hp}{s:Shared}{h':Heap}
theorem Cx.Ok.nofr (ok:X.Ok){b:Addr}{o:Obj}(e:X.base.get? b=some o):b∉X.fs:=λhb=>by
 have:=(ok.funs.mem hb).1;rw [e] at this;cases this
theorem Inv.bs (I:Inv X pins σ H s):∀b o,X.base.get? b=some o->s.heap.get? b=some o/\H b=none:=λb o e=>
 ⟨I.base.keep b o (I.ok.bs b o e).1 (I.ok.bs b o e).2 (I.ok.nofr e) (I.ok.noex b o e),I.base.free b o (I.ok.bs b o e).1 (I.ok.bs b o e).2 (I.ok.noex b o e)⟩
theorem Inv.bk (I:Inv X pins σ H s):∀b o,X.base.get? b=some o->s.heap.get? b=some o:=λb o e=>(I.bs b o e).1
theorem Inv.mod (I:Inv X pins σ H s):Mod X.K X.mg X.base:=I.ok.mod
theorem Inv.kIn (I:Inv X pins σ H s):X.K.In s.heap:=I.ok.mod.kin.keeps I.bk
theorem Inv.lt (I:Inv X pins σ H s):X.env.locals < s.heap.objs.size:=let ⟨_,hn,_⟩:=I.loc;hn.lt
theorem Inv.sz (I:Inv X pins σ H s):X.s₀.heap.objs.size<=s.heap.objs.size:=ul7 I.ok.above (Nat.le_of_lt I.lt)
theorem Inv.nofs (I:Inv X pins σ H s){a:Addr}(h:s.heap.objs.size<=a):a∉X.fs:=λhb=>by
 obtain ⟨_,o,ho,_⟩:=I.ok.funs.mem hb;exact absurd (uf0 (ul5 ho) (ul7 I.sz h)) (uk5 _)
theorem Inv.cne (I:Inv X pins σ H s):∀x c,X.env.cells.lookup x=some c->c≠X.env.locals:=λx c e z=>by
 obtain ⟨v,o,ho,hd⟩:=I.cell x c e;obtain ⟨m,⟨o',es,ep,ho',hd',_⟩,_⟩:=I.loc;rw [z,ho'] at ho;cases ho;rw [hd'] at hd;cases hd
theorem Inv.funs (I:Inv X pins σ H s):s.heap.FunFrames X.base X.outer:=by
 have all:∀(l:List Env),(∀b∈frs l,b∈X.fs)->X.s₀.heap.FunFrames X.base l->s.heap.FunFrames X.base l:=by
  intro l
  induction l with
  | nil=>intro _ _;trivial
  | cons env r ih=>
    intro hs hl;obtain ⟨hk,⟨L,o,hf,hn,ho,hd⟩,hr⟩:=hl;have hL:L∈X.fs:=hs L (by unfold frs;rw [ue2,hf];exact uf1);obtain ⟨sl,e⟩:=I.base.slot L o ho (I.ok.frf L hL) hL λz=>I.ok.exfs L z hL;exact ⟨hk,⟨L,_,hf,hn,e,hd⟩,ih (λb hb=>hs b (by unfold frs;rw [ue2,hf];exact ud7 _ hb)) hr⟩
 exact all X.outer (λ_ hb=>hb) I.ok.funs
theorem Inv.stack (I:Inv X pins σ H s):s.heap.FunFrames X.base X.stack:=by
 rcases I.ok.stk with e | ⟨e,hf⟩
 ·rw [e];exact I.funs
 ·rw [e];obtain ⟨m,hn,_⟩:=I.loc;refine .cons (by rw [I.ok.kind];decide) hf hn ?_ I.funs;exact Heap.get?_none_of_le (ul7 I.ok.bsz I.ok.above)
theorem Inv.stkSub (I:Inv X pins σ H s):∀b∈frs X.stack,b∈X.env.locals :: X.fs:=λb hb=>by
 rcases I.ok.stk with e | ⟨e,hf⟩
 ·rw [e] at hb;exact ud7 _ hb
 ·rw [e] at hb;unfold frs at hb;rw [ue2,hf] at hb;exact hb
theorem Inv.stkFree (I:Inv X pins σ H s):∀b∈frs X.stack,H b=none:=λb hb=>by
 rcases uk6.mp (I.stkSub b hb) with e | hb
 ·rw [e];exact I.free
 ·obtain ⟨_,o,ho,_⟩:=I.ok.funs.mem hb;exact I.base.free b o ho (I.ok.frf b hb) λz=>I.ok.exfs b z hb
theorem Inv.step {g':Array GenState}{d':Drawn}(I:Inv X pins σ H s)
 (hch:∀b∈ch,(b∈X.ex\/X.s₀.heap.objs.size<=b)/\b≠X.env.locals/\(∀x c,X.env.cells.lookup x=some c->c≠b)/\∀p∈X.pn++pins,p.1≠b)
 (keep:∀b o,b≠X.env.locals->b∉X.fs->b∉ch->s.heap.get? b=some o->H b=none->h'.get? b=some o)
 (slot:∀b o,b≠X.env.locals->b∈X.fs->b∉ch->s.heap.get? b=some o->H b=none->∃sl,h'.get? b=some { o with slots:=sl }) (free:∀b o,b∉ch->s.heap.get? b=some o->H b=none->H' b=none)
 (there:∀b o,b∉ch->s.heap.get? b=some o->∃o',h'.get? b=some o')
 (tups:∀b xs,H b=some (.tup xs)->H' b=some (.tup xs)) (frzs:∀b o u,H b=some (.frz o u)->H' b=some (.frz o u)) (tbls:∀b ps,H b=some (.tbl ps)->∃more,H' b=some (.tbl (ps++more)))
 (ns:∀m,s.heap.Ns X.env.locals m->h'.Ns X.env.locals m) (hok:HOk X.prog X.w H' h') (hg:AllBare g') :
 Inv X pins σ H' { s with heap:=h',gens:=g',drawn:=d',toks:=t' }:=by
 have neL:∀b o,X.s₀.heap.get? b=some o->b≠X.env.locals:=λb o e=>ul6 (uf0 (ul5 e) I.ok.above);have neC:∀b o,X.s₀.heap.get? b=some o->b∉X.ex->b∉ch:=λb o e hx hb=>by
  rcases (hch b hb).1 with z | z
  ·exact hx z
  ·exact absurd (uf0 (ul5 e) z) (uk5 _)
 have cellK:∀x c,X.env.cells.lookup x=some c->∀v,s.heap.IsCell c v->h'.IsCell c v:=λx c e v z9=>by
  obtain ⟨o,ho,hd⟩:=z9;have nch:c∉ch:=λz=>(hch c z).2.2.1 x c e rfl
  by_cases hc:c∈X.fs
  ·obtain ⟨sl,q⟩:=slot c o (I.cne x c e) hc nch ho (I.freeC x c e);exact ⟨_,q,hd⟩
  ·exact ⟨o,keep c o (I.cne x c e) hc nch ho (I.freeC x c e),hd⟩
 refine ⟨I.ok,I.os,hg,⟨λb o e n hb hx=>?_,λb o e n hb hx=>?_,λb o e n hx=>?_,λb o e hx=>?_,λb xs e=>tups b xs (I.base.tups b xs e),λb o xs e=>frzs b o xs (I.base.frzs b o xs e),λb ps e=>?_⟩,?_,λx c e=>?_,?_,λx c e=>?_,λp hp=>?_,hok,I.len⟩
 ·exact keep b o (neL b o e) hb (neC b o e hx) (I.base.keep b o e n hb hx) (I.base.free b o e n hx)
 ·obtain ⟨sl,e1⟩:=I.base.slot b o e n hb hx;obtain ⟨sl',e2⟩:=slot b _ (neL b o e) hb (neC b o e hx) e1 (I.base.free b o e n hx);exact ⟨sl',e2⟩
 ·obtain ⟨o',e1⟩:=I.base.there b o e hx;exact free b o' (neC b o e hx) e1 (I.base.free b o e n hx)
 ·obtain ⟨o',e1⟩:=I.base.there b o e hx;exact there b o' (neC b o e hx) e1
 ·obtain ⟨m1,e1⟩:=I.base.tbls b ps e;obtain ⟨m2,e2⟩:=tbls b _ e1;exact ⟨m1++m2,by rw [e2,Array.append_assoc]⟩
 ·obtain ⟨m,hn,hl⟩:=I.loc;refine ⟨m,ns m hn,λi x v e1 e2 e3=>?_⟩;obtain ⟨u,r,l⟩:=hl i x v e1 e2 e3;refine ⟨u,r,?_⟩;rcases l with l | ⟨k,c,e,z⟩
  ·exact .inl l
  ·exact .inr ⟨k,c,e,cellK x c e _ z⟩
 ·obtain ⟨v,z⟩:=I.cell x c e;exact ⟨v,cellK x c e v z⟩
 ·obtain ⟨m,⟨o,_,_,ho,_⟩,_⟩:=I.loc;exact free _ o (λz=>(hch _ z).2.1 rfl) ho I.free
 ·obtain ⟨v,o,ho,hd⟩:=I.cell x c e;exact free c o (λz=>(hch c z).2.2.1 x c e rfl) ho (I.freeC x c e)
 ·obtain ⟨e,n,ne,nf,d⟩:=I.pin p hp;have nch:p.1∉ch:=λz=>(hch p.1 z).2.2.2 p hp rfl;exact ⟨keep p.1 p.2 ne nf nch e n,free p.1 p.2 nch e n,ne,nf,d⟩
theorem Inv.un (I:Inv X pins σ H s)(u:Un X.fs [] H H' s.heap h')(hok:HOk X.prog X.w H' h'):Inv X pins σ H' { s with heap:=h',toks:=t' }:=by
 obtain ⟨m,⟨o,es,ep,ho,r⟩,_⟩:=id I.loc;obtain ⟨sl,hL⟩:=u.any ho I.free (by simp);exact I.step (g':=s.gens) (d':=s.drawn) (ch:=[]) (λ_ z=>nomatch z) (λb o _ hb _ e n=>u.keep b o e n hb (by simp)) (λb o _ hb _ e n=>u.slot b o e n hb (by simp)) (λb o _ e n=>u.free b o e n (by simp)) (λb o _ e=>u.there b o e (by simp)) u.tups u.frzs u.tbls (λm' hm=>by
  obtain ⟨o',es',ep',ho',r'⟩:=hm;rw [ho] at ho';cases ho'
  exact ⟨_,es',ep',hL,r'⟩) hok I.bare
theorem Inv.call {g':Array GenState}{d':Drawn}(I:Inv X pins σ H s)(u:Un (frs X.stack) ch H H' s.heap h')(hok:HOk X.prog X.w H' h')(hg:AllBare g')
 (hch:∀b∈ch,(b∈X.ex\/X.s₀.heap.objs.size<=b)/\b≠X.env.locals/\(∀x c,X.env.cells.lookup x=some c->c≠b)/\∀p∈X.pn++pins,p.1≠b) :
 Inv X pins σ H' { s with heap:=h',gens:=g',drawn:=d',toks:=t' }:=by
 obtain ⟨m,⟨o,es,ep,ho,r⟩,_⟩:=id I.loc;obtain ⟨sl,hL⟩:=u.any ho I.free λz=>(hch _ z).2.1 rfl;exact I.step (ch:=ch) hch (λb o hL hb hc e n=>u.keep b o e n (λz=>(uk6.mp (I.stkSub b z)).elim hL hb) hc) (λb o _ _ hc e n=>u.any e n hc) (λb o hc e n=>u.free b o e n hc) (λb o hc e=>u.there b o e hc) u.tups u.frzs u.tbls (λm' hm=>by
  obtain ⟨o',es',ep',ho',r'⟩:=hm;rw [ho] at ho';cases ho'
  exact ⟨_,es',ep',hL,r'⟩) hok hg
theorem Inv.turned {it:Addr}(I:Inv X pins σ H s)(k:∀b o,b≠it->s.heap.get? b=some o->h'.get? b=some o)(hn:H it=none)(hL:it≠X.env.locals)
 (h1:it∈X.ex\/X.s₀.heap.objs.size<=it) (h2:∀x c,X.env.cells.lookup x=some c->c≠it) (h3:∀p∈X.pn++pins,p.1≠it):Inv X pins σ H { s with heap:=h',toks:=t' }:=by
 have nit:∀b u,H b=some u->b≠it:=λb u e z=>by rw [z,hn] at e;cases e
 refine I.step (g':=s.gens) (d':=s.drawn) (ch:=[it]) (λb hb=>?_) (λb o _ _ hc e _=>k b o (λz=>hc (by simp [z])) e) (λb o _ _ hc e _=>⟨o.slots,k b o (λz=>hc (by simp [z])) e⟩) (λ_ _ _ _ n=>n)
  (λb o hc e=>⟨o,k b o (λz=>hc (by simp [z])) e⟩) (λ_ _ e=>e) (λ_ _ _ e=>e) (λb ps e=>⟨#[],by rw [e];simp⟩) (λm hm=>?_) (λb u e=>?_) I.bare
 ·have e:b=it:=by simpa using hb
  subst e;exact ⟨h1,hL,h2,h3⟩
 ·obtain ⟨o,es,ep,ho,r⟩:=hm;exact ⟨o,es,ep,k _ o (Ne.symm hL) ho,r⟩
 ·refine (I.hok b u e).stay (λc v hc q=>k c v ?_ q) (λ_ q=>q) λ_ _ q=>q;rcases hc with z | z
  ·rw [z];exact nit b u e
  ·exact nit c _ z
theorem Inv.tok (I:Inv X pins σ H s)(t:Nat):Inv X pins σ H { s with toks:=t }:=I.un (h':=s.heap) (t':=t) Un.refl I.hok
theorem Inv.kept {t':Nat}(I:Inv X pins σ H s)(k:∀b u,s.heap.get? b=some u->h'.get? b=some u):Inv X pins σ H { s with heap:=h',toks:=t' }:=I.un (Un.kept k) (I.hok.kept k)
theorem Inv.laid {a:Addr}{o:HO}{t':Nat}(I:Inv X pins σ H s)(k:∀b u,s.heap.get? b=some u->h'.get? b=some u)(hp:s.heap.objs.size<=a)(new:ObjOk X.prog X.w (upd H a o) h' a o) :
 Inv X pins σ (upd H a o) { s with heap:=h',toks:=t' }:=I.un (Un.laid k hp (I.hok.fresh hp)) (I.hok.laid k hp new)
theorem Inv.write {x e:Addr}{o:HO}{t':Nat}(I:Inv X pins σ H s)(mu:Mut (H x))(he:e=x\/H e=some (.own x))(k:∀b u,b≠e->s.heap.get? b=some u->h'.get? b=some u)(heo:∃u,h'.get? e=some u)
 (new:ObjOk X.prog X.w (upd H x o) h' x o):Inv X pins σ (upd H x o) { s with heap:=h',toks:=t' }:=I.un (Un.write mu he k heo) (I.hok.write mu he k heo new)
theorem Inv.pins_of {pins':List (Addr×Obj)}(I:Inv X pins σ H s)(h:∀p∈pins',s.heap.get? p.1=some p.2/\H p.1=none/\p.1≠X.env.locals/\p.1∉X.fs/\∀v,p.2.data≠.cell v):Inv X pins' σ H s:=
 ⟨I.ok,I.os,I.bare,I.base,I.loc,I.cell,I.free,I.freeC,λp hp=>(ui3.mp hp).elim (λz=>I.pin p (ud8 _ z)) (h p),I.hok,I.len⟩
theorem Hw {N:List Str}(hN:N.Nodup){i j:Nat}{x:Str}(a:N[i]?=some x)(b:N[j]?=some x):i=j:=by
 obtain ⟨h1,e1⟩:=ub1.mp a;obtain ⟨h2,e2⟩:=ub1.mp b;exact (uh1 hN).mp (e1.trans e2.symm)
theorem Mt {M:Model}{A:Around}(I:Inv X pins σ H s)(hN:X.N.Nodup)(hi:X.N[i]?=some x)(hx:Loc X.env.scope x)(r:RelV v u)
 (h:∀s',Inv X pins (σ.set i (some v)) H s'->(∃a,Heap.SameBut a s.heap s'.heap/\(a=X.env.locals\/X.env.cells.lookup x=some a))->Q () s') (hf:X.fn x=true\/X.env.scope.names.lookup x=some .local:=by first | exact .inl rfl | exact .inr rfl | assumption):wpAny M A (storeName X.env x u) Q E s:=by
 obtain ⟨m,hn,hl⟩:=id I.loc;have hcls:(X.env.scope.kind == .class || (X.env.scope.kind == .module && X.env.locals != X.env.globals))=false:=by rw [I.ok.kind];rfl
 have hiσ:i < σ.length:=by rw [I.len];exact (ub1.mp hi).1
 have cne:=I.cne;have tracked:∀{a:Addr} {h':Heap},(∃o,s.heap.get? a=some o/\H a=none)->Heap.SameBut a s.heap h'->HOk X.prog X.w H h':=λ{a h'} ha hs b ob e=>by
  obtain ⟨_,_,hfree⟩:=ha;refine (I.hok b ob e).stay (λc w' hc q=>(hs.2 c ?_).trans q) (λ_ q=>q) λ_ _ q=>q;rintro rfl;rcases hc with rfl | hc
  ·rw [hfree] at e;cases e
  ·rw [hfree] at hc;cases hc
 rcases hx with hk | hk
 ·refine wpAny_storeName_local hk hn (λh' hn' hs=>?_) hcls;obtain ⟨oL,_,_,hoL,_⟩:=id hn;refine h _ ⟨I.ok,I.os,I.bare,⟨λb o e n hb hx=>?_,λb o e n hb hx=>?_,I.base.free,λb o e hx=>?_,I.base.tups,I.base.frzs,I.base.tbls⟩,⟨_,hn',λj y v' e1 e2 e3=>?_⟩,λy c e=>?_,I.free,I.freeC,λp hp=>?_,tracked ⟨oL,hoL,I.free⟩ hs,by simpa using I.len⟩ ⟨_,hs,.inl rfl⟩
  ·exact (hs.2 b (ul6 (uf0 (ul5 e) I.ok.above))).trans (I.base.keep b o e n hb hx)
  ·obtain ⟨sl,e1⟩:=I.base.slot b o e n hb hx;exact ⟨sl,(hs.2 b (ul6 (uf0 (ul5 e) I.ok.above))).trans e1⟩
  ·obtain ⟨o',e1⟩:=I.base.there b o e hx;exact ⟨o',(hs.2 b (ul6 (uf0 (ul5 e) I.ok.above))).trans e1⟩
  ·by_cases hj:j=i
   ·subst hj;rw [hi] at e1;cases e1
    rw [uc3 hiσ] at e2
    cases e2
    exact ⟨u,r,.inl ⟨hk,by simp⟩⟩
   ·rw [ud9 (Ne.symm hj)] at e2;obtain ⟨u',r',q⟩:=hl j y v' e1 e2 e3;refine ⟨u',r',?_⟩;rcases q with ⟨k,e⟩ | ⟨k,c,e,z⟩
    ·refine .inl ⟨k,?_⟩;have:y≠x:=λe=>hj (Hw hN e1 (e ▸ hi));simp [this,e]
    ·exact .inr ⟨k,c,e,z.sameBut hs (cne y c e)⟩
  ·obtain ⟨w',z⟩:=I.cell y c e;exact ⟨w',z.sameBut hs (cne y c e)⟩
  ·obtain ⟨e,n,ne,nf,d⟩:=I.pin p hp;exact ⟨(hs.2 p.1 ne).trans e,n,ne,nf,d⟩
 ·have hfn:X.fn x=true:=by
   rcases hf with z | z
   ·exact z
   ·rw [z] at hk;cases hk
  obtain ⟨c,hc⟩:=I.ok.has x (.inl hk);obtain ⟨w',z⟩:=I.cell x c hc;refine wpAny_storeName_cell I.ok.kind hk hc z (λh' hc' hs=>?_);obtain ⟨oc,hoc,hocd⟩:=id z;refine h { s with heap:=h' } ⟨I.ok,I.os,I.bare,⟨λb o e n hb hx=>?_,λb o e n hb hx=>?_,I.base.free,λb o e hx=>?_,I.base.tups,I.base.frzs,I.base.tbls⟩,⟨m,hn.sameBut hs (Ne.symm (cne x c hc)),λj y v' e1 e2 e3=>?_⟩,λy c' e=>?_,I.free,I.freeC,λp hp=>?_,tracked ⟨oc,hoc,I.freeC x c hc⟩ hs,by simpa using I.len⟩ ⟨c,hs,.inr hc⟩
  ·exact (hs.2 b (ul6 (uf0 (ul5 e) (I.ok.cab x c hfn hc)))).trans (I.base.keep b o e n hb hx)
  ·obtain ⟨sl,e1⟩:=I.base.slot b o e n hb hx;exact ⟨sl,(hs.2 b (ul6 (uf0 (ul5 e) (I.ok.cab x c hfn hc)))).trans e1⟩
  ·obtain ⟨o',e1⟩:=I.base.there b o e hx;exact ⟨o',(hs.2 b (ul6 (uf0 (ul5 e) (I.ok.cab x c hfn hc)))).trans e1⟩
  ·by_cases hj:j=i
   ·subst hj;rw [hi] at e1;cases e1
    rw [uc3 hiσ] at e2
    cases e2
    exact ⟨u,r,.inr ⟨.inl hk,c,hc,hc'⟩⟩
   ·rw [ud9 (Ne.symm hj)] at e2;obtain ⟨u',r',q⟩:=hl j y v' e1 e2 e3;refine ⟨u',r',?_⟩;rcases q with q | ⟨k,c',e,z'⟩
    ·exact .inl q
    ·refine .inr ⟨k,c',e,z'.sameBut hs ?_⟩;rintro rfl;exact hj (Hw hN e1 (I.ok.inj _ _ _ e hc ▸ hi))
  ·by_cases hcc:c'=c
   ·subst hcc;exact ⟨_,hc'⟩
   ·obtain ⟨w2,z2⟩:=I.cell y c' e;exact ⟨w2,z2.sameBut hs hcc⟩
  ·obtain ⟨e,n,ne,nf,d⟩:=I.pin p hp;refine ⟨(hs.2 p.1 ?_).trans e,n,ne,nf,d⟩;intro q;rw [q,hoc] at e;have q':oc=p.2:=ui4 e;exact d w' (by rw [<-q'];exact hocd)
theorem Gy {M:Model}{A:Around}(I:Inv X pins σ H s)(hN:X.N.Nodup)(hi:X.N[i]?=some x)(hx:Loc X.env.scope x)(r:RelV v u)
 (h:∀s',Inv X pins (σ.set i (some v)) H s'->Q () s') (hf:X.fn x=true\/X.env.scope.names.lookup x=some .local:=by first | exact .inl rfl | exact .inr rfl | assumption):wpAny M A (storeName X.env x u) Q E s:=
 Mt I hN hi hx r (λs' I' _=>h s' I') hf
theorem Inv.call' {s':Shared}(I:Inv X pins σ H s)(ho:s'.os=s.os)(u:Un (frs X.stack) ch H H' s.heap s'.heap)(hok:HOk X.prog X.w H' s'.heap)(hg:AllBare s'.gens)
 (hch:∀b∈ch,(b∈X.ex\/X.s₀.heap.objs.size<=b)/\b≠X.env.locals/\(∀x c,X.env.cells.lookup x=some c->c≠b)/\∀p∈X.pn++pins,p.1≠b):Inv X pins σ H' s':=by
 obtain ⟨h',g',d',t',o'⟩:=s';have e:o'=s.os:=ho;subst e;exact I.call (g':=g') (t':=t') (d':=d') u hok hg hch
end
abbrev XK:=Value->Option Addr->Hp->Prop
abbrev St:=List (Option V)
abbrev VK:=V->Hp->Prop
abbrev TE:=St->Hp->VK->Prop
abbrev TT:=St->Hp->(Bool->Hp->Prop)->Prop
abbrev TA:=St->Hp->(List V->Hp->Prop)->Prop
structure Ends where
 nx:St->Hp->Prop
 rt:VK
 bk:St->Hp->Prop:=λ_ _=>False
 ct:St->Hp->Prop:=λ_ _=>False
abbrev TS:=Ends->St->Hp->Prop
def EP (X:Cx)(pins:List (Addr×Obj))(σ:St)(Q:VK)(u:Value)(s':Shared):Prop:=∃v H',Inv X pins σ H' s'/\RelV v u/\Q v H'
def TP (X:Cx)(pins:List (Addr×Obj))(σ:St)(Q:Bool->Hp->Prop)(b:Bool)(s':Shared):Prop:=∃H',Inv X pins σ H' s'/\Q b H'
def AP (X:Cx)(pins:List (Addr×Obj))(σ:St)(Q:List V->Hp->Prop)(us:List Value)(s':Shared):Prop:=∃vs H',Inv X pins σ H' s'/\Vals vs us/\Q vs H'
def SP (X:Cx)(pins:List (Addr×Obj))(D:Ends)(f:Flow)(s':Shared):Prop:=
 match f with
 | .next=>∃σ' H',Inv X pins σ' H' s'/\D.nx σ' H'
 | .brk=>∃σ' H',Inv X pins σ' H' s'/\D.bk σ' H'
 | .cont=>∃σ' H',Inv X pins σ' H' s'/\D.ct σ' H'
 | .ret u=>∃v σ' H',Inv X pins σ' H' s'/\RelV v u/\D.rt v H'
def PE (X:Cx)(e:Expr)(t:TE):Prop:=
 ∀(pins:List (Addr×Obj)) (s:Shared) (σ:St) (H:Hp) (Q:VK),Inv X pins σ H s->t σ H Q->wpAny (model X.prog X.w) X.A (eval e X.env) (EP X pins σ Q) X.xe s
def PT (X:Cx)(e:Expr)(t:TT):Prop:=
 ∀(pins:List (Addr×Obj)) (s:Shared) (σ:St) (H:Hp) (Q:Bool->Hp->Prop),Inv X pins σ H s->t σ H Q->wpAny (model X.prog X.w) X.A (isTrue e X.env (eval e X.env)) (TP X pins σ Q) X.xe s
def PW (X:Cx)(e:Expr)(t:TT):Prop:=
 ∀(whole:Sem Value) (pins:List (Addr×Obj)) (s:Shared) (σ:St) (H:Hp) (Q:Bool->Hp->Prop),Inv X pins σ H s->t σ H Q->wpAny (model X.prog X.w) X.A (isTrue e X.env whole) (TP X pins σ Q) X.xe s
variable {X:Cx}{e:Expr}
theorem PW.pt {t:TT}(h:PW X e t):PT X e t:=h _
def PA (X:Cx)(es:List Expr)(t:TA):Prop:=
 ∀(pos:Pos) (pins:List (Addr×Obj)) (s:Shared) (σ:St) (H:Hp) (Q:List V->Hp->Prop),Inv X pins σ H s->t σ H Q->wpAny (model X.prog X.w) X.A (spliced (backTo pos (starEach es X.env))) (AP X pins σ Q) X.xe s
def PS (X:Cx)(st:Stmt)(t:TS):Prop:=
 ∀(pins:List (Addr×Obj)) (s:Shared) (σ:St) (H:Hp) (D:Ends),Inv X pins σ H s->t D σ H->wpAny (model X.prog X.w) X.A (exec st X.env) (SP X pins D) X.xe s
def PSs (X:Cx)(st:List Stmt)(t:TS):Prop:=
 ∀(pins:List (Addr×Obj)) (s:Shared) (σ:St) (H:Hp) (D:Ends),Inv X pins σ H s->t D σ H->wpAny (model X.prog X.w) X.A (execs st X.env) (SP X pins D) X.xe s
variable {s:Shared}
theorem thn {α:Type}{t:Sem α}{Q Q':α->Shared->Prop}{M:Model}{A:Around}(h:wpAny M A t Q E s)(hQ:∀a s,Q a s->Q' a s):wpAny M A t Q' E s:=un6 h hQ λ_ _ x=>x
variable {pins:List (Addr×Obj)}{σ:St}{c:Expr}
section
variable {X:Cx}
def Yi (i:Nat):TE:=λσ H Q=>∃v,σ[i]?=some (some v)/\Q v H
def tC (v:V):TE:=λ_ H Q=>Q v H
theorem DB {pos:Pos}(hN:X.N[i]?=some x)(hv:Vis X.env.scope x)(hd:(x == ("__debug__" : Str))=false:=by decide)(hcd:(x == ("__classdict__" : Str))=false:=by decide):PE X (.Name x pos) (Yi i):=by
 intro pins s σ H Q I h;obtain ⟨v,e,h⟩:=h;obtain ⟨m,hn,hl⟩:=I.loc;obtain ⟨u,r,l⟩:=hl i x v hN e hv;have fin:EP X pins σ Q u s:=⟨v,H,I,r,h⟩;rcases l with ⟨hk,hm⟩ | ⟨hk,c,hc,hcell⟩
 ·exact wpAny_Name (wpAny_loadName_local I.ok.kind hk hn hm fin) hd
 ·rcases hk with hk | hk
  ·exact wpAny_Name (wpAny_loadName_cell I.ok.kind hk hc hcell fin) hd
  ·exact wpAny_Name (wpAny_loadName_free I.ok.kind hk hc hcell fin hcd) hd
theorem Xs {i j pos}:PE X (.Constant (.int i) j pos) (tC (.int i)):=λ_ _ _ H _ I h=>wpAny_Constant_int ⟨.int i,H,I.tok _,⟨_,rfl⟩,h⟩
theorem YL {b j pos}:PE X (.Constant (.bool b) j pos) (tC (.bl b)):=λ_ _ _ H _ I h=>Constant_bool ⟨.bl b,H,I,rfl,h⟩
theorem Xu {j pos}:PE X (.Constant .none j pos) (tC .non):=λ_ _ _ H _ I h=>Constant_none ⟨.non,H,I,rfl,h⟩
theorem Sd {x j pos}:PE X (.Constant (.str x) j pos) (tC (.str x)):=λ_ _ _ H _ I h=>Calls.Constant_str ⟨.str x,H,I.tok _,⟨_,rfl⟩,h⟩
def Gl (X:Cx)(x:Str):Prop:=X.env.kindOf x=some .globalImplicit
theorem D9 {pos:Pos}{Q:Value->Shared->Prop}(I:Inv X pins σ H s)(hg:Gl X x)(hm:X.mg x=some u)(h:Q u s)
 (hd:(x == ("__debug__" : Str))=false:=by decide):wpAny (model X.prog X.w) X.A (eval (.Name x pos) X.env) Q E s:=
 Calls.Name_function_global I.ok.kind hg (Calls.loadGlobal_global (by rw [I.ok.glob];exact I.mod.glob.keeps I.bk) hm h) hd
theorem Ik {pos:Pos}{Q:Value->Shared->Prop}(I:Inv X pins σ H s)(hg:Gl X x)(hm:X.mg x=none)(hv:bootBuiltins x=some u)(h:Q u s)
 (hn:x≠"__name__":=by decide) (hd:(x == ("__debug__" : Str))=false:=by decide):wpAny (model X.prog X.w) X.A (eval (.Name x pos) X.env) Q E s:=by
 obtain ⟨mb,h1,h2⟩:=I.mod.blt;exact Calls.Name_function_global I.ok.kind hg (Calls.loadGlobal_builtin (by rw [I.ok.glob];exact I.mod.glob.keeps I.bk) hm (by rw [I.ok.blt];exact h1.keeps I.bk) ((h2 x hn).trans hv) h) hd
theorem Pp {pos:Pos}(hg:Gl X x)(hm:X.mg x=some u)(r:RelV v u)(hd:(x == ("__debug__" : Str))=false:=by decide):PE X (.Name x pos) (tC v):=
 λ_ _ _ H _ I h=>D9 I hg hm ⟨v,H,I,r,h⟩ hd
theorem VN {pos:Pos}(hg:Gl X x)(hm:X.mg x=none)(hv:bootBuiltins x=some u)(r:RelV v u)(hn:x≠"__name__":=by decide)(hd:(x == ("__debug__" : Str))=false:=by decide):PE X (.Name x pos) (tC v):=
 λ_ _ _ H _ I h=>Ik I hg hm hv ⟨v,H,I,r,h⟩ hn hd
variable {a b:Expr}{ta tb:TE}{pos:Pos}
def tB (t:TE):TT:=λσ H Q=>t σ H λx H1=>∃c,x = .bl c/\Q c H1
theorem XI {t:TE}(h:PE X e t)(he:∀whole,isTrue e X.env whole=(do let v <-whole;standAt e.pos;holding [v] (truthy v)):=by intro _;rfl):PT X e (tB t):=by
 intro pins s σ H Q I hw;refine isTrue_plain (thn (h pins s σ H _ I hw) λv s1 z9=>?_) (he _);obtain ⟨x,H1,I1,r1,q1⟩:=z9;obtain ⟨d,rfl,q⟩:=q1
 cases r1
 exact wpAny_truthy_bool ⟨H1,I1,q⟩
variable {tA tB':TT}{rest:List Expr}
def ag (t u:TT):TT:=λσ H Q=>t σ H λc H1=>if c=true then u σ H1 Q else Q false H1
def tOr (t u:TT):TT:=λσ H Q=>t σ H λc H1=>if c=true then Q true H1 else u σ H1 Q
def ao (t:TT):TT:=λσ H Q=>t σ H λc H1=>Q (!c) H1
theorem V3 (ha:PT X a tA):PW X (.BoolOp .And [a] pos) tA:=by
 intro wh pins s σ H Q I h;refine isTrue_and (thn (ha pins s σ H Q I h) λc s1 e=>?_)
 cases c with
 | true=>exact isTrue_and_nil e
 | false=>exact e
theorem XN (ha:PT X a tA):PW X (.BoolOp .Or [a] pos) tA:=by
 intro wh pins s σ H Q I h;refine isTrue_or (thn (ha pins s σ H Q I h) λc s1 e=>?_)
 cases c with
 | false=>exact isTrue_or_nil e
 | true=>exact e
theorem XL (ha:PT X a tA)(hb:PW X (.BoolOp .And (b :: rest) pos) tB'):PW X (.BoolOp .And (a :: b :: rest) pos) (ag tA tB'):=by
 intro wh pins s σ H Q I h;refine isTrue_and (thn (ha pins s σ H _ I h) λc s1 z9=>?_);obtain ⟨H1,I1,q1⟩:=z9
 cases c with
 | true=>exact hb wh pins s1 σ H1 Q I1 q1
 | false=>exact ⟨H1,I1,q1⟩
theorem YU (ha:PT X a tA)(hb:PW X (.BoolOp .Or (b :: rest) pos) tB'):PW X (.BoolOp .Or (a :: b :: rest) pos) (tOr tA tB'):=by
 intro wh pins s σ H Q I h;refine isTrue_or (thn (ha pins s σ H _ I h) λc s1 z9=>?_);obtain ⟨H1,I1,q1⟩:=z9
 cases c with
 | true=>exact ⟨H1,I1,q1⟩
 | false=>exact hb wh pins s1 σ H1 Q I1 q1
theorem XH (ha:PT X a tA):PT X (.UnaryOp .Not a pos) (ao tA):=by
 intro pins s σ H Q I h;exact isTrue_not (ha pins s σ H (λc H1=>Q (!c) H1) I h)
def YZ (ta tb:TE):TE:=λσ H Q=>ta σ H λx H1=>∃c,x = .bl c/\if c=true then tb σ H1 Q else Q (.bl false) H1
def Y4 (ta:TE):TE:=λσ H Q=>ta σ H λx H1=>∃c,x = .bl c/\Q (.bl (!c)) H1
theorem Xw {op}{t:TE}(h:PE X a t):PE X (.BoolOp op [a] pos) t:=λpins s σ H Q I hw=>BoolOp_one (h pins s σ H Q I hw)
theorem Xr (ha:PE X a ta)(hb:PE X (.BoolOp .And (b :: rest) pos) tb):PE X (.BoolOp .And (a :: b :: rest) pos) (YZ ta tb):=by
 intro pins s σ H Q I h;refine BoolOp_and (thn (ha pins s σ H _ I h) λv s1 z9=>?_);obtain ⟨x,H1,I1,r1,q1⟩:=z9;obtain ⟨c,rfl,q1⟩:=q1
 cases r1
 refine wpAny_truthy_bool ?_
 cases c with
 | true=>exact hb pins s1 σ H1 Q I1 q1
 | false=>exact ⟨.bl false,H1,I1,rfl,q1⟩
theorem Xv (ha:PE X a ta):PE X (.UnaryOp .Not a pos) (Y4 ta):=by
 intro pins s σ H Q I h;refine UnaryOp_ (thn (ha pins s σ H _ I h) λv s1 z9=>?_);obtain ⟨x,H1,I1,r1,q1⟩:=z9;obtain ⟨c,rfl,q1⟩:=q1
 cases r1
 exact not_of (wpAny_truthy_bool ⟨.bl (!c),H1,I1,rfl,q1⟩)
def tIf (t:TT)(ta tb:TE):TE:=λσ H Q=>t σ H λc H1=>if c=true then ta σ H1 Q else tb σ H1 Q
theorem TX (hc:PT X c tA)(ha:PE X a ta)(hb:PE X b tb):PE X (.IfExp c a b pos) (tIf tA ta tb):=by
 intro pins s σ H Q I h;refine wpAny_IfExp (thn (hc pins s σ H _ I h) λd s1 z9=>?_);obtain ⟨H1,I1,q1⟩:=z9
 cases d with
 | true=>exact ha pins s1 σ H1 Q I1 q1
 | false=>exact hb pins s1 σ H1 Q I1 q1
end
def SqL (K:PySem.W.Frag)(H:Hp)(a:Addr)(xs:List V):Prop:=
 Rd H a (.lst xs)\/
  ∃(o:Obj) (its:Array Value) (n:Nat),K.lookup a=some o/\o.cls = .type "list"/\o.dict=none/\o.data = .seq its n/\its.size<=sizeLine/\Vals xs its.toList
def SqT (K:PySem.W.Frag)(H:Hp)(a:Addr)(xs:List V):Prop:=
 Rd H a (.tup xs)\/
  ∃(o:Obj) (its:Array Value) (n:Nat),K.lookup a=some o/\o.cls = .type "tuple"/\o.data = .seq its n/\its.size<=sizeLine/\Vals xs its.toList
noncomputable def ZW:Value->Option V
 | .none=>some .non
 | .bool b=>some (.bl b)
 | .int i _=>some (.int i)
 | .str x _=>some (.str x)
 | .bytes b _=>some (.byt b)
 | .float b _=>some (.flt b)
 | .ref a=>some (.ref a)
 | .type n=>some (.ty n)
 | _=>none
theorem RelV.abs {x:V}(r:RelV x u):ZW u=some x:=by
 cases x with
 | non=>cases r;rfl
 | bl _=>cases r;rfl
 | int _=>obtain ⟨t,rfl⟩:=r;rfl
 | str _=>obtain ⟨t,rfl⟩:=r;rfl
 | byt _=>obtain ⟨t,rfl⟩:=r;rfl
 | flt _=>obtain ⟨t,rfl⟩:=r;rfl
 | ref _=>cases r;rfl
 | ty _=>cases r;rfl
theorem RelV.inj {x y:V}{u:Value}(r:RelV x u)(q:RelV y u):x=y:=ui4 (r.abs.symm.trans q.abs)
theorem Vals.inj {xs ys:List V}{us:List Value}(a:Vals xs us)(b:Vals ys us):xs=ys:=by
 cases a with
 | nil=>
   cases b
   rfl
 | cons r t=>
   cases b with
   | cons r' t'=>rw [r.inj r',Vals.inj t t']
variable {K:PySem.W.Frag}
section
variable {X:Cx}{pins:List (Addr×Obj)}{σ:St}{H:Hp}{s:Shared}{a:Addr}{xs ys:List V}
theorem SqL.of (h:H a=some (.lst xs)):SqL K H a xs:=.inl (.inl h)
theorem SqT.of (h:H a=some (.tup xs)):SqT K H a xs:=.inl (.inl h)
theorem Inv.list (I:Inv X pins σ H s)(h:SqL X.K H a xs):∃its:List Value,Vals xs its/\PlainL s.heap a its.toArray/\xs.length<=sizeLine:=by
 rcases h with h | ⟨o,its,n,hk,hc,hd,hs,hz,r⟩
 ·obtain ⟨z,its,n,r,e⟩:=h.ok I.hok;exact ⟨its,r,⟨_,n,e,rfl,rfl,rfl⟩,z⟩
 ·refine ⟨its.toList,r,⟨o,n,I.kIn a o hk,hc,hd,by simpa using hs⟩,?_⟩;have e:=r.length;simp only [ue3] at e;lia
theorem Inv.tuple (I:Inv X pins σ H s)(h:SqT X.K H a xs):∃its:List Value,Vals xs its/\IsTup s.heap a its.toArray/\xs.length<=sizeLine:=by
 rcases h with h | ⟨o,its,n,hk,hc,hs,hz,r⟩
 ·obtain ⟨z,its,r,p⟩:=h.ok I.hok;exact ⟨its,r,p,z⟩
 ·refine ⟨its.toList,r,⟨o,I.kIn a o hk,hc,n,by simpa using hs⟩,?_⟩;have e:=r.length;simp only [ue3] at e;lia
theorem Inv.list_inj (I:Inv X pins σ H s)(h:SqL X.K H a xs)(h':SqL X.K H a ys):xs=ys:=by
 obtain ⟨its,r,⟨o,n,e,_,_,d⟩,_⟩:=I.list h;obtain ⟨its',r',⟨o',n',e',_,_,d'⟩,_⟩:=I.list h';rw [e] at e';cases e'
 rw [d] at d';injection d' with d1 _
 have:its=its':=by simpa using congrArg Array.toList d1
 subst this;exact r.inj r'
theorem Inv.tuple_inj (I:Inv X pins σ H s)(h:SqT X.K H a xs)(h':SqT X.K H a ys):xs=ys:=by
 obtain ⟨its,r,⟨o,e,_,n,d⟩,_⟩:=I.tuple h;obtain ⟨its',r',⟨o',e',_,n',d'⟩,_⟩:=I.tuple h';rw [e] at e';cases e'
 rw [d] at d';injection d' with d1 _
 have:its=its':=by simpa using congrArg Array.toList d1
 subst this;exact r.inj r'
end
abbrev Cx.wish (X:Cx)(E:Value->Shared->Prop):Cx:={ X with xe:=E }
abbrev Cx.nox (X:Cx):Cx:=X.wish λ_ _=>False
theorem Cx.Ok.wish {X:Cx}(ok:X.Ok)(E:Value->Shared->Prop):(X.wish E).Ok:=
 ⟨ok.mod,ok.kind,ok.glob,ok.blt,ok.above,ok.inj,ok.has,ok.cab,ok.hd,ok.frames,ok.stk,ok.exf,ok.bs,ok.bsz,ok.noex,ok.exfs,ok.funs,ok.frf⟩
theorem Cx.Ok.unwish (ok:(X.wish E).Ok):X.Ok:=
 ⟨ok.mod,ok.kind,ok.glob,ok.blt,ok.above,ok.inj,ok.has,ok.cab,ok.hd,ok.frames,ok.stk,ok.exf,ok.bs,ok.bsz,ok.noex,ok.exfs,ok.funs,ok.frf⟩
section
variable {X:Cx}{pins:List (Addr×Obj)}{σ:St}{H:Hp}{s:Shared}{E:Value->Shared->Prop}
theorem Inv.wish (I:Inv X pins σ H s)(E:Value->Shared->Prop):Inv (X.wish E) pins σ H s:=⟨I.ok.wish E,I.os,I.bare,I.base,I.loc,I.cell,I.free,I.freeC,I.pin,I.hok,I.len⟩
theorem Inv.unwish (I:Inv (X.wish E) pins σ H s):Inv X pins σ H s:=⟨I.ok.unwish,I.os,I.bare,I.base,I.loc,I.cell,I.free,I.freeC,I.pin,I.hok,I.len⟩
theorem SP.unwish {D:Ends}{f:Flow}{s':Shared}(h:SP (X.wish E) pins D f s'):SP X pins D f s':=by
 cases f with
 | next=>obtain ⟨σ',H',I,q⟩:=h;exact ⟨σ',H',I.unwish,q⟩
 | brk=>obtain ⟨σ',H',I,q⟩:=h;exact ⟨σ',H',I.unwish,q⟩
 | cont=>obtain ⟨σ',H',I,q⟩:=h;exact ⟨σ',H',I.unwish,q⟩
 | ret u=>obtain ⟨v,σ',H',I,r,q⟩:=h;exact ⟨v,σ',H',I.unwish,r,q⟩
theorem PSs.nox {st:List Stmt}{t:TS}(h:PSs X.nox st t):PSs X st t:=λpins s σ H D I hw=>
 un6 (h pins s σ H D (I.wish _) hw) (λ_ _ q=>q.unwish) λ_ _ z=>False.elim z
end
section
variable {X:Cx}{st:Stmt}{rest:List Stmt}{t u:TS}{e:Expr}{te:TE}{pos:Pos}
def Y3:TS:=λD σ H=>D.nx σ H
def aq (t u:TS):TS:=λD σ H=>t { D with nx:=u D } σ H
theorem V0:PSs X [] Y3:=λ_ _ σ H _ I h=>wpAny_execs_nil ⟨σ,H,I,h⟩
theorem JX (h1:PS X st t)(h2:PSs X rest u):PSs X (st :: rest) (aq t u):=by
 intro pins s σ H D I h;refine wpAny_execs_cons (thn (h1 pins s σ H { D with nx:=u D } I h) λf s1 q=>?_)
 cases f with
 | next=>
   obtain ⟨σ',H',I',q⟩:=q;exact h2 pins s1 σ' H' D I' q
 | ret v=>exact q
 | brk=>exact q
 | cont=>exact q
theorem G6 (h1:PS X st t):PSs X [st] t:=by
 intro pins s σ H D I h;refine wpAny_execs_cons (thn (h1 pins s σ H D I h) λf s1 q=>?_)
 cases f with
 | next=>exact wpAny_execs_nil q
 | ret v=>exact q
 | brk=>exact q
 | cont=>exact q
def Yf:TS:=λD σ H=>D.bk σ H
theorem T4:PS X (.Break pos) Yf:=λ_ _ σ H _ I h=>wpAny_Break ⟨σ,H,I,h⟩
theorem Inv.quiet (I:Inv X pins σ H s):interactive X.env=false:=by simp [interactive,I.ok.kind]
def UQ (te:TE):TS:=λD σ H=>te σ H λ_ H1=>D.nx σ H1
theorem LS (he:PE X e te)(hs:swapsWith e none pos.line X.env=pure false:=by rfl):PS X (.Expr e pos) (UQ te):=by
 intro pins s σ H D I h;exact wpAny_Expr_any (thn (he pins s σ H _ I h) λv s1 z9=>by obtain ⟨x,H1,I1,r1,q1⟩:=z9;exact ⟨σ,H1,I1,q1⟩) I.quiet hs
def ap (te:TE):TS:=λD σ H=>te σ H D.rt
theorem Iw (he:PE X e te):PS X (.Return (some e) pos) (ap te):=by
 intro pins s σ H D I h;exact wpAny_Return_some (thn (he pins s σ H _ I h) λv s1 z9=>by obtain ⟨x,H1,I1,r1,q1⟩:=z9;exact ⟨x,σ,H1,I1,r1,q1⟩)
def ak (c:TT)(t u:TS):TS:=λD σ H=>c σ H λb H1=>if b=true then t D σ H1 else u D σ H1
theorem YT {a b:List Stmt}{tc:TT}(hc:PT X c tc)(ha:PSs X a t)(hb:PSs X b u):PS X (.If c a b pos) (ak tc t u):=by
 intro pins s σ H D I h;refine wpAny_If (thn (hc pins s σ H _ I h) λd s1 z9=>?_);obtain ⟨H1,I1,q1⟩:=z9
 cases d with
 | true=>exact ha pins s1 σ H1 D I1 q1
 | false=>exact hb pins s1 σ H1 D I1 q1
end
abbrev TG:=V->St->Hp->(St->Hp->Prop)->Prop
abbrev TGs:=List V->St->Hp->(St->Hp->Prop)->Prop
def PG (X:Cx)(target:Expr)(t:TG):Prop:=
 ∀(pins:List (Addr×Obj)) (s:Shared) (σ:St) (H:Hp) (v:V) (u:Value) (Q:St->Hp->Prop),Inv X pins σ H s->RelV v u->t v σ H Q->
  wpAny (model X.prog X.w) X.A (assign target X.env u) (λ_ s'=>∃σ' H',Inv X pins σ' H' s'/\Q σ' H') X.xe s
def PGs (X:Cx)(ts:List Expr)(t:TGs):Prop:=
 ∀(pins:List (Addr×Obj)) (s:Shared) (σ:St) (H:Hp) (vs:List V) (us:List Value) (Q:St->Hp->Prop),Inv X pins σ H s->Vals vs us->t vs σ H Q->
  wpAny (model X.prog X.w) X.A (assignInOrder ((assignEach ts X.env).map (·.2)) us) (λ_ s'=>∃σ' H',Inv X pins σ' H' s'/\Q σ' H') X.xe s
abbrev SV:=V->V->V->Hp->(Hp->Prop)->Prop
def WL (X:Cx)(t:SV):Prop:=
 ∀(pins:List (Addr×Obj)) (s:Shared) (σ:St) (H:Hp) (o i v:V) (ov iv u:Value) (Q:Hp->Prop),Inv X pins σ H s->RelV o ov->RelV i iv->RelV v u->t o i v H Q->
  wpAny (model X.prog X.w) X.A (setItem ov iv u) (λ_ s'=>∃H',Inv X pins σ H' s'/\Q H') X.xe s
variable {tg:Expr}
section
variable {X:Cx}{pos:Pos}
def MY (i:Nat):TG:=λv σ H Q=>Q (σ.set i (some v)) H
theorem VR (hN:X.N.Nodup)(hi:X.N[i]?=some x)(hx:Loc X.env.scope x)(hf:X.fn x=true\/X.env.scope.names.lookup x=some .local:=by first | exact .inl rfl | exact .inr rfl | assumption):PG X (.Name x pos) (MY i):=by
 intro pins s σ H v u Q I r h;exact wpAny_assign_Name (Gy I hN hi hx r (λs' I'=>⟨_,H,I',h⟩) hf)
def Z7:TGs:=λvs σ H Q=>vs=[]/\Q σ H
def UC (t:TG)(u:TGs):TGs:=λvs σ H Q=>∃v r,vs=v :: r/\t v σ H λσ' H'=>u r σ' H' Q
theorem VS:PGs X [] Z7:=by
 intro pins s σ H vs us Q I r h;obtain ⟨e,h⟩:=h;subst e
 cases r
 exact assignInOrder_nil ⟨σ,H,I,h⟩
theorem T0 {es:List Expr}{t:TG}{u:TGs}(h1:PG X e t)(h2:PGs X es u)
 (hs:(assignEach (e :: es) X.env).map (·.2)=assign e X.env :: (assignEach es X.env).map (·.2):=by rfl):PGs X (e :: es) (UC t u):=by
 intro pins s σ H vs us Q I r h;obtain ⟨v,vr,e1,h⟩:=h;subst e1
 cases r with
 | cons r rr=>
   rw [hs];refine assignInOrder_cons (thn (h1 pins s σ H _ _ _ I r h) λ_ s1 z9=>?_);obtain ⟨σ1,H1,I1,q1⟩:=z9;exact h2 pins s1 σ1 H1 _ _ Q I1 rr q1
def Z9 (K:PySem.W.Frag)(n:Nat)(t:TGs):TG:=λv σ H Q=>∃a xs,v = .ref a/\SqT K H a xs/\xs.length=n/\t xs σ H Q
theorem Xz {es:List Expr}{k:Nat}{t:TGs}{n:Nat}(hc:X.calm=true)(h:PGs X es t)
 (hn:(assignEach es X.env).length=n:=by rfl) (hst:(assignEach es X.env).findIdx? (·.1)=none:=by rfl):PG X (.Tuple es k pos) (Z9 X.K n t):=by
 intro pins s σ H v u Q I r hw;obtain ⟨a,xs,e1,hq,hl,hw⟩:=hw;subst e1
 cases r
 obtain ⟨its,rv,ht,hz⟩:=I.tuple hq;refine assign_Tuple_tuple (I.ok.hd hc) ht (by simp [hn,<-hl,rv.length]) hst λh' hx=>?_;have I1:Inv X pins σ H { s with heap:=h' }:=I.kept (t':=s.toks) λb o e=>hx b o (ul6 (ul5 e)) e;exact h pins _ σ H xs _ Q I1 (by simpa using rv) hw
def Z8 (to ti:TE)(t:SV):TG:=λv σ H Q=>to σ H λo H1=>ti σ H1 λi H2=>t o i v H2 λH3=>Q σ H3
theorem Xy {o i:Expr}{to ti:TE}{t:SV}(ho:PE X o to)(hi:PE X i ti)(hs:WL X t)
 (ha:∀v,assign (.Subscript o i pos) X.env v=(do
   let ov <-holding [v] (eval o X.env)
   let iv <-holding [v,ov] (eval i X.env)
   standAt pos
   holding [v,ov,iv] (setItem ov iv v)
   release [v,ov,iv] []):=by intro _;rfl):PG X (.Subscript o i pos) (Z8 to ti t):=by
 intro pins s σ H v u Q I r h;rw [ha];refine un4 (ul4 (thn (ho pins s σ H _ I h) λov s1 z9=>?_));obtain ⟨x,H1,I1,r1,q1⟩:=z9;refine un4 (ul4 (thn (hi pins s1 σ H1 _ I1 q1) λiv s2 z9=>?_));obtain ⟨y,H2,I2,r2,q2⟩:=z9;refine un4 (wpAny_standAt (un4 (ul4 (thn (hs pins s2 σ H2 x y v ov iv u _ I2 r1 r2 r q2) λ_ s3 z9=>?_))));obtain ⟨H3,I3,q3⟩:=z9;exact wpAny_release ⟨σ,H3,I3,q3⟩
def QG (te:TE)(g:TG):TS:=λD σ H=>te σ H λx H1=>g x σ H1 D.nx
theorem Sj {te:TE}{g:TG}(he:PE X e te)(hg:PG X tg g)(hs:swapsWithSole [tg] e pos.line X.env=pure false:=by rfl)(hw:swappedStores [tg] e X.env=pure none:=by rfl)
 (h1:(assignEach [tg] X.env).map (·.2)=[assign tg X.env]:=by rfl):PS X (.Assign [tg] e pos) (QG te g):=by
 intro pins s σ H D I h;refine wpAny_Assign_stores (thn (he pins s σ H _ I h) λv s1 z9=>?_) hs hw;obtain ⟨x,H1,I1,r1,q1⟩:=z9;rw [h1];exact thn (hg pins s1 σ H1 x v _ I1 r1 q1) λ_ s2 q=>q
theorem Od {te:TE}{pos':Pos}(hN:X.N.Nodup)(hi:X.N[i]?=some x)(hx:Loc X.env.scope x)(he:PE X e te)(hs:swapsWith e (some (.Name x pos')) pos.line X.env=pure false:=by rfl)(hf:X.fn x=true\/X.env.scope.names.lookup x=some .local:=by first | exact .inl rfl | exact .inr rfl | assumption) :
 PS X (.Assign [.Name x pos'] e pos) (QG te (MY i)):=by
 intro pins s σ H D I h;refine wpAny_Assign_Name (thn (he pins s σ H _ I h) λv s1 z9=>?_) hs;obtain ⟨y,H1,I1,r1,q1⟩:=z9;exact Gy I1 hN hi hx r1 (λs2 I2=>⟨_,H1,I2,q1⟩) hf
end
section
variable {X:Cx}{pos:Pos}
def SG (c:TT)(tb:TS):TS:=λD σ H=>∃W:Nat->St->Hp->Prop,(∃m,W m σ H)/\∀m σ H,W m σ H->
 c σ H λb H1=>if b=true then ∃N:St->Hp->Prop,(∀σ' H',N σ' H'->∃m',m' < m/\W m' σ' H')/\tb { D with nx:=N,ct:=N,bk:=D.nx } σ H1 else D.nx σ H1
theorem T5 {body:List Stmt}{tc:TT}{tb:TS}(hp:PassesOwn (model X.prog X.w) X.A X.env X.xe)(hc:PT X c tc)(hb:PSs X body tb):PS X (.While c body [] pos) (SG tc tb):=by
 intro pins s σ H D I h;obtain ⟨W,⟨m0,w0⟩,turn⟩:=h;refine wpAny_While (codeAny_whileLoop (λn s'=>∃σ' H',Inv X pins σ' H' s'/\W n σ' H') ?_ m0 ⟨σ,H,I,w0⟩);rintro n s1 ⟨σ1,H1,I1,w1⟩;refine wpAny_passesOwn hp (thn (hc pins s1 σ1 H1 _ I1 (turn n σ1 H1 w1)) λb s2 z9=>?_);obtain ⟨H2,I2,q2⟩:=z9
 cases b with
 | true=>
   obtain ⟨N,hN,q2⟩:=q2;rw [if_pos rfl];refine wpAny_passesOwn hp (thn (hb pins s2 σ1 H2 _ I2 q2) λf s3 q3=>?_)
   cases f with
   | next=>
     obtain ⟨σ3,H3,I3,n3⟩:=q3;obtain ⟨m',hm,w3⟩:=hN σ3 H3 n3;exact ⟨m',hm,σ3,H3,I3,w3⟩
   | cont=>
     obtain ⟨σ3,H3,I3,n3⟩:=q3;obtain ⟨m',hm,w3⟩:=hN σ3 H3 n3;exact ⟨m',hm,σ3,H3,I3,w3⟩
   | brk=>exact q3
   | ret v=>exact q3
 | false=>
   rw [if_neg uf2];exact wpAny_execs_nil ⟨σ1,H2,I2,q2⟩
end
structure It where
 go:Nat->Hp->Prop
 yld:Nat->Hp->V->Hp->Prop
 stop:Nat->Hp->Prop
def FpOk (X:Cx)(pins:List (Addr×Obj))(H:Hp)(b:Addr):Prop:=
 H b=none/\b≠X.env.locals/\b∉X.fs/\(b∈X.ex\/X.s₀.heap.objs.size<=b)/\(∀x c,X.env.cells.lookup x=some c->c≠b)/\∀p∈X.pn++pins,p.1≠b
theorem Inv.fpOk {H':Hp}(I:Inv X pins σ H s)(hb:s.heap.objs.size<=b)(hn:H' b=none):FpOk X pins H' b:=by
 refine ⟨hn,ul8 (uf0 I.lt hb),I.nofs hb,.inr (ul7 I.sz hb),λx c e z=>?_,λp hp z=>?_⟩
 ·obtain ⟨v,q⟩:=I.cell x c e;exact absurd (uf0 q.lt (by rw [z];exact hb)) (uk5 _)
 ·exact absurd (uf0 (ul5 (I.pin p hp).1) (by rw [z];exact hb)) (uk5 _)
structure Turn (P:Program)(w:World)(K:PySem.W.Frag)(tg:Expr)(J:It)(fp:List Addr)(it:Addr)(tn:Nat->Heap->Prop):Prop where
 mem:it∈fp
 obj:∀i h,tn i h->∀b∈fp,∃o,h.get? b=some o/\∀v,o.data≠.cell v
 keep:∀i h h',tn i h->(∀b∈fp,∀o,h.get? b=some o->h'.get? b=some o)->tn i h'
 item:∀(X:Cx),X.prog=P->X.w=w->X.K=K->X.calm=true->∀(i:Nat) (pins:List (Addr×Obj)) (s:Shared) (σ:St) (H:Hp) (E:Value->Shared->Prop),Inv X pins σ H s->(∀b∈fp,FpOk X pins H b)->tn i s.heap->J.go i H->
  wpAny (model P w) X.A (pyNext (.ref it)) (λr s1=>∃u,r=some u/\
   wpAny (model P w) X.A (letOwnedTupleGo tg (.ref it) u) (λ_ s2=>∃x H',Inv X pins σ H' s2/\RelV x u/\J.yld i H x H'/\tn (i + 1) s2.heap/\∀b∈fp,H' b=none) E s1) E s
 done:∀(X:Cx),X.prog=P->X.w=w->X.K=K->X.calm=true->∀(i:Nat) (pins:List (Addr×Obj)) (s:Shared) (σ:St) (H:Hp) (E:Value->Shared->Prop),Inv X pins σ H s->(∀b∈fp,FpOk X pins H b)->tn i s.heap->J.stop i H->
  wpAny (model P w) X.A (pyNext (.ref it)) (λr s1=>r=none/\Inv X pins σ H s1) E s
 self:∀(A:Around) (i:Nat) (s:Shared) (Q:Value->Shared->Prop) (E:Value->Shared->Prop),tn i s.heap->Q (.ref it) s->wpAny (model P w) A (pyIter (.ref it)) Q E s
abbrev TI:=St->Hp->(It->Hp->Prop)->Prop
def PIE (X:Cx)(pins:List (Addr×Obj))(σ:St)(tg:Expr)(R:It->Hp->Prop)(itv:Value)(s2:Shared):Prop:=
 ∃(it:Addr) (fp:List Addr) (tn:Nat->Heap->Prop) (J:It) (H':Hp),itv = .ref it/\Inv X pins σ H' s2/\Turn X.prog X.w X.K tg J fp it tn/\tn 0 s2.heap/\(∀b∈fp,FpOk X pins H' b)/\R J H'
def PI (X:Cx)(tg iter:Expr)(wi:TI):Prop:=
 ∀(pins:List (Addr×Obj)) (s:Shared) (σ:St) (H:Hp) (R:It->Hp->Prop),Inv X pins σ H s->wi σ H R->
  wpAny (model X.prog X.w) X.A (eval iter X.env) (λv s1=>wpAny (model X.prog X.w) X.A (pyIter v) (PIE X pins σ tg R) X.xe s1) X.xe s
theorem MZ {M:Model}{A:Around}{it:Addr}{o:Obj}{n:String}{vs:Array Value}(ho:s.heap.get? it=some o)(hc:o.cls = .type n)(hd:o.data = .fields vs)
 (hn:["enumerate", "zip", "dict_itemiterator", "dict_reverseitemiterator", "odict_iterator", "itertools.zip_longest", "itertools.pairwise"].contains n=false) (hQ:Q () s):wpAny M A (letOwnedTupleGo tg (.ref it) u) Q E s:=by
 unfold letOwnedTupleGo
 cases tg <;> first
  | exact un5 hQ
  | (cases u <;> first
      | exact un5 hQ
      | (refine un4 (wpAny_load ho ?_)
         rw [hc,hd];show wpAny M A (if (["enumerate", "zip", "dict_itemiterator", "dict_reverseitemiterator", "odict_iterator", "itertools.zip_longest", "itertools.pairwise"].contains n && vs[0]? == some (rawInt _))=true then _ else _) Q E s;rw [if_neg (by intro h;rw [hn,uk1] at h;cases h)]
         exact un5 hQ))
def Itl (K:PySem.W.Frag)(a:Addr):It:=
 ⟨λi H=>∃xs x,SqL K H a xs/\xs[i]?=some x,λi H x H'=>H'=H/\∀xs,SqL K H a xs->xs[i]?=some x,λi H=>∃xs,SqL K H a xs/\xs.length<=i⟩
def Itt (K:PySem.W.Frag)(a:Addr):It:=
 ⟨λi H=>∃xs x,SqT K H a xs/\xs[i]?=some x,λi H x H'=>H'=H/\∀xs,SqT K H a xs->xs[i]?=some x,λi H=>∃xs,SqT K H a xs/\xs.length<=i⟩
noncomputable def Itr (lo:Int)(n:Nat):It:=⟨λi _=>i < n,λi H x H'=>H'=H/\x = .int (lo + i),λi _=>n<=i⟩
theorem SI (a it:Addr):Turn P w K tg (Itl K a) [it] it (λi h=>h.IsListIter it a i) where
 mem:=by simp
 obj:=λi h st b hb=>by
  have e:b=it:=by simpa using hb
  subst e;obtain ⟨o,e,c,d⟩:=st;exact ⟨o,e,λv z=>by rw [d] at z;cases z⟩
 keep:=λi h h' st k=>st.at λo e=>k it (by simp) o e
 item:=by
  intro X hP hw hK hc i pins s σ H E I hf st hg;subst hP hw hK;obtain ⟨xs,x,hq,hx⟩:=hg;obtain ⟨its,rv,p,hz⟩:=I.list hq;obtain ⟨u,hu,ru⟩:=rv.get hx;obtain ⟨f0,f1,f2,f3,f4,f5⟩:=hf it (by simp);refine wpAny_pyNext_list_item st p.isList (x:=u) (by simpa using hu) λh' st' sb=>?_;have I1:Inv X pins σ H { s with heap:=h' }:=I.turned (t':=s.toks) (λb o hb e=>(sb.2 b hb).trans e) f0 f1 f3 f4 f5;obtain ⟨o,e,c,d⟩:=id st';exact ⟨u,rfl,MZ (s:={ s with heap:=h' }) e c d (by decide) ⟨x,H,I1,ru,⟨rfl,λys hy=>by rw [I.list_inj hy hq];exact hx⟩,st',λb hb=>(hf b hb).1⟩⟩
 done:=by
  intro X hP hw hK hc i pins s σ H E I hf st hg;subst hP hw hK;obtain ⟨xs,hq,hx⟩:=hg;obtain ⟨its,rv,p,hz⟩:=I.list hq;obtain ⟨f0,f1,f2,f3,f4,f5⟩:=hf it (by simp);have hl:=rv.length;exact wpAny_pyNext_list_end (I.ok.hd hc) st p.isList (by simp;lia) λh' eb=>⟨rfl,I.turned (t':=s.toks) (λb o hb e=>eb b o hb e) f0 f1 f3 f4 f5⟩
 self:=λ_ _ _ _ _ st h=>wpAny_pyIter_listiter st h
theorem QL (a it:Addr):Turn P w K tg (Itt K a) [it] it (λi h=>h.IsTupleIter it a i) where
 mem:=by simp
 obj:=λi h st b hb=>by
  have e:b=it:=by simpa using hb
  subst e;obtain ⟨o,e,c,d⟩:=st;exact ⟨o,e,λv z=>by rw [d] at z;cases z⟩
 keep:=λi h h' st k=>st.at λo e=>k it (by simp) o e
 item:=by
  intro X hP hw hK hc i pins s σ H E I hf st hg;subst hP hw hK;obtain ⟨xs,x,hq,hx⟩:=hg;obtain ⟨its,rv,p,hz⟩:=I.tuple hq;obtain ⟨u,hu,ru⟩:=rv.get hx;obtain ⟨f0,f1,f2,f3,f4,f5⟩:=hf it (by simp);refine wpAny_pyNext_tuple_item st (show s.heap.IsTuple a its.toArray from p) (x:=u) (by simpa using hu) λh' st' sb=>?_;have I1:Inv X pins σ H { s with heap:=h' }:=I.turned (t':=s.toks) (λb o hb e=>(sb.2 b hb).trans e) f0 f1 f3 f4 f5;obtain ⟨o,e,c,d⟩:=id st';exact ⟨u,rfl,MZ (s:={ s with heap:=h' }) e c d (by decide) ⟨x,H,I1,ru,⟨rfl,λys hy=>by rw [I.tuple_inj hy hq];exact hx⟩,st',λb hb=>(hf b hb).1⟩⟩
 done:=by
  intro X hP hw hK hc i pins s σ H E I hf st hg;subst hP hw hK;obtain ⟨xs,hq,hx⟩:=hg;obtain ⟨its,rv,p,hz⟩:=I.tuple hq;obtain ⟨f0,f1,f2,f3,f4,f5⟩:=hf it (by simp);have hl:=rv.length;exact wpAny_pyNext_tuple_end (I.ok.hd hc) st (show s.heap.IsTuple a its.toArray from p) (by simp;lia) λh' eb=>⟨rfl,I.turned (t':=s.toks) (λb o hb e=>eb b o hb e) f0 f1 f3 f4 f5⟩
 self:=λ_ _ _ _ _ st h=>wpAny_pyIter_tupleiter st h
theorem QK (it:Addr)(lo:Int)(n:Nat):Turn P w K tg (Itr lo n) [it] it (λi h=>IsRangeIter h it (lo + (i:Nat) * 1) ((n:Int) - (i:Nat)) 1) where
 mem:=by simp
 obj:=λi h st b hb=>by
  have e:b=it:=by simpa using hb
  subst e;exact ⟨_,st,λv z=>by
   have z':Data.fields _=Data.cell v:=z
   cases z'⟩
 keep:=λi h h' st k=>k it (by simp) _ st
 item:=by
  intro X hP hw hK hc i pins s σ H E I hf st hg;subst hP hw hK;obtain ⟨f0,f1,f2,f3,f4,f5⟩:=hf it (by simp);have W:=Walks.range (prog:=X.prog) (w:=X.w) (I.ok.hd hc) it lo 1 n;refine W.item i s _ _ hg st λv h' tk hv st' kk=>?_;obtain ⟨t,rfl⟩:=hv;have I1:Inv X pins σ H { s with heap:=h',toks:=tk }:=I.turned (λb o hb e=>kk b o (by simpa using hb) e) f0 f1 f3 f4 f5;refine ⟨_,rfl,MZ (s:={ s with heap:=h',toks:=tk }) (n:="range_iterator") st' rfl rfl (by decide) ⟨.int (lo + i),H,I1,⟨t,?_⟩,⟨rfl,rfl⟩,st',λb hb=>(hf b hb).1⟩⟩;rw [Int.mul_one]
 done:=by
  intro X hP hw hK hc i pins s σ H E I hf st hg;subst hP hw hK;obtain ⟨f0,f1,f2,f3,f4,f5⟩:=hf it (by simp);exact wpAny_pyNext_range_end (I.ok.hd hc) st (by have:n<=i:=hg;lia) λh' eb=>⟨rfl,I.turned (t':=s.toks) (λb o hb e=>eb b o hb e) f0 f1 f3 f4 f5⟩
 self:=λ_ _ _ _ _ st h=>wpAny_pyIter_rangeiter st h
variable {fp:List Addr}
section
variable {X:Cx}{tg:Expr}
theorem Of {R:It->Hp->Prop}{lo hi:Int}{t u v:Tok}{tk:Nat}(I:Inv X pins σ H s)(h1 : -(2 ^ 62)<=lo)(h2:lo < 2 ^ 62)(h3 : -(2 ^ 62)<=hi)(h4:hi < 2 ^ 62)
 (q:R (Itr lo (hi - lo).toNat) H):wpAny (model X.prog X.w) X.A (pyIter (.ref s.heap.objs.size)) (PIE X pins σ tg R) E { s with heap:=s.heap.push { cls:=.type "range",data:=.fields #[.int lo t,.int hi u,.int 1 v] },toks:=tk }:=by
 refine wpAny_pyIter_range (IsRange.new ..) (small_one h1 h2 h3 h4) ?_;have I1:Inv X pins σ H { s with heap:=s.heap.push { cls:=.type "range",data:=.fields #[.int lo t,.int hi u,.int 1 v] },toks:=tk }:=I.kept λb o e=>uc4 _ e;refine ⟨(s.heap.push { cls:=.type "range",data:=.fields #[.int lo t,.int hi u,.int 1 v] }).objs.size,[(s.heap.push { cls:=.type "range",data:=.fields #[.int lo t,.int hi u,.int 1 v] }).objs.size],_,_,H,rfl,
  I1.kept (t':=tk) λb o e=>uc4 _ e,QK _ lo (hi - lo).toNat,?_,λb hb=>?_,q⟩
 ·have e1:lo + ((0:Nat):Int) * 1=lo:=by simp
  have e2:(((hi - lo).toNat:Nat):Int) - ((0:Nat):Int)=Builtin.Range.rangeSize lo hi 1:=by rw [rangeSize_one];split <;> lia
  show IsRangeIter _ _ (lo + ((0:Nat):Int) * 1) ((((hi - lo).toNat:Nat):Int) - ((0:Nat):Int)) 1;rw [e1,e2];exact ue4 _ rfl
 ·have e:b=(s.heap.push { cls:=.type "range",data:=.fields #[.int lo t,.int hi u,.int 1 v] }).objs.size:=by simpa using hb
  subst e;exact I1.fpOk (um9 _) (I1.hok.fresh (um9 _))
def YH (ta:TA):TI:=λσ H R=>ta σ H λvs H1=>∃j:Int,vs=[.int j]/\-(2 ^ 62)<=j/\j < 2 ^ 62/\R (Itr 0 j.toNat) H1
def YI (ta:TA):TI:=λσ H R=>ta σ H λvs H1=>∃i j:Int,vs=[.int i,.int j]/\(-(2 ^ 62)<=i/\i < 2 ^ 62/\-(2 ^ 62)<=j/\j < 2 ^ 62)/\R (Itr i (j - i).toNat) H1
theorem Se {a:Expr}{ta:TA}{p pos:Pos}(hg:Gl X "range")(hm:X.mg "range" = none)(ha:PA X [a] ta)(hs:starEach [a] X.env=[(false,eval a X.env)]:=by rfl):PI X tg (.Call (.Name "range" p) [a] [] pos) (YH ta):=by
 intro pins s σ H R I h;refine Call_ (Ik I hg hm boot_range (ua4 (thn (ha pos pins s σ H _ I h) λus s1 z9=>?_) hs rfl));obtain ⟨vs,H1,I1,r1,q1⟩:=z9;obtain ⟨j,e,q1,q2,q⟩:=q1;subst e
 cases r1 with
 | cons r rr=>
   cases rr
   obtain ⟨t,rfl⟩:=r;exact call_range_1 (Of I1 (by lia) (by lia) q1 q2 (by simpa using q))
theorem Sf {a b:Expr}{ta:TA}{p pos:Pos}(hg:Gl X "range")(hm:X.mg "range" = none)(ha:PA X [a,b] ta)(hs:starEach [a,b] X.env=[(false,eval a X.env),(false,eval b X.env)]:=by rfl)(hs2:starEach [b] X.env=[(false,eval b X.env)]:=by rfl) :
 PI X tg (.Call (.Name "range" p) [a,b] [] pos) (YI ta):=by
 intro pins s σ H R I h;refine Call_ (Ik I hg hm boot_range (ua4 (thn (ha pos pins s σ H _ I h) λus s1 z9=>?_) (by rw [hs,hs2]) (by rw [hs2];rfl)));obtain ⟨vs,H1,I1,r1,q1⟩:=z9;obtain ⟨i,j,e,⟨q1,q2,q3,q4⟩,q⟩:=q1;subst e
 cases r1 with
 | cons r rr=>
   cases rr with
   | cons r' rr=>
     cases rr
     obtain ⟨t,rfl⟩:=r;obtain ⟨t',rfl⟩:=r';exact call_range_2 (Of I1 q1 q2 q3 q4 q)
def Yh (wi:TI)(g:TG)(tb:TS):TS:=λD σ H=>wi σ H λJ H1=>∃W:Nat->Nat->St->Hp->Prop,(∃m,W 0 m σ H1)/\∀i m σ H,W i m σ H->
 (J.stop i H/\D.nx σ H)\/(J.go i H/\∃N:St->Hp->Prop,(∀σ' H',N σ' H'->∃m',m' < m/\W (i + 1) m' σ' H')/\∀x H',J.yld i H x H'->g x σ H' λσ2 H2=>tb { D with nx:=N,ct:=N,bk:=D.nx } σ2 H2)
noncomputable def Iv (fp:List Addr)(h:Heap):List (Addr×Obj):=fp.filterMap λb=>(h.get? b).map λo=>(b,o)
theorem F3 {o:Obj}(hb:b∈fp)(e:h.get? b=some o):(b,o)∈Iv fp h:=List.mem_filterMap.mpr ⟨b,hb,by rw [e];rfl⟩
theorem R9 {p:Addr×Obj}(hp:p∈Iv fp h):p.1∈fp/\h.get? p.1=some p.2:=by
 obtain ⟨b,hb,e⟩:=List.mem_filterMap.mp hp
 cases q:h.get? b with
 | none=>rw [q] at e;cases e
 | some o=>
   rw [q] at e;have e':(b,o)=p:=ui4 e;subst e';exact ⟨hb,q⟩
theorem Inv.pinned (I:Inv X pins σ H s)(hf:∀b∈fp,FpOk X pins H b)(ho:∀b∈fp,∃o,s.heap.get? b=some o/\∀v,o.data≠.cell v):Inv X (pins++Iv fp s.heap) σ H s:=
 I.pins_of λp hp=>(ui3.mp hp).elim (λz=>I.pin p (ud1 _ z)) λz=>by
  obtain ⟨hb,e⟩:=R9 z;obtain ⟨f0,f1,f2,_⟩:=hf p.1 hb;obtain ⟨o,e',d⟩:=ho p.1 hb;rw [e] at e';cases e'
  exact ⟨e,f0,f1,f2,d⟩
theorem Inv.unpinned {pl:List (Addr×Obj)}(I:Inv X (pins++pl) σ H s):Inv X pins σ H s:=I.pins_of λp hp=>I.pin p (ud1 _ (ud8 _ hp))
theorem XF {iter:Expr}{body:List Stmt}{wi:TI}{g:TG}{tb:TS}{pos:Pos}(hp:PassesOwn (model X.prog X.w) X.A X.env X.xe)(hc:X.calm=true)(hi:PI X tg iter wi)(hg:PG X tg g)(hb:PSs X body tb)
 (hs:∀x,foldedSetIterable iter X.env x=pure x:=by intro _;rfl):PS X (.For tg iter body [] pos) (Yh wi g tb):=by
 intro pins s σ H D I h;refine wpAny_For (thn (hi pins s σ H _ I h) λv s1 h1=>thn h1 λitv s2 h2=>?_) hs;obtain ⟨it,fp,tn,J,H2,e,I2,T,st2,f2,W,⟨m0,w0⟩,turn⟩:=h2;subst e
 -- what stays true of the iterator's objects through the loop
 have stat:∀{H':Hp},(∀b∈fp,H' b=none)->∀b∈fp,FpOk X pins H' b:=λhn b hb=>⟨hn b hb,(f2 b hb).2⟩;refine codeAny_forLoop_any (λn s'=>∃i σ' H',Inv X pins σ' H' s'/\tn i s'.heap/\(∀b∈fp,H' b=none)/\W i n σ' H') ?_ m0 ⟨0,σ,H2,I2,st2,λb hb=>(f2 b hb).1,w0⟩;rintro n s3 ⟨i,σ3,H3,I3,st3,fr3,w3⟩;rcases turn i n σ3 H3 w3 with ⟨stop,qn⟩ | ⟨go,N,hN,step⟩
 ·refine wpAny_passesOwn hp (thn (T.done X rfl rfl rfl hc i pins s3 σ3 H3 X.xe I3 (stat fr3) st3 stop) λr s4 z9=>?_);obtain ⟨hr,I4⟩:=z9;subst hr;exact wpAny_execs_nil ⟨σ3,H3,I4,qn⟩
 ·refine wpAny_passesOwn hp (thn (T.item X rfl rfl rfl hc i pins s3 σ3 H3 X.xe I3 (stat fr3) st3 go) λr s4 z9=>?_);obtain ⟨u,hr,h4⟩:=z9;subst hr;refine wpAny_passesOwn hp (thn h4 λ_ s5 z9=>?_);obtain ⟨x,H5,I5,r5,y5,st5,fr5⟩:=z9;have I5':=I5.pinned (stat fr5) (T.obj _ _ st5);refine wpAny_passesOwn hp (thn (hg _ s5 σ3 H5 x u _ I5' r5 (step x H5 y5)) λ_ s6 z9=>?_);obtain ⟨σ6,H6,I6,q6⟩:=z9;refine wpAny_passesOwn hp (thn (hb _ s6 σ6 H6 _ I6 q6) λf s7 q7=>?_);have again:∀{σ7:St} {H7:Hp},Inv X (pins++Iv fp s5.heap) σ7 H7 s7->N σ7 H7->∃m,m < n/\∃i σ' H',Inv X pins σ' H' s7/\tn i s7.heap/\(∀b∈fp,H' b=none)/\W i m σ' H':=λ{σ7 H7} I7 n7=>by
   obtain ⟨m',hm,w7⟩:=hN σ7 H7 n7;refine ⟨m',hm,i + 1,σ7,H7,I7.unpinned,T.keep _ _ _ st5 λb hb o e=>(I7.pin (b,o) (ud1 _ (ud1 _ (F3 hb e)))).1,λb hb=>?_,w7⟩;obtain ⟨o,e,d⟩:=T.obj _ _ st5 b hb;exact (I7.pin (b,o) (ud1 _ (ud1 _ (F3 hb e)))).2.1
  cases f with
  | next=>obtain ⟨σ7,H7,I7,n7⟩:=q7;exact again I7 n7
  | cont=>obtain ⟨σ7,H7,I7,n7⟩:=q7;exact again I7 n7
  | brk=>obtain ⟨σ7,H7,I7,q7⟩:=q7;exact ⟨σ7,H7,I7.unpinned,q7⟩
  | ret v=>obtain ⟨x7,σ7,H7,I7,r7,q7⟩:=q7;exact ⟨x7,σ7,H7,I7.unpinned,r7,q7⟩
end
abbrev R2:=V->V->Hp->VK->Prop
def OpR (X:Cx)(f:Value->Value->Sem Value)(r:R2):Prop:=
 ∀(pins:List (Addr×Obj)) (s:Shared) (σ:St) (H:Hp) (x y:V) (v u:Value) (Q:VK),Inv X pins σ H s->RelV x v->RelV y u->r x y H Q->
  wpAny (model X.prog X.w) X.A (f v u) (EP X pins σ Q) X.xe s
def UnR (X:Cx)(f:Value->Sem Value)(r:V->Hp->VK->Prop):Prop:=
 ∀(pins:List (Addr×Obj)) (s:Shared) (σ:St) (H:Hp) (x:V) (v:Value) (Q:VK),Inv X pins σ H s->RelV x v->r x H Q->
  wpAny (model X.prog X.w) X.A (f v) (EP X pins σ Q) X.xe s
def Du (X:Cx)(f:Value)(r:List V->Hp->VK->Prop):Prop:=
 ∀(pins:List (Addr×Obj)) (s:Shared) (σ:St) (H:Hp) (xs:List V) (us:List Value) (Q:VK),Inv X pins σ H s->Vals xs us->r xs H Q->
  wpAny (model X.prog X.w) X.A (call f us) (EP X pins σ Q) X.xe s
def tOp (r:R2)(ta tb:TE):TE:=λσ H Q=>ta σ H λx H1=>tb σ H1 λy H2=>r x y H2 Q
def tUn (r:V->Hp->VK->Prop)(ta:TE):TE:=λσ H Q=>ta σ H λx H1=>r x H1 Q
def rI (C:Int->Int->Prop)(g:Int->Int->V):R2:=λx y H Q=>∃i j,x = .int i/\y = .int j/\C i j/\Q (g i j) H
def rI0 (g:Int->Int->V):R2:=λx y H Q=>∃i j,x = .int i/\y = .int j/\Q (g i j) H
def rU (g:Int->V):V->Hp->VK->Prop:=λx H Q=>∃i,x = .int i/\Q (g i) H
variable {r:R2}{f:Value->Value->Sem Value}
section
variable {X:Cx}{a b c:Expr}{ta tb tc:TE}{pos:Pos}
theorem Tb (ha:PE X a ta)(hb:PE X b tb){pins:List (Addr×Obj)}{s:Shared}{σ:St}{H:Hp}{R:V->V->Hp->Prop}(I:Inv X pins σ H s)
 (h:ta σ H λx H1=>tb σ H1 λy H2=>R x y H2) {Q:Value->Shared->Prop} {f:Value->Value->Sem Value}
 (hf:∀v u s2 x y H2,Inv X pins σ H2 s2->RelV x v->RelV y u->R x y H2->wpAny (model X.prog X.w) X.A (f v u) Q X.xe s2) :
 wpAny (model X.prog X.w) X.A (eval a X.env) (λv s₁=>wpAny (model X.prog X.w) X.A (eval b X.env) (λu s₂=>wpAny (model X.prog X.w) X.A (f v u) Q X.xe s₂) X.xe s₁) X.xe s:=by
 refine thn (ha pins s σ H _ I h) λv s1 z9=>?_;obtain ⟨x,H1,I1,r1,q1⟩:=z9;refine thn (hb pins s1 σ H1 _ I1 q1) λu s2 z9=>?_;obtain ⟨y,H2,I2,r2,q2⟩:=z9;exact hf v u s2 x y H2 I2 r1 r2 q2
theorem Qr {op:Operator}(ho:OpR X (binaryOp op) r)(ha:PE X a ta)(hb:PE X b tb):PE X (.BinOp a op b pos) (tOp r ta tb):=by
 intro pins s σ H Q I h;exact wpAny_BinOp (Tb ha hb I h λv u s2 x y H2 I2 rx ry q=>ho pins s2 σ H2 x y v u Q I2 rx ry q)
theorem YN {op:UnaryOp}{r:V->Hp->VK->Prop}(ho:UnR X (unaryOp op) r)(ha:PE X a ta):PE X (.UnaryOp op a pos) (tUn r ta):=by
 intro pins s σ H Q I h;exact UnaryOp_ (thn (ha pins s σ H _ I h) λv s1 z9=>by obtain ⟨x,H1,I1,r1,q1⟩:=z9;exact ho pins s1 σ H1 x v Q I1 r1 q1)
theorem opI {C:Int->Int->Prop}{g:Int->Int->Int}
 (rule:∀(i j:Int) (t u:Tok) (s:Shared) (Q:Value->Shared->Prop) (E:Value->Shared->Prop),C i j->Q (.int (g i j) s.toks) { s with toks:=s.toks + 1 }->wpAny (model X.prog X.w) X.A (f (.int i t) (.int j u)) Q E s) :
 OpR X f (rI C λi j=>.int (g i j)):=by
 intro pins s σ H x y v u Q I rx ry h;obtain ⟨i,j,rfl,rfl,hc,q⟩:=h;obtain ⟨t,rfl⟩:=rx;obtain ⟨t',rfl⟩:=ry;exact rule i j t t' s _ _ hc ⟨.int (g i j),H,I.tok _,⟨_,rfl⟩,q⟩
theorem Xm {g:Int->Int->Int}
 (rule:∀(i j:Int) (t u:Tok) (s:Shared) (Q:Value->Shared->Prop) (E:Value->Shared->Prop),Q (.int (g i j) s.toks) { s with toks:=s.toks + 1 }->wpAny (model X.prog X.w) X.A (f (.int i t) (.int j u)) Q E s) :
 OpR X f (rI0 λi j=>.int (g i j)):=by
 intro pins s σ H x y v u Q I rx ry h;obtain ⟨i,j,rfl,rfl,q⟩:=h;obtain ⟨t,rfl⟩:=rx;obtain ⟨t',rfl⟩:=ry;exact rule i j t t' s _ _ ⟨.int (g i j),H,I.tok _,⟨_,rfl⟩,q⟩
theorem Qq {g:Int->Int->Bool}
 (rule:∀(i j:Int) (t u:Tok) (s:Shared) (Q:Value->Shared->Prop) (E:Value->Shared->Prop),Q (.bool (g i j)) s->wpAny (model X.prog X.w) X.A (f (.int i t) (.int j u)) Q E s) :
 OpR X f (rI0 λi j=>.bl (g i j)):=by
 intro pins s σ H x y v u Q I rx ry h;obtain ⟨i,j,rfl,rfl,q⟩:=h;obtain ⟨t,rfl⟩:=rx;obtain ⟨t',rfl⟩:=ry;exact rule i j t t' s _ _ ⟨.bl (g i j),H,I,rfl,q⟩
def WH (i j:Int):Prop:=0 < j/\j < 1073741824
def WI (i j:Int):Prop:=0<=j/\j<=1000000/\i.natAbs < 2 ^ 64
def CMul (i j:Int):Prop:=(-(2 ^ 64) < i/\i < 2 ^ 64)\/(-(2 ^ 64) < j/\j < 2 ^ 64)
theorem CMul.ok {i j:Int}(h:CMul i j):IntMulOk i j:=by
 rcases h with ⟨h1,h2⟩ | ⟨h1,h2⟩
 ·exact .of_left (intBits_le_64 h1 h2)
 ·exact .of_right (intBits_le_64 h1 h2)
theorem two_pow_nn (k:Nat):(0:Int)<=2 ^ k:=by
 rw [two_pow_cast];exact Int.natCast_nonneg _
theorem op_add:OpR X (binaryOp .Add) (rI0 λi j=>.int (i + j)):=Xm λ_ _ _ _ _ _ _ q=>add_int q
theorem CM:OpR X (binaryOp .Sub) (rI0 λi j=>.int (i - j)):=Xm λ_ _ _ _ _ _ _ q=>sub_int q
theorem op_mul:OpR X (binaryOp .Mult) (rI CMul λi j=>.int (i * j)):=opI λ_ _ _ _ _ _ _ hc q=>mul_int q hc.ok
theorem LN:OpR X (binaryOp .FloorDiv) (rI WH λi j=>.int (i / j)):=opI λi j _ _ _ _ _ hc q=>by
 have h1:(0:Int) < j:=hc.1;have h2:j < 1073741824:=hc.2;exact floordiv_int (by lia) (by rw [ua6 i (by lia)];exact q) (.inl (PyProof.noPylong_small (by lia)))
theorem Gw:OpR X (binaryOp .Mod) (rI (λ_ j=>0 < j) λi j=>.int (i % j)):=opI λi j _ _ _ _ _ hc q=>by
 have h1:(0:Int) < j:=hc;exact mod_int' (by lia) (by rw [Int.fmod_eq_emod_of_nonneg i (by lia)];exact q)
theorem K1:OpR X (binaryOp .Pow) (rI WI λi j=>.int (i ^ j.toNat)):=opI λ_ _ _ _ _ _ _ hc q=>pow_int_small hc.1 hc.2.1 hc.2.2 q
theorem Xp:OpR X (binaryOp .RShift) (rI (λ_ j=>0<=j) λi j=>.int (i / 2 ^ j.toNat)):=opI λi j _ _ _ _ _ hc q=>
 rshift_int hc (by rw [ua6 i (two_pow_nn _)];exact q)
theorem unI {f:Value->Sem Value}{g:Int->Int}
 (rule:∀(i:Int) (t:Tok) (s:Shared) (Q:Value->Shared->Prop) (E:Value->Shared->Prop),Q (.int (g i) s.toks) { s with toks:=s.toks + 1 }->wpAny (model X.prog X.w) X.A (f (.int i t)) Q E s) :
 UnR X f (rU λi=>.int (g i)):=by
 intro pins s σ H x v Q I rx h;obtain ⟨i,rfl,q⟩:=h;obtain ⟨t,rfl⟩:=rx;exact rule i t s _ _ ⟨.int (g i),H,I.tok _,⟨_,rfl⟩,q⟩
theorem Yk:UnR X (unaryOp .USub) (rU λi=>.int (-i)):=unI λ_ _ _ _ _ q=>neg_int q
end
variable {op:CmpOp}{us:List Value}
section
variable {X:Cx}{a b c:Expr}{ta tb tc:TE}{pos:Pos}
theorem op_lt:OpR X (compareOp .Lt) (rI0 λi j=>.bl (decide (i < j))):=Qq λ_ _ _ _ _ _ _ q=>lt_int q
theorem op_le:OpR X (compareOp .LtE) (rI0 λi j=>.bl (decide (i<=j))):=Qq λ_ _ _ _ _ _ _ q=>le_int q
theorem op_gt:OpR X (compareOp .Gt) (rI0 λi j=>.bl (decide (j < i))):=Qq λ_ _ _ _ _ _ _ q=>gt_int q
theorem op_ge:OpR X (compareOp .GtE) (rI0 λi j=>.bl (decide (j<=i))):=Qq λ_ _ _ _ _ _ _ q=>ge_int q
theorem OpR.or {r':R2}(h:OpR X f r)(h':OpR X f r'):OpR X f (λx y H Q=>r x y H Q\/r' x y H Q):=by
 intro pins s σ H x y v u Q I rx ry q;rcases q with q | q
 ·exact h pins s σ H x y v u Q I rx ry q
 ·exact h' pins s σ H x y v u Q I rx ry q
theorem AM (b:Expr){op:CmpOp}(h:op≠.In:=by decide)(h2:op≠.NotIn:=by decide):behindInMarks op b=false:=by
 have e1:(op == CmpOp.In)=false:=by cases op <;> first | rfl | exact absurd rfl h
 have e2:(op == CmpOp.NotIn)=false:=by cases op <;> first | rfl | exact absurd rfl h2
 cases b <;> simp [behindInMarks,e1,e2]
theorem VO (ho:OpR X (compareOp op) r)(ha:PE X a ta)(hb:PE X b tb)(hm:behindInMarks op b=false):PE X (.Compare a [op] [b] pos) (tOp r ta tb):=by
 intro pins s σ H Q I h;exact wpAny_Compare1 (Tb ha hb I h λv u s2 x y H2 I2 rx ry q=>ho pins s2 σ H2 x y v u Q I2 rx ry q) hm
def Y6 (t:TE):TT:=λσ H Q=>t σ H λx H'=>∃k,x = .bl k/\Q k H'
theorem V1 (ho:OpR X (compareOp op) r)(ha:PE X a ta)(hb:PE X b tb)(hm:behindInMarks op b=false):PT X (.Compare a [op] [b] pos) (Y6 (tOp r ta tb)):=by
 intro pins s σ H Q I h;refine wpAny_isTrue_Compare1 (thn (ha pins s σ H _ I h) λv s1 ⟨x,H1,I1,r1,q1⟩=>thn (hb pins s1 σ H1 _ I1 q1) λu s2 ⟨y,H2,I2,r2,q2⟩=>
  thn (ho pins s2 σ H2 x y v u _ I2 r1 r2 q2) λc s3 ⟨z,H3,I3,r3,k,e,q3⟩=>?_) hm
 subst e
 cases r3
 exact wpAny_truthy_bool ⟨H3,I3,q3⟩
def SE (r r':R2)(ta tb tc:TE):TE:=λσ H Q=>ta σ H λx H1=>tb σ H1 λy H2=>r x y H2 λz H3=>∃k,z = .bl k/\
 (if k=true then tc σ H3 λw' H4=>r' y w' H4 Q else Q (.bl false) H3)
theorem TW {op':CmpOp}{r':R2}(ho:OpR X (compareOp op) r)(ho':OpR X (compareOp op') r')(ha:PE X a ta)(hb:PE X b tb)(hc:PE X c tc)
 (hm:lastMarks [op,op'] [b,c]=false:=by with_unfolding_all rfl):PE X (.Compare a [op,op'] [b,c] pos) (SE r r' ta tb tc):=by
 intro pins s σ H Q I h;refine Compare_chain (thn (ha pins s σ H _ I h) λv s1 ⟨x,H1,I1,r1,q1⟩=>chain_link (thn (hb pins s1 σ H1 _ I1 q1) λu s2 ⟨y,H2,I2,r2,q2⟩=>
  thn (ho pins s2 σ H2 x y v u _ I2 r1 r2 q2) λd s3 ⟨z,H3,I3,r3,k,e,q3⟩=>?_)) hm
 subst e
 cases r3
 refine wpAny_truthy_bool ?_
 cases k with
 | false=>exact ite_ff ⟨.bl false,H3,I3,rfl,q3⟩
 | true=>exact ite_tt (chain_last (thn (hc pins s3 σ H3 _ I3 q3) λw' s4 z9=>by obtain ⟨z',H4,I4,r4,q4⟩:=z9;exact ho' pins s4 σ H4 y z' u w' Q I4 r2 r4 q4))
theorem KK:(sizeLine:Nat) < 2 ^ 63:=by rw [sizeLine_eq];decide
theorem op_add_str:OpR X (binaryOp .Add) (λx y H Q=>∃i j,x = .str i/\y = .str j/\i.length + j.length<=sizeLine/\Q (.str (i++j)) H):=by
 intro pins s σ H x y v u Q I rx ry h;obtain ⟨i,j,rfl,rfl,hz,q⟩:=h;obtain ⟨t,rfl⟩:=rx;obtain ⟨t',rfl⟩:=ry;exact add_str (λt' tk=>⟨.str (i++j),H,I.tok _,⟨_,rfl⟩,q⟩) hz
theorem F5 {x:V}(r:Vals [x] us):∃u,us=[u]/\RelV x u:=by
 cases r with
 | cons r1 r2=>cases r2;exact ⟨_,rfl,r1⟩
theorem QN {x y:V}(r:Vals [x,y] us):∃u w',us=[u,w']/\RelV x u/\RelV y w':=by
 cases r with
 | cons r1 r2=>
   cases r2 with
   | cons r3 r4=>cases r4;exact ⟨_,_,rfl,r1,r3⟩
theorem Q5 (hc:X.calm=true):Du X (.builtin "max") (λxs H Q=>∃i j,xs=[.int i,.int j]/\Q (.int (if j > i then j else i)) H):=by
 intro pins s σ H xs us Q I r h;obtain ⟨i,j,rfl,q⟩:=h;obtain ⟨u,w',rfl,⟨t,rfl⟩,⟨t',rfl⟩⟩:=QN r;refine max_two_ints (I.ok.hd hc) λh' tk k=>⟨_,H,I.kept k,?_,q⟩
 by_cases hj:j > i
 ·rw [if_pos hj,if_pos hj];exact ⟨_,rfl⟩
 ·rw [if_neg hj,if_neg hj];exact ⟨_,rfl⟩
theorem GE (hc:X.calm=true):Du X (.builtin "min") (λxs H Q=>∃i j,xs=[.int i,.int j]/\Q (.int (if j < i then j else i)) H):=by
 intro pins s σ H xs us Q I r h;obtain ⟨i,j,rfl,q⟩:=h;obtain ⟨u,w',rfl,⟨t,rfl⟩,⟨t',rfl⟩⟩:=QN r;refine min_two_ints (I.ok.hd hc) λh' tk k=>⟨_,H,I.kept k,?_,q⟩
 by_cases hj:j < i
 ·rw [if_pos hj,if_pos hj];exact ⟨_,rfl⟩
 ·rw [if_neg hj,if_neg hj];exact ⟨_,rfl⟩
theorem Q4:Du X (.type "int") (λxs H Q=>(∃i,xs=[.int i]/\Q (.int i) H)\/∃k,xs=[.bl k]/\Q (.int (if k then 1 else 0)) H):=by
 intro pins s σ H xs us Q I r h;rcases h with ⟨i,rfl,q⟩ | ⟨k,rfl,q⟩
 ·obtain ⟨u,rfl,t,rfl⟩:=F5 r;exact call_int_int ⟨.int i,H,I,⟨_,rfl⟩,q⟩
 ·obtain ⟨u,rfl,r1⟩:=F5 r
  cases r1
  exact call_int_bool ⟨.int (if k then 1 else 0),H,I.tok _,⟨_,rfl⟩,q⟩
theorem Nw:Du X (.builtin "ord") (λxs H Q=>∃x,xs=[.str x]/\x.length=1/\Q (.int (x.cps.getD 0 0:Nat)) H):=by
 intro pins s σ H xs us Q I r h;obtain ⟨x,rfl,hz,q⟩:=h;obtain ⟨u,rfl,t,rfl⟩:=F5 r;exact ord_of_one hz ⟨.int _,H,I.tok _,⟨_,rfl⟩,q⟩
def WK (K:PySem.W.Frag)(x:V)(H:Hp)(n:Nat):Prop:=
 match x with
 | .str y=>y.length<=sizeLine/\n=y.length
 | .byt y=>y.size<=sizeLine/\n=y.size
 | .ref p=>(∃xs,SqL K H p xs/\n=xs.length)\/∃xs,SqT K H p xs/\n=xs.length
 | _=>False
theorem BA:Du X (.builtin "len") (λxs H Q=>∃x n,xs=[x]/\WK X.K x H n/\Q (.int n) H):=by
 intro pins s σ H xs us Q I r h;obtain ⟨x,n,rfl,e,q⟩:=h;obtain ⟨u,rfl,rx⟩:=F5 r;have hl:=KK;have hs:sizeLine=16777216:=sizeLine_eq
 cases x with
 | str y=>
   obtain ⟨t,rfl⟩:=rx;obtain ⟨hy,e'⟩:y.length<=sizeLine/\n=y.length:=e;subst e';exact len_str (by lia) ⟨.int _,H,I.tok _,⟨_,rfl⟩,q⟩
 | byt y=>
   obtain ⟨t,rfl⟩:=rx;obtain ⟨hy,e'⟩:y.size<=sizeLine/\n=y.size:=e;subst e';exact PySem.W.len_bytes (by lia) ⟨.int _,H,I.tok _,⟨_,rfl⟩,q⟩
 | ref p=>
   cases rx
   have e':(∃xs,SqL X.K H p xs/\n=xs.length)\/∃xs,SqT X.K H p xs/\n=xs.length:=e;rcases e' with ⟨xs,hx,e'⟩ | ⟨xs,hx,e'⟩
   ·subst e';obtain ⟨its,r',pl,hz⟩:=I.list hx;have hlen:=r'.length;exact Calls.call_len_list pl.isList (by simp only [ug1];lia) ⟨.int xs.length,H,I.tok _,⟨_,by simp only [ug1];rw [hlen]⟩,q⟩
   ·subst e';obtain ⟨its,r',pl,hz⟩:=I.tuple hx;have hlen:=r'.length;exact len_tuple pl (by simp only [ug1];lia) ⟨.int xs.length,H,I.tok _,⟨_,by simp only [ug1];rw [hlen]⟩,q⟩
 | _=>exact (show False from e).elim
end
structure ObjM (h:Heap)(x dx C:Addr)(mA:Str->Option Value):Prop where
 obj:h.get? x=some (PySem.W.instObj C dx)
 ns:h.Ns1 dx mA
 ne:dx≠x
theorem Ip {dx:Addr}{mA:Str->Option Value}(n:h.Ns1 dx mA):∃od,h.get? dx=some od/\∀name,PySem.W.lookIn name od=some (mA name):=by
 obtain ⟨o,es,ep,ho,hd,hk,_,hm⟩:=n;refine ⟨o,ho,λname=>?_⟩;have e:=hm name;unfold nsFind findBy at e;rw [<-uf3] at e;unfold PySem.W.lookIn;rw [hd];dsimp only
 split
 ·rename_i y q;rw [q] at e;exact congrArg some e
 ·rename_i q;rw [q] at e;have a:es.toList.any (·.refKey)=false:=by
   rw [List.any_eq_false];intro y hy;obtain ⟨z,t,hkey⟩:=hk y (Array.mem_toList_iff.mp hy);simp [DictEntry.refKey,hkey]
  have a':¬es.toList.any (·.refKey)=true:=by rw [a];exact uf2
  rw [if_neg a'];exact congrArg some e
variable {C:Addr}
theorem ObjM.look {x dx:Addr}{mA:Str->Option Value}(I:ObjM h x dx C mA):∃od,PySem.W.InstAt h x (PySem.W.instObj C dx) C (some od)/\∀name,PySem.W.lookIn name od=some (mA name):=
 let ⟨od,ho,hl⟩:=Ip I.ns
 ⟨od,⟨I.obj,rfl,rfl,ho⟩,hl⟩
section
variable {prog:Program}{w:World}{A:Around}{E:Value->Shared->Prop}{s:Shared}{K:PySem.W.Frag}{x dx C f:Addr}{mA:Str->Option Value}{name:Str}{v:Value}
end
theorem RelO.some_of {o:Option Value}(r:RelO (some v) o):∃u,o=some u/\RelV v u:=by
 cases o with
 | none=>exact (show False from r).elim
 | some u=>exact ⟨u,rfl,r⟩
theorem Rr (r:RelV v u):PySem.W.handedIn u=true:=by
 cases v with
 | non=>cases (show u=Value.none from r);rfl
 | bl b=>cases (show u=Value.bool b from r);rfl
 | int i=>obtain ⟨t,e⟩:=(show ∃t,u=Value.int i t from r);cases e;rfl
 | str x=>obtain ⟨t,e⟩:=(show ∃t,u=Value.str x t from r);cases e;rfl
 | byt b=>obtain ⟨t,e⟩:=(show ∃t,u=Value.bytes b t from r);cases e;rfl
 | flt b=>obtain ⟨t,e⟩:=(show ∃t,u=Value.float b t from r);cases e;rfl
 | ref a=>cases (show u=Value.ref a from r);rfl
 | ty n=>cases (show u=Value.type n from r);rfl
section
variable {P:Program}{w:World}{H H':Hp}{h h':Heap}{a C dx:Addr}{fs fs':List (Str×V)}
theorem Vl (hok:HOk P w H h)(e:H a=some (.ins C dx fs)):∃mA,ObjM h a dx C mA/\(∀f,RelO (fs.lookup f) (mA f))/\PySem.Within mA (fs.map (·.1))/\fs.length<=1000/\H dx=some (.own a):=by
 obtain ⟨d,z,ne,ob,mA,n,r,q⟩:=(show ObjOk P w H h a (.ins C dx fs) from hok a _ e);exact ⟨mA,⟨ob,n,ne⟩,r,q,z,d⟩
end
structure Cls (K:PySem.W.Frag)(C:Addr):Prop where
 pg:PySem.W.plainGet K C Str.empty=true
 hd:PySem.W.hasDictIn K C=true
 po:PySem.W.plainOver K C=true
 sa:PySem.W.findIn K (.ref C) "__setattr__" = some (some (.builtin "object.__setattr__"))
theorem Cls.get {K:PySem.W.Frag}{C:Addr}(c:Cls K C)(f:Str):PySem.W.plainGet K C f=true:=c.pg
structure Con (K:PySem.W.Frag)(C:Addr)(f:Str)(v:V)(u:Value):Prop where
 at_:PySem.W.findIn K (.ref C) f=some (some u)
 rel:RelV v u
 get:PySem.W.specialIn K u "__get__" = some none
 cp:PySem.W.copiedNames.contains f=false
structure Meth (K:PySem.W.Frag)(C:Addr)(m:Str)(f:Addr):Prop where
 at_:PySem.W.findIn K (.ref C) m=some (some (.ref f))
 fn:PySem.W.isFn K (.ref f)=true
 kp:PySem.W.keepIn K (.ref f)=true
section
variable {X:Cx}{pins:List (Addr×Obj)}{σ:St}{H:Hp}{s:Shared}{a C dx:Addr}{fs:List (Str×V)}{f:Str}{v:V}{A:Around}{E:Value->Shared->Prop}
theorem UZ {prog:Program}{env:Env}{f:Str}{pos:Pos}{s:Shared}{Q:Value->Shared->Prop}(hb:attributeBase e f env (eval e env)=eval e env)
 (h:wpAny (model prog w) A (eval e env) (λo s₁=>wpAny (model prog w) A (getAttr o f true) Q E s₁) E s):wpAny (model prog w) A (eval (.Attribute e f pos) env) Q E s:=
 Attribute_any_ h (by rw [arm_eval_Attribute,hb])
end
section
variable {X:Cx}{o e value:Expr}{f:Str}{pos pos' tpos:Pos}{ta tv:TE}
end
section
variable {X:Cx}{pins:List (Addr×Obj)}{σ:St}{H:Hp}{s:Shared}{A:Around}{E:Value->Shared->Prop}{Q:Value->Shared->Prop}{c:Value}{b:Bool}
inductive TyOf (K:PySem.W.Frag)(H:Hp):V->Value->Prop where
 | non:TyOf K H .non (.type "NoneType")
 | bl (x:Bool):TyOf K H (.bl x) (.type "bool")
 | int (i:Int):TyOf K H (.int i) (.type "int")
 | str (x:Str):TyOf K H (.str x) (.type "str")
 | flt (x:UInt64):TyOf K H (.flt x) (.type "float")
 | lst {a:Addr} {xs:List V} (e:H a=some (.lst xs)):TyOf K H (.ref a) (.type "list")
 | frz {a:Addr} {o:Obj} {xs:List V} (e:H a=some (.frz o (.lst xs))):TyOf K H (.ref a) (.type "list")
 | tup {a:Addr} {xs:List V} (e:H a=some (.tup xs)):TyOf K H (.ref a) (.type "tuple")
 | dK {a:Addr} {kvs:List (Key×V)} (e:H a=some (.dK kvs)):TyOf K H (.ref a) (.type "dict")
 | dT {a:Addr} {kvs:List (List Key×V)} (e:H a=some (.dT kvs)):TyOf K H (.ref a) (.type "dict")
 | ins {a C dx:Addr} {fs:List (Str×V)} (e:H a=some (.ins C dx fs)) (cl:Cls K C) (ha:PySem.W.findIn K (.ref C) "__class__" = some (some (.builtin "object.__class__")))
    (hn:PySem.W.specialIn K (.builtin "object.__class__") "__get__" = some (some (.builtin "getset_descriptor.__get__"))) (htk:PySem.W.takesIn K (.builtin "object.__class__")=some true)
    (hm:PySem.W.mroIn K C (.type "object")=some true):TyOf K H (.ref a) (.ref C)
theorem RB {x:V}{t:Value}(I:Inv X pins σ H s)(rx:RelV x u)(ty:TyOf X.K H x t)(e:PySem.W.kitOne X.K t c=some b)(h:∀tk,Q (.bool b) { s with toks:=tk }) :
 wpAny (model X.prog X.w) A (call (.builtin "isinstance") [u,c]) Q E s:=by
 cases ty with
 | non=>cases (show u=Value.none from rx);exact ui5 PySem.W.kitx_none I.kIn True.intro e (λz=>nomatch z) h
 | bl y=>cases (show u=Value.bool y from rx);exact ui5 PySem.W.kitx_bool I.kIn True.intro e (λz=>nomatch z) h
 | int i=>obtain ⟨t,q⟩:=(show ∃t,u=Value.int i t from rx);cases q;exact ui5 PySem.W.kitx_int I.kIn True.intro e (λz=>nomatch z) h
 | str y=>obtain ⟨t,q⟩:=(show ∃t,u=Value.str y t from rx);cases q;exact ui5 PySem.W.kitx_str I.kIn True.intro e (λz=>nomatch z) h
 | flt y=>obtain ⟨t,q⟩:=(show ∃t,u=Value.float y t from rx);cases q;exact ui5 PySem.W.kitx_float I.kIn True.intro e (λz=>nomatch z) h
 | @lst a xs ea=>
   cases (show u=Value.ref a from rx)
   obtain ⟨_,_,n,_,h1⟩:=(show ObjOk X.prog X.w H s.heap a (.lst xs) from I.hok a _ ea);exact ui5 PySem.W.kitx_list I.kIn ⟨_,h1,rfl⟩ e (λz=>nomatch z) h
 | @frz a ob xs ea=>
   cases (show u=Value.ref a from rx)
   obtain ⟨_,_,_,n,_,h1⟩:=(show ObjOk X.prog X.w H s.heap a (.frz ob (.lst xs)) from I.hok a _ ea);exact ui5 PySem.W.kitx_list I.kIn ⟨_,h1,rfl⟩ e (λz=>nomatch z) h
 | @tup a xs ea=>
   cases (show u=Value.ref a from rx)
   obtain ⟨_,_,_,p⟩:=(show ObjOk X.prog X.w H s.heap a (.tup xs) from I.hok a _ ea);obtain ⟨o,h1,h2,_⟩:=p;exact ui5 PySem.W.kitx_tuple I.kIn ⟨o,h1,h2⟩ e (λz=>nomatch z) h
 | @dK a kvs ea=>
   cases (show u=Value.ref a from rx)
   obtain ⟨_,_,vs,_,p⟩:=(show ObjOk X.prog X.w H s.heap a (.dK kvs) from I.hok a _ ea);obtain ⟨o,es,ep,h1,h2,_⟩:=p;exact ui5 PySem.W.kitx_dict I.kIn ⟨o,h1,h2.1⟩ e (λz=>nomatch z) h
 | @dT a kvs ea=>
   cases (show u=Value.ref a from rx)
   obtain ⟨_,_,xs,_,o,es,ep,h1,h2,_⟩:=(show ObjOk X.prog X.w H s.heap a (.dT kvs) from I.hok a _ ea);exact ui5 PySem.W.kitx_dict I.kIn ⟨o,h1,h2.1⟩ e (λz=>nomatch z) h
 | @ins a C dx fs ea cl ha hn htk hm=>
   cases (show u=Value.ref a from rx)
   obtain ⟨mA,O,_⟩:=Vl I.hok ea;obtain ⟨od,J,_⟩:=O.look;exact ui5 (PySem.W.kitx_own (cl.get _) cl.hd ha hn htk hm) I.kIn J e (λz=>nomatch z) h
end
structure Room (k:Nat)(A:Around):Prop where
 hd:A.handled=none
 dp:A.depth + 3 * k + 5 < recursionLimit
 un:A.units + 16 * k + 200 < cLine
theorem Room.mono {j k:Nat}{A:Around}(r:Room k A)(h:j<=k):Room j A:=⟨r.hd,by have:=r.dp;lia,by have:=r.un;lia⟩
theorem Room.deeper {k:Nat}{A:Around}(r:Room (k + 1) A)(env:Env):Room k (A.deeper env):=
 ⟨r.hd,by have:=r.dp;show A.depth + 1 + 3 * k + 5 < _;lia,by have:=r.un;show A.units + 3 + 16 * k + 200 < _;lia⟩
theorem Qh {A:Around}{kw:List (Str×Value)}:(A.under (.builtin "type.__call__" ⟨.ref C :: us,kw⟩)).depth=A.depth + 1:=by
 first | rfl | simp [Around.under,Code.weight,Code.isCreation,Code.isGuard,Code.isCaller,Code.frames,Code.isFrame,guardIds]
theorem Qi {A:Around}{kw:List (Str×Value)}:(A.under (.builtin "type.__call__" ⟨.ref C :: us,kw⟩)).units=A.units + 1:=by
 first | rfl | simp [Around.under,Code.cUnits,Code.frames,Code.isFrame]
theorem Room.make {k:Nat}{A:Around}(r:Room (k + 1) A)(C:Addr)(us:List Value)(kw:List (Str×Value)):Room k (A.under (.builtin "type.__call__" ⟨.ref C :: us,kw⟩)):=
 ⟨r.hd,by have:=r.dp;rw [Qh];lia,by have:=r.un;rw [Qi];lia⟩
theorem Room.depth {k:Nat}{A:Around}(r:Room k A):A.depth < recursionLimit:=by have:=r.dp;lia
theorem Room.units {k:Nat}{A:Around}(r:Room k A):A.units + 64 < cLine:=by have:=r.un;lia
def am:TA:=λ_ H Q=>Q [] H
def Y1 (ta:TE)(tr:TA):TA:=λσ H Q=>ta σ H λx H1=>tr σ H1 λxs H2=>Q (x :: xs) H2
section
variable {X:Cx}{e:Expr}{es:List Expr}{te:TE}{t:TA}{pos:Pos}
theorem Xq:PA X [] am:=λ_ _ _ _ H Q I h=>Calls.spliced_nil ⟨[],H,I,.nil,h⟩
theorem VL (ha:PE X e te)(hr:PA X es t)(hs:starEach (e :: es) X.env=(false,eval e X.env) :: starEach es X.env:=by rfl):PA X (e :: es) (Y1 te t):=by
 intro pos pins s σ H Q I h;rw [hs];show wpAny _ _ (spliced ((false,eval e X.env) :: backTo pos (starEach es X.env))) _ _ s;refine Calls.spliced_cons (thn (ha pins s σ H _ I h) λu s1 z9=>?_);obtain ⟨x,H1,I1,r1,q1⟩:=z9;exact thn (hr pos pins s1 σ H1 _ I1 q1) λus s2 ⟨xs,H2,I2,r2,q2⟩=>⟨x :: xs,H2,I2,.cons r1 r2,q2⟩
def ar (t:TA):TE:=λσ H Q=>t σ H λxs H1=>xs.length<=sizeLine/\∀p,H1 p=none->Q (.ref p) (upd H1 p (.tup xs))
def al (t:TA):TE:=λσ H Q=>t σ H λxs H1=>xs.length<=sizeLine/\∀p,H1 p=none->Q (.ref p) (upd H1 p (.lst xs))
theorem Xx {x1}(h:PA X es t):PE X (.Tuple es x1 pos) (ar t):=by
 intro pins s σ H Q I hq;refine wpAny_Tuple_spliced (thn (h pos pins s σ H _ I hq) λus s1 z9=>?_);obtain ⟨xs,H1,I1,r,z,q⟩:=z9;refine ⟨by rw [<-r.length];exact z,?_⟩;have hf:H1 s1.heap.objs.size=none:=I1.hok.fresh (um9 _);refine ⟨.ref s1.heap.objs.size,upd H1 s1.heap.objs.size (.tup xs),I1.laid (t':=s1.toks) (λb u e=>uc4 _ e) (um9 _) ?_,rfl,q _ hf⟩;exact ⟨z,us,r,⟨_,ue4 _ rfl,rfl,_,rfl⟩⟩
theorem Xt (h:PA X es t):PE X (.List es pos) (al t):=by
 intro pins s σ H Q I hq;refine wpAny_List_spliced (thn (h pos pins s σ H _ I hq) λus s1 z9=>?_);obtain ⟨xs,H1,I1,r,z,q⟩:=z9;refine ⟨by rw [<-r.length];exact z,?_⟩;have hf:H1 s1.heap.objs.size=none:=I1.hok.fresh (um9 _);refine ⟨.ref s1.heap.objs.size,upd H1 s1.heap.objs.size (.lst xs),I1.laid (t':=s1.toks) (λb u e=>uc4 _ e) (um9 _) ?_,rfl,q _ hf⟩;exact ⟨z,us,0,r,ue4 _ rfl⟩
end
abbrev Sp:=List V->Hp->VK->XK->Prop
abbrev CXT:=List Env->Hp->Shared->XK->Value->Shared->Prop
structure Env0 (P:Program)(w:World)(K:PySem.W.Frag)(mg:Str->Option Value)(base:Heap)(A:Around)(outer:List Env)(s:Shared)(H:Hp):Prop where
 frames:A.frames=some outer
 mod:Mod K mg base
 bs:∀b o,base.get? b=some o->s.heap.get? b=some o/\H b=none
 bsz:base.objs.size<=s.heap.objs.size
 funs:s.heap.FunFrames base outer
 frf:∀b∈frs outer,H b=none
 hok:HOk P w H s.heap
 bare:AllBare s.gens
def CE (outer:List Env)(P:Program)(w:World)(H:Hp)(s:Shared)(Q:VK)(u:Value)(s':Shared):Prop:=
 ∃v H',s'.os=s.os/\AllBare s'.gens/\Un (frs outer) [] H H' s.heap s'.heap/\HOk P w H' s'.heap/\RelV v u/\Q v H'
def CR (CX:CXT)(outer:List Env)(P:Program)(w:World)(H:Hp)(s:Shared)(Q:VK)(E:XK)(r:Result)(s':Shared):Prop:=
 match r with
 | .ok (.ret u)=>CE outer P w H s Q u s'
 | .ok _=>False
 | .error e=>CX outer H s E e s'
structure FnOk (P:Program)(w:World)(K:PySem.W.Frag)(mg:Str->Option Value)(base:Heap)(CX:CXT)(k:Nat)(f:Addr)(fd:FuncData)(ps:List Str)(sp:Sp):Prop where
 len:∀vs H Q E,sp vs H Q E->vs.length=ps.length
 run:∀(A:Around) (outer:List Env) (s:Shared) (H:Hp) (args:Args) (us:List Value) (vs:List V) (Q:VK) (E:XK),Room k A->Env0 P w K mg base A outer s H->BindsTo s fd args (ps.zip us)->Vals vs us->sp vs H Q E->
  codeAny (model P w) A (.call (.ref f) args) (CR CX outer P w H s Q E) s
variable {mg:Str->Option Value}{base:Heap}
theorem Env0.make {A:Around}{outer:List Env}(e:Env0 P w K mg base A outer s H)(C:Addr)(us:List Value)(kw:List (Str×Value)) :
 Env0 P w K mg base (A.under (.builtin "type.__call__" ⟨.ref C :: us,kw⟩)) outer s H:=⟨by first | exact e.frames | (simpa [Around.under,Code.envs,Code.isFrame,pushEnvs] using e.frames),e.mod,e.bs,e.bsz,e.funs,e.frf,e.hok,e.bare⟩
section
variable {X:Cx}{pins:List (Addr×Obj)}{σ:St}{H:Hp}{s s':Shared}
theorem Inv.env0 (I:Inv X pins σ H s):Env0 X.prog X.w X.K X.mg X.base X.A X.stack s H:=
 ⟨I.ok.frames,I.ok.mod,I.bs,ul7 I.ok.bsz I.sz,I.stack,I.stkFree,I.hok,I.bare⟩
theorem Inv.after {Q:VK}(I:Inv X pins σ H s)(h:CE X.stack X.prog X.w H s Q u s'):EP X pins σ Q u s':=by
 obtain ⟨v,H',os,bare,un,hok,r,q⟩:=h;obtain ⟨hh,g,d,t,os'⟩:=s';obtain rfl:os'=s.os:=os;exact ⟨v,H',I.call (h':=hh) (g':=g) (d':=d) (t':=t) (ch:=[]) un hok bare (λb z=>absurd z (by simp)),r,q⟩
end
def Y0 (sp:Sp)(dvs:List V)(E:XK)(t:TA):TE:=λσ H Q=>t σ H λvs H1=>sp (vs++dvs) H1 Q E
def Binds (K:PySem.W.Frag)(fd:FuncData)(ps:List Str)(ds:List Value):Prop:=
 ∀(s:Shared) (us:List Value),K.In s.heap->(us++ds).length=ps.length->BindsTo s fd ⟨us,[]⟩ (ps.zip (us++ds))
theorem Binds.all {fd:FuncData}{ps:List Str}(h:∀us:List Value,us.length=ps.length->bindArgs fd ⟨us,[]⟩=pure (ps.zip us)):Binds K fd ps []:=λs us _ hl=>by
 rw [ui6] at hl ⊢;exact .of_eq (h us hl)
def Nd (CX:CXT)(X:Cx)(E:XK):Prop:=∀(pins:List (Addr×Obj)) (σ:St) (H:Hp) (s:Shared) (e:Value) (s':Shared),Inv X pins σ H s->CX X.stack H s E e s'->X.xe e s'
section
variable {X:Cx}{CX:CXT}{k:Nat}{f C:Addr}{fd:FuncData}{ps:List Str}{sp:Sp}{dvs:List V}{ds:List Value}{E:XK}{x m:Str}{p pos apos:Pos}{e o:Expr}{es:List Expr}{ta:TE}{t:TA}
theorem X6 {Q:VK}{vs:List V}(F:FnOk X.prog X.w X.K X.mg X.base CX k f fd ps sp)(hr:Room k X.A)(hb:Binds X.K fd ps ds)(hd:Vals dvs ds)(hx:Nd CX X E)
 (I:Inv X pins σ H s) (r:Vals vs us) (h:sp (vs++dvs) H Q E):wpAny (model X.prog X.w) X.A (call (.ref f) us) (EP X pins σ Q) X.xe s:=by
 have r2:Vals (vs++dvs) (us++ds):=r.append hd;have hl:(us++ds).length=ps.length:=by rw [<-r2.length];exact F.len _ _ _ _ h
 refine wpAny_call (codeAny_mono (F.run X.A X.stack s H ⟨us,[]⟩ (us++ds) (vs++dvs) Q E hr I.env0 (hb s us I.kIn hl) r2 h) λr s' hq=>?_)
 cases r with
 | error e=>exact hx pins σ H s e s' I hq
 | ok fl=>
   cases fl with
   | ret u=>exact I.after hq
   | next=>exact False.elim hq
   | brk=>exact False.elim hq
   | cont=>exact False.elim hq
theorem Po (F:FnOk X.prog X.w X.K X.mg X.base CX k f fd ps sp)(hr:Room k X.A)(hg:Gl X x)(hm:X.mg x=some (.ref f))(hk:PySem.W.keepIn X.K (.ref f)=true)(hb:Binds X.K fd ps ds)(hd:Vals dvs ds)(hx:Nd CX X E)
 (ha:PA X (e :: es) t) (hdb:(x == ("__debug__" : Str))=false:=by decide) (he:starEach (e :: es) X.env=(false,eval e X.env) :: starEach es X.env:=by rfl) (hpl:(backTo pos (starEach es X.env)).any (·.1)=false:=by rfl) :
 PE X (.Call (.Name x p) (e :: es) [] pos) (Y0 sp dvs E t):=by
 intro pins s σ H Q I h;refine wpAny_Call_Name_kw (D9 I hg hm ?_ hdb);refine uf4 (h₀:=X.base) I.ok.mod.kin hk (thn (ha pos pins s σ H _ I h) λus s1 z9=>?_) he hpl;obtain ⟨vs,H1,I1,r,q⟩:=z9;refine ⟨I1.kIn,?_⟩;exact X6 F hr hb hd hx I1 r q
structure Mk (K:PySem.W.Frag)(C f:Addr):Prop where
 makes:PySem.W.makesIn K C=true
 init:PySem.W.findIn K (.ref C) "__init__" = some (some (.ref f))
 fn:PySem.W.isFn K (.ref f)=true
 kp:PySem.W.keepIn K (.ref C)=true
end
section
variable {X:Cx}{CX:CXT}{k:Nat}{f C:Addr}{fd:FuncData}{ps ks:List Str}{sp:Sp}{E:XK}{x m:Str}{p pos apos kpos:Pos}{e o:Expr}{es:List Expr}{kws:List Keyword}{te ta:TE}{t tk:TA}{nm:Option Str}
structure KBinds (K:PySem.W.Frag)(fd:FuncData)(ps ks:List Str)(g:List Value->List Value->List Value)(gV:List V->List V->List V):Prop where
 to:∀(s:Shared) (us ws:List Value),K.In s.heap->(g us ws).length=ps.length->BindsTo s fd ⟨us,ks.zip ws⟩ (ps.zip (g us ws))
 rel:∀{vs:List V} {us:List Value} {zs:List V} {ws:List Value},Vals vs us->Vals zs ws->Vals (gV vs zs) (g us ws)
variable {g:List Value->List Value->List Value}{gV:List V->List V->List V}
end
structure FnScope (N P:List Str)(sc:Scope):Prop where
 kind:sc.kind = .function
 co:sc.isCoroutine=false
 gen:sc.isGenerator=false
 nd:N.Nodup
 pre:N.take P.length=P
 par:∀x∈P,sc.names.lookup x=some .local\/sc.names.lookup x=some .cell
 nofree:∀y∈sc.names,y.2≠.free
theorem Mf {kindOf:Str->Option NameKind}{x:Str}:∀{binds:List (Str×Value)} {m:Str->Option Value},(∀v,(x,v)∉binds)->bindL kindOf binds m x=m x
 | [],_,_=>rfl
 | (n,v) :: r,m,h=>by
   unfold bindL;rw [Mf λw hw=>h w (ud7 _ hw)]
   split
   ·have:x≠n:=by rintro rfl;exact h v uf1
    simp [this]
   ·rfl
theorem Mc {kindOf:Str->Option NameKind}{x:Str}:∀{binds:List (Str×Value)} {m:Str->Option Value},(∀v,(x,v)∉binds)->bindC kindOf binds m x=m x
 | [],_,_=>rfl
 | (n,v) :: r,m,h=>by
   unfold bindC;rw [Mc λw hw=>h w (ud7 _ hw)]
   split
   ·rfl
   ·have:x≠n:=by rintro rfl;exact h v uf1
    simp [this]
theorem Me {kindOf:Str->Option NameKind}{x:Str}{v:Value}:∀{P:List Str} {vs:List Value} {i:Nat} {m:Str->Option Value},P.Nodup->P[i]?=some x->vs[i]?=some v->kindOf x=some .local->
 bindL kindOf (P.zip vs) m x=some v
 | [],_,_,_,_,h,_,_=>by simp at h
 | _ :: _,[],_,_,_,_,h,_=>by simp at h
 | p :: P,w :: vs,0,m,nd,h1,h2,hk=>by
   simp at h1 h2;subst h1;subst h2;show bindL kindOf ((p,w) :: P.zip vs) m p=_;unfold bindL;rw [Mf λv hv=>(ui7.mp nd).1 (ui8 hv).1,if_pos hk];simp
 | p :: P,w :: vs,i + 1,m,nd,h1,h2,hk=>by
   show bindL kindOf ((p,w) :: P.zip vs) m x=_;unfold bindL;exact Me (i:=i) (ui7.mp nd).2 (by simpa using h1) (by simpa using h2) hk
theorem Mb {kindOf:Str->Option NameKind}{x:Str}{v:Value}:∀{P:List Str} {vs:List Value} {i:Nat} {m:Str->Option Value},P.Nodup->P[i]?=some x->vs[i]?=some v->kindOf x≠some .local->
 bindC kindOf (P.zip vs) m x=some v
 | [],_,_,_,_,h,_,_=>by simp at h
 | _ :: _,[],_,_,_,_,h,_=>by simp at h
 | p :: P,w :: vs,0,m,nd,h1,h2,hk=>by
   simp at h1 h2;subst h1;subst h2;show bindC kindOf ((p,w) :: P.zip vs) m p=_;unfold bindC;rw [Mc λv hv=>(ui7.mp nd).1 (ui8 hv).1,if_neg hk];simp
 | p :: P,w :: vs,i + 1,m,nd,h1,h2,hk=>by
   show bindC kindOf ((p,w) :: P.zip vs) m x=_;unfold bindC;exact Mb (i:=i) (ui7.mp nd).2 (by simpa using h1) (by simpa using h2) hk
noncomputable def DK (N:List Str)(vs:List V):St:=vs.map some++List.replicate (N.length - vs.length) none
noncomputable def Em (CX:CXT)(P:Program)(w:World)(K:PySem.W.Frag)(mg:Str->Option Value)(base:Heap)(N:List Str)(qual:Str)(scope:Scope)(f:Addr)(cd:Value)(A:Around)(outer:List Env)(s:Shared)(H:Hp)(E:XK):Cx where
 prog:=P
 w:=w
 K:=K
 mg:=mg
 base:=base
 A:=A.deeper (envOfC qual scope s.heap.objs.size f cd)
 N:=N
 s₀:=s
 H₀:=H
 env:=envOfC qual scope s.heap.objs.size f cd
 outer:=outer
 stack:=envOfC qual scope s.heap.objs.size f cd :: outer
 ex:=[]
 calm:=true
 fn:=λ_=>true
 pn:=[]
 xe:=λe s'=>wpAny (model P w) (A.deeper (envOfC qual scope s.heap.objs.size f cd)) (leaving (envOfC qual scope s.heap.objs.size f cd) e) (λ_ s''=>CX outer H s E e s'') (λe' s''=>CX outer H s E e' s'') s'
theorem Ny {sc:Scope}{n:Nat}(h:sc.names.lookup x=some .cell):∃c,(cellsFrom n sc.names []).lookup x=some c:=by
 have q:=uc5 sc.names n [] (.inl h);exact Option.isSome_iff_exists.mp q
theorem Mm {CX:CXT}{N ps:List Str}{qual:Str}{scope:Scope}{f:Addr}{cd:Value}{A:Around}{outer:List Env}{s1:Shared}{E:XK}{vs:List V}
 (S:FnScope N ps scope) (hd:A.handled=none) (e0:Env0 P w K mg base A outer s H) (hl:vs.length=ps.length) (r:Vals vs us)
 (x:InCallC s s.heap.objs.size (bindL (envOfC qual scope s.heap.objs.size f cd).kindOf (ps.zip us) λ_=>none) (cellsFrom (s.heap.objs.size + 1) scope.names []) (bindC (envOfC qual scope s.heap.objs.size f cd).kindOf (ps.zip us) λ_=>none) s1) :
 Inv (Em CX P w K mg base N qual scope f cd A outer s H E) [] (DK N vs) H s1:=by
 have hpl:ps.length<=N.length:=by have:=congrArg List.length S.pre;rw [uh2] at this;lia
 obtain ⟨h1,tk,rfl,hk⟩:=x.done;have noA:∀b:Addr,b∉(Em CX P w K mg base N qual scope f cd A outer s H E).ex:=λb z=>absurd (show b∈([]:List Addr) from z) (by simp);refine ⟨⟨e0.mod,S.kind,rfl,rfl,um9 _,λy z c h1 h2=>?_,λy hy=>?_,λy c _ h=>?_,λ_=>hd,Around.frames_deeper e0.frames,.inr ⟨rfl,rfl⟩,λb z=>absurd z (noA b),e0.bs,e0.bsz,λb _ _=>noA b,λb z=>absurd z (noA b),e0.funs,e0.frf⟩,
  rfl,e0.bare,Un.kept hk,⟨_,x.toInCall.ns,λi y v h1 h2 h3=>?_⟩,λy c h=>⟨_,x.cell y c h⟩,e0.hok.fresh (um9 _),λy c h=>?_,λp hp=>absurd (show p∈([]:List (Addr×Obj)) from hp) (by simp),e0.hok.kept hk,?_⟩
 ·exact name_of_addr x.apart (PySem.mem_of_lookup h1) (PySem.mem_of_lookup h2)
 ·have hy:scope.names.lookup y=some .cell\/scope.names.lookup y=some .free:=hy;rcases hy with hy | hy
  ·exact Ny hy
  ·exact absurd rfl (S.nofree _ (PySem.mem_of_lookup hy))
 ·exact Nat.le_of_lt (x.above y c (PySem.mem_of_lookup h))
 ·have hi:i < vs.length:=by
   unfold DK at h2
   by_cases hi:i < vs.length
   ·exact hi
   ·rw [ua7 (by simpa using hi)] at h2;rw [ub8] at h2
    split at h2 <;> cases h2
  have ha:vs[i]?=some v:=by
   unfold DK at h2;rw [ub2 (by simpa using hi),ug2] at h2
   cases e:vs[i]? with
   | none=>rw [e] at h2;cases h2
   | some a=>rw [e] at h2;cases h2;rfl
  obtain ⟨u,hu,rv⟩:=r.get ha;have hp:ps[i]?=some y:=by
   rw [<-S.pre,List.getElem?_take_of_lt (by lia)];exact h1
  have ndP:ps.Nodup:=by rw [<-S.pre];exact S.nd.sublist (List.take_sublist _ _)
  refine ⟨u,rv,?_⟩;rcases S.par y (ue0 hp) with k | k
  ·exact .inl ⟨k,Me ndP hp hu k⟩
  ·obtain ⟨c,e⟩:=Ny (n:=s.heap.objs.size + 1) k;refine .inr ⟨.inl k,c,e,?_⟩;have q:=x.cell y c e;rw [Mb ndP hp hu (by show scope.names.lookup y≠_;rw [k];decide)] at q;exact q
 ·exact e0.hok.fresh (Nat.le_of_lt (x.above y c (PySem.mem_of_lookup h)))
 ·unfold DK;show _=N.length;rw [uf5,ui9,ud2];lia
theorem UA {CX:CXT}{k:Nat}{f:Addr}{name qual:Str}{params:Arguments}{body:List Stmt}{scope:Scope}{dV kV doc pm cdv ct oc:Value}{an od:Option Addr}
 {osl:Array (Option Value)} {N ps:List Str} {sp:Sp} (lk:K.lookup f=some ⟨oc,od,.func (PySem.W.fnOf name qual params body scope dV kV doc pm an cdv ct),osl⟩) (hcd:PySem.W.codeIn K cdv qual=true) (S:FnScope N ps scope)
 (len:∀vs H Q E,sp vs H Q E->vs.length=ps.length)
 (hbody:∀(A:Around) (outer:List Env) (s:Shared) (H:Hp) (vs:List V) (Q:VK) (E:XK),Room k (A.deeper (envOfC qual scope s.heap.objs.size f cdv))->sp vs H Q E->
   ∃t,PSs (Em CX P w K mg base N qual scope f cdv A outer s H E) body t/\t { nx:=λ_ H'=>Q .non H',rt:=Q } (DK N vs) H) :
 FnOk P w K mg base CX (k + 1) f (PySem.W.fnOf name qual params body scope dV kV doc pm an cdv ct) ps sp:=by
 refine ⟨len,λA outer s H args us vs Q E hr e0 hb r hsp=>?_⟩;have hl:=len _ _ _ _ hsp;have KX:K.In s.heap:=e0.mod.kin.keeps λb o e=>(e0.bs b o e).1;have lim:s.heap.NoLimit:=e0.mod.nolimit.keeps λb o e=>(e0.bs b o e).1;have hkind:∀y∈ps.zip us,scope.names.lookup y.1=some .local\/(scope.names.lookup y.1=some .cell/\((cellsFrom (s.heap.objs.size + 1) scope.names []).lookup y.1).isSome=true):=λz9 hy=>by
  obtain ⟨n,v⟩:=z9;rcases S.par n (ui8 hy).1 with q | q
  ·exact .inl q
  ·exact .inr ⟨q,uc5 _ _ _ (.inl q)⟩
 refine codeAny_call_function hr.depth (KX _ _ lk) rfl S.co S.gen rfl (PySem.W.codeRec_of KX hcd) (hb _ _ _ _ ?_);refine wpAny_newFunctionEnv_cells S.kind hkind λenv he s1 x=>?_;subst he;refine ⟨lim.keeps x.toInCall.keep,codeAny_func ?_⟩;obtain ⟨t,ht,hq⟩:=hbody A outer s H vs Q E (hr.deeper _) hsp;have I:Inv (Em CX P w K mg base N qual scope f cdv A outer s H E) [] (DK N vs) H s1:=Mm S hr.hd e0 hl r x;refine un6 (ht [] s1 (DK N vs) H _ I hq) (λfl s' hs=>?_) λe s' hs=>hs;have fin:∀{σ':St} {H':Hp} {v:V} {u:Value},Inv (Em CX P w K mg base N qual scope f cdv A outer s H E) [] σ' H' s'->RelV v u->Q v H'->CE outer P w H s Q u s':=
  λ{σ' H' v u} J rv q=>⟨v,H',J.os,J.bare,J.base,J.hok,rv,q⟩
 cases fl with
 | ret u=>
   obtain ⟨v,σ',H',J,rv,q⟩:=hs;exact fin J rv q
 | next=>
   obtain ⟨σ',H',J,q⟩:=hs;exact fin (v:=V.non) (u:=Value.none) J rfl q
 | brk=>
   obtain ⟨_,_,_,q⟩:=hs;exact False.elim q
 | cont=>
   obtain ⟨_,_,_,q⟩:=hs;exact False.elim q
section
variable {X:Cx}{x:Str}{p pos:Pos}{e:Expr}{es:List Expr}{t:TA}{id T:String}{r:List V->Hp->VK->Prop}
def tCB (r:List V->Hp->VK->Prop)(t:TA):TE:=λσ H Q=>t σ H λvs H1=>r vs H1 Q
theorem TU (hc:Du X (.builtin id) r)(hg:Gl X x)(hm:X.mg x=none)(hv:bootBuiltins x=some (.builtin id))(ha:PA X (e :: es) t)(hn:x≠"__name__":=by decide)(hdb:(x == ("__debug__" : Str))=false:=by decide)
 (he:starEach (e :: es) X.env=(false,eval e X.env) :: starEach es X.env:=by rfl) (hpl:(backTo pos (starEach es X.env)).any (·.1)=false:=by rfl):PE X (.Call (.Name x p) (e :: es) [] pos) (tCB r t):=by
 intro pins s σ H Q I h;refine wpAny_Call_Name_kw (Ik I hg hm hv ?_ hn hdb);exact PyProof.Rows.callWith_builtin1 (thn (ha pos pins s σ H _ I h) λus s1 z9=>by obtain ⟨vs,H1,I1,r1,q1⟩:=z9;exact hc pins s1 σ H1 vs us Q I1 r1 q1) he hpl
theorem Iu (hc:Du X (.type T) r)(hg:Gl X x)(hm:X.mg x=none)(hv:bootBuiltins x=some (.type T))(ha:PA X (e :: es) t)(hn:x≠"__name__":=by decide)(hdb:(x == ("__debug__" : Str))=false:=by decide)
 (he:starEach (e :: es) X.env=(false,eval e X.env) :: starEach es X.env:=by rfl) (hpl:(backTo pos (starEach es X.env)).any (·.1)=false:=by rfl):PE X (.Call (.Name x p) (e :: es) [] pos) (tCB r t):=by
 intro pins s σ H Q I h;refine wpAny_Call_Name_kw (Ik I hg hm hv ?_ hn hdb);exact ua4 (thn (ha pos pins s σ H _ I h) λus s1 z9=>by obtain ⟨vs,H1,I1,r1,q1⟩:=z9;exact hc pins s1 σ H1 vs us Q I1 r1 q1) he hpl
end
end L2
namespace HT
open PySem PyProof.Rows
section
open PySem.SeqAt
open PySem.AutoSeq1 (wpAny_loadPart')
open PySem.MeetsSeq PySem.MeetsSeq2 PySem.MeetsSeq3
end
section
variable {prog:Program}{w:World}{A:Around}{E:Value->Shared->Prop}{s:Shared}
theorem U1 {t b:Addr}{vs ws:List Value}{Q:Value->Shared->Prop}(ht:IsTup s.heap t vs.toArray)(hb:IsTup s.heap b ws.toArray)(hv:vs≠[])
 (h1:ws=[]->Q (.ref t) s) (h2:ws≠[]->Q (.ref s.heap.objs.size) { s with heap:=s.heap.push { cls:=.type "tuple",data:=.seq (vs++ws).toArray } })
 (hsz:vs.length + ws.length<=sizeLine):wpAny (model prog w) A (binaryOp .Add (.ref t) (.ref b)) Q E s:=by
 obtain ⟨⟨cls,dd,data,sl⟩,ho,hc,n,hd⟩:=id ht;obtain ⟨⟨cls2,dd2,data2,sl2⟩,ho2,hc2,n2,hd2⟩:=id hb;simp only at hc hd hc2 hd2;subst hc hd hc2 hd2;have e:vs.toArray++ws.toArray=(vs++ws).toArray:=by simp
 by_cases hw:ws=[]
 ·exact concat_meets ⟨_,ho,rfl⟩ ⟨_,ho2,rfl⟩ noFill_tuple_add seq_tuple_add uc6 ub9 (ub5 _ _)
   (tuple_addW1 t b vs.toArray ws.toArray n n2 dd dd2 sl sl2 (by simpa using hv) (by simp [hw])) ⟨ho,ho2,h1 hw⟩
 ·refine concat_meets ⟨_,ho,rfl⟩ ⟨_,ho2,rfl⟩ noFill_tuple_add seq_tuple_add uc6 ub9 (ub5 _ _)
   (tuple_addW2 t b vs.toArray ws.toArray n n2 dd dd2 sl sl2 (by simpa using hv) (by simpa using hw) (by rw [ug1,ug1];exact hsz)) ⟨ho,ho2,?_⟩
  rw [e];exact h2 hw
noncomputable def sIx (n d:Nat):Option Int->Nat
 | none=>d
 | some v=>if v < 0 then (v + (n:Int)).toNat else min v.toNat n
theorem J0 (n d:Nat):sIx n d none=d:=rfl
theorem LZ (n d k:Nat):sIx n d (some (k:Int))=min k n:=by
 show (if (k:Int) < 0 then ((k:Int) + (n:Int)).toNat else min (k:Int).toNat n)=min k n;rw [if_neg (by lia),ug3]
theorem X7 (n d:Nat)(hd:d<=n)(o:Option Int):sIx n d o<=n:=by
 cases o with
 | none=>exact hd
 | some v=>
   show (if v < 0 then (v + (n:Int)).toNat else min v.toNat n)<=n
   by_cases hv:v < 0
   ·rw [if_pos hv];lia
   ·rw [if_neg hv];exact Nat.min_le_right _ _
theorem O8 (v:Int)(n d:Nat):(if v < 0 then max (v + (n:Int)) 0 else min v (n:Int))=((sIx n d (some v):Nat):Int):=by
 show (if v < 0 then max (v + (n:Int)) 0 else min v (n:Int))=(((if v < 0 then (v + (n:Int)).toNat else min v.toNat n):Nat):Int)
 by_cases hv:v < 0
 ·simp only [if_pos hv];lia
 ·simp only [if_neg hv];lia
theorem PX (lo hi:Option Int)(n:Nat):Builtin.Slice.sliceAdjust lo hi 1 (n:Int)=(((sIx n 0 lo:Nat):Int),((sIx n n hi:Nat):Int)):=by
 have h1:¬((1:Int) < 0):=by lia
 unfold Builtin.Slice.sliceAdjust;simp only [h1,if_false];refine Prod.ext ?_ ?_
 ·cases lo with
  | none=>rfl
  | some v=>exact O8 v n 0
 ·cases hi with
  | none=>rfl
  | some v=>exact O8 v n n
theorem Qu (i j:Nat):Builtin.Slice.slicePlaces (i:Int) (j:Int) 1=j - i:=by
 unfold Builtin.Slice.slicePlaces;have h1:(1:Int) > 0:=by lia
 simp only [h1,if_true,Int.ediv_one]
 split <;> lia
theorem Lc {v:Value}{o:Option Int}{Q:Option Int->Shared->Prop}(p:IsPart v o)(h:Q o s):wpAny (model prog w) A (Builtin.Slice.slicePartIndex v) Q E s:=by
 cases p with
 | none=>exact slicePart_none h
 | int i t=>exact slicePart_int h
theorem Gx {sl:Addr}{vl vu:Value}{lo hi:Option Int}{n:Nat}{Q:Int×Int×Nat->Shared->Prop}(hs:s.heap.IsSliceOf sl vl vu .none)(pl:IsPart vl lo)(pu:IsPart vu hi)
 (h:Q (((sIx n 0 lo:Nat):Int),1,sIx n n hi - sIx n 0 lo) s):wpAny (model prog w) A (Builtin.Slice.sliceApplied (.ref sl) (pure (n:Int))) Q E s:=by
 obtain ⟨os,hos,hcs,hds⟩:=id hs;unfold Builtin.Slice.sliceApplied Builtin.Slice.sliceFields;refine un4 (un4 (un3 hos hds (x:=vl) rfl (un4 (un3 hos hds (x:=vu) rfl (un4 (un3 hos hds (x:=.none) rfl (un5 ?_)))))));refine un4 (slicePart_none ?_);show wpAny _ _ (if ((1:Int) == 0)=true then _ else _) _ _ s;rw [if_neg (by decide)];refine un4 (Lc pl (un4 (Lc pu (un4 (un5 ?_)))));show wpAny _ _ (match Builtin.Slice.sliceAdjust lo hi 1 (n:Int) with | (lo,hi)=>pure (lo,(1:Int),Builtin.Slice.slicePlaces lo hi 1)) _ _ s;rw [PX lo hi n];show wpAny _ _ (pure (((sIx n 0 lo:Nat):Int),(1:Int),Builtin.Slice.slicePlaces ((sIx n 0 lo:Nat):Int) ((sIx n n hi:Nat):Int) 1)) _ _ s;rw [Qu];exact un5 h
theorem T1 (xs:Array Value)(i k:Nat):((List.range k).filterMap λ(m:Nat)=>xs[((i:Int) + (m:Int) * 1).toNat]?).toArray=((xs.toList.drop i).take k).toArray:=by
 have e:(λ(m:Nat)=>xs[((i:Int) + (m:Int) * 1).toNat]?)=λm=>xs[i + m]?:=by
  funext m
  have:((i:Int) + (m:Int) * 1).toNat=i + m:=by lia
  rw [this]
 rw [e];have:=pick_run xs i k;rw [List.filterMap_map] at this;have e2:((λx=>xs[x]?) ∘ λx=>i + x)=λm=>xs[i + m]?:=rfl;rw [e2] at this;rw [this]
theorem Jm {t sl:Addr}{items:Array Value}{vl vu:Value}{lo hi:Option Int}{Q:Value->Shared->Prop}(ht:IsTup s.heap t items)(hs:s.heap.IsSliceOf sl vl vu .none)(pl:IsPart vl lo)(pu:IsPart vu hi)
 (hw:¬(sIx items.size 0 lo=0/\sIx items.size items.size hi=items.size))
 (h:Q (.ref s.heap.objs.size) { s with heap:=s.heap.push { cls:=.type "tuple",data:=.seq ((items.toList.drop (sIx items.size 0 lo)).take (sIx items.size items.size hi - sIx items.size 0 lo)).toArray } })
 (hsz:items.size<=sizeLine):wpAny (model prog w) A (getItem (.ref t) (.ref sl)) Q E s:=by
 have htake:sizeOk (.seq ((items.toList.drop (sIx items.size 0 lo)).take (sIx items.size items.size hi - sIx items.size 0 lo)).toArray):=by
  show ((items.toList.drop (sIx items.size 0 lo)).take (sIx items.size items.size hi - sIx items.size 0 lo)).toArray.size<=sizeLine;rw [ug1,uh2,uh3,ue3];lia
 have hj:sIx items.size items.size hi<=items.size:=X7 _ _ (um9 _) hi;obtain ⟨os,hos,hcs,hds⟩:=id hs;have hTs:s.TypeIs (.ref sl) "slice":=⟨os,hos,hcs⟩;unfold getItem
 try with_reducible refine ul4 ?_
 first | refine un4 (un5 ?_) | skip
 refine un4 (wpAny_sequenceKey ht.typeIs (by decide) ?_);refine un4 (wpAny_callSpecial?_slot (name:=Str.ofString "__getitem__") ht.typeIs ua1
  (wpAny_call_entry ua1 ht.typeIs entry_tuple_getitem ?_ (args_tuple_getitem _ _)))
 show wpAny _ _ (Builtin.Tuple.tupleItemsOf (.ref t) >>= _) _ _ s;refine un4 (tupleItemsOf_ ht ?_);refine un4 (wpAny_typeOf hTs ?_);rw [if_pos (by decide)];refine un4 (Gx hs pl pu ?_);have hno:¬((((sIx items.size 0 lo:Nat):Int) == 0 && (1:Int) == 1 && (sIx items.size items.size hi - sIx items.size 0 lo) == items.size)=true):=by
  intro q;rw [uh4,uh4] at q;have q1:((sIx items.size 0 lo:Nat):Int)=0:=eq_of_beq q.1.1;have q2:sIx items.size items.size hi - sIx items.size 0 lo=items.size:=eq_of_beq q.2;exact hw ⟨by lia,by lia⟩
 show wpAny _ _ (if (((sIx items.size 0 lo:Nat):Int) == 0 && (1:Int) == 1 && (sIx items.size items.size hi - sIx items.size 0 lo) == items.size)=true then _ else _) _ _ s;rw [if_neg hno,T1]
 first
  | exact un4 (m:=Builtin.Tuple.tupleExact _) (wpAny_newObj_type (un5 ⟨_,rfl,un5 h⟩) htake)
  | exact un4 (m:=Builtin.Tuple.tupleExact _) (wpAny_newObj_type (un4 (un5 (un5 ⟨_,rfl,un5 h⟩))) htake)
  | exact un4 (un4 (m:=Builtin.Tuple.tupleExact _) (wpAny_newObj_type (un5 (un5 ⟨_,rfl,un5 h⟩)) htake))
  | exact un4 (un4 (m:=Builtin.Tuple.tupleExact _) (wpAny_newObj_type (un5 ⟨_,rfl,un5 h⟩) htake))
end
end HT
namespace L2
open PySem PySem.Spec PyProof.Rows
abbrev TO:=St->Hp->(Option Int->Hp->Prop)->Prop
def PO (X:Cx)(e:Option Expr)(t:TO):Prop:=
 ∀(pins:List (Addr×Obj)) (s:Shared) (σ:St) (H:Hp) (Q:Option Int->Hp->Prop),Inv X pins σ H s->t σ H Q->
  wpAny (model X.prog X.w) X.A (evalPart e X.env) (λu s'=>∃o H',Inv X pins σ H' s'/\IsPart u o/\Q o H') X.xe s
def Wq:TO:=λ_ H Q=>Q none H
def Y5 (t:TE):TO:=λσ H Q=>t σ H λx H1=>∃i,x = .int i/\Q (some i) H1
section
variable {X:Cx}{e:Expr}{te:TE}{lo hi:Option Expr}{tl th:TO}{pos p2:Pos}
theorem VX:PO X none Wq:=by
 intro pins s σ H Q I h;rw [evalPart_none];exact un5 ⟨none,H,I,.none,h⟩
theorem VY (h:PE X e te):PO X (some e) (Y5 te):=by
 intro pins s σ H Q I hw;rw [evalPart_some];refine thn (h pins s σ H _ I hw) λu s1 z9=>?_;obtain ⟨x,H1,I1,r1,q1⟩:=z9;obtain ⟨i,rfl,q⟩:=q1;obtain ⟨t,rfl⟩:=r1;exact ⟨some i,H1,I1,.int i t,q⟩
def SlR (X:Cx)(r:V->Option Int->Option Int->Hp->VK->Prop):Prop:=
 ∀(pins:List (Addr×Obj)) (s:Shared) (σ:St) (H:Hp) (x:V) (v vl vu:Value) (lo hi:Option Int) (sl:Addr) (Q:VK),Inv X pins σ H s->RelV x v->s.heap.IsSliceOf sl vl vu .none->IsPart vl lo->IsPart vu hi->r x lo hi H Q->
  ∃T id,typeLookup (.type T) "__getitem__" = pure (some (.builtin id))/\s.TypeIs v T/\wpAny (model X.prog X.w) X.A (getItem v (.ref sl)) (EP X pins σ Q) X.xe s
theorem SlR.or {r r':V->Option Int->Option Int->Hp->VK->Prop}(h:SlR X r)(h':SlR X r'):SlR X (λx lo hi H Q=>r x lo hi H Q\/r' x lo hi H Q):=by
 intro pins s σ H x v vl vu lo hi sl Q I rx hs pl pu q;rcases q with q | q
 ·exact h pins s σ H x v vl vu lo hi sl Q I rx hs pl pu q
 ·exact h' pins s σ H x v vl vu lo hi sl Q I rx hs pl pu q
def tSl (r:V->Option Int->Option Int->Hp->VK->Prop)(te:TE)(tl th:TO):TE:=λσ H Q=>te σ H λx H1=>tl σ H1 λl H2=>th σ H2 λu H3=>r x l u H3 Q
theorem TY {r:V->Option Int->Option Int->Hp->VK->Prop}(hr:SlR X r)(he:PE X e te)(hl:PO X lo tl)(hu:PO X hi th):PE X (.Subscript e (.Slice lo hi none p2) pos) (tSl r te tl th):=by
 intro pins s σ H Q I h;refine Subscript_ (thn (he pins s σ H _ I h) λv s1 z9=>?_);obtain ⟨x,H1,I1,r1,q1⟩:=z9;refine wpAny_Slice (thn (hl pins s1 σ H1 _ I1 q1) λvl s2 ⟨l,H2,I2,pl,q2⟩=>thn (hu pins s2 σ H2 _ I2 q2) λvu s3 z9=>?_);obtain ⟨u,H3,I3,pu,q3⟩:=z9;rw [evalPart_none];refine un5 ?_;have I4:Inv X pins σ H3 { s3 with heap:=s3.heap.push { cls:=.type "slice",data:=.fields #[vl,vu,.none] } }:=I3.kept (t':=s3.toks) λb ob q=>uc4 _ q;obtain ⟨T,id,hT,ht,hg⟩:=hr pins { s3 with heap:=s3.heap.push { cls:=.type "slice",data:=.fields #[vl,vu,.none] } } σ H3 x v vl vu l u s3.heap.objs.size Q I4 r1 (Heap.IsSliceOf.new ..) pl pu q3;show wpAny (model X.prog X.w) X.A (subscriptTail e (.Slice lo hi none p2) v (.ref s3.heap.objs.size)) (EP X pins σ Q) X.xe { s3 with heap:=s3.heap.push { cls:=.type "slice",data:=.fields #[vl,vu,.none] } };exact tail_any (ops:=[.ref s3.heap.objs.size,v]) ht hT hg (by with_unfolding_all rfl)
def Hi (xs:List V)(lo hi:Option Int):List V:=(xs.drop (HT.sIx xs.length 0 lo)).take (HT.sIx xs.length xs.length hi - HT.sIx xs.length 0 lo)
theorem Jq (xs:List V)(lo hi:Option Int):(Hi xs lo hi).length<=xs.length:=by
 unfold Hi;rw [uh2,uh3];lia
def XZ (K:PySem.W.Frag):V->Option Int->Option Int->Hp->VK->Prop:=λx lo hi H Q=>∃a xs,x = .ref a/\SqT K H a xs/\
 ¬(HT.sIx xs.length 0 lo=0/\HT.sIx xs.length xs.length hi=xs.length)/\∀p,H p=none->Q (.ref p) (upd H p (.tup (Hi xs lo hi)))
theorem Yb:SlR X (XZ X.K):=by
 intro pins s σ H x v vl vu lo hi sl Q I rx hs pl pu h;obtain ⟨a,xs,rfl,hx,hw,q⟩:=h
 cases rx
 obtain ⟨its,r,ht,hz⟩:=I.tuple hx;have hlen:its.toArray.size=xs.length:=by rw [ug1];exact r.length.symm
 refine ⟨"tuple",_,ua1.lookup,ht.typeIs,?_⟩;refine HT.Jm ht hs pl pu (by rw [hlen];exact hw) ?_ (by rw [hlen];exact hz);rw [hlen];refine ⟨.ref s.heap.objs.size,_,I.laid (t':=s.toks) (o:=.tup (Hi xs lo hi)) (λb ob q=>uc4 _ q) (um9 _) ?_,rfl,q _ (I.hok.fresh (um9 _))⟩;exact ⟨ul7 (Jq xs lo hi) hz,_,(r.drop (HT.sIx xs.length 0 lo)).take (HT.sIx xs.length xs.length hi - HT.sIx xs.length 0 lo),IsTup.new _ _⟩
def UH (K:PySem.W.Frag):R2:=λx y H Q=>∃a b xs ys,x = .ref a/\y = .ref b/\SqT K H a xs/\SqT K H b ys/\xs≠[]/\xs.length + ys.length<=sizeLine/\
 (ys=[]->Q (.ref a) H)/\(ys≠[]->∀p,H p=none->Q (.ref p) (upd H p (.tup (xs++ys))))
theorem Vals.nil_iff {xs:List V}{us:List Value}(r:Vals xs us):us=[]↔xs=[]:=by
 cases r with
 | nil=>simp
 | cons _ _=>simp
theorem VH:OpR X (binaryOp .Add) (UH X.K):=by
 intro pins s σ H x y v u Q I rx ry h;obtain ⟨a,b,xs,ys,rfl,rfl,ha,hb,hx,hz,q1,q2⟩:=h
 cases rx
 cases ry
 obtain ⟨its,r1,p1,_⟩:=I.tuple ha;obtain ⟨its2,r2,p2,_⟩:=I.tuple hb;refine HT.U1 p1 p2 (λz=>hx (r1.nil_iff.mp z)) (λz=>⟨.ref a,H,I,rfl,q1 (r2.nil_iff.mp z)⟩) (λz=>?_) (by rw [<-r1.length,<-r2.length];exact hz);refine ⟨.ref s.heap.objs.size,_,I.laid (t':=s.toks) (o:=.tup (xs++ys)) (λb ob q=>uc4 _ q) (um9 _) ?_,rfl,q2 (λw=>z (r2.nil_iff.mpr w)) _ (I.hok.fresh (um9 _))⟩;exact ⟨by rw [uf5];exact hz,_,r1.append r2,IsTup.new _ _⟩
end
noncomputable def ixN (n:Nat)(i:Int):Option Nat:=if 0<=i then (if i < n then some i.toNat else none) else if -(n:Int)<=i then some (i + n).toNat else none
def atI {α:Type}(xs:List α)(i:Int):Option α:=(ixN xs.length i).bind λj=>xs[j]?
theorem Vm {n:Nat}{i:Int}{j:Nat}(h:ixN n i=some j):seqIndex? i n=some j/\j < n/\-(n:Int)<=i/\i < n:=by
 unfold ixN at h
 by_cases h0:0<=i
 ·rw [if_pos h0] at h
  by_cases h1:i < n
  ·rw [if_pos h1] at h;have e:i.toNat=j:=ui4 h;exact ⟨by rw [seqIndex_of h0 h1,e],by lia,by lia,h1⟩
  ·rw [if_neg h1] at h;cases h
 ·rw [if_neg h0] at h
  by_cases h1 : -(n:Int)<=i
  ·rw [if_pos h1] at h;have e:(i + n).toNat=j:=ui4 h;exact ⟨by rw [seqIndex_neg (by lia) h1,e],by lia,h1,by lia⟩
  ·rw [if_neg h1] at h;cases h
theorem Ln {α:Type}{xs:List α}{i:Int}{v:α}(h:atI xs i=some v):∃j,seqIndex? i xs.length=some j/\xs[j]?=some v/\j < xs.length/\-(xs.length:Int)<=i/\i < xs.length:=by
 unfold atI at h
 cases e:ixN xs.length i with
 | none=>rw [e] at h;cases h
 | some j=>
   rw [e] at h;obtain ⟨h1,h2,h3,h4⟩:=Vm e;exact ⟨j,h1,h,h2,h3,h4⟩
theorem Lo {α:Type}{xs:List α}{j:Nat}{v:α}(h:xs[j]?=some v):atI xs (j:Int)=some v:=by
 have hj:j < xs.length:=(ub1.mp h).1;have e:ixN xs.length (j:Int)=some j:=by
  unfold ixN;rw [if_pos (by lia),if_pos (by lia)];simp
 unfold atI;rw [e];exact h
def O4 (b:Expr):Prop:=∀o i,subscripted b false o i=operate [o,i] (getItem o i)
def IxR (X:Cx)(r:R2):Prop:=
 ∀(value slice:Expr) (pins:List (Addr×Obj)) (s:Shared) (σ:St) (H:Hp) (x y:V) (v u:Value) (Q:VK),Inv X pins σ H s->RelV x v->RelV y u->r x y H Q->
  subscripted slice false v u=operate [v,u] (getItem v u)->wpAny (model X.prog X.w) X.A (subscriptTail value slice v u) (EP X pins σ Q) X.xe s
def MtR (X:Cx)(id:String)(r:V->List V->Hp->VK->Prop):Prop:=
 ∀(pins:List (Addr×Obj)) (s:Shared) (σ:St) (H:Hp) (x:V) (xs:List V) (v:Value) (us:List Value) (Q:VK),Inv X pins σ H s->RelV x v->Vals xs us->r x xs H Q->
  wpAny (model X.prog X.w) X.A (call (.builtin id) (v :: us)) (EP X pins σ Q) X.xe s
section
variable {X:Cx}{a b:Expr}{ta tb:TE}{pos:Pos}
theorem IxR.or {r r':R2}(h:IxR X r)(h':IxR X r'):IxR X (λx y H Q=>r x y H Q\/r' x y H Q):=by
 intro value slice pins s σ H x y v u Q I rx ry q hs;rcases q with q | q
 ·exact h value slice pins s σ H x y v u Q I rx ry q hs
 ·exact h' value slice pins s σ H x y v u Q I rx ry q hs
theorem YM {r:R2}(hr:IxR X r)(ha:PE X a ta)(hb:PE X b tb)(hs:O4 b):PE X (.Subscript a b pos) (tOp r ta tb):=by
 intro pins s σ H Q I h;exact Subscript_ (Tb ha hb I h λv u s2 x y H2 I2 rx ry q=>hr a b pins s2 σ H2 x y v u Q I2 rx ry q (hs _ _))
def XS (K:PySem.W.Frag):R2:=λx y H Q=>∃p xs i v,x = .ref p/\y = .int i/\SqL K H p xs/\atI xs i=some v/\Q v H
def XU (K:PySem.W.Frag):R2:=λx y H Q=>∃p xs i v,x = .ref p/\y = .int i/\SqT K H p xs/\atI xs i=some v/\Q v H
def XT:R2:=λx y H Q=>∃z i c,x = .str z/\y = .int i/\z.length<=sizeLine/\atI z.cps.toList i=some c/\Q (.str ⟨#[c]⟩) H
theorem ix_list:IxR X (XS X.K):=by
 intro value slice pins s σ H x y v u Q I rx ry h hs;obtain ⟨p,xs,i,z,rfl,rfl,hq,he,q⟩:=h
 cases rx
 obtain ⟨t,rfl⟩:=ry;obtain ⟨its,r,pl,hz⟩:=I.list hq;obtain ⟨j,h1,h2,h3,h4,h5⟩:=Ln he;obtain ⟨w,ew,rw'⟩:=r.get h2;have hl:=r.length;have hn:=KK;have fin:EP X pins σ Q w s:=⟨z,H,I,rw',q⟩
 by_cases h0:0<=i
 ·have hj:i.toNat=j:=by
   rw [seqIndex_of h0 h5] at h1;exact ui4 h1
  exact item_listR pl.isList h0 (by lia) (by rw [hj];simpa using ew) fin hs
 ·have hj:(i + (its.toArray.size:Int)).toNat=j:=by
   rw [seqIndex_neg (by lia) h4] at h1;rw [ug1,<-hl];exact ui4 h1
  exact subscriptTail_builtinR (x:=w) pl.isList.typeIs slot_list_getitem.lookup
   (wpAny_getItem_list_neg (Q:=λr s'=>r=w/\EP X pins σ Q r s') pl.isList (by lia) (by rw [ug1] <;> lia) (by lia) (by rw [hj];simpa using ew) ⟨rfl,fin⟩) hs
theorem ix_tup:IxR X (XU X.K):=by
 intro value slice pins s σ H x y v u Q I rx ry h hs;obtain ⟨p,xs,i,z,rfl,rfl,hq,he,q⟩:=h
 cases rx
 obtain ⟨t,rfl⟩:=ry;obtain ⟨its,r,pl,hz⟩:=I.tuple hq;obtain ⟨j,h1,h2,h3,h4,h5⟩:=Ln he;obtain ⟨w,ew,rw'⟩:=r.get h2;have hl:=r.length;have hn:=KK;have fin:EP X pins σ Q w s:=⟨z,H,I,rw',q⟩;exact subscriptTail_builtinR (x:=w) pl.typeIs slot_tuple_getitem.lookup
  (getItem_tuple (j:=j) (Q:=λr s'=>r=w/\EP X pins σ Q r s') pl (by lia) (by lia) (by rw [ug1,<-hl];exact h1) (by simpa using ew) ⟨rfl,fin⟩) hs
theorem W6:IxR X XT:=by
 intro value slice pins s σ H x y v u Q I rx ry h hs;obtain ⟨z,i,c,rfl,rfl,hz,he,q⟩:=h;obtain ⟨t,rfl⟩:=rx;obtain ⟨t',rfl⟩:=ry;obtain ⟨j,h1,h2,h3,h4,h5⟩:=Ln he;have hl:z.cps.toList.length=z.length:=by simp [Str.length]
 rw [hl] at h1 h4 h5;have hn:=KK;exact tail_any (typeIs_str s z t) slot_str_getitem.lookup (getItem_str (c:=c) (by
  have e1:decide (i < -(2 ^ 63:Int))=false:=uj9 (by lia);have e2:decide (i ≥ 2 ^ 63)=false:=uj9 (by lia);rw [e1,e2,uk7]) (by rw [h1];simpa using h2) ⟨.str ⟨#[c]⟩,H,I.tok _,⟨_,rfl⟩,q⟩) hs
def rIx (K:PySem.W.Frag):R2:=λx y H Q=>XS K x y H Q\/XU K x y H Q\/XT x y H Q
theorem Ak:IxR X (rIx X.K):=ix_list.or (ix_tup.or W6)
theorem Ot (lo hi:Option Int)(n:Nat):(sliceBounds lo hi none n).1=((HT.sIx n 0 lo:Nat):Int)/\(sliceBounds lo hi none n).2.1=((HT.sIx n n hi:Nat):Int)/\(sliceBounds lo hi none n).2.2=1:=by
 refine ⟨?_,?_,rfl⟩
 ·cases lo with
  | none=>simp [sliceBounds,HT.sIx]
  | some i=>
    simp only [sliceBounds,HT.sIx,Option.getD_none,show (1:Int) > 0 by decide,if_true]
    by_cases h:i < 0
    ·simp only [h,if_true] <;> lia
    ·simp only [h,if_false] <;> lia
 ·cases hi with
  | none=>simp [sliceBounds,HT.sIx]
  | some i=>
    simp only [sliceBounds,HT.sIx,Option.getD_none,show (1:Int) > 0 by decide,if_true]
    by_cases h:i < 0
    ·simp only [h,if_true] <;> lia
    ·simp only [h,if_false] <;> lia
theorem MS (its:List Value)(lo hi:Option Int):slicePick its.toArray lo hi none=((its.drop (HT.sIx its.length 0 lo)).take (HT.sIx its.length its.length hi - HT.sIx its.length 0 lo)).toArray:=by
 obtain ⟨h1,h2,h3⟩:=Ot lo hi its.toArray.size;unfold slicePick;rw [h1,h2,h3];simp only [sliceRange_one,pick_run,ug1] <;> rfl
def XX (K:PySem.W.Frag):V->Option Int->Option Int->Hp->VK->Prop:=λx lo hi H Q=>∃a xs,x = .ref a/\SqL K H a xs/\∀p,H p=none->Q (.ref p) (upd H p (.lst (Hi xs lo hi)))
theorem sl_list:SlR X (XX X.K):=by
 intro pins s σ H x v vl vu lo hi sl Q I rx hs pl pu h;obtain ⟨a,xs,rfl,hx,q⟩:=h
 cases rx
 obtain ⟨its,r,ht,hz⟩:=I.list hx;have hlen:=r.length;refine ⟨"list",_,slot_list_getitem.lookup,ht.isList.typeIs,?_⟩;refine wpAny_getItem_list_slice ht.isList hs pl pu .none (by simp) ?_ (by rw [ug1] <;> lia);rw [MS,<-hlen];refine ⟨.ref s.heap.objs.size,_,I.laid (t':=s.toks) (o:=.lst (Hi xs lo hi)) (λb ob q=>uc4 _ q) (um9 _) ?_,rfl,q _ (I.hok.fresh (um9 _))⟩;exact ⟨ul7 (Jq xs lo hi) hz,_,0,(r.drop (HT.sIx xs.length 0 lo)).take (HT.sIx xs.length xs.length hi - HT.sIx xs.length 0 lo),ue4 _ rfl⟩
noncomputable def F0:V->Bool
 | .non=>true
 | .bl _=>true
 | .int _=>true
 | .str _=>true
 | _=>false
noncomputable def eqV:V->V->Bool
 | .non,.non=>true
 | .bl a,.bl b=>a == b
 | .bl a,.int b=>(if a then 1 else 0) == b
 | .int a,.bl b=>a == (if b then 1 else 0)
 | .int a,.int b=>a == b
 | .str a,.str b=>a == b
 | _,_=>false
theorem WY {A:Around}{s:Shared}{y x:V}{u v:Value}(ry:RelV y u)(rx:RelV x v)(fy:F0 y=true)(fx:F0 x=true):SeqAt.EqAt A s u v (eqV y x):=by
 cases y with
 | non=>
   cases ry
   cases x with
   | non=>cases rx;exact SeqAt.EqAt.same _
   | bl b=>cases rx;exact SeqAt.EqAt.none_bool b
   | int b=>obtain ⟨t,rfl⟩:=rx;exact SeqAt.EqAt.none_int b t
   | str b=>obtain ⟨t,rfl⟩:=rx;exact SeqAt.EqAt.none_str b t
   | _=>exact absurd (show false=true from fx) uf2
 | bl a=>
   cases ry
   cases x with
   | non=>cases rx;exact SeqAt.EqAt.bool_none a
   | bl b=>cases rx;exact SeqAt.EqAt.bool_bool a b
   | int b=>obtain ⟨t,rfl⟩:=rx;exact SeqAt.EqAt.bool_int a b t
   | str b=>obtain ⟨t,rfl⟩:=rx;exact SeqAt.EqAt.bool_str a b t
   | _=>exact absurd (show false=true from fx) uf2
 | int a=>
   obtain ⟨t',rfl⟩:=ry
   cases x with
   | non=>cases rx;exact SeqAt.EqAt.int_none a t'
   | bl b=>cases rx;exact SeqAt.EqAt.int_bool a t' b
   | int b=>obtain ⟨t,rfl⟩:=rx;exact SeqAt.EqAt.int_int a t' b t
   | str b=>obtain ⟨t,rfl⟩:=rx;exact SeqAt.EqAt.int_str a t' b t
   | _=>exact absurd (show false=true from fx) uf2
 | str a=>
   obtain ⟨t',rfl⟩:=ry
   cases x with
   | non=>cases rx;exact SeqAt.EqAt.str_none a t'
   | bl b=>cases rx;exact SeqAt.EqAt.str_bool a t' b
   | int b=>obtain ⟨t,rfl⟩:=rx;exact SeqAt.EqAt.str_int a t' b t
   | str b=>obtain ⟨t,rfl⟩:=rx;exact SeqAt.EqAt.str_str a t' b t
   | _=>exact absurd (show false=true from fx) uf2
 | _=>exact absurd (show false=true from fy) uf2
def eqU (x:V)(u:Value):Bool:=match u with
 | .none=>eqV .non x
 | .bool b=>eqV (.bl b) x
 | .int i _=>eqV (.int i) x
 | .str z _=>eqV (.str z) x
 | _=>false
theorem Ra {x y:V}{u:Value}(r:RelV y u)(f:F0 y=true):eqU x u=eqV y x:=by
 cases y with
 | non=>cases r;rfl
 | bl b=>cases r;rfl
 | int i=>obtain ⟨t,rfl⟩:=r;rfl
 | str z=>obtain ⟨t,rfl⟩:=r;rfl
 | _=>exact absurd (show false=true from f) uf2
theorem NY {A:Around}{s:Shared}{x:V}{v:Value}(rx:RelV x v)(fx:F0 x=true):∀{xs:List V} {us:List Value},Vals xs us->xs.all F0=true->∀u∈us,SeqAt.EqAt A s u v (eqU x u)
 | _,_,.nil,_=>λu hu=>by cases hu
 | y :: xs,u :: us,.cons r t,f=>λu' hu=>by
   rw [uk8,uh4] at f;rcases uk6.mp hu with rfl | hu
   ·rw [Ra r f.1];exact WY r rx f.1 fx
   ·exact NY rx fx t f.2 u' hu
theorem Fe:Du X (.type "list") (λxs H Q=>∃p ys,xs=[.ref p]/\(SqL X.K H p ys\/SqT X.K H p ys)/\∀l,H l=none->Q (.ref l) (upd H l (.lst ys))):=by
 intro pins s σ H xs us Q I r h;obtain ⟨p,ys,rfl,hq,q⟩:=h;obtain ⟨u,rfl,rx⟩:=F5 r
 cases rx
 have fin:∀(its:List Value),Vals ys its->ys.length<=sizeLine->∀(h':Heap) (c':Nat),(∀b o',s.heap.get? b=some o'->h'.get? b=some o')->
  h'.get? s.heap.objs.size=some { cls:=.type "list",dict:=none,data:=.seq its.toArray c',slots:=#[] }->EP X pins σ Q (.ref s.heap.objs.size) { s with heap:=h' }:=λits r' hz h' c' kp e=>
  ⟨.ref s.heap.objs.size,_,I.laid (t':=s.toks) kp (um9 _) (show ObjOk X.prog X.w _ h' _ (.lst ys) from ⟨hz,its,c',r',e⟩),rfl,q _ (I.hok.fresh (um9 _))⟩
 rcases hq with hq | hq
 ·obtain ⟨its,r',pl,hz⟩:=I.list hq;have hlen:=r'.length;obtain ⟨o,ho,hc,n,hd⟩:=pl.isList;exact call_list_seq p (.inl rfl) ho hc hd (λh' c' kp e=>fin its r' hz h' c' kp e) (by simp only [ug1] <;> lia)
 ·obtain ⟨its,r',pl,hz⟩:=I.tuple hq;have hlen:=r'.length;obtain ⟨o,ho,hc,n,hd⟩:=pl;exact call_list_seq p (.inr rfl) ho hc hd (λh' c' kp e=>fin its r' hz h' c' kp e) (by simp only [ug1] <;> lia)
theorem Mz:Du X (.type "tuple") (λxs H Q=>∃p ys,xs=[.ref p]/\((SqL X.K H p ys/\∀l,H l=none->Q (.ref l) (upd H l (.tup ys)))\/(SqT X.K H p ys/\Q (.ref p) H))):=by
 intro pins s σ H xs us Q I r h;obtain ⟨p,ys,rfl,h⟩:=h;obtain ⟨u,rfl,rx⟩:=F5 r
 cases rx
 rcases h with ⟨hq,q⟩ | ⟨hq,q⟩
 ·obtain ⟨its,r',pl,hz⟩:=I.list hq;have hlen:=r'.length;refine call_tuple_list pl.isList (λh' kp=>?_) (by simp only [ug1] <;> lia);have I1:Inv X pins σ H { s with heap:=h' }:=I.kept (t':=s.toks) kp;have I2:Inv X pins σ (upd H h'.objs.size (.tup ys)) { s with heap:=h'.push { cls:=.type "tuple",data:=.seq its.toArray } }:=
   I1.laid (t':=s.toks) (λb o e=>uc4 _ e) (um9 _) (show ObjOk X.prog X.w _ _ _ (.tup ys) from ⟨hz,its,r',IsTup.new _ _⟩)
  exact ⟨.ref h'.objs.size,_,I2,rfl,q _ (I1.hok.fresh (um9 _))⟩
 ·obtain ⟨its,r',pl,hz⟩:=I.tuple hq;exact call_tuple_same pl ⟨.ref p,H,I,rfl,q⟩
def tyV (K:PySem.W.Frag)(T:String)(x:V)(H:Hp):Prop:=match x with
 | .str _=>T = "str"
 | .int _=>T = "int"
 | .ref p=>(T = "list"/\∃xs,SqL K H p xs)\/(T = "tuple"/\∃o,K.lookup p=some o/\o.cls = .type "tuple"/\o.dict=none)\/
    (T = "dict"/\((∃kvs,H p=some (.dK kvs))\/∃kvs,H p=some (.dT kvs)))\/(T = "set"/\∃S n,H p=some (.set S n))
 | _=>False
theorem Yj {pins:List (Addr×Obj)}{σ:St}{H:Hp}{s:Shared}{T:String}{x:V}{v:Value}(I:Inv X pins σ H s)(r:RelV x v)(ty:tyV X.K T x H) :
 s.TypeIs v T/\∀a,v = .ref a->∃ob,s.heap.get? a=some ob/\ob.dict=none:=by
 cases x with
 | str z=>
   obtain ⟨t,rfl⟩:=r
   cases (show T = "str" from ty)
   exact ⟨typeIs_str s z t,λ_ e=>nomatch e⟩
 | int i=>
   obtain ⟨t,rfl⟩:=r
   cases (show T = "int" from ty)
   exact ⟨typeIs_int s i t,λ_ e=>nomatch e⟩
 | ref p=>
   cases r
   rcases ty with ⟨rfl,xs,hq⟩ | ⟨rfl,o,hk,hc,hd⟩ | ⟨rfl,hk⟩ | ⟨rfl,S,n,hk⟩
   ·obtain ⟨its,_,pl,_⟩:=I.list hq;refine ⟨pl.isList.typeIs,λa e=>?_⟩
    cases e
    obtain ⟨o,n,e,c,hd,_⟩:=pl;exact ⟨o,e,hd⟩
   ·refine ⟨⟨o,I.kIn p o hk,hc⟩,λa e=>?_⟩
    cases e
    exact ⟨o,I.kIn _ o hk,hd⟩
   ·have z:∃o,s.heap.get? p=some o/\o.ExactDict:=by
     rcases hk with ⟨kvs,hk⟩ | ⟨kvs,hk⟩
     ·obtain ⟨_,_,_,_,o,_,_,e,ex,_⟩:=I.hok p _ hk;exact ⟨o,e,ex⟩
     ·obtain ⟨_,_,_,_,o,_,_,e,ex,_⟩:=I.hok p _ hk;exact ⟨o,e,ex⟩
    obtain ⟨o,e,ex⟩:=z;refine ⟨⟨o,e,ex.1⟩,λa e2=>?_⟩
    cases e2
    exact ⟨o,e,ex.2.1⟩
   ·obtain ⟨o,_,_,_,e,ex,_⟩:=I.hok p _ hk;refine ⟨⟨o,e,ex.1⟩,λa e2=>?_⟩
    cases e2
    exact ⟨o,e,ex.2.1⟩
 | _=>exact False.elim ty
def tBM (K:PySem.W.Frag)(T:String)(r:V->List V->Hp->VK->Prop)(to:TE)(t:TA):TE:=λσ H Q=>to σ H λx H1=>tyV K T x H1/\t σ H1 λxs H2=>r x xs H2 Q
variable {o e:Expr}{es:List Expr}{to:TE}{t:TA}{name:Str}{apos cpos:Pos}{T id:String}{r:V->List V->Hp->VK->Prop}
theorem K3 (pa:PlainAttrs T)(slot:Slot T name id)(hty:typeOf (.builtin id)=pure (.type "method_descriptor"))(hm:MtR X id r)(ho:PE X o to)(ha:PA X (e :: es) t)
 (hbase:attributeBase o name X.env (eval o X.env)=eval o X.env:=by rfl)
 (hfew:((backTo cpos (starEach (e :: es) X.env)).all (λx=>!x.1) && (backToKw cpos (keywordEach [] X.env)).all (λx=>x.1.isSome)
   && decide ((e :: es).length + ([]:List Keyword).length + (if ([]:List Keyword).isEmpty then 0 else 1) < 30))=true:=by rfl)
 (hline:(apos.endLine == cpos.line)=true:=by rfl) (hs:starEach (e :: es) X.env=(false,eval e X.env) :: starEach es X.env:=by rfl) (hplain:(backTo cpos (starEach es X.env)).any (·.1)=false:=by rfl) :
 PE X (.Call (.Attribute o name apos) (e :: es) [] cpos) (tBM X.K T r to t):=by
 intro pins s σ H Q I h;refine wpAny_Call_method_late hbase hfew hline rfl (thn (ho pins s σ H _ I h) λv s1 z9=>?_);obtain ⟨x,H1,I1,r1,ty,q1⟩:=z9;obtain ⟨h1,h2⟩:=Yj I1 r1 ty;refine ⟨T,id,pa,slot,hty,h1,h2,?_⟩;have hA:=ha cpos pins s1 σ H1 _ I1 q1;rw [hs] at hA ⊢;refine Calls.callWith_builtin (by show (false || (backTo cpos (starEach es X.env)).any (·.1))=false;rw [hplain] <;> rfl) (Calls.evalArgs_plain ?_);exact thn hA λus s2 ⟨vs,H2,I2,r2,q2⟩=>hm pins s2 σ H2 x vs v us Q I2 r1 r2 q2
/- xs.append(e),list.index on a module's tuple .. are MtR facts of 06m -/
end
def MtM (X:Cx)(id:String)(r:V->List V->Hp->VK->Prop):Prop:=
 ∀(pins:List (Addr×Obj)) (s:Shared) (σ:St) (H:Hp) (x:V) (xs:List V) (v:Value) (us:List Value) (Q:VK),Inv X pins σ H s->RelV x v->Vals xs us->r x xs H Q->
  wpAny (model X.prog X.w) X.A (call (.builtin id) (v :: us)) (EP X pins σ Q) X.xe s
theorem Vals.one {x:V}{us:List Value}(h:Vals [x] us):∃u,us=[u]/\RelV x u:=by
 cases h with
 | cons r t=>
   cases t
   exact ⟨_,rfl,r⟩
theorem Vals.rep {xs:List V}{us:List Value}(h:Vals xs us):∀k:Nat,Vals (List.replicate k xs).flatten (List.replicate k us).flatten
 | 0=>.nil
 | k + 1=>by
   rw [ue5,ue5,ug4,ug4];exact Vals.append h (Vals.rep h k)
theorem Ii (its:List Value):∀(k:Nat) (acc:List Value),
 List.foldl (λx1 x2=>x1++x2) acc.toArray (List.replicate k its.toArray)=(acc++(List.replicate k its).flatten).toArray
 | 0,acc=>by simp
 | k + 1,acc=>by
   have e:acc.toArray++its.toArray=(acc++its).toArray:=by simp
   have e2:(acc++its)++(List.replicate k its).flatten=acc++(List.replicate (k + 1) its).flatten:=by
    rw [ue5,ug4,ug5]
   rw [<-e2,<-Ii its k (acc++its),<-e,ue5,uj0]
section
variable {X:Cx}{pins:List (Addr×Obj)}{σ:St}{H:Hp}{s:Shared}{l b:Addr}{xs ys zs:List V}
theorem Inv.lset {its its':List Value}{n:Nat}{f:Array Value->Array Value}{t':Nat}(I:Inv X pins σ H s)(hH:H l=some (.lst xs))
 (e:s.heap.get? l=some { cls:=.type "list",data:=.seq its.toArray n }) (hf:f its.toArray=its'.toArray) (hv:Vals ys its') (hz:ys.length<=sizeLine) :
 Inv X pins σ (upd H l (.lst ys)) { s with heap:=s.heap.update l (Obj.mapSeq f),toks:=t' }:=by
 have q:=PySem.IsL.update e f;rw [hf] at q;refine I.write (x:=l) (e:=l) (by rw [hH];exact trivial) (.inl rfl) (λb' u hb hu=>(uc7 s.heap (Obj.mapSeq f) (Ne.symm hb)).trans hu) ⟨_,q⟩ ?_;exact ⟨hz,its',_,hv,q⟩
theorem Inv.lnew {its:List Value}{t':Nat}(I:Inv X pins σ H s)(hv:Vals ys its)(hz:ys.length<=sizeLine) :
 Inv X pins σ (upd H s.heap.objs.size (.lst ys)) { s with heap:=s.heap.push { cls:=.type "list",data:=.seq its.toArray },toks:=t' }:=
 I.laid (λ_ _ q=>uc4 _ q) (um9 _) ⟨hz,its,0,hv,ue4 _ rfl⟩
theorem Inv.fresh (I:Inv X pins σ H s):H s.heap.objs.size=none:=I.hok.fresh (um9 _)
theorem Inv.lstM (I:Inv X pins σ H s)(hH:H l=some (.lst xs)):xs.length<=sizeLine/\∃(its:List Value) (n:Nat),Vals xs its/\xs.length=its.length/\s.heap.get? l=some { cls:=.type "list",data:=.seq its.toArray n }:=by
 obtain ⟨z,its,n,r,e⟩:=I.hok l _ hH;exact ⟨z,its,n,r,r.length,e⟩
theorem JP {n:Nat}(h:n<=sizeLine):Builtin.List.listTooLong n=false:=by
 unfold Builtin.List.listTooLong;exact uj9 (by lia)
end
section
variable {X:Cx}
def Pq:V->List V->Hp->VK->Prop:=λx vs H Q=>∃l xs y,x = .ref l/\vs=[y]/\H l=some (.lst xs)/\xs.length < sizeLine/\Q .non (upd H l (.lst (xs++[y])))
theorem R1:MtM X "list.append" Pq:=by
 intro pins s σ H x vs v us Q I rx rv h;obtain ⟨l,xs,y,rfl,rfl,hH,hz,q⟩:=h
 cases rx
 obtain ⟨u,rfl,ru⟩:=rv.one;obtain ⟨z,its,n,r,hl,e⟩:=I.lstM hH;refine call_meets F.slot_list_append ⟨_,e,rfl⟩ F.entry_list_append (F.args_list_append_2 _ _) (PySem.list_append l its.toArray n u (by rw [ug1];lia)) ⟨e,?_⟩;refine ⟨.non,_,I.lset (its':=its++[u]) hH e (by simp) (r.append (.cons ru .nil)) ?_,rfl,q⟩;rw [uf5,ud3];lia
def Ps:V->List V->Hp->VK->Prop:=λx vs H Q=>∃l b xs zs,x = .ref l/\vs=[.ref b]/\H l=some (.lst xs)/\H b=some (.lst zs)/\xs.length + zs.length<=sizeLine/\Q .non (upd H l (.lst (xs++zs)))
theorem mt_extend:MtM X "list.extend" Ps:=by
 intro pins s σ H x vs v us Q I rx rv h;obtain ⟨l,b,xs,zs,rfl,rfl,hH,hB,hz,q⟩:=h
 cases rx
 obtain ⟨u,rfl,ru⟩:=rv.one
 cases ru
 obtain ⟨z,its,n,r,hl,e⟩:=I.lstM hH;obtain ⟨z2,its2,n2,r2,hl2,e2⟩:=I.lstM hB;have hsz:its.toArray.size + its2.toArray.size<=sizeLine:=by rw [ug1,ug1];lia
 have hlong:¬(!its.toArray.isEmpty && Builtin.List.listTooLong (its.toArray.size + its2.toArray.size))=true:=by
  rw [JP hsz,uk2];exact uf2
 refine call_meets F.slot_list_extend ⟨_,e,rfl⟩ F.entry_list_extend (F.args_list_extend_2 _ _)
  (AutoSeq1.list_extend_list_list_0 l its.toArray n b its2.toArray n2 hlong (by rw [ug1];lia) (by lia)) ⟨e,e2,?_⟩
 refine ⟨.non,_,I.lset (its':=its++its2) hH e (by simp) (r.append r2) ?_,rfl,q⟩;rw [uf5];lia
def T7:R2:=λx y H Q=>∃l b xs zs,x = .ref l/\y = .ref b/\H l=some (.lst xs)/\H b=some (.lst zs)/\xs.length + zs.length<=sizeLine/\∀p,H p=none->Q (.ref p) (upd H p (.lst (xs++zs)))
theorem op_cat:OpR X (binaryOp .Add) T7:=by
 intro pins s σ H x y v u Q I rx ry h;obtain ⟨l,b,xs,zs,rfl,rfl,hH,hB,hz,q⟩:=h
 cases rx
 cases ry
 obtain ⟨z,its,n,r,hl,e⟩:=I.lstM hH;obtain ⟨z2,its2,n2,r2,hl2,e2⟩:=I.lstM hB;refine PySem.P.add_list e e2 ?_ (by rw [ug1,ug1];lia);have ea:its.toArray++its2.toArray=(its++its2).toArray:=by simp
 rw [ea];exact ⟨.ref _,_,I.lnew (t':=s.toks) (r.append r2) (by rw [uf5];lia),rfl,q _ I.fresh⟩
def XV:R2:=λx y H Q=>∃l k xs,x = .ref l/\y = .int k/\H l=some (.lst xs)/\-(2 ^ 63)<=k/\k < 2 ^ 63/\xs.length * k.toNat<=sizeLine/\
 ∀p,H p=none->Q (.ref p) (upd H p (.lst (List.replicate k.toNat xs).flatten))
theorem LE {α:Type}(xs:List α)(k:Nat):(List.replicate k xs).flatten.length=k * xs.length:=by
 induction k with
 | zero=>simp
 | succ k ih=>rw [ue5,ug4,uf5,ih,Nat.succ_mul,Nat.add_comm]
theorem Xo:OpR X (binaryOp .Mult) XV:=by
 intro pins s σ H x y v u Q I rx ry h;obtain ⟨l,k,xs,rfl,rfl,hH,h1,h2,hz,q⟩:=h
 cases rx
 obtain ⟨t,rfl⟩:=ry;obtain ⟨z,its,n,r,hl,e⟩:=I.lstM hH;have hlen:its.toArray.size * k.toNat<=sizeLine:=by rw [ug1,<-hl];exact hz
 have hcap:¬its.toArray.size * k.toNat > (2 ^ 63 - 1) / 8:=by
  have:(sizeLine:Nat)<=(2 ^ 63 - 1) / 8:=by decide
  lia
 have hfit:¬(!Builtin.List.listFitsIndex k)=true:=by
  rw [fitsIndex_both h1 h2];exact uf2
 have hlong:¬Builtin.List.listTooLong (its.toArray.size * k.toNat)=true:=by
  rw [JP hlen];exact uf2
 have hnew:List.foldl (λx1 x2=>x1++x2) #[] (List.replicate (if its.toArray.isEmpty=true then 0 else k.toNat) its.toArray)=(List.replicate k.toNat its).flatten.toArray:=by
  have f0:∀m:Nat,List.foldl (λx1 x2=>x1++x2) #[] (List.replicate m its.toArray)=(List.replicate m its).flatten.toArray:=λm=>by
   have:=Ii its m [];rw [uj1] at this;exact this
  rw [f0]
  cases its with
  | nil=>simp
  | cons a r'=>rw [if_neg (by simp)]
 refine wpAny_binaryOp_repeat_ref (T:="list") (U:="int") (by decide) ⟨_,e,rfl⟩ (λs'=>typeIs_int s' k t) noFill_list_mul F.fills_int_mul F.slot_int_rmul repeat_list F.slot_int_index.lookup
  (call_meets F.slot_int_rmul (typeIs_int s k t) F.entry_int_rmul (F.args_int_rmul_2 _ _) (int___rmul___int_list k t l its.toArray n)
    ⟨e,rfl,⟨_,e,rfl⟩,call_meets F.slot_list_mul ⟨_,e,rfl⟩ F.entry_list_mul (F.args_list_mul_2 _ _) (AutoListH.list___mul___list_int_3 l its.toArray n k t hfit hcap hlong) ⟨e,?_⟩⟩)
 rw [hnew];exact ⟨.ref _,_,I.lnew (t':=s.toks) (r.rep k.toNat) (by rw [LE,ul9];exact hz),rfl,q _ I.fresh⟩
end
section
variable {prog:Program}{w:World}{A:Around}{E:Value->Shared->Prop}{s:Shared}
end
section
variable {X:Cx}
end
end L2
namespace Att
open PySem PySem.W PySem.Calls PyProof.Rows
theorem KI {P:Params}{h:Heap}:∀(ns:List Int) (vs:List Value),WellAll P h vs (ns.map WData.int)->IntsAre vs ns:=by
 intro ns
 induction ns with
 | nil=>
   intro vs w;rw [um0] at w
   cases w
   exact .nil
 | cons n ns ih=>
   intro vs w;rw [uk9] at w
   cases w with
   | cons a b=>
     cases a
     exact .cons _ _ (ih _ b)
theorem Sx {l:OpenLaw}{n:Nat}(hn:l.most=some n){P:Params}{h:Heap}{args:List WData}{vals:List Value}
 (hpre:l.row.toRowW.claim.pre args=true) (hwl:WellAll P h vals args) :
 ∃a vs ns,vals=[Value.ref a]/\args=[WData.list (ns.map WData.int)]/\h.get? a=some { cls:=.type "list",data:=.seq vs.toArray }/\IntsAre vs ns/\ns.length<=n:=by
 have hsh:WShape.hasAll [] args [.list .int]=true:=(pre_splitW hpre).1;have hc:l.pre.holds [] { args:=args }=true:=(pre_splitW hpre).2;obtain ⟨d,r,rfl,h1,h2⟩:=hasAllW_cons hsh;obtain rfl:=hasAllW_nil h2;obtain ⟨xs,rfl,h3⟩:=hasW_list h1;obtain ⟨ns,rfl⟩:=items_int h3;have hlen:ns.length<=n:=by
  unfold OpenLaw.pre at hc;have h4:(WTm.not (.lt (.lit (.int (n:Int))) (.len (.arg 0)))).holds [] { args:=[.list (ns.map .int)] }=true:=by
   have h4:=(holds_andW hc).1;rw [hn] at h4;exact h4
  have h5:=condW_of h4 (w_not (w_lt w_lit (w_len_list (w_arg rfl))));rw [ui9] at h5;refine Nat.le_of_not_lt λq=>?_;have q':(n:Int) < ((ns.length:Nat):Int):=by lia
  first
   | (rw [uk4 q'] at h5;exact absurd h5 (by decide))
   | (simp at h5;lia)
 cases hwl with
 | cons w1 w2=>
   cases w2
   cases w1 with
   | list ho hall=>exact ⟨_,_,ns,rfl,rfl,ho,KI ns _ hall,hlen⟩
theorem Si (l:OpenLaw)(args:List WData):l.row.toRowW.claim.post args (.bool true) args=true:=
 postW_of (r:=l.row.toRowW) (X:=(true == true))
  (show WShape.has [] (.bool true) .bool=true by first | rfl | decide | simp [WShape.has,WShape.arms,WShape.armsAll])
  (show (WTm.eq .res (.lit (.bool true))).value [] { args:=args,res:=some (.bool true),after:=args }=some (.bool (true == true)) from w_eq_bool (w_res rfl) w_lit) rfl
theorem attach_call {l:OpenLaw}{n:Nat}{q:Program}{loose:List Str}{XP:(Str->Option Value)->Heap->Prop}{YP:World->Heap->Prop}{d:DefRec}
 (hn:l.most=some n) (hdf:d.params.defaults=[])
 (call:∀(w:World) (s₀ s₁:Shared) (mg mb:Str->Option Value) (fa:Addr) (o:Obj) (pm cd doc:Value) (a:Addr) (vs:List Value) (ns:List Int),
   Ground q loose [] XP w s₀ mg mb s₁.heap->YP w s₁.heap->
   s₁.heap.get? fa=some o->o.data = .func (docDef d.name d.params d.body d.scope pm cd doc)->s₁.heap.CodeRec cd d.name->mg d.name=some (.ref fa)->
   s₁.heap.get? a=some { cls:=.type "list",data:=.seq vs.toArray }->IntsAre vs ns->ns.length<=n->s₁.gens=#[]->
   codeAny (model l.prog w) callerA (.call (.ref fa) ⟨[.ref a],[]⟩) (λr s'=>r = .ok (.ret (.bool true))/\OldK s₁.heap s'.heap/\s'.os=s₁.os/\AllBare s'.gens) s₁) :
 WalkO q loose XP YP l.row.toRowW d [] (λf vs=>PySem.call f vs):=by
 intro w s₀ s₁ mg mb G Y fa o pm cd doc dV kV ho hd hcd hD hmg hg args vals as hpre hlay hrd hwl hlo;obtain rfl:dV = .none:=Dflts.none hD hdf;obtain rfl:kV = .none:=Dflts.noKw hD;obtain ⟨a,vs,ns,rfl,rfl,hobj,hints,hlen⟩:=Sx hn hpre hwl;refine enter_call (codeAny_mono (call w s₀ s₁ mg mb fa o pm cd doc a vs ns G Y ho (fd_plain hd) hcd hmg hobj hints hlen hg) λr s' hq=>?_);obtain ⟨rfl,h2,h3,h4⟩:=hq;exact ⟨.inl ⟨.bool true,.bool true,[],rfl,λ_=>rfl,.bool true,Si l _,λ_=>⟨List.Pairwise.nil,λ_ hm=>(nomatch hm)⟩⟩,h2,h3,h4⟩
section
variable {prog:Program}{w:World}{A:Around}{E:Value->Shared->Prop}{s:Shared}{K:Frag}
noncomputable def bA (h:Heap)(L d:Addr):List (Addr×Obj):=(List.range h.objs.size).filterMap λa=>if a=L\/a=d then none else (h.get? a).map λo=>(a,o)
end
end Att
namespace L2
open PySem PySem.Spec PyProof.Rows
theorem Mu:∀{vs:List Value} {ns:List Int},IntsAre vs ns->Vals (ns.map V.int) vs
 | _,_,.nil=>.nil
 | _,_,.cons n t h=>.cons ⟨t,rfl⟩ (Mu h)
def PK (H:Hp):Prop:=∀b,H b=none\/∃o xs,H b=some (.frz o (.lst xs))
variable {P:Program}{w:World}{fd:FuncData}{x:Str}
theorem Tv {K:PySem.W.Frag}{mg mb:Str->Option Value}{CX:CXT}{k:Nat}{fa a:Addr}{sp:Sp}{s₁:Shared}{vs:List Value}{ns:List Int}
 (KX:K.In s₁.heap) (hns:s₁.heap.Ns mainGlobals mg) (hb:s₁.heap.Ns builtinsNs mb) (hbb:∀x:Str,x≠"__name__"->mb x=bootBuiltins x) (hlim:s₁.heap.NoLimit) (hg:s₁.gens=#[])
 (ha:s₁.heap.get? a=some { cls:=.type "list",data:=.seq vs.toArray }) (hi:IntsAre vs ns) (hl:ns.length<=sizeLine) (hr:Room k callerA)
 (F:∀base:Heap,K.In base->base.Ns mainGlobals mg->FnOk P w K mg base CX k fa fd [x] sp) (hbind:∀(s:Shared) (u:Value),BindsTo s fd ⟨[u],[]⟩ [(x,u)])
 (hsp:∀H:Hp,PK H->SqL K H a (ns.map V.int)->sp [.ref a] H (λv _=>v = .bl true) λ_ _ _=>False)
 (hCX:∀H e s',CX [] H s₁ (λ_ _ _=>False) e s'->False) :
 codeAny (model P w) callerA (.call (.ref fa) ⟨[.ref a],[]⟩) (λr s'=>r = .ok (.ret (.bool true))/\OldK s₁.heap s'.heap/\s'.os=s₁.os/\AllBare s'.gens) s₁:=by
 have rv:=Mu hi;have lenV:=hi.length
 -- from an abstract heap in which nothing but the script may be tracked
 have core:∀H:Hp,PK H->SqL K H a (ns.map V.int)->HOk P w H s₁.heap->(∀b,H b≠none->b=a)->(H a≠none->K.lookup a=none)->
  codeAny (model P w) callerA (.call (.ref fa) ⟨[.ref a],[]⟩) (λr s'=>r = .ok (.ret (.bool true))/\OldK s₁.heap s'.heap/\s'.os=s₁.os/\AllBare s'.gens) s₁:=by
  intro H hO hS hok hA hK;have base_of:∀{b:Addr} {o:Obj},s₁.heap.get? b=some o->H b=none->(Hn s₁.heap H).get? b=some o:=λe n=>Ts e n;have noA:∀{b:Addr} {o:Obj} {es:Array DictEntry} {ep:Nat},s₁.heap.get? b=some o->o.data = .dict es ep->H b=none:=λ{b o es ep} e d=>by
   cases q:H b with
   | none=>rfl
   | some u=>
     have e':b=a:=hA b (by rw [q];simp);subst e';rw [ha] at e;cases e
     have d':Data.seq vs.toArray _=Data.dict es ep:=d
     cases d'
  have nsK:∀{b:Addr} {m:Str->Option Value},s₁.heap.Ns b m->(Hn s₁.heap H).Ns b m:=λ{b m} ⟨o,es,ep,e,d,r⟩=>⟨o,es,ep,base_of e (noA e d),d,r⟩;have hKb:K.In (Hn s₁.heap H):=λb o e=>base_of (KX b o e) (by
   cases q:H b with
   | none=>rfl
   | some u=>
     have e':b=a:=hA b (by rw [q];simp);subst e';rw [hK (by rw [q];simp)] at e;cases e)
  have hM:Mod K mg (Hn s₁.heap H):=⟨hKb,nsK hns,⟨mb,nsK hb,hbb⟩,let ⟨mc,h1,h2⟩:=hlim;⟨mc,nsK h1,h2⟩⟩;have e0:Env0 P w K mg (Hn s₁.heap H) callerA [] s₁ H:=⟨rfl,hM,λb o e=>VB e,Nat.le_of_eq (Rt _ _),trivial,λb hb=>absurd (show b∈([]:List Addr) from hb) (by simp),hok,.of_eq hg⟩;refine codeAny_mono ((F _ hKb (nsK hns)).run callerA [] s₁ H ⟨[.ref a],[]⟩ [.ref a] [.ref a] _ _ hr e0 (hbind s₁ (.ref a)) (.cons rfl .nil) (hsp H hO hS)) λr s' h=>?_
  cases r with
  | error e=>exact (hCX H e s' h).elim
  | ok fl=>
    cases fl with
    | next=>exact False.elim h
    | brk=>exact False.elim h
    | cont=>exact False.elim h
    | ret u=>
      obtain ⟨v,H',os,bare,un,hok',r',q⟩:=h;have q':v = .bl true:=q;subst q';obtain rfl:u=Value.bool true:=r';refine ⟨rfl,OldK.of_keep λb o e=>?_,os,bare⟩
      cases q:H b with
      | none=>exact un.keep b o e q (by intro z;exact absurd (show b∈([]:List Addr) from z) (by simp)) (by simp)
      | some u=>
        rcases hO b with z | ⟨ob,xs,z⟩
        ·rw [q] at z;cases z
        ·have z2:=un.frzs b ob _ z;obtain ⟨e1,_⟩:=hok b _ z;obtain ⟨e2,_⟩:=hok' b _ z2;rw [e] at e1;cases e1
         exact e2
 cases hk:K.lookup a with
 | some o=>
   -- the script is one of the module's own objects
   have e:=KX a o hk;rw [ha] at e
   cases e
   refine core (λ_=>none) (λ_=>.inl rfl) (.inr ⟨_,vs.toArray,_,hk,rfl,rfl,rfl,by rw [ug1,lenV];exact hl,by simpa using rv⟩) (λb u z=>by have z':(none:Option HO)=some u:=z;cases z') (λb z=>absurd rfl z) λz=>absurd rfl z
 | none=>
   refine core (λb=>if b=a then some (.frz { cls:=.type "list",data:=.seq vs.toArray } (.lst (ns.map V.int))) else none) (λb=>?_) (.inl (.inr ⟨{ cls:=.type "list",data:=.seq vs.toArray },if_pos rfl⟩)) (λb u z=>?_) (λb z=>?_) λ_=>hk
   ·by_cases hb:b=a
    ·exact .inr ⟨_,_,if_pos hb⟩
    ·exact .inl (if_neg hb)
   ·by_cases hb:b=a
    ·have z':=(if_pos hb).symm.trans z
     cases z'
     subst hb;exact ⟨ha,by rw [ui9];exact hl,vs,_,rv,ha⟩
    ·have z':=(if_neg hb).symm.trans z
     cases z'
   ·by_cases hb:b=a
    ·exact hb
    ·exact absurd (if_neg hb) z
theorem WD {l:PySem.W.OpenLaw}{n k:Nat}{q:Program}{loose:List Str}{XP:(Str->Option Value)->Heap->Prop}{YP:World->Heap->Prop}{d:DefRec}{K:Params->PySem.W.Frag}{CX:World->CXT}{sp:World->Sp}
 (hn:l.most=some n) (hn2:n<=sizeLine) (hdf:d.params.defaults=[]) (hr:Room k callerA)
 (hY:∀(w:World) (h:Heap),YP w h->(K w.params).In h)
 (F:∀(w:World) (mg:Str->Option Value) (fa:Addr) (h:Heap),(K w.params).In h->h.Ns mainGlobals mg->mg d.name=some (.ref fa)->
   ∃fd:FuncData,(∀(s:Shared) (u:Value),BindsTo s fd ⟨[u],[]⟩ [(x,u)])/\
    ∀base:Heap,(K w.params).In base->base.Ns mainGlobals mg->FnOk l.prog w (K w.params) mg base (CX w) k fa fd [x] (sp w))
 (hsp:∀(w:World) (H:Hp) (a:Addr) (ns:List Int),ns.length<=n->PK H->SqL (K w.params) H a (ns.map V.int)->sp w [.ref a] H (λv _=>v = .bl true) λ_ _ _=>False)
 (hCX:∀(w:World) (H:Hp) (s:Shared) (e:Value) (s':Shared),CX w [] H s (λ_ _ _=>False) e s'->False) :
 PySem.W.WalkO q loose XP YP l.row.toRowW d [] (λf vs=>PySem.call f vs):=by
 refine Att.attach_call hn hdf λw s₀ s₁ mg mb fa o pm cd doc a vs ns G Y ho hd hcd hmg hobj hints hlen hg=>?_;have KX:=hY w _ Y;obtain ⟨fd,hb,hF⟩:=F w mg fa _ KX G.T.g hmg;exact Tv KX G.T.g G.T.b G.T.builtins G.T.nolimit hg hobj hints (ul7 hlen hn2) hr hF hb (λH hO hS=>hsp w H a ns hlen hO hS) λH e s'=>hCX w H s₁ e s'
noncomputable def DM (s:Stmt):Arguments:=match s with
 | .FunctionDef _ a _ _ _ _ _ _ _ _=>a
 | _=>{ posonlyargs:=[],args:=[],vararg:=none,kwonlyargs:=[],kw_defaults:=[],kwarg:=none,defaults:=[] }
noncomputable def Ca (s:Stmt):List Stmt:=match s with
 | .FunctionDef _ _ b _ _ _ _ _ _ _=>b
 | _=>[]
noncomputable def Ao (s:Stmt):Scope:=match s with
 | .FunctionDef _ _ _ _ _ _ sc _ _ _=>sc
 | _=>{ kind:=.function,names:=[],isGenerator:=false,isCoroutine:=false }
abbrev CX0:CXT:=λ_ _ _ _ _ _=>False
abbrev E0:XK:=λ_ _ _=>False
variable {X:Cx}
theorem UE:Nd CX0 X E0:=λ_ _ _ _ _ _ _ h=>h.elim
structure Fun (K:PySem.W.Frag)(x qual:Str)(st:Stmt)(f:Addr)(fd:FuncData):Prop where
 ex:∃(oc:Value) (od:Option Addr) (kV doc pm:Value) (an:Option Addr) (cdv ct:Value) (osl:Array (Option Value)),
  fd=PySem.W.fnOf x qual (DM st) (Ca st) (Ao st) .none kV doc pm an cdv ct/\K.lookup f=some ⟨oc,od,.func fd,osl⟩/\PySem.W.codeIn K cdv qual=true
 kp:PySem.W.keepIn K (.ref f)=true
variable {qual:Str}{f:Addr}
section
variable {P:Program}{w:World}{K:PySem.W.Frag}{mg:Str->Option Value}{base:Heap}
theorem Fun.ok {st:Stmt}{N ps:List Str}{k:Nat}{sp:Sp}(F:Fun K x qual st f fd)(S:FnScope N ps (Ao st))(len:∀vs H Q E,sp vs H Q E->vs.length=ps.length)
 (hbody:∀(cdv:Value) (A:Around) (outer:List Env) (s:Shared) (H:Hp) (vs:List V) (Q:VK) (E:XK),Room k (A.deeper (envOfC qual (Ao st) s.heap.objs.size f cdv))->sp vs H Q E->
   ∃t,PSs (Em CX0 P w K mg base N qual (Ao st) f cdv A outer s H E).nox (Ca st) t/\t { nx:=λ_ H'=>Q .non H',rt:=Q } (DK N vs) H):FnOk P w K mg base CX0 (k + 1) f fd ps sp:=by
 obtain ⟨oc,od,kV,doc,pm,an,cdv,ct,osl,rfl,lk,hcd⟩:=F.ex;refine UA lk hcd S len λA outer s H vs Q E hr hsp=>?_;obtain ⟨t,h,q⟩:=hbody cdv A outer s H vs Q E hr hsp;exact ⟨t,h.nox,q⟩
theorem Fun.binds {st:Stmt}{ps:List Str}(F:Fun K x qual st f fd)
 (h:∀(kV doc pm:Value) (an:Option Addr) (cdv ct:Value) (us:List Value),us.length=ps.length->bindArgs (PySem.W.fnOf x qual (DM st) (Ca st) (Ao st) .none kV doc pm an cdv ct) ⟨us,[]⟩=pure (ps.zip us)):Binds K fd ps []:=by
 obtain ⟨oc,od,kV,doc,pm,an,cdv,ct,osl,rfl,lk,hcd⟩:=F.ex;exact .all (h kV doc pm an cdv ct)
theorem GZ {st:Stmt}{oc:Value}{od an:Option Addr}{osl:Array (Option Value)}{kV doc pm cdv ct:Value}(l:K.lookup f=some ⟨oc,od,.func (PySem.W.fnOf x qual (DM st) (Ca st) (Ao st) .none kV doc pm an cdv ct),osl⟩)
 (c:PySem.W.codeIn K cdv qual=true) (k:PySem.W.keepIn K (.ref f)=true):Fun K x qual st f (PySem.W.fnOf x qual (DM st) (Ca st) (Ao st) .none kV doc pm an cdv ct):=⟨⟨oc,od,kV,doc,pm,an,cdv,ct,osl,rfl,l,c⟩,k⟩
end
section
variable {X:Cx}
end
def bI (H H':Hp):Prop:=∀b o,H b=some o->H' b=some o
section
variable {κ:Type}[DecidableEq κ]
noncomputable def EG (kvs:List (κ×V))(k:κ):Option V:=(kvs.find? λkv=>decide (kv.1=k)).map (·.2)
noncomputable def EE (kvs:List (κ×V))(k:κ)(v:V):List (κ×V):=
 if (kvs.any λkv=>decide (kv.1=k))=true then kvs.map (λkv=>if kv.1=k then (kv.1,v) else kv) else kvs++[(k,v)]
theorem HK {p:κ×V}{r:List (κ×V)}{k:κ}(e:p.1=k):EG (p :: r) k=some p.2:=by simp [EG,uj2,e]
theorem HJ {p:κ×V}{r:List (κ×V)}{k:κ}(e:¬p.1=k):EG (p :: r) k=EG r k:=by simp [EG,uj2,e]
theorem Jr (kvs:List (κ×V))(k:κ)(v:V):(EE kvs k v).length<=kvs.length + 1:=by
 unfold EE
 split
 ·rw [ui9];lia
 ·rw [uf5,uh5,uj3];lia
theorem RelO.isSome_eq {o:Option V}{u:Option Value}(r:RelO o u):o.isSome=u.isSome:=by
 cases o with
 | none=>cases u with
   | none=>rfl
   | some _=>exact (show False from r).elim
 | some _=>cases u with
   | none=>exact (show False from r).elim
   | some _=>rfl
theorem KV.val {kvs:List (κ×V)}{vs:List (κ×Value)}(r:KV kvs vs)(k:κ):RelO (EG kvs k) (valueAt vs k):=by
 unfold KV at r
 induction r with
 | nil=>exact True.intro
 | @cons p q ps qs h t ih=>
   obtain ⟨h1,h2⟩:=h
   by_cases e:p.1=k
   ·have e':q.1=k:=h1.symm.trans e;have b:valueAt (q :: qs) k=some q.2:=by simp [valueAt,uj2,e']
    rw [HK e,b];exact h2
   ·have e':¬q.1=k:=λz=>e (h1.trans z);have b:valueAt (q :: qs) k=valueAt qs k:=by simp [valueAt,uj2,e']
    rw [HJ e,b];exact ih
theorem KV.any {kvs:List (κ×V)}{vs:List (κ×Value)}(r:KV kvs vs)(k:κ):(kvs.any λkv=>decide (kv.1=k))=vs.any λkv=>decide (kv.1=k):=by
 unfold KV at r
 induction r with
 | nil=>rfl
 | cons h t ih=>rw [ul0,ul0,ih,h.1]
theorem KV.repl {kvs:List (κ×V)}{vs:List (κ×Value)}(r:KV kvs vs)(k:κ){y:V}{u:Value}(ry:RelV y u) :
 KV (kvs.map λkv=>if kv.1=k then (kv.1,y) else kv) (vs.map λkv=>if kv.1=k then (kv.1,u) else kv):=by
 unfold KV at r ⊢
 induction r with
 | nil=>exact .nil
 | @cons p q ps qs h t ih=>
   rw [uk9,uk9];refine .cons ?_ ih;obtain ⟨h1,h2⟩:=h
   by_cases e:p.1=k
   ·rw [if_pos e,if_pos (h1.symm.trans e)];exact ⟨h1,ry⟩
   ·rw [if_neg e,if_neg (λz=>e (h1.trans z))];exact ⟨h1,h2⟩
theorem KV.put {kvs:List (κ×V)}{vs:List (κ×Value)}(r:KV kvs vs)(k:κ){y:V}{u:Value}(ry:RelV y u):KV (EE kvs k y) (stored vs k u):=by
 unfold EE stored;rw [r.any k]
 by_cases e:(vs.any λkv=>decide (kv.1=k))=true
 ·rw [if_pos e,if_pos e];exact r.repl k ry
 ·rw [if_neg e,if_neg e];exact Paired.snoc r ⟨rfl,ry⟩
theorem KV.length {kvs:List (κ×V)}{vs:List (κ×Value)}(r:KV kvs vs):kvs.length=vs.length:=Paired.length r
end
theorem IT {k:Key}{u:Value}(r:RelV (kV k) u):(CV P w).is k u=true:=by
 cases k with
 | inl i=>obtain ⟨t,e⟩:=(show ∃t,u=Value.int i t from r);subst e;exact OK P w i t
 | inr x=>obtain ⟨t,e⟩:=(show ∃t,u=Value.str x t from r);subst e;exact OL P w x t
theorem Mn {P:Program}{w:World}:∀{ks:List Key} {us:List Value},Vals (ks.map kV) us->ItemsAre (CV P w) ks us
 | [],_,r=>by rw [um0] at r;cases r;exact .nil
 | k :: ks,_,r=>by
   rw [uk9] at r
   cases r with
   | cons h t=>exact .cons (IT h) (Mn t)
abbrev KT (H:Hp):List (List Key×V)->List (List Key×Addr×Value)->Prop:=Paired λp q=>p.1=q.1/\H q.2.1=some (.tup (p.1.map kV))/\RelV p.2 q.2.2
variable {H:Hp}
theorem KT.val {kvs:List (List Key×V)}{xs:List (List Key×Addr×Value)}(r:KT H kvs xs)(k:List Key):RelO (EG kvs k) ((atKey xs k).map (·.2)):=by
 induction r with
 | nil=>exact True.intro
 | @cons p q ps qs h t ih=>
   obtain ⟨h1,_,h2⟩:=h
   by_cases e:p.1=k
   ·have e':q.1=k:=h1.symm.trans e;have b:atKey (q :: qs) k=some q.2:=by simp [atKey,uj2,e']
    rw [HK e,b];exact h2
   ·have e':¬q.1=k:=λz=>e (h1.trans z);have b:atKey (q :: qs) k=atKey qs k:=by simp [atKey,uj2,e']
    rw [HJ e,b];exact ih
variable {kvs:List (Key×V)}
section
variable {P:Program}{w:World}{H:Hp}{h:Heap}{a:Addr}
theorem UN {u:HO}(ok:HOk P w H h)(e:Rd H a u):ObjOk P w H h a u:=e.ok ok
theorem P8 (ok:HOk P w H h)(e:Rd H a (.dK kvs)):kvs.length<=sizeLine/\(a == sysModules)=false/\∃vs,KV kvs vs/\h.DictOf (CV P w) a vs:=
 show ObjOk P w H h a (.dK kvs) from UN ok e
theorem MW (ok:HOk P w H h)(e:H a=some (.dK kvs)):kvs.length<=sizeLine/\(a == sysModules)=false/\∃vs,KV kvs vs/\h.DictOf (CV P w) a vs:=P8 ok (.inl e)
theorem NS {ks:List Key}(ok:HOk P w H h)(e:H a=some (.tup (ks.map kV))):(tupleKind (CV P w)).is h ks a:=by
 obtain ⟨_,its,r,o,h1,h2,n,h3⟩:=(show ObjOk P w H h a (.tup (ks.map kV)) from ok a _ e);exact ⟨o,its.toArray,n,h1,h2,h3,by simpa using Mn r⟩
theorem Uy {kvs:List (List Key×V)}(ok:HOk P w H h)(e:Rd H a (.dT kvs)):kvs.length<=sizeLine/\(a == sysModules)=false/\
 ∃xs,KT H kvs xs/\h.DictOfH (tupleKind (CV P w)) a xs:=by
 obtain ⟨z,y,xs,r,o,es,ep,h1,h2,h3,h4,h5⟩:=(show ObjOk P w H h a (.dT kvs) from UN ok e);refine ⟨z,y,xs,r,o,es,ep,h1,h2,h3,h4,λx hx=>?_,h5⟩;have all:∀{l:List (List Key×V)} {m:List (List Key×Addr×Value)},KT H l m->∀x∈m,(tupleKind (CV P w)).is h x.1 x.2.1:=by
  intro l m q
  induction q with
  | nil=>intro x hx;exact nomatch hx
  | @cons p q ps qs hq t ih=>
    intro x hx;rcases uk6.mp hx with e | hx
    ·subst e;exact NS ok (by rw [<-hq.1];exact hq.2.1)
    ·exact ih x hx
 exact all r x hx
end
def DGet (H:Hp)(a:Addr)(y:V)(r:Option V):Prop:=
 (∃kvs k,Rd H a (.dK kvs)/\y=kV k/\r=EG kvs k)\/∃kvs k b,Rd H a (.dT kvs)/\y = .ref b/\H b=some (.tup (k.map kV))/\r=EG kvs k
def bG (H:Hp)(a:Addr)(y v:V)(H':Hp):Prop:=
 (∃kvs k,H a=some (.dK kvs)/\y=kV k/\kvs.length < sizeLine/\H'=upd H a (.dK (EE kvs k v)))\/
 ∃kvs k b,H a=some (.dT kvs)/\y = .ref b/\H b=some (.tup (k.map kV))/\kvs.length < sizeLine/\H'=upd H a (.dT (EE kvs k v))
theorem DGet.k {a:Addr}{k:Key}(e:H a=some (.dK kvs)):DGet H a (kV k) (EG kvs k):=.inl ⟨kvs,k,.inl e,rfl,rfl⟩
section
variable {X:Cx}{pins:List (Addr×Obj)}{σ:St}{H:Hp}{s:Shared}{a:Addr}{y v:V}{u r:Value}{o:Option V}{A:Around}{E:Value->Shared->Prop}
theorem Inv.big (I:Inv X pins σ H s):sysModules < s.heap.objs.size:=by
 have h:mainGlobals < s.heap.objs.size:=(I.mod.glob.keeps I.bk).lt;exact Nat.lt_trans (by decide) h
theorem ZZ {Q:Value->Shared->Prop}(hu:A.units + 1 < cLine)(I:Inv X pins σ H s)(g:DGet H a y o)(ry:RelV y u)(h:∀s',Inv X pins σ H s'->Q (.bool o.isSome) s') :
 wpAny (model X.prog X.w) A (compareOp .In u (.ref a)) Q E s:=by
 rcases g with ⟨kvs,k,e,ey,l⟩ | ⟨kvs,k,b,e,ey,eb,l⟩
 ·subst ey;obtain ⟨z,hd,vs,rel,dd⟩:=P8 I.hok e;refine wpAny_in_of (IT ry) hd dd.mapOf ?_;rw [<-(rel.val k).isSome_eq,<-l];exact h _ (I.tok _)
 ·subst ey
  cases (show u=Value.ref b from ry)
  obtain ⟨z,hd,xs,rel,dd⟩:=Uy I.hok e;refine wpAny_in_heap (tupleKind_room_in1 hu) (NS I.hok eb) hd dd ?_;have q:=(rel.val k).isSome_eq;rw [Option.isSome_map] at q;rw [<-q,<-l];exact h _ (I.tok _)
theorem U2 {Q:Value->Shared->Prop}(hu:A.units + 1 < cLine)(I:Inv X pins σ H s)(g:DGet H a y o)(ry:RelV y u)(h:∀s',Inv X pins σ H s'->Q (.bool (!o.isSome)) s') :
 wpAny (model X.prog X.w) A (compareOp .NotIn u (.ref a)) Q E s:=by
 rcases g with ⟨kvs,k,e,ey,l⟩ | ⟨kvs,k,b,e,ey,eb,l⟩
 ·subst ey;obtain ⟨z,hd,vs,rel,dd⟩:=P8 I.hok e;refine wpAny_notIn_of (IT ry) hd dd.mapOf ?_;rw [<-(rel.val k).isSome_eq,<-l];exact h _ (I.tok _)
 ·subst ey
  cases (show u=Value.ref b from ry)
  obtain ⟨z,hd,xs,rel,dd⟩:=Uy I.hok e;refine wpAny_notIn_heap (tupleKind_room_in1 hu) (NS I.hok eb) hd dd ?_;have q:=(rel.val k).isSome_eq;rw [Option.isSome_map] at q;rw [<-q,<-l];exact h _ (I.tok _)
theorem O9 {h':Heap}{t':Nat}{ob:HO}(I:Inv X pins σ H s)(mu:Mut (H a))(hs:Heap.SameBut a s.heap h')(he:∃q,h'.get? a=some q)(new:ObjOk X.prog X.w (upd H a ob) h' a ob) :
 Inv X pins σ (upd H a ob) { s with heap:=h',toks:=t' }:=
 I.write (x:=a) (e:=a) mu (.inl rfl) (λb q hb z=>(hs.2 b hb).trans z) he new
theorem NE {H':Hp}{h':Heap}{vs:List (Key×Value)}(z:kvs.length<=sizeLine)(hd:(a == sysModules)=false)(rel:KV kvs vs)(dd:h'.DictOf (CV P w) a vs) :
 ObjOk P w H' h' a (.dK kvs):=⟨z,hd,vs,rel,dd⟩
end
section
variable {X:Cx}{pins:List (Addr×Obj)}{σ:St}{H:Hp}{s:Shared}{a:Addr}{kvs:List (Key×V)}{k:Key}{u:Value}{A:Around}{E:Value->Shared->Prop}
end
section
variable {X:Cx}{o i e value:Expr}{pos pos' tpos:Pos}{td ty tv:TE}
end
theorem Tg (h:Heap)(hb:sysModules < h.objs.size):ObjOk P w H (h.push { cls:=.type "dict",data:=.dict #[] }) h.objs.size (.dK []):=
 ⟨un0 _,beq_eq_false_iff_ne.mpr (Ne.symm (ul6 hb)),[],.nil,Heap.DictOf.new h⟩
section
variable {X:Cx}{pos:Pos}
end
def Le:List (TE×TE)->St->Hp->(List (V×V)->Hp->Prop)->Prop
 | [],_,H,Q=>Q [] H
 | (tk,tv) :: r,σ,H,Q=>tk σ H λx H1=>tv σ H1 λy H2=>Le r σ H2 λps H3=>Q ((x,y) :: ps) H3
abbrev VV:List (V×V)->List (Value×Value)->Prop:=Paired λp q=>RelV p.1 q.1/\RelV p.2 q.2
def PPs (X:Cx)(pos:Pos)(keys:List (Option Expr))(values:List Expr)(trs:List (TE×TE)):Prop:=
 ∀(pins:List (Addr×Obj)) (s:Shared) (σ:St) (H:Hp) (Q:List (V×V)->Hp->Prop),Inv X pins σ H s->Le trs σ H Q->
  wpAny (model X.prog X.w) X.A (evalPairs (pairTrees keys values X.env pos)) (λvs s'=>∃ps H',Inv X pins σ H' s'/\VV ps vs/\Q ps H') X.xe s
theorem VZ {pos:Pos}:PPs X pos [] [] []:=λpins s σ H Q I h=>pairTrees_nil_walk ⟨[],H,I,.nil,h⟩
theorem T3 {pos:Pos}{k v:Expr}{ks:List (Option Expr)}{vs:List Expr}{tk tv:TE}{trs:List (TE×TE)}(hk:PE X k tk)(hv:PE X v tv)(hr:PPs X pos ks vs trs) :
 PPs X pos (some k :: ks) (v :: vs) ((tk,tv) :: trs):=λpins s σ H Q I h=>
 pairTrees_cons_walk (thn (hk pins s σ H _ I h) λu s1 ⟨x,H1,I1,rx,q1⟩=>thn (hv pins s1 σ H1 _ I1 q1) λw2 s2 ⟨y,H2,I2,ry,q2⟩=>
  thn (hr pins s2 σ H2 _ I2 q2) λws s3 ⟨ps,H3,I3,rel,q3⟩=>⟨(x,y) :: ps,H3,I3,.cons ⟨rx,ry⟩ rel,q3⟩)
def Gs (kvs more:List (Key×V)):List (Key×V):=more.foldl (λacc kv=>EE acc kv.1 kv.2) kvs
theorem KV.merge:∀{more:List (Key×V)} {rs:List (Key×Value)} {kvs:List (Key×V)} {vs:List (Key×Value)},KV more rs->KV kvs vs->KV (Gs kvs more) (merged vs rs):=by
 intro more rs kvs vs r;unfold KV at r
 induction r generalizing kvs vs with
 | nil=>intro q;exact q
 | @cons p q ps qs h t ih=>
   intro r0;have e:KV (EE kvs p.1 p.2) (stored vs q.1 q.2):=by
    have:=r0.put p.1 h.2;rw [<-h.1];exact this
   exact ih e
theorem HM:∀(more kvs:List (Key×V)),(Gs kvs more).length<=kvs.length + more.length
 | [],kvs=>by show kvs.length<=kvs.length + 0;lia
 | p :: r,kvs=>by
   have h1:=HM r (EE kvs p.1 p.2);have h2:=Jr kvs p.1 p.2;show (Gs (EE kvs p.1 p.2) r).length<=_;rw [uh5];lia
theorem Kx {P:Program}{w:World}:∀{kvs:List (Key×V)} {ws:List (Value×Value)},VV (kvs.map λkv=>(kV kv.1,kv.2)) ws->∃rs,Carries (CV P w) ws rs/\KV kvs rs
 | [],_,r=>by rw [um0] at r;cases r;exact ⟨[],True.intro,.nil⟩
 | p :: kvs,_,r=>by
   rw [uk9] at r
   cases r with
   | @cons a b as bs h t=>
     obtain ⟨rs,c,q⟩:=Kx (P:=P) (w:=w) t;obtain ⟨b1,b2⟩:=b;exact ⟨(p.1,b2) :: rs,⟨IT h.1,rfl,c⟩,.cons ⟨rfl,h.2⟩ q⟩
def Y2 (trs:List (TE×TE)):TE:=λσ H Q=>∀p,H p=none->Le trs σ (upd H p (.dK [])) λps H2=>H2 p=some (.dK [])/\∃kvs:List (Key×V),ps=kvs.map (λkv=>(kV kv.1,kv.2))/\kvs.length<=15/\Q (.ref p) (upd H2 p (.dK (Gs [] kvs)))
theorem VQ {pos:Pos}{keys:List (Option Expr)}{values:List Expr}{trs:List (TE×TE)}(h:PPs X pos keys values trs)(hall:keys.all (·.isSome)=true)(hl:keys.length=values.length)(h0:keys≠[])
 (h15:keys.length<=15):PE X (.Dict keys values pos) (Y2 trs):=by
 intro pins s σ H Q I q;have hn:=I.hok.fresh (um9 s.heap.objs.size);have I1:=I.laid (a:=s.heap.objs.size) (o:=.dK []) (h':=s.heap.push { cls:=.type "dict",data:=.dict #[] }) (t':=s.toks) (λ_ _ q=>uc4 _ q) (um9 _) (Tg s.heap I.big);refine wpAny_Dict_walk (knd:=CV X.prog X.w) hall hl h0 h15 (thn (h pins _ σ _ _ I1 (q _ hn)) λws s2 z9=>?_);obtain ⟨ps,H2,I2,rel,e,kvs,ep,lk,q2⟩:=z9;subst ep;obtain ⟨rs,c,rk⟩:=Kx (P:=X.prog) (w:=X.w) rel;obtain ⟨z,hd,vs0,r0,dd⟩:=MW I2.hok e
 cases r0
 refine ⟨rs,c,dd,λh' dd' hs=>⟨.ref s.heap.objs.size,_,?_,rfl,q2⟩⟩;have hz:(Gs [] kvs).length<=sizeLine:=by
  have h1:=HM kvs [];rw [uj3] at h1;rw [sizeLine_eq];lia
 have he:∃q,h'.get? s.heap.objs.size=some q:=let ⟨q,_,_,hq,_⟩:=dd';⟨q,hq⟩;exact O9 I2 (by rw [e];exact True.intro) hs he (NE hz hd (rk.merge .nil) dd')
theorem Gh {env:Env}:∀(l:List (Str×NameKind)) (cs:List (Str×Addr)),(∀x c,cs.lookup x=some c->env.cells.lookup x=some c)->(∀y∈l,y.2 = .free->∃c,env.cells.lookup y.1=some c)->
 ∃cl,(forIn l cs λ(x:Str×NameKind) r=>(match x with | (name,kind)=>if (kind == NameKind.free)=true then do let c <-cellOf env name;pure (ForInStep.yield ((name,c) :: r)) else pure (ForInStep.yield r):Sem (ForInStep (List (Str×Addr)))))=pure cl/\
  (∀x c,cl.lookup x=some c->env.cells.lookup x=some c)/\(∀x c,cs.lookup x=some c->∃c',cl.lookup x=some c')/\∀y∈l,y.2 = .free->∃c,cl.lookup y.1=some c
 | [],cs,h,_=>⟨cs,rfl,h,λ_ c e=>⟨c,e⟩,λ_ z=>nomatch z⟩
 | (n,k) :: l,cs,h,hf=>by
   by_cases hk:k = .free
   ·subst hk;obtain ⟨c,hc⟩:=hf (n,.free) uf1 rfl;have hc':env.cells.lookup n=some c:=hc;have e:cellOf env n=pure c:=by unfold cellOf;rw [hc']
    obtain ⟨cl,e1,e2,e3,e4⟩:=Gh l ((n,c) :: cs) (λx c' q=>by
     rw [uh6] at q
     by_cases hx:(x == n)=true
     ·rw [hx] at q;cases q;rw [eq_of_beq hx];exact hc'
     ·rw [ug6.mpr hx] at q;exact h x c' q) (λy hy=>hf y (ud7 _ hy))
    have self:((n,c) :: cs).lookup n=some c:=by rw [uh6,ui2]
    refine ⟨cl,?_,e2,λx c' q=>?_,λy hy hyf=>?_⟩
    ·rw [List.forIn_cons];simp only [ui2,if_true,e];exact e1
    ·by_cases hx:(x == n)=true
     ·rw [eq_of_beq hx];exact e3 n c self
     ·exact e3 x c' (by rw [uh6,ug6.mpr hx];exact q)
    ·rcases uk6.mp hy with z | z
     ·subst z;exact e3 n c self
     ·exact e4 y z hyf
   ·have hb:(k == NameKind.free)=false:=by simpa using hk
    obtain ⟨cl,e1,e2,e3,e4⟩:=Gh l cs h (λy hy=>hf y (ud7 _ hy));refine ⟨cl,?_,e2,e3,λy hy hyf=>?_⟩
    ·rw [List.forIn_cons];simp only [hb,uf6,if_false];exact e1
    ·rcases uk6.mp hy with z | z
     ·subst z;exact absurd hyf hk
     ·exact e4 y z hyf
theorem P6 {scope:Scope}{env:Env}(h:∀y∈scope.names,y.2 = .free->∃c,env.cells.lookup y.1=some c) :
 ∃cl,closureFor scope env=pure cl/\(∀x c,cl.lookup x=some c->env.cells.lookup x=some c)/\∀y∈scope.names,y.2 = .free->∃c,cl.lookup y.1=some c:=by
 obtain ⟨cl,e1,e2,_,e4⟩:=Gh (env:=env) scope.names [] (λ_ _ q=>nomatch q) h;refine ⟨cl,?_,e2,e4⟩;simp only [closureFor]
 first | (rw [e1];rfl) | (simp only [e1];rfl) | (trace_state;exact e1)
theorem NA {prog:Program}{A:Around}{R:Result->Shared->Prop}{s:Shared}{elt target iter:Expr}{ifs:List Expr}{scope:Scope}{pos:Pos}{it acc:Value}{env:Env}(I:Nat->Shared->Prop)
 (turn:∀n s,I n s->wpAny (model prog w) A (pyNext it) (λr s₁=>match r with
   | none=>R (.ok .next) s₁
   | some v=>wpAny (model prog w) A (letOwnedTupleGo target it v) (λ_ s₁'=>wpAny (model prog w) A (assign target env v) (λ_ s₂=>
      wpAny (model prog w) A (forIn ifs true λc r=>if r=true then do let ok <-isTrue c env (eval c env);pure (ForInStep.yield ok) else pure (ForInStep.yield r)) (λok s₃=>
       if ok=true then wpAny (model prog w) A (eval elt env) (λx s₄=>
        wpAny (model prog w) A (call (.builtin "list.append") [acc,x]) (λ_ s₅=>∃m,m < n/\I m s₅) (λ_ _=>False) s₄) (λ_ _=>False) s₃
       else ∃m,m < n/\I m s₃) (λ_ _=>False) s₂) (λ_ _=>False) s₁') (λ_ _=>False) s₁) (λ_ _=>False) s)
 (n:Nat) (h:I n s) :
 codeAny (model prog w) A (.compLoop (.ListComp elt [⟨target,iter,ifs,0⟩] scope pos) 0 it acc env) R s:=by
 refine codeAny_loop rfl I (λn s hI=>?_) n h;show wpAny _ A ((compTurn (.ListComp elt [⟨target,iter,ifs,0⟩] scope pos) 0 it acc env).onRaise (λx=>do noteFrame x env;theTreesLotGoes x)) _ _ s;refine wpAny_noted ?_;rw [compTurn_list];refine un4 (wpAny_standAt (un4 (un6 (turn n s hI) (λr s₁ h₁=>?_) λ_ _ h'=>h'.elim)))
 cases r with
 | none=>exact un5 h₁
 | some v=>
   refine un4 (un6 h₁ (λ_ s₁' h₁'=>?_) λ_ _ h'=>h'.elim);refine un4 (un6 h₁' (λ_ s₂ h₂=>un4 (un6 h₂ (λok s₃ h₃=>?_) λ_ _ h'=>h'.elim)) λ_ _ h'=>h'.elim)
   cases ok with
   | false=>exact un5 ⟨rfl,h₃⟩
   | true=>
     exact un4 (un4 (un6 h₃ (λx s₄ h₄=>un4 (un6 h₄ (λ_ s₅ h₅=>un5 (un5 ⟨rfl,h₅⟩)) λ_ _ h'=>h'.elim)) λ_ _ h'=>h'.elim))
end L2
set_option maxHeartbeats 2000000
namespace L2
open PySem PySem.Spec PyProof.Rows
noncomputable def ED (X:Cx)(N':List Str)(scope:Scope)(cl:List (Str×Addr))(C:Addr)(s2:Shared)(H2:Hp)(fp:List Addr):Cx where
 prog:=X.prog
 w:=X.w
 K:=X.K
 mg:=X.mg
 base:=X.base
 A:=X.A
 N:=N'
 s₀:=s2
 H₀:=H2
 env:=compEnvC scope cl C X.env
 outer:=X.stack
 stack:=X.stack
 ex:=fp
 fn:=λ_=>false
 calm:=X.calm
 pn:=[]
 xe:=λ_ _=>False
theorem Js (h:Str->NameKind->NameKind)(x:Str):∀l:List (Str×NameKind),(l.map λp=>(p.1,h p.1 p.2)).lookup x=(l.lookup x).map (h x)
 | []=>rfl
 | (n,k) :: l=>by
   show List.lookup x ((n,h n k) :: _)=_;rw [uh6,uh6]
   by_cases hx:(x == n)=true
   ·rw [hx,eq_of_beq hx];rfl
   ·rw [ug6.mpr hx];exact Js h x l
theorem G7 (scope:Scope)(env:Env)(x:Str):(relabel scope env).names.lookup x=(scope.names.lookup x).map λk=>if (k == .free && env.scope.kind == .function && env.kindOf x == some .cell)=true then .cell else k:=by
 rw [<-Js (λn k=>if (k == NameKind.free && env.scope.kind == .function && env.kindOf n == some .cell)=true then .cell else k) x scope.names];unfold relabel;dsimp only
 congr 1
 apply ue6;intro p _;obtain ⟨n,k⟩:=p;dsimp only
 split <;> rfl
theorem DS {x:Str}{k:NameKind}:∀{l:List (Str×NameKind)},l.lookup x=some k->(x,k)∈l
 | (n,k') :: l,h=>by
   rw [uh6] at h
   by_cases hx:(x == n)=true
   ·rw [hx] at h;cases h;rw [eq_of_beq hx];exact uf1
   ·rw [ug6.mpr hx] at h;exact ud7 _ (DS h)
theorem Oh {scope:Scope}{env:Env}{x:Str}(hcell:∀y∈scope.names,y.2≠.cell)(h:(relabel scope env).names.lookup x=some .cell\/(relabel scope env).names.lookup x=some .free):scope.names.lookup x=some .free:=by
 rw [G7] at h
 cases e:scope.names.lookup x with
 | none=>rw [e] at h;rcases h with h | h <;> cases h
 | some k=>
   by_cases hk:k = .free
   ·rw [hk]
   ·have hb:(k == NameKind.free)=false:=by simpa using hk
    rw [e] at h;simp only [uj4,hb,uk1,uf6,if_false] at h;rcases h with h | h
    ·cases h;exact absurd rfl (hcell _ (DS e))
    ·cases h;exact absurd rfl hk
def PIf (X:Cx)(ifs:List Expr)(t:TT):Prop:=
 ∀(pins:List (Addr×Obj)) (s:Shared) (σ:St) (H:Hp) (Q:Bool->Hp->Prop),Inv X pins σ H s->t σ H Q->
  wpAny (model X.prog X.w) X.A (forIn ifs true λc r=>if r=true then do let ok <-isTrue c X.env (eval c X.env);pure (ForInStep.yield ok) else pure (ForInStep.yield r)) (TP X pins σ Q) X.xe s
def Y7:TT:=λ_ H Q=>Q true H
theorem VT {X:Cx}:PIf X [] Y7:=λ_ _ _ H _ I h=>wpAny_tests_nil ⟨H,I,h⟩
def SD (J:It)(g:TG)(tt:TT)(te:TE)(σ₀:St)(H1:Hp)(Fin:List V->Hp->Prop):Prop:=
 ∃W:Nat->Nat->List V->St->Hp->Prop,(∃m,W 0 m [] σ₀ H1)/\∀i m acc σ' H',W i m acc σ' H'->acc.length<=sizeLine/\
  ((J.stop i H'/\Fin acc H')\/
    (J.go i H'/\∀x H2,J.yld i H' x H2->g x σ' H2 λσ3 H3=>tt σ3 H3 λb H4=>if b=true then te σ3 H4 λv H5=>∃m',m' < m/\W (i + 1) m' (acc++[v]) σ3 H5 else ∃m',m' < m/\W (i + 1) m' acc σ3 H4))
def UP (wi:TI)(g:TG)(tt:TT)(te:TE)(σf:St->St):TE:=λσ H Q=>wi σ H λJ H1=>SD J g tt te (σf σ) H1 λacc H'=>∀p,H' p=none->acc.length<=sizeLine->Q (.ref p) (upd H' p (.lst acc))
structure CmpOk (X:Cx)(scope:Scope)(N':List Str)(σf:St->St):Prop where
 kind:scope.kind = .function
 cell:∀y∈scope.names,y.2≠.cell
 loc:∀y∈scope.names,y.2 = .local->scope.names.lookup y.1=some .local
 free:∀y∈scope.names,y.2 = .free->X.env.kindOf y.1=some .cell\/X.env.kindOf y.1=some .free
 len:∀σ:St,σ.length=X.N.length->(σf σ).length=N'.length
 vals:∀(σ:St) (j:Nat) (x:Str) (v:V),N'[j]?=some x->(σf σ)[j]?=some (some v)->∃i:Nat,X.N[i]?=some x/\σ[i]?=some (some v)/\scope.names.lookup x=some .free
variable {pins:List (Addr×Obj)}{σ:St}{H2:Hp}{s2:Shared}{cl:List (Str×Addr)}{fp:List Addr}
section
variable {X:Cx}{tg elt iter:Expr}{ifs:List Expr}{scope:Scope}{pos:Pos}{N':List Str}{wi:TI}{g:TG}{tt:TT}{te:TE}{σf:St->St}
theorem WS {C:Addr}(O:CmpOk X scope N' σf)(I2:Inv X pins σ H2 s2)(f2:∀b∈fp,FpOk X pins H2 b)(hC:s2.heap.objs.size<=C)
 (hlt:∀b∈fp,b < s2.heap.objs.size) (e2:∀x c,cl.lookup x=some c->X.env.cells.lookup x=some c) (e4:∀y∈scope.names,y.2 = .free->∃c,cl.lookup y.1=some c):(ED X N' scope cl C s2 H2 fp).Ok where
 mod:=I2.ok.mod
 kind:=O.kind
 glob:=I2.ok.glob
 blt:=I2.ok.blt
 above:=hC
 inj:=λx y c h1 h2=>I2.ok.inj x y c (e2 x c h1) (e2 y c h2)
 has:=λx h=>by
  have q:=Oh (env:=X.env) (x:=x) O.cell h;exact e4 _ (DS q) rfl
 cab:=λx c h _=>nomatch h
 hd:=I2.ok.hd
 frames:=I2.ok.frames
 stk:=.inl rfl
 exf:=λb hb=>⟨ul6 (uf0 (hlt b hb) hC),λx c e=>(f2 b hb).2.2.2.2.1 x c (e2 x c e)⟩
 bs:=I2.bs
 bsz:=ul7 I2.ok.bsz I2.sz
 noex:=λb o e hb=>by
  rcases (f2 b hb).2.2.2.1 with z | z
  ·exact I2.ok.noex b o e z
  ·exact absurd (uf0 (ul5 (I2.ok.bs b o e).1) z) (uk5 _)
 exfs:=λb hb z=>by
  rcases uk6.mp (I2.stkSub b z) with q | q
  ·exact (f2 b hb).2.1 q
  ·exact (f2 b hb).2.2.1 q
 funs:=I2.stack
 frf:=I2.stkFree
theorem Yd (I2:Inv X pins σ H2 s2){a:Addr}(h:s2.heap.objs.size<=a):a∉frs X.stack:=λhb=>by
 rcases uk6.mp (I2.stkSub a hb) with q | q
 ·exact absurd (uf0 I2.lt h) (by rw [q];exact uk5 _)
 ·exact I2.nofs h q
theorem Td {it:Addr}{tn:Nat->Heap->Prop}{J:It}{Fin:List V->Hp->Prop}{RR:Value->Addr->Result->Shared->Prop}{E:Value->Shared->Prop}(O:CmpOk X scope N' σf)(hc:X.calm=true)
 (I2:Inv X pins σ H2 s2) (T:Turn X.prog X.w X.K tg J fp it tn) (st2:tn 0 s2.heap) (f2:∀b∈fp,FpOk X pins H2 b)
 (e2:∀x c,cl.lookup x=some c->X.env.cells.lookup x=some c) (e4:∀y∈scope.names,y.2 = .free->∃c,cl.lookup y.1=some c)
 (hg:∀C,PG (ED X N' scope cl C s2 H2 fp) tg g) (ht:∀C,PIf (ED X N' scope cl C s2 H2 fp) ifs tt) (he:∀C,PE (ED X N' scope cl C s2 H2 fp) elt te)
 (B:SD J g tt te (σf σ) H2 Fin)
 (fin:∀C s' σ' H' acc m,s2.heap.objs.size<=C->C≠s2.heap.objs.size->Inv (ED X N' scope cl C s2 H2 fp) [] σ' H' s'->H' s2.heap.objs.size=none->acc.length<=sizeLine->(∃its n,Vals acc its/\s'.heap.get? s2.heap.objs.size=some { cls:=.type "list",data:=.seq its.toArray n })->Fin acc H'->s'.heap.Ns C m->
   RR (.ref s2.heap.objs.size) C (.ok .next) s') :
 wpAny (model X.prog X.w) X.A (newList []) (λacc s₃=>wpAny (model X.prog X.w) X.A (newFunctionEnv scope X.env.globals cl [] X.env.qual none .none (some X.env)) (λcenv s₄=>
  codeAny (model X.prog X.w) X.A (.compStart (.ListComp elt [⟨tg,iter,ifs,0⟩] scope pos) 0 (.ref it) acc { cenv with scope:=relabel scope X.env }) (RR acc cenv.locals) s₄) E s₃) E s2:=by
 refine wpAny_newObj_type (wpAny_newFunctionEnv O.cell (by intro y hy;simp at hy) (λh₁ hns₁ hsb₁=>?_) O.kind);dsimp only at hns₁ hsb₁ ⊢;generalize hH2:s2.heap.push { cls:=.type "list",dict:=none,data:=.seq ([]:List Value).toArray }=HP at hns₁ hsb₁ ⊢;have hC:HP.objs.size=s2.heap.objs.size + 1:=by rw [<-hH2,Heap.size_push]
 generalize hDD:s2.heap.objs.size=DD at *;generalize hCC:HP.objs.size=CC at *;have hDC:DD≠CC:=by rw [hC];exact ul6 (Nat.lt_succ_self _)
 have hCle:s2.heap.objs.size<=CC:=by rw [hC,hDD];exact un1 _
 have hlt:∀b∈fp,b < s2.heap.objs.size:=λb hb=>by obtain ⟨o,e,_⟩:=T.obj _ _ st2 b hb;exact ul5 e
 have hlt':∀b∈fp,b < DD:=λb hb=>by rw [<-hDD];exact hlt b hb
 have below:∀b,b < DD->b≠CC/\b≠DD:=λb hb=>⟨by rw [hC];exact ul6 (Nat.lt_succ_of_lt hb),ul6 hb⟩;have old:∀b o,s2.heap.get? b=some o->h₁.get? b=some o:=λb o e=>hsb₁.extBut b o (below b (by rw [<-hDD];exact ul5 e)).1 (uc4 _ (hH2 ▸ uc4 _ e));have hacc:h₁.get? DD=some { cls:=.type "list",data:=.seq ([]:List Value).toArray }:=by
  refine hsb₁.extBut _ _ hDC (uc4 _ ?_);rw [<-hH2,<-hDD];exact ue4 _ rfl
 have ok:=WS (cl:=cl) (C:=CC) O I2 f2 hCle hlt e2 e4;have hfs:DD∉frs X.stack:=Yd I2 (by rw [hDD];exact um9 _);obtain ⟨W,⟨m0,w0⟩,turn⟩:=B
 let X':Cx:=ED X N' scope cl CC s2 H2 fp
 have I0:Inv X' [] (σf σ) H2 { s2 with heap:=h₁,toks:=s2.toks + ([]:List (Str×Value)).length }:=by
  refine ⟨ok,rfl,I2.bare,Un.kept old,⟨_,hns₁,λj x v q1 q2 q3=>?_⟩,λx c e=>?_,I2.hok.fresh hCle,λx c e=>I2.freeC x c (e2 x c e),(λp hp=>nomatch hp),I2.hok.kept old,O.len σ I2.len⟩
  ·obtain ⟨i,n1,n2,n3⟩:=O.vals σ j x v q1 q2;obtain ⟨m,_,hl⟩:=I2.loc;have hfr:=O.free _ (DS n3) rfl;obtain ⟨u,r,l⟩:=hl i x v n1 n2 (.inr hfr);refine ⟨u,r,?_⟩;rcases l with ⟨k,_⟩ | ⟨_,c,ec,hcell⟩
   ·rcases hfr with z | z <;> (have z':=k.symm.trans z;cases z')
   ·obtain ⟨c',ec'⟩:=e4 _ (DS n3) rfl;have z:=e2 _ _ ec';have ez:X.env.cells.lookup x=some c':=z;rw [ec] at ez
    cases ez
    refine .inr ⟨?_,c,ec',?_⟩
    ·show (relabel scope X.env).names.lookup x=some .cell\/(relabel scope X.env).names.lookup x=some .free;rw [G7,n3];simp only [uj4]
     split
     ·exact .inl rfl
     ·exact .inr rfl
    ·obtain ⟨o,ho,hd⟩:=hcell;exact ⟨o,old _ _ ho,hd⟩
  ·obtain ⟨v,o,ho,hd⟩:=I2.cell x c (e2 x c e);exact ⟨v,o,old _ _ ho,hd⟩
 have loop:∀s₃:Shared,s₃ = { s2 with heap:=h₁,toks:=s2.toks + ([]:List (Str×Value)).length }->
  codeAny (model X.prog X.w) X.A (.compLoop (.ListComp elt [⟨tg,iter,ifs,0⟩] scope pos) 0 (.ref it) (.ref DD) (compEnvC scope cl CC X.env)) (RR (.ref DD) CC) s₃:=by
  rintro s₃ rfl;refine NA (λn s'=>∃i acc its nn σ' H',Inv X' [] σ' H' s'/\tn i s'.heap/\(∀b∈fp,H' b=none)/\Vals acc its/\s'.heap.get? DD=some { cls:=.type "list",data:=.seq its.toArray nn }/\H' DD=none/\W i n acc σ' H') ?_ m0
   ⟨0,[],[],0,σf σ,H2,I0,T.keep _ _ _ st2 (λb _ o e=>old b o e),λb hb=>(f2 b hb).1,.nil,hacc,I2.hok.fresh (by rw [hDD];exact um9 _),w0⟩
  rintro n s' ⟨i,acc,its,nn,σ3,H3,I3,st3,fr3,hv,hD,hDn,w3⟩;have I3p:Inv X' [(DD,({ cls:=.type "list",data:=.seq its.toArray nn }:Obj))] σ3 H3 s':=I3.pins_of λp hp=>by
   have e:p=(DD,({ cls:=.type "list",data:=.seq its.toArray nn }:Obj)):=by simpa using hp
   subst e;exact ⟨hD,hDn,hDC,hfs,λv z=>nomatch z⟩
  have stat:∀{pins':List (Addr×Obj)} {H':Hp},(∀p∈pins',p.1=DD)->(∀b∈fp,H' b=none)->∀b∈fp,FpOk X' pins' H' b:=λ{pins' H'} hp hn b hb=>
   ⟨hn b hb,(ok.exf b hb).1,ok.exfs b hb,.inl hb,(ok.exf b hb).2,λp hp' z=>by
    have e:p.1=DD:=hp p (by simpa [X',ED] using hp');exact absurd (hlt' b hb) (by rw [<-z,e];exact uk5 _)⟩
  have one:∀p∈[(DD,({ cls:=.type "list",data:=.seq its.toArray nn }:Obj))],p.1=DD:=λp hp=>by
   have e:p=(DD,({ cls:=.type "list",data:=.seq its.toArray nn }:Obj)):=by simpa using hp
   rw [e]
  obtain ⟨hz,tr⟩:=turn i n acc σ3 H3 w3;rcases tr with ⟨stop,qf⟩ | ⟨go,step⟩
  ·refine thn (T.done X' rfl rfl rfl hc i _ s' σ3 H3 (λ_ _=>False) I3p (stat one fr3) st3 stop) λr s4 z9=>?_;obtain ⟨hr,I4⟩:=z9;subst hr;obtain ⟨m4,hm4,_⟩:=I4.loc;have pD:=(I4.pin (DD,({ cls:=.type "list",data:=.seq its.toArray nn }:Obj)) (by simp [X',ED])).1;have I4':Inv X' [] σ3 H3 s4:=I4.pins_of λp hp=>nomatch hp;exact fin CC s4 σ3 H3 acc m4 (by rw [hDD] at hCle;exact hCle) (Ne.symm hDC) I4' hDn hz ⟨its,nn,hv,pD⟩ qf hm4
  ·refine thn (T.item X' rfl rfl rfl hc i _ s' σ3 H3 (λ_ _=>False) I3p (stat one fr3) st3 go) λr s4 z9=>?_;obtain ⟨u,hr,h4⟩:=z9;subst hr;refine thn h4 λ_ s5 z9=>?_;obtain ⟨x,H5,I5,r5,y5,st5,fr5⟩:=z9;have I5':=I5.pinned (stat one fr5) (T.obj _ _ st5);refine thn (hg CC _ s5 σ3 H5 x u _ I5' r5 (step x H5 y5)) λ_ s6 z9=>?_;obtain ⟨σ6,H6,I6,q6⟩:=z9;refine thn (ht CC _ s6 σ6 H6 _ I6 q6) λb s7 z9=>?_;obtain ⟨H7,I7,q7⟩:=z9;have back:∀{H8:Hp} {s8:Shared},Inv X' ([(DD,({ cls:=.type "list",data:=.seq its.toArray nn }:Obj))]++Iv fp s5.heap) σ6 H8 s8->
    s8.heap.get? DD=some { cls:=.type "list",data:=.seq its.toArray nn }/\H8 DD=none/\tn (i + 1) s8.heap/\(∀b∈fp,H8 b=none)/\Inv X' [] σ6 H8 s8:=λ{H8 s8} I8=>by
    have p1:=I8.pin (DD,({ cls:=.type "list",data:=.seq its.toArray nn }:Obj)) (by simp [X',ED]);refine ⟨p1.1,p1.2.1,T.keep _ _ _ st5 λb hb o e=>(I8.pin (b,o) (ud1 _ (ud1 _ (F3 hb e)))).1,λb hb=>?_,I8.pins_of λp hp=>nomatch hp⟩;obtain ⟨o,e,_⟩:=T.obj _ _ st5 b hb;exact (I8.pin (b,o) (ud1 _ (ud1 _ (F3 hb e)))).2.1
   cases b with
   | false=>
     rw [if_neg uf2] at q7 ⊢;obtain ⟨m',hm,w7⟩:=q7;obtain ⟨a1,a2,a3,a4,a5⟩:=back I7;exact ⟨m',hm,i + 1,acc,its,nn,σ6,H7,a5,a3,a4,hv,a1,a2,w7⟩
   | true=>
     rw [if_pos rfl] at q7 ⊢;refine thn (he CC _ s7 σ6 H7 _ I7 q7) λy s8 z9=>?_;obtain ⟨v8,H8,I8,r8,m',hm,w8⟩:=z9;obtain ⟨a1,a2,a3,a4,a5⟩:=back I8;have hsz:its.toArray.size<=sizeLine:=by
      have e:=hv.length;simpa [e] using hz
     refine wpAny_list_append_plain (hsz:=hsz) ⟨nn,a1⟩ λh9 hl9 hs9=>?_;obtain ⟨n9,e9⟩:=hl9;have e9':h9.get? DD=some { cls:=.type "list",data:=.seq (its++[y]).toArray n9 }:=by simpa using e9
     refine ⟨m',hm,i + 1,acc++[v8],its++[y],n9,σ6,H8,a5.turned (t':=s8.toks) (h':=h9) (it:=DD) (λb o hb e=>hs9.extBut b o hb e) a2 hDC (.inr (show s2.heap.objs.size<=DD by rw [hDD];exact um9 _)) (λx' c e z=>?_) (λp hp=>nomatch hp),T.keep _ _ _ a3 λb hb o e=>hs9.extBut b o (ul6 (hlt' b hb)) e,a4,hv.append (.cons r8 .nil),e9',a2,w8⟩;obtain ⟨v,o,ho,hd⟩:=I2.cell x' c (e2 x' c e);have:=ul5 ho;rw [hDD,z] at this;exact uk5 _ this
 exact codeAny_compStart_list (loop _ rfl) (T.self _ 0 _ _ _ (T.keep _ _ _ st2 λb _ o e=>old b o e) (loop _ rfl))
end
section
variable {X:Cx}{tg elt iter:Expr}{ifs:List Expr}{scope:Scope}{pos:Pos}{N':List Str}{wi:TI}{g:TG}{tt:TT}{te:TE}{σf:St->St}
theorem Q6 {σ':St}{H':Hp}{s':Shared}{C:Addr}{acc:List V}{its:List Value}{n:Nat}{h':Heap}(I2:Inv X pins σ H2 s2)(f2:∀b∈fp,FpOk X pins H2 b)
 (hC:s2.heap.objs.size<=C) (hCD:C≠s2.heap.objs.size) (I':Inv (ED X N' scope cl C s2 H2 fp) [] σ' H' s') (hDn:H' s2.heap.objs.size=none) (hz:acc.length<=sizeLine) (hv:Vals acc its)
 (hD:s'.heap.get? s2.heap.objs.size=some { cls:=.type "list",data:=.seq its.toArray n }) (hs:Heap.SameBut C s'.heap h') :
 Inv X pins σ (upd H' s2.heap.objs.size (.lst acc)) { s' with heap:=h' }:=by
 have U:=I'.base;have lt:∀b o,s2.heap.get? b=some o->b≠C/\b≠s2.heap.objs.size:=λb o e=>⟨ul6 (uf0 (ul5 e) hC),ul6 (ul5 e)⟩;have neD:∀b u,H' b=some u->b≠s2.heap.objs.size:=λb u e=>Bs e hDn;have neC:∀b u,H' b=some u->b≠C:=λb u e=>Bs e I'.free;refine I2.call' (s':={ s' with heap:=h' }) (ch:=fp) I'.os ⟨λb o e n hb hx=>?_,λb o e n hb hx=>?_,λb o e n hx=>?_,λb o e hx=>?_,λb xs e=>?_,λb o u e=>?_,λb ps e=>?_⟩ ?_ I'.bare λb hb=>⟨(f2 b hb).2.2.2.1,(f2 b hb).2.1,(f2 b hb).2.2.2.2.1,(f2 b hb).2.2.2.2.2⟩
 ·exact hs.extBut b o (lt b o e).1 (U.keep b o e n hb hx)
 ·obtain ⟨sl,q⟩:=U.slot b o e n hb hx;exact ⟨sl,hs.extBut b _ (lt b o e).1 q⟩
 ·rw [As (lt b o e).2];exact U.free b o e n hx
 ·obtain ⟨o',q⟩:=U.there b o e hx;exact ⟨o',hs.extBut b _ (lt b o e).1 q⟩
 ·have q:=U.tups b xs e;rw [As (neD b _ q)];exact q
 ·have q:=U.frzs b o u e;rw [As (neD b _ q)];exact q
 ·obtain ⟨m,q⟩:=U.tbls b ps e;exact ⟨m,by rw [As (neD b _ q)];exact q⟩
 ·intro b u e
  by_cases hb:b=s2.heap.objs.size
  ·subst hb;rw [Ax] at e
   cases e
   exact ⟨hz,its,n,hv,hs.extBut _ _ (Ne.symm hCD) hD⟩
  ·rw [As hb] at e;refine (I'.hok b u e).stay (λc v hc q=>hs.extBut c v ?_ q) (λc q=>by rw [As (neD c _ q)];exact q) λc xs q=>by rw [As (neD c _ q)];exact q
   rcases hc with z | z
   ·rw [z];exact neC b u e
   ·exact neC c _ z
theorem VP (O:CmpOk X scope N' σf)(hc:X.calm=true)(hi:PI X tg iter wi)
 (hg:∀cl C s2 H2 fp,PG (ED X N' scope cl C s2 H2 fp) tg g) (ht:∀cl C s2 H2 fp,PIf (ED X N' scope cl C s2 H2 fp) ifs tt) (he:∀cl C s2 H2 fp,PE (ED X N' scope cl C s2 H2 fp) elt te)
 (hs:∀x,foldedSetIterable iter X.env x=pure x:=by intro _;rfl):PE X (.ListComp elt [⟨tg,iter,ifs,0⟩] scope pos) (UP wi g tt te σf):=by
 intro pins s σ H Q I h;obtain ⟨cl,e1,e2,e4⟩:=P6 (scope:=scope) (env:=X.env) λy hy hf=>I.ok.has y.1 (O.free y hy hf);rw [eval_ListComp];refine wpAny_comprehension_free (use:=none) rfl hs e1 O.kind O.loc (thn (hi pins s σ H _ I h) λv s1 h1=>thn h1 λitv s2 h2=>?_);obtain ⟨it,fp,tn,J,H2,rfl,I2,T,st2,f2,B⟩:=h2;refine Td (RR:=λacc C=>compPost (model X.prog X.w) X.A X.xe none (EP X pins σ Q) acc C) O hc I2 T st2 f2 e2 e4 (λC=>hg cl C s2 H2 fp) (λC=>ht cl C s2 H2 fp) (λC=>he cl C s2 H2 fp) B ?_;intro C s' σ' H' acc m hC hCD I' hDn hz hL fin hn;obtain ⟨its,n,hv,hD⟩:=hL;refine ⟨m,hn,λh' hs'=>?_⟩;exact ⟨.ref s2.heap.objs.size,upd H' _ (.lst acc),Q6 I2 f2 hC hCD I' hDn hz hv hD hs',rfl,fin _ hDn hz⟩
end
end L2
set_option autoImplicit false
namespace F2
open PySem L2 PySem.Spec
inductive D where
 | non | bl (b:Bool) | int (i:Int) | str (x:Str) | tup (xs:List D) | lst (xs:List D) | scr (ns:List Int) | dic | obj (k:Nat) | ty (n:String) | exc (n:Str) (xs:List D)
structure Cf where
 ι:List Addr
 O:Addr->Prop
def Cf.A (c:Cf)(a:Addr):Prop:=a∈c.ι\/c.O a
def Scr (K:PySem.W.Frag)(c:Cf)(H:Hp)(a:Addr)(vs:List V):Prop:=
 ((∃o,H a=some (.frz o (.lst vs)))/\¬c.A a)\/
   ∃(o:Obj) (its:Array Value) (n:Nat),K.lookup a=some o/\o.cls = .type "list"/\o.dict=none/\o.data = .seq its n/\its.size<=sizeLine/\Vals vs its.toList
def XIs (qx:Bool)(x C:Addr)(dx:Option Addr)(h:Heap):Prop:=∃(o:Obj) (vs:Array Value),h.get? x=some o/\o.cls = .ref C/\o.dict=dx/\o.data = .fields vs/\(qx=true->vs[2]?=some .none/\4 < vs.size)
noncomputable def JI (n:Str):List Str:=if n = "NoTalk" then ["at"] else if n = "Broken" then ["at", "side"] else []
def XFld (c:Cf)(H:Hp)(dx:Option Addr)(ns:List Str)(vs:List V):Prop:=match dx with
 | none=>vs=[]
 | some d=>H d=some (.xd (ns.zip vs))/\¬c.A d
mutual
inductive Rep (K:PySem.W.Frag)(c:Cf)(H:Hp):V->D->Prop where
 | non:Rep K c H .non .non
 | bl (b:Bool):Rep K c H (.bl b) (.bl b)
 | int (i:Int):Rep K c H (.int i) (.int i)
 | str (x:Str):Rep K c H (.str x) (.str x)
 | ty (n:String):Rep K c H (.ty n) (.ty n)
 | tup {a:Addr} {vs:List V} {ds:List D}:H a=some (.tup vs)->¬c.A a->Reps K c H vs ds->Rep K c H (.ref a) (.tup ds)
 | lst {a:Addr} {vs:List V} {ds:List D}:H a=some (.lst vs)->¬c.A a->Reps K c H vs ds->Rep K c H (.ref a) (.lst ds)
 | scr {a:Addr} {ns:List Int}:Scr K c H a (ns.map V.int)->Rep K c H (.ref a) (.scr ns)
 | dic {a:Addr}:H a=some (.dK [])->¬c.A a->Rep K c H (.ref a) .dic
 | obj {a:Addr} {k:Nat}:c.ι[k]?=some a->Rep K c H (.ref a) (.obj k)
 | exc {qx:Bool} {x C:Addr} {dx:Option Addr} {n:Str} {vs:List V} {ds:List D}:PySem.W.nsIn K mainGlobals n=some (some (.ref C))->H x=some (.ext (XIs qx x C dx))->¬c.A x->XFld c H dx (JI n) vs->Reps K c H vs ds->Rep K c H (.ref x) (.exc n ds)
inductive Reps (K:PySem.W.Frag)(c:Cf)(H:Hp):List V->List D->Prop where
 | nil:Reps K c H [] []
 | cons {v:V} {d:D} {vs:List V} {ds:List D}:Rep K c H v d->Reps K c H vs ds->Reps K c H (v :: vs) (d :: ds)
end
structure Ext (c:Cf)(H:Hp)(c':Cf)(H':Hp):Prop where
 keep:∀b o,H b=some o->¬c.A b->H' b=some o
 av:∀b o,H b=some o->c'.A b->c.A b
 io:∀(k:Nat) (a:Addr),c.ι[k]?=some a->c'.ι[k]?=some a
variable {c:Cf}{H:Hp}
theorem Ext.refl:Ext c H c H:=⟨λ_ _ h _=>h,λ_ _ _ h=>h,λ_ _ h=>h⟩
theorem Ext.trans {c1 c2:Cf}{H1 H2:Hp}(a:Ext c H c1 H1)(b:Ext c1 H1 c2 H2):Ext c H c2 H2:=by
 refine ⟨λx o h n=>?_,λx o h n=>?_,λk x h=>b.io k x (a.io k x h)⟩
 ·exact b.keep x o (a.keep x o h n) λz=>n (a.av x o h z)
 ·by_cases q:c.A x
  ·exact q
  ·exact a.av x o h (b.av x o (a.keep x o h q) n)
variable {K:PySem.W.Frag}{a:Addr}{vs:List V}
theorem Scr.mono {c':Cf}{H':Hp}(e:Ext c H c' H')(h:Scr K c H a vs):Scr K c' H' a vs:=by
 rcases h with ⟨⟨o,h⟩,n⟩ | h
 ·exact .inl ⟨⟨o,e.keep _ _ h n⟩,λz=>n (e.av _ _ h z)⟩
 ·exact .inr h
theorem Scr.sq (h:Scr K c H a vs):SqL K H a vs:=by
 rcases h with ⟨h,_⟩ | h
 ·exact .inl (.inr h)
 ·exact .inr h
theorem XFld.mono {c':Cf}{H':Hp}{dx:Option Addr}{ns:List Str}(e:Ext c H c' H')(h:XFld c H dx ns vs):XFld c' H' dx ns vs:=by
 cases dx with
 | none=>exact h
 | some d=>exact ⟨e.keep _ _ h.1 h.2,λz=>h.2 (e.av _ _ h.1 z)⟩
mutual
theorem Rep.mono {K:PySem.W.Frag}{c c':Cf}{H H':Hp}(e:Ext c H c' H'){v:V}{d:D}(r:Rep K c H v d):Rep K c' H' v d:=by
 cases r with
 | non=>exact .non
 | bl b=>exact .bl b
 | int i=>exact .int i
 | str x=>exact .str x
 | ty n=>exact .ty n
 | tup h n r=>exact .tup (e.keep _ _ h n) (λz=>n (e.av _ _ h z)) (Reps.mono e r)
 | lst h n r=>exact .lst (e.keep _ _ h n) (λz=>n (e.av _ _ h z)) (Reps.mono e r)
 | scr h=>exact .scr (h.mono e)
 | dic h n=>exact .dic (e.keep _ _ h n) (λz=>n (e.av _ _ h z))
 | obj h=>exact .obj (e.io _ _ h)
 | exc g h n f r=>exact .exc g (e.keep _ _ h n) (λz=>n (e.av _ _ h z)) (f.mono e) (Reps.mono e r)
theorem Reps.mono {K:PySem.W.Frag}{c c':Cf}{H H':Hp}(e:Ext c H c' H'){vs:List V}{ds:List D}(r:Reps K c H vs ds):Reps K c' H' vs ds:=by
 cases r with
 | nil=>exact .nil
 | cons h t=>exact .cons (Rep.mono e h) (Reps.mono e t)
end
section
variable {K:PySem.W.Frag}{c:Cf}{H:Hp}
theorem Reps.length:∀{vs:List V} {ds:List D},Reps K c H vs ds->vs.length=ds.length
 | _,_,.nil=>rfl
 | _,_,.cons _ t=>by simp [Reps.length t]
theorem Reps.get:∀{vs:List V} {ds:List D} {i:Nat} {v:V} {d:D},Reps K c H vs ds->vs[i]?=some v->ds[i]?=some d->Rep K c H v d
 | _,_,_,_,_,.nil,e,_=>by simp at e
 | _,_,0,_,_,.cons r _,e,e'=>by simp at e e';subst e e';exact r
 | _,_,i + 1,_,_,.cons _ t,e,e'=>Reps.get (i:=i) t (by simpa using e) (by simpa using e')
theorem Reps.at:∀{vs:List V} {ds:List D} {i:Nat} {d:D},Reps K c H vs ds->ds[i]?=some d->∃v,vs[i]?=some v/\Rep K c H v d
 | _,_,_,_,.nil,e=>by simp at e
 | _,_,0,_,.cons r _,e=>by simp at e;subst e;exact ⟨_,rfl,r⟩
 | _,_,i + 1,_,.cons _ t,e=>by
   obtain ⟨v,h1,h2⟩:=Reps.at (i:=i) t (by simpa using e);exact ⟨v,by simpa using h1,h2⟩
theorem Reps.append {vs ws:List V}{ds es:List D}(r:Reps K c H vs ds)(s:Reps K c H ws es):Reps K c H (vs++ws) (ds++es):=by
 cases r with
 | nil=>exact s
 | cons r t=>exact .cons r (Reps.append t s)
theorem Reps.take:∀{vs:List V} {ds:List D} (n:Nat),Reps K c H vs ds->Reps K c H (vs.take n) (ds.take n)
 | _,_,0,_=>.nil
 | _,_,_ + 1,.nil=>.nil
 | _,_,n + 1,.cons r t=>.cons r (Reps.take n t)
theorem Reps.drop:∀{vs:List V} {ds:List D} (n:Nat),Reps K c H vs ds->Reps K c H (vs.drop n) (ds.drop n)
 | _,_,0,r=>r
 | _,_,_ + 1,.nil=>.nil
 | _,_,n + 1,.cons _ t=>Reps.drop n t
theorem Reps.ints:∀ns:List Int,Reps K c H (ns.map V.int) (ns.map D.int)
 | []=>.nil
 | n :: r=>.cons (.int n) (Reps.ints r)
theorem Reps.rep {vs:List V}{ds:List D}(h:Reps K c H vs ds):∀k:Nat,Reps K c H (List.replicate k vs).flatten (List.replicate k ds).flatten
 | 0=>.nil
 | k + 1=>by
   rw [ue5,ue5,ug4,ug4];exact h.append (Reps.rep h k)
end
inductive Ob where
 | lst (xs:List D)
 | dct (kvs:List (Key×D))
inductive Sl where
 | val (d:D)
 | own (xs:List D)
structure T where
 env:List (Option Sl)
 S:List Ob
def KVR (K:PySem.W.Frag)(c:Cf)(H:Hp):List (Key×V)->List (Key×D)->Prop:=Paired λp q=>p.1=q.1/\Rep K c H p.2 q.2
def ObR (K:PySem.W.Frag)(c:Cf)(H:Hp)(a:Addr):Ob->Prop
 | .lst ds=>∃vs,H a=some (.lst vs)/\Reps K c H vs ds
 | .dct kvs=>∃us,H a=some (.dK us)/\KVR K c H us kvs
theorem ObR.mono {K:PySem.W.Frag}{c c':Cf}{H H':Hp}{a:Addr}{o:Ob}(e:Ext c H c' H')(h:ObR K c H a o)(ha:H' a=H a):ObR K c' H' a o:=by
 cases o with
 | lst ds=>obtain ⟨vs,h1,h2⟩:=h;exact ⟨vs,ha.trans h1,h2.mono e⟩
 | dct kvs=>obtain ⟨us,h1,h2⟩:=h;exact ⟨us,ha.trans h1,Paired.mapP h2 λ_ _ z=>⟨z.1,z.2.mono e⟩⟩
theorem ObR.some {o:Ob}(h:ObR K c H a o):∃u,H a=some u:=by
 cases o with
 | lst ds=>obtain ⟨vs,h1,_⟩:=h;exact ⟨_,h1⟩
 | dct kvs=>obtain ⟨us,h1,_⟩:=h;exact ⟨_,h1⟩
structure SInv (K:PySem.W.Frag)(c:Cf)(S:List Ob)(H:Hp):Prop where
 len:c.ι.length=S.length
 nd:c.ι.Nodup
 obs:∀(k:Nat) (a:Addr) (o:Ob),c.ι[k]?=some a->S[k]?=some o->ObR K c H a o
 trk:∀b,c.O b->∃o,H b=some o
 dis:∀b,c.O b->b∉c.ι
variable {S:List Ob}
theorem SInv.trkA (s:SInv K c S H){b:Addr}(h:c.A b):∃o,H b=some o:=by
 rcases h with h | h
 ·obtain ⟨k,hk,e⟩:=List.mem_iff_getElem.mp h;have e1:c.ι[k]?=some b:=by rw [ub6 hk,e]
  have hk':k < S.length:=by rw [<-s.len];exact hk
  exact (s.obs k b _ e1 (ub6 hk')).some
 ·exact s.trk b h
theorem SInv.free (s:SInv K c S H){b:Addr}(h:H b=none):¬c.A b:=λz=>by
 obtain ⟨o,e⟩:=s.trkA z;rw [h] at e;cases e
structure FInv (K:PySem.W.Frag)(Oo:Addr->Prop)(c:Cf)(t:T)(σ:St)(H:Hp):Prop where
 s:SInv K c t.S H
 len:t.env.length=σ.length
 sub:∀b,Oo b->c.O b
 val:∀(i:Nat) (d:D),t.env[i]?=some (some (.val d))->∃v,σ[i]?=some (some v)/\Rep K c H v d
 own:∀(i:Nat) (ds:List D),t.env[i]?=some (some (.own ds))->∃a vs,σ[i]?=some (some (.ref a))/\c.O a/\¬Oo a/\H a=some (.lst vs)/\Reps K c H vs ds
 inj:∀(i j:Nat) (ds es:List D) (a:Addr),t.env[i]?=some (some (.own ds))->t.env[j]?=some (some (.own es))->σ[i]?=some (some (.ref a))->σ[j]?=some (some (.ref a))->i=j
structure Stp (Oo:Addr->Prop)(c:Cf)(H:Hp)(c':Cf)(H':Hp):Prop where
 ext:Ext c H c' H'
 oo:∀b,Oo b->H' b=H b
theorem Stp.refl {Oo:Addr->Prop}{c:Cf}{H:Hp}:Stp Oo c H c H:=⟨.refl,λ_ _=>rfl⟩
theorem Stp.trans {Oo:Addr->Prop}{c c1 c2:Cf}{H H1 H2:Hp}(a:Stp Oo c H c1 H1)(b:Stp Oo c1 H1 c2 H2):Stp Oo c H c2 H2:=
 ⟨a.ext.trans b.ext,λx h=>(b.oo x h).trans (a.oo x h)⟩
section
variable {K:PySem.W.Frag}{Oo:Addr->Prop}{c:Cf}{t:T}{σ:St}{H:Hp}
theorem Ext.laid (s:SInv K c S H){p:Addr}{o:HO}(h:H p=none):Ext c H c (upd H p o):=
 ⟨λb u e _=>by rw [As (Bs e h)];exact e,λ_ _ _ z=>z,λ_ _ e=>e⟩
theorem SInv.laid {S:List Ob}(s:SInv K c S H){p:Addr}{o:HO}(h:H p=none):SInv K c S (upd H p o):=
 ⟨s.len,s.nd,λk a u e1 e2=>by
  have q:=s.obs k a u e1 e2;obtain ⟨w,hw⟩:=q.some;exact q.mono (Ext.laid s h) (As (Bs hw h)),
  λb z=>by obtain ⟨u,e⟩:=s.trk b z;exact ⟨u,by rw [As (Bs e h)];exact e⟩,s.dis⟩
theorem FInv.laid (f:FInv K Oo c t σ H){p:Addr}{o:HO}(h:H p=none):FInv K Oo c t σ (upd H p o):=by
 have e:=Ext.laid (o:=o) f.s h;refine ⟨f.s.laid h,f.len,f.sub,λi d q=>?_,λi ds q=>?_,f.inj⟩
 ·obtain ⟨v,h1,h2⟩:=f.val i d q;exact ⟨v,h1,h2.mono e⟩
 ·obtain ⟨a,vs,h1,h2,h3,h4,h5⟩:=f.own i ds q;exact ⟨a,vs,h1,h2,h3,by rw [As (Bs h4 h)];exact h4,h5.mono e⟩
theorem FInv.stp_laid (f:FInv K Oo c t σ H){p:Addr}{o:HO}(h:H p=none):Stp Oo c H c (upd H p o):=
 ⟨Ext.laid f.s h,λb z=>by obtain ⟨u,e⟩:=f.s.trk b (f.sub b z);exact As (Bs e h)⟩
theorem FInv.set (f:FInv K Oo c t σ H){i:Nat}{v:V}{d:D}(r:Rep K c H v d):FInv K Oo c { t with env:=t.env.set i (some (.val d)) } (σ.set i (some v)) H:=by
 have neq:∀{j:Nat} {x:Sl},(t.env.set i (some (.val d)))[j]?=some (some x)->(j=i/\x = .val d/\j < t.env.length)\/(j≠i/\t.env[j]?=some (some x)):=λ{j x} q=>by
  by_cases h:j=i
  ·subst h;rw [ug7] at q
   split at q
   ·split at q
    ·next h1=>injection q with q;injection q with q;exact .inl ⟨rfl,q.symm,h1⟩
    ·cases q
   ·next h1=>exact absurd rfl h1
  ·rw [ud9 (Ne.symm h)] at q;exact .inr ⟨h,q⟩
 refine ⟨f.s,by simp [f.len],f.sub,λj e q=>?_,λj ds q=>?_,λj k ds es a q1 q2 q3 q4=>?_⟩
 ·rcases neq q with ⟨rfl,z,hl⟩ | ⟨h,q⟩
  ·cases z
   exact ⟨v,by rw [uc3 (by rw [<-f.len];exact hl)],r⟩
  ·obtain ⟨u,h1,h2⟩:=f.val j e q;exact ⟨u,by rw [ud9 (Ne.symm h)];exact h1,h2⟩
 ·rcases neq q with ⟨rfl,z,_⟩ | ⟨h,q⟩
  ·cases z
  ·obtain ⟨a,vs,h1,h2⟩:=f.own j ds q;exact ⟨a,vs,by rw [ud9 (Ne.symm h)];exact h1,h2⟩
 ·rcases neq q1 with ⟨_,z,_⟩ | ⟨h,q1⟩
  ·cases z
  rcases neq q2 with ⟨_,z,_⟩ | ⟨h',q2⟩
  ·cases z
  rw [ud9 (Ne.symm h)] at q3;rw [ud9 (Ne.symm h')] at q4;exact f.inj j k ds es a q1 q2 q3 q4
theorem FInv.setOwn (f:FInv K Oo c t σ H){i:Nat}{p:Addr}{vs:List V}{ds:List D}(h:H p=none)(r:Reps K c H vs ds) :
 ∃c',FInv K Oo c' { t with env:=t.env.set i (some (.own ds)) } (σ.set i (some (.ref p))) (upd H p (.lst vs))/\Stp Oo c H c' (upd H p (.lst vs)):=by
 let c':Cf:=⟨c.ι,λb=>c.O b\/b=p⟩
 have nA:¬c.A p:=f.s.free h;have ext:Ext c H c' (upd H p (.lst vs)):=by
  refine ⟨λb u e _=>by rw [As (Bs e h)];exact e,λb u e z=>?_,λ_ _ e=>e⟩;rcases z with z | z | z
  ·exact .inl z
  ·exact .inr z
  ·subst z;rw [h] at e;cases e
 have stp:Stp Oo c H c' (upd H p (.lst vs)):=⟨ext,λb z=>by obtain ⟨u,e⟩:=f.s.trk b (f.sub b z);exact As (Bs e h)⟩;have sinv:SInv K c' t.S (upd H p (.lst vs)):=by
  refine ⟨f.s.len,f.s.nd,λk a u e1 e2=>?_,λb z=>?_,λb z hb=>?_⟩
  ·have q:=f.s.obs k a u e1 e2;obtain ⟨w,hw⟩:=q.some;exact q.mono ext (As (Bs hw h))
  ·rcases z with z | z
   ·obtain ⟨u,e⟩:=f.s.trk b z;exact ⟨u,by rw [As (Bs e h)];exact e⟩
   ·subst z;exact ⟨_,Ax⟩
  ·rcases z with z | z
   ·exact f.s.dis b z hb
   ·subst z;exact nA (.inl hb)
 have neq:∀{j:Nat} {x:Sl},(t.env.set i (some (.own ds)))[j]?=some (some x)->(j=i/\x = .own ds/\j < t.env.length)\/(j≠i/\t.env[j]?=some (some x)):=λ{j x} q=>by
  by_cases h:j=i
  ·subst h;rw [ug7] at q
   split at q
   ·split at q
    ·next h1=>injection q with q;injection q with q;exact .inl ⟨rfl,q.symm,h1⟩
    ·cases q
   ·next h1=>exact absurd rfl h1
  ·rw [ud9 (Ne.symm h)] at q;exact .inr ⟨h,q⟩
 have fresh:∀(j:Nat) (es:List D),t.env[j]?=some (some (.own es))->σ[j]?≠some (some (.ref p)):=λj es q z=>by
  obtain ⟨a,vs',h1,_,_,h4,_⟩:=f.own j es q;rw [h1] at z;injection z with z;injection z with z;injection z with z;subst z;rw [h] at h4;cases h4
 refine ⟨c',⟨sinv,by simp [f.len],λb z=>.inl (f.sub b z),λj e q=>?_,λj es q=>?_,λj k ds' es a q1 q2 q3 q4=>?_⟩,stp⟩
 ·rcases neq q with ⟨_,z,_⟩ | ⟨hn,q⟩
  ·cases z
  ·obtain ⟨u,h1,h2⟩:=f.val j e q;exact ⟨u,by rw [ud9 (Ne.symm hn)];exact h1,h2.mono ext⟩
 ·rcases neq q with ⟨rfl,z,hl⟩ | ⟨hn,q⟩
  ·cases z
   refine ⟨p,vs,by rw [uc3 (by rw [<-f.len];exact hl)],.inr rfl,λz=>?_,Ax,r.mono ext⟩;obtain ⟨u,e⟩:=f.s.trk p (f.sub p z);rw [h] at e;cases e
  ·obtain ⟨a,ws,h1,h2,h3,h4,h5⟩:=f.own j es q;exact ⟨a,ws,by rw [ud9 (Ne.symm hn)];exact h1,.inl h2,h3,by rw [As (Bs h4 h)];exact h4,h5.mono ext⟩
 ·rcases neq q1 with ⟨z1,z2,l1⟩ | ⟨n1,r1⟩
  ·rcases neq q2 with ⟨y1,_,_⟩ | ⟨n2,r2⟩
   ·rw [z1,y1]
   ·subst z1;rw [uc3 (by rw [<-f.len];exact l1)] at q3;injection q3 with q3;injection q3 with q3;injection q3 with q3;subst q3
    rw [ud9 (Ne.symm n2)] at q4;exact absurd q4 (fresh k es r2)
  ·rcases neq q2 with ⟨y1,y2,l2⟩ | ⟨n2,r2⟩
   ·subst y1;rw [uc3 (by rw [<-f.len];exact l2)] at q4;injection q4 with q4;injection q4 with q4;injection q4 with q4;subst q4
    rw [ud9 (Ne.symm n1)] at q3;exact absurd q3 (fresh j ds' r1)
   ·rw [ud9 (Ne.symm n1)] at q3;rw [ud9 (Ne.symm n2)] at q4;exact f.inj j k ds' es a r1 r2 q3 q4
theorem FInv.frz (f:FInv K Oo c t σ H){i:Nat}{ds:List D}(q:t.env[i]?=some (some (.own ds))) :
 ∃c' v,FInv K Oo c' { t with env:=t.env.set i (some (.val (.lst ds))) } σ H/\Stp Oo c H c' H/\σ[i]?=some (some v)/\Rep K c' H v (.lst ds):=by
 obtain ⟨a,vs,h1,h2,h3,h4,h5⟩:=f.own i ds q
 let c':Cf:=⟨c.ι,λb=>c.O b/\b≠a⟩
 have ext:Ext c H c' H:=⟨λ_ _ e _=>e,λb u e z=>z.elim .inl λw=>.inr w.1,λ_ _ e=>e⟩;have sinv:SInv K c' t.S H:=⟨f.s.len,f.s.nd,λk b u e1 e2=>(f.s.obs k b u e1 e2).mono ext rfl,λb z=>f.s.trk b z.1,λb z=>f.s.dis b z.1⟩;have nA:¬c'.A a:=λz=>z.elim (λw=>f.s.dis a h2 w) λw=>w.2 rfl;have hσ:σ.set i (some (.ref a))=σ:=by
  apply List.ext_getElem?;intro j
  by_cases hj:j=i
  ·subst hj;rw [uc3 (by have:=(ub1.mp h1).1;exact this),h1]
  ·rw [ud9 (Ne.symm hj)]
 have r:Rep K c' H (.ref a) (.lst ds):=.lst h4 nA (h5.mono ext);have f0:FInv K Oo c' { t with env:=t.env.set i (some (.val (.lst ds))) } σ H:=by
  have neq:∀{j:Nat} {x:Sl},(t.env.set i (some (.val (.lst ds))))[j]?=some (some x)->(j=i/\x = .val (.lst ds))\/(j≠i/\t.env[j]?=some (some x)):=λ{j x} q=>by
   by_cases h:j=i
   ·subst h;rw [ug7] at q
    split at q
    ·split at q
     ·injection q with q;injection q with q;exact .inl ⟨rfl,q.symm⟩
     ·cases q
    ·next h1=>exact absurd rfl h1
   ·rw [ud9 (Ne.symm h)] at q;exact .inr ⟨h,q⟩
  refine ⟨sinv,by simp [f.len],λb z=>⟨f.sub b z,λw=>h3 (w ▸ z)⟩,λj e q'=>?_,λj es q'=>?_,λj k ds' es b q1 q2 q3 q4=>?_⟩
  ·rcases neq q' with ⟨rfl,z⟩ | ⟨hn,q'⟩
   ·cases z;exact ⟨_,h1,r⟩
   ·obtain ⟨u,w1,w2⟩:=f.val j e q';exact ⟨u,w1,w2.mono ext⟩
  ·rcases neq q' with ⟨_,z⟩ | ⟨hn,q'⟩
   ·cases z
   ·obtain ⟨b,ws,w1,w2,w3,w4,w5⟩:=f.own j es q';refine ⟨b,ws,w1,⟨w2,λz=>?_⟩,w3,w4,w5.mono ext⟩;subst z;exact hn (f.inj j i es ds b q' q w1 h1)
  ·rcases neq q1 with ⟨_,z⟩ | ⟨_,q1⟩
   ·cases z
   rcases neq q2 with ⟨_,z⟩ | ⟨_,q2⟩
   ·cases z
   exact f.inj j k ds' es b q1 q2 q3 q4
 exact ⟨c',_,f0,⟨ext,λ_ _=>rfl⟩,h1,r⟩
theorem FInv.wrOwn (f:FInv K Oo c t σ H){i:Nat}{ds ds':List D}{vs':List V}{a:Addr}(q:t.env[i]?=some (some (.own ds)))(h1:σ[i]?=some (some (.ref a)))(r:Reps K c H vs' ds') :
 FInv K Oo c { t with env:=t.env.set i (some (.own ds')) } σ (upd H a (.lst vs'))/\Stp Oo c H c (upd H a (.lst vs')):=by
 obtain ⟨a',vs,g1,h2,h3,h4,h5⟩:=f.own i ds q;rw [h1] at g1;injection g1 with g1;injection g1 with g1;injection g1 with g1;subst g1
 have ext:Ext c H c (upd H a (.lst vs')):=⟨λb u e n=>by rw [As (λ(z:b=a)=>n (.inr (by rw [z];exact h2)))];exact e,λ_ _ _ z=>z,λ_ _ e=>e⟩;have stp:Stp Oo c H c (upd H a (.lst vs')):=⟨ext,λb z=>As λw=>h3 (w ▸ z)⟩;have sinv:SInv K c t.S (upd H a (.lst vs')):=by
  refine ⟨f.s.len,f.s.nd,λk b u e1 e2=>(f.s.obs k b u e1 e2).mono ext (As λz=>f.s.dis a h2 (z ▸ ue0 e1)),λb z=>?_,f.s.dis⟩
  by_cases hb:b=a
  ·subst hb;exact ⟨_,Ax⟩
  ·obtain ⟨u,e⟩:=f.s.trk b z;exact ⟨u,by rw [As hb];exact e⟩
 have neq:∀{j:Nat} {x:Sl},(t.env.set i (some (.own ds')))[j]?=some (some x)->(j=i/\x = .own ds')\/(j≠i/\t.env[j]?=some (some x)):=λ{j x} q=>by
  by_cases h:j=i
  ·subst h;rw [ug7] at q
   split at q
   ·split at q
    ·injection q with q;injection q with q;exact .inl ⟨rfl,q.symm⟩
    ·cases q
   ·next h1=>exact absurd rfl h1
  ·rw [ud9 (Ne.symm h)] at q;exact .inr ⟨h,q⟩
 refine ⟨⟨sinv,by simp [f.len],f.sub,λj e q'=>?_,λj es q'=>?_,λj k es es' b q1 q2 q3 q4=>?_⟩,stp⟩
 ·rcases neq q' with ⟨_,z⟩ | ⟨_,q'⟩
  ·cases z
  ·obtain ⟨u,w1,w2⟩:=f.val j e q';exact ⟨u,w1,w2.mono ext⟩
 ·rcases neq q' with ⟨rfl,z⟩ | ⟨hn,q'⟩
  ·cases z;exact ⟨a,vs',h1,h2,h3,Ax,r.mono ext⟩
  ·obtain ⟨b,ws,w1,w2,w3,w4,w5⟩:=f.own j es q';have hb:b≠a:=λz=>by subst z;exact hn (f.inj j i es ds b q' q w1 h1)
   exact ⟨b,ws,w1,w2,w3,by rw [As hb];exact w4,w5.mono ext⟩
 ·have old:∀{j:Nat} {x:List D},(t.env.set i (some (.own ds')))[j]?=some (some (.own x))->∃y,t.env[j]?=some (some (.own y)):=λ{j x} q'=>by
   rcases neq q' with ⟨rfl,_⟩ | ⟨_,q'⟩
   ·exact ⟨ds,q⟩
   ·exact ⟨x,q'⟩
  obtain ⟨y1,z1⟩:=old q1;obtain ⟨y2,z2⟩:=old q2;exact f.inj j k y1 y2 b z1 z2 q3 q4
theorem FInv.wrObj (f:FInv K Oo c t σ H){k:Nat}{a:Addr}{o:Ob}{u:HO}(e:c.ι[k]?=some a)(r:∀c' H',Ext c H c' H'->H' a=some u->ObR K c' H' a o) :
 FInv K Oo c { t with S:=t.S.set k o } σ (upd H a u)/\Stp Oo c H c (upd H a u):=by
 have hA:a∈c.ι:=ue0 e;have ext:Ext c H c (upd H a u):=⟨λb w h n=>by rw [As (λ(z:b=a)=>n (.inl (by rw [z];exact hA)))];exact h,λ_ _ _ z=>z,λ_ _ e=>e⟩;have neO:∀b,c.O b->b≠a:=λb z w=>f.s.dis b z (w ▸ hA);have stp:Stp Oo c H c (upd H a u):=⟨ext,λb z=>As (neO b (f.sub b z))⟩;have sinv:SInv K c (t.S.set k o) (upd H a u):=by
  refine ⟨by simp [f.s.len],f.s.nd,λj b o' e1 e2=>?_,λb z=>?_,f.s.dis⟩
  ·by_cases hj:j=k
   ·subst hj;rw [e] at e1;cases e1
    have hl:j < t.S.length:=by rw [<-f.s.len];exact (ub1.mp e).1
    rw [uc3 hl] at e2;cases e2
    exact r c _ ext Ax
   ·rw [ud9 (Ne.symm hj)] at e2;refine (f.s.obs j b o' e1 e2).mono ext (As λz=>?_);subst z;obtain ⟨l1,g1⟩:=ub1.mp e1;obtain ⟨l2,g2⟩:=ub1.mp e;exact hj ((uh1 f.s.nd).mp (g1.trans g2.symm))
  ·obtain ⟨w,h⟩:=f.s.trk b z;exact ⟨w,by rw [As (neO b z)];exact h⟩
 refine ⟨⟨sinv,f.len,f.sub,λi d q=>?_,λi ds q=>?_,f.inj⟩,stp⟩
 ·obtain ⟨v,h1,h2⟩:=f.val i d q;exact ⟨v,h1,h2.mono ext⟩
 ·obtain ⟨b,vs,h1,h2,h3,h4,h5⟩:=f.own i ds q;exact ⟨b,vs,h1,h2,h3,by rw [As (neO b h2)];exact h4,h5.mono ext⟩
theorem FInv.newObj (f:FInv K Oo c t σ H){p:Addr}{o:Ob}{u:HO}(h:H p=none)(r:∀c' H',Ext c H c' H'->H' p=some u->ObR K c' H' p o) :
 ∃c',FInv K Oo c' { t with S:=t.S++[o] } σ (upd H p u)/\Stp Oo c H c' (upd H p u)/\c'.ι[t.S.length]?=some p:=by
 let c':Cf:=⟨c.ι++[p],c.O⟩
 have nA:¬c.A p:=f.s.free h;have ext:Ext c H c' (upd H p u):=by
  refine ⟨λb w e _=>by rw [As (Bs e h)];exact e,λb w e z=>?_,λk a e=>?_⟩
  ·rcases z with z | z
   ·rcases ui3.mp z with z | z
    ·exact .inl z
    ·rw [uf7] at z;subst z;rw [h] at e;cases e
   ·exact .inr z
  ·show (c.ι++[p])[k]?=some a;rw [ub2 (ub1.mp e).1];exact e
 have stp:Stp Oo c H c' (upd H p u):=⟨ext,λb z=>by obtain ⟨w,e⟩:=f.s.trk b (f.sub b z);exact As (Bs e h)⟩;have at_:(c.ι++[p])[t.S.length]?=some p:=by rw [<-f.s.len,ua7 (um9 _)];simp
 have sinv:SInv K c' (t.S++[o]) (upd H p u):=by
  refine ⟨by simp [c',f.s.len],?_,λj b o' e1 e2=>?_,λb z=>?_,λb z hb=>?_⟩
  ·show (c.ι++[p]).Nodup;exact List.nodup_append.mpr ⟨f.s.nd,by simp,λx hx y hy z=>by rw [uf7] at hy;subst z;subst hy;exact nA (.inl hx)⟩
  ·have hlt:j < (t.S++[o]).length:=(ub1.mp e2).1
   by_cases hj:j < t.S.length
   ·have e1':c.ι[j]?=some b:=by
     have q:(c.ι++[p])[j]?=some b:=e1;rw [ub2 (by rw [f.s.len];exact hj)] at q;exact q
    rw [ub2 hj] at e2;have q:=f.s.obs j b o' e1' e2;obtain ⟨w,hw⟩:=q.some;exact q.mono ext (As (Bs hw h))
   ·have hj':j=t.S.length:=by simp at hlt;lia
    subst hj';rw [at_] at e1;cases e1
    rw [ua7 (um9 _)] at e2;simp at e2;subst e2;exact r c' _ ext Ax
  ·obtain ⟨w,e⟩:=f.s.trk b z;exact ⟨w,by rw [As (Bs e h)];exact e⟩
  ·rcases ui3.mp hb with w | w
   ·exact f.s.dis b z w
   ·rw [uf7] at w;subst w;exact nA (.inr z)
 refine ⟨c',⟨sinv,f.len,f.sub,λi d q=>?_,λi ds q=>?_,f.inj⟩,stp,at_⟩
 ·obtain ⟨v,h1,h2⟩:=f.val i d q;exact ⟨v,h1,h2.mono ext⟩
 ·obtain ⟨b,vs,h1,h2,h3,h4,h5⟩:=f.own i ds q;exact ⟨b,vs,h1,h2,h3,by rw [As (Bs h4 h)];exact h4,h5.mono ext⟩
theorem FInv.after (f:FInv K Oo c t σ H){c':Cf}{S':List Ob}{H':Hp}(s:SInv K c' S' H')(st:Stp c.O c H c' H')(ho:∀b,c'.O b↔c.O b):FInv K Oo c' { t with S:=S' } σ H'/\Stp Oo c H c' H':=by
 refine ⟨⟨s,f.len,λb z=>(ho b).mpr (f.sub b z),λi d q=>?_,λi ds q=>?_,f.inj⟩,st.ext,λb z=>st.oo b (f.sub b z)⟩
 ·obtain ⟨v,h1,h2⟩:=f.val i d q;exact ⟨v,h1,h2.mono st.ext⟩
 ·obtain ⟨b,vs,h1,h2,h3,h4,h5⟩:=f.own i ds q;exact ⟨b,vs,h1,(ho b).mpr h2,h3,(st.oo b h2).trans h4,h5.mono st.ext⟩
end
abbrev M (α:Type):=T->Option (α×T)
inductive Out where
 | next | brk | cont | ret (d:D)
noncomputable def ret {α:Type}(a:α):M α:=λt=>some (a,t)
noncomputable def fail {α:Type}:M α:=λ_=>none
noncomputable def bnd {α β:Type}(f:M α)(g:α->M β):M β:=λt=>match f t with
 | some (a,t1)=>g a t1
 | none=>none
variable {t:T}
theorem Aw {α β:Type}{f:M α}{g:α->M β}{z:β×T}(h:bnd f g t=some z):∃a t1,f t=some (a,t1)/\g a t1=some z:=by
 unfold bnd at h
 cases e:f t with
 | none=>rw [e] at h;cases h
 | some p=>obtain ⟨a,t1⟩:=p;rw [e] at h;exact ⟨a,t1,rfl,h⟩
noncomputable def LIM:Nat:=100000
theorem Di:LIM<=sizeLine:=by unfold LIM;decide
theorem WJ:LIM < sizeLine:=by unfold LIM;decide
section
variable (K:PySem.W.Frag)
def RE (f:M D):TE:=λσ H Q=>∃Oo c t,FInv K Oo c t σ H/\∃r t',f t=some (r,t')/\∀v H' c',FInv K Oo c' t' σ H'->Stp Oo c H c' H'->Rep K c' H' v r->Q v H'
def RT (f:M Bool):TT:=λσ H Q=>∃Oo c t,FInv K Oo c t σ H/\∃r t',f t=some (r,t')/\∀H' c',FInv K Oo c' t' σ H'->Stp Oo c H c' H'->Q r H'
def RA (f:M (List D)):TA:=λσ H Q=>∃Oo c t,FInv K Oo c t σ H/\∃r t',f t=some (r,t')/\∀vs H' c',FInv K Oo c' t' σ H'->Stp Oo c H c' H'->Reps K c' H' vs r->Q vs H'
def RF (f:M (List D)):TE:=λσ H Q=>∃Oo c t,FInv K Oo c t σ H/\∃ds t',f t=some (ds,t')/\∀p vs H' c',FInv K Oo c' t' σ H'->Stp Oo c H c' H'->Reps K c' H' vs ds->H' p=none->Q (.ref p) (upd H' p (.lst vs))
def RSg (μ:Cf->Hp->D->(V->Hp->Prop)->Prop)(f:M Out):TS:=λE σ H=>∃Oo c t,FInv K Oo c t σ H/\∃o t',f t=some (o,t')/\∀σ' H' c',FInv K Oo c' t' σ' H'->Stp Oo c H c' H'->
 match o with
 | .next=>E.nx σ' H'
 | .brk=>E.bk σ' H'
 | .cont=>E.ct σ' H'
 | .ret r=>μ c' H' r E.rt
def μR:Cf->Hp->D->(V->Hp->Prop)->Prop:=λc H r rt=>∀v,Rep K c H v r->rt v H
def μF:Cf->Hp->D->(V->Hp->Prop)->Prop:=λc H r rt=>match r with
 | .lst ds=>∀p us,H p=none->Reps K c H us ds->rt (.ref p) (upd H p (.lst us))
 | _=>False
abbrev RS (f:M Out):TS:=RSg K (μR K) f
def RG (f:D->M Unit):TG:=λv σ H Q=>∃Oo c t d,FInv K Oo c t σ H/\Rep K c H v d/\∃t',f d t=some ((),t')/\∀σ' H' c',FInv K Oo c' t' σ' H'->Stp Oo c H c' H'->Q σ' H'
structure ItOk (J:It)(c:Cf)(H:Hp)(ds:List D):Prop where
 go:∀c' H' (i:Nat),Ext c H c' H'->i < ds.length->J.go i H'
 yld:∀c' H' (i:Nat) x H'' d,Ext c H c' H'->ds[i]?=some d->J.yld i H' x H''->H''=H'/\Rep K c' H' x d
 stop:∀c' H',Ext c H c' H'->J.stop ds.length H'
def RI (f:M (List D)):TI:=λσ H R=>∃Oo c t,FInv K Oo c t σ H/\∃ds t',f t=some (ds,t')/\∀J H' c',FInv K Oo c' t' σ H'->Stp Oo c H c' H'->ItOk K J c' H' ds->R J H'
def WM (R:V->Hp->VK->Prop)(h:D->M D):Prop:=∀{Oo:Addr->Prop} {c:Cf} {t:T} {σ:L2.St} {H:Hp} {x:V} {dx r:D} {t':T} {Q:VK},FInv K Oo c t σ H->Rep K c H x dx->h dx t=some (r,t')->
 (∀v H' c',FInv K Oo c' t' σ H'->Stp Oo c H c' H'->Rep K c' H' v r->Q v H')->R x H Q
def Ck (R:R2)(h:D->D->M D):Prop:=∀{Oo:Addr->Prop} {c:Cf} {t:T} {σ:L2.St} {H:Hp} {x y:V} {dx dy r:D} {t':T} {Q:VK},FInv K Oo c t σ H->Rep K c H x dx->Rep K c H y dy->h dx dy t=some (r,t')->
 (∀v H' c',FInv K Oo c' t' σ H'->Stp Oo c H c' H'->Rep K c' H' v r->Q v H')->R x y H Q
def FR (R:List V->Hp->VK->Prop)(h:List D->M D):Prop:=∀{Oo:Addr->Prop} {c:Cf} {t:T} {σ:L2.St} {H:Hp} {xs:List V} {ds:List D} {r:D} {t':T} {Q:VK},FInv K Oo c t σ H->Reps K c H xs ds->h ds t=some (r,t')->
 (∀v H' c',FInv K Oo c' t' σ H'->Stp Oo c H c' H'->Rep K c' H' v r->Q v H')->R xs H Q
def PL (R:R2)(h:D->D->M (List D)):Prop:=∀{Oo:Addr->Prop} {c:Cf} {t:T} {σ:L2.St} {H:Hp} {x y:V} {dx dy:D} {r:List D} {t':T} {Q:VK},FInv K Oo c t σ H->Rep K c H x dx->Rep K c H y dy->h dx dy t=some (r,t')->
 (∀p vs H' c',FInv K Oo c' t' σ H'->Stp Oo c H c' H'->Reps K c' H' vs r->H' p=none->Q (.ref p) (upd H' p (.lst vs)))->R x y H Q
def MT (R:List V->Hp->VK->Prop)(h:List D->M (List D)):Prop:=∀{Oo:Addr->Prop} {c:Cf} {t:T} {σ:L2.St} {H:Hp} {xs:List V} {ds r:List D} {t':T} {Q:VK},FInv K Oo c t σ H->Reps K c H xs ds->h ds t=some (r,t')->
 (∀p vs H' c',FInv K Oo c' t' σ H'->Stp Oo c H c' H'->Reps K c' H' vs r->H' p=none->Q (.ref p) (upd H' p (.lst vs)))->R xs H Q
end
variable {tg:Expr}{i:Int}{j:Nat}{x:Str}{f g:M D}{h:D->D->M D}{R:R2}{σ:L2.St}
section
variable {X:Cx}{e a b:Expr}{pos:Pos}
theorem BP {t t':TE}(h:PE X e t)(i:∀σ H Q,t' σ H Q->t σ H Q):PE X e t':=λpins s σ H Q I q=>h pins s σ H Q I (i σ H Q q)
theorem Nc {t t':TT}(h:PT X e t)(i:∀σ H Q,t' σ H Q->t σ H Q):PT X e t':=λpins s σ H Q I q=>h pins s σ H Q I (i σ H Q q)
theorem QW {t t':TT}(h:PW X e t)(i:∀σ H Q,t' σ H Q->t σ H Q):PW X e t':=λw pins s σ H Q I q=>h w pins s σ H Q I (i σ H Q q)
theorem QU {es:List Expr}{t t':TA}(h:PA X es t)(i:∀σ H Q,t' σ H Q->t σ H Q):PA X es t':=λpos pins s σ H Q I q=>h pos pins s σ H Q I (i σ H Q q)
theorem CA {st:Stmt}{t t':TS}(h:PS X st t)(i:∀E σ H,t' E σ H->t E σ H):PS X st t':=λpins s σ H E I q=>h pins s σ H E I (i E σ H q)
theorem O3 {st:List Stmt}{t t':TS}(h:PSs X st t)(i:∀E σ H,t' E σ H->t E σ H):PSs X st t':=λpins s σ H E I q=>h pins s σ H E I (i E σ H q)
theorem M9 {t t':TG}(h:PG X e t)(i:∀v σ H Q,t' v σ H Q->t v σ H Q):PG X e t':=λpins s σ H v u Q I r q=>h pins s σ H v u Q I r (i v σ H Q q)
theorem Na {t t':TI}(h:PI X tg e t)(i:∀σ H R,t' σ H R->t σ H R):PI X tg e t':=λpins s σ H R I q=>h pins s σ H R I (i σ H R q)
def fC (d:D):M D:=ret d
theorem JF {v:V}{d:D}(h:PE X e (tC v))(r:∀c H,Rep X.K c H v d):PE X e (RE X.K (fC d)):=
 BP h λσ H Q z9=>by
  obtain ⟨Oo,c,t,f,r',t',eq,k⟩:=z9
  cases eq
  exact k v H c f .refl (r c H)
theorem Ag:PE X (.Constant (.int i) j pos) (RE X.K (fC (.int i))):=JF Xs λ_ _=>.int i
theorem C3 {i:Bool}:PE X (.Constant (.bool i) j pos) (RE X.K (fC (.bl i))):=JF YL λ_ _=>.bl i
theorem AF {i:Str}:PE X (.Constant (.str i) j pos) (RE X.K (fC (.str i))):=JF Sd λ_ _=>.str i
theorem Cu:PE X (.Constant .none j pos) (RE X.K (fC .non)):=JF Xu λ_ _=>.non
theorem IP {tk:Tok}(hg:Gl X x)(hm:X.mg x=some (.int i tk))(hd:(x == ("__debug__" : Str))=false:=by decide):PE X (.Name x pos) (RE X.K (fC (.int i))):=
 JF (Pp hg hm (v:=.int i) ⟨tk,rfl⟩ hd) λ_ _=>.int i
theorem Tj {y:Str}{tk:Tok}(hg:Gl X x)(hm:X.mg x=some (.str y tk))(hd:(x == ("__debug__" : Str))=false:=by decide):PE X (.Name x pos) (RE X.K (fC (.str y))):=
 JF (Pp hg hm (v:=.str y) ⟨tk,rfl⟩ hd) λ_ _=>.str y
theorem FH {n:String}(hg:Gl X x)(hm:X.mg x=none)(hv:bootBuiltins x=some (.type n))(hn:x≠"__name__":=by decide)(hd:(x == ("__debug__" : Str))=false:=by decide):PE X (.Name x pos) (RE X.K (fC (.ty n))):=
 JF (VN hg hm hv (v:=.ty n) rfl hn hd) λ_ _=>.ty n
noncomputable def Ad (i:Nat):M D:=λt=>match t.env[i]? with
 | some (some (.val d))=>some (d,t)
 | some (some (.own ds))=>some (.lst ds,{ t with env:=t.env.set i (some (.val (.lst ds))) })
 | _=>none
theorem P9 {i:Nat}{t':T}{r:D}(h:Ad i t=some (r,t')):(t.env[i]?=some (some (.val r))/\t'=t)\/∃ds,t.env[i]?=some (some (.own ds))/\r = .lst ds/\t' = { t with env:=t.env.set i (some (.val (.lst ds))) }:=by
 unfold Ad at h
 cases e:t.env[i]? with
 | none=>rw [e] at h;cases h
 | some o=>
   cases o with
   | none=>rw [e] at h;cases h
   | some sl=>
     cases sl with
     | val d=>rw [e] at h;cases h;exact .inl ⟨rfl,rfl⟩
     | own ds=>rw [e] at h;cases h;exact .inr ⟨ds,rfl,rfl,rfl⟩
theorem Ab (i:Nat){x:Str}(hN:X.N[i]?=some x:=by rfl)(hv:Vis X.env.scope x:=by first | exact Or.inl rfl | exact Or.inr (Or.inl rfl) | exact Or.inr (Or.inr rfl))(hd:(x == ("__debug__" : Str))=false:=by decide)
 (hcd:(x == ("__classdict__" : Str))=false:=by decide):PE X (.Name x pos) (RE X.K (Ad i)):=
 BP (DB hN hv hd hcd) λσ H Q z9=>by
  obtain ⟨Oo,c,t,f,r,t',eq,k⟩:=z9;rcases P9 eq with ⟨q,rfl⟩ | ⟨ds,q,rfl,rfl⟩
  ·obtain ⟨v,h1,h2⟩:=f.val i r q;exact ⟨v,h1,k v H c f .refl h2⟩
  ·obtain ⟨c',v,f',st,h1,h2⟩:=f.frz q;exact ⟨v,h1,k v H c' f' st h2⟩
def Ah (f g:M D)(h:D->D->M D):M D:=bnd f λx=>bnd g λy=>h x y
theorem RE.two (s:Ck K R h){σ:L2.St}{H:Hp}{Q:VK}(q:RE K (Ah f g h) σ H Q):tOp R (RE K f) (RE K g) σ H Q:=by
 obtain ⟨Oo,c,t,fi,r,t',eq,k⟩:=q;obtain ⟨dx,t1,e1,eq⟩:=Aw eq;obtain ⟨dy,t2,e2,eq⟩:=Aw eq;exact ⟨Oo,c,t,fi,dx,t1,e1,λx H1 c1 f1 s1 rx=>⟨Oo,c1,t1,f1,dy,t2,e2,λy H2 c2 f2 s2 ry=>s f2 (rx.mono s2.ext) ry eq λv H' c' f' s' rv=>k v H' c' f' ((s1.trans s2).trans s') rv⟩⟩
theorem AB {op:Operator}{R:R2}{f g:M D}{h:D->D->M D}(ho:OpR X (binaryOp op) R)(s:Ck X.K R h)(ha:PE X a (RE X.K f))(hb:PE X b (RE X.K g)):PE X (.BinOp a op b pos) (RE X.K (Ah f g h)):=
 BP (Qr ho ha hb) λ_ _ _ q=>RE.two s q
theorem Gm {op:CmpOp}{R:R2}{f g:M D}{h:D->D->M D}(ho:OpR X (compareOp op) R)(s:Ck X.K R h)(ha:PE X a (RE X.K f))(hb:PE X b (RE X.K g))(hm:behindInMarks op b=false):PE X (.Compare a [op] [b] pos) (RE X.K (Ah f g h)):=
 BP (VO ho ha hb hm) λ_ _ _ q=>RE.two s q
theorem Am {R:R2}{f g:M D}{h:D->D->M D}(hr:IxR X R)(s:Ck X.K R h)(ha:PE X a (RE X.K f))(hb:PE X b (RE X.K g))(hs:O4 b):PE X (.Subscript a b pos) (RE X.K (Ah f g h)):=
 BP (YM hr ha hb hs) λ_ _ _ q=>RE.two s q
def fUn (f:M D)(h:D->M D):M D:=bnd f h
theorem YC {op:UnaryOp}{R:V->Hp->VK->Prop}{h:D->M D}(ho:UnR X (unaryOp op) R)(s:WM X.K R h)(ha:PE X a (RE X.K f)):PE X (.UnaryOp op a pos) (RE X.K (fUn f h)):=
 BP (YN ho ha) λσ H Q z9=>by
  obtain ⟨Oo,c,t,fi,r,t',eq,k⟩:=z9;obtain ⟨dx,t1,e1,eq⟩:=Aw eq;exact ⟨Oo,c,t,fi,dx,t1,e1,λx H1 c1 f1 s1 rx=>s f1 rx eq λv H' c' f' s' rv=>k v H' c' f' (s1.trans s') rv⟩
def toB:D->M Bool
 | .bl b=>ret b
 | _=>fail
def AQ (f:M D):M Bool:=bnd f toB
theorem Kg {d:D}{z:Bool×T}(h:toB d t=some z):∃b,d = .bl b/\z=(b,t):=by
 cases d with
 | bl b=>cases h;exact ⟨b,rfl,rfl⟩
 | _=>cases h
theorem RT.val {Q:Bool->Hp->Prop}(q:RT K (AQ f) σ H Q):RE K f σ H λx H1=>∃k,x = .bl k/\Q k H1:=by
 obtain ⟨Oo,c,t,fi,r,t',eq,k⟩:=q;obtain ⟨d,t1,e1,eq⟩:=Aw eq;obtain ⟨b,rfl,z⟩:=Kg eq
 cases z
 refine ⟨Oo,c,t,fi,_,t',e1,λv H1 c1 f1 s1 rv=>?_⟩
 cases rv
 exact ⟨r,rfl,k H1 c1 f1 s1⟩
theorem CL {f:M D}(h:PE X e (RE X.K f))(he:∀whole,isTrue e X.env whole=(do let v <-whole;standAt e.pos;holding [v] (truthy v)):=by intro _;rfl):PT X e (RT X.K (AQ f)):=
 Nc (XI h he) λ_ _ _ q=>RT.val q
theorem AS {op:CmpOp}{R:R2}{f g:M D}{h:D->D->M D}(ho:OpR X (compareOp op) R)(s:Ck X.K R h)(ha:PE X a (RE X.K f))(hb:PE X b (RE X.K g))(hm:behindInMarks op b=false):PT X (.Compare a [op] [b] pos) (RT X.K (AQ (Ah f g h))):=
 Nc (V1 ho ha hb hm) λσ H Q q=>RE.two s (RT.val q)
def Gj (f g w:M D)(h h':D->D->M D):M D:=bnd f λx=>bnd g λy=>bnd (AQ (h x y)) λk=>if k=true then bnd w λz=>h' y z else ret (.bl false)
theorem RE.chain {w:M D}{h':D->D->M D}{R':R2}(s:Ck K R h)(s':Ck K R' h'){σ:L2.St}{H:Hp}{Q:VK}(q:RE K (Gj f g w h h') σ H Q):SE R R' (RE K f) (RE K g) (RE K w) σ H Q:=by
 obtain ⟨Oo,c,t,fi,r,t',eq,k⟩:=q;obtain ⟨dx,t1,e1,eq⟩:=Aw eq;obtain ⟨dy,t2,e2,eq⟩:=Aw eq;obtain ⟨kb,t3,e3,eq⟩:=Aw eq;obtain ⟨d3,t3',e3',e3⟩:=Aw e3;obtain ⟨b3,rfl,z⟩:=Kg e3
 cases z
 refine ⟨Oo,c,t,fi,dx,t1,e1,λx H1 c1 f1 s1 rx=>⟨Oo,c1,t1,f1,dy,t2,e2,λy H2 c2 f2 s2 ry=>s f2 (rx.mono s2.ext) ry e3' λv H3 c3 f3 s3 rv=>?_⟩⟩
 cases rv
 refine ⟨kb,rfl,?_⟩
 cases kb with
 | false=>
   rw [if_neg uf2] at eq ⊢
   cases eq
   exact k _ H3 c3 f3 ((s1.trans s2).trans s3) (.bl false)
 | true=>
   rw [if_pos rfl] at eq ⊢;obtain ⟨dz,t4,e4,eq⟩:=Aw eq;exact ⟨Oo,c3,t3,f3,dz,t4,e4,λw' H4 c4 f4 s4 rw'=>s' f4 (ry.mono (s3.trans s4).ext) rw' eq λv H' c' f' s' rv=>k v H' c' f' ((((s1.trans s2).trans s3).trans s4).trans s') rv⟩
theorem NI {d:Expr}{op op':CmpOp}{R':R2}{w:M D}{h':D->D->M D}(ho:OpR X (compareOp op) R)(ho':OpR X (compareOp op') R')(s:Ck X.K R h)(s':Ck X.K R' h')(ha:PE X a (RE X.K f))(hb:PE X b (RE X.K g))(hd:PE X d (RE X.K w))
 (hm:lastMarks [op,op'] [b,d]=false:=by with_unfolding_all rfl):PE X (.Compare a [op,op'] [b,d] pos) (RE X.K (Gj f g w h h')):=
 BP (TW ho ho' ha hb hd hm) λ_ _ _ q=>RE.chain s s' q
def NG (f g:M Bool):M Bool:=bnd f λk=>if k=true then g else ret false
def fOr (f g:M Bool):M Bool:=bnd f λk=>if k=true then ret true else g
def Dr (f:M Bool):M Bool:=bnd f λk=>ret (!k)
def FX (f g:M D):M D:=bnd (AQ f) λk=>if k=true then g else ret (.bl false)
def WZ (f g:M D):M D:=bnd (AQ f) λk=>if k=true then ret (.bl true) else g
def KC (f:M D):M D:=bnd (AQ f) λk=>ret (.bl (!k))
def fIf (f:M Bool)(g h:M D):M D:=bnd f λk=>if k=true then g else h
variable {f g:M Bool}{u v w:M D}{rest:List Expr}
theorem Fi (h:PW X e (RT X.K f)):PT X e (RT X.K f):=h.pt
theorem Vh (ha:PT X a (RT X.K f)):PW X (.BoolOp .And [a] pos) (RT X.K f):=V3 ha
theorem EL (ha:PT X a (RT X.K f)):PW X (.BoolOp .Or [a] pos) (RT X.K f):=XN ha
theorem W3 (ha:PT X a (RT X.K f))(hb:PW X (.BoolOp .And (b :: rest) pos) (RT X.K g)):PW X (.BoolOp .And (a :: b :: rest) pos) (RT X.K (NG f g)):=
 QW (XL ha hb) λσ H Q z9=>by
  obtain ⟨Oo,c,t,fi,r,t',eq,k⟩:=z9;obtain ⟨kb,t1,e1,eq⟩:=Aw eq;refine ⟨Oo,c,t,fi,kb,t1,e1,λH1 c1 f1 s1=>?_⟩
  cases kb with
  | false=>rw [if_neg uf2] at eq ⊢;cases eq;exact k H1 c1 f1 s1
  | true=>rw [if_pos rfl] at eq ⊢;exact ⟨Oo,c1,t1,f1,r,t',eq,λH2 c2 f2 s2=>k H2 c2 f2 (s1.trans s2)⟩
theorem Fj (ha:PT X a (RT X.K f))(hb:PW X (.BoolOp .Or (b :: rest) pos) (RT X.K g)):PW X (.BoolOp .Or (a :: b :: rest) pos) (RT X.K (fOr f g)):=
 QW (YU ha hb) λσ H Q z9=>by
  obtain ⟨Oo,c,t,fi,r,t',eq,k⟩:=z9;obtain ⟨kb,t1,e1,eq⟩:=Aw eq;refine ⟨Oo,c,t,fi,kb,t1,e1,λH1 c1 f1 s1=>?_⟩
  cases kb with
  | true=>rw [if_pos rfl] at eq ⊢;cases eq;exact k H1 c1 f1 s1
  | false=>rw [if_neg uf2] at eq ⊢;exact ⟨Oo,c1,t1,f1,r,t',eq,λH2 c2 f2 s2=>k H2 c2 f2 (s1.trans s2)⟩
theorem CQ (ha:PT X a (RT X.K f)):PT X (.UnaryOp .Not a pos) (RT X.K (Dr f)):=
 Nc (XH ha) λσ H Q z9=>by
  obtain ⟨Oo,c,t,fi,r,t',eq,k⟩:=z9;obtain ⟨kb,t1,e1,eq⟩:=Aw eq
  cases eq
  exact ⟨Oo,c,t,fi,kb,_,e1,λH1 c1 f1 s1=>k H1 c1 f1 s1⟩
theorem Oy {f:M D}{kb:Bool}{t1:T}(h:AQ f t=some (kb,t1)):f t=some (.bl kb,t1):=by
 obtain ⟨d,t2,e1,e2⟩:=Aw h;obtain ⟨b,rfl,z⟩:=Kg e2
 cases z
 exact e1
theorem Ig {op:PySem.BoolOp}(h:PE X a (RE X.K u)):PE X (.BoolOp op [a] pos) (RE X.K u):=Xw h
theorem Ie (ha:PE X a (RE X.K u))(hb:PE X (.BoolOp .And (b :: rest) pos) (RE X.K v)):PE X (.BoolOp .And (a :: b :: rest) pos) (RE X.K (FX u v)):=
 BP (Xr ha hb) λσ H Q z9=>by
  obtain ⟨Oo,c,t,fi,r,t',eq,k⟩:=z9;obtain ⟨kb,t1,e1,eq⟩:=Aw eq;refine ⟨Oo,c,t,fi,_,t1,Oy e1,λx H1 c1 f1 s1 rx=>?_⟩
  cases rx
  refine ⟨kb,rfl,?_⟩
  cases kb with
  | false=>rw [if_neg uf2] at eq ⊢;cases eq;exact k _ H1 c1 f1 s1 (.bl false)
  | true=>rw [if_pos rfl] at eq ⊢;exact ⟨Oo,c1,t1,f1,r,t',eq,λy H2 c2 f2 s2 ry=>k y H2 c2 f2 (s1.trans s2) ry⟩
theorem W0 (ha:PE X a (RE X.K u)):PE X (.UnaryOp .Not a pos) (RE X.K (KC u)):=
 BP (Xv ha) λσ H Q z9=>by
  obtain ⟨Oo,c,t,fi,r,t',eq,k⟩:=z9;obtain ⟨kb,t1,e1,eq⟩:=Aw eq
  cases eq
  refine ⟨Oo,c,t,fi,_,_,Oy e1,λx H1 c1 f1 s1 rx=>?_⟩
  cases rx
  exact ⟨kb,rfl,k _ H1 c1 f1 s1 (.bl (!kb))⟩
theorem Tk {d:Expr}(hc:PT X d (RT X.K f))(ha:PE X a (RE X.K u))(hb:PE X b (RE X.K v)):PE X (.IfExp d a b pos) (RE X.K (fIf f u v)):=
 BP (TX hc ha hb) λσ H Q z9=>by
  obtain ⟨Oo,c,t,fi,r,t',eq,k⟩:=z9;obtain ⟨kb,t1,e1,eq⟩:=Aw eq;refine ⟨Oo,c,t,fi,kb,t1,e1,λH1 c1 f1 s1=>?_⟩
  cases kb with
  | false=>rw [if_neg uf2] at eq ⊢;exact ⟨Oo,c1,t1,f1,r,t',eq,λy H2 c2 f2 s2 ry=>k y H2 c2 f2 (s1.trans s2) ry⟩
  | true=>rw [if_pos rfl] at eq ⊢;exact ⟨Oo,c1,t1,f1,r,t',eq,λy H2 c2 f2 s2 ry=>k y H2 c2 f2 (s1.trans s2) ry⟩
end
variable {n:Nat}{p:Pos}
section
variable {X:Cx}{e a b:Expr}{es:List Expr}{pos:Pos}
def Aj:M (List D):=ret []
def Ac (f:M D)(g:M (List D)):M (List D):=bnd f λd=>bnd g λds=>ret (d :: ds)
theorem Af:PA X [] (RA X.K Aj):=QU Xq λσ H Q z9=>by
 obtain ⟨Oo,c,t,fi,r,t',eq,k⟩:=z9
 cases eq
 exact k [] H c fi .refl .nil
theorem Va {g:M (List D)}(ha:PE X e (RE X.K f))(hr:PA X es (RA X.K g))(hs:starEach (e :: es) X.env=(false,eval e X.env) :: starEach es X.env:=by rfl):PA X (e :: es) (RA X.K (Ac f g)):=
 QU (VL ha hr hs) λσ H Q z9=>by
  obtain ⟨Oo,c,t,fi,r,t',eq,k⟩:=z9;obtain ⟨d,t1,e1,eq⟩:=Aw eq;obtain ⟨ds,t2,e2,eq⟩:=Aw eq
  cases eq
  exact ⟨Oo,c,t,fi,d,t1,e1,λx H1 c1 f1 s1 rx=>⟨Oo,c1,t1,f1,ds,_,e2,λxs H2 c2 f2 s2 rxs=>k _ H2 c2 f2 (s1.trans s2) (.cons (rx.mono s2.ext) rxs)⟩⟩
def lim {α:Type}(n:Nat)(a:α):M α:=λt=>if n<=LIM then some (a,t) else none
theorem EX {α:Type}{a:α}{z:α×T}(h:lim n a t=some z):n<=LIM/\z=(a,t):=by
 unfold lim at h
 split at h
 ·next h1=>cases h;exact ⟨h1,rfl⟩
 ·cases h
def B4 (f:M (List D)):M D:=bnd f λds=>lim ds.length (.tup ds)
theorem BG {x1:Nat}{f:M (List D)}(h:PA X es (RA X.K f)):PE X (.Tuple es x1 pos) (RE X.K (B4 f)):=
 BP (Xx h) λσ H Q z9=>by
  obtain ⟨Oo,c,t,fi,r,t',eq,k⟩:=z9;obtain ⟨ds,t1,e1,eq⟩:=Aw eq;obtain ⟨hl,z⟩:=EX eq
  cases z
  refine ⟨Oo,c,t,fi,ds,_,e1,λxs H1 c1 f1 s1 rxs=>⟨by rw [rxs.length];exact ul7 hl Di,λp hp=>?_⟩⟩;exact k _ _ c1 (f1.laid hp) (s1.trans (f1.stp_laid hp)) (.tup Ax (f1.s.free hp) (rxs.mono (Ext.laid f1.s hp)))
def BJ (f:M (List D)):M (List D):=bnd f λds=>lim ds.length ds
theorem Bq {f:M (List D)}(h:PA X es (RA X.K f)):PE X (.List es pos) (RF X.K (BJ f)):=
 BP (Xt h) λσ H Q z9=>by
  obtain ⟨Oo,c,t,fi,r,t',eq,k⟩:=z9;obtain ⟨ds,t1,e1,eq⟩:=Aw eq;obtain ⟨hl,z⟩:=EX eq
  cases z
  exact ⟨Oo,c,t,fi,_,_,e1,λxs H1 c1 f1 s1 rxs=>⟨by rw [rxs.length];exact ul7 hl Di,λp hp=>k p xs H1 c1 f1 s1 rxs hp⟩⟩
def Bb (f:M (List D)):M D:=bnd f λds=>ret (.lst ds)
theorem A1 {f:M (List D)}(h:PE X e (RF X.K f)):PE X e (RE X.K (Bb f)):=
 BP h λσ H Q z9=>by
  obtain ⟨Oo,c,t,fi,r,t',eq,k⟩:=z9;obtain ⟨ds,t1,e1,eq⟩:=Aw eq
  cases eq
  exact ⟨Oo,c,t,fi,ds,_,e1,λp xs H1 c1 f1 s1 rxs hp=>k _ _ c1 (f1.laid hp) (s1.trans (f1.stp_laid hp)) (.lst Ax (f1.s.free hp) (rxs.mono (Ext.laid f1.s hp)))⟩
noncomputable def Ql (o:Ob):M D:=λt=>some (.obj t.S.length,{ t with S:=t.S++[o] })
def Lz (f:M (List D)):M D:=bnd f λds=>Ql (.lst ds)
theorem Rf {f:M (List D)}(h:PE X e (RF X.K f)):PE X e (RE X.K (Lz f)):=
 BP h λσ H Q z9=>by
  obtain ⟨Oo,c,t,fi,r,t',eq,k⟩:=z9;obtain ⟨ds,t1,e1,eq⟩:=Aw eq
  cases eq
  refine ⟨Oo,c,t,fi,ds,_,e1,λp xs H1 c1 f1 s1 rxs hp=>?_⟩;obtain ⟨c2,f2,s2,e2⟩:=f1.newObj (o:=.lst ds) (u:=.lst xs) hp λc' H' ex hu=>⟨xs,hu,rxs.mono ex⟩;exact k _ _ c2 f2 (s1.trans s2) (.obj e2)
abbrev Fn:=List D->List Ob->Option (D×List Ob)
def spF (K:PySem.W.Frag)(f:Fn):Sp:=λvs H Q _=>∃c ds S,SInv K c S H/\Reps K c H vs ds/\∃r S',f ds S=some (r,S')/\
 ∀v H' c',SInv K c' S' H'->Stp c.O c H c' H'->(∀b,c'.O b↔c.O b)->Rep K c' H' v r->Q v H'
def Ar (g:Fn)(f:M (List D)):M D:=bnd f λds t=>match g ds t.S with
 | some (r,S')=>some (r,{ t with S:=S' })
 | none=>none
theorem Mh {g:Fn}{ds:List D}{r:D}{t':T}(h:(match g ds t.S with | some (r,S')=>some (r,{ t with S:=S' }) | none=>none:Option (D×T))=some (r,t')):∃S',g ds t.S=some (r,S')/\t' = { t with S:=S' }:=by
 cases e:g ds t.S with
 | none=>rw [e] at h;cases h
 | some p=>obtain ⟨r',S'⟩:=p;rw [e] at h;cases h;exact ⟨S',rfl,rfl⟩
theorem Vb {k:Nat}{fa:Addr}{fd:FuncData}{ps:List Str}{g:Fn}{f:M (List D)}(F:FnOk X.prog X.w X.K X.mg X.base CX0 k fa fd ps (spF X.K g))(hr:Room k X.A)(hg:Gl X x)(hm:X.mg x=some (.ref fa))(hk:PySem.W.keepIn X.K (.ref fa)=true)(hb:Binds X.K fd ps [])
 (ha:PA X (e :: es) (RA X.K f)) (hdb:(x == ("__debug__" : Str))=false:=by decide) (he:starEach (e :: es) X.env=(false,eval e X.env) :: starEach es X.env:=by rfl) (hpl:(backTo pos (starEach es X.env)).any (·.1)=false:=by rfl) :
 PE X (.Call (.Name x p) (e :: es) [] pos) (RE X.K (Ar g f)):=
 BP (Po F hr hg hm hk hb .nil UE ha hdb he hpl) λσ H Q z9=>by
  obtain ⟨Oo,c,t,fi,r,t',eq,kk⟩:=z9;obtain ⟨ds,t1,e1,eq⟩:=Aw eq;obtain ⟨S',e2,rfl⟩:=Mh eq;refine ⟨Oo,c,t,fi,ds,t1,e1,λvs H1 c1 f1 s1 rvs=>?_⟩;show spF X.K g (vs++[]) H1 Q E0;rw [ui6];refine ⟨c1,ds,t1.S,f1.s,rvs,r,S',e2,λv H' c' si st ho rv=>?_⟩;obtain ⟨f2,s2⟩:=f1.after si st ho;exact kk v H' c' f2 (s1.trans s2) rv
def fB (f:M (List D))(h:List D->M D):M D:=bnd f h
theorem RE.callB {f:M (List D)}{h:List D->M D}{R:List V->Hp->VK->Prop}(s:FR K R h){σ:L2.St}{H:Hp}{Q:VK}(q:RE K (fB f h) σ H Q):tCB R (RA K f) σ H Q:=by
 obtain ⟨Oo,c,t,fi,r,t',eq,k⟩:=q;obtain ⟨ds,t1,e1,eq⟩:=Aw eq;exact ⟨Oo,c,t,fi,ds,t1,e1,λxs H1 c1 f1 s1 rxs=>s f1 rxs eq λv H' c' f' s' rv=>k v H' c' f' (s1.trans s') rv⟩
def fBF (f:M (List D))(h:List D->M (List D)):M (List D):=bnd f h
theorem RF.callB {f:M (List D)}{h:List D->M (List D)}{R:List V->Hp->VK->Prop}(s:MT K R h){σ:L2.St}{H:Hp}{Q:VK}(q:RF K (fBF f h) σ H Q):tCB R (RA K f) σ H Q:=by
 obtain ⟨Oo,c,t,fi,r,t',eq,k⟩:=q;obtain ⟨ds,t1,e1,eq⟩:=Aw eq;exact ⟨Oo,c,t,fi,ds,t1,e1,λxs H1 c1 f1 s1 rxs=>s f1 rxs eq λp vs H' c' f' s' rv hp=>k p vs H' c' f' (s1.trans s') rv hp⟩
theorem RF.two {h:D->D->M (List D)}(s:PL K R h){σ:L2.St}{H:Hp}{Q:VK}(q:RF K (bnd f λx=>bnd g λy=>h x y) σ H Q):tOp R (RE K f) (RE K g) σ H Q:=by
 obtain ⟨Oo,c,t,fi,r,t',eq,k⟩:=q;obtain ⟨dx,t1,e1,eq⟩:=Aw eq;obtain ⟨dy,t2,e2,eq⟩:=Aw eq;exact ⟨Oo,c,t,fi,dx,t1,e1,λx H1 c1 f1 s1 rx=>⟨Oo,c1,t1,f1,dy,t2,e2,λy H2 c2 f2 s2 ry=>s f2 (rx.mono s2.ext) ry eq λp vs H' c' f' s' rv hp=>k p vs H' c' f' ((s1.trans s2).trans s') rv hp⟩⟩
end
variable {μ:Cf->Hp->D->(V->Hp->Prop)->Prop}
section
variable {X:Cx}{e a b:Expr}{pos:Pos}{st:Stmt}{sts:List Stmt}
noncomputable def Aq (f g:M Out):M Out:=λt=>match f t with
 | some (.next,t1)=>g t1
 | z=>z
def AX:M Out:=ret .next
theorem AH:PSs X [] (RSg X.K μ AX):=O3 V0 λE σ H z9=>by
 obtain ⟨Oo,c,t,fi,o,t',eq,k⟩:=z9
 cases eq
 exact k σ H c fi .refl
theorem Ai {μ:Cf->Hp->D->(V->Hp->Prop)->Prop}{f g:M Out}(h1:PS X st (RSg X.K μ f))(h2:PSs X sts (RSg X.K μ g)):PSs X (st :: sts) (RSg X.K μ (Aq f g)):=
 O3 (JX h1 h2) λE σ H z9=>by
  obtain ⟨Oo,c,t,fi,o,t',eq,k⟩:=z9;unfold Aq at eq
  cases e1:f t with
  | none=>rw [e1] at eq;cases eq
  | some p=>
    obtain ⟨o1,t1⟩:=p;rw [e1] at eq;refine ⟨Oo,c,t,fi,o1,t1,e1,λσ1 H1 c1 f1 s1=>?_⟩
    cases o1 with
    | next=>exact ⟨Oo,c1,t1,f1,o,t',eq,λσ2 H2 c2 f2 s2=>k σ2 H2 c2 f2 (s1.trans s2)⟩
    | brk=>cases eq;exact k σ1 H1 c1 f1 s1
    | cont=>cases eq;exact k σ1 H1 c1 f1 s1
    | ret d=>cases eq;exact k σ1 H1 c1 f1 s1
theorem An {μ:Cf->Hp->D->(V->Hp->Prop)->Prop}{f:M Out}(h1:PS X st (RSg X.K μ f)):PSs X [st] (RSg X.K μ f):=G6 h1
def AJ (f:M D):M Out:=bnd f λd=>ret (.ret d)
theorem AI {f:M D}(h:PE X e (RE X.K f)):PS X (.Return (some e) pos) (RS X.K (AJ f)):=
 CA (Iw h) λE σ H z9=>by
  obtain ⟨Oo,c,t,fi,o,t',eq,k⟩:=z9;obtain ⟨d,t1,e1,eq⟩:=Aw eq
  cases eq
  exact ⟨Oo,c,t,fi,d,_,e1,λv H1 c1 f1 s1 rv=>k σ H1 c1 f1 s1 v rv⟩
theorem Tm:PS X (.Break pos) (RSg X.K μ (ret .brk)):=CA T4 λE σ H z9=>by
 obtain ⟨Oo,c,t,fi,o,t',eq,k⟩:=z9
 cases eq
 exact k σ H c fi .refl
def KA (f:M D):M Out:=bnd f λ_=>ret .next
theorem Vg (h:PE X e (RE X.K f))(hs:swapsWith e none pos.line X.env=pure false:=by rfl):PS X (.Expr e pos) (RSg X.K μ (KA f)):=
 CA (LS h hs) λE σ H z9=>by
  obtain ⟨Oo,c,t,fi,o,t',eq,k⟩:=z9;obtain ⟨d,t1,e1,eq⟩:=Aw eq
  cases eq
  exact ⟨Oo,c,t,fi,d,_,e1,λv H1 c1 f1 s1 rv=>k σ H1 c1 f1 s1⟩
def ifS (f:M Bool)(g h:M Out):M Out:=bnd f λk=>if k=true then g else h
theorem AW {μ:Cf->Hp->D->(V->Hp->Prop)->Prop}{f:M Bool}{g h:M Out}{sa sb:List Stmt}(hc:PT X e (RT X.K f))(ha:PSs X sa (RSg X.K μ g))(hb:PSs X sb (RSg X.K μ h)):PS X (.If e sa sb pos) (RSg X.K μ (ifS f g h)):=
 CA (YT hc ha hb) λE σ H z9=>by
  obtain ⟨Oo,c,t,fi,o,t',eq,k⟩:=z9;obtain ⟨kb,t1,e1,eq⟩:=Aw eq;refine ⟨Oo,c,t,fi,kb,t1,e1,λH1 c1 f1 s1=>?_⟩
  cases kb with
  | true=>rw [if_pos rfl] at eq ⊢;exact ⟨Oo,c1,t1,f1,o,t',eq,λσ2 H2 c2 f2 s2=>k σ2 H2 c2 f2 (s1.trans s2)⟩
  | false=>rw [if_neg uf2] at eq ⊢;exact ⟨Oo,c1,t1,f1,o,t',eq,λσ2 H2 c2 f2 s2=>k σ2 H2 c2 f2 (s1.trans s2)⟩
noncomputable def By (i:Nat)(d:D):M Unit:=λt=>some ((),{ t with env:=t.env.set i (some (.val d)) })
def A9 (i:Nat)(f:M D):M Out:=bnd f λd=>bnd (By i d) λ_=>ret .next
theorem RS.set {μ:Cf->Hp->D->(V->Hp->Prop)->Prop}{K:PySem.W.Frag}{i:Nat}{f:M D}{E:Ends}{σ:L2.St}{H:Hp}(q:RSg K μ (A9 i f) E σ H):QG (RE K f) (MY i) E σ H:=by
 obtain ⟨Oo,c,t,fi,o,t',eq,k⟩:=q;obtain ⟨d,t1,e1,eq⟩:=Aw eq
 cases eq
 exact ⟨Oo,c,t,fi,d,t1,e1,λv H1 c1 f1 s1 rv=>k _ H1 c1 (f1.set rv) s1⟩
theorem AK {μ:Cf->Hp->D->(V->Hp->Prop)->Prop}{i:Nat}{x:Str}{f:M D}{pos':Pos}(hN:X.N.Nodup)(hi:X.N[i]?=some x)(hx:Loc X.env.scope x)(he:PE X e (RE X.K f))(hs:swapsWith e (some (.Name x pos')) pos.line X.env=pure false:=by rfl)(hf:X.fn x=true\/X.env.scope.names.lookup x=some .local:=by first | exact .inl rfl | exact .inr rfl | assumption) :
 PS X (.Assign [.Name x pos'] e pos) (RSg X.K μ (A9 i f)):=CA (Od hN hi hx he hs hf) λ_ _ _ q=>RS.set q
def EY (i:Nat)(f:M (List D)):M Out:=bnd f λds t=>some (.next,{ t with env:=t.env.set i (some (.own ds)) })
theorem RS.own {i:Nat}{f:M (List D)}{E:Ends}(q:RSg K μ (EY i f) E σ H):QG (RF K f) (MY i) E σ H:=by
 obtain ⟨Oo,c,t,fi,o,t',eq,k⟩:=q;obtain ⟨ds,t1,e1,eq⟩:=Aw eq
 cases eq
 refine ⟨Oo,c,t,fi,ds,t1,e1,λp vs H1 c1 f1 s1 rv hp=>?_⟩;obtain ⟨c2,f2,s2⟩:=f1.setOwn (i:=i) hp rv;exact k _ _ c2 f2 (s1.trans s2)
theorem Fh {μ:Cf->Hp->D->(V->Hp->Prop)->Prop}{i:Nat}{x:Str}{f:M (List D)}{pos':Pos}(hN:X.N.Nodup)(hi:X.N[i]?=some x)(hx:Loc X.env.scope x)(he:PE X e (RF X.K f))(hs:swapsWith e (some (.Name x pos')) pos.line X.env=pure false:=by rfl)(hf:X.fn x=true\/X.env.scope.names.lookup x=some .local:=by first | exact .inl rfl | exact .inr rfl | assumption) :
 PS X (.Assign [.Name x pos'] e pos) (RSg X.K μ (EY i f)):=CA (Od hN hi hx he hs hf) λ_ _ _ q=>RS.own q
theorem AV {i:Nat}(hN:X.N.Nodup)(hi:X.N[i]?=some x)(hx:Loc X.env.scope x)(hf:X.fn x=true\/X.env.scope.names.lookup x=some .local:=by first | exact .inl rfl | exact .inr rfl | assumption):PG X (.Name x pos) (RG X.K (By i)):=
 M9 (VR hN hi hx hf) λv σ H Q z9=>by
  obtain ⟨Oo,c,t,d,fi,rv,t',eq,k⟩:=z9
  cases eq
  exact k _ H c (fi.set rv) .refl
def Dc (f:M D)(g:D->M Unit):M Out:=bnd f λd=>bnd (g d) λ_=>ret .next
theorem CF {g:D->M Unit}(he:PE X e (RE X.K f))(hg:PG X tg (RG X.K g))(hs:swapsWithSole [tg] e pos.line X.env=pure false:=by rfl)(hw:swappedStores [tg] e X.env=pure none:=by rfl)(hp:(assignEach [tg] X.env).map (·.2)=[assign tg X.env]:=by rfl) :
 PS X (.Assign [tg] e pos) (RSg X.K μ (Dc f g)):=
 CA (by first | exact Sj he hg hs hw | exact Sj he hg hs hw hp) λE σ H z9=>by
  obtain ⟨Oo,c,t,fi,o,t',eq,k⟩:=z9;obtain ⟨d,t1,e1,eq⟩:=Aw eq;obtain ⟨u,t2,e2,eq⟩:=Aw eq
  cases eq
  exact ⟨Oo,c,t,fi,d,t1,e1,λv H1 c1 f1 s1 rv=>⟨Oo,c1,t1,d,f1,rv,_,e2,λσ2 H2 c2 f2 s2=>k σ2 H2 c2 f2 (s1.trans s2)⟩⟩
def RGs (K:PySem.W.Frag)(f:List D->M Unit):TGs:=λvs σ H Q=>∃Oo c t ds,FInv K Oo c t σ H/\Reps K c H vs ds/\∃t',f ds t=some ((),t')/\∀σ' H' c',FInv K Oo c' t' σ' H'->Stp Oo c H c' H'->Q σ' H'
theorem O2 {ts:List Expr}{t t':TGs}(h:PGs X ts t)(i:∀v σ H Q,t' v σ H Q->t v σ H Q):PGs X ts t':=λpins s σ H vs us Q I r q=>h pins s σ H vs us Q I r (i vs σ H Q q)
def Ev:List D->M Unit
 | []=>ret ()
 | _=>fail
def B3 (f:D->M Unit)(g:List D->M Unit):List D->M Unit
 | d :: ds=>bnd (f d) λ_=>g ds
 | []=>fail
theorem E3:PGs X [] (RGs X.K Ev):=O2 VS λvs σ H Q z9=>by
 obtain ⟨Oo,c,t,ds,fi,rv,t',eq,k⟩:=z9
 cases rv with
 | nil=>cases eq;exact ⟨rfl,k σ H c fi .refl⟩
 | cons _ _=>cases eq
theorem RGs.cons {K:PySem.W.Frag}{f:D->M Unit}{g:List D->M Unit}{vs:List V}{σ:L2.St}{H:Hp}{Q:L2.St->Hp->Prop}(q:RGs K (B3 f g) vs σ H Q):UC (RG K f) (RGs K g) vs σ H Q:=by
 obtain ⟨Oo,c,t,ds,fi,rv,t',eq,k⟩:=q
 cases rv with
 | nil=>cases eq
 | cons r rs=>
   obtain ⟨u,t1,e1,eq⟩:=Aw eq;exact ⟨_,_,rfl,Oo,c,t,_,fi,r,t1,e1,λσ1 H1 c1 f1 s1=>⟨Oo,c1,t1,_,f1,rs.mono s1.ext,t',eq,λσ2 H2 c2 f2 s2=>k σ2 H2 c2 f2 (s1.trans s2)⟩⟩
def unT (n:Nat)(g:List D->M Unit):D->M Unit
 | .tup ds=>if ds.length=n then g ds else fail
 | _=>fail
def Ed (st:D->M Unit)(b:M Out):List D->M Out
 | []=>ret .next
 | d :: r=>λt=>match st d t with
   | none=>none
   | some (_,t1)=>match b t1 with
     | some (.next,t2)=>Ed st b r t2
     | some (.cont,t2)=>Ed st b r t2
     | some (.brk,t2)=>some (.next,t2)
     | some (.ret x,t2)=>some (.ret x,t2)
     | none=>none
def C9 (f:M (List D))(st:D->M Unit)(b:M Out):M Out:=bnd f λds=>Ed st b ds
theorem RS.for {f:M (List D)}{g:D->M Unit}{b:M Out}{E:Ends}(q:RSg K μ (C9 f g b) E σ H):Yh (RI K f) (RG K g) (RSg K μ b) E σ H:=by
 obtain ⟨Oo,c,t,fi,o,t',eq,k⟩:=q;obtain ⟨ds,t1,e1,eq⟩:=Aw eq;refine ⟨Oo,c,t,fi,ds,t1,e1,λJ H1 c1 f1 s1 it=>?_⟩;refine ⟨λi m σ' H'=>m=ds.length - i/\i<=ds.length/\∃c' t2,FInv K Oo c' t2 σ' H'/\Stp Oo c1 H1 c' H'/\Ed g b (ds.drop i) t2=some (o,t'),⟨_,rfl,un0 _,c1,t1,f1,.refl,by rw [uk3];exact eq⟩,?_⟩;rintro i m σ' H' ⟨rfl,hi,c',t2,f2,s2,e2⟩
 by_cases hlt:i < ds.length
 ·refine .inr ⟨it.go c' H' i s2.ext hlt,λσ3 H3=>∃c3 t3,FInv K Oo c3 t3 σ3 H3/\Stp Oo c1 H1 c3 H3/\Ed g b (ds.drop (i + 1)) t3=some (o,t'),λσ3 H3 h=>⟨ds.length - (i + 1),by lia,rfl,hlt,h⟩,λx H'' hy=>?_⟩;obtain ⟨rfl,rx⟩:=it.yld c' H' i x H'' _ s2.ext (ub6 hlt) hy;rw [ub3 hlt] at e2;unfold Ed at e2
  cases e3:g ds[i] t2 with
  | none=>rw [e3] at e2;cases e2
  | some p=>
    obtain ⟨u,t3⟩:=p;rw [e3] at e2
    try dsimp only at e2
    refine ⟨Oo,c',t2,_,f2,rx,t3,e3,λσ3 H3 c3 f3 s3=>?_⟩
    cases e4:b t3 with
    | none=>rw [e4] at e2;cases e2
    | some p=>
      obtain ⟨o4,t4⟩:=p;rw [e4] at e2
      try dsimp only at e2
      refine ⟨Oo,c3,t3,f3,o4,t4,e4,λσ5 H5 c5 f5 s5=>?_⟩;have s':=(s2.trans s3).trans s5
      cases o4 with
      | next=>exact ⟨c5,t4,f5,s',e2⟩
      | cont=>exact ⟨c5,t4,f5,s',e2⟩
      | brk=>cases e2;exact k σ5 H5 c5 f5 (s1.trans s')
      | ret r=>cases e2;exact k σ5 H5 c5 f5 (s1.trans s')
 ·have hi':i=ds.length:=by lia
  subst hi';rw [List.drop_length] at e2
  cases e2
  exact .inl ⟨it.stop c' H' s2.ext,k σ' H' c' f2 (s1.trans s2)⟩
theorem CP {μ:Cf->Hp->D->(V->Hp->Prop)->Prop}{tg iter:Expr}{body:List Stmt}{f:M (List D)}{g:D->M Unit}{b:M Out}(hp:PassesOwn (model X.prog X.w) X.A X.env X.xe)(hc:X.calm=true)(hi:PI X tg iter (RI X.K f))(hg:PG X tg (RG X.K g))(hb:PSs X body (RSg X.K μ b))
 (hs:∀x,foldedSetIterable iter X.env x=pure x:=by intro _;rfl):PS X (.For tg iter body [] pos) (RSg X.K μ (C9 f g b)):=
 CA (XF hp hc hi hg hb hs) λ_ _ _ q=>RS.for q
theorem ItOk.lst {K:PySem.W.Frag}{c:Cf}{H:Hp}{p:Addr}{ds:List D}(r:∀c' H',Ext c H c' H'->∃vs,SqL K H' p vs/\Reps K c' H' vs ds):ItOk K (Itl K p) c H ds:=by
 refine ⟨λc' H' i ex hi=>?_,λc' H' i x H'' d ex hd hy=>?_,λc' H' ex=>?_⟩
 ·obtain ⟨vs,h1,h2⟩:=r c' H' ex;obtain ⟨v,e,_⟩:=h2.at (ub6 hi);exact ⟨vs,v,h1,e⟩
 ·obtain ⟨vs,h1,h2⟩:=r c' H' ex;obtain ⟨rfl,h⟩:=hy;exact ⟨rfl,h2.get (h vs h1) hd⟩
 ·obtain ⟨vs,h1,h2⟩:=r c' H' ex;exact ⟨vs,h1,by rw [h2.length];exact um9 _⟩
theorem ItOk.tup {K:PySem.W.Frag}{c:Cf}{H:Hp}{p:Addr}{ds:List D}(r:∀c' H',Ext c H c' H'->∃vs,SqT K H' p vs/\Reps K c' H' vs ds):ItOk K (Itt K p) c H ds:=by
 refine ⟨λc' H' i ex hi=>?_,λc' H' i x H'' d ex hd hy=>?_,λc' H' ex=>?_⟩
 ·obtain ⟨vs,h1,h2⟩:=r c' H' ex;obtain ⟨v,e,_⟩:=h2.at (ub6 hi);exact ⟨vs,v,h1,e⟩
 ·obtain ⟨vs,h1,h2⟩:=r c' H' ex;obtain ⟨rfl,h⟩:=hy;exact ⟨rfl,h2.get (h vs h1) hd⟩
 ·obtain ⟨vs,h1,h2⟩:=r c' H' ex;exact ⟨vs,h1,by rw [h2.length];exact um9 _⟩
end
theorem FInv.leave {Oo:Addr->Prop}(f:FInv K Oo c t σ H):SInv K ⟨c.ι,Oo⟩ t.S H/\Ext c H ⟨c.ι,Oo⟩ H:=by
 have ext:Ext c H ⟨c.ι,Oo⟩ H:=⟨λ_ _ e _=>e,λb o _ z=>z.elim .inl λw=>.inr (f.sub b w),λ_ _ e=>e⟩;exact ⟨⟨f.s.len,f.s.nd,λk a o e1 e2=>(f.s.obs k a o e1 e2).mono ext rfl,λb z=>f.s.trk b (f.sub b z),λb z=>f.s.dis b (f.sub b z)⟩,ext⟩
noncomputable def env0 (m:Nat)(ds:List D):List (Option Sl):=ds.map (λd=>some (.val d))++List.replicate (m - ds.length) none
def fnOf (n m:Nat)(g:M Out):Fn:=λds S=>if ds.length=n then (match g ⟨env0 m ds,S⟩ with
 | some (.ret r,t)=>some (r,t.S)
 | some (.next,t)=>some (.non,t.S)
 | _=>none) else none
theorem Hl {ds:List D}{N:List Str}(s:SInv K c S H)(r:Reps K c H vs ds):FInv K c.O c ⟨env0 N.length ds,S⟩ (L2.DK N vs) H:=by
 have hlen:vs.length=ds.length:=r.length;have none_:∀{i:Nat} {x:Sl},(env0 N.length ds)[i]?=some (some x)->∃d,ds[i]?=some d/\x = .val d:=λ{i x} q=>by
  unfold env0 at q
  by_cases hi:i < ds.length
  ·rw [ub2 (by simpa using hi),ug2,ub6 hi] at q;simp at q;exact ⟨ds[i],ub6 hi,q.symm⟩
  ·rw [ua7 (by simpa using hi),ub8] at q
   split at q <;> simp at q
 refine ⟨s,by simp [env0,L2.DK,hlen],λ_ z=>z,λi d q=>?_,λi es q=>?_,λi j es _ a q _ _ _=>?_⟩
 ·obtain ⟨d',h1,h2⟩:=none_ q
  cases h2
  obtain ⟨v,h3,h4⟩:=r.at h1;refine ⟨v,?_,h4⟩;unfold L2.DK;have hi:=(ub1.mp h3).1;rw [ub2 (by simpa using hi),ug2,h3];rfl
 ·obtain ⟨_,_,h2⟩:=none_ q;cases h2
 ·obtain ⟨_,_,h2⟩:=none_ q;cases h2
theorem YG {P:Program}{w:World}{mg:Str->Option Value}{base:Heap}{qual:Str}{st:Stmt}{fa:Addr}{fd:FuncData}{N ps:List Str}{k:Nat}{g:M Out}(F:Fun K x qual st fa fd)(S:FnScope N ps (Ao st))
 (hb:∀(cdv:Value) (A:Around) (outer:List Env) (s:Shared) (H:Hp) (E:XK),Room k (A.deeper (PyProof.Rows.envOfC qual (Ao st) s.heap.objs.size fa cdv))->
   PSs (Em CX0 P w K mg base N qual (Ao st) fa cdv A outer s H E).nox (Ca st) (RS K g)):FnOk P w K mg base CX0 (k + 1) fa fd ps (spF K (fnOf ps.length N.length g)):=by
 have hlen:∀{ds:List D} {S:List Ob} {z:D×List Ob},fnOf ps.length N.length g ds S=some z->ds.length=ps.length:=λ{ds S z} h=>by
  unfold fnOf at h
  split at h
  ·next h1=>exact h1
  ·cases h
 refine F.ok S (λvs H Q E h=>?_) (λcdv A outer s H vs Q E hr h=>?_)
 ·obtain ⟨c,ds,S,si,rs,r,S',e,_⟩:=h;rw [rs.length];exact hlen e
 obtain ⟨c,ds,S0,si,rs,r,S',e,kk⟩:=h;refine ⟨RS K g,hb cdv A outer s H E hr,?_⟩;have hl:=hlen e;unfold fnOf at e;rw [if_pos hl] at e
 cases eg:g ⟨env0 N.length ds,S0⟩ with
 | none=>rw [eg] at e;cases e
 | some p=>
   obtain ⟨o,t⟩:=p;rw [eg] at e;refine ⟨c.O,c,_,Hl si rs,o,t,eg,λσ' H' c' f' s'=>?_⟩;obtain ⟨si',ext'⟩:=f'.leave;have st':Stp c.O c H ⟨c'.ι,c.O⟩ H':=⟨s'.ext.trans ext',s'.oo⟩
   cases o with
   | next=>cases e;exact kk .non H' _ si' st' (λ_=>Iff.rfl) .non
   | ret d=>cases e;exact λv rv=>kk v H' _ si' st' (λ_=>Iff.rfl) (rv.mono ext')
   | brk=>cases e
   | cont=>cases e
variable {fr:List Nat}
section
variable {X:Cx}{e a b:Expr}{pos:Pos}
def items:D->M (List D)
 | .lst ds=>ret ds
 | .tup ds=>ret ds
 | .scr ns=>ret (ns.map .int)
 | _=>fail
noncomputable def rngL (lo:Int)(n:Nat):List D:=(List.range n).map λi=>.int (lo + (i:Nat))
theorem ItOk.rng {lo:Int}:ItOk K (Itr lo n) c H (rngL lo n):=by
 refine ⟨λc' H' i ex hi=>?_,λc' H' i x H'' d ex hd hy=>?_,λc' H' ex=>?_⟩
 ·have:i < n:=by simpa [rngL] using hi
  exact this
 ·obtain ⟨rfl,rfl⟩:=hy;refine ⟨rfl,?_⟩;have hi:i < n:=by
   have:=(ub1.mp hd).1;simpa [rngL] using this
  have:d = .int (lo + (i:Nat)):=by
   rw [rngL,ug2,List.getElem?_range hi] at hd;simpa using hd.symm
  rw [this];exact .int _
 ·show n<=(rngL lo n).length;simp [rngL]
noncomputable def C8 (i:Int):Bool:=decide (-(2 ^ 62)<=i) && decide (i < 2 ^ 62)
def LX:List D->M (List D)
 | [.int j]=>λt=>if C8 j=true then some (rngL 0 j.toNat,t) else none
 | _=>fail
def LY:List D->M (List D)
 | [.int i,.int j]=>λt=>if (C8 i && C8 j)=true then some (rngL i (j - i).toNat,t) else none
 | _=>fail
def CJ (f:M (List D)):M (List D):=bnd f LX
def FY (f:M (List D)):M (List D):=bnd f LY
theorem Fa (h:C8 i=true) : -(2 ^ 62)<=i/\i < 2 ^ 62:=by
 unfold C8 at h;rw [uh4] at h;exact ⟨uh0 h.1,uh0 h.2⟩
theorem Ri {f:M (List D)}(hg:Gl X "range")(hm:X.mg "range" = none)(ha:PA X [a] (RA X.K f))(hs:starEach [a] X.env=[(false,eval a X.env)]:=by rfl):PI X tg (.Call (.Name "range" p) [a] [] pos) (RI X.K (CJ f)):=
 Na (Se hg hm ha hs) λσ H R z9=>by
  obtain ⟨Oo,c,t,fi,ds,t',eq,k⟩:=z9;obtain ⟨xs,t1,e1,eq⟩:=Aw eq;refine ⟨Oo,c,t,fi,xs,t1,e1,λvs H1 c1 f1 s1 rv=>?_⟩;unfold LX at eq
  split at eq
  ·next j=>
   split at eq
   ·next hs=>
    cases eq
    cases rv with
    | cons r rs=>
      cases rs
      cases r
      obtain ⟨h1,h2⟩:=Fa hs;exact ⟨j,rfl,h1,h2,k _ H1 c1 f1 s1 ItOk.rng⟩
   ·cases eq
  ·cases eq
theorem Rj {f:M (List D)}(hg:Gl X "range")(hm:X.mg "range" = none)(ha:PA X [a,b] (RA X.K f))(hs:starEach [a,b] X.env=[(false,eval a X.env),(false,eval b X.env)]:=by rfl)(hs2:starEach [b] X.env=[(false,eval b X.env)]:=by rfl):PI X tg (.Call (.Name "range" p) [a,b] [] pos) (RI X.K (FY f)):=
 Na (Sf hg hm ha hs hs2) λσ H R z9=>by
  obtain ⟨Oo,c,t,fi,ds,t',eq,k⟩:=z9;obtain ⟨xs,t1,e1,eq⟩:=Aw eq;refine ⟨Oo,c,t,fi,xs,t1,e1,λvs H1 c1 f1 s1 rv=>?_⟩;unfold LY at eq
  split at eq
  ·next i j=>
   split at eq
   ·next hs=>
    cases eq
    rw [uh4] at hs
    cases rv with
    | cons r rs=>
      cases r
      cases rs with
      | cons r rs=>
        cases rs
        cases r
        obtain ⟨h1,h2⟩:=Fa hs.1;obtain ⟨h3,h4⟩:=Fa hs.2;exact ⟨i,j,rfl,⟨h1,h2,h3,h4⟩,k _ H1 c1 f1 s1 ItOk.rng⟩
   ·cases eq
  ·cases eq
def Do (st:D->M Unit)(tst:M Bool)(elt:M D):List D->M (List D)
 | []=>ret []
 | d :: r=>bnd (st d) λ_=>bnd tst λk=>if k=true then bnd elt λx=>bnd (Do st tst elt r) λxs=>ret (x :: xs) else Do st tst elt r
noncomputable def Y9:Option (Option Sl)->Option Sl
 | some (some (.val d))=>some (.val d)
 | _=>none
def cenv (n:Nat)(fr:List Nat)(env:List (Option Sl)):List (Option Sl):=List.replicate n none++fr.map λi=>Y9 env[i]?
noncomputable def H9 (n:Nat)(fr:List Nat)(σ:L2.St):L2.St:=List.replicate n none++fr.map λi=>(σ[i]?).join
def DX (n:Nat)(fr:List Nat)(f:M (List D))(st:D->M Unit)(tst:M Bool)(elt:M D):M (List D):=bnd f λds t=>match Do st tst elt ds ⟨cenv n fr t.env,t.S⟩ with
 | some (xs,t')=>if xs.length<=LIM then some (xs,{ t with S:=t'.S }) else none
 | none=>none
theorem JE {env:List (Option Sl)}{x:Sl}(h:(cenv n fr env)[j]?=some (some x)):∃i d,n<=j/\fr[j - n]?=some i/\env[i]?=some (some (.val d))/\x = .val d:=by
 unfold cenv at h
 by_cases hj:j < n
 ·rw [ub2 (by simpa using hj),ub8] at h
  split at h <;> simp at h
 ·rw [ua7 (by simpa using hj),ud2,ug2] at h
  cases e:fr[j - n]? with
  | none=>rw [e] at h;simp at h
  | some i=>
    rw [e] at h;simp only [uj4,ug8] at h
    cases e2:env[i]? with
    | none=>rw [e2] at h;cases h
    | some o=>
      cases o with
      | none=>rw [e2] at h;cases h
      | some sl=>
        cases sl with
        | own _=>rw [e2] at h;cases h
        | val d=>rw [e2] at h;cases h;exact ⟨i,d,by lia,rfl,e2,rfl⟩
theorem Qb {Oo:Addr->Prop}(f:FInv K Oo c t σ H):FInv K c.O c ⟨cenv n fr t.env,t.S⟩ (H9 n fr σ) H:=by
 refine ⟨f.s,by simp [cenv,H9],λ_ z=>z,λj d q=>?_,λj es q=>?_,λj _ es _ _ q _ _ _=>?_⟩
 ·obtain ⟨i,d',h0,h1,h2,h3⟩:=JE q
  cases h3
  obtain ⟨v,h4,h5⟩:=f.val i d h2;refine ⟨v,?_,h5⟩;unfold H9;rw [ua7 (by simpa using h0),ud2,ug2,h1];simp [h4]
 ·obtain ⟨_,_,_,_,_,h⟩:=JE q;cases h
 ·obtain ⟨_,_,_,_,_,h⟩:=JE q;cases h
theorem RF.comp {f:M (List D)}{st:D->M Unit}{tst:M Bool}{elt:M D}{Q:VK}(q:RF K (DX n fr f st tst elt) σ H Q):UP (RI K f) (RG K st) (RT K tst) (RE K elt) (H9 n fr) σ H Q:=by
 obtain ⟨Oo,c,t,fi,xs,t',eq,k⟩:=q;obtain ⟨ds,t1,e1,eq⟩:=Aw eq;refine ⟨Oo,c,t,fi,ds,t1,e1,λJ H1 c1 f1 s1 it=>?_⟩
 cases e3:Do st tst elt ds ⟨cenv n fr t1.env,t1.S⟩ with
 | none=>rw [e3] at eq;cases eq
 | some p=>
   obtain ⟨ys,t3⟩:=p;rw [e3] at eq;dsimp only at eq
   split at eq
   case isFalse=>cases eq
   next hl=>
   cases eq
   refine ⟨λi m acc σ' H'=>m=ds.length - i/\i<=ds.length/\∃c' t2 zs rest,FInv K c1.O c' t2 σ' H'/\Stp c1.O c1 H1 c' H'/\Reps K c' H' acc zs/\Do st tst elt (ds.drop i) t2=some (rest,t3)/\xs=zs++rest,
    ⟨_,rfl,un0 _,c1,_,[],xs,Qb f1,.refl,.nil,by rw [uk3];exact e3,rfl⟩,?_⟩
   rintro i m acc σ' H' ⟨rfl,hi,c',t2,zs,rest,f2,s2,ra,e2,ez⟩;have hacc:acc.length<=sizeLine:=by
    have:zs.length<=xs.length:=by rw [ez,uf5];exact uh7 _ _
    rw [ra.length];exact ul7 this (ul7 hl Di)
   refine ⟨hacc,?_⟩
   by_cases hlt:i < ds.length
   ·refine .inr ⟨it.go c' H' i s2.ext hlt,λx H'' hy=>?_⟩;obtain ⟨rfl,rx⟩:=it.yld c' H' i x H'' _ s2.ext (ub6 hlt) hy;rw [ub3 hlt] at e2;unfold Do at e2;obtain ⟨u,t4,e4,e2⟩:=Aw e2;obtain ⟨kb,t5,e5,e2⟩:=Aw e2;refine ⟨c1.O,c',t2,_,f2,rx,t4,e4,λσ3 H3 c3 f3 s3=>⟨c1.O,c3,t4,f3,kb,t5,e5,λH4 c4 f4 s4=>?_⟩⟩
    cases kb with
    | false=>
      rw [if_neg uf2] at e2 ⊢;exact ⟨ds.length - (i + 1),by lia,rfl,hlt,c4,t5,zs,rest,f4,(s2.trans s3).trans s4,ra.mono (s3.trans s4).ext,e2,ez⟩
    | true=>
      rw [if_pos rfl] at e2 ⊢;obtain ⟨x6,t6,e6,e2⟩:=Aw e2;obtain ⟨r7,t7,e7,e2⟩:=Aw e2
      cases e2
      refine ⟨c1.O,c4,t5,f4,x6,t6,e6,λv H5 c5 f5 s5 rv=>?_⟩;exact ⟨ds.length - (i + 1),by lia,rfl,hlt,c5,t6,zs++[x6],r7,f5,((s2.trans s3).trans s4).trans s5,(ra.mono ((s3.trans s4).trans s5).ext).append (.cons rv .nil),e7,by rw [ez,ug5];rfl⟩
   ·have hi':i=ds.length:=by lia
    subst hi';rw [List.drop_length] at e2
    cases e2
    refine .inl ⟨it.stop c' H' s2.ext,λp hp _=>?_⟩;obtain ⟨si,ext⟩:=f2.leave;obtain ⟨f6,s6⟩:=f1.after si ⟨s2.ext.trans ext,s2.oo⟩ (λ_=>Iff.rfl);rw [ui6] at ez;subst ez;exact k p acc H' _ f6 (s1.trans s6) (ra.mono ext) hp
end
end F2
namespace F2
open PySem L2 PySem.Spec PySem.SeqAt
noncomputable def eq0:D->D->Option Bool
 | .int a,.int b=>some (a == b)
 | .str a,.str b=>some (a == b)
 | .bl a,.bl b=>some (a == b)
 | .non,.non=>some true
 | .int _,.str _=>some false
 | .str _,.int _=>some false
 | _,_=>none
noncomputable def Ec (f:D->D->Option Bool):List D->List D->Option Bool
 | x :: xs,y :: ys=>match f x y,Ec f xs ys with
   | some a,some b=>some (a && b)
   | _,_=>none
 | _,_=>some true
def eqN:Nat->D->D->Option Bool
 | 0,x,y=>eq0 x y
 | n + 1,.tup xs,.tup ys=>(Ec (eqN n) xs ys).map λb=>b && xs.length == ys.length
 | n + 1,.lst xs,.lst ys=>if xs.length=ys.length then Ec (eqN n) xs ys else some false
 | _ + 1,x,y=>eq0 x y
noncomputable def ej (f:D->D->Option Bool)(xs ys:List D)(j:Nat):Bool:=match xs[j]?,ys[j]? with
 | some d,some e=>(f d e).getD true
 | _,_=>true
theorem En {f:D->D->Option Bool}:∀{xs ys:List D} {b:Bool},Ec f xs ys=some b->b=(List.range (min xs.length ys.length)).all (ej f xs ys)/\∀(j:Nat) d e,xs[j]?=some d->ys[j]?=some e->∃k,f d e=some k
 | [],ys,b,h=>by
   have h:some true=some b:=by simpa [Ec] using h
   cases h
   refine ⟨by simp,λj d e q _=>by simp at q⟩
 | x :: xs,[],b,h=>by
   have h:some true=some b:=by simpa [Ec] using h
   cases h
   refine ⟨by simp,λj d e _ q=>by simp at q⟩
 | x :: xs,y :: ys,b,h=>by
   unfold Ec at h
   cases e1:f x y with
   | none=>rw [e1] at h;cases h
   | some a=>
     cases e2:Ec f xs ys with
     | none=>rw [e1,e2] at h;cases h
     | some c=>
       rw [e1,e2] at h
       cases h
       obtain ⟨h1,h2⟩:=En e2;refine ⟨?_,λj d e q1 q2=>?_⟩
       ·have hm:min (x :: xs).length (y :: ys).length=min xs.length ys.length + 1:=by simp [Nat.succ_min_succ]
        rw [hm,List.range_succ_eq_map,uk8,List.all_map,h1];have:ej f (x :: xs) (y :: ys) 0=a:=by simp [ej,e1]
        rw [this];rfl
       ·cases j with
        | zero=>simp at q1 q2;subst q1 q2;exact ⟨a,e1⟩
        | succ j=>exact h2 j d e (by simpa using q1) (by simpa using q2)
variable {P:Program}{w:World}{H:Hp}{vs:List V}
theorem Ho {h:Heap}{a:Addr}(o:HOk P w H h)(e:H a=some (.lst vs)):∃its:List Value,Vals vs its/\h.IsList a its.toArray:=by
 obtain ⟨_,its,n,r,q⟩:=o a _ e;exact ⟨its,r,_,q,rfl,n,rfl⟩
theorem IR {h:Heap}{a:Addr}(o:HOk P w H h)(e:H a=some (.tup vs)):∃its:List Value,Vals vs its/\h.IsTuple a its.toArray:=by
 obtain ⟨_,its,r,q⟩:=o a _ e;exact ⟨its,r,q⟩
theorem Lf {its:List Value}{j:Nat}(r:Vals vs its)(h:j < its.toArray.size):∃v,vs[j]?=some v/\RelV v its.toArray[j]:=by
 have h':j < its.length:=by simpa using h
 have hl:j < vs.length:=by rw [r.length];exact h'
 obtain ⟨u,e1,e2⟩:=r.get (ub6 hl);refine ⟨vs[j],ub6 hl,?_⟩;rw [ub6 h'] at e1
 cases e1
 simpa using e2
variable {b:Bool}
theorem Q9 {f:D->D->Option Bool}{xs ys:List D}(h:Ec f xs ys=some b)(ht:∀(j:Nat) d e k,xs[j]?=some d->ys[j]?=some e->f d e=some k->k=true):b=true:=by
 obtain ⟨h1,h2⟩:=En h;rw [h1,uh8];intro j hj;have hj':=uk0.mp hj;have l1:j < xs.length:=by lia
 have l2:j < ys.length:=by lia
 obtain ⟨k,ek⟩:=h2 j _ _ (ub6 l1) (ub6 l2);have:=ht j _ _ k (ub6 l1) (ub6 l2) ek;unfold ej;rw [ub6 l1,ub6 l2];simp [ek,this]
theorem Ia {x y:D}(e:eq0 x y=some b):(∃i j,x = .int i/\y = .int j/\(i == j)=b)\/(∃i j,x = .str i/\y = .str j/\(i == j)=b)\/(∃i j,x = .bl i/\y = .bl j/\(i == j)=b)\/(x = .non/\y = .non/\true=b)\/(∃i j,x = .int i/\y = .str j/\false=b)\/(∃i j,x = .str i/\y = .int j/\false=b):=by
 unfold eq0 at e
 split at e
 ·cases e;exact .inl ⟨_,_,rfl,rfl,rfl⟩
 ·cases e;exact .inr (.inl ⟨_,_,rfl,rfl,rfl⟩)
 ·cases e;exact .inr (.inr (.inl ⟨_,_,rfl,rfl,rfl⟩))
 ·cases e;exact .inr (.inr (.inr (.inl ⟨rfl,rfl,rfl⟩)))
 ·cases e;exact .inr (.inr (.inr (.inr (.inl ⟨_,_,rfl,rfl,rfl⟩))))
 ·cases e;exact .inr (.inr (.inr (.inr (.inr ⟨_,_,rfl,rfl,rfl⟩))))
 ·cases e
theorem Ib {n:Nat}{x y:D}(e:eqN n x y=some b):eq0 x y=some b\/(∃m xs ys,n=m + 1/\x = .lst xs/\y = .lst ys/\(if xs.length=ys.length then Ec (eqN m) xs ys else some false)=some b)\/∃m xs ys b',n=m + 1/\x = .tup xs/\y = .tup ys/\Ec (eqN m) xs ys=some b'/\(b' && xs.length == ys.length)=b:=by
 unfold eqN at e
 split at e
 ·exact .inl e
 ·obtain ⟨b',e1,e2⟩:=uc8.mp e;exact .inr (.inr ⟨_,_,_,b',rfl,rfl,rfl,e1,e2⟩)
 ·exact .inr (.inl ⟨_,_,_,rfl,rfl,rfl,e⟩)
 ·exact .inl e
variable {K:PySem.W.Frag}{c:Cf}
theorem Pd:∀(n:Nat) {v:V} {d e:D} {b:Bool},Rep K c H v d->Rep K c H v e->eqN n d e=some b->b=true
 :=by
  intro n
  induction n using Nat.strongRecOn with
  | ind n ih=>
  intro v d e b rd re q;have items:∀{m:Nat} {vs:List V} {ds es:List D} {b':Bool},n=m + 1->Reps K c H vs ds->Reps K c H vs es->Ec (eqN m) ds es=some b'->b'=true:=λ{m vs ds es b'} hm r1 r2 e'=>
   Q9 e' λj d e k q1 q2 ek=>by
    obtain ⟨v,g1,g2⟩:=r1.at q1;exact ih m (by lia) g2 (r2.get g1 q2) ek
  rcases Ib q with q0 | ⟨m,ds,es,hm,rfl,rfl,q0⟩ | ⟨m,ds,es,b',hm,rfl,rfl,q1,q2⟩
  ·rcases Ia q0 with ⟨i,j,rfl,rfl,rfl⟩ | ⟨i,j,rfl,rfl,rfl⟩ | ⟨i,j,rfl,rfl,rfl⟩ | ⟨rfl,rfl,rfl⟩ | ⟨i,j,rfl,rfl,rfl⟩ | ⟨i,j,rfl,rfl,rfl⟩
   ·cases rd;cases re;simp
   ·cases rd;cases re;simp
   ·cases rd;cases re;simp
   ·cases rd;cases re;rfl
   ·cases rd;cases re
   ·cases rd;cases re
  ·cases rd with
   | lst h1 h2 h3=>
     cases re with
     | lst g1 g2 g3=>
       rw [h1] at g1;cases g1
       rw [if_pos (h3.length.symm.trans g3.length)] at q0;exact items hm h3 g3 q0
  ·cases rd with
   | tup h1 h2 h3=>
     cases re with
     | tup g1 g2 g3=>
       rw [h1] at g1;cases g1
       rw [<-q2,items hm h3 g3 q1,h3.length.symm.trans g3.length];simp
theorem Pc {s:Shared}(hok:HOk P w H s.heap):∀(n:Nat) {A:Around} {x y:V} {u v:Value} {dx dy:D} {b:Bool},RelV x u->RelV y v->Rep K c H x dx->Rep K c H y dy->eqN n dx dy=some b->A.units + n < cLine->
 RcAt A s u v b/\(EqAt A s u v b)
 :=by
  intro n
  induction n using Nat.strongRecOn with
  | ind n ih=>
  intro A x y u v dx dy b ru rv rx ry e hu;have items:∀{m:Nat} {vs ws:List V} {is js:List Value} {ds es:List D} {b':Bool},n=m + 1->Vals vs is->Vals ws js->Reps K c H vs ds->Reps K c H ws es->Ec (eqN m) ds es=some b'->
   ∀j (h1:j < is.toArray.size) (h2:j < js.toArray.size),EqAt A.in1 s is.toArray[j] js.toArray[j] (ej (eqN m) ds es j):=λ{m vs ws is js ds es b'} hm r1 r2 q1 q2 e' j h1 h2=>by
   obtain ⟨v1,a1,a2⟩:=Lf r1 h1;obtain ⟨v2,b1,b2⟩:=Lf r2 h2;obtain ⟨l1,g1⟩:=ub1.mp a1;obtain ⟨l2,g2⟩:=ub1.mp b1;have k1:ds[j]?=some (ds[j]'(by rw [<-q1.length];exact l1)):=ub6 _;have k2:es[j]?=some (es[j]'(by rw [<-q2.length];exact l2)):=ub6 _;obtain ⟨kk,ek⟩:=(En e').2 j _ _ k1 k2;have:ej (eqN m) ds es j=kk:=by unfold ej;rw [k1,k2];simp [ek]
   rw [this];have hu':A.in1.units + m < cLine:=by
    have:A.in1.units=A.units + 1:=by first | rfl | exact Around.units_in1 _ | simp [Around.in1,Around.units]
    lia
   exact (ih m (by lia) a2 b2 (q1.get a1 k1) (q2.get b1 k2) ek hu').2
  have hu0:A.units < cLine:=by lia
  have conc:∀{p q:Addr} {k:Bool},p≠q->RcAt A s (.ref p) (.ref q) k->RcAt A s (.ref p) (.ref q) k/\EqAt A s (.ref p) (.ref q) k:=λhn h=>⟨h,EqAt.of_refs hn h⟩;rcases Ib e with e0 | ⟨m,ds,es,hm,rfl,rfl,e0⟩ | ⟨m,ds,es,b',hm,rfl,rfl,e1,e2⟩
  ·rcases Ia e0 with ⟨i,j,rfl,rfl,rfl⟩ | ⟨i,j,rfl,rfl,rfl⟩ | ⟨i,j,rfl,rfl,rfl⟩ | ⟨rfl,rfl,rfl⟩ | ⟨i,j,rfl,rfl,rfl⟩ | ⟨i,j,rfl,rfl,rfl⟩
   ·cases rx;cases ry;obtain ⟨t',rfl⟩:=ru;obtain ⟨t,rfl⟩:=rv;exact ⟨RcAt.int_int _ _ _ _,EqAt.int_int _ _ _ _⟩
   ·cases rx;cases ry;obtain ⟨t',rfl⟩:=ru;obtain ⟨t,rfl⟩:=rv;exact ⟨RcAt.str_str _ _ _ _,EqAt.str_str _ _ _ _⟩
   ·cases rx;cases ry;cases ru;cases rv;exact ⟨RcAt.bool_bool _ _,EqAt.bool_bool _ _⟩
   ·cases rx;cases ry;cases ru;cases rv;exact ⟨RcAt.none_none,EqAt.same _⟩
   ·cases rx;cases ry;obtain ⟨t',rfl⟩:=ru;obtain ⟨t,rfl⟩:=rv;exact ⟨RcAt.int_str _ _ _ _,EqAt.int_str _ _ _ _⟩
   ·cases rx;cases ry;obtain ⟨t',rfl⟩:=ru;obtain ⟨t,rfl⟩:=rv;exact ⟨RcAt.str_int _ _ _ _,EqAt.str_int _ _ _ _⟩
  ·cases rx with
   | @lst p vs _ g1 g2 g3=>
   cases ry with
   | @lst q ws _ h1 h2 h3=>
     cases ru
     cases rv
     obtain ⟨is,r1,l1⟩:=Ho hok g1;obtain ⟨js,r2,l2⟩:=Ho hok h1;have hs1:is.toArray.size=ds.length:=by rw [<-g3.length,r1.length];simp
     have hs2:js.toArray.size=es.length:=by rw [<-h3.length,r2.length];simp
     by_cases hl:ds.length=es.length
     ·rw [if_pos hl] at e0;have hsz:is.toArray.size=js.toArray.size:=by rw [hs1,hs2,hl]
      have rc:=RcAt.lists l1 l2 hsz hu0 (items hm r1 r2 g3 h3 e0);have eb:(List.range is.toArray.size).all (ej (eqN m) ds es)=b:=by rw [(En e0).1,hs1,<-hl,Nat.min_self]
      rw [eb] at rc
      by_cases hpq:p=q
      ·refine ⟨rc,?_⟩;subst hpq;rw [Pd n (Rep.lst g1 g2 g3) (Rep.lst h1 h2 h3) e];exact EqAt.same _
      ·exact conc hpq rc
     ·rw [if_neg hl] at e0
      cases e0
      have hsz:(is.toArray.size != js.toArray.size)=true:=by rw [hs1,hs2];simpa using hl
      refine conc (λz=>hl ?_) (RcAt.lists_lengths l1 l2 hsz hu0);subst z;rw [g1] at h1;cases h1
      rw [<-g3.length,<-h3.length]
  ·cases rx with
   | @tup p vs _ g1 g2 g3=>
   cases ry with
   | @tup q ws _ h1 h2 h3=>
     cases ru
     cases rv
     obtain ⟨is,r1,l1⟩:=IR hok g1;obtain ⟨js,r2,l2⟩:=IR hok h1;have hs1:is.toArray.size=ds.length:=by rw [<-g3.length,r1.length];simp
     have hs2:js.toArray.size=es.length:=by rw [<-h3.length,r2.length];simp
     have rc:=RcAt.tuples l1 l2 hu0 (items hm r1 r2 g3 h3 e1);have eb:((List.range (min is.toArray.size js.toArray.size)).all (ej (eqN m) ds es) && is.toArray.size == js.toArray.size)=b:=by rw [hs1,hs2,<-(En e1).1];exact e2
     rw [eb] at rc
     by_cases hpq:p=q
     ·refine ⟨rc,?_⟩;subst hpq;rw [Pd n (Rep.tup g1 g2 g3) (Rep.tup h1 h2 h3) e];exact EqAt.same _
     ·exact conc hpq rc
theorem Vv {s:Shared}(hok:HOk P w H s.heap)(n:Nat){A:Around}{x y:V}{u v:Value}{dx dy:D}{b:Bool}(ru:RelV x u)(rv:RelV y v)(rx:Rep K c H x dx)(ry:Rep K c H y dy)(e:eqN n dx dy=some b)(hu:A.units + n < cLine) :
 RcNeAt A s u v (!b):=by
 have items:∀{m:Nat} {vs ws:List V} {is js:List Value} {ds es:List D} {b':Bool},n=m + 1->Vals vs is->Vals ws js->Reps K c H vs ds->Reps K c H ws es->Ec (eqN m) ds es=some b'->
  ∀j (h1:j < is.toArray.size) (h2:j < js.toArray.size),EqAt A.in1 s is.toArray[j] js.toArray[j] (ej (eqN m) ds es j):=λ{m vs ws is js ds es b'} hm r1 r2 q1 q2 e' j h1 h2=>by
  obtain ⟨v1,a1,a2⟩:=Lf r1 h1;obtain ⟨v2,b1,b2⟩:=Lf r2 h2;obtain ⟨l1,g1⟩:=ub1.mp a1;obtain ⟨l2,g2⟩:=ub1.mp b1;have k1:ds[j]?=some (ds[j]'(by rw [<-q1.length];exact l1)):=ub6 _;have k2:es[j]?=some (es[j]'(by rw [<-q2.length];exact l2)):=ub6 _;obtain ⟨kk,ek⟩:=(En e').2 j _ _ k1 k2;have:ej (eqN m) ds es j=kk:=by unfold ej;rw [k1,k2];simp [ek]
  rw [this];have hu':A.in1.units + m < cLine:=by
   have:A.in1.units=A.units + 1:=rfl;lia
  exact (Pc hok m a2 b2 (q1.get a1 k1) (q2.get b1 k2) ek hu').2
 have hu0:A.units < cLine:=by lia
 rcases Ib e with e0 | ⟨m,ds,es,hm,rfl,rfl,e0⟩ | ⟨m,ds,es,b',hm,rfl,rfl,e1,e2⟩
 ·rcases Ia e0 with ⟨i,j,rfl,rfl,rfl⟩ | ⟨i,j,rfl,rfl,rfl⟩ | ⟨i,j,rfl,rfl,rfl⟩ | ⟨rfl,rfl,rfl⟩ | ⟨i,j,rfl,rfl,rfl⟩ | ⟨i,j,rfl,rfl,rfl⟩
  ·cases rx;cases ry;obtain ⟨t',rfl⟩:=ru;obtain ⟨t,rfl⟩:=rv;exact RcNeAt.int_int _ _ _ _
  ·cases rx;cases ry;obtain ⟨t',rfl⟩:=ru;obtain ⟨t,rfl⟩:=rv;exact RcNeAt.str_str _ _ _ _
  ·cases rx;cases ry;cases ru;cases rv;exact RcNeAt.bool_bool _ _
  ·cases rx;cases ry;cases ru;cases rv;exact RcNeAt.none_none
  ·cases rx;cases ry;obtain ⟨t',rfl⟩:=ru;obtain ⟨t,rfl⟩:=rv;exact RcNeAt.int_str _ _ _ _
  ·cases rx;cases ry;obtain ⟨t',rfl⟩:=ru;obtain ⟨t,rfl⟩:=rv;exact RcNeAt.str_int _ _ _ _
 ·cases rx with
  | @lst p vs _ g1 g2 g3=>
  cases ry with
  | @lst q ws _ h1 h2 h3=>
    cases ru
    cases rv
    obtain ⟨is,r1,l1⟩:=Ho hok g1;obtain ⟨js,r2,l2⟩:=Ho hok h1;have hs1:is.toArray.size=ds.length:=by rw [<-g3.length,r1.length];simp
    have hs2:js.toArray.size=es.length:=by rw [<-h3.length,r2.length];simp
    by_cases hl:ds.length=es.length
    ·rw [if_pos hl] at e0;have hsz:is.toArray.size=js.toArray.size:=by rw [hs1,hs2,hl]
     have rc:=RcNeAt.lists l1 l2 hsz hu0 (items hm r1 r2 g3 h3 e0);rw [show (List.range is.toArray.size).all (ej (eqN m) ds es)=b by rw [(En e0).1,hs1,<-hl,Nat.min_self]] at rc;exact rc
    ·rw [if_neg hl] at e0
     cases e0
     exact RcNeAt.lists_lengths l1 l2 (by rw [hs1,hs2];simpa using hl) hu0
 ·cases rx with
  | @tup p vs _ g1 g2 g3=>
  cases ry with
  | @tup q ws _ h1 h2 h3=>
    cases ru
    cases rv
    obtain ⟨is,r1,l1⟩:=IR hok g1;obtain ⟨js,r2,l2⟩:=IR hok h1;have hs1:is.toArray.size=ds.length:=by rw [<-g3.length,r1.length];simp
    have hs2:js.toArray.size=es.length:=by rw [<-h3.length,r2.length];simp
    have rc:=RcNeAt.tuples l1 l2 hu0 (items hm r1 r2 g3 h3 e1);have eb:((List.range (min is.toArray.size js.toArray.size)).all (ej (eqN m) ds es) && is.toArray.size == js.toArray.size)=b:=by rw [hs1,hs2,<-(En e1).1];exact e2
    rw [eb] at rc;exact rc
def EQD:Nat:=40
def neD (x y:D):M D:=λt=>(eqN EQD x y).map λb=>(.bl (!b),t)
def Qx (K:PySem.W.Frag)(g:Bool->Bool):R2:=λx y H Q=>∃c dx dy b,Rep K c H x dx/\Rep K c H y dy/\eqN EQD dx dy=some b/\Q (.bl (g b)) H
theorem BL {X:Cx}(hu:X.A.units + 64 < cLine):OpR X (compareOp .Eq) (Qx X.K id):=by
 intro pins s σ H x y v u Q I rx ry h;obtain ⟨c,dx,dy,b,q1,q2,e,q⟩:=h;have hu':X.A.units + EQD < cLine:=by unfold EQD;lia
 exact (Pc I.hok EQD rx ry q1 q2 e hu').1 X.prog X.w _ _ ⟨.bl b,H,I,rfl,q⟩
theorem Eu {X:Cx}(hu:X.A.units + 64 < cLine):OpR X (compareOp .NotEq) (Qx X.K (!·)):=by
 intro pins s σ H x y v u Q I rx ry h;obtain ⟨c,dx,dy,b,q1,q2,e,q⟩:=h;have hu':X.A.units + EQD < cLine:=by unfold EQD;lia
 exact Vv I.hok EQD rx ry q1 q2 e hu' X.prog X.w _ _ ⟨.bl (!b),H,I,rfl,q⟩
end F2
set_option maxHeartbeats 4000000
namespace F2
open PySem L2 PySem.Spec
variable {g:Int->Int->D}{t:T}{z:D×T}{X:Cx}{c:Cf}{H:Hp}
section
variable {K:PySem.W.Frag}
def i2 (g:Int->Int->D):D->D->M D
 | .int i,.int j=>ret (g i j)
 | _,_=>fail
theorem W4 {x y:D}(h:i2 g x y t=some z):∃i j,x = .int i/\y = .int j/\z=(g i j,t):=by
 cases x with
 | int i=>cases y with
   | int j=>cases h;exact ⟨i,j,rfl,rfl,rfl⟩
   | _=>cases h
 | _=>cases h
theorem X8 {gV:Int->Int->V}(hr:∀i j c H,Rep K c H (gV i j) (g i j)):Ck K (rI0 gV) (i2 g):=λ{Oo c t σ H x y dx dy r t' Q} f rx ry eq k=>by
 obtain ⟨i,j,rfl,rfl,z⟩:=W4 eq
 cases z
 cases rx
 cases ry
 exact ⟨i,j,rfl,rfl,k _ H c f .refl (hr i j c H)⟩
def i2C (C:Int->Int->Bool)(g:Int->Int->D):D->D->M D
 | .int i,.int j=>λt=>if C i j=true then some (g i j,t) else none
 | _,_=>fail
theorem Vk {C:Int->Int->Bool}{x y:D}(h:i2C C g x y t=some z):∃i j,x = .int i/\y = .int j/\C i j=true/\z=(g i j,t):=by
 cases x with
 | int i=>cases y with
   | int j=>
     unfold i2C at h;dsimp only at h
     by_cases hc:C i j=true
     ·rw [if_pos hc] at h;cases h;exact ⟨i,j,rfl,rfl,hc,rfl⟩
     ·rw [if_neg hc] at h;cases h
   | _=>cases h
 | _=>cases h
theorem Gc {P:Int->Int->Prop}{C:Int->Int->Bool}{gV:Int->Int->V}(hP:∀i j,C i j=true->P i j)(hr:∀i j c H,Rep K c H (gV i j) (g i j)):Ck K (rI P gV) (i2C C g):=λ{Oo c t σ H x y dx dy r t' Q} f rx ry eq k=>by
 obtain ⟨i,j,rfl,rfl,hc,z⟩:=Vk eq
 cases z
 cases rx
 cases ry
 exact ⟨i,j,rfl,rfl,hP i j hc,k _ H c f .refl (hr i j c H)⟩
def Dn:=i2 λi j=>.int (i - j)
noncomputable def MV (_ j:Int):Bool:=decide (0 < j) && decide (j < 1073741824)
def Hk:=i2C MV λi j=>.int (i / j)
def Gu:=i2C (λ_ j=>decide (0 < j)) λi j=>.int (i % j)
noncomputable def M0 (i j:Int):Bool:=decide (0<=j) && decide (j<=1000000) && decide (i.natAbs < 2 ^ 64)
def JV:=i2C M0 λi j=>.int (i ^ j.toNat)
noncomputable def F4 (i j:Int):Bool:=(decide (-(2 ^ 64) < i) && decide (i < 2 ^ 64)) || (decide (-(2 ^ 64) < j) && decide (j < 2 ^ 64))
def QE:=i2C (λ_ j=>decide (0<=j)) λi j=>.int (i / 2 ^ j.toNat)
theorem Cs:Ck K (rI0 λi j=>.int (i - j)) Dn:=X8 λi j _ _=>.int _
theorem Kc:Ck K (rI WH λi j=>.int (i / j)) Hk:=Gc (λi j h=>by
 unfold MV at h;rw [uh4] at h;exact ⟨uh0 h.1,uh0 h.2⟩) λi j _ _=>.int _
theorem FE:Ck K (rI (λ_ j=>0 < j) λi j=>.int (i % j)) Gu:=Gc (λi j h=>uh0 h) λi j _ _=>.int _
theorem Jf:Ck K (rI WI λi j=>.int (i ^ j.toNat)) JV:=Gc (λi j h=>by
 unfold M0 at h;rw [uh4,uh4] at h;exact ⟨uh0 h.1.1,uh0 h.1.2,uh0 h.2⟩) λi j _ _=>.int _
theorem We:Ck K (rI (λ_ j=>0<=j) λi j=>.int (i / 2 ^ j.toNat)) QE:=Gc (λi j h=>uh0 h) λi j _ _=>.int _
theorem R3 {i j:Int}(h:F4 i j=true):CMul i j:=by
 unfold F4 at h;rw [uj5,uh4,uh4] at h;rcases h with h | h
 ·exact .inl ⟨uh0 h.1,uh0 h.2⟩
 ·exact .inr ⟨uh0 h.1,uh0 h.2⟩
def Qk:D->M D
 | .int i=>ret (.int (-i))
 | _=>fail
theorem Wd:WM K (rU λi=>.int (-i)) Qk:=λ{Oo c t σ H x dx r t' Q} f rx eq k=>by
 cases rx with
 | int i=>cases eq;exact ⟨i,rfl,k _ H c f .refl (.int _)⟩
 | _=>cases eq
def SZ:D->D->M D
 | .int i,.int j=>ret (.int (i + j))
 | .str x,.str y=>lim (x.length + y.length) (.str (x++y))
 | .lst xs,.lst ys=>lim (xs.length + ys.length) (.lst (xs++ys))
 | .tup xs,.tup ys=>λt=>if xs.isEmpty=false/\xs.length + ys.length<=LIM then some (.tup (xs++ys),t) else none
 | _,_=>fail
def V4:R2:=λx y H Q=>∃i j,x = .str i/\y = .str j/\i.length + j.length<=sizeLine/\Q (.str (i++j)) H
def Qw (K:PySem.W.Frag):R2:=λx y H Q=>rI0 (λi j=>.int (i + j)) x y H Q\/(V4 x y H Q\/(T7 x y H Q\/UH K x y H Q))
theorem op_add4:OpR X (binaryOp .Add) (Qw X.K):=op_add.or (op_add_str.or (op_cat.or VH))
theorem V7:Ck K (Qw K) SZ:=λ{Oo c t σ H x y dx dy r t' Q} f rx ry eq k=>by
 cases rx with
 | int i=>
   cases ry with
   | int j=>cases eq;exact .inl ⟨i,j,rfl,rfl,k _ H c f .refl (.int _)⟩
   | _=>cases eq
 | str i=>
   cases ry with
   | str j=>
     obtain ⟨h,z⟩:=EX eq
     cases z
     exact .inr (.inl ⟨i,j,rfl,rfl,ul7 h Di,k _ H c f .refl (.str _)⟩)
   | _=>cases eq
 | @lst a vs ds h1 h2 h3=>
   cases ry with
   | @lst b ws es g1 g2 g3=>
     obtain ⟨h,z⟩:=EX eq
     cases z
     refine .inr (.inr (.inl ⟨a,b,vs,ws,rfl,rfl,h1,g1,?_,λp hp=>?_⟩))
     ·rw [h3.length,g3.length];exact ul7 h Di
     ·exact k _ _ c (f.laid hp) (f.stp_laid hp) (.lst Ax (f.s.free hp) ((h3.append g3).mono (Ext.laid f.s hp)))
   | _=>cases eq
 | @tup a vs ds h1 h2 h3=>
   cases ry with
   | @tup b ws es g1 g2 g3=>
     unfold SZ at eq;dsimp only at eq
     split at eq
     ·next h=>
      cases eq
      have hne:vs≠[]:=λz=>by
       have:=h3.length;rw [z] at this;have h0:ds.length=0:=this.symm;have:ds=[]:=uc0.mp h0;rw [this] at h;simp at h
      refine .inr (.inr (.inr ⟨a,b,vs,ws,rfl,rfl,SqT.of h1,SqT.of g1,hne,?_,λz=>?_,λz p hp=>?_⟩))
      ·rw [h3.length,g3.length];exact ul7 h.2 Di
      ·subst z;have:es=[]:=uc0.mp g3.length.symm;subst this;rw [ui6] at k;exact k _ H c f .refl (.tup h1 h2 h3)
      ·exact k _ _ c (f.laid hp) (f.stp_laid hp) (.tup Ax (f.s.free hp) ((h3.append g3).mono (Ext.laid f.s hp)))
     ·cases eq
   | _=>cases eq
 | _=>cases eq
def JD:D->D->M (List D)
 | .lst xs,.lst ys=>lim (xs.length + ys.length) (xs++ys)
 | _,_=>fail
theorem Kb:PL K T7 JD:=λ{Oo c t σ H x y dx dy r t' Q} f rx ry eq k=>by
 cases rx with
 | @lst a vs ds h1 h2 h3=>
   cases ry with
   | @lst b ws es g1 g2 g3=>
     obtain ⟨h,z⟩:=EX eq
     cases z
     refine ⟨a,b,vs,ws,rfl,rfl,h1,g1,?_,λp hp=>k p _ H c f .refl (h3.append g3) hp⟩;rw [h3.length,g3.length];exact ul7 h Di
   | _=>cases eq
 | _=>cases eq
def isC:D->D->M D
 | x,.non=>λt=>some (.bl (match x with | .non=>true | _=>false),t)
 | x,.bl b=>λt=>some (.bl (match x with | .bl c=>c == b | _=>false),t)
 | _,_=>fail
def Ij (x y:D):M D:=bnd (isC x y) λd=>match d with | .bl b=>ret (.bl (!b)) | _=>fail
def rIs (g:Bool->Bool):R2:=λx y H Q=>(y = .non\/∃b,y = .bl b)/\Q (.bl (g (decide (x=y)))) H
theorem O7 {x y:V}{v u:Value}(rx:RelV x v)(ry:RelV y u)(hy:y = .non\/∃b,y = .bl b):plainIs v u=true/\(v == u)=decide (x=y):=by
 rcases hy with rfl | ⟨b,rfl⟩
 ·cases ry
  cases x with
  | non=>cases rx;exact ⟨rfl,by simp⟩
  | bl _=>cases rx;exact ⟨rfl,by simp⟩
  | int _=>obtain ⟨t,rfl⟩:=rx;exact ⟨rfl,by simp⟩
  | str _=>obtain ⟨t,rfl⟩:=rx;exact ⟨rfl,by simp⟩
  | byt _=>obtain ⟨t,rfl⟩:=rx;exact ⟨rfl,by simp⟩
  | flt _=>obtain ⟨t,rfl⟩:=rx;exact ⟨rfl,by simp⟩
  | ref _=>cases rx;exact ⟨rfl,by simp⟩
  | ty _=>cases rx;exact ⟨rfl,by simp⟩
 ·cases ry
  cases x with
  | non=>cases rx;exact ⟨rfl,by simp⟩
  | bl c=>cases rx;exact ⟨rfl,by simp;cases c <;> cases b <;> rfl⟩
  | int _=>obtain ⟨t,rfl⟩:=rx;exact ⟨rfl,by simp⟩
  | str _=>obtain ⟨t,rfl⟩:=rx;exact ⟨rfl,by simp⟩
  | byt _=>obtain ⟨t,rfl⟩:=rx;exact ⟨rfl,by simp⟩
  | flt _=>obtain ⟨t,rfl⟩:=rx;exact ⟨rfl,by simp⟩
  | ref _=>cases rx;exact ⟨rfl,by simp⟩
  | ty _=>cases rx;exact ⟨rfl,by simp⟩
theorem G4:OpR X (compareOp .Is) (rIs id):=by
 intro pins s σ H x y v u Q I rx ry h;obtain ⟨hy,q⟩:=h;obtain ⟨h1,h2⟩:=O7 rx ry hy;exact wpAny_is_plain h1 ⟨.bl _,H,I,by rw [h2];rfl,q⟩
theorem Sb:OpR X (compareOp .IsNot) (rIs (!·)):=by
 intro pins s σ H x y v u Q I rx ry h;obtain ⟨hy,q⟩:=h;obtain ⟨h1,h2⟩:=O7 rx ry hy;exact wpAny_isNot_plain h1 ⟨.bl _,H,I,by rw [h2];rfl,q⟩
theorem Pg {x y:V}{dx dy:D}(rx:Rep K c H x dx)(ry:Rep K c H y dy)(eq:isC dx dy t=some z):(y = .non\/∃b,y = .bl b)/\z=(.bl (decide (x=y)),t):=by
 cases ry with
 | non=>
   refine ⟨.inl rfl,?_⟩
   cases rx <;> (cases eq;first | rfl | simp)
 | bl b=>
   refine ⟨.inr ⟨b,rfl⟩,?_⟩
   cases rx <;> (cases eq;first | rfl | simp)
   next a=>cases a <;> cases b <;> rfl
 | _=>cases eq
theorem Ha:Ck K (rIs id) isC:=λ{Oo c t σ H x y dx dy r t' Q} f rx ry eq k=>by
 obtain ⟨h,z⟩:=Pg rx ry eq
 cases z
 exact ⟨h,k _ H c f .refl (.bl _)⟩
theorem Sy:Ck K (rIs (!·)) Ij:=λ{Oo c t σ H x y dx dy r t' Q} f rx ry eq k=>by
 obtain ⟨d,t1,e1,eq⟩:=Aw eq;obtain ⟨h,z⟩:=Pg rx ry e1
 cases z
 cases eq
 exact ⟨h,k _ H c f .refl (.bl _)⟩
noncomputable def Hm:D->Bool
 | .non=>true | .bl _=>true | .int _=>true | .str _=>true | _=>false
noncomputable def toV:D->V
 | .bl b=>.bl b | .int i=>.int i | .str x=>.str x | _=>.non
theorem LU {v:V}{d:D}(r:Rep K c H v d)(h:Hm d=true):v=toV d:=by cases r <;> first | rfl | cases h
theorem JZ {c:Cf}{H:Hp}:∀{vs:List V} {ds:List D},Reps K c H vs ds->ds.all Hm=true->vs=ds.map toV
 | _,_,.nil,_=>rfl
 | _,_,.cons r t,h=>by
   rw [uk8,uh4] at h;rw [uk9,LU r h.1,JZ t h.2]
theorem NN:∀d:D,F0 (toV d)=true:=λd=>by cases d <;> rfl
def ixD:D->D->M D
 | .lst ds,.int i=>λt=>(atI ds i).map λd=>(d,t)
 | .tup ds,.int i=>λt=>(atI ds i).map λd=>(d,t)
 | .scr ns,.int i=>λt=>(atI ns i).map λn=>(.int n,t)
 | .str x,.int i=>λt=>if x.length<=LIM then (atI x.cps.toList i).map λn=>(.str ⟨#[n]⟩,t) else none
 | .obj k,.int i=>λt=>match t.S[k]? with
   | some (.lst ds)=>(atI ds i).map λd=>(d,t)
   | _=>none
 | _,_=>fail
theorem Jz {vs:List V}{ds:List D}{i:Int}{d:D}(r:Reps K c H vs ds)(h:atI ds i=some d):∃v,atI vs i=some v/\Rep K c H v d:=by
 unfold atI at h ⊢;obtain ⟨j,h1,h2⟩:=Option.bind_eq_some_iff.mp h;obtain ⟨v,h3,h4⟩:=r.at h2;exact ⟨v,by rw [r.length,h1];exact h3,h4⟩
theorem UW {α β:Type}(g:α->β)(xs:List α)(i:Int):atI (xs.map g) i=(atI xs i).map g:=by
 unfold atI;rw [ui9]
 cases ixN xs.length i with
 | none=>rfl
 | some j=>simp
theorem W5 {dx dy r:D}{t':T}(eq:ixD dx dy t=some (r,t')):∃i,dy = .int i/\((∃ds,dx = .lst ds)\/(∃ds,dx = .tup ds)\/(∃ns,dx = .scr ns)\/(∃z,dx = .str z)\/∃k,dx = .obj k):=by
 unfold ixD at eq
 split at eq
 ·exact ⟨_,rfl,.inl ⟨_,rfl⟩⟩
 ·exact ⟨_,rfl,.inr (.inl ⟨_,rfl⟩)⟩
 ·exact ⟨_,rfl,.inr (.inr (.inl ⟨_,rfl⟩))⟩
 ·exact ⟨_,rfl,.inr (.inr (.inr (.inl ⟨_,rfl⟩)))⟩
 ·exact ⟨_,rfl,.inr (.inr (.inr (.inr ⟨_,rfl⟩)))⟩
 ·cases eq
theorem Al:Ck K (rIx K) ixD:=λ{Oo c t σ H x y dx dy r t' Q} f rx ry eq k=>by
 obtain ⟨i,rfl,hd⟩:=W5 eq
 cases ry
 rcases hd with ⟨ds,rfl⟩ | ⟨ds,rfl⟩ | ⟨ns,rfl⟩ | ⟨z,rfl⟩ | ⟨kk,rfl⟩
 ·cases rx with
  | @lst a vs _ h1 h2 h3=>
    obtain ⟨d,e1,e2⟩:=uc8.mp eq
    cases e2
    obtain ⟨v,e3,e4⟩:=Jz h3 e1;exact .inl ⟨a,vs,i,v,rfl,rfl,SqL.of h1,e3,k _ H c f .refl e4⟩
 ·cases rx with
  | @tup a vs _ h1 h2 h3=>
    obtain ⟨d,e1,e2⟩:=uc8.mp eq
    cases e2
    obtain ⟨v,e3,e4⟩:=Jz h3 e1;exact .inr (.inl ⟨a,vs,i,v,rfl,rfl,SqT.of h1,e3,k _ H c f .refl e4⟩)
 ·cases rx with
  | @scr a _ h1=>
    obtain ⟨n,e1,e2⟩:=uc8.mp eq
    cases e2
    exact .inl ⟨a,_,i,.int n,rfl,rfl,h1.sq,by rw [UW,e1];rfl,k _ H c f .refl (.int n)⟩
 ·cases rx
  unfold ixD at eq;dsimp only at eq
  split at eq
  ·next hl=>
   obtain ⟨n,e1,e2⟩:=uc8.mp eq
   cases e2
   exact .inr (.inr ⟨z,i,n,rfl,rfl,ul7 hl Di,e1,k _ H c f .refl (.str _)⟩)
  ·cases eq
 ·cases rx with
  | @obj a _ h1=>
    unfold ixD at eq;dsimp only at eq
    cases es:t.S[kk]? with
    | none=>rw [es] at eq;cases eq
    | some o=>
      rw [es] at eq
      cases o with
      | dct _=>cases eq
      | lst ds=>
        obtain ⟨d,e1,e2⟩:=uc8.mp eq
        cases e2
        obtain ⟨vs,g1,g2⟩:=f.s.obs kk a _ h1 es;obtain ⟨v,e3,e4⟩:=Jz g2 e1;exact .inl ⟨a,vs,i,v,rfl,rfl,SqL.of g1,e3,k _ H c f .refl e4⟩
end
variable {id:String}{R:List V->Hp->VK->Prop}{f:M (List D)}{x:Str}{p:Pos}
section
variable {X:Cx}{e a b:Expr}{es:List Expr}{pos:Pos}
def RO (K:PySem.W.Frag)(f:M (Option Int)):TO:=λσ H Q=>∃Oo c t,FInv K Oo c t σ H/\∃r t',f t=some (r,t')/\∀H' c',FInv K Oo c' t' σ H'->Stp Oo c H c' H'->Q r H'
theorem QV {oe:Option Expr}{t t':TO}(h:PO X oe t)(i:∀σ H Q,t' σ H Q->t σ H Q):PO X oe t':=λpins s σ H Q I q=>h pins s σ H Q I (i σ H Q q)
def fNo:M (Option Int):=ret none
def asI:D->M (Option Int)
 | .int i=>ret (some i)
 | _=>fail
def Dv (f:M D):M (Option Int):=bnd f asI
theorem Df:PO X none (RO X.K fNo):=QV VX λσ H Q z9=>by
 obtain ⟨Oo,c,t,fi,r,t',eq,k⟩:=z9
 cases eq
 exact k H c fi .refl
theorem Dg {f:M D}(h:PE X e (RE X.K f)):PO X (some e) (RO X.K (Dv f)):=QV (VY h) λσ H Q z9=>by
 obtain ⟨Oo,c,t,fi,r,t',eq,k⟩:=z9;obtain ⟨d,t1,e1,eq⟩:=Aw eq;refine ⟨Oo,c,t,fi,d,t1,e1,λv H1 c1 f1 s1 rv=>?_⟩
 cases rv with
 | int i=>cases eq;exact ⟨i,rfl,k H1 c1 f1 s1⟩
 | _=>cases eq
def SU (K:PySem.W.Frag)(R:V->Option Int->Option Int->Hp->VK->Prop)(h:D->Option Int->Option Int->M D):Prop:=∀{Oo:Addr->Prop} {c:Cf} {t:T} {σ:L2.St} {H:Hp} {x:V} {dx r:D} {lo hi:Option Int} {t':T} {Q:VK},FInv K Oo c t σ H->Rep K c H x dx->h dx lo hi t=some (r,t')->
 (∀v H' c',FInv K Oo c' t' σ H'->Stp Oo c H c' H'->Rep K c' H' v r->Q v H')->R x lo hi H Q
def fSl (f:M D)(l u:M (Option Int))(h:D->Option Int->Option Int->M D):M D:=bnd f λx=>bnd l λlo=>bnd u λhi=>h x lo hi
theorem CS {R:V->Option Int->Option Int->Hp->VK->Prop}{h:D->Option Int->Option Int->M D}{f:M D}{l u:M (Option Int)}{lo hi:Option Expr}{p2:Pos}(hr:SlR X R)(s:SU X.K R h)(he:PE X e (RE X.K f))(hl:PO X lo (RO X.K l))(hu:PO X hi (RO X.K u)):PE X (.Subscript e (.Slice lo hi none p2) pos) (RE X.K (fSl f l u h)):=
 BP (TY hr he hl hu) λσ H Q z9=>by
  obtain ⟨Oo,c,t,fi,r,t',eq,k⟩:=z9;obtain ⟨d,t1,e1,eq⟩:=Aw eq;obtain ⟨ol,t2,e2,eq⟩:=Aw eq;obtain ⟨oh,t3,e3,eq⟩:=Aw eq;exact ⟨Oo,c,t,fi,d,t1,e1,λv H1 c1 f1 s1 rv=>⟨Oo,c1,t1,f1,ol,t2,e2,λH2 c2 f2 s2=>⟨Oo,c2,t2,f2,oh,t3,e3,λH3 c3 f3 s3=>
   s f3 (rv.mono (s2.trans s3).ext) eq λv H' c' f' s' rv'=>k v H' c' f' (((s1.trans s2).trans s3).trans s') rv'⟩⟩⟩
def Dq {α:Type}(xs:List α)(lo hi:Option Int):List α:=(xs.drop (HT.sIx xs.length 0 lo)).take (HT.sIx xs.length xs.length hi - HT.sIx xs.length 0 lo)
def slD:D->Option Int->Option Int->M D
 | .lst ds,lo,hi=>ret (.lst (Dq ds lo hi))
 | .scr ns,lo,hi=>ret (.lst ((Dq ns lo hi).map .int))
 | .tup ds,lo,hi=>λt=>if HT.sIx ds.length 0 lo=0/\HT.sIx ds.length ds.length hi=ds.length then none else some (.tup (Dq ds lo hi),t)
 | _,_,_=>fail
theorem JY {K:PySem.W.Frag}{vs:List V}{ds:List D}(r:Reps K c H vs ds)(lo hi:Option Int):Reps K c H (Hi vs lo hi) (Dq ds lo hi):=by
 unfold Hi Dq;rw [r.length];exact (r.drop _).take _
theorem Tf {α β:Type}(g:α->β)(xs:List α)(lo hi:Option Int):Dq (xs.map g) lo hi=(Dq xs lo hi).map g:=by
 unfold Dq;rw [ui9,List.map_take,List.map_drop]
theorem Q8 (ns:List Int)(lo hi:Option Int):Hi (ns.map V.int) lo hi=(Dq ns lo hi).map V.int:=Tf V.int ns lo hi
def T9 (K:PySem.W.Frag):V->Option Int->Option Int->Hp->VK->Prop:=λx lo hi H Q=>XX K x lo hi H Q\/XZ K x lo hi H Q
theorem sl2:SlR X (T9 X.K):=sl_list.or Yb
theorem X9 {K:PySem.W.Frag}:SU K (T9 K) slD:=λ{Oo c t σ H x dx r lo hi t' Q} f rx eq k=>by
 cases rx with
 | @lst p vs ds h1 h2 h3=>
   cases eq
   exact .inl ⟨p,vs,rfl,SqL.of h1,λq hq=>k _ _ c (f.laid hq) (f.stp_laid hq) (.lst Ax (f.s.free hq) ((JY h3 lo hi).mono (Ext.laid f.s hq)))⟩
 | @scr p ns h1=>
   cases eq
   refine .inl ⟨p,_,rfl,h1.sq,λq hq=>k _ _ c (f.laid hq) (f.stp_laid hq) (.lst Ax (f.s.free hq) ?_)⟩;rw [Q8];exact Reps.ints _
 | @tup p vs ds h1 h2 h3=>
   unfold slD at eq;dsimp only at eq
   split at eq
   ·cases eq
   ·next hn=>
    cases eq
    exact .inr ⟨p,vs,rfl,SqT.of h1,by rw [h3.length];exact hn,λq hq=>k _ _ c (f.laid hq) (f.stp_laid hq) (.tup Ax (f.s.free hq) ((JY h3 lo hi).mono (Ext.laid f.s hq)))⟩
 | _=>cases eq
theorem Z4 {h:List D->M D}(hc:Du X (.builtin id) R)(s:FR X.K R h)(hg:Gl X x)(hm:X.mg x=none)(hv:bootBuiltins x=some (.builtin id))(ha:PA X (e :: es) (RA X.K f))(hn:x≠"__name__":=by decide)(hdb:(x == ("__debug__" : Str))=false:=by decide)
 (he:starEach (e :: es) X.env=(false,eval e X.env) :: starEach es X.env:=by rfl) (hpl:(backTo pos (starEach es X.env)).any (·.1)=false:=by rfl):PE X (.Call (.Name x p) (e :: es) [] pos) (RE X.K (fB f h)):=
 BP (TU hc hg hm hv ha hn hdb he hpl) λ_ _ _ q=>RE.callB s q
theorem Z5 {h:List D->M D}(hc:Du X (.type id) R)(s:FR X.K R h)(hg:Gl X x)(hm:X.mg x=none)(hv:bootBuiltins x=some (.type id))(ha:PA X (e :: es) (RA X.K f))(hn:x≠"__name__":=by decide)(hdb:(x == ("__debug__" : Str))=false:=by decide)
 (he:starEach (e :: es) X.env=(false,eval e X.env) :: starEach es X.env:=by rfl) (hpl:(backTo pos (starEach es X.env)).any (·.1)=false:=by rfl):PE X (.Call (.Name x p) (e :: es) [] pos) (RE X.K (fB f h)):=
 BP (Iu hc hg hm hv ha hn hdb he hpl) λ_ _ _ q=>RE.callB s q
theorem Z6 {h:List D->M (List D)}(hc:Du X (.type id) R)(s:MT X.K R h)(hg:Gl X x)(hm:X.mg x=none)(hv:bootBuiltins x=some (.type id))(ha:PA X (e :: es) (RA X.K f))(hn:x≠"__name__":=by decide)(hdb:(x == ("__debug__" : Str))=false:=by decide)
 (he:starEach (e :: es) X.env=(false,eval e X.env) :: starEach es X.env:=by rfl) (hpl:(backTo pos (starEach es X.env)).any (·.1)=false:=by rfl):PE X (.Call (.Name x p) (e :: es) [] pos) (RF X.K (fBF f h)):=
 BP (Iu hc hg hm hv ha hn hdb he hpl) λ_ _ _ q=>RF.callB s q
theorem Qa {op:Operator}{R:R2}{f g:M D}{h:D->D->M (List D)}(ho:OpR X (binaryOp op) R)(s:PL X.K R h)(ha:PE X a (RE X.K f))(hb:PE X b (RE X.K g)):PE X (.BinOp a op b pos) (RF X.K (bnd f λx=>bnd g λy=>h x y)):=
 BP (Qr ho ha hb) λ_ _ _ q=>RF.two s q
end
section
variable {K:PySem.W.Frag}
theorem EU {xs:List V}{d:D}(r:Reps K c H xs [d]):∃v,xs=[v]/\Rep K c H v d:=by
 cases r with
 | cons r rs=>cases rs;exact ⟨_,rfl,r⟩
theorem QB {xs:List V}{d e:D}(r:Reps K c H xs [d,e]):∃v u,xs=[v,u]/\Rep K c H v d/\Rep K c H u e:=by
 cases r with
 | cons r rs=>
   obtain ⟨u,rfl,q⟩:=EU rs;exact ⟨_,u,rfl,r,q⟩
def B9:List D->M D
 | [.lst ds]=>ret (.int ds.length)
 | [.tup ds]=>ret (.int ds.length)
 | [.scr ns]=>ret (.int ns.length)
 | [.str x]=>lim x.length (.int x.length)
 | [.obj k]=>λt=>match t.S[k]? with
   | some (.lst ds)=>some (.int ds.length,t)
   | _=>none
 | _=>fail
theorem BM:FR K (λxs H Q=>∃x n,xs=[x]/\WK K x H n/\Q (.int n) H) B9:=λ{Oo c t σ H xs ds r t' Q} f rx eq k=>by
 match ds,rx,eq with
 | [],_,eq=>cases eq
 | d0 :: _ :: _,_,eq=>cases d0 <;> cases eq
 | [d],rx,eq=>
   obtain ⟨v,rfl,rv⟩:=EU rx
   cases rv with
   | @lst a vs ds h1 h2 h3=>cases eq;exact ⟨_,ds.length,rfl,.inl ⟨vs,SqL.of h1,h3.length.symm⟩,k _ H c f .refl (.int _)⟩
   | @tup a vs ds h1 h2 h3=>cases eq;exact ⟨_,ds.length,rfl,.inr ⟨vs,SqT.of h1,h3.length.symm⟩,k _ H c f .refl (.int _)⟩
   | @scr a ns h1=>cases eq;exact ⟨_,ns.length,rfl,.inl ⟨_,h1.sq,by simp⟩,k _ H c f .refl (.int _)⟩
   | str x=>
     obtain ⟨hl,z⟩:=EX eq
     cases z
     exact ⟨_,x.length,rfl,⟨ul7 hl Di,rfl⟩,k _ H c f .refl (.int _)⟩
   | @obj a kk h1=>
     unfold B9 at eq;dsimp only at eq
     cases es:t.S[kk]? with
     | none=>rw [es] at eq;cases eq
     | some o=>
       rw [es] at eq
       cases o with
       | dct _=>cases eq
       | lst ds=>
         cases eq
         obtain ⟨vs,g1,g2⟩:=f.s.obs kk a _ h1 es;exact ⟨_,ds.length,rfl,.inl ⟨vs,SqL.of g1,g2.length.symm⟩,k _ H c f .refl (.int _)⟩
   | _=>cases eq
noncomputable def tyD:D->Option String
 | .non=>some "NoneType"
 | .bl _=>some "bool"
 | .int _=>some "int"
 | .str _=>some "str"
 | .lst _=>some "list"
 | .tup _=>some "tuple"
 | .dic=>some "dict"
 | _=>none
noncomputable def LC (n m:String):Option Bool:=match m with
 | "int"=>some (n == "int" || n == "bool")
 | "bool"=>some (n == "bool")
 | "str"=>some (n == "str")
 | "list"=>some (n == "list")
 | "tuple"=>some (n == "tuple")
 | "dict"=>some (n == "dict")
 | _=>none
def Es:List D->M D
 | [d,.ty m]=>λt=>match tyD d with
   | some n=>(LC n m).map λb=>(.bl b,t)
   | none=>none
 | _=>fail
theorem Vn {d:D}{n m:String}{b:Bool}(h1:tyD d=some n)(h2:LC n m=some b):PySem.W.kitOne K (.type n) (.type m)=some b:=by
 have hm:m = "int"\/m = "bool"\/m = "str"\/m = "list"\/m = "tuple"\/m = "dict":=by
  unfold LC at h2
  split at h2 <;> simp_all
 have hn:n = "NoneType"\/n = "bool"\/n = "int"\/n = "str"\/n = "list"\/n = "tuple"\/n = "dict":=by
  cases d <;> simp [tyD] at h1 <;> simp [<-h1]
 rcases hm with rfl | rfl | rfl | rfl | rfl | rfl <;> rcases hn with rfl | rfl | rfl | rfl | rfl | rfl | rfl <;> (cases h2;rfl)
def XR (K:PySem.W.Frag):List V->Hp->VK->Prop:=λxs H Q=>∃x n t b,xs=[x,.ty n]/\TyOf K H x t/\PySem.W.kitOne K t (.type n)=some b/\Q (.bl b) H
theorem DG:Du X (.builtin "isinstance") (XR X.K):=by
 intro pins s σ H xs us Q I r h;obtain ⟨x,n,t,b,rfl,ty,e,q⟩:=h;obtain ⟨u,w',rfl,rx,rt⟩:=QN r
 cases rt
 exact RB I rx ty e λtk=>⟨.bl b,H,I.tok tk,rfl,q⟩
theorem Ea:FR K (XR K) Es:=λ{Oo c t σ H xs ds r t' Q} f rx eq k=>by
 unfold Es at eq
 split at eq
 ·next d m=>
  obtain ⟨v,u,rfl,rv,ru⟩:=QB rx
  cases ru
  cases et:tyD d with
  | none=>rw [et] at eq;cases eq
  | some n=>
    rw [et] at eq;obtain ⟨b,e1,e2⟩:=uc8.mp eq
    cases e2
    refine ⟨v,m,.type n,b,rfl,?_,Vn et e1,k _ H c f .refl (.bl b)⟩
    cases rv <;> first | (cases et;first | exact .non | exact .bl _ | exact .int _ | exact .str _ | exact .lst ‹_› | exact .tup ‹_› | exact .dK ‹_›) | cases et
 ·cases eq
def Oz:List D->M D
 | [.lst ds]=>ret (.tup ds)
 | [.tup ds]=>ret (.tup ds)
 | [.obj k]=>λt=>match t.S[k]? with
   | some (.lst ds)=>some (.tup ds,t)
   | _=>none
 | _=>fail
theorem Wg:FR K (λxs H Q=>∃p ys,xs=[.ref p]/\((SqL K H p ys/\∀l,H l=none->Q (.ref l) (upd H l (.tup ys)))\/(SqT K H p ys/\Q (.ref p) H))) Oz:=λ{Oo c t σ H xs ds r t' Q} f rx eq k=>by
 match ds,rx,eq with
 | [],_,eq=>cases eq
 | d0 :: _ :: _,_,eq=>cases d0 <;> cases eq
 | [d],rx,eq=>
   obtain ⟨v,rfl,rv⟩:=EU rx
   cases rv with
   | @lst a vs ds h1 h2 h3=>cases eq;exact ⟨a,vs,rfl,.inl ⟨SqL.of h1,λq hq=>k _ _ c (f.laid hq) (f.stp_laid hq) (.tup Ax (f.s.free hq) (h3.mono (Ext.laid f.s hq)))⟩⟩
   | @tup a vs ds h1 h2 h3=>cases eq;exact ⟨a,vs,rfl,.inr ⟨SqT.of h1,k _ H c f .refl (.tup h1 h2 h3)⟩⟩
   | @obj a kk h1=>
     unfold Oz at eq;dsimp only at eq
     cases es:t.S[kk]? with
     | none=>rw [es] at eq;cases eq
     | some o=>
       rw [es] at eq
       cases o with
       | dct _=>cases eq
       | lst ds=>
         cases eq
         obtain ⟨vs,g1,g2⟩:=f.s.obs kk a _ h1 es;exact ⟨a,vs,rfl,.inl ⟨SqL.of g1,λq hq=>k _ _ c (f.laid hq) (f.stp_laid hq) (.tup Ax (f.s.free hq) (g2.mono (Ext.laid f.s hq)))⟩⟩
   | _=>cases eq
def Ht:List D->M (List D)
 | [.lst ds]=>ret ds
 | [.tup ds]=>ret ds
 | [.scr ns]=>ret (ns.map .int)
 | [.obj k]=>λt=>match t.S[k]? with
   | some (.lst ds)=>some (ds,t)
   | _=>none
 | _=>fail
theorem Jc:MT K (λxs H Q=>∃p ys,xs=[.ref p]/\(SqL K H p ys\/SqT K H p ys)/\∀l,H l=none->Q (.ref l) (upd H l (.lst ys))) Ht:=λ{Oo c t σ H xs ds r t' Q} f rx eq k=>by
 match ds,rx,eq with
 | [],_,eq=>cases eq
 | d0 :: _ :: _,_,eq=>cases d0 <;> cases eq
 | [d],rx,eq=>
   obtain ⟨v,rfl,rv⟩:=EU rx
   cases rv with
   | @lst a vs ds h1 h2 h3=>cases eq;exact ⟨a,vs,rfl,.inl (SqL.of h1),λq hq=>k q vs H c f .refl h3 hq⟩
   | @tup a vs ds h1 h2 h3=>cases eq;exact ⟨a,vs,rfl,.inr (SqT.of h1),λq hq=>k q vs H c f .refl h3 hq⟩
   | @scr a ns h1=>cases eq;exact ⟨a,_,rfl,.inl h1.sq,λq hq=>k q _ H c f .refl (Reps.ints ns) hq⟩
   | @obj a kk h1=>
     unfold Ht at eq;dsimp only at eq
     cases es:t.S[kk]? with
     | none=>rw [es] at eq;cases eq
     | some o=>
       rw [es] at eq
       cases o with
       | dct _=>cases eq
       | lst ds=>
         cases eq
         obtain ⟨vs,g1,g2⟩:=f.s.obs kk a _ h1 es;exact ⟨a,vs,rfl,.inl (SqL.of g1),λq hq=>k q vs H c f .refl g2 hq⟩
   | _=>cases eq
def NQ:List D->M D
 | [.int i]=>ret (.int i)
 | [.bl b]=>ret (.int (if b then 1 else 0))
 | _=>fail
theorem Wa:FR K (λxs H Q=>(∃i,xs=[.int i]/\Q (.int i) H)\/∃k,xs=[.bl k]/\Q (.int (if k then 1 else 0)) H) NQ:=λ{Oo c t σ H xs ds r t' Q} f rx eq k=>by
 match ds,rx,eq with
 | [],_,eq=>cases eq
 | d0 :: _ :: _,_,eq=>cases d0 <;> cases eq
 | [d],rx,eq=>
   obtain ⟨v,rfl,rv⟩:=EU rx
   cases rv with
   | int i=>cases eq;exact .inl ⟨i,rfl,k _ H c f .refl (.int _)⟩
   | bl b=>cases eq;exact .inr ⟨b,rfl,k _ H c f .refl (.int _)⟩
   | _=>cases eq
def ZV:List D->M D
 | [.int i]=>ret (.int (if i < 0 then -i else i))
 | _=>fail
def Hv:List D->M D
 | [.int i,.int j]=>ret (.int (if j < i then j else i))
 | _=>fail
def NX:List D->M D
 | [.int i,.int j]=>ret (.int (if j > i then j else i))
 | _=>fail
theorem Je:FR K (λxs H Q=>∃i j,xs=[.int i,.int j]/\Q (.int (if j < i then j else i)) H) Hv:=λ{Oo c t σ H xs ds r t' Q} f rx eq k=>by
 unfold Hv at eq
 split at eq
 ·next i j=>
  obtain ⟨v,u,rfl,rv,ru⟩:=QB rx
  cases rv;cases ru;cases eq
  exact ⟨i,j,rfl,k _ H c f .refl (.int _)⟩
 ·cases eq
theorem Wb:FR K (λxs H Q=>∃i j,xs=[.int i,.int j]/\Q (.int (if j > i then j else i)) H) NX:=λ{Oo c t σ H xs ds r t' Q} f rx eq k=>by
 unfold NX at eq
 split at eq
 ·next i j=>
  obtain ⟨v,u,rfl,rv,ru⟩:=QB rx
  cases rv;cases ru;cases eq
  exact ⟨i,j,rfl,k _ H c f .refl (.int _)⟩
 ·cases eq
def LP:List D->M D
 | [.str x]=>λt=>if x.length=1 then some (.int (x.cps.getD 0 0:Nat),t) else none
 | _=>fail
theorem Pw:FR K (λxs H Q=>∃x,xs=[.str x]/\x.length=1/\Q (.int (x.cps.getD 0 0:Nat)) H) LP:=λ{Oo c t σ H xs ds r t' Q} f rx eq k=>by
 match ds,rx,eq with
 | [],_,eq=>cases eq
 | d0 :: _ :: _,_,eq=>cases d0 <;> cases eq
 | [d],rx,eq=>
   obtain ⟨v,rfl,rv⟩:=EU rx
   cases rv with
   | str x=>
     unfold LP at eq;dsimp only at eq
     split at eq
     ·next h=>cases eq;exact ⟨x,rfl,h,k _ H c f .refl (.int _)⟩
     ·cases eq
   | _=>cases eq
end
end F2
namespace L2
open PySem PySem.Spec PyProof.Rows
open AutoSeq1 (wpAny_loadPart')
def UG (K:PySem.W.Frag):R2:=λx y H Q=>∃a b ys,x = .ref a/\y = .ref b/\SqT K H a []/\SqT K H b ys/\Q (.ref b) H
theorem VG {X:Cx}:OpR X (binaryOp .Add) (UG X.K):=by
 intro pins s σ H x y v u Q I rx ry h;obtain ⟨a,b,ys,rfl,rfl,h1,h2,q⟩:=h
 cases rx
 cases ry
 obtain ⟨its,r,⟨⟨cls,dd,data,sl⟩,ho,hc,n,hd⟩,z⟩:=I.tuple h1;obtain ⟨its2,r2,⟨⟨cls2,dd2,data2,sl2⟩,ho2,hc2,n2,hd2⟩,z2⟩:=I.tuple h2;simp only at hc hd hc2 hd2;subst hc hd hc2 hd2
 cases r
 exact concat_meets ⟨_,ho,rfl⟩ ⟨_,ho2,rfl⟩ noFill_tuple_add seq_tuple_add uc6 ub9 (ub5 _ _)
  (tuple_addW0 a b #[] its2.toArray n n2 dd dd2 sl sl2 rfl) ⟨ho,ho2,.ref b,H,I,rfl,q⟩
theorem JO:fillsNumberSlot (.type "tuple") "mul" = pure false:=
 PySem.fillsNumberSlot_seq (id:="tuple.__mul__") (r:=some (.builtin "tuple.__rmul__")) F.slot_tuple_mul.lookup (by decide +kernel) F.slot_tuple_rmul.lookup (by decide +kernel)
theorem Oj:seqRepeat? (.type "tuple")=pure (some (.builtin "tuple.__mul__")):=by
 unfold seqRepeat?;rw [PySem.seqSlot_of (T:="tuple") (name:="__mul__") (id:="tuple.__mul__") F.slot_tuple_mul.lookup (by decide +kernel),PySem.seqSlot_of (T:="tuple") (name:="__rmul__") (id:="tuple.__rmul__") F.slot_tuple_rmul.lookup (by decide +kernel)];rfl
theorem LV (a:Int)(t:Tok)(l:Addr)(items:Array Value)(n:Nat)(dd:Option Addr)(sl:Array (Option Value)) :
 Meets (Builtin.«int.__rmul__» ⟨[.int a t,.ref l],[]⟩) (λ_ R s=>s.heap.get? l=some { cls:=.type "tuple",dict:=dd,data:=.seq items n,slots:=sl }/\R (.ok (.ret Value.notImplemented)) s):=
 .of_wp λprog w A R s h=>by obtain ⟨hp,g,d,tk,os⟩:=s;obtain ⟨hl,h⟩:=h;wp_walk;exact ⟨_,rfl,h⟩
theorem OY (l:Addr)(items:Array Value)(n:Nat)(dd:Option Addr)(sl:Array (Option Value))(x:Int)(u:Tok)(hc0:(decide (x < -(2 ^ 63)) || decide (x ≥ 2 ^ 63))=false)(hc1:(items.isEmpty || x == 1)=true) :
 Meets (Builtin.«tuple.__mul__» ⟨[.ref l,.int x u],[]⟩) (λ_ R s=>s.heap.get? l=some { cls:=.type "tuple",dict:=dd,data:=.seq items n,slots:=sl }/\R (.ok (.ret (Value.ref l))) s):=
 .of_wp λprog w A R s h=>by
  obtain ⟨hp,g,d,tk,os⟩:=s;obtain ⟨hl,h⟩:=h;have f1:=AutoSeq1.idx_int;have f2:=AutoSeq1.sub_tuple_tuple;have f3:=AutoSeq1.sub_list_list;have f4:=AutoSeq1.sub_tuple_list;have f5:=AutoSeq1.sub_list_tuple
  wp_walk using wpAny_loadPart' hl
  refine wpAny_ite_split (λz=>absurd z (by rw [hc0];decide)) λ_=>?_
  wp_walk using wpAny_loadPart' hl
  exact ⟨_,rfl,h⟩
theorem OZ (l:Addr)(items:Array Value)(n:Nat)(dd:Option Addr)(sl:Array (Option Value))(x:Int)(u:Tok)(hc0:(decide (x < -(2 ^ 63)) || decide (x ≥ 2 ^ 63))=false)(hc1:(items.isEmpty || x == 1)=false)(hc2:(decide (x<=0) || items.isEmpty)=true) :
 Meets (Builtin.«tuple.__mul__» ⟨[.ref l,.int x u],[]⟩) (λ_ R s=>s.heap.get? l=some { cls:=.type "tuple",dict:=dd,data:=.seq items n,slots:=sl }/\R (.ok (.ret (Value.ref s.heap.objs.size))) { s with heap:=s.heap.push { cls:=Value.type "tuple",data:=Data.seq #[] },toks:=s.toks }):=
 .of_wp λprog w A R s h=>by
  obtain ⟨hp,g,d,tk,os⟩:=s;obtain ⟨hl,h⟩:=h;have f1:=AutoSeq1.idx_int;have f2:=AutoSeq1.sub_tuple_tuple;have f3:=AutoSeq1.sub_list_list;have f4:=AutoSeq1.sub_tuple_list;have f5:=AutoSeq1.sub_list_tuple
  wp_walk using wpAny_loadPart' hl
  refine wpAny_ite_split (λz=>absurd z (by rw [hc0];decide)) λ_=>?_
  wp_walk using wpAny_loadPart' hl
  exact ⟨_,rfl,h⟩
theorem O0 (l:Addr)(items:Array Value)(n:Nat)(dd:Option Addr)(sl:Array (Option Value))(x:Int)(u:Tok)(hc0:(decide (x < -(2 ^ 63)) || decide (x ≥ 2 ^ 63))=false)(hc1:(items.isEmpty || x == 1)=false)(hc2:(decide (x<=0) || items.isEmpty)=false)
 (hc3:¬(items.size:Int) * x > (2 ^ 63 - 1) / 8) (hc4:Builtin.Tuple.tupleTooMany ((items.size:Int) * x)=false) (hsz:(List.foldl (λx1 x2=>x1++x2) #[] (List.replicate x.toNat items)).size<=sizeLine) :
 Meets (Builtin.«tuple.__mul__» ⟨[.ref l,.int x u],[]⟩) (λ_ R s=>s.heap.get? l=some { cls:=.type "tuple",dict:=dd,data:=.seq items n,slots:=sl }/\R (.ok (.ret (Value.ref s.heap.objs.size))) { s with heap:=s.heap.push { cls:=Value.type "tuple",data:=Data.seq (List.foldl (λx1 x2=>x1++x2) #[] (List.replicate x.toNat items)) },toks:=s.toks }):=
 .of_wp λprog w A R s h=>by
  obtain ⟨hp,g,d,tk,os⟩:=s;obtain ⟨hl,h⟩:=h;have f1:=AutoSeq1.idx_int;have f2:=AutoSeq1.sub_tuple_tuple;have f3:=AutoSeq1.sub_list_list;have f4:=AutoSeq1.sub_tuple_list;have f5:=AutoSeq1.sub_list_tuple
  wp_walk using wpAny_loadPart' hl
  refine wpAny_ite_split (λz=>absurd z (by rw [hc0];decide)) λ_=>?_
  wp_walk using wpAny_loadPart' hl
  refine wpAny_ite_split (λz=>absurd z hc3) λ_=>?_
  wp_walk using wpAny_loadPart' hl
  exact ⟨_,rfl,h⟩
end L2
namespace L2
open PySem PySem.Spec PyProof.Rows
open AutoSeq1 (wpAny_loadPart')
def UM (K:PySem.W.Frag):R2:=λx y H Q=>∃a k xs,x = .ref a/\y = .int k/\SqT K H a xs/\-(2 ^ 62)<=k/\k < 2 ^ 62/\xs.length * k.toNat<=sizeLine/\
 ((xs=[]\/k=1)->Q (.ref a) H)/\(¬(xs=[]\/k=1)->∀p,H p=none->Q (.ref p) (upd H p (.tup (List.replicate k.toNat xs).flatten)))
theorem Inv.tnew {X:Cx}{pins:List (Addr×Obj)}{σ:L2.St}{H:Hp}{s:Shared}{ys:List V}{its:List Value}{t':Nat}(I:Inv X pins σ H s)(hv:Vals ys its)(hz:ys.length<=sizeLine) :
 Inv X pins σ (upd H s.heap.objs.size (.tup ys)) { s with heap:=s.heap.push { cls:=.type "tuple",data:=.seq its.toArray },toks:=t' }:=
 I.laid (λb u e=>uc4 _ e) (um9 _) ⟨hz,its,hv,⟨_,ue4 _ rfl,rfl,_,rfl⟩⟩
theorem op_mulT {X:Cx}:OpR X (binaryOp .Mult) (UM X.K):=by
 intro pins s σ H x y v u Q I rx ry h;obtain ⟨a,k,xs,rfl,rfl,hq,h1,h2,hz,q1,q2⟩:=h
 cases rx
 obtain ⟨t,rfl⟩:=ry;obtain ⟨its,r,⟨⟨cls,dd,data,sl⟩,ho,hc,n,hd⟩,z⟩:=I.tuple hq;simp only at hc hd;subst hc hd;have hl:=r.length;have hc0:(decide (k < -(2 ^ 63)) || decide (k ≥ 2 ^ 63))=false:=by
  rw [Bool.or_eq_false_iff];exact ⟨uj9 (by lia),uj9 (by lia)⟩
 refine wpAny_binaryOp_repeat_ref (T:="tuple") (U:="int") (by decide) ⟨_,ho,rfl⟩ (λs'=>typeIs_int s' k t) JO F.fills_int_mul F.slot_int_rmul Oj F.slot_int_index.lookup
  (call_meets F.slot_int_rmul (typeIs_int s k t) F.entry_int_rmul (F.args_int_rmul_2 _ _) (LV k t a its.toArray n dd sl) ⟨ho,rfl,⟨_,ho,rfl⟩,?_⟩)
 by_cases hs:xs=[]\/k=1
 ·have hc1:(its.toArray.isEmpty || k == 1)=true:=by
   rw [uj5];rcases hs with z | z
   ·subst z;cases r;exact .inl rfl
   ·exact .inr (by simp [z])
  exact call_meets F.slot_tuple_mul ⟨_,ho,rfl⟩ F.entry_tuple_mul (F.args_tuple_mul_2 _ _) (OY a its.toArray n dd sl k t hc0 hc1) ⟨ho,.ref a,H,I,rfl,q1 hs⟩
 ·have hne:its≠[]:=λz=>hs (.inl (by subst z;cases r;rfl))
  have hk1:k≠1:=λz=>hs (.inr z);have hem:its.toArray.isEmpty=false:=by cases its with | nil=>exact absurd rfl hne | cons _ _=>rfl
  have hc1:(its.toArray.isEmpty || k == 1)=false:=by rw [hem];simpa using hk1
  by_cases hk:k<=0
  ·have hc2:(decide (k<=0) || its.toArray.isEmpty)=true:=by rw [uk4 hk];rfl
   refine call_meets F.slot_tuple_mul ⟨_,ho,rfl⟩ F.entry_tuple_mul (F.args_tuple_mul_2 _ _) (OZ a its.toArray n dd sl k t hc0 hc1 hc2) ⟨ho,?_⟩;have hk0:k.toNat=0:=by lia
   refine ⟨.ref _,_,I.tnew (t':=s.toks) (ys:=[]) (its:=[]) .nil (un0 _),rfl,?_⟩;have:=q2 hs _ I.fresh;rw [hk0] at this;exact this
  ·have hc2:(decide (k<=0) || its.toArray.isEmpty)=false:=by rw [uj9 hk,hem];rfl
   have hsz:its.length * k.toNat<=sizeLine:=by rw [<-hl];exact hz
   have hmul:((its.toArray.size:Nat):Int) * k=((its.length * k.toNat:Nat):Int):=by
    rw [ug1,Int.natCast_mul,ue7 (by lia)]
   have hline:(sizeLine:Nat)<=(2 ^ 63 - 1) / 8:=by decide
   have hc3:¬(its.toArray.size:Int) * k > (2 ^ 63 - 1) / 8:=by rw [hmul];lia
   have hc4:Builtin.Tuple.tupleTooMany ((its.toArray.size:Int) * k)=false:=by
    unfold Builtin.Tuple.tupleTooMany;rw [hmul];exact uj9 (by lia)
   have f0:List.foldl (λx1 x2=>x1++x2) #[] (List.replicate k.toNat its.toArray)=(List.replicate k.toNat its).flatten.toArray:=by
    have:=Ii its k.toNat [];rw [uj1] at this;exact this
   have hfz:(List.foldl (λx1 x2=>x1++x2) #[] (List.replicate k.toNat its.toArray)).size<=sizeLine:=by
    rw [f0,ug1,LE,ul9];exact hsz
   refine call_meets F.slot_tuple_mul ⟨_,ho,rfl⟩ F.entry_tuple_mul (F.args_tuple_mul_2 _ _) (O0 a its.toArray n dd sl k t hc0 hc1 hc2 hc3 hc4 hfz) ⟨ho,?_⟩;rw [f0];exact ⟨.ref _,_,I.tnew (t':=s.toks) (r.rep k.toNat) (by rw [LE,ul9];exact hz),rfl,q2 hs _ I.fresh⟩
theorem Io (l:Addr)(items:Array Value)(n:Nat)(b:Addr)(items2:Array Value)(n2:Nat)(dd:Option Addr)(sl:Array (Option Value))(hs0:¬(!items.isEmpty && Builtin.List.listTooLong (items.size + items2.size))=true)(hs1:items.size<=sizeLine)(hs2:items.size + items2.size<=sizeLine + 1) :
 Meets (Builtin.«list.extend» ⟨[.ref l,.ref b],[]⟩) (λ_ R s=>s.heap.get? l=some { cls:=.type "list",dict:=none,data:=.seq items n,slots:=#[] }/\s.heap.get? b=some { cls:=.type "tuple",dict:=dd,data:=.seq items2 n2,slots:=sl }/\R (.ok (.ret Value.none)) { s with heap:=s.heap.update l (Obj.mapSeq λx=>x++items2),toks:=s.toks }):=
 .of_wp λprog w A R s h=>by
  obtain ⟨hp,g,d,tk,os⟩:=s;obtain ⟨hl,hb,h⟩:=h;have f1:=AutoSeq1.idx_int;have f2:=AutoSeq1.sub_tuple_tuple;have f3:=AutoSeq1.sub_list_list;have f4:=AutoSeq1.sub_tuple_list;have f5:=AutoSeq1.sub_list_tuple;have hz':(items++items2).size<=sizeLine + 1:=by rw [Array.size_append];exact hs2
  wp_walk using (wpAny_updateSeq hl rfl (hz:=hs1) (_hz':=hz')),wpAny_loadPart' hl,wpAny_loadPart' hb;exact ⟨_,rfl,h⟩
def Oe (K:PySem.W.Frag):V->List V->Hp->VK->Prop:=λx vs H Q=>∃l b xs zs,x = .ref l/\vs=[.ref b]/\H l=some (.lst xs)/\SqT K H b zs/\xs.length + zs.length<=sizeLine/\Q .non (upd H l (.lst (xs++zs)))
theorem Qj {X:Cx}:MtM X "list.extend" (Oe X.K):=by
 intro pins s σ H x vs v us Q I rx rv h;obtain ⟨l,b,xs,zs,rfl,rfl,hH,hB,hz,q⟩:=h
 cases rx
 obtain ⟨u,rfl,ru⟩:=rv.one
 cases ru
 obtain ⟨z,its,n,r,hl,e⟩:=I.lstM hH;obtain ⟨its2,r2,⟨⟨cls,dd,data,sl⟩,ho,hc,n2,hd⟩,z2⟩:=I.tuple hB;simp only at hc hd;subst hc hd;have hl2:=r2.length;have hsz:its.toArray.size + its2.toArray.size<=sizeLine:=by rw [ug1,ug1];lia
 have hlong:¬(!its.toArray.isEmpty && Builtin.List.listTooLong (its.toArray.size + its2.toArray.size))=true:=by
  rw [JP hsz,uk2];exact uf2
 refine call_meets F.slot_list_extend ⟨_,e,rfl⟩ F.entry_list_extend (F.args_list_extend_2 _ _)
  (Io l its.toArray n b its2.toArray n2 dd sl hlong (by rw [ug1];lia) (by lia)) ⟨e,ho,?_⟩
 refine ⟨.non,_,I.lset (its':=its++its2) hH e (by simp) (r.append r2) ?_,rfl,q⟩;rw [uf5];lia
theorem MtM.or {X:Cx}{id:String}{r r':V->List V->Hp->VK->Prop}(h:MtM X id r)(h':MtM X id r'):MtM X id (λx xs H Q=>r x xs H Q\/r' x xs H Q):=by
 intro pins s σ H x xs v us Q I rx rv q;rcases q with q | q
 ·exact h pins s σ H x xs v us Q I rx rv q
 ·exact h' pins s σ H x xs v us Q I rx rv q
section
variable {X:Cx}{a b c d:Expr}{ta tb tc td:TE}{pos:Pos}
end
end L2
namespace F2
open PySem L2 PySem.Spec
section
variable {K:PySem.W.Frag}
def Bp (x y:D):M D:=match x,y with
 | .tup [],.tup ys=>ret (.tup ys)
 | x,y=>SZ x y
def UF (K:PySem.W.Frag):R2:=λx y H Q=>Qw K x y H Q\/UG K x y H Q
theorem AU {X:Cx}:OpR X (binaryOp .Add) (UF X.K):=op_add4.or VG
theorem AO:Ck K (UF K) Bp:=λ{Oo c t σ H x y dx dy r t' Q} f rx ry eq k=>by
 unfold Bp at eq
 split at eq
 ·next ys=>
  cases eq
  cases rx with
  | tup h1 h2 h3=>
    cases h3
    cases ry with
    | tup g1 g2 g3=>exact .inr ⟨_,_,_,rfl,rfl,SqT.of h1,SqT.of g1,k _ H c f .refl (.tup g1 g2 g3)⟩
 ·exact .inl (V7 f rx ry eq k)
def JN:D->D->M D
 | .int i,.int j=>λt=>if F4 i j=true then some (.int (i * j),t) else none
 | .tup xs,.int k=>λt=>if C8 k=true/\xs.length * k.toNat<=LIM then some (.tup (List.replicate k.toNat xs).flatten,t) else none
 | .lst xs,.int k=>λt=>if C8 k=true/\xs.length * k.toNat<=LIM then some (.lst (List.replicate k.toNat xs).flatten,t) else none
 | _,_=>fail
def Qy (K:PySem.W.Frag):R2:=λx y H Q=>rI CMul (λi j=>.int (i * j)) x y H Q\/(UM K x y H Q\/XV x y H Q)
theorem op_mul3 {X:Cx}:OpR X (binaryOp .Mult) (Qy X.K):=op_mul.or (op_mulT.or Xo)
theorem Vu {dx dy r:D}{t t':T}(eq:JN dx dy t=some (r,t')):∃j,dy = .int j/\((∃i,dx = .int i)\/(∃ds,dx = .tup ds)\/∃ds,dx = .lst ds):=by
 unfold JN at eq
 split at eq
 ·exact ⟨_,rfl,.inl ⟨_,rfl⟩⟩
 ·exact ⟨_,rfl,.inr (.inl ⟨_,rfl⟩)⟩
 ·exact ⟨_,rfl,.inr (.inr ⟨_,rfl⟩)⟩
 ·cases eq
theorem Wc:Ck K (Qy K) JN:=λ{Oo c t σ H x y dx dy r t' Q} f rx ry eq k=>by
 obtain ⟨j,rfl,hd⟩:=Vu eq
 cases ry
 rcases hd with ⟨i,rfl⟩ | ⟨ds,rfl⟩ | ⟨ds,rfl⟩
 ·cases rx
  unfold JN at eq;dsimp only at eq
  split at eq
  ·next h=>cases eq;exact .inl ⟨i,j,rfl,rfl,R3 h,k _ H c f .refl (.int _)⟩
  ·cases eq
 ·cases rx with
  | @tup a vs _ h1 h2 h3=>
    unfold JN at eq;dsimp only at eq
    split at eq
    ·next h=>
     cases eq
     obtain ⟨g1,g2⟩:=Fa h.1;refine .inr (.inl ⟨a,j,vs,rfl,rfl,SqT.of h1,g1,g2,by rw [h3.length];exact ul7 h.2 Di,λhs=>?_,λhs p hp=>?_⟩)
     ·rcases hs with z | z
      ·subst z;have:ds=[]:=uc0.mp h3.length.symm;subst this;have e:(List.replicate j.toNat ([]:List D)).flatten=[]:=by simp
       rw [e] at k;exact k _ H c f .refl (.tup h1 h2 h3)
      ·subst z;have e:(List.replicate (1:Int).toNat ds).flatten=ds:=by simp
       rw [e] at k;exact k _ H c f .refl (.tup h1 h2 h3)
     ·exact k _ _ c (f.laid hp) (f.stp_laid hp) (.tup Ax (f.s.free hp) ((h3.rep j.toNat).mono (Ext.laid f.s hp)))
    ·cases eq
 ·cases rx with
  | @lst a vs _ h1 h2 h3=>
    unfold JN at eq;dsimp only at eq
    split at eq
    ·next h=>
     cases eq
     obtain ⟨g1,g2⟩:=Fa h.1;refine .inr (.inr ⟨a,j,vs,rfl,rfl,h1,by lia,by lia,by rw [h3.length];exact ul7 h.2 Di,λp hp=>?_⟩);exact k _ _ c (f.laid hp) (f.stp_laid hp) (.lst Ax (f.s.free hp) ((h3.rep j.toNat).mono (Ext.laid f.s hp)))
    ·cases eq
end
variable {K:PySem.W.Frag}
section
variable {X:Cx}{e a b:Expr}{pos:Pos}
def DW (xs:List D):List D->Option (List D)
 | [d]=>if xs.length < LIM then some (xs++[d]) else none
 | _=>none
def Hj (xs:List D):List D->Option (List D)
 | [.lst ys]=>if xs.length + ys.length<=LIM then some (xs++ys) else none
 | [.tup ys]=>if xs.length + ys.length<=LIM then some (xs++ys) else none
 | _=>none
def ownM (i:Nat)(h:List D->List D->Option (List D))(g:M (List D)):M Out:=λt=>match t.env[i]? with
 | some (some (.own _))=>bnd g (λds t1=>match t1.env[i]? with
   | some (some (.own xs))=>(h xs ds).map λys=>(.next,{ t1 with env:=t1.env.set i (some (.own ys)) })
   | _=>none) t
 | _=>none
def PN (K:PySem.W.Frag)(R:V->List V->Hp->VK->Prop)(h:List D->List D->Option (List D)):Prop:=∀{c:Cf} {S:List Ob} {H:Hp} {a:Addr} {vs us:List V} {xs ds ys:List D} {Q:VK},SInv K c S H->H a=some (.lst vs)->Reps K c H vs xs->Reps K c H us ds->h xs ds=some ys->
 (∀ws,Reps K c H ws ys->Q .non (upd H a (.lst ws)))->R (.ref a) us H Q
theorem V8:PN K Pq DW:=λ{c S H a vs us xs ds ys Q} s h r rs e k=>by
 unfold DW at e
 split at e
 ·next d=>
  split at e
  ·next hl=>
   cases e
   obtain ⟨v,rfl,rv⟩:=EU rs;exact ⟨a,vs,v,rfl,rfl,h,by rw [r.length];exact uf0 hl Di,k _ (r.append (.cons rv .nil))⟩
  ·cases e
 ·cases e
def UI (K:PySem.W.Frag):V->List V->Hp->VK->Prop:=λx xs H Q=>Ps x xs H Q\/Oe K x xs H Q
theorem Pj {X:Cx}:MtM X "list.extend" (UI X.K):=mt_extend.or Qj
theorem Pu:PN K (UI K) Hj:=λ{c S H a vs us xs ds ys Q} s h r rs e k=>by
 unfold Hj at e
 split at e
 ·split at e
  ·next hl=>
   cases e
   obtain ⟨v,rfl,rv⟩:=EU rs
   cases rv with
   | lst h1 h2 h3=>exact .inl ⟨a,_,vs,_,rfl,rfl,h,h1,by rw [r.length,h3.length];exact ul7 hl Di,k _ (r.append h3)⟩
  ·cases e
 ·split at e
  ·next hl=>
   cases e
   obtain ⟨v,rfl,rv⟩:=EU rs
   cases rv with
   | tup h1 h2 h3=>exact .inr ⟨a,_,vs,_,rfl,rfl,h,SqT.of h1,by rw [r.length,h3.length];exact ul7 hl Di,k _ (r.append h3)⟩
  ·cases e
 ·cases e
theorem RS.ownM {μ:Cf->Hp->D->(V->Hp->Prop)->Prop}{K:PySem.W.Frag}{i:Nat}{h:List D->List D->Option (List D)}{g:M (List D)}{R:V->List V->Hp->VK->Prop}(s:PN K R h){E:Ends}{σ:L2.St}{H:Hp}(q:RSg K μ (F2.ownM i h g) E σ H):UQ (tBM K "list" R (Yi i) (RA K g)) E σ H:=by
 obtain ⟨Oo,c,t,fi,o,t',eq,k⟩:=q;unfold F2.ownM at eq
 split at eq
 ·next xs0 e0=>
  obtain ⟨ds,t1,e1,eq⟩:=Aw eq;obtain ⟨a,vs0,h1,h2,h3,h4,h5⟩:=fi.own i xs0 e0;refine ⟨.ref a,h1,.inl ⟨rfl,vs0,SqL.of h4⟩,Oo,c,t,fi,ds,t1,e1,λus H1 c1 f1 s1 rus=>?_⟩
  split at eq
  ·next xs ex=>
   obtain ⟨ys,ey,ez⟩:=uc8.mp eq
   cases ez
   obtain ⟨a',vs,g1,g2,g3,g4,g5⟩:=f1.own i xs ex;rw [h1] at g1;injection g1 with g1;injection g1 with g1;injection g1 with g1;subst g1
   refine s f1.s g4 g5 rus ey λws rws=>?_;obtain ⟨f2,s2⟩:=f1.wrOwn ex h1 rws;exact k σ _ c1 f2 (s1.trans s2)
  ·cases eq
 ·cases eq
theorem Rl {μ:Cf->Hp->D->(V->Hp->Prop)->Prop}(i:Nat){x:Str}{es:List Expr}{g:M (List D)}{px apos cpos:Pos}(ha:PA X (e :: es) (RA X.K g))(hN:X.N[i]?=some x:=by rfl)(hv:Vis X.env.scope x:=by first | exact Or.inl rfl | exact Or.inr (Or.inl rfl) | exact Or.inr (Or.inr rfl))(hd:(x == ("__debug__" : Str))=false:=by decide)
 (hcd:(x == ("__classdict__" : Str))=false:=by decide)
 (hbase:attributeBase (.Name x px) "append" X.env (eval (.Name x px) X.env)=eval (.Name x px) X.env:=by rfl)
 (hfew:((backTo cpos (starEach (e :: es) X.env)).all (λx=>!x.1) && (backToKw cpos (keywordEach [] X.env)).all (λx=>x.1.isSome) && decide ((e :: es).length + ([]:List Keyword).length + (if ([]:List Keyword).isEmpty then 0 else 1) < 30))=true:=by rfl)
 (hline:(apos.endLine == cpos.line)=true:=by rfl) (hs:starEach (e :: es) X.env=(false,eval e X.env) :: starEach es X.env:=by rfl) (hplain:(backTo cpos (starEach es X.env)).any (·.1)=false:=by rfl) :
 PS X (.Expr (.Call (.Attribute (.Name x px) "append" apos) (e :: es) [] cpos) pos) (RSg X.K μ (ownM i DW g)):=
 CA (LS (K3 uc1 PySem.F.slot_list_append PySem.F.type_list_append R1 (DB hN hv hd hcd) ha hbase hfew hline hs hplain)) λ_ _ _ q=>RS.ownM V8 q
theorem Rm {μ:Cf->Hp->D->(V->Hp->Prop)->Prop}(i:Nat){x:Str}{es:List Expr}{g:M (List D)}{px apos cpos:Pos}(ha:PA X (e :: es) (RA X.K g))(hN:X.N[i]?=some x:=by rfl)(hv:Vis X.env.scope x:=by first | exact Or.inl rfl | exact Or.inr (Or.inl rfl) | exact Or.inr (Or.inr rfl))(hd:(x == ("__debug__" : Str))=false:=by decide)
 (hcd:(x == ("__classdict__" : Str))=false:=by decide)
 (hbase:attributeBase (.Name x px) "extend" X.env (eval (.Name x px) X.env)=eval (.Name x px) X.env:=by rfl)
 (hfew:((backTo cpos (starEach (e :: es) X.env)).all (λx=>!x.1) && (backToKw cpos (keywordEach [] X.env)).all (λx=>x.1.isSome) && decide ((e :: es).length + ([]:List Keyword).length + (if ([]:List Keyword).isEmpty then 0 else 1) < 30))=true:=by rfl)
 (hline:(apos.endLine == cpos.line)=true:=by rfl) (hs:starEach (e :: es) X.env=(false,eval e X.env) :: starEach es X.env:=by rfl) (hplain:(backTo cpos (starEach es X.env)).any (·.1)=false:=by rfl) :
 PS X (.Expr (.Call (.Attribute (.Name x px) "extend" apos) (e :: es) [] cpos) pos) (RSg X.K μ (ownM i Hj g)):=
 CA (LS (K3 uc1 PySem.F.slot_list_extend PySem.F.type_list_extend Pj (DB hN hv hd hcd) ha hbase hfew hline hs hplain)) λ_ _ _ q=>RS.ownM Pu q
def objM (h:List D->List D->Option (List D))(f:M D)(g:M (List D)):M D:=bnd f λo=>match o with
 | .obj k=>λt=>match t.S[k]? with
   | some (.lst _)=>bnd g (λds t1=>match t1.S[k]? with
     | some (.lst xs)=>(h xs ds).map λys=>(.non,{ t1 with S:=t1.S.set k (.lst ys) })
     | _=>none) t
   | _=>none
 | _=>fail
theorem RE.objM {K:PySem.W.Frag}{h:List D->List D->Option (List D)}{f:M D}{g:M (List D)}{R:V->List V->Hp->VK->Prop}(s:PN K R h){σ:L2.St}{H:Hp}{Q:VK}(q:RE K (F2.objM h f g) σ H Q):tBM K "list" R (RE K f) (RA K g) σ H Q:=by
 obtain ⟨Oo,c,t,fi,r,t',eq,k⟩:=q;obtain ⟨o,t0,e0,eq⟩:=Aw eq;refine ⟨Oo,c,t,fi,o,t0,e0,λx H0 c0 f0 s0 rx=>?_⟩
 cases rx with
 | @obj a kk hk=>
   dsimp only at eq
   split at eq
   ·next xs0 ex0=>
    obtain ⟨ds,t1,e1,eq⟩:=Aw eq;obtain ⟨vs0,g0,g0'⟩:=f0.s.obs kk a _ hk ex0;refine ⟨.inl ⟨rfl,vs0,SqL.of g0⟩,Oo,c0,t0,f0,ds,t1,e1,λus H1 c1 f1 s1 rus=>?_⟩
    split at eq
    ·next xs ex=>
     obtain ⟨ys,ey,ez⟩:=uc8.mp eq
     cases ez
     have hk1:=s1.ext.io _ _ hk;obtain ⟨vs,g1,g2⟩:=f1.s.obs kk a _ hk1 ex;refine s f1.s g1 g2 rus ey λws rws=>?_;obtain ⟨f2,s2⟩:=f1.wrObj (o:=.lst ys) (u:=.lst ws) hk1 λc' H' ext hu=>⟨ws,hu,rws.mono ext⟩;exact k _ _ c1 f2 ((s0.trans s1).trans s2) .non
    ·cases eq
   ·cases eq
 | _=>cases eq
def Yc (o i d:D):M Unit:=match o,i with
 | .obj k,.int j=>λt=>match t.S[k]? with
   | some (.lst xs)=>(ixN xs.length j).map λn=>((),{ t with S:=t.S.set k (.lst (xs.set n d)) })
   | _=>none
 | _,_=>fail
def stD (f g:M D)(d:D):M Unit:=bnd f λo=>bnd g λi=>Yc o i d
end
section
variable {X:Cx}{e a b tg iter elt:Expr}{ifs:List Expr}{pos:Pos}{scope:Scope}{N':List Str}{n:Nat}{fr:List Nat}{f:M (List D)}{st:D->M Unit}{tst:M Bool}{el:M D}
def EF:M Bool:=ret true
theorem D7:PIf X [] (RT X.K EF):=λpins s σ H Q I z9=>by
 obtain ⟨Oo,c,t,fi,r,t',eq,k⟩:=z9;exact VT pins s σ H Q I (by cases eq;exact k H c fi .refl)
theorem D6 (O:CmpOk X scope N' (H9 n fr))(hc:X.calm=true)(hi:PI X tg iter (RI X.K f))
 (hg:∀cl C s2 H2 fp,PG (ED X N' scope cl C s2 H2 fp) tg (RG X.K st)) (ht:∀cl C s2 H2 fp,PIf (ED X N' scope cl C s2 H2 fp) ifs (RT X.K tst)) (he:∀cl C s2 H2 fp,PE (ED X N' scope cl C s2 H2 fp) elt (RE X.K el))
 (hs:∀x,foldedSetIterable iter X.env x=pure x:=by intro _;rfl):PE X (.ListComp elt [⟨tg,iter,ifs,0⟩] scope pos) (RF X.K (DX n fr f st tst el)):=
 BP (VP O hc hi hg ht he hs) λ_ _ _ q=>RF.comp q
theorem EI (tgs:List Str)(frn:List (Nat×Str))(hk:scope.kind = .function)(hcell:(scope.names.all λy=>y.2 != .cell)=true)(hloc:(scope.names.all λy=>y.2 != .local || scope.names.lookup y.1 == some .local)=true)
 (hfree:(scope.names.all λy=>y.2 != .free || X.env.kindOf y.1 == some .cell || X.env.kindOf y.1 == some .free)=true)
 (hf:(frn.all λp=>X.N[p.1]? == some p.2 && scope.names.lookup p.2 == some .free)=true):CmpOk X scope (tgs++frn.map (·.2)) (H9 tgs.length (frn.map (·.1))):=by
 rw [uh8] at hcell hloc hfree hf;refine ⟨hk,λy hy=>by simpa using hcell y hy,λy hy hl=>?_,λy hy hl=>?_,λσ _=>by simp [H9],λσ j x v h1 h2=>?_⟩
 ·have:=hloc y hy;simpa [hl] using this
 ·have:=hfree y hy;simpa [hl] using this
 ·unfold H9 at h2
  by_cases hj:j < tgs.length
  ·rw [ub2 (by simpa using hj),ub8] at h2
   split at h2 <;> simp at h2
  ·rw [ua7 (by simpa using hj),ud2,ug2,ug2] at h2;rw [ua7 (by simpa using hj),ug2] at h1
   cases e:frn[j - tgs.length]? with
   | none=>rw [e] at h1;cases h1
   | some p=>
     rw [e] at h1 h2;simp only [uj4,ug8] at h1 h2;have hp:=hf p (ue0 e);rw [uh4] at hp;refine ⟨p.1,by rw [<-h1];simpa using hp.1,?_,by rw [<-h1];simpa using hp.2⟩
     cases e2:σ[p.1]? with
     | none=>rw [e2] at h2;cases h2
     | some o=>rw [e2] at h2;simpa using h2
end
mutual
noncomputable def C7:D->Bool
 | .tup xs=>GU xs
 | .lst xs=>GU xs
 | .obj _=>false
 | .scr _=>false
 | .exc _ _=>false
 | _=>true
noncomputable def GU:List D->Bool
 | []=>true
 | d :: r=>C7 d && GU r
end
def c0:Cf:=⟨[],λ_=>False⟩
theorem Lq (a:Addr):¬c0.A a:=λh=>h.elim (λz=>nomatch z) λz=>z
mutual
theorem G8 {K:PySem.W.Frag}{c:Cf}{H:Hp}{v:V}{d:D}(r:Rep K c H v d)(p:C7 d=true):Rep K c0 H v d:=by
 cases r with
 | non=>exact .non
 | bl b=>exact .bl b
 | int i=>exact .int i
 | str x=>exact .str x
 | ty n=>exact .ty n
 | tup h n r=>exact .tup h (Lq _) (IZ r (by simpa [C7] using p))
 | lst h n r=>exact .lst h (Lq _) (IZ r (by simpa [C7] using p))
 | scr h=>simp [C7] at p
 | dic h n=>exact .dic h (Lq _)
 | obj h=>simp [C7] at p
 | exc _ _ _ _ _=>simp [C7] at p
theorem IZ {K:PySem.W.Frag}{c:Cf}{H:Hp}{vs:List V}{ds:List D}(r:Reps K c H vs ds)(p:GU ds=true):Reps K c0 H vs ds:=by
 cases r with
 | nil=>exact .nil
 | cons h t=>
   simp only [GU,uh4] at p;exact .cons (G8 h p.1) (IZ t p.2)
end
noncomputable def Ew (S:List Ob):D->D
 | .obj k=>match S[k]? with
   | some (.lst ds)=>.lst ds
   | _=>.obj k
 | d=>d
noncomputable def Tu:D->Bool
 | .obj _=>true
 | _=>false
def eqS (g:Bool->Bool)(x y:D):M D:=λt=>
 if (Tu x || Tu y)=true then (if (C7 (Ew t.S x) && C7 (Ew t.S y))=true then (eqN EQD (Ew t.S x) (Ew t.S y)).map λb=>(.bl (g b),t) else none)
 else (eqN EQD x y).map λb=>(.bl (g b),t)
theorem CW {c:Cf}{S:List Ob}{H:Hp}{v:V}{d:D}(s:SInv K c S H)(r:Rep K c H v d)(p:C7 (Ew S d)=true):Rep K c0 H v (Ew S d):=by
 cases r with
 | @obj a k hk=>
   unfold Ew at p ⊢;dsimp only at p ⊢
   split
   ·next ds e=>
    rw [e] at p;obtain ⟨vs,h1,h2⟩:=s.obs k a _ hk e;exact .lst h1 (Lq _) (IZ h2 (by simpa [C7] using p))
   ·next h=>
    split at p
    ·next ds e=>exact absurd e (h ds)
    ·simp [C7] at p
 | non=>exact .non
 | bl b=>exact .bl b
 | int b=>exact .int b
 | str b=>exact .str b
 | ty b=>exact .ty b
 | tup h n q=>exact G8 (.tup h n q) p
 | lst h n q=>exact G8 (.lst h n q) p
 | scr h=>exact G8 (c:=c) (.scr h) p
 | dic h n=>exact G8 (.dic h n) p
 | exc a b n f q=>exact G8 (.exc a b n f q) p
theorem A3 {g:Bool->Bool}:Ck K (Qx K g) (eqS g):=λ{Oo c t σ H x y dx dy r t' Q} f rx ry eq k=>by
 unfold eqS at eq
 split at eq
 ·split at eq
  ·next hp=>
   rw [uh4] at hp;obtain ⟨b,e1,e2⟩:=uc8.mp eq
   cases e2
   exact ⟨c0,_,_,b,CW f.s rx hp.1,CW f.s ry hp.2,e1,k _ H c f .refl (.bl (g b))⟩
  ·cases eq
 ·obtain ⟨b,e1,e2⟩:=uc8.mp eq
  cases e2
  exact ⟨c,dx,dy,b,rx,ry,e1,k _ H c f .refl (.bl (g b))⟩
theorem RJ {H:Hp}{a:Addr}{ns:List Int}{f:Fn}{S':List Ob}(hO:PK H)(hS:SqL K H a (ns.map V.int))(e:f [.scr ns] []=some (.bl true,S')):spF K f [.ref a] H (λv _=>v = .bl true) λ_ _ _=>False:=by
 refine ⟨c0,[.scr ns],[],⟨rfl,List.Pairwise.nil,λk a o h=>by simp [c0] at h,λb z=>z.elim,λb z=>z.elim⟩,.cons (.scr ?_) .nil,.bl true,S',e,λv H' c' _ _ _ rv=>by cases rv;rfl⟩;rcases hS with (h | h) | h
 ·rcases hO a with z | ⟨o,xs,z⟩
  ·rw [z] at h;cases h
  ·rw [z] at h;cases h
 ·exact .inl ⟨h,Lq _⟩
 ·exact .inr h
end F2
namespace L2
open PySem PySem.Spec PyProof.Rows
section
variable {prog:Program}{w:World}{A:Around}{E:Value->Shared->Prop}{s:Shared}
theorem Kz {it l:Addr}{items:Array Value}(hne:l≠it):∀(n i:Nat) (s:Shared) (Q:List Value->Shared->Prop),s.heap.IsListIter it l i->s.heap.IsList l items->i + n<=items.size->
 (∀h',h'.IsListIter it l (i + n)->Heap.SameBut it s.heap h'->Q ((items.toList.drop i).take n) { s with heap:=h' })->wpAny (model prog w) A (draw (.ref it) n) Q E s
 | 0,i,s,Q,hit,_,_,hQ=>un5 (by simpa using hQ s.heap hit (Heap.SameBut.refl ..))
 | n + 1,i,s,Q,hit,ht,hle,hQ=>by
   have hlt:i < items.size:=by lia
   refine un4 (wpAny_pyNext_list_item hit ht (x:=items[i]) (by simp [hlt]) λh1 hit1 hs1=>?_);refine un4 (ul4 (Kz hne n (i + 1) _ _ hit1 (ht.extBut hs1.extBut hne) (by lia) λh2 hit2 hs2=>un5 ?_));have hd:items.toList.drop i=items[i] :: items.toList.drop (i + 1):=by simp [ub3,hlt]
   have:=hQ h2 (by rw [show i + (n + 1)=i + 1 + n by lia];exact hit2) (hs1.trans hs2);rw [hd,ue8] at this;exact this
theorem OB {l:Addr}{items:Array Value}{targets:List (Bool×(Value->Sem Unit))}{Q:Unit->Shared->Prop}(hh:A.handled=none)(ht:s.heap.IsList l items)(hn:targets.length=items.size)(hstar:targets.findIdx? (·.1)=none)
 (h:∀h',Heap.ExtBut s.heap.objs.size s.heap h'->wpAny (model prog w) A (assignInOrder (targets.map (·.2)) items.toList) Q E { s with heap:=h' }):wpAny (model prog w) A (unpack (.ref l) targets) Q E s:=by
 have hlt:l≠s.heap.objs.size:=by obtain ⟨o,ho,_⟩:=ht;exact ul6 (ul5 ho)
 unfold unpack;rw [hn,hstar];refine un4 (ul4 ?_);unfold unpackItems;refine un4 ?_;unfold notIterableAtAll;refine un4 (wpAny_specialOf ht.typeIs PySem.F.slot_list_iter.lookup ?_);refine un5 ?_;simp only [uf6,if_false];refine un4 (ul4 (wpAny_pyIter_list ht ?_));have hp:Heap.IsList (s.heap.push { cls:=.type "list_iterator",data:=.fields #[.ref l,.int 0 0] }) l items:=by
  obtain ⟨o,ho,r⟩:=ht;exact ⟨o,uc4 _ ho,r⟩
 refine un4 (ul4 (Kz hlt items.size 0 _ _ ⟨_,ue4 _ rfl,rfl,rfl⟩ hp (by lia) λh1 hit1 hs1=>?_));have hall:List.take items.size (List.drop 0 items.toList)=items.toList:=by
  rw [uk3];exact List.take_of_length_le (by simp)
 rw [hall];rw [if_neg (by simp)];have ht1:Heap.IsList h1 l items:=hp.extBut hs1.extBut hlt;refine un4 (ul4 (wpAny_pyNext_list_end hh hit1 ht1 (by simp) λh2 he2=>?_));simp only [Option.isSome_none,uf6,if_false];exact un5 (h h2 λb o hb e=>he2 b o hb (hs1.extBut b o hb (uc4 _ e)))
end
section
variable {X:Cx}{pos:Pos}
def gUn (K:PySem.W.Frag)(n:Nat)(t:TGs):TG:=λv σ H Q=>∃a xs,v = .ref a/\(SqT K H a xs\/SqL K H a xs)/\xs.length=n/\t xs σ H Q
theorem YO {es:List Expr}{k:Nat}{t:TGs}{n:Nat}(hc:X.calm=true)(h:PGs X es t)
 (hn:(assignEach es X.env).length=n:=by rfl) (hst:(assignEach es X.env).findIdx? (·.1)=none:=by rfl):PG X (.Tuple es k pos) (gUn X.K n t):=by
 intro pins s σ H v u Q I r hw;obtain ⟨a,xs,e1,hq | hq,hl,hw⟩:=hw
 ·exact Xz hc h hn hst pins s σ H v u Q I r ⟨a,xs,e1,hq,hl,hw⟩
 ·subst e1
  cases r
  obtain ⟨its,rv,ht,hz⟩:=I.list hq;rw [assign_Tuple];refine un4 (wpAny_standAt (OB (I.ok.hd hc) ht.isList (by simp [hn,<-hl,rv.length]) hst λh' hx=>?_));have I1:Inv X pins σ H { s with heap:=h' }:=I.kept (t':=s.toks) λb o e=>hx b o (ul6 (ul5 e)) e;exact h pins _ σ H xs _ Q I1 (by simpa using rv) hw
end
section
open HT
variable {prog:Program}{w:World}{A:Around}{E:Value->Shared->Prop}{s:Shared}
theorem HQ {t sl:Addr}{items:Array Value}{vl vu:Value}{lo hi:Option Int}{Q:Value->Shared->Prop}(ht:IsTup s.heap t items)(hs:s.heap.IsSliceOf sl vl vu .none)(pl:IsPart vl lo)(pu:IsPart vu hi)
 (hw:sIx items.size 0 lo=0/\sIx items.size items.size hi=items.size) (h:Q (.ref t) s):wpAny (model prog w) A (getItem (.ref t) (.ref sl)) Q E s:=by
 obtain ⟨os,hos,hcs,hds⟩:=id hs;have hTs:s.TypeIs (.ref sl) "slice":=⟨os,hos,hcs⟩;unfold getItem
 try with_reducible refine ul4 ?_
 first | refine un4 (un5 ?_) | skip
 refine un4 (wpAny_sequenceKey ht.typeIs (by decide) ?_);refine un4 (wpAny_callSpecial?_slot (name:=Str.ofString "__getitem__") ht.typeIs ua1
  (wpAny_call_entry ua1 ht.typeIs entry_tuple_getitem ?_ (args_tuple_getitem _ _)))
 show wpAny _ _ (Builtin.Tuple.tupleItemsOf (.ref t) >>= _) _ _ s;refine un4 (tupleItemsOf_ ht ?_);refine un4 (wpAny_typeOf hTs ?_);rw [if_pos (by decide)];refine un4 (Gx hs pl pu ?_);have hyes:(((sIx items.size 0 lo:Nat):Int) == 0 && (1:Int) == 1 && (sIx items.size items.size hi - sIx items.size 0 lo) == items.size)=true:=by
  rw [hw.1,hw.2];simp
 show wpAny _ _ (if (((sIx items.size 0 lo:Nat):Int) == 0 && (1:Int) == 1 && (sIx items.size items.size hi - sIx items.size 0 lo) == items.size)=true then _ else _) _ _ s;rw [if_pos hyes];refine un4 (m:=Builtin.Tuple.tupleIsExact _) ?_;unfold Builtin.Tuple.tupleIsExact;refine un4 (wpAny_typeOf ht.typeIs (un5 ?_));rw [if_pos (by decide)]
 first
  | exact un4 (wpAny_rule (un5 ⟨_,rfl,un5 h⟩))
  | exact un4 (wpAny_rule (un4 (un5 (un5 ⟨_,rfl,un5 h⟩))))
end
section
variable {X:Cx}
def X0 (K:PySem.W.Frag):V->Option Int->Option Int->Hp->VK->Prop:=λx lo hi H Q=>∃a xs,x = .ref a/\SqT K H a xs/\(HT.sIx xs.length 0 lo=0/\HT.sIx xs.length xs.length hi=xs.length)/\Q (.ref a) H
theorem Wl:SlR X (X0 X.K):=by
 intro pins s σ H x v vl vu lo hi sl Q I rx hs pl pu h;obtain ⟨a,xs,rfl,hx,hw,q⟩:=h
 cases rx
 obtain ⟨its,r,ht,hz⟩:=I.tuple hx;have hlen:its.toArray.size=xs.length:=by rw [ug1];exact r.length.symm
 exact ⟨"tuple",_,ua1.lookup,ht.typeIs,HQ ht hs pl pu (by rw [hlen];exact hw) ⟨.ref a,H,I,rfl,q⟩⟩
end
noncomputable def Its (z:Str):It:=⟨λi _=>i < z.cps.size,λi H x H'=>H'=H/\∃c,z.cps[i]?=some c/\x = .str ⟨#[c]⟩,λi _=>i=z.cps.size⟩
theorem OA {P:Program}{w:World}{K:PySem.W.Frag}{tg:Expr}{T:String}{x:Str}{t:Tok}(it:Addr)(hT:["enumerate", "zip", "dict_itemiterator", "dict_reverseitemiterator", "odict_iterator", "itertools.zip_longest", "itertools.pairwise"].contains T=false)
 (W:∀A:Around,A.handled=none->Walks P w A it [it] [it] x.cps.size (SignAt x) (λi h=>h.IsStrIter it T x t i))
 (self:∀(A:Around) (i:Nat) (s:Shared) (Q:Value->Shared->Prop) (E:Value->Shared->Prop),s.heap.IsStrIter it T x t i->Q (.ref it) s->wpAny (model P w) A (pyIter (.ref it)) Q E s) :
 Turn P w K tg (Its x) [it] it (λi h=>h.IsStrIter it T x t i) where
 mem:=by simp
 obj:=λi h st b hb=>by
  have e:b=it:=by simpa using hb
  subst e;obtain ⟨o,e,c,d⟩:=st;exact ⟨o,e,λv z=>by rw [d] at z;cases z⟩
 keep:=λi h h' st k=>by
  obtain ⟨o,e,r⟩:=st;exact ⟨o,k it (by simp) o e,r⟩
 item:=by
  intro X hP hw hK hc i pins s σ H E I hf st hg;subst hP hw hK;obtain ⟨f0,f1,f2,f3,f4,f5⟩:=hf it (by simp);refine (W X.A (I.ok.hd hc)).item i s _ _ hg st λv h' tk hv st' kk=>?_;obtain ⟨c,u,hcc,rfl⟩:=hv;have I1:Inv X pins σ H { s with heap:=h',toks:=tk }:=I.turned (λb o hb e=>kk b o (by simpa using hb) e) f0 f1 f3 f4 f5;obtain ⟨o,e,ec,ed⟩:=id st';exact ⟨_,rfl,MZ (s:={ s with heap:=h',toks:=tk }) e ec ed hT ⟨.str ⟨#[c]⟩,H,I1,⟨u,rfl⟩,⟨rfl,c,hcc,rfl⟩,st',λb hb=>(hf b hb).1⟩⟩
 done:=by
  intro X hP hw hK hc i pins s σ H E I hf st hg;subst hP hw hK;obtain ⟨f0,f1,f2,f3,f4,f5⟩:=hf it (by simp);have hg':i=x.cps.size:=hg;subst hg';exact (W X.A (I.ok.hd hc)).done s _ _ st λh' tk kk=>⟨rfl,I.turned (λb o hb e=>kk b o (by simpa using hb) e) f0 f1 f3 f4 f5⟩
 self:=λA i s Q E st h=>self A i s Q E st h
section
variable {X:Cx}{tg:Expr}{pos:Pos}
def aa (K:PySem.W.Frag)(tl:TE):TI:=λσ H R=>tl σ H λx H1=>(∃a,x = .ref a/\(∃xs,SqL K H1 a xs)/\R (Itl K a) H1)\/(∃a,x = .ref a/\(∃xs,SqT K H1 a xs)/\R (Itt K a) H1)\/∃z,x = .str z/\R (Its z) H1
theorem XA {l:Expr}{tl:TE}(hl:PE X l tl):PI X tg l (aa X.K tl):=by
 intro pins s σ H R I h;refine thn (hl pins s σ H _ I h) λv s1 z9=>?_;obtain ⟨x,H1,I1,r1,q1⟩:=z9;have fp:∀b∈[s1.heap.objs.size],FpOk X pins H1 b:=λb hb=>by
  have e:b=s1.heap.objs.size:=by simpa using hb
  subst e;exact I1.fpOk (um9 _) (I1.hok.fresh (um9 _))
 rcases q1 with ⟨a,rfl,⟨xs,hq⟩,q⟩ | ⟨a,rfl,⟨xs,hq⟩,q⟩ | ⟨z,rfl,q⟩
 ·cases r1
  obtain ⟨its,rv,p,hz⟩:=I1.list hq;refine wpAny_pyIter_list p.isList ?_;exact ⟨s1.heap.objs.size,[s1.heap.objs.size],_,_,H1,rfl,I1.kept (t':=s1.toks) λb o e=>uc4 _ e,SI a _,⟨_,ue4 _ rfl,rfl,rfl⟩,fp,q⟩
 ·cases r1
  obtain ⟨its,rv,p,hz⟩:=I1.tuple hq;refine wpAny_pyIter_tuple (show s1.heap.IsTuple a its.toArray from p) ?_;exact ⟨s1.heap.objs.size,[s1.heap.objs.size],_,_,H1,rfl,I1.kept (t':=s1.toks) λb o e=>uc4 _ e,QL a _,⟨_,ue4 _ rfl,rfl,rfl⟩,fp,q⟩
 ·obtain ⟨t,rfl⟩:=r1
  cases ha:z.cps.all (· < 128)
  ·refine wpAny_pyIter_wide ha ?_;exact ⟨s1.heap.objs.size,[s1.heap.objs.size],_,_,H1,rfl,I1.kept (t':=s1.toks) λb o e=>uc4 _ e,OA (T:="str_iterator") (x:=z) (t:=t) _ (by decide) (λA hA=>Walks.strWide hA _ z t) (λ_ _ _ _ _ st h=>wpAny_pyIter_striter_wide st h),⟨_,ue4 _ rfl,rfl,rfl⟩,fp,q⟩
  ·refine wpAny_pyIter_ascii ha ?_;exact ⟨s1.heap.objs.size,[s1.heap.objs.size],_,_,H1,rfl,I1.kept (t':=s1.toks) λb o e=>uc4 _ e,OA (T:="str_ascii_iterator") (x:=z) (t:=t) _ (by decide) (λA hA=>Walks.strAscii hA _ z t) (λ_ _ _ _ _ st h=>wpAny_pyIter_striter_ascii st h),⟨_,ue4 _ rfl,rfl,rfl⟩,fp,q⟩
def UL:R2:=λx y H Q=>∃z k,x = .str z/\y = .int k/\MulOk z k/\Q (.str (Txt.mul z k)) H
theorem VI:OpR X (binaryOp .Mult) UL:=by
 intro pins s σ H x y v u Q I rx ry h;obtain ⟨z,k,rfl,rfl,hk,q⟩:=h;obtain ⟨t,rfl⟩:=rx;obtain ⟨t',rfl⟩:=ry;exact SB.mul hk λt2 tk=>⟨.str _,H,I.tok tk,⟨t2,rfl⟩,q⟩
def XY:V->Option Int->Option Int->Hp->VK->Prop:=λx lo hi H Q=>∃z,x = .str z/\z.length<=sizeLine/\Q (.str (Txt.slice z lo hi)) H
theorem sl_str:SlR X XY:=by
 intro pins s σ H x v vl vu lo hi sl Q I rx hs pl pu h;obtain ⟨z,rfl,hz,q⟩:=h;obtain ⟨t,rfl⟩:=rx;refine ⟨"str",_,PySem.F.slot_str_getitem.lookup,typeIs_str _ _ _,?_⟩;have part:∀{v:Value} {o:Option Int},IsPart v o->∃l:Option (Int×Tok),v=partValue l/\l.map (·.1)=o:=λ{v o} p=>by
  cases p with
  | none=>exact ⟨none,rfl,rfl⟩
  | int i t=>exact ⟨some (i,t),rfl,rfl⟩
 obtain ⟨l,rfl,el⟩:=part pl;obtain ⟨u,rfl,eu⟩:=part pu;refine wpAny_getItem_str_slice (l:=l) (u:=u) (st:=none) (by obtain ⟨o,h1,h2,h3⟩:=hs;exact ⟨o,h1,h2,h3⟩) rfl ?_;unfold sliceMade slicePicked;rw [el,eu];show (if ((1:Int) == 1 && (Builtin.Str.strSliceIndices lo hi 1 z.length).length == z.length)=true then Made.val (.str z t) else Made.str ⟨((Builtin.Str.strSliceIndices lo hi 1 z.length).filterMap (z.cps[·]?)).toArray⟩).post _ s;have hle:=Txt.slice_le z lo hi;unfold Txt.slice at q hle
 by_cases hc:((1:Int) == 1 && (Builtin.Str.strSliceIndices lo hi 1 z.length).length == z.length)=true
 ·rw [if_pos hc] at q ⊢;exact ⟨.str z,H,I,⟨t,rfl⟩,q⟩
 ·rw [if_neg hc] at q hle ⊢;exact ⟨ul7 hle hz,.str _,H,I.tok _,⟨_,rfl⟩,q⟩
def HD (g:Int->Int->Bool)(h:List Nat->List Nat->Bool):R2:=λx y H Q=>(∃i j,x = .int i/\y = .int j/\Q (.bl (g i j)) H)\/∃i j,x = .str i/\y = .str j/\Q (.bl (h i.cps.toList j.cps.toList)) H
theorem K0:OpR X (compareOp .Lt) (HD (λi j=>decide (i < j)) λi j=>decide (i < j)):=op_lt.or λpins s σ H x y v u Q I rx ry h=>by
 obtain ⟨i,j,rfl,rfl,q⟩:=h;obtain ⟨t,rfl⟩:=rx;obtain ⟨t',rfl⟩:=ry;exact P.lt_str ⟨.bl _,H,I,rfl,q⟩
theorem KZ:OpR X (compareOp .LtE) (HD (λi j=>decide (i<=j)) λi j=>!(decide (j < i))):=op_le.or λpins s σ H x y v u Q I rx ry h=>by
 obtain ⟨i,j,rfl,rfl,q⟩:=h;obtain ⟨t,rfl⟩:=rx;obtain ⟨t',rfl⟩:=ry;exact P.le_str ⟨.bl _,H,I,rfl,q⟩
theorem G3:OpR X (compareOp .Gt) (HD (λi j=>decide (j < i)) λi j=>decide (j < i)):=op_gt.or λpins s σ H x y v u Q I rx ry h=>by
 obtain ⟨i,j,rfl,rfl,q⟩:=h;obtain ⟨t,rfl⟩:=rx;obtain ⟨t',rfl⟩:=ry;exact P.gt_str ⟨.bl _,H,I,rfl,q⟩
theorem KY:OpR X (compareOp .GtE) (HD (λi j=>decide (j<=i)) λi j=>!(decide (i < j))):=op_ge.or λpins s σ H x y v u Q I rx ry h=>by
 obtain ⟨i,j,rfl,rfl,q⟩:=h;obtain ⟨t,rfl⟩:=rx;obtain ⟨t',rfl⟩:=ry;exact P.ge_str ⟨.bl _,H,I,rfl,q⟩
end
end L2
namespace F2
open PySem L2 PySem.Spec
def Fk:D->M (List D)
 | .lst ds=>ret ds
 | .scr ns=>ret (ns.map .int)
 | .tup ds=>ret ds
 | .str x=>ret (x.cps.toList.map λc=>.str ⟨#[c]⟩)
 | _=>fail
def Gk (f:M D):M (List D):=bnd f Fk
def Fy:D->D->M D
 | .str x,.int k=>λt=>if C8 k=true/\x.length * k.toNat<=LIM/\k<=LIM/\x.length<=LIM then some (.str (Txt.mul x k),t) else none
 | x,y=>JN x y
def DH:D->Option Int->Option Int->M D
 | .str x,lo,hi=>lim x.length (.str (Txt.slice x lo hi))
 | .tup ds,lo,hi=>ret (.tup (Dq ds lo hi))
 | x,lo,hi=>slD x lo hi
def Nz (g:Int->Int->Bool)(h:List Nat->List Nat->Bool):D->D->M D
 | .int i,.int j=>ret (.bl (g i j))
 | .str x,.str y=>ret (.bl (h x.cps.toList y.cps.toList))
 | _,_=>fail
def ltA:=Nz (λi j=>decide (i < j)) (λi j=>decide (i < j))
def leA:=Nz (λi j=>decide (i<=j)) (λi j=>!(decide (j < i)))
def gtA:=Nz (λi j=>decide (j < i)) (λi j=>decide (j < i))
def geA:=Nz (λi j=>decide (j<=i)) (λi j=>!(decide (i < j)))
def unS (n:Nat)(g:List D->M Unit):D->M Unit
 | .tup ds=>if ds.length=n then g ds else fail
 | .lst ds=>if ds.length=n then g ds else fail
 | _=>fail
def Z3:M D:=fC .dic
variable {K:PySem.W.Frag}{n:Nat}{g:List D->M Unit}{es:List Expr}
section
variable {X:Cx}{e a b:Expr}{pos:Pos}{st:Stmt}
theorem ItOk.str {K:PySem.W.Frag}{c:Cf}{H:Hp}{x:Str}:ItOk K (Its x) c H (x.cps.toList.map λc=>.str ⟨#[c]⟩):=by
 refine ⟨λc' H' i ex hi=>?_,λc' H' i y H'' d ex hd hy=>?_,λc' H' ex=>?_⟩
 ·show i < x.cps.size;simpa using hi
 ·obtain ⟨rfl,n,hn,rfl⟩:=hy;refine ⟨rfl,?_⟩;have:d = .str ⟨#[n]⟩:=by
   rw [ug2] at hd;have hn':x.cps.toList[i]?=some n:=by simpa using hn
   rw [hn'] at hd;simpa using hd.symm
  rw [this];exact .str _
 ·show _=x.cps.size;simp
theorem Gn {tg:Expr}{f:M D}(h:PE X e (RE X.K f)):PI X tg e (RI X.K (Gk f)):=
 Na (XA h) λσ H R z9=>by
  obtain ⟨Oo,c,t,fi,ds,t',eq,k⟩:=z9;obtain ⟨d,t1,e1,eq⟩:=Aw eq;refine ⟨Oo,c,t,fi,d,t1,e1,λv H1 c1 f1 s1 rv=>?_⟩
  cases rv with
  | @lst p vs ds' h1 h2 h3=>
    cases eq
    exact .inl ⟨p,rfl,⟨vs,SqL.of h1⟩,k _ H1 c1 f1 s1 (ItOk.lst λc' H' ex=>⟨vs,SqL.of (ex.keep _ _ h1 h2),h3.mono ex⟩)⟩
  | @scr p ns h1=>
    cases eq
    exact .inl ⟨p,rfl,⟨_,h1.sq⟩,k _ H1 c1 f1 s1 (ItOk.lst λc' H' ex=>⟨_,(h1.mono ex).sq,Reps.ints ns⟩)⟩
  | @tup p vs ds' h1 h2 h3=>
    cases eq
    exact .inr (.inl ⟨p,rfl,⟨vs,SqT.of h1⟩,k _ H1 c1 f1 s1 (ItOk.tup λc' H' ex=>⟨vs,SqT.of (ex.keep _ _ h1 h2),h3.mono ex⟩)⟩)
  | str x=>
    cases eq
    exact .inr (.inr ⟨x,rfl,k _ H1 c1 f1 s1 ItOk.str⟩)
  | _=>cases eq
theorem RG.un {v:V}{σ:L2.St}{H:Hp}{Q:L2.St->Hp->Prop}(q:RG K (unS n g) v σ H Q):gUn K n (RGs K g) v σ H Q:=by
 obtain ⟨Oo,c,t,d,fi,rv,t',eq,k⟩:=q
 cases rv with
 | @tup a vs ds h1 h2 h3=>
   unfold unS at eq
   by_cases hn:ds.length=n
   ·dsimp only at eq;rw [if_pos hn] at eq;exact ⟨a,vs,rfl,.inl (SqT.of h1),by rw [h3.length];exact hn,Oo,c,t,ds,fi,h3,t',eq,k⟩
   ·dsimp only at eq;rw [if_neg hn] at eq;cases eq
 | @lst a vs ds h1 h2 h3=>
   unfold unS at eq
   by_cases hn:ds.length=n
   ·dsimp only at eq;rw [if_pos hn] at eq;exact ⟨a,vs,rfl,.inr (SqL.of h1),by rw [h3.length];exact hn,Oo,c,t,ds,fi,h3,t',eq,k⟩
   ·dsimp only at eq;rw [if_neg hn] at eq;cases eq
 | _=>cases eq
theorem GG {k:Nat}(hc:X.calm=true)(h:PGs X es (RGs X.K g))(hn:(assignEach es X.env).length=n:=by rfl)(hst:(assignEach es X.env).findIdx? (·.1)=none:=by rfl):PG X (.Tuple es k pos) (RG X.K (unS n g)):=
 M9 (YO hc h hn hst) λ_ _ _ _ q=>RG.un q
theorem Cd {f:D->M Unit}(h1:PG X e (RG X.K f))(h2:PGs X es (RGs X.K g))(hs:(assignEach (e :: es) X.env).map (·.2)=assign e X.env :: (assignEach es X.env).map (·.2):=by rfl):PGs X (e :: es) (RGs X.K (B3 f g)):=
 O2 (T0 h1 h2 hs) λ_ _ _ _ q=>RGs.cons q
end
section
variable {K:PySem.W.Frag}
def UK (K:PySem.W.Frag):R2:=λx y H Q=>Qy K x y H Q\/UL x y H Q
theorem Ga {X:Cx}:OpR X (binaryOp .Mult) (UK X.K):=op_mul3.or VI
theorem ON {x:Str}{k:Int}(h:C8 k=true/\x.length * k.toNat<=LIM/\k<=LIM/\x.length<=LIM):MulOk x k:=by
 obtain ⟨g1,g2⟩:=Fa h.1;have hL:LIM=100000:=rfl;refine ⟨?_,λh1 _=>?_,λh1 _=>?_⟩
 ·rw [Bool.or_eq_false_iff];exact ⟨uj9 (by lia),uj9 (by lia)⟩
 ·have h2:k<=100000:=by have:=h.2.2.1;rw [hL] at this;exact this
  have h3:x.length<=100000:=by have:=h.2.2.2;rw [hL] at this;exact this
  have h4:(92233720368547:Int)<=(2 ^ 63 - 1) / k:=by
   rw [Int.le_ediv_iff_mul_le (by lia)];lia
  lia
 ·have h5:=h.2.1;rw [hL] at h5;unfold Builtin.Str.tooLong
  first | exact uj9 (by unfold sizeLine;lia) | (unfold sizeLine;exact uj9 (by lia))
theorem FF:Ck K (UK K) Fy:=λ{Oo c t σ H x y dx dy r t' Q} f rx ry eq k=>by
 unfold Fy at eq
 split at eq
 ·next z kk=>
  split at eq
  ·next h=>
   cases eq
   cases rx
   cases ry
   exact .inr ⟨z,kk,rfl,rfl,ON h,k _ H c f .refl (.str _)⟩
  ·cases eq
 ·exact .inl (Wc f rx ry eq k)
def XW (K:PySem.W.Frag):V->Option Int->Option Int->Hp->VK->Prop:=λx lo hi H Q=>T9 K x lo hi H Q\/(XY x lo hi H Q\/X0 K x lo hi H Q)
theorem sl3 {X:Cx}:SlR X (XW X.K):=sl2.or (sl_str.or Wl)
theorem P7 {α:Type}{xs:List α}{lo hi:Option Int}(h:HT.sIx xs.length 0 lo=0/\HT.sIx xs.length xs.length hi=xs.length):Dq xs lo hi=xs:=by
 unfold Dq;rw [h.1,h.2];simp
theorem Dh:SU K (XW K) DH:=λ{Oo c t σ H x dx r lo hi t' Q} f rx eq k=>by
 unfold DH at eq
 split at eq
 ·next z=>
  obtain ⟨h,e⟩:=EX eq
  cases e
  cases rx
  exact .inr (.inl ⟨z,rfl,ul7 h Di,k _ H c f .refl (.str _)⟩)
 ·next ds=>
  cases eq
  cases rx with
  | @tup p vs ds h1 h2 h3=>
    by_cases hw:HT.sIx ds.length 0 lo=0/\HT.sIx ds.length ds.length hi=ds.length
    ·rw [P7 hw] at k;exact .inr (.inr ⟨p,vs,rfl,SqT.of h1,by rw [h3.length];exact hw,k _ H c f .refl (.tup h1 h2 h3)⟩)
    ·exact .inl (.inr ⟨p,vs,rfl,SqT.of h1,by rw [h3.length];exact hw,λq hq=>k _ _ c (f.laid hq) (f.stp_laid hq) (.tup Ax (f.s.free hq) ((JY h3 lo hi).mono (Ext.laid f.s hq)))⟩)
 ·exact .inl (X9 f rx eq k)
theorem I9 {g:Int->Int->Bool}{h:List Nat->List Nat->Bool}:Ck K (HD g h) (Nz g h):=λ{Oo c t σ H x y dx dy r t' Q} f rx ry eq k=>by
 cases rx with
 | int i=>cases ry with
   | int j=>cases eq;exact .inl ⟨i,j,rfl,rfl,k _ H c f .refl (.bl _)⟩
   | _=>cases eq
 | str i=>cases ry with
   | str j=>cases eq;exact .inr ⟨i,j,rfl,rfl,k _ H c f .refl (.bl _)⟩
   | _=>cases eq
 | _=>cases eq
theorem Jd:Ck K (HD (λi j=>decide (i < j)) λi j=>decide (i < j)) ltA:=I9
theorem Jb:Ck K (HD (λi j=>decide (i<=j)) λi j=>!(decide (j < i))) leA:=I9
theorem Gb:Ck K (HD (λi j=>decide (j < i)) λi j=>decide (j < i)) gtA:=I9
theorem Ja:Ck K (HD (λi j=>decide (j<=i)) λi j=>!(decide (i < j))) geA:=I9
end
theorem BQ {P:Program}{w:World}{mg:Str->Option Value}{base:Heap}{x qual:Str}{st:Stmt}{fa:Addr}{fd:FuncData}{N ps:List Str}{k m:Nat}{g:M Out}(e1:ps.length=n)(e2:N.length=m)(F:Fun K x qual st fa fd)(S:FnScope N ps (Ao st))
 (hb:∀(cdv:Value) (A:Around) (outer:List Env) (s:Shared) (H:Hp) (E:XK),Room k (A.deeper (PyProof.Rows.envOfC qual (Ao st) s.heap.objs.size fa cdv))->
   PSs (Em CX0 P w K mg base N qual (Ao st) fa cdv A outer s H E).nox (Ca st) (RS K g)):FnOk P w K mg base CX0 (k + 1) fa fd ps (spF K (fnOf n m g)):=by
 subst e1 e2;exact YG F S hb
theorem BR {P:Program}{w:World}{mg:Str->Option Value}{base:Heap}{fa:Addr}{fd:FuncData}{ps:List Str}{k:Nat}{f g:Fn}(e:f=g)(h:FnOk P w K mg base CX0 k fa fd ps (spF K g)):FnOk P w K mg base CX0 k fa fd ps (spF K f):=by rw [e];exact h
theorem B7:bootBuiltins "len" = some (.builtin "len"):=by decide +kernel
theorem Co:bootBuiltins "isinstance" = some (.builtin "isinstance"):=by decide +kernel
theorem Q2:bootBuiltins "ord" = some (.builtin "ord"):=by decide +kernel
theorem Kp:bootBuiltins "min" = some (.builtin "min"):=by decide +kernel
theorem WR:bootBuiltins "max" = some (.builtin "max"):=by decide +kernel
theorem Q1:bootBuiltins "int" = some (.type "int"):=by decide +kernel
theorem Kq:bootBuiltins "str" = some (.type "str"):=by decide +kernel
theorem U0:bootBuiltins "bool" = some (.type "bool"):=by decide +kernel
theorem GW:bootBuiltins "list" = some (.type "list"):=by decide +kernel
theorem Hf:bootBuiltins "tuple" = some (.type "tuple"):=by decide +kernel
noncomputable def Cv:Expr->Bool
 | .Starred _ _=>true
 | _=>false
theorem Ct {e:Expr}{env:Env}(h:Cv e=false):starEach (e :: es) env=(false,eval e env) :: starEach es env:=by
 cases e <;> first | rfl | cases h
def CH (es:List Expr):Bool:=es.all λe=>!Cv e
theorem Ci:∀{es:List Expr} {env:Env} {p:Pos},CH es=true->(backTo p (starEach es env)).any (·.1)=false/\(backTo p (starEach es env)).all (λx=>!x.1)=true
 | [],env,p,_=>⟨rfl,rfl⟩
 | e :: es,env,p,h=>by
   have h':Cv e=false/\CH es=true:=by
    rw [CH,uk8,uh4] at h;exact ⟨by simpa using h.1,h.2⟩
   obtain ⟨h1,h2⟩:=Ci (es:=es) (env:=env) (p:=p) h'.2;rw [Ct h'.1];refine ⟨?_,?_⟩
   ·show (false || (backTo p (starEach es env)).any (·.1))=false;rw [h1];rfl
   ·show (!false && (backTo p (starEach es env)).all (λx=>!x.1))=true;rw [h2];rfl
section
variable {X:Cx}{e a b:Expr}{es:List Expr}{pos:Pos}
theorem Aa {f:M D}{g:M (List D)}(ha:PE X e (RE X.K f))(hr:PA X es (RA X.K g))(hs:Cv e=false:=by rfl):PA X (e :: es) (RA X.K (Ac f g)):=Va ha hr (Ct hs)
theorem Ap {k:Nat}{fa:Addr}{fd:FuncData}{ps:List Str}{g:Fn}{f:M (List D)}{x:Str}{p:Pos}(F:FnOk X.prog X.w X.K X.mg X.base CX0 k fa fd ps (spF X.K g))(hr:Room k X.A)(hg:Gl X x)(hm:X.mg x=some (.ref fa))(hk:PySem.W.keepIn X.K (.ref fa)=true)(hb:Binds X.K fd ps [])
 (ha:PA X (e :: es) (RA X.K f)) (hdb:(x == ("__debug__" : Str))=false:=by decide) (h1:Cv e=false:=by rfl) (h2:CH es=true:=by rfl) :
 PE X (.Call (.Name x p) (e :: es) [] pos) (RE X.K (Ar g f)):=Vb F hr hg hm hk hb ha hdb (Ct h1) (Ci h2).1
theorem Bz {id:String}{R:List V->Hp->VK->Prop}{h:List D->M D}{f:M (List D)}{x:Str}{p:Pos}(hc:Du X (.builtin id) R)(s:FR X.K R h)(hg:Gl X x)(hm:X.mg x=none)(hv:bootBuiltins x=some (.builtin id))(ha:PA X (e :: es) (RA X.K f))(hn:x≠"__name__":=by decide)(hdb:(x == ("__debug__" : Str))=false:=by decide)
 (h1:Cv e=false:=by rfl) (h2:CH es=true:=by rfl):PE X (.Call (.Name x p) (e :: es) [] pos) (RE X.K (fB f h)):=Z4 hc s hg hm hv ha hn hdb (Ct h1) (Ci h2).1
theorem Uz {id:String}{R:List V->Hp->VK->Prop}{h:List D->M D}{f:M (List D)}{x:Str}{p:Pos}(hc:Du X (.type id) R)(s:FR X.K R h)(hg:Gl X x)(hm:X.mg x=none)(hv:bootBuiltins x=some (.type id))(ha:PA X (e :: es) (RA X.K f))(hn:x≠"__name__":=by decide)(hdb:(x == ("__debug__" : Str))=false:=by decide)
 (h1:Cv e=false:=by rfl) (h2:CH es=true:=by rfl):PE X (.Call (.Name x p) (e :: es) [] pos) (RE X.K (fB f h)):=Z5 hc s hg hm hv ha hn hdb (Ct h1) (Ci h2).1
theorem MX {id:String}{R:List V->Hp->VK->Prop}{h:List D->M (List D)}{f:M (List D)}{x:Str}{p:Pos}(hc:Du X (.type id) R)(s:MT X.K R h)(hg:Gl X x)(hm:X.mg x=none)(hv:bootBuiltins x=some (.type id))(ha:PA X (e :: es) (RA X.K f))(hn:x≠"__name__":=by decide)(hdb:(x == ("__debug__" : Str))=false:=by decide)
 (h1:Cv e=false:=by rfl) (h2:CH es=true:=by rfl):PE X (.Call (.Name x p) (e :: es) [] pos) (RF X.K (fBF f h)):=Z6 hc s hg hm hv ha hn hdb (Ct h1) (Ci h2).1
theorem BZ {tg:Expr}{f:M (List D)}{p:Pos}(hg:Gl X "range")(hm:X.mg "range" = none)(ha:PA X [a] (RA X.K f))(h1:Cv a=false:=by rfl):PI X tg (.Call (.Name "range" p) [a] [] pos) (RI X.K (CJ f)):=Ri hg hm ha (Ct h1)
theorem FZ {tg:Expr}{f:M (List D)}{p:Pos}(hg:Gl X "range")(hm:X.mg "range" = none)(ha:PA X [a,b] (RA X.K f))(h1:Cv a=false:=by rfl)(h2:Cv b=false:=by rfl):PI X tg (.Call (.Name "range" p) [a,b] [] pos) (RI X.K (FY f)):=
 Rj hg hm ha (by rw [Ct h1,Ct h2];rfl) (Ct h2)
theorem Rg {cpos:Pos}(h1:Cv e=false)(h2:CH es=true)(h3:es.length < 20):((backTo cpos (starEach (e :: es) X.env)).all (λx=>!x.1) && (backToKw cpos (keywordEach [] X.env)).all (λx=>x.1.isSome) && decide ((e :: es).length + ([]:List Keyword).length + (if ([]:List Keyword).isEmpty then 0 else 1) < 30))=true:=by
 rw [(Ci (es:=e :: es) (env:=X.env) (p:=cpos) (by rw [CH,uk8,h1];exact h2)).2];show (true && true && decide (es.length + 1 + 0 + 0 < 30))=true;simp;lia
theorem Dd {μ:Cf->Hp->D->(V->Hp->Prop)->Prop}(i:Nat){x:Str}{g:M (List D)}{px apos cpos:Pos}(ha:PA X (e :: es) (RA X.K g))(hN:X.N[i]?=some x:=by rfl)(hv:Vis X.env.scope x:=by first | exact Or.inl rfl | exact Or.inr (Or.inl rfl) | exact Or.inr (Or.inr rfl))(hd:(x == ("__debug__" : Str))=false:=by decide)
 (hcd:(x == ("__classdict__" : Str))=false:=by decide) (hline:(apos.endLine == cpos.line)=true:=by rfl) (h1:Cv e=false:=by rfl) (h2:CH es=true:=by rfl) (h3:es.length < 20:=by decide) :
 PS X (.Expr (.Call (.Attribute (.Name x px) "append" apos) (e :: es) [] cpos) pos) (RSg X.K μ (ownM i DW g)):=Rl i ha hN hv hd hcd rfl (Rg h1 h2 h3) hline (Ct h1) (Ci h2).1
theorem Qd {μ:Cf->Hp->D->(V->Hp->Prop)->Prop}(i:Nat){x:Str}{g:M (List D)}{px apos cpos:Pos}(ha:PA X (e :: es) (RA X.K g))(hN:X.N[i]?=some x:=by rfl)(hv:Vis X.env.scope x:=by first | exact Or.inl rfl | exact Or.inr (Or.inl rfl) | exact Or.inr (Or.inr rfl))(hd:(x == ("__debug__" : Str))=false:=by decide)
 (hcd:(x == ("__classdict__" : Str))=false:=by decide) (hline:(apos.endLine == cpos.line)=true:=by rfl) (h1:Cv e=false:=by rfl) (h2:CH es=true:=by rfl) (h3:es.length < 20:=by decide) :
 PS X (.Expr (.Call (.Attribute (.Name x px) "extend" apos) (e :: es) [] cpos) pos) (RSg X.K μ (ownM i Hj g)):=Rm i ha hN hv hd hcd rfl (Rg h1 h2 h3) hline (Ct h1) (Ci h2).1
end
end F2
namespace HT
open PySem PySem.Spec L2 PyProof.Rows
section
variable {prog:Program}{w:World}{A:Around}{E:Value->Shared->Prop}{s:Shared}
end
end HT
namespace L2
open PySem PySem.Spec PyProof.Rows
section
variable {X:Cx}{e ek:Expr}{p2 pos:Pos}{te:TE}{tk:TO}
end
section
variable {X:Cx}
theorem HY:∀{ys:List Str} {us:List Value},Vals (ys.map V.str) us->CarriedAll us (ys.map PyData.str)
 | [],_,r=>by cases r;exact .nil
 | _ :: _,_,r=>by
   cases r with
   | cons r1 r2=>obtain ⟨t,rfl⟩:=r1;exact .cons (.str _ _) (HY r2)
def UJ (K:PySem.W.Frag):V->List V->Hp->VK->Prop:=λx xs H Q=>∃z a ys,x = .str z/\xs=[.ref a]/\SqL K H a (ys.map V.str)/\(∀y∈ys,y.length<=8)/\z.length<=8/\ys.length<=1048576/\Q (.str (Txt.join z ys)) H
theorem Vs:MtR X "str.join" (UJ X.K):=by
 intro pins s σ H x xs v us Q I rx rs h;obtain ⟨z,a,ys,rfl,rfl,ha,h1,h2,h3,q⟩:=h;obtain ⟨t,rfl⟩:=rx;obtain ⟨u,rfl,ru⟩:=F5 rs
 cases ru
 obtain ⟨its,r,pl,_⟩:=I.list ha;refine join_madeW (l:=ys) (g:=id) 8 pl.isList (by rw [List.map_id];exact HY r) h1 h3 (by lia) λt' k=>?_;rw [List.map_id];exact ⟨.str _,H,I.tok _,⟨_,rfl⟩,q⟩
end
section
variable {X:Cx}
end
section
variable {X:Cx}
end
end L2
namespace F2
open PySem L2 PySem.Spec
section
variable {X:Cx}{K:PySem.W.Frag}
noncomputable def Gz:List D->Option (List Str)
 | []=>some []
 | .str x :: r=>if x.length<=8 then (Gz r).map (x :: ·) else none
 | _=>none
def joinM (f:M D)(g:M (List D)):M D:=bnd f λo=>bnd g λas=>match o,as with
 | .str z,[.lst ds]=>λt=>match Gz ds with
   | some ys=>if z.length<=8/\ys.length<=1048576 then some (.str (Txt.join z ys),t) else none
   | none=>none
 | _,_=>fail
theorem Ow {c:Cf}{H:Hp}:∀{ds:List D} {vs:List V} {ys:List Str},Reps K c H vs ds->Gz ds=some ys->vs=ys.map V.str/\∀y∈ys,y.length<=8
 | [],_,ys,r,e=>by
   cases r
   cases e
   exact ⟨rfl,λ_ h=>nomatch h⟩
 | d :: ds,_,ys,r,e=>by
   cases r with
   | cons r1 r2=>
     cases r1 with
     | str x=>
       unfold Gz at e
       split at e
       ·next hx=>
        obtain ⟨zs,e1,rfl⟩:=uc8.mp e;obtain ⟨h1,h2⟩:=Ow r2 e1;refine ⟨by rw [h1];rfl,λy hy=>?_⟩;rcases uk6.mp hy with rfl | hy
        ·exact hx
        ·exact h2 y hy
       ·cases e
     | _=>cases e
theorem RE.joinM {f:M D}{g:M (List D)}{σ:L2.St}{H:Hp}{Q:VK}(q:RE K (F2.joinM f g) σ H Q):tBM K "str" (UJ K) (RE K f) (RA K g) σ H Q:=by
 obtain ⟨Oo,c,t,fi,r,t',eq,k⟩:=q;obtain ⟨d,t1,e1,eq⟩:=Aw eq;obtain ⟨as,t2,e2,eq⟩:=Aw eq;refine ⟨Oo,c,t,fi,d,t1,e1,λv H1 c1 f1 s1 rv=>?_⟩
 split at eq
 ·next z ds=>
  cases rv
  refine ⟨rfl,Oo,c1,t1,f1,_,t2,e2,λus H2 c2 f2 s2 rus=>?_⟩;obtain ⟨w,rfl,rw'⟩:=EU rus
  split at eq
  ·next ys ey=>
   split at eq
   ·next hz=>
    cases eq
    cases rw' with
    | @lst p vs ds h1 h2 h3=>
      obtain ⟨h4,h5⟩:=Ow h3 ey;subst h4;exact ⟨_,p,ys,rfl,rfl,SqL.of h1,h5,hz.1,hz.2,k _ _ c2 f2 (s1.trans s2) (.str _)⟩
   ·cases eq
  ·cases eq
 ·cases eq
theorem Vc {o e:Expr}{es:List Expr}{f:M D}{g:M (List D)}{apos cpos:Pos}(ho:PE X o (RE X.K f))(ha:PA X (e :: es) (RA X.K g))
 (hbase:attributeBase o "join" X.env (eval o X.env)=eval o X.env:=by rfl)
 (hfew:((backTo cpos (starEach (e :: es) X.env)).all (λx=>!x.1) && (backToKw cpos (keywordEach [] X.env)).all (λx=>x.1.isSome) && decide ((e :: es).length + ([]:List Keyword).length + (if ([]:List Keyword).isEmpty then 0 else 1) < 30))=true:=by rfl)
 (hline:(apos.endLine == cpos.line)=true:=by rfl) (hs:starEach (e :: es) X.env=(false,eval e X.env) :: starEach es X.env:=by rfl) (hplain:(backTo cpos (starEach es X.env)).any (·.1)=false:=by rfl) :
 PE X (.Call (.Attribute o "join" apos) (e :: es) [] cpos) (RE X.K (joinM f g)):=
 BP (K3 PySem.F.plainAttrs_str PySem.F.slot_str_join PySem.F.type_str_join Vs ho ha hbase hfew hline hs hplain) λ_ _ _ q=>RE.joinM q
end
end F2
namespace L2
open PySem PySem.Spec PyProof.Rows
def So:R2:=λx y H Q=>∃a kvs k v,x = .ref a/\y = .str k/\H a=some (.dK kvs)/\EG kvs (Sum.inr k:Key)=some v/\Q v H
def XO:V->V->V->Hp->(Hp->Prop)->Prop:=λo i v H Q=>∃a kvs k,o = .ref a/\i = .str k/\H a=some (.dK kvs)/\kvs.length < sizeLine/\Q (upd H a (.dK (EE kvs (Sum.inr k:Key) v)))
section
variable {X:Cx}
theorem BN:IxR X So:=by
 intro value slice pins s σ H x y v u Q I rx ry h hs;obtain ⟨a,kvs,k,z,rfl,rfl,e,l,q⟩:=h
 cases rx
 obtain ⟨_,_,vs,rel,dd⟩:=MW I.hok e;have g:DGet H a (kV (Sum.inr k:Key)) (some z):=by rw [<-l];exact DGet.k e
 have hT:=dd.typeIs;unfold subscriptTail;refine un4 ?_;rw [getitemInPython_of_ne hT.not_modules];refine un4 (wpAny_specialOf hT PySem.F.slot_dict_getitem.lookup ?_);have get:wpAny (model X.prog X.w) X.A (getItem (.ref a) u) (EP X pins σ Q) X.xe s:=by
  obtain ⟨w',hw,rw'⟩:=RelO.some_of (v:=z) (o:=valueAt vs (Sum.inr k:Key)) (by rw [<-l];exact rel.val _);exact wpAny_getItem_of (IT (k:=(Sum.inr k:Key)) ry) dd.mapOf hw ⟨z,H,I.tok _,rw',q⟩
 have fin:wpAny (model X.prog X.w) X.A (subscripted slice false (.ref a) u) (λr s₃=>wpAny (model X.prog X.w) X.A (letTemporaryGo value (.ref a) r >>= λ_=>pure r) (EP X pins σ Q) X.xe s₃) X.xe s:=by
  rw [hs];exact wpAny_operating (un6 get (λr s₃ h₃=>un4 (wpAny_letTemporaryGo (un5 h₃))) λ_ _ x=>x)
 first
  | exact un5 (un4 fin)
  | exact un4 (un5 (un4 fin))
  | exact un4 fin
theorem Wh:WL X XO:=by
 intro pins s σ H o i v ov iv u Q I ro ri rv h;obtain ⟨a,kvs,k,rfl,rfl,e,l,q⟩:=h
 cases ro
 obtain ⟨z,hd,vs,rel,dd⟩:=MW I.hok e;have hz:vs.length<=sizeLine:=by rw [<-rel.length];exact z
 have hl:(EE kvs (Sum.inr k:Key) v).length<=sizeLine:=by have:=Jr kvs (Sum.inr k:Key) v;lia
 refine wpAny_setItem_pairs (hsz:=hz) (IT (k:=(Sum.inr k:Key)) ri) dd λh' dd' hs=>⟨_,?_,q⟩;have he:∃q,h'.get? a=some q:=let ⟨q,_,_,hq,_⟩:=dd';⟨q,hq⟩;exact O9 I (by rw [e];exact True.intro) hs he (NE hl hd (rel.put _ rv) dd')
end
end L2
namespace F2
open PySem L2 PySem.Spec
noncomputable def B5 (kvs:List (Key×D))(k:Key):Option D:=(kvs.find? λkv=>decide (kv.1=k)).map (·.2)
noncomputable def Ch (kvs:List (Key×D))(k:Key)(d:D):List (Key×D):=
 if (kvs.any λkv=>decide (kv.1=k))=true then kvs.map (λkv=>if kv.1=k then (kv.1,d) else kv) else kvs++[(k,d)]
def BY:D->D->M D
 | .obj n,.str x=>λt=>match t.S[n]? with
   | some (.dct kvs)=>(B5 kvs (.inr x)).map λd=>(d,t)
   | _=>none
 | _,_=>fail
def Hc:D->D->D->M Unit
 | .obj n,.str x,d=>λt=>match t.S[n]? with
   | some (.dct kvs)=>if kvs.length < LIM then some ((),{ t with S:=t.S.set n (.dct (Ch kvs (.inr x) d)) }) else none
   | _=>none
 | _,_,_=>fail
def D2 (f g:M D)(d:D):M Unit:=bnd f λo=>bnd g λi=>Hc o i d
def EK:List (Str×M D)->M (List (Key×D))
 | []=>ret []
 | (k,f) :: r=>bnd f λd=>bnd (EK r) λps=>ret ((.inr k,d) :: ps)
def BO (ps:List (Key×D)):List (Key×D):=ps.foldl (λacc kv=>Ch acc kv.1 kv.2) []
def Ly (n:Nat)(ps:List (Key×D)):M D:=λt=>match t.S[n]? with
 | some (.dct [])=>if ps.length<=15 then some (.obj n,{ t with S:=t.S.set n (.dct (BO ps)) }) else none
 | _=>none
def Fg (l:List (Str×M D)):M D:=λt=>bnd (EK l) (Ly t.S.length) { t with S:=t.S++[.dct []] }
section
variable {K:PySem.W.Frag}{c:Cf}{H:Hp}
theorem KVR.get {us:List (Key×V)}{kvs:List (Key×D)}(r:KVR K c H us kvs)(k:Key){d:D}(e:B5 kvs k=some d):∃v,EG us k=some v/\Rep K c H v d:=by
 unfold KVR at r
 induction r with
 | nil=>simp [B5] at e
 | @cons p q ps qs h t ih=>
   by_cases hk:p.1=k
   ·have hq:q.1=k:=h.1.symm.trans hk;have:B5 (q :: qs) k=some q.2:=by simp [B5,uj2,hq]
    rw [this] at e;cases e
    exact ⟨p.2,HK hk,h.2⟩
   ·have hq:¬q.1=k:=λz=>hk (h.1.trans z);have:B5 (q :: qs) k=B5 qs k:=by simp [B5,uj2,hq]
    rw [this] at e;rw [HJ hk];exact ih e
theorem KVR.any {us:List (Key×V)}{kvs:List (Key×D)}(r:KVR K c H us kvs)(k:Key):(us.any λkv=>decide (kv.1=k))=(kvs.any λkv=>decide (kv.1=k)):=by
 unfold KVR at r
 induction r with
 | nil=>rfl
 | @cons p q ps qs h t ih=>rw [ul0,ul0,ih,h.1]
theorem KVR.put {us:List (Key×V)}{kvs:List (Key×D)}(r:KVR K c H us kvs)(k:Key){v:V}{d:D}(rv:Rep K c H v d):KVR K c H (EE us k v) (Ch kvs k d):=by
 unfold EE Ch;rw [r.any k]
 by_cases q:(kvs.any λkv=>decide (kv.1=k))=true
 ·rw [if_pos q,if_pos q];clear q;unfold KVR at r ⊢
  induction r with
  | nil=>exact .nil
  | @cons p q ps qs h t ih=>
    rw [uk9,uk9];refine .cons ?_ ih
    by_cases e:p.1=k
    ·rw [if_pos e,if_pos (h.1.symm.trans e)];exact ⟨h.1,rv⟩
    ·rw [if_neg e,if_neg (λz=>e (h.1.trans z))];exact h
 ·rw [if_neg q,if_neg q];exact Paired.snoc r ⟨rfl,rv⟩
theorem KVR.length {us:List (Key×V)}{kvs:List (Key×D)}(r:KVR K c H us kvs):us.length=kvs.length:=Paired.length r
theorem KVR.mono {c':Cf}{H':Hp}{us:List (Key×V)}{kvs:List (Key×D)}(e:Ext c H c' H')(r:KVR K c H us kvs):KVR K c' H' us kvs:=Paired.mapP r λ_ _ z=>⟨z.1,z.2.mono e⟩
theorem KVR.merge:∀{ps:List (Key×D)} {us:List (Key×V)} {acc:List (Key×D)} {ua:List (Key×V)},KVR K c H us ps->KVR K c H ua acc->KVR K c H (Gs ua us) (ps.foldl (λacc kv=>Ch acc kv.1 kv.2) acc):=by
 intro ps us acc ua r;unfold KVR at r
 induction r generalizing acc ua with
 | nil=>intro q;exact q
 | @cons p q ps qs h t ih=>
   intro r0;refine ih ?_;show KVR K c H (EE ua p.1 p.2) (Ch acc q.1 q.2);have:=KVR.put r0 p.1 h.2;rw [<-h.1];exact this
theorem Ba:Ck K So BY:=λ{Oo c t σ H x y dx dy r t' Q} f rx ry eq k=>by
 unfold BY at eq
 split at eq
 ·next n z=>
  cases ry
  cases rx with
  | @obj a kk hk=>
    split at eq
    ·next kvs es=>
     obtain ⟨d,e1,e2⟩:=uc8.mp eq
     cases e2
     obtain ⟨us,g1,g2⟩:=f.s.obs _ a _ hk es;obtain ⟨v,e3,e4⟩:=g2.get _ e1;exact ⟨a,us,z,v,rfl,rfl,g1,e3,k _ H c f .refl e4⟩
    ·cases eq
 ·cases eq
end
section
variable {X:Cx}{pos:Pos}{e:Expr}
theorem CD {o i:Expr}{f g:M D}(ho:PE X o (RE X.K f))(hi:PE X i (RE X.K g))
 (ha:∀v,assign (.Subscript o i pos) X.env v=(do
   let ov <-holding [v] (eval o X.env)
   let iv <-holding [v,ov] (eval i X.env)
   standAt pos
   holding [v,ov,iv] (setItem ov iv v)
   release [v,ov,iv] []):=by intro _;rfl):PG X (.Subscript o i pos) (RG X.K (D2 f g)):=
 M9 (Xy ho hi Wh ha) λv σ H Q z9=>by
  obtain ⟨Oo,c,t,d,fi,rv,t',eq,k⟩:=z9;obtain ⟨d0,t1,e1,eq⟩:=Aw eq;obtain ⟨di,t2,e2,eq⟩:=Aw eq;refine ⟨Oo,c,t,fi,_,t1,e1,λx H1 c1 f1 s1 rx=>⟨Oo,c1,t1,f1,di,t2,e2,λy H2 c2 f2 s2 ry=>?_⟩⟩;unfold Hc at eq
  split at eq
  ·next n z dd=>
   cases ry
   cases rx with
   | @obj a kk hk=>
     split at eq
     ·next kvs es=>
      split at eq
      ·next hl=>
       cases eq
       have hk2:=s2.ext.io _ _ hk;obtain ⟨us,g1,g2⟩:=f2.s.obs _ a _ hk2 es;refine ⟨a,us,z,rfl,rfl,g1,by rw [g2.length];exact Nat.lt_trans hl WJ,?_⟩;have rv2:=rv.mono (s1.trans s2).ext;obtain ⟨f3,s3⟩:=f2.wrObj (o:=.dct (Ch kvs (.inr z) d)) (u:=.dK (EE us (.inr z) v)) hk2 λc' H' ext hu=>⟨_,hu,(g2.put _ rv2).mono ext⟩;exact k σ _ c2 f3 ((s1.trans s2).trans s3)
      ·cases eq
     ·cases eq
  ·cases eq
def RP (K:PySem.W.Frag)(f:M (List (Key×D)))(σ:St)(H:Hp)(Q:List (V×V)->Hp->Prop):Prop:=
 ∃Oo c t,FInv K Oo c t σ H/\∃ps t',f t=some (ps,t')/\∀us H' c',FInv K Oo c' t' σ H'->Stp Oo c H c' H'->KVR K c' H' us ps->Q (us.map λkv=>(kV kv.1,kv.2)) H'
def PPf (X:Cx)(pos:Pos)(keys:List (Option Expr))(values:List Expr)(f:M (List (Key×D))):Prop:=
 ∃trs,PPs X pos keys values trs/\∀σ H Q,RP X.K f σ H Q->Le trs σ H Q
theorem E4:PPf X pos [] [] (EK []):=⟨[],VZ,λσ H Q z9=>by
 obtain ⟨Oo,c,t,fi,ps,t',eq,k⟩:=z9
 cases eq
 exact k [] H c fi .refl .nil⟩
theorem Cw {k:Str}{j:Nat}{kp:Pos}{v:Expr}{ks:List (Option Expr)}{vs:List Expr}{f:M D}{r:List (Str×M D)}(hv:PE X v (RE X.K f))(hr:PPf X pos ks vs (EK r)) :
 PPf X pos (some (.Constant (.str k) j kp) :: ks) (v :: vs) (EK ((k,f) :: r)):=by
 obtain ⟨trs,h1,h2⟩:=hr;refine ⟨_,T3 Sd hv h1,λσ H Q z9=>?_⟩;obtain ⟨Oo,c,t,fi,ps,t',eq,kk⟩:=z9;obtain ⟨d,t1,e1,eq⟩:=Aw eq;obtain ⟨qs,t2,e2,eq⟩:=Aw eq
 cases eq
 refine ⟨Oo,c,t,fi,d,t1,e1,λy H1 c1 f1 s1 ry=>?_⟩;refine h2 σ H1 _ ⟨Oo,c1,t1,f1,qs,_,e2,λus H2 c2 f2 s2 ru=>?_⟩;exact kk ((.inr k,y) :: us) H2 c2 f2 (s1.trans s2) (.cons ⟨rfl,ry.mono s2.ext⟩ ru)
theorem E2 {keys:List (Option Expr)}{values:List Expr}{l:List (Str×M D)}(h:PPf X pos keys values (EK l))(hall:keys.all (·.isSome)=true:=by rfl)(hl:keys.length=values.length:=by rfl)(h0:keys≠[]:=by exact List.cons_ne_nil _ _)
 (h15:keys.length<=15:=by exact ud4 rfl):PE X (.Dict keys values pos) (RE X.K (Fg l)):=by
 obtain ⟨trs,h1,h2⟩:=h;refine BP (VQ h1 hall hl h0 h15) λσ H Q z9=>?_;obtain ⟨Oo,c,t,fi,r,t',eq,k⟩:=z9;intro p hp;obtain ⟨c1,f1,s1,e1⟩:=fi.newObj (o:=.dct []) (u:=.dK []) hp λc' H' ex hu=>⟨[],hu,.nil⟩;obtain ⟨ps,t2,e2,eq⟩:=Aw eq;refine h2 σ _ _ ⟨Oo,c1,_,f1,ps,t2,e2,λus H2 c2 f2 s2 ru=>?_⟩;unfold Ly at eq
 split at eq
 ·next es=>
  split at eq
  ·next hl15=>
   cases eq
   have hk2:=s2.ext.io _ _ e1;obtain ⟨u0,g1,g2⟩:=f2.s.obs _ p _ hk2 es
   cases g2
   refine ⟨g1,us,rfl,by rw [ru.length];exact hl15,?_⟩;obtain ⟨f3,s3⟩:=f2.wrObj (o:=.dct (BO ps)) (u:=.dK (Gs [] us)) hk2 λc' H' ext hu=>⟨_,hu,(KVR.merge ru .nil).mono ext⟩;exact k _ _ c2 f3 (s1.trans (s2.trans s3)) (.obj hk2)
  ·cases eq
 ·cases eq
end
end F2
namespace L2
open PySem PySem.Spec PyProof.Rows
section
variable {X:Cx}
end
end L2
namespace F2
open PySem L2 PySem.Spec
section
variable {X:Cx}{pos:Pos}{e:Expr}{es:List Expr}
end
end F2
namespace L2
open PySem PySem.Spec PyProof.Rows
section
variable {prog:Program}{w:World}{A:Around}{I:Addr}{fp wr:List Addr}{G:Array GenState->Array GenState->Prop}{n:Nat}{P:Nat->Value->Prop}{St:Nat->Shared->Prop}
end
section
variable {X:Cx}
end
end L2
namespace F2
open PySem L2 PySem.Spec PyProof.Rows
section
variable {X:Cx}{pos:Pos}{e:Expr}
end
end F2
namespace F2
open PySem L2 PySem.Spec
noncomputable def D4 (f:M Bool)(b:M Out):Nat->M Out
 | 0=>λ_=>none
 | n + 1=>λt=>match f t with
   | none=>none
   | some (false,t1)=>some (.next,t1)
   | some (true,t1)=>match b t1 with
     | some (.next,t2)=>D4 f b n t2
     | some (.cont,t2)=>D4 f b n t2
     | some (.brk,t2)=>some (.next,t2)
     | some (.ret x,t2)=>some (.ret x,t2)
     | none=>none
def PP:Nat:=1000000
def OF (f:M Bool)(b:M Out):M Out:=D4 f b PP
theorem RS.while {μ:Cf->Hp->D->(V->Hp->Prop)->Prop}{K:PySem.W.Frag}{f:M Bool}{b:M Out}{E:Ends}{σ:L2.St}{H:Hp}(q:RSg K μ (OF f b) E σ H):SG (RT K f) (RSg K μ b) E σ H:=by
 obtain ⟨Oo,c,t,fi,o,t',eq,k⟩:=q;refine ⟨λm σ' H'=>∃c' t2,FInv K Oo c' t2 σ' H'/\Stp Oo c H c' H'/\D4 f b m t2=some (o,t'),⟨PP,c,t,fi,.refl,eq⟩,?_⟩;rintro m σ' H' ⟨c',t2,f2,s2,e2⟩
 cases m with
 | zero=>cases e2
 | succ m=>
 rw [D4] at e2;dsimp only at e2
 cases ef:f t2 with
 | none=>rw [ef] at e2;cases e2
 | some p=>
 obtain ⟨r,t3⟩:=p;rw [ef] at e2;refine ⟨Oo,c',t2,f2,r,t3,ef,λH3 c3 f3 s3=>?_⟩
 cases r with
 | false=>
   cases e2
   exact k σ' H3 c3 f3 (s2.trans s3)
 | true=>
   rw [if_pos rfl];dsimp only at e2;refine ⟨λσ4 H4=>∃c4 t4,FInv K Oo c4 t4 σ4 H4/\Stp Oo c H c4 H4/\D4 f b m t4=some (o,t'),λσ4 H4 h=>⟨m,Nat.lt_succ_self m,h⟩,?_⟩
   cases eb:b t3 with
   | none=>rw [eb] at e2;cases e2
   | some p=>
   obtain ⟨ob,t4⟩:=p;rw [eb] at e2;refine ⟨Oo,c3,t3,f3,ob,t4,eb,λσ4 H4 c4 f4 s4=>?_⟩
   cases ob with
   | next=>exact ⟨c4,t4,f4,(s2.trans s3).trans s4,e2⟩
   | cont=>exact ⟨c4,t4,f4,(s2.trans s3).trans s4,e2⟩
   | brk=>
     cases e2
     exact k σ4 H4 c4 f4 ((s2.trans s3).trans s4)
   | ret x=>
     cases e2
     exact k σ4 H4 c4 f4 ((s2.trans s3).trans s4)
section
variable {X:Cx}{pos:Pos}
theorem Tn {μ:Cf->Hp->D->(V->Hp->Prop)->Prop}{e:Expr}{body:List Stmt}{f:M Bool}{b:M Out}(hp:PassesOwn (model X.prog X.w) X.A X.env X.xe)(hc:PT X e (RT X.K f))(hb:PSs X body (RSg X.K μ b)):PS X (.While e body [] pos) (RSg X.K μ (OF f b)):=
 CA (T5 hp hc hb) λ_ _ _ q=>RS.while q
end
end F2
namespace L2
open PySem PySem.Spec PyProof.Rows
end L2
namespace F2
open PySem L2 PySem.Spec
end F2
namespace L2
open PySem PySem.Spec PyProof.Rows
section
variable {X:Cx}{tg:Expr}
end
end L2
namespace F2
open PySem L2 PySem.Spec
section
variable {X:Cx}{pos:Pos}{e:Expr}{es:List Expr}
end
noncomputable def Fz (H:Hp)(a:Addr):Hp:=λb=>if b=a then none else H b
theorem TQ {H:Hp}{a:Addr}{o:HO}(h:H a=some o):upd (Fz H a) a o=H:=by
 funext b
 by_cases e:b=a
 ·subst e;rw [Ax];exact h.symm
 ·rw [As e];unfold Fz;rw [if_neg e]
section
variable {K:PySem.W.Frag}{Oo:Addr->Prop}{c:Cf}{t:T}{σ:L2.St}{H:Hp}
theorem FInv.out (f:FInv K Oo c t σ H){i:Nat}{ds:List D}(e:t.env[i]?=some (some (.own ds))){a:Addr}(ha:σ[i]?=some (some (.ref a))) :
 FInv K Oo ⟨c.ι,λb=>c.O b/\b≠a⟩ { t with env:=t.env.set i none } σ (Fz H a)/\Stp Oo c H ⟨c.ι,λb=>c.O b/\b≠a⟩ (Fz H a):=by
 obtain ⟨a',vs,g1,g2,g3,g4,g5⟩:=f.own i ds e;rw [ha] at g1;injection g1 with g1;injection g1 with g1;injection g1 with g1;subst g1
 have ni:a∉c.ι:=f.s.dis a g2;have ext:Ext c H ⟨c.ι,λb=>c.O b/\b≠a⟩ (Fz H a):=by
  refine ⟨λb o hb hn=>?_,λb o hb z=>?_,λk b h=>h⟩
  ·unfold Fz;rw [if_neg λz=>hn (by rw [z];exact .inr g2)];exact hb
  ·rcases z with z | z
   ·exact .inl z
   ·exact .inr z.1
 have stp:Stp Oo c H ⟨c.ι,λb=>c.O b/\b≠a⟩ (Fz H a):=⟨ext,λb hb=>by unfold Fz;rw [if_neg λz=>g3 (by rw [<-z];exact hb)]⟩;have old:∀{j:Nat} {x:Sl},(t.env.set i none)[j]?=some (some x)->j≠i/\t.env[j]?=some (some x):=λ{j x} q=>by
  by_cases h:j=i
  ·subst h;rw [ug7] at q
   split at q
   ·split at q <;> simp at q
   ·contradiction
  ·exact ⟨h,by rw [ud9 (Ne.symm h)] at q;exact q⟩
 refine ⟨⟨⟨f.s.len,f.s.nd,λk b o e1 e2=>?_,λb hb=>?_,λb hb=>f.s.dis b hb.1⟩,by simpa using f.len,λb hb=>⟨f.sub b hb,λz=>g3 (by rw [<-z];exact hb)⟩,λj d q=>?_,λj es q=>?_,λj k es fs b q1 q2 q3 q4=>?_⟩,stp⟩
 ·refine (f.s.obs k b o e1 e2).mono ext ?_;unfold Fz;rw [if_neg λz=>ni (by rw [<-z];exact ue0 e1)]
 ·obtain ⟨o,ho⟩:=f.s.trk b hb.1;exact ⟨o,by unfold Fz;rw [if_neg hb.2];exact ho⟩
 ·obtain ⟨v,h1,h2⟩:=f.val j d (old q).2;exact ⟨v,h1,h2.mono ext⟩
 ·obtain ⟨nj,q'⟩:=old q;obtain ⟨b,us,k1,k2,k3,k4,k5⟩:=f.own j es q';have nb:b≠a:=λz=>nj (f.inj j i es ds a q' e (by rw [k1,z]) ha);exact ⟨b,us,k1,⟨k2,nb⟩,k3,by unfold Fz;rw [if_neg nb];exact k4,k5.mono ext⟩
 ·exact f.inj j k es fs b (old q1).2 (old q2).2 q3 q4
end
noncomputable def IB (i:Nat):M Out:=λt=>match t.env[i]? with
 | some (some (.own xs))=>some (.ret (.lst xs),{ t with env:=t.env.set i none })
 | _=>none
def Iz (f:M (List D)):M Out:=bnd f λds=>ret (.ret (.lst ds))
variable {f:M (List D)}{g:Fn}{fa:Addr}{fd:FuncData}{x:Str}
section
variable {X:Cx}{pos:Pos}{e:Expr}{es:List Expr}
theorem F8 (h:PE X e (RF X.K f)):PS X (.Return (some e) pos) (RSg X.K (μF X.K) (Iz f)):=
 CA (Iw h) λE σ H z9=>by
  obtain ⟨Oo,c,t,fi,o,t',eq,k⟩:=z9;obtain ⟨ds,t1,e1,eq⟩:=Aw eq
  cases eq
  exact ⟨Oo,c,t,fi,ds,_,e1,λp us H1 c1 f1 s1 ru hp=>k σ H1 c1 f1 s1 p us hp ru⟩
theorem Ro (i:Nat){x:Str}{px:Pos}(hN:X.N[i]?=some x:=by rfl)(hv:Vis X.env.scope x:=by first | exact Or.inl rfl | exact Or.inr (Or.inl rfl) | exact Or.inr (Or.inr rfl))(hd:(x == ("__debug__" : Str))=false:=by decide)
 (hcd:(x == ("__classdict__" : Str))=false:=by decide):PS X (.Return (some (.Name x px)) pos) (RSg X.K (μF X.K) (IB i)):=
 CA (Iw (DB hN hv hd hcd)) λE σ H z9=>by
  obtain ⟨Oo,c,t,fi,o,t',eq,k⟩:=z9;unfold IB at eq
  split at eq
  ·next xs ex=>
   cases eq
   obtain ⟨a,vs,h1,h2,h3,h4,h5⟩:=fi.own i xs ex;refine ⟨.ref a,h1,?_⟩;obtain ⟨f2,s2⟩:=fi.out ex h1;have:=k σ (Fz H a) _ f2 s2 a vs (by unfold Fz;rw [if_pos rfl]) (h5.mono s2.ext);rw [TQ h4] at this;exact this
  ·cases eq
def Kf (K:PySem.W.Frag)(f:Fn):Sp:=λvs H Q _=>∃c ds S,SInv K c S H/\Reps K c H vs ds/\∃rs S',f ds S=some (.lst rs,S')/\
 ∀p us H' c',SInv K c' S' H'->Stp c.O c H c' H'->(∀b,c'.O b↔c.O b)->Reps K c' H' us rs->H' p=none->Q (.ref p) (upd H' p (.lst us))
def EJ (g:Fn)(f:M (List D)):M (List D):=bnd f λds t=>match g ds t.S with
 | some (.lst rs,S')=>some (rs,{ t with S:=S' })
 | _=>none
theorem P3 {ds:List D}{t:T}{rs:List D}{t':T}(h:(match g ds t.S with | some (.lst rs,S')=>some (rs,{ t with S:=S' }) | _=>none:Option (List D×T))=some (rs,t')):∃S',g ds t.S=some (.lst rs,S')/\t' = { t with S:=S' }:=by
 split at h
 ·next rs' S' e=>cases h;exact ⟨S',e,rfl⟩
 ·cases h
theorem NJ {k:Nat}{ps:List Str}{p:Pos}(F:FnOk X.prog X.w X.K X.mg X.base CX0 k fa fd ps (Kf X.K g))(hr:Room k X.A)(hg:Gl X x)(hm:X.mg x=some (.ref fa))(hk:PySem.W.keepIn X.K (.ref fa)=true)(hb:Binds X.K fd ps [])
 (ha:PA X (e :: es) (RA X.K f)) (hdb:(x == ("__debug__" : Str))=false:=by decide) (h1:Cv e=false:=by rfl) (h2:CH es=true:=by rfl) :
 PE X (.Call (.Name x p) (e :: es) [] pos) (RF X.K (EJ g f)):=
 BP (Po F hr hg hm hk hb .nil UE ha hdb (Ct h1) (Ci h2).1) λσ H Q z9=>by
  obtain ⟨Oo,c,t,fi,rs,t',eq,kk⟩:=z9;obtain ⟨ds,t1,e1,eq⟩:=Aw eq;obtain ⟨S',e2,rfl⟩:=P3 eq;refine ⟨Oo,c,t,fi,ds,t1,e1,λvs H1 c1 f1 s1 rvs=>?_⟩;show Kf X.K g (vs++[]) H1 Q E0;rw [ui6];refine ⟨c1,ds,t1.S,f1.s,rvs,rs,S',e2,λp us H' c' si st ho ru hp=>?_⟩;obtain ⟨f2,s2⟩:=f1.after si st ho;exact kk p us H' c' f2 (s1.trans s2) ru hp
theorem E1 {k:Nat}{ps:List Str}{p:Pos}(F:FnOk X.prog X.w X.K X.mg X.base CX0 k fa fd ps (Kf X.K g))(hr:Room k X.A)(hg:Gl X x)(hm:X.mg x=some (.ref fa))(hk:PySem.W.keepIn X.K (.ref fa)=true)(hb:Binds X.K fd ps [])
 (ha:PA X (e :: es) (RA X.K f)) (hdb:(x == ("__debug__" : Str))=false:=by decide) (h1:Cv e=false:=by rfl) (h2:CH es=true:=by rfl) :
 PE X (.Call (.Name x p) (e :: es) [] pos) (RE X.K (Bb (EJ g f))):=A1 (NJ F hr hg hm hk hb ha hdb h1 h2)
end
theorem Pe {P:Program}{w:World}{K:PySem.W.Frag}{mg:Str->Option Value}{base:Heap}{qual:Str}{st:Stmt}{N ps:List Str}{k n m:Nat}{g:M Out}(e1:ps.length=n)(e2:N.length=m)(F:Fun K x qual st fa fd)(S:FnScope N ps (Ao st))
 (hb:∀(cdv:Value) (A:Around) (outer:List Env) (s:Shared) (H:Hp) (E:XK),Room k (A.deeper (PyProof.Rows.envOfC qual (Ao st) s.heap.objs.size fa cdv))->
   PSs (Em CX0 P w K mg base N qual (Ao st) fa cdv A outer s H E).nox (Ca st) (RSg K (μF K) g)):FnOk P w K mg base CX0 (k + 1) fa fd ps (Kf K (fnOf n m g)):=by
 subst e1 e2;have hlen:∀{ds:List D} {S:List Ob} {z:D×List Ob},fnOf ps.length N.length g ds S=some z->ds.length=ps.length:=λ{ds S z} h=>by
  unfold fnOf at h
  split at h
  ·next h1=>exact h1
  ·cases h
 refine F.ok S (λvs H Q E h=>?_) (λcdv A outer s H vs Q E hr h=>?_)
 ·obtain ⟨c,ds,S,si,rs,r,S',e,_⟩:=h;rw [rs.length];exact hlen e
 obtain ⟨c,ds,S0,si,rs,r,S',e,kk⟩:=h;refine ⟨RSg K (μF K) g,hb cdv A outer s H E hr,?_⟩;have hl:=hlen e;unfold fnOf at e;rw [if_pos hl] at e
 cases eg:g ⟨env0 N.length ds,S0⟩ with
 | none=>rw [eg] at e;cases e
 | some p=>
   obtain ⟨o,t⟩:=p;rw [eg] at e;refine ⟨c.O,c,_,Hl si rs,o,t,eg,λσ' H' c' f' s'=>?_⟩;obtain ⟨si',ext'⟩:=f'.leave;have st':Stp c.O c H ⟨c'.ι,c.O⟩ H':=⟨s'.ext.trans ext',s'.oo⟩
   cases o with
   | next=>cases e
   | ret d=>
     cases e
     exact λp us hp ru=>kk p us H' _ si' st' (λ_=>Iff.rfl) (ru.mono ext') hp
   | brk=>cases e
   | cont=>cases e
theorem Pt {P:Program}{w:World}{K:PySem.W.Frag}{mg:Str->Option Value}{base:Heap}{ps:List Str}{k:Nat}{f:Fn}(e:f=g)(h:FnOk P w K mg base CX0 k fa fd ps (Kf K g)):FnOk P w K mg base CX0 k fa fd ps (Kf K f):=by rw [e];exact h
end F2
namespace L2
open PySem PySem.Spec PyProof.Rows
section
variable {X:Cx}
theorem VM {o:Expr}{to:TE}{apos cpos:Pos}(ho:PE X o to)(hbase:attributeBase o "bit_length" X.env (eval o X.env)=eval o X.env:=by rfl)(hline:(apos.endLine == cpos.line)=true:=by rfl) :
 PE X (.Call (.Attribute o "bit_length" apos) [] [] cpos) (λσ H Q=>to σ H λv H1=>∃i,v = .int i/\Q (.int (Builtin.Int.intBits i:Nat)) H1):=by
 intro pins s σ H Q I h;refine Call_method0 hbase hline (thn (ho pins s σ H _ I h) λu s1 z9=>?_);obtain ⟨v,H1,I1,rv,i,ex,q⟩:=z9;subst ex;obtain ⟨t,rfl⟩:=rv;exact ⟨"int", "int.bit_length",PySem.F.plainAttrs_int,ua5,PySem.F.type_int_bit_length,typeIs_int _ _ _,(λ_ e=>nomatch e),
  method0_gives ua5 PySem.F.entry_int_bit_length (typeIs_int _ _ _) (PySem.F.args_int_bit_length_1 _) (PySem.AutoIntG2.int_bit_length_int_0 i t) ⟨.int (Builtin.Int.intBits i:Nat),H1,I1.tok _,⟨_,rfl⟩,q⟩⟩
end
end L2
namespace F2
open PySem L2 PySem.Spec
def MU:D->M D
 | .int i=>ret (.int (Builtin.Int.intBits i:Nat))
 | _=>fail
section
variable {X:Cx}{pos:Pos}{e:Expr}{es:List Expr}
theorem Rc {o:Expr}{f:M D}{apos cpos:Pos}(ho:PE X o (RE X.K f))(hbase:attributeBase o "bit_length" X.env (eval o X.env)=eval o X.env:=by rfl)(hline:(apos.endLine == cpos.line)=true:=by rfl) :
 PE X (.Call (.Attribute o "bit_length" apos) [] [] cpos) (RE X.K (fUn f MU)):=
 BP (VM ho hbase hline) λσ H Q z9=>by
  obtain ⟨Oo,c,t,fi,r,t',eq,k⟩:=z9;obtain ⟨d,t1,e1,eq⟩:=Aw eq;refine ⟨Oo,c,t,fi,d,t1,e1,λx H1 c1 f1 s1 rx=>?_⟩;unfold MU at eq
  split at eq
  ·next i=>
   cases eq
   cases rx
   exact ⟨i,rfl,k _ H1 c1 f1 s1 (.int _)⟩
  ·cases eq
end
section
variable {X:Cx}{b elt:Expr}{pos:Pos}
end
end F2
namespace L2
open PySem PySem.Spec PyProof.Rows
end L2
namespace F2
open PySem L2 PySem.Spec
structure ItOk2 (K:PySem.W.Frag)(J:It)(c:Cf)(H:Hp)(ds:List D):Prop where
 go:∀c' H' (i:Nat),Ext c H c' H'->i < ds.length->J.go i H'
 yld:∀c' H' (i:Nat) x H'' d,Ext c H c' H'->ds[i]?=some d->J.yld i H' x H''->∃p vs es,x = .ref p/\H' p=none/\H''=upd H' p (.tup vs)/\d = .tup es/\Reps K c' H' vs es
 stop:∀c' H',Ext c H c' H'->J.stop ds.length H'
section
variable {X:Cx}{pos:Pos}{e:Expr}
end
end F2
namespace L2
open PySem PySem.Spec PyProof.Rows
section
variable {X:Cx}
end
end L2
namespace F2
open PySem L2 PySem.Spec
section
variable {X:Cx}{pos:Pos}{e:Expr}{es:List Expr}
end
end F2
namespace L2
open PySem PySem.Spec PyProof.Rows
section
variable {X:Cx}{e ek:Expr}{p2 pos:Pos}{te:TE}{tk:TO}
end
end L2
namespace F2
open PySem L2 PySem.Spec
section
variable {X:Cx}
end
end F2
namespace L2
open PySem PySem.Spec PyProof.Rows
section
variable {X:Cx}
end
end L2
namespace F2
open PySem L2 PySem.Spec
section
variable {X:Cx}{pos:Pos}
end
end F2
namespace L2
open PySem PySem.Spec PyProof.Rows
theorem MB {x y:Int}(h0:0 < y)(h1:y < 18446744073709551616):Builtin.divisionGoesByPylong x y=false:=by
 unfold Builtin.divisionGoesByPylong;have hl:y.natAbs.log2 < 64:=(Nat.log2_lt (by lia)).mpr (by show y.natAbs < 2 ^ 64;lia);have e:(y == 0)=false:=by rw [beq_eq_false_iff_ne];lia
 simp only [e,uf6,if_false];rw [Bool.and_eq_false_iff];left;rw [decide_eq_false_iff_not];lia
def Ut (i j:Int):Prop:=0 < j/\j < 18446744073709551616
section
variable {X:Cx}
theorem Mg {i:Int}(h:i.natAbs < 2 ^ 512):Builtin.Int.intBits i<=2 ^ 20:=by
 unfold Builtin.Int.intBits
 split
 ·exact un0 _
 ·next z=>
  have hz:i.natAbs≠0:=by
   intro e;have:i=0:=by lia
   subst this;exact z rfl
  have:=(Nat.log2_lt hz).mpr h;lia
def Uu (i j:Int):Prop:=i.natAbs < 2 ^ 512/\j.natAbs < 2 ^ 512
theorem LO:OpR X (binaryOp .Mult) (rI Uu λi j=>.int (i * j)):=opI λ_ _ _ _ _ _ _ hc q=>mul_int q (IntMulOk.of_bits (Mg hc.1) (Mg hc.2))
theorem N6:OpR X (binaryOp .FloorDiv) (rI Ut λi j=>.int (i / j)):=opI λi j _ _ _ _ _ hc q=>by
 have h1:(0:Int) < j:=hc.1;exact floordiv_int (by lia) (by rw [ua6 i (by lia)];exact q) (.inl (MB hc.1 hc.2))
end
end L2
namespace F2
open PySem L2 PySem.Spec
noncomputable def ND (i j:Int):Bool:=decide (0 < j) && decide (j < 18446744073709551616)
def KD:=i2C ND λi j=>.int (i / j)
theorem Mp {K:PySem.W.Frag}:Ck K (rI Ut λi j=>.int (i / j)) KD:=Gc (λi j h=>by
 unfold ND at h;rw [uh4,ug9,ug9] at h;exact h) λ_ _ _ _=>.int _
noncomputable def NZ (i j:Int):Bool:=decide (i.natAbs < 2 ^ 512) && decide (j.natAbs < 2 ^ 512)
def LF:=i2C NZ λi j=>.int (i * j)
theorem Ke {K:PySem.W.Frag}:Ck K (rI Uu λi j=>.int (i * j)) LF:=Gc (λi j h=>by
 unfold NZ at h;rw [uh4] at h;exact ⟨uh0 h.1,uh0 h.2⟩) λ_ _ _ _=>.int _
end F2
namespace L2
open PySem PySem.Spec PyProof.Rows
section
variable {X:Cx}
end
section
variable {X:Cx}
def NP (y:V)(xs:List V):Option Nat:=xs.findIdx? λz=>eqV z y
theorem Pi {x:V}:∀{xs:List V} {us:List Value},Vals xs us->xs.all F0=true->us.map (eqU x)=xs.map λy=>eqV y x
 | _,_,.nil,_=>rfl
 | y :: xs,u :: us,.cons r t,f=>by
   rw [uk8,uh4] at f;rw [uk9,uk9,Ra r f.1,Pi t f.2]
def XQ (K:PySem.W.Frag):V->List V->Hp->VK->Prop:=λx vs H Q=>∃p xs y j,x = .ref p/\vs=[y]/\SqL K H p xs/\F0 y=true/\xs.all F0=true/\NP y xs=some j/\Q (.int (j:Nat)) H
theorem Xe:MtR X "list.index" (XQ X.K):=by
 intro pins s σ H x vs v us Q I rx rv h;obtain ⟨p,xs,y,j,rfl,rfl,hq,fy,fs,hj,q⟩:=h
 cases rx
 obtain ⟨u,rfl,ru⟩:=F5 rv;obtain ⟨its,r,pl,hz⟩:=I.list hq;obtain ⟨⟨cl1,dd,dt1,sl⟩,ho,h1,n,h2⟩:=pl.isList;simp only at h1 h2;subst h1 h2;obtain ⟨jl,jt,jn⟩:=ua0.mp hj;have hl:=r.length;have hm:=Pi (x:=y) r fs;have at_:∀m (h1:m < its.length) (h2:m < xs.length),eqU y its[m]=eqV xs[m] y:=λm h1 h2=>by
  have e1:(its.map (eqU y))[m]?=some (eqU y its[m]):=by rw [ug2,ub6 h1];rfl
  have e2:(xs.map λz=>eqV z y)[m]?=some (eqV xs[m] y):=by rw [ug2,ub6 h2];rfl
  rw [hm,e2] at e1;exact (ui4 e1).symm
 have hs:its.toArray.size=its.length:=by simp
 refine call_meets PySem.F.slot_list_index ⟨_,ho,rfl⟩ PySem.F.entry_list_index (PySem.F.args_list_index_2 _ _) (SeqAt.list_indexAt p its.toArray n dd sl u (eqU y) j (by lia) ?_ ?_ ?_) ⟨ho,λw hw=>NY ru fy r fs w (by simpa using hw),⟨.int (j:Nat),H,I.tok _,⟨_,rfl⟩,q⟩⟩
 ·have:sizeLine < 2 ^ 62:=by decide
  lia
 ·rw [List.getElem_toArray,at_ j (by lia) jl];exact jt
 ·intro m hm' hlt;rw [List.getElem_toArray,at_ m (by lia) (by lia)];simpa using jn m hlt
end
section
variable {X:Cx}
end
end L2
namespace F2
open PySem L2 PySem.Spec
def idxM (f:M D)(g:M (List D)):M D:=bnd f λo=>bnd g λas=>match o,as with
 | .lst ds,[y]=>λt=>if Hm y=true/\ds.all Hm=true then (match NP (toV y) (ds.map toV) with
   | some j=>some (.int (j:Nat),t)
   | none=>none) else none
 | _,_=>fail
theorem RE.idxM {K:PySem.W.Frag}{f:M D}{g:M (List D)}{σ:L2.St}{H:Hp}{Q:VK}(q:RE K (F2.idxM f g) σ H Q):tBM K "list" (XQ K) (RE K f) (RA K g) σ H Q:=by
 obtain ⟨Oo,c,t,fi,r,t',eq,k⟩:=q;obtain ⟨d,t1,e1,eq⟩:=Aw eq;obtain ⟨as,t2,e2,eq⟩:=Aw eq;refine ⟨Oo,c,t,fi,d,t1,e1,λv H1 c1 f1 s1 rv=>?_⟩
 split at eq
 ·next ds y=>
  cases rv with
  | @lst p vs ds h1 h2 h3=>
  refine ⟨.inl ⟨rfl,vs,SqL.of h1⟩,Oo,c1,t1,f1,_,t2,e2,λus H2 c2 f2 s2 rus=>?_⟩;obtain ⟨w,rfl,rw'⟩:=EU rus;have rv2:=(Rep.lst h1 h2 h3).mono s2.ext
  cases rv2 with
  | @lst _ ws _ h1 h2 h3=>
  split at eq
  ·next hf=>
   split at eq
   ·next j ej=>
    cases eq
    refine ⟨p,ws,w,j,rfl,rfl,SqL.of h1,?_,?_,?_,k _ _ c2 f2 (s1.trans s2) (.int _)⟩
    ·rw [LU rw' hf.1];exact NN _
    ·rw [JZ h3 hf.2,List.all_map,uh8];exact λd _=>NN d
    ·rw [LU rw' hf.1,JZ h3 hf.2];exact ej
   ·cases eq
  ·cases eq
 ·cases eq
section
variable {X:Cx}{pos:Pos}{e:Expr}{es:List Expr}
theorem Tl {o e:Expr}{es:List Expr}{f:M D}{g:M (List D)}{apos cpos:Pos}(ho:PE X o (RE X.K f))(ha:PA X (e :: es) (RA X.K g))
 (hbase:attributeBase o "index" X.env (eval o X.env)=eval o X.env:=by rfl)
 (hfew:((backTo cpos (starEach (e :: es) X.env)).all (λx=>!x.1) && (backToKw cpos (keywordEach [] X.env)).all (λx=>x.1.isSome) && decide ((e :: es).length + ([]:List Keyword).length + (if ([]:List Keyword).isEmpty then 0 else 1) < 30))=true:=by rfl)
 (hline:(apos.endLine == cpos.line)=true:=by rfl) (hs:starEach (e :: es) X.env=(false,eval e X.env) :: starEach es X.env:=by rfl) (hplain:(backTo cpos (starEach es X.env)).any (·.1)=false:=by rfl) :
 PE X (.Call (.Attribute o "index" apos) (e :: es) [] cpos) (RE X.K (F2.idxM f g)):=
 BP (K3 uc1 PySem.F.slot_list_index PySem.F.type_list_index Xe ho ha hbase hfew hline hs hplain) λ_ _ _ q=>RE.idxM q
end
end F2
namespace L2
open PySem PySem.Spec PyProof.Rows
section
variable {X:Cx}
end
end L2
namespace F2
open PySem L2 PySem.Spec
noncomputable def Qf:List (Key×D)->Option (List Int)
 | []=>some []
 | (.inl k,_) :: r=>(Qf r).map (k :: ·)
 | _=>none
section
variable {K:PySem.W.Frag}{c:Cf}{H:Hp}
theorem KVR.has {us:List (Key×V)}{kvs:List (Key×D)}(r:KVR K c H us kvs)(k:Key):(EG us k).isSome=(B5 kvs k).isSome:=by
 unfold KVR at r
 induction r with
 | nil=>rfl
 | @cons p q ps qs h t ih=>
   by_cases hk:p.1=k
   ·have hq:q.1=k:=h.1.symm.trans hk;rw [HK hk];simp [B5,uj2,hq]
   ·have hq:¬q.1=k:=λz=>hk (h.1.trans z);have:B5 (q :: qs) k=B5 qs k:=by simp [B5,uj2,hq]
    rw [this,HJ hk];exact ih
end
section
variable {X:Cx}{pos:Pos}{e b:Expr}
end
end F2
namespace L2
open PySem PySem.Spec PyProof.Rows
noncomputable def tb (led:Bool)(pl:List Nat):SetTable:={ mask:=7,place:=pl.toArray,dummies:=#[],finger:=0,led:=led,moves:=0,plain:=true }
noncomputable def pls:Nat->List (List Nat)
 | 0=>[[]]
 | k + 1=>(pls k).flatMap λl=>(List.range 8).filterMap λj=>if l.all (· < j) then some (l++[j]) else none
section
variable {P:Program}{w:World}{A:Around}{E:Value->Shared->Prop}{s:Shared}
end
section
variable {P:Program}{w:World}{A:Around}{I:Addr}{fp wr:List Addr}{G:Array GenState->Array GenState->Prop}{n:Nat}{Pr:Nat->Value->Prop}{St:Nat->Shared->Prop}
end
section
variable {P:Program}{w:World}{A:Around}{E:Value->Shared->Prop}{s:Shared}
end
section
variable {prog:Program}{w:World}{A:Around}
end
section
variable {X:Cx}
end
end L2
namespace F2
open PySem L2 PySem.Spec PyProof.Rows
section
variable {X:Cx}{pos:Pos}{e:Expr}
end
end F2
namespace L2
open PySem PySem.Spec PyProof.Rows
section
variable {P:Program}{w:World}{A:Around}{E:Value->Shared->Prop}{s:Shared}
structure ZT (h:Heap)(z TI TO i1 i2 t1 t2:Addr)(n:Nat):Prop where
 zz:IsZip h z TI TO .none
 ti:IsPair h TI (.ref i1) (.ref i2)
 ot:∃a b,IsPair h TO a b
 p1:h.IsTupleIter i1 t1 n
 p2:h.IsTupleIter i2 t2 n
end
section
variable {P:Program}{w:World}{A:Around}{E:Value->Shared->Prop}{s:Shared}
end
def Itz (K:PySem.W.Frag)(a b:Addr):It:=
 ⟨λi H=>∃xs ys x y,SqT K H a xs/\SqT K H b ys/\xs[i]?=some x/\ys[i]?=some y,λi H v H'=>∃p x y,v = .ref p/\H p=none/\(∀xs,SqT K H a xs->xs[i]?=some x)/\(∀ys,SqT K H b ys->ys[i]?=some y)/\H'=upd H p (.tup [x,y]),λi H=>∃xs ys,SqT K H a xs/\SqT K H b ys/\(xs.length<=i\/ys.length<=i)⟩
end L2
namespace F2
open PySem L2 PySem.Spec
noncomputable def bo:List D->List D->List D
 | x :: xs,y :: ys=>.tup [x,y] :: bo xs ys
 | _,_=>[]
section
variable {X:Cx}{e a b tg iter elt:Expr}{ifs:List Expr}{pos:Pos}{scope:Scope}{N':List Str}{n:Nat}{fr:List Nat}{f:M (List D)}{st:D->M Unit}{tst:M Bool}{el:M D}
end
def FV (S:List Ob):D->D
 | .tup ds=>.tup (ds.map (Ew S))
 | d=>Ew S d
theorem Mo {K:PySem.W.Frag}{c:Cf}{S:List Ob}{H:Hp}(s:SInv K c S H):∀{vs:List V} {ds:List D},Reps K c H vs ds->GU (ds.map (Ew S))=true->Reps K c0 H vs (ds.map (Ew S))
 | _,_,.nil,_=>.nil
 | _,_,.cons h t,p=>by
   simp only [uk9,GU,uh4] at p;exact .cons (CW s h p.1) (Mo s t p.2)
theorem Oi {K:PySem.W.Frag}{c:Cf}{S:List Ob}{H:Hp}{v:V}{d:D}(s:SInv K c S H)(r:Rep K c H v d)(p:C7 (FV S d)=true):Rep K c0 H v (FV S d):=by
 cases r with
 | tup h n q=>exact .tup h (Lq _) (Mo s q (by simpa [FV,C7] using p))
 | @obj a k hk=>exact CW s (.obj hk) p
 | non=>exact CW s .non p
 | bl b=>exact CW s (.bl b) p
 | int b=>exact CW s (.int b) p
 | str b=>exact CW s (.str b) p
 | ty b=>exact CW s (.ty b) p
 | lst h n q=>exact CW s (.lst h n q) p
 | scr h=>exact CW s (.scr h) p
 | dic h n=>exact CW s (.dic h n) p
 | exc a b n f q=>exact CW s (.exc a b n f q) p
def eqT (g:Bool->Bool)(x y:D):M D:=λt=>if (C7 (FV t.S x) && C7 (FV t.S y))=true then (eqN EQD (FV t.S x) (FV t.S y)).map λb=>(.bl (g b),t) else none
theorem V9 {K:PySem.W.Frag}{g:Bool->Bool}:Ck K (Qx K g) (eqT g):=λ{Oo c t σ H x y dx dy r t' Q} f rx ry eq k=>by
 unfold eqT at eq
 split at eq
 ·next hp=>
  rw [uh4] at hp;obtain ⟨b,e1,e2⟩:=uc8.mp eq
  cases e2
  exact ⟨c0,_,_,b,Oi f.s rx hp.1,Oi f.s ry hp.2,e1,k _ H c f .refl (.bl (g b))⟩
 ·cases eq
section
variable {X:Cx}{elt:Expr}{pos:Pos}{e:Expr}{es:List Expr}
theorem Re {o:Expr}{f:M D}{g:M (List D)}{apos cpos:Pos}(ho:PE X o (RE X.K f))(ha:PA X (e :: es) (RA X.K g))
 (hbase:attributeBase o "extend" X.env (eval o X.env)=eval o X.env:=by rfl)
 (hfew:((backTo cpos (starEach (e :: es) X.env)).all (λx=>!x.1) && (backToKw cpos (keywordEach [] X.env)).all (λx=>x.1.isSome) && decide ((e :: es).length + ([]:List Keyword).length + (if ([]:List Keyword).isEmpty then 0 else 1) < 30))=true:=by rfl)
 (hline:(apos.endLine == cpos.line)=true:=by rfl) (hs:starEach (e :: es) X.env=(false,eval e X.env) :: starEach es X.env:=by rfl) (hplain:(backTo cpos (starEach es X.env)).any (·.1)=false:=by rfl) :
 PE X (.Call (.Attribute o "extend" apos) (e :: es) [] cpos) (RE X.K (objM Hj f g)):=
 BP (K3 uc1 PySem.F.slot_list_extend PySem.F.type_list_extend Pj ho ha hbase hfew hline hs hplain) λ_ _ _ q=>RE.objM Pu q
end
end F2
namespace L2
open PySem PySem.Spec PyProof.Rows
section
variable {X:Cx}{pins:List (Addr×Obj)}{σ:St}{H:Hp}{s:Shared}{a:Addr}{kvs:List (Key×V)}{o:Obj}
end
section
variable {X:Cx}
end
section
variable {X:Cx}
end
end L2
namespace F2
open PySem L2 PySem.Spec SeqAt
def QS (K:PySem.W.Frag)(H:Hp)(v w:V):Prop:=∃c dv dw,Rep K c H v dv/\Rep K c H w dw/\eqN EQD dv dw=some true
def WG (K:PySem.W.Frag)(H:Hp)(v w:V):Prop:=QS K H v w\/∃a b us ts,v = .ref a/\w = .ref b/\H a=some (.dK us)/\H b=some (.dK ts)/\us.length=ts.length/\(∀kv∈us,∃n:Int,kv.1=Sum.inl n)/\(∀kv∈ts,∃n:Int,kv.1=Sum.inl n)/\∀kv∈us,∃z,EG ts kv.1=some z/\QS K H kv.2 z
def bL (K:PySem.W.Frag)(b:Bool):R2:=λx y H Q=>∃p q vs ws,x = .ref p/\y = .ref q/\H p=some (.lst vs)/\H q=some (.lst ws)/\vs.length=ws.length/\(∀(j:Nat) v w,vs[j]?=some v->ws[j]?=some w->WG K H v w)/\Q (.bl b) H
def Nk (S:List Ob)(x y:D):Bool:=C7 (Ew S x) && C7 (Ew S y) && decide (eqN EQD (Ew S x) (Ew S y)=some true)
def bx (S:List Ob)(x y:D):Bool:=match x,y with
 | .obj m,.obj n=>match S[m]?,S[n]? with
   | some (.dct kvs),some (.dct lvs)=>kvs.length == lvs.length && (Qf kvs).isSome && (Qf lvs).isSome && kvs.all (λkv=>match B5 lvs kv.1 with | some e=>Nk S kv.2 e | none=>false)
   | _,_=>Nk S x y
 | _,_=>Nk S x y
end F2
namespace F2
open PySem L2 PySem.Spec
section
variable {X:Cx}{pos:Pos}
end
end F2
namespace L2
open PySem PySem.Spec PyProof.Rows
structure ZL (h:Heap)(z TI TO i1 i2 t1 t2:Addr)(n:Nat):Prop where
 zz:IsZip h z TI TO .none
 ti:IsPair h TI (.ref i1) (.ref i2)
 ot:∃a b,IsPair h TO a b
 p1:h.IsListIter i1 t1 n
 p2:h.IsListIter i2 t2 n
end L2
namespace F2
open PySem L2 PySem.Spec
section
variable {X:Cx}{a b:Expr}{pos:Pos}
end
end F2
namespace L2
open PySem PySem.Spec PyProof.Rows PySem.W
section
variable {prog:Program}{w:World}{A:Around}{h:Heap}{g:Array GenState}{d:Drawn}{t:Nat}{os:OsState}{R:Result->Shared->Prop}
variable {nm q:Str}{C N fI:Addr}{bs bm bmB:List Value}{hdct:Bool}{sn:List Str}{sub:List Value}{ab:Bool}{col:Option Bool}{dd:Option Addr}{k0 k1 k2 k3 k5:Option Value}{B newId initId:String}{mN:Str->Option Value}
abbrev excObj (C tp:Addr):Obj:={ cls:=.ref C,data:=.fields #[.ref tp,.none,.none,.none,.bool false,.none] }
abbrev EB (h:Heap)(C:Addr)(us:List Value):Heap:=(h.push { cls:=.type "tuple",data:=.seq us.toArray }).push (excObj C h.objs.size)
theorem JL (F:ExcBaseFacts B newId initId bmB)(T:OwnTail h bmB bm){us:List Value}(hC:h.get? C=some (excClassObj nm q C N bs bm hdct sn sub ab col dd k0 k1 k2 k3 k5 newId))(hn:h.Ns N mN)(hni:mN "__init__" = some (.ref fI))
 (hb:Looks (model prog w) h (bindSpecial (.ref fI) (.ref (h.objs.size + 1))) (.ref fI,[.ref (h.objs.size + 1)])) (hus:us.length<=sizeLine)
 (hq:codeAny (model prog w) (A.under (.builtin "type.__call__" ⟨.ref C :: us,[]⟩)) (.call (.ref fI) ⟨.ref (h.objs.size + 1) :: us,[]⟩) (InitBack (h.objs.size + 1) R) ⟨EB h C us,g,d,t,os⟩) :
 codeAny (model prog w) A (.call (.ref C) ⟨us,[]⟩) R ⟨h,g,d,t,os⟩:=by
 have c1:=tc_lookup;have c2:=tc_bind (.ref C);have ty:(⟨h,g,d,t,os⟩:Shared).TypeIs (.ref C) "type":=⟨_,hC,rfl⟩;refine codeAny_of_tree ?_;show wpAny _ _ (callAny (.ref C) _) _ _ _
 repeat (any_goals (first
  | assumption
  | with_reducible refine wpAny_loadPart_at hC ?_
  | wp_step))
 refine ⟨rfl,codeAny_call_builtin_at (Code.quiet_builtin _ (by decide +kernel)) entry_typeCall (wpAny_check_type_call_sub hC ?_)⟩
 repeat (first
  | with_reducible refine wpAny_loadPart_at hC ?_
  | with_reducible refine wpAny_madeBy_exc hC ?_
  | wp_step)
 refine codeAny_call_builtin_code (Code.quiet_builtin _ F.quiet) (wpAny_check_new_subT F T hC (codeAny_exc_new_subT F T hC ?_ hus))
 change wpAny _ _ _ _ _ (Shared.mk (EB h C us) g d t os)
 have kp:∀b o,h.get? b=some o->(EB h C us).get? b=some o:=λb o e=>uc4 _ (uc4 _ e);have he:(EB h C us).get? (h.objs.size + 1)=some { cls:=.ref C,data:=.fields #[.ref h.objs.size,.none,.none,.none,.bool false,.none] }:=by heap_get
 have n1:(EB h C us).Ns N mN:=hn.keeps kp;have cC:(Value.ref C :: bm).contains (.ref C)=true:=by simp
 unfold isInstance
 repeat (first
  | with_reducible refine wpAny_loadPart_at he ?_
  | (with_reducible refine wpAny_isSubtype_exc (kp _ _ hC) ?_;rw [cC])
  | wp_step)
 show wpAny _ _ (typeLookup (.ref C) _) _ _ _;refine wpAny_typeLookup_tail (kp _ _ hC) n1 (T.keeps kp) F.mroIs F.init.lookup ?_;rw [hni];refine ul4 (un4 ((hb.keeps kp).at ?_));refine un4 (wpAny_call (codeAny_mono hq λr s' z=>?_))
 cases r with
 | error e=>exact z
 | ok f=>
   cases f with
   | ret v=>
     obtain ⟨rfl,z⟩:=z;exact un5 (un5 z)
   | _=>exact z.elim
end
end L2
namespace L2
open PySem PySem.Spec PyProof.Rows PySem.W PySem.Builtin PySem.Builtin.ObjectAttr
theorem Su (self:Value):refuseLoop self "__setattr__" [.type "ValueError",.type "Exception",.type "BaseException",.type "object"]=pure ():=by
 kernel_rfl
abbrev GF (C P:Addr):List Value:=[.ref C,.ref P,.type "ValueError",.type "Exception",.type "BaseException",.type "object"]
theorem K4 (self:Value)(C P:Addr):refuseLoop self "__setattr__" (GF C P)=pure ():=by
 rw [GF,refuseLoop_ref,refuseLoop_ref];exact Su self
section
variable {prog:Program}{w:World}{A:Around}{s:Shared}{K:PySem.W.Frag}{x C P tp:Addr}{R:Result->Shared->Prop}{name:Str}{v:Value}{tk:Tok}{cd:ClassData}
theorem VJ (X:K.In s.heap)(hx:s.heap.get? x=some (excObj C tp))(hc:clsIn K C=some cd)(hmr:cd.mro=GF C P)(ha:findIn K (.ref C) name=some none)
 (h:wpAny (model prog w) A.in1 (storeInOwnDict (.ref x) (.ref C) (.str name tk) name v false) (λfin s'=>match fin with | .done f=>R (.ok f) s' | .again c'=>c'.quiet=true/\codeAny (model prog w) A c' R s') (λe s'=>R (.error e) s') s) :
 codeAny (model prog w) A (.call (.builtin "object.__setattr__") ⟨[.ref x,.str name tk,v],[]⟩) R s:=by
 have SF:=PySem.F.store_object;have I:InstAt s.heap x (excObj C tp) C none:=⟨hx,rfl,rfl,trivial⟩;have ob:Looks (model prog w) s.heap (isInstance (.ref x) (.type "object")) true:=I.type.andThen (looks_mroIn X (by unfold mroIn;rw [hc,Option.bind_some,hmr];rfl));refine codeAny_call_builtin SF.slot.plain SF.entry (@check_slot (model prog w) _ _ s "object.__setattr__" "object" "__setattr__" (.ref x) [.str name tk,v] [] _ SF.kind SF.split ob (SF.args (.ref x) (.str name tk) v) ?_);have mr:Looks (model prog w) s.heap (mroOf (.ref C)) (GF C P):=by rw [<-hmr];exact (looks_clsIn X hc).andThen .now
 rw [osa_eq,refuse_eq];refine un4 (un4 (I.type.here (un4 (mr.here ?_))));rw [K4];refine un5 (un4 (I.type.here (un4 ((looks_findIn X ha).here ?_))));exact un4 (un5 h)
theorem Wi {E:Value->Shared->Prop}{Q:Unit->Shared->Prop}(X:K.In s.heap)(hx:s.heap.get? x=some (excObj C tp))(hs:findIn K (.ref C) "__setattr__" = some (some (.builtin "object.__setattr__")))(hc:clsIn K C=some cd)(hmr:cd.mro=GF C P)(hd:cd.hasDict=true)(ha:findIn K (.ref C) name=some none)
 (h:∀h',(∀b o,b≠x->s.heap.get? b=some o->h'.get? b=some o)->h'.get? x=some { excObj C tp with dict:=some s.heap.objs.size }->h'.Ns1 s.heap.objs.size (λy=>if y=name then some v else none)->Q () { s with heap:=h',toks:=s.toks + 2 }) :
 wpAny (model prog w) A (setAttr (.ref x) name v) Q E s:=by
 have I:InstAt s.heap x (excObj C tp) C none:=⟨hx,rfl,rfl,trivial⟩;refine set_plain X I hs (VJ (s:={ s with toks:=s.toks + 1 }) X hx hc hmr ha ?_);refine un4 (un5 (un4 (un4 (wpAny_loadPart (s:={ s with toks:=s.toks + 1 }) hx (un4 (Looks.here (s:={ s with toks:=s.toks + 1 }) (looks_clsIn X hc) ?_))))));rw [hd,if_neg (by decide)];show wpAny _ _ (alloc _ >>= λdx=>update x _ >>= λ_=>pure (some dx)) _ _ _;have hx1:(s.heap.push emptyDict).get? x=some (excObj C tp):=uc4 _ hx;have hne:s.heap.objs.size≠x:=ul8 (ul5 hx);refine un4 (wpAny_alloc (s:={ s with toks:=s.toks + 1 }) (un4 (wpAny_update hx1 (un5 ?_))));have hx2:((s.heap.push emptyDict).update x λo=>{ o with dict:=some s.heap.objs.size }).get? x=some { excObj C tp with dict:=some s.heap.objs.size }:=ud5 _ hx1 rfl;have hk:∀b o,b≠x->s.heap.get? b=some o->((s.heap.push emptyDict).update x λo=>{ o with dict:=some s.heap.objs.size }).get? b=some o:=λb o hb e=>(uc7 _ _ (Ne.symm hb)).trans (uc4 _ e);have hdx:((s.heap.push emptyDict).update x λo=>{ o with dict:=some s.heap.objs.size }).get? s.heap.objs.size=some emptyDict:=(uc7 _ _ (Ne.symm hne)).trans (ue4 _ rfl);have n1:((s.heap.push emptyDict).update x λo=>{ o with dict:=some s.heap.objs.size }).Ns1 s.heap.objs.size λ_=>none:=⟨_,#[],_,hdx,rfl,(λe he=>by simp at he),(by simp [UniqKeys]),λ_=>rfl⟩;refine un4 (un5 (un4 ?_));refine wpAny_nsSet1 n1 λh' n2 sb=>?_;obtain ⟨oD,esD,epD,hoD,hdD,hcD⟩:=n2.count (PySem.Within.cons name v (ns:=[]) (λy u=>absurd rfl u));refine un4 (wpAny_lookBehind hoD (by rw [hdD];exact pastItsLine_dict (ul7 hcD (by show 1<=_;decide))) ?_);exact un5 (h h' (λb o hb e=>by
  by_cases hb2:b=s.heap.objs.size
  ·subst hb2;exact absurd (ul5 e) (uk5 _)
  ·exact (sb.2 b hb2).trans (hk b o hb e)) ((sb.2 x (Ne.symm hne)).trans hx2) n2)
end
end L2
namespace L2
open PySem PySem.Spec PyProof.Rows PySem.W
variable {qx:Bool}
def XRec (qx:Bool)(h:Heap)(x C:Addr)(dx:Option Addr)(tb:Value):Prop:=∃(o:Obj) (vs:Array Value),h.get? x=some o/\o.cls = .ref C/\o.dict=dx/\o.data = .fields vs/\vs[1]?=some tb/\(qx=true->vs[2]?=some .none/\4 < vs.size)
theorem WW {qx:Bool}{vs:Array Value}{v:Value}(h:qx=true->vs[2]?=some .none/\4 < vs.size):qx=true->(vs.setIfInBounds 1 v)[2]?=some .none/\4 < (vs.setIfInBounds 1 v).size:=λz=>by
 rw [ua2 (by decide),ub7];exact h z
theorem XRec.to {qx:Bool}{h:Heap}{x C:Addr}{dx:Option Addr}{tb:Value}(r:XRec true h x C dx tb):XRec qx h x C dx tb:=by
 obtain ⟨o,vs,h1,h2,h3,h4,h5,h6⟩:=r;exact ⟨o,vs,h1,h2,h3,h4,h5,λ_=>h6 rfl⟩
def XTb (h:Heap)(T:Addr):Prop:=∃(o:Obj) (ts:Array Value),h.get? T=some o/\o.data = .fields ts/\ts[3]?=some .none
structure XKeep (fs ch:List Addr)(h h':Heap):Prop where
 keep:∀b o,b∉ch->b∉fs->h.get? b=some o->h'.get? b=some o
 slot:∀b o,b∉ch->h.get? b=some o->∃sl,h'.get? b=some { o with slots:=sl }
section
variable {M:Model}{A:Around}{E:Value->Shared->Prop}{s:Shared}{env:Env}{outer:List Env}{base:Heap}{L x C:Addr}{dx:Option Addr}{tb:Value}{Q:Unit->Shared->Prop}
theorem Gq {o:Obj}{vs:Array Value}(hd:o.data = .fields vs)(f:Array Value->Array Value):(o.mapFields f).data = .fields (f vs)/\(o.mapFields f).cls=o.cls/\(o.mapFields f).dict=o.dict:=by
 obtain ⟨c,d,dt,sl⟩:=o
 cases hd
 exact ⟨rfl,rfl,rfl⟩
end
end L2
namespace L2
open PySem PySem.Spec PyProof.Rows PySem.W
variable {qx:Bool}
abbrev VE:List Value:=[.type "ValueError",.type "Exception",.type "BaseException",.type "object"]
structure XCl (K:PySem.W.Frag)(C:Addr)(bm:List Value):Prop where
 ex:∃cd dd k0 k1 k2 k3 k5,K.lookup C=some { cls:=.type "type",dict:=dd,data:=.cls cd,slots:=#[k0,k1,k2,k3,some (.builtin "ValueError.__new__"),k5] }/\cd.mro = .ref C :: bm/\cd.hasDel=false/\cd.hasDict=true/\nsOkIn K cd.ns=true
 tl:tailIn K VE bm=true
noncomputable def M2 (K:PySem.W.Frag)(C:Addr)(bm:List Value):Bool:=tailIn K VE bm && match K.lookup C with
 | some ⟨.type "type",_,.cls cd,sl⟩=>(match sl.toList with
   | [_,_,_,_,some (.builtin n),_]=>n == "ValueError.__new__" && cd.mro == .ref C :: bm && !cd.hasDel && cd.hasDict && nsOkIn K cd.ns
   | _=>false)
 | _=>false
variable {K:PySem.W.Frag}{C:Addr}{bm:List Value}
theorem XCl.of_in (q:M2 K C bm=true):XCl K C bm:=by
 unfold M2 at q;rw [uh4] at q;refine ⟨?_,q.1⟩;have q:=q.2
 split at q
 ·rename_i dd cd sl ho
  split at q
  ·rename_i k0 k1 k2 k3 n k5 hs;simp only [uh4,beq_iff_eq,Bool.not_eq_true'] at q;obtain ⟨⟨⟨⟨rfl,h1⟩,h2⟩,h3⟩,h4⟩:=q;have hsl:sl=#[k0,k1,k2,k3,some (.builtin "ValueError.__new__"),k5]:=by
    cases sl
    exact congrArg Array.mk hs
   exact ⟨cd,dd,k0,k1,k2,k3,k5,by rw [ho,hsl],h1,h2,h3,h4⟩
  ·cases q
 ·cases q
theorem XCl.obj {K:PySem.W.Frag}{C:Addr}{bm:List Value}{h:Heap}(c:XCl K C bm)(X:K.In h):∃nm q N bs sn sub ab col dd k0 k1 k2 k3 k5,h.get? C=some (excClassObj nm q C N bs bm true sn sub ab col dd k0 k1 k2 k3 k5 "ValueError.__new__")/\h.Ns N (h.nsMap N):=by
 obtain ⟨⟨nm,bs,mro,ns,qn,hd,sn,sub,ab,col,del⟩,dd,k0,k1,k2,k3,k5,h1,h2,h3,h4,h5⟩:=c.ex;dsimp only at h2 h3 h4 h5;subst h2 h3 h4;exact ⟨nm,qn,ns,bs,sn,sub,ab,col,dd,k0,k1,k2,k3,k5,X _ _ h1,.of_isNs (isNs_of_in X h5)⟩
variable {h:Heap}
theorem XCl.tail (c:XCl K C bm)(X:K.In h):OwnTail h VE bm:=tail_of_in X c.tl
theorem XCl.has (c:XCl K C bm)(X:K.In h):(Value.ref C :: bm).contains (.type "BaseException")=true:=by
 rw [List.contains_cons,(c.tail X).hasType (b:=true) (by decide +kernel),Bool.or_true]
section
variable {M:Model}{A:Around}{E:Value->Shared->Prop}{env:Env}{K:PySem.W.Frag}{C:Addr}{bm:List Value}{s:Shared}
theorem Ua {t:Sem Value}{Q:Flow->Shared->Prop}(c:XCl K C bm)(hh:A.handled=none)
 (h:wpAny M A t (λv s1=>∃x dx,v = .ref x/\K.In s1.heap/\XRec qx s1.heap x C dx .none/\E v s1) E s):wpAny M A (raiseStmt env (some t) none) Q E s:=by
 unfold raiseStmt;refine un4 (un6 h (λv s1 q=>?_) λ_ _ z=>z);obtain ⟨x,dx,rfl,X,⟨o,vs,hx,hc,hd,hdt,h1,_⟩,hE⟩:=q;obtain ⟨nm,q,N,bs,sn,sub,ab,col,dd,k0,k1,k2,k3,k5,hC,_⟩:=c.obj X;have hb:=c.has X;obtain ⟨hp,g,d,tk,os⟩:=s1
 repeat (first
  | (with_reducible refine wpAny_loadPart_at hx ?_;rw [hc])
  | with_reducible refine wpAny_loadPart_at hC ?_
  | (with_reducible refine wpAny_isSubtype_exc hC ?_;rw [hb])
  | with_reducible refine un3 hx hdt h1 ?_
  | wp_step)
 exact wpAny_raiseNew_none hh hE
end
def CX1 (qx:Bool)(P:Program)(w:World):CXT:=λouter H s E e s'=>∃(x C:Addr) (dx:Option Addr) (T:Addr) (H':Hp),e = .ref x/\s'.os=s.os/\AllBare s'.gens/\Un (frs outer) [] H H' s.heap s'.heap/\HOk P w H' s'.heap/\
 H' x=some (.ext (F2.XIs qx x C dx))/\s.heap.objs.size<=x/\s.heap.objs.size<=T/\T≠x/\H' T=none/\XRec qx s'.heap x C dx (.ref T)/\XTb s'.heap T/\E (.ref x) dx H'
variable {x:Addr}{dx:Option Addr}
theorem XRec.is {tb:Value}(r:XRec qx h x C dx tb):F2.XIs qx x C dx h:=by
 obtain ⟨o,vs,h1,h2,h3,h4,_,h5⟩:=r;exact ⟨o,vs,h1,h2,h3,h4,h5⟩
theorem XIs.stay {h1 h2:Heap}(r:F2.XIs qx x C dx h1)(k:∀o,h1.get? x=some o->h2.get? x=some o):F2.XIs qx x C dx h2:=by
 obtain ⟨o,vs,e,q⟩:=r;exact ⟨o,vs,k o e,q⟩
theorem Ic {P:Program}{w:World}{H:Hp}(r:F2.XIs qx x C dx h):ObjOk P w H h x (.ext (F2.XIs qx x C dx)):=
 ⟨r,let ⟨o,_,e,_⟩:=r;⟨o,e⟩,λ_ _ q k=>XIs.stay q k⟩
section
variable {X:Cx}{pins:List (Addr×Obj)}{σ:St}{H H':Hp}{s s':Shared}{h':Heap}{x C T:Addr}{dx:Option Addr}{ch:List Addr}
theorem Uk (k:XKeep (frs X.stack) ch s.heap h')(hT:∀b∈ch,b=x\/b=T):Un (frs X.stack) (x :: T :: []) H H s.heap h':=by
 have nch:∀b:Addr,b∉(x :: T :: [])->b∉ch:=λb hb z=>hb (by rcases hT b z with rfl | rfl <;> simp);refine ⟨λb o e n hb hx=>k.keep b o (nch b hx) hb e,λb o e n hb hx=>k.slot b o (nch b hx) e,λb o e n _=>n,λb o e hx=>?_,λ_ _ e=>e,λ_ _ _ e=>e,λb ps e=>⟨#[],by rw [e];simp⟩⟩;obtain ⟨sl,q⟩:=k.slot b o (nch b hx) e;exact ⟨_,q⟩
theorem Inv.left (I:Inv X pins σ H s)(hx:H x=some (.ext (F2.XIs qx x C dx)))(hT:H T=none)(nx:X.s₀.heap.objs.size<=x)(nT:X.s₀.heap.objs.size<=T)(k:XKeep (frs X.stack) ch s.heap h')(hc:∀b∈ch,b=x\/b=T)(r:F2.XIs qx x C dx h')
 (oT:∀y c,X.env.cells.lookup y=some c->c≠T) (lT:T≠X.env.locals) (pT:∀p∈X.pn++pins,p.1≠T):Inv X pins σ H { s with heap:=h' }:=by
 have nfr:∀b u,H b=some u->b∉frs X.stack:=λb u e z=>by rw [I.stkFree b z] at e;cases e
 refine I.call (g':=s.gens) (t':=s.toks) (d':=s.drawn) (ch:=[x,T]) (Uk k hc) (λb u e=>?_) I.bare λb hb=>?_
 ·by_cases hb:b=x
  ·subst hb;rw [hx] at e;cases e;exact Ic r
  ·refine (I.hok b u e).stay (λc v hcc q=>k.keep c v ?_ ?_ q) (λ_ q=>q) λ_ _ q=>q
   ·intro z;rcases hcc with rfl | hcc
    ·rcases hc c z with q | q
     ·exact hb q
     ·rw [q,hT] at e;cases e
    ·rcases hc c z with q | q
     ·rw [q,hx] at hcc;cases hcc
     ·rw [q,hT] at hcc;cases hcc
   ·rcases hcc with rfl | hcc
    ·exact nfr _ _ e
    ·exact nfr _ _ hcc
 ·have q:b=x\/b=T:=by simpa using hb
  rcases q with rfl | rfl
  ·exact ⟨.inr nx,(λz=>by rw [z,I.free] at hx;cases hx),(λy c e z=>by subst z;rw [I.freeC y c e] at hx;cases hx),λp hp z=>by rw [<-z,(I.pin p hp).2.1] at hx;cases hx⟩
  ·exact ⟨.inr nT,lT,oT,pT⟩
theorem Inv.raised (I:Inv X pins σ H s){E:XK}{e:Value}(q:CX1 qx X.prog X.w X.stack H s E e s'):∃(x C:Addr) (dx:Option Addr) (T:Addr) (H':Hp),e = .ref x/\Inv X pins σ H' s'/\H' x=some (.ext (F2.XIs qx x C dx))/\s.heap.objs.size<=x/\s.heap.objs.size<=T/\T≠x/\H' T=none/\XRec qx s'.heap x C dx (.ref T)/\XTb s'.heap T/\E (.ref x) dx H':=by
 obtain ⟨x,C,dx,T,H',he,os,bare,un,hok,hx,nx,nT,ne,hT,r,tb,q⟩:=q;obtain ⟨hh,g,d,t,os'⟩:=s';obtain rfl:os'=s.os:=os;exact ⟨x,C,dx,T,H',he,I.call (h':=hh) (g':=g) (d':=d) (t':=t) (ch:=[]) un hok bare (λb z=>absurd z (by simp)),hx,nx,nT,ne,hT,r,tb,q⟩
theorem Inv.newT (I:Inv X pins σ H s)(h:s.heap.objs.size<=T):T≠X.env.locals/\(∀y c,X.env.cells.lookup y=some c->c≠T)/\∀p∈X.pn++pins,p.1≠T:=by
 have far:∀b o,s.heap.get? b=some o->b≠T:=λb o e z=>absurd (uf0 (ul5 e) h) (by rw [z];exact uk5 _);refine ⟨λz=>absurd I.lt (by rw [<-z];exact Nat.not_lt.mpr h),λy c e=>?_,λp hp=>far _ _ (I.pin p hp).1⟩;obtain ⟨v,o,ho,_⟩:=I.cell y c e;exact far c o ho
end
section
variable {P:Program}{w:World}{K:PySem.W.Frag}{mg:Str->Option Value}{base:Heap}{N:List Str}{qual:Str}{scope:Scope}{f:Addr}{cd:Value}{A:Around}{outer:List Env}{s₀:Shared}{H₀:Hp}{E:XK}
end
end L2
namespace L2
open PySem PySem.Spec PyProof.Rows PySem.W
noncomputable def exO (x C tp:Addr):HO:=.ext λh=>h.get? x=some (excObj C tp)
noncomputable def FT (x C tp dx:Addr):HO:=.ext λh=>h.get? x=some { excObj C tp with dict:=some dx }
theorem NF {P:Program}{w:World}{H:Hp}{h:Heap}{x C tp:Addr}(e:h.get? x=some (excObj C tp)):ObjOk P w H h x (exO x C tp):=⟨e,⟨_,e⟩,λ_ _ p k=>k _ p⟩
theorem U9 {P:Program}{w:World}{H:Hp}{h:Heap}{x C tp dx:Addr}(e:h.get? x=some { excObj C tp with dict:=some dx }):ObjOk P w H h x (FT x C tp dx):=⟨e,⟨_,e⟩,λ_ _ p k=>k _ p⟩
structure XAt (K:PySem.W.Frag)(C P:Addr)(f:Str):Prop where
 cl:XCl K C (.ref P :: VE)
 set:findIn K (.ref C) "__setattr__" = some (some (.builtin "object.__setattr__"))
 no:findIn K (.ref C) f=some none
theorem XCl.cls {K:PySem.W.Frag}{C:Addr}{bm:List Value}(c:XCl K C bm):∃cd,clsIn K C=some cd/\cd.mro = .ref C :: bm/\cd.hasDict=true:=by
 obtain ⟨cd,dd,k0,k1,k2,k3,k5,h1,h2,_,h4,_⟩:=c.ex;exact ⟨cd,by unfold clsIn;rw [h1],h2,h4⟩
def sXF (K:PySem.W.Frag)(P:Addr)(ta tv:TE)(f:Str):TS:=λD σ H=>tv σ H λy H1=>ta σ H1 λx H2=>∃a C tp,x = .ref a/\H2 a=some (exO a C tp)/\XAt K C P f/\
 ∀dx,H2 dx=none->dx≠a->D.nx σ (upd (upd H2 dx (.xd [(f,y)])) a (FT a C tp dx))
theorem Qv {X:Cx}{P:Addr}{o value:Expr}{ta tv:TE}{f:Str}{pos' pos:Pos}(ha:PE X o ta)(hv:PE X value tv)(hs:swapsWith value (some (.Attribute o f pos')) pos.line X.env=pure false):PS X (.Assign [.Attribute o f pos'] value pos) (sXF X.K P ta tv f):=by
 intro pins s σ H D I h;refine plainObj_wpAny_Assign_Attribute (thn (hv pins s σ H _ I h) λu s1 ⟨y,H1,I1,ry,q⟩=>thn (ha pins s1 σ H1 _ I1 q) λov s2 z9=>?_) hs;obtain ⟨x,H2,I2,rx,a,C,tp,ex,ea,c,q2⟩:=z9;subst ex;obtain rfl:ov=Value.ref a:=rx;obtain ⟨cd,c1,c2,c3⟩:=c.cl.cls;have hx:s2.heap.get? a=some (excObj C tp):=(I2.hok a _ ea).1;refine Wi I2.kIn hx c.set c1 c2 c3 c.no λh' k e n=>?_;have fr:=I2.hok.fresh (um9 s2.heap.objs.size);have ne:s2.heap.objs.size≠a:=(λz=>by rw [z,ea] at fr;cases fr)
 have nn:∀b u,H2 b=some u->b≠s2.heap.objs.size:=λb u z=>Bs z fr;have na:∀b u,s2.heap.get? b=some u->H2 b=none->b≠a:=λb u _ z w'=>by rw [w',ea] at z;cases z
 refine ⟨σ,_,I2.un (h':=h') (t':=s2.toks + 2) ⟨λb u e1 e2 _ _=>k b u (na b u e1 e2) e1,λb u e1 e2 _ _=>⟨u.slots,k b u (na b u e1 e2) e1⟩,λb u e1 e2 _=>?_,λb u e1 _=>?_,λb xs e1=>?_,λb o' u e1=>?_,λb ps e1=>⟨#[],?_⟩⟩ λb u e1=>?_,q2 s2.heap.objs.size fr ne⟩
 ·rw [As (na b u e1 e2),As (ul6 (ul5 e1))];exact e2
 ·by_cases hb:b=a
  ·subst hb;exact ⟨_,e⟩
  ·exact ⟨_,k b u hb e1⟩
 ·rw [As (λz=>by rw [z,ea] at e1;cases e1),As (nn _ _ e1)];exact e1
 ·rw [As (λz=>by rw [z,ea] at e1;cases e1),As (nn _ _ e1)];exact e1
 ·rw [As (λz=>by rw [z,ea] at e1;cases e1),As (nn _ _ e1),e1];simp
 ·by_cases hb:b=a
  ·subst hb;rw [Ax] at e1;cases e1;exact U9 e
  ·rw [As hb] at e1
   by_cases hb2:b=s2.heap.objs.size
   ·subst hb2;rw [Ax] at e1;cases e1
    refine ⟨_,n,λg=>?_⟩
    by_cases hg:g=f
    ·subst hg;simp only [List.lookup,ui2,if_true];exact ry
    ·have hgb:(g == f)=false:=beq_eq_false_iff_ne.mpr hg;simp only [List.lookup,hgb,if_neg hg];trivial
   ·rw [As hb2] at e1;refine (I2.hok b u e1).stay (λz v hz q=>k z v ?_ q) (λz q=>?_) λz xs q=>?_
    ·rcases hz with rfl | hz
     ·exact hb
     ·intro w';rw [w',ea] at hz;cases hz
    ·rw [As (λz=>by rw [z,ea] at q;cases q),As (nn _ _ q)];exact q
    ·rw [As (λz=>by rw [z,ea] at q;cases q),As (nn _ _ q)];exact q
variable {qx:Bool}
theorem Hx {K:PySem.W.Frag}{h:Heap}{N:Addr}{m:Str->Option Value}{n:Str}{v:Value}(X:K.In h)(G:h.Ns N m)(e:nsIn K N n=some (some v)):m n=some v:=by
 obtain ⟨o,es,ep,ho,hd,_,hf⟩:=G;unfold nsIn at e
 split at e
 ·next c d es' n' sl q=>
  have z:=X _ _ q;rw [ho] at z
  cases z
  cases hd
  split at e
  ·next en he=>
   rw [<-hf];unfold nsFind findBy;rw [<-uf3,he];simpa using e
  ·split at e <;> cases e
 ·cases e
structure XMk (K:PySem.W.Frag)(C P f:Addr):Prop where
 cl:XCl K C (.ref P :: VE)
 init:∃cd,clsIn K C=some cd/\nsIn K cd.ns "__init__" = some (some (.ref f))
 fn:isFn K (.ref f)=true
 kp:keepIn K (.ref C)=true
def spI (K:PySem.W.Frag)(P:Addr)(a:Str):Sp:=λvs H Q _=>∃x C tp v,vs=[.ref x,v]/\H x=some (exO x C tp)/\XAt K C P a/\∀dx,H dx=none->dx≠x->Q .non (upd (upd H dx (.xd [(a,v)])) x (FT x C tp dx))
section
variable {X:Cx}{k:Nat}{f C P:Addr}{fd:FuncData}{pins:List (Addr×Obj)}{σ:St}{H:Hp}{s:Shared}{Q:Value->Shared->Prop}{us:List Value}{vs:List V}{a:Str}{ps:List Str}{v:V}{u:Value}
theorem Sw (M:XMk X.K C P f)(ha:XAt X.K C P a)(F:FnOk X.prog X.w X.K X.mg X.base CX0 k f fd ps (spI X.K P a))(hr:Room (k + 1) X.A)(hb:Binds X.K fd ps [])(I:Inv X pins σ H s)(r:RelV v u)
 (h:∀s' x dx,Inv X pins σ (upd (upd H dx (.xd [(a,v)])) x (.ext (F2.XIs qx x C (some dx)))) s'->H x=none->H dx=none->dx≠x->s.heap.objs.size<=x->XRec true s'.heap x C (some dx) .none->Q (.ref x) s'):wpAny (model X.prog X.w) X.A (call (.ref C) [u]) Q X.xe s:=by
 obtain ⟨nm,q,N,bs,sn,sub,ab,col,dd,k0,k1,k2,k3,k5,hC,hN⟩:=M.cl.obj I.kIn;have hni:s.heap.nsMap N "__init__" = some (.ref f):=by
  obtain ⟨cd,c1,c2⟩:=M.init;refine Hx I.kIn hN ?_;unfold clsIn at c1
  split at c1
  ·next l=>
   cases c1
   have z:=I.kIn _ _ l;rw [hC] at z
   cases z
   exact c2
  ·cases c1
 have I1:Inv X pins σ (upd H (s.heap.objs.size + 1) (exO (s.heap.objs.size + 1) C s.heap.objs.size)) { s with heap:=EB s.heap C [u] }:=by
  refine I.laid (t':=s.toks) (λb o e=>uc4 _ (uc4 _ e)) (un1 _) (NF ?_);show ((s.heap.push _).push _).get? _=_
  heap_get
 have hx0:=I.hok.fresh (un1 s.heap.objs.size);have r2:Vals [V.ref (s.heap.objs.size + 1),v] [Value.ref (s.heap.objs.size + 1),u]:=.cons rfl (.cons r .nil);have hsp:spI X.K P a [V.ref (s.heap.objs.size + 1),v] (upd H (s.heap.objs.size + 1) (exO (s.heap.objs.size + 1) C s.heap.objs.size))
  (λw' H'=>w' = .non/\∃dx,H dx=none/\dx≠s.heap.objs.size + 1/\H'=upd (upd H dx (.xd [(a,v)])) (s.heap.objs.size + 1) (FT (s.heap.objs.size + 1) C s.heap.objs.size dx)) E0:=by
  refine ⟨_,C,s.heap.objs.size,v,rfl,Ax,ha,λdx h1 h2=>⟨rfl,dx,by rw [As h2] at h1;exact h1,h2,?_⟩⟩
  funext b
  by_cases e1:b=s.heap.objs.size + 1
  ·subst e1;rw [Ax,Ax]
  ·by_cases e2:b=dx
   ·subst e2;rw [As e1,As e1,Ax,Ax]
   ·rw [As e1,As e1,As e2,As e2,As e1]
 have hl:([Value.ref (s.heap.objs.size + 1),u]++[]).length=ps.length:=by
  have e:=F.len _ _ _ _ hsp;simpa using e
 obtain ⟨hh,g,d,t,os⟩:=s;refine wpAny_call (JL ua8 (M.cl.tail I.kIn) hC hN hni ((bind_fn I.kIn _ (beq_iff_eq.mp M.fn))) (by show 1<=sizeLine;decide) ?_);refine codeAny_mono (F.run _ X.stack _ _ ⟨[Value.ref (hh.objs.size + 1),u],[]⟩ [Value.ref (hh.objs.size + 1),u] _ _ E0 (hr.make C [u] []) (I1.env0.make C [u] []) (by have:=hb _ [Value.ref (hh.objs.size + 1),u] I1.kIn hl;simpa using this) r2 hsp) λr s' hq'=>?_
 cases r with
 | error e=>exact hq'.elim
 | ok fl=>
   cases fl with
   | ret w'=>
     obtain ⟨v',H',I3,rv,rfl,dx,d1,d2,rfl⟩:=I1.after hq';refine ⟨rv,?_⟩;have hx:=(I3.hok (hh.objs.size + 1) _ Ax).1;have hx:s'.heap.get? (hh.objs.size + 1)=some { excObj C hh.objs.size with dict:=some dx }:=hx;have xr:XRec true s'.heap (hh.objs.size + 1) C (some dx) .none:=⟨_,_,hx,rfl,rfl,rfl,rfl,λ_=>⟨rfl,by show 4 < 6;decide⟩⟩;have I4:=I3.write (x:=hh.objs.size + 1) (e:=hh.objs.size + 1) (o:=.ext (F2.XIs qx (hh.objs.size + 1) C (some dx))) (h':=s'.heap) (t':=s'.toks) (by rw [Ax];trivial) (.inl rfl) (λ_ _ _ z=>z) ⟨_,hx⟩ (Ic xr.to.is);rw [L7] at I4;exact h s' (hh.objs.size + 1) dx I4 hx0 d1 d2 (un1 _) xr
   | next=>exact False.elim hq'
   | brk=>exact False.elim hq'
   | cont=>exact False.elim hq'
end
end L2
namespace L2
open PySem PySem.Spec PyProof.Rows PySem.W
variable {qx:Bool}
section
variable {M:Model}{A:Around}{E:Value->Shared->Prop}{K:PySem.W.Frag}{s:Shared}{x C C':Addr}{bm bm':List Value}{dx:Option Addr}{tb:Value}
theorem JM {Q:Bool->Shared->Prop}(c:XCl K C bm)(c':XCl K C' bm')(X:K.In s.heap)(hx:XRec qx s.heap x C dx tb)(h:Q ((Value.ref C :: bm).contains (.ref C')) s):wpAny M A (excMatches (.ref x) (.ref C')) Q E s:=by
 obtain ⟨nm,q,N,bs,sn,sub,ab,col,dd,k0,k1,k2,k3,k5,hC,_⟩:=c.obj X;obtain ⟨nm',q',N',bs',sn',sub',ab',col',dd',k0',k1',k2',k3',k5',hC',_⟩:=c'.obj X;have hb:=c'.has X;obtain ⟨o,vs,ho,hc,hd,hdt,h1⟩:=hx;obtain ⟨hp,g,d,tk,os⟩:=s;have ty:(⟨hp,g,d,tk,os⟩:Shared).TypeIs (.ref C') "type":=⟨_,hC',rfl⟩;have nt:=tc_notTuple
 cases hbb:(Value.ref C :: bm).contains (.ref C') <;> (
  rw [hbb] at h;unfold excMatches
  repeat (first
   | (with_reducible refine wpAny_loadPart_at ho ?_;rw [hc])
   | with_reducible refine wpAny_loadPart_at hC' ?_
   | (with_reducible refine wpAny_isSubtype_exc hC' ?_;rw [hb])
   | (with_reducible refine wpAny_isSubtype_exc hC ?_;rw [hbb])
   | wp_step)
  exact h)
end
end L2
namespace L2
open PySem PySem.Spec PyProof.Rows PySem.W
variable {qx:Bool}
def SY (h:Heap)(T:Addr)(fl:Value):Prop:=∃(o:Obj) (ts:Array Value),h.get? T=some o/\o.data = .fields ts/\ts[3]?=some fl
section
variable {M:Model}{A:Around}{E:Value->Shared->Prop}{s:Shared}{env:Env}{outer:List Env}{base:Heap}{L x C:Addr}{dx:Option Addr}{tb:Value}{Q:Unit->Shared->Prop}
theorem Mi {hadNext:Bool}{hd:Value}(hfr:A.frames=some (env :: outer))(hl:s.heap.FunFrames base (env :: outer))(hf:env.frame=some L)(hx:XRec qx s.heap x C dx tb)
 (h:∀h' T,s.heap.objs.size<=T->T≠x->XRec qx h' x C dx (.ref T)->SY h' T (rawInt L)->XKeep (frs (env :: outer)) [x] s.heap h'->Q () { s with heap:=h' }) :
 wpAny M A (do let fo <-frameOf env;let at' <-entryPlaceOf L hadNext;let en <-EntryCells.newEntry hd fo .none (rawInt L) .none at';setField (.ref x) 1 en) Q E s:=by
 obtain ⟨ox,vs,gx,cx,dxe,dtx,tbx,xc⟩:=hx;have v1:1 < vs.size:=(ua9.mp tbx).1;have nfr:x∉frs (env :: outer):=λz=>by
  obtain ⟨_,o2,g2,n2⟩:=hl.mem z;rw [gx] at g2;cases g2
  exact n2 vs dtx
 refine un4 (wpAny_frameOf_fun hfr hl hf λh1 so=>?_);refine un4 (wpAny_entryPlaceOf λat' ip=>?_);unfold EntryCells.newEntry newFields;refine un4 (wpAny_newObj_type ?_ (ip.sizeOk5 _ _ _ _ _));generalize hne:(Obj.mk (Value.type "traceback") none (Data.fields ([hd,Value.ref L,Value.none,rawInt L,Value.none]++if at'.isEmpty=true then List.replicate 6 Value.none else at').toArray) #[])=nob;have dn:nob.data = .fields ([hd,Value.ref L,Value.none,rawInt L,Value.none]++if at'.isEmpty=true then List.replicate 6 Value.none else at').toArray:=by rw [<-hne]
 have gx1:h1.get? x=some ox:=(so.2.1 x nfr).trans gx;have gx2:(h1.push nob).get? x=some ox:=uc4 _ gx1;have nex:h1.objs.size≠x:=ul8 (ul5 gx1);refine wpAny_setField gx2 dtx v1 ?_;obtain ⟨m1,m2,m3⟩:=Gq dtx (·.setIfInBounds 1 (Value.ref h1.objs.size));have gx3:=ud5 (Obj.mapFields (·.setIfInBounds 1 (Value.ref h1.objs.size))) gx2 (Obj.isFreed_of_fields m1);have gT2:(h1.push nob).get? h1.objs.size=some nob:=ue4 h1 (Obj.isFreed_of_fields dn);have gT3:=(uc7 (h1.push nob) (Obj.mapFields (·.setIfInBounds 1 (Value.ref h1.objs.size))) (Ne.symm nex)).trans gT2;have vx:(vs.setIfInBounds 1 (Value.ref h1.objs.size))[1]?=some (.ref h1.objs.size):=by simp [v1]
 have old:∀b o,b≠x->h1.get? b=some o->((h1.push nob).update x (Obj.mapFields (·.setIfInBounds 1 (Value.ref h1.objs.size)))).get? b=some o:=λb o hb e=>by
  rw [uc7 _ _ (Ne.symm hb)];exact uc4 _ e
 refine h _ h1.objs.size (Nat.le_of_eq so.1.symm) nex ⟨_,_,gx3,m2.trans cx,m3.trans dxe,m1,vx,WW xc⟩ ⟨_,_,gT3,dn,?_⟩ ⟨λb o hb hbf e=>old b o (λz=>hb (by simp [z])) ((so.2.1 b hbf).trans e),λb o hb e=>?_⟩
 ·rw [List.getElem?_toArray];rfl
 ·obtain ⟨sl,e1⟩:=so.2.2 b o e;exact ⟨sl,old b _ (λz=>hb (by simp [z])) e1⟩
end
structure XOn (qx:Bool)(X:Cx)(pins:List (Addr×Obj))(H:Hp)(s:Shared)(x C:Addr)(dx:Option Addr)(T:Option Addr)(fl:Value):Prop where
 hx:H x=some (.ext (F2.XIs qx x C dx))
 nx:X.s₀.heap.objs.size<=x
 rc:XRec qx s.heap x C dx (match T with | some a=>.ref a | none=>.none)
 tb:∀a,T=some a->a≠x/\H a=none/\X.s₀.heap.objs.size<=a/\(a≠X.env.locals/\(∀y c,X.env.cells.lookup y=some c->c≠a)/\∀p∈X.pn++pins,p.1≠a)/\SY s.heap a fl
 fo:fl = .none\/fl=rawInt X.env.locals
section
variable {M:Model}{A:Around}{Er:Value->Shared->Prop}{X:Cx}{pins:List (Addr×Obj)}{σ:St}{H:Hp}{s:Shared}{x C:Addr}{dx T:Option Addr}{fl:Value}{Q:Unit->Shared->Prop}
theorem E8 (fr:Option Addr)(I:Inv X pins σ H s){a:Addr}(o:XOn qx X pins H s x C dx (some a) fl)(hfr:fr=none\/fr=some X.env.locals)
 (k:∀h',Inv X pins σ H { s with heap:=h' }->XOn qx X pins H { s with heap:=h' } x C dx (some a) (fr.elim Value.none λf=>rawInt f)->Q () { s with heap:=h' }):wpAny M A (setFlight (.ref x) fr) Q Er s:=by
 obtain ⟨ox,vs,gx,cx,dxe,dtx,tbx,xc⟩:=id o.rc;obtain ⟨ne,hT,nT,oT,ot,ts,gT,dT,t3⟩:=o.tb a rfl;unfold setFlight;refine un4 (un3 gx dtx tbx ?_);rw [if_pos (show (Value.ref a != Value.none)=true from rfl)];refine wpAny_setField gT dT (ua9.mp t3).1 ?_;obtain ⟨m1,m2,m3⟩:=Gq dT (·.setIfInBounds 3 (fr.elim Value.none λf=>rawInt f));have gT2:=ud5 (Obj.mapFields (·.setIfInBounds 3 (fr.elim Value.none λf=>rawInt f))) gT (Obj.isFreed_of_fields m1);have oth:∀b,b≠a->(s.heap.update a (Obj.mapFields (·.setIfInBounds 3 (fr.elim Value.none λf=>rawInt f)))).get? b=s.heap.get? b:=λb z=>uc7 _ _ (Ne.symm z);have rc':XRec qx (s.heap.update a (Obj.mapFields (·.setIfInBounds 3 (fr.elim Value.none λf=>rawInt f)))) x C dx (.ref a):=⟨ox,vs,(oth x (Ne.symm ne)).trans gx,cx,dxe,dtx,tbx,xc⟩;refine k _ (I.left o.hx hT o.nx nT (ch:=[a]) ⟨λb u hb _ e=>(oth b (by simpa using hb)).trans e,λb u hb e=>⟨u.slots,(oth b (by simpa using hb)).trans e⟩⟩ (λb hb=>.inr (by simpa using hb)) rc'.is oT.2.1 oT.1 oT.2.2) ⟨o.hx,o.nx,rc',λa' e=>?_,?_⟩
 ·cases e
  exact ⟨ne,hT,nT,oT,_,_,gT2,m1,by rw [Array.getElem?_setIfInBounds_self,if_pos (ua9.mp t3).1]⟩
 ·rcases hfr with rfl | rfl
  ·exact .inl rfl
  ·exact .inr rfl
theorem Gv (hA:A.frames=some X.stack)(I:Inv X pins σ H s)(hs:X.stack=X.env :: X.outer)(hf:X.env.frame=some X.env.locals)(o:XOn qx X pins H s x C dx T fl)
 (k:∀h' a,Inv X pins σ H { s with heap:=h' }->XOn qx X pins H { s with heap:=h' } x C dx (some a) (rawInt X.env.locals)->Q () { s with heap:=h' }):wpAny M A (noteFrame (.ref x) X.env) Q Er s:=by
 obtain ⟨ox,vs,gx,cx,dxe,dtx,tbx,xc⟩:=id o.rc;have fin:∀(s1:Shared) (hh:∃h1,s1 = { s with heap:=h1 }) (ch:List Addr) (h':Heap) (a:Addr),Inv X pins σ H s1->s1.heap.objs.size<=a->a≠x->XRec qx h' x C dx (.ref a)->SY h' a (rawInt X.env.locals)->XKeep (frs (X.env :: X.outer)) [x] s1.heap h'->Q () { s1 with heap:=h' }:=by
  rintro s1 ⟨h1,rfl⟩ ch h' a I1 l1 l2 l3 l4 l5;obtain ⟨o1,o2,o3⟩:=I1.newT l1;have J:=I1.left o.hx (I1.hok.fresh l1) o.nx (ul7 I1.sz l1) (ch:=[x]) (hs ▸ l5) (λb hb=>.inl (by simpa using hb)) l3.is o2 o1 o3;exact k h' a J ⟨o.hx,o.nx,l3,λa' e=>by cases e;exact ⟨l2,I1.hok.fresh l1,ul7 I1.sz l1,⟨o1,o2,o3⟩,l4⟩,.inr rfl⟩
 unfold noteFrame;simp only [hf];refine un4 (un3 gx dtx tbx ?_)
 cases T with
 | none=>
   rw [if_neg (by decide)];exact Mi (hA.trans (congrArg some hs)) (hs ▸ I.stack) hf o.rc λh' a l1 l2 l3 l4 l5=>fin s ⟨s.heap,rfl⟩ [] h' a I l1 l2 l3 l4 l5
 | some T₀=>
   obtain ⟨ne,hT,nT,oT,ot,ts,gT,dT,t3⟩:=o.tb T₀ rfl;rw [if_pos (show (Value.ref T₀ != Value.none)=true from rfl)];refine un4 (un3 gT dT t3 ?_);rcases o.fo with rfl | rfl
   ·rw [if_neg (show ¬((Value.none == rawInt X.env.locals)=true) from by simp [rawInt])];refine un4 (wpAny_setField gT dT (ua9.mp t3).1 ?_);have oth:∀b,b≠T₀->(s.heap.update T₀ (Obj.mapFields (·.setIfInBounds 3 Value.none))).get? b=s.heap.get? b:=λb z=>uc7 _ _ (Ne.symm z);have rc':XRec qx (s.heap.update T₀ (Obj.mapFields (·.setIfInBounds 3 Value.none))) x C dx (.ref T₀):=⟨ox,vs,(oth x (Ne.symm ne)).trans gx,cx,dxe,dtx,tbx,xc⟩;have J:=I.left o.hx hT o.nx nT (ch:=[T₀]) ⟨λb u hb _ e=>(oth b (by simpa using hb)).trans e,λb u hb e=>⟨u.slots,(oth b (by simpa using hb)).trans e⟩⟩ (λb hb=>.inr (by simpa using hb)) rc'.is oT.2.1 oT.1 oT.2.2;exact Mi (s:={ s with heap:=s.heap.update T₀ (Obj.mapFields (·.setIfInBounds 3 Value.none)) }) (hA.trans (congrArg some hs)) (hs ▸ J.stack) hf rc' λh' a l1 l2 l3 l4 l5=>fin _ ⟨_,rfl⟩ [] h' a J l1 l2 l3 l4 l5
   ·rw [if_pos (show (rawInt X.env.locals == rawInt X.env.locals)=true from by first | (simp;done) | exact ui2 _)];exact un5 (k s.heap T₀ I ⟨o.hx,o.nx,o.rc,o.tb,.inr rfl⟩)
end
def XE (qx:Bool)(X:Cx)(E:St->XK):Value->Shared->Prop:=λe s=>∃pins σ H x C dx T fl,e = .ref x/\Inv X pins σ H s/\XOn qx X pins H s x C dx T fl/\E σ (.ref x) dx H
def F7 (CX:CXT)(X:Cx)(E:St->XK):Prop:=∀(pins:List (Addr×Obj)) (σ:St) (H:Hp) (s:Shared) (e:Value) (s':Shared),Inv X pins σ H s->CX X.stack H s (E σ) e s'->X.xe e s'
section
variable {M:Model}{X:Cx}{E:St->XK}
theorem XE.own (hs:X.stack=X.env :: X.outer)(hf:X.env.frame=some X.env.locals):PassesOwn M X.A X.env (XE qx X E):=by
 rintro e s ⟨pins,σ,H,x,C,dx,T,fl,rfl,I,o,q⟩;refine Gv I.ok.frames I hs hf o λh' a I' o'=>?_;obtain ⟨ox,vs,gx,cx,dxe,dtx,tbx,xc⟩:=id o'.rc;unfold cameBackBy;refine un4 (un3 gx dtx tbx ?_);rw [if_neg (show ¬((Value.ref a == Value.none)=true) from by intro z;cases z)]
 rw [hf];exact E8 _ I' o' (.inr rfl) λh'' I'' o''=>⟨pins,σ,H,x,C,dx,some a,_,rfl,I'',o'',q⟩
theorem XE.pass:F7 (CX1 qx X.prog X.w) (X.wish (XE qx X E)) E:=by
 intro pins σ H s e s' I q;obtain ⟨x,C,dx,T,H',rfl,J,hx,nx,nT,ne,hT,r,tb,q⟩:=I.unwish.raised q;exact ⟨pins,σ,H',x,C,dx,some T,.none,rfl,J,⟨hx,ul7 I.sz nx,r,λa e=>by cases e;exact ⟨ne,hT,ul7 I.sz nT,I.unwish.newT nT,tb⟩,.inl rfl⟩,q⟩
end
section
variable {P:Program}{w:World}{K:PySem.W.Frag}{mg:Str->Option Value}{base:Heap}
abbrev cxX (qx:Bool)(P:Program)(w:World)(K:PySem.W.Frag)(mg:Str->Option Value)(base:Heap)(N:List Str)(qual:Str)(scope:Scope)(f:Addr)(cd:Value)(A:Around)(outer:List Env)(s:Shared)(H:Hp)(E:XK):Cx:=
 (Em (CX1 qx P w) P w K mg base N qual scope f cd A outer s H E).wish (XE qx (Em (CX1 qx P w) P w K mg base N qual scope f cd A outer s H E) λ_=>E)
theorem XE.leaves {N:List Str}{qual:Str}{scope:Scope}{f:Addr}{cd:Value}{A:Around}{outer:List Env}{s₀:Shared}{H₀:Hp}{E:XK}{e:Value}{s:Shared}
 (h:XE qx (Em (CX1 qx P w) P w K mg base N qual scope f cd A outer s₀ H₀ E) (λ_=>E) e s):(Em (CX1 qx P w) P w K mg base N qual scope f cd A outer s₀ H₀ E).xe e s:=by
 obtain ⟨pins,σ,H,x,C,dx,T,fl,rfl,I,o,q⟩:=h;refine un4 (Gv I.ok.frames I rfl rfl o λh' a I' o'=>?_);refine E8 none I' o' (.inl rfl) λh'' I'' o''=>?_;obtain ⟨ne,hT,nT,oT,tb⟩:=o''.tb a rfl;exact ⟨x,C,dx,a,H,rfl,I''.os,I''.bare,I''.base,I''.hok,o''.hx,o''.nx,nT,ne,hT,o''.rc,tb,q⟩
theorem Fun.okX {x qual:Str}{st:Stmt}{f:Addr}{fd:FuncData}{N ps:List Str}{k:Nat}{sp:Sp}(F:Fun K x qual st f fd)(S:FnScope N ps (Ao st))(len:∀vs H Q E,sp vs H Q E->vs.length=ps.length)
 (hbody:∀(cdv:Value) (A:Around) (outer:List Env) (s:Shared) (H:Hp) (vs:List V) (Q:VK) (E:XK),Room k (A.deeper (envOfC qual (Ao st) s.heap.objs.size f cdv))->sp vs H Q E->
   ∃t,PSs (cxX qx P w K mg base N qual (Ao st) f cdv A outer s H E) (Ca st) t/\t { nx:=λ_ H'=>Q .non H',rt:=Q } (DK N vs) H):FnOk P w K mg base (CX1 qx P w) (k + 1) f fd ps sp:=by
 obtain ⟨oc,od,kV,doc,pm,an,cdv,ct,osl,rfl,lk,hcd⟩:=F.ex;refine UA lk hcd S len λA outer s H vs Q E hr hsp=>?_;obtain ⟨t,h,q⟩:=hbody cdv A outer s H vs Q E hr hsp;exact ⟨t,λpins s1 σ H1 D I hw=>un6 (h pins s1 σ H1 D (I.wish _) hw) (λ_ _ q=>q.unwish) λ_ _ z=>z.leaves,q⟩
theorem FnOk.calm {k:Nat}{f:Addr}{fd:FuncData}{ps:List Str}{sp sp':Sp}(F:FnOk P w K mg base (CX1 qx P w) k f fd ps sp)(h:∀vs H Q E,sp' vs H Q E->sp vs H Q E0):FnOk P w K mg base CX0 k f fd ps sp':=by
 refine ⟨λvs H Q E q=>F.len vs H Q E0 (h _ _ _ _ q),λA outer s H args us vs Q E hr he hb hv hs=>codeAny_mono (F.run A outer s H args us vs Q E0 hr he hb hv (h _ _ _ _ hs)) λr s' q=>?_⟩
 cases r with
 | error e=>obtain ⟨_,_,_,_,_,_,_,_,_,_,_,_,_,_,_,_,_,z⟩:=q;exact z.elim
 | ok fl=>cases fl <;> exact q
end
section
variable {X:Cx}{CX:CXT}{k:Nat}{f:Addr}{fd:FuncData}{ps:List Str}{sp:Sp}{E:St->XK}{x:Str}{p pos:Pos}{e:Expr}{es:List Expr}{t:TA}
def Yg (sp:Sp)(E:St->XK)(t:TA):TE:=λσ H Q=>t σ H λvs H1=>sp vs H1 Q (E σ)
theorem TV (F:FnOk X.prog X.w X.K X.mg X.base CX k f fd ps sp)(hr:Room k X.A)(hg:Gl X x)(hm:X.mg x=some (.ref f))(hk:PySem.W.keepIn X.K (.ref f)=true)(hb:Binds X.K fd ps [])(hx:F7 CX X E)
 (ha:PA X (e :: es) t) (hdb:(x == ("__debug__" : Str))=false:=by decide) (he:starEach (e :: es) X.env=(false,eval e X.env) :: starEach es X.env:=by rfl) (hpl:(backTo pos (starEach es X.env)).any (·.1)=false:=by rfl) :
 PE X (.Call (.Name x p) (e :: es) [] pos) (Yg sp E t):=by
 intro pins s σ H Q I h;refine wpAny_Call_Name_kw (D9 I hg hm ?_ hdb);refine uf4 (h₀:=X.base) I.ok.mod.kin hk (thn (ha pos pins s σ H _ I h) λus s1 z9=>?_) he hpl;obtain ⟨vs,H1,I1,r,q⟩:=z9;refine ⟨I1.kIn,?_⟩;have hl:(us++[]).length=ps.length:=by rw [ui6,<-r.length];exact F.len _ _ _ _ q
 refine wpAny_call (codeAny_mono (F.run X.A X.stack s1 H1 ⟨us,[]⟩ us vs Q (E σ) hr I1.env0 (by have:=hb s1 us I1.kIn hl;rwa [ui6] at this) r q) λr s' hq=>?_)
 cases r with
 | error e=>exact hx pins σ H1 s1 e s' I1 hq
 | ok fl=>
   cases fl with
   | ret u=>exact I1.after hq
   | next=>exact False.elim hq
   | brk=>exact False.elim hq
   | cont=>exact False.elim hq
end
end L2
namespace L2
open PySem PySem.Spec PyProof.Rows PySem.W
variable {qx:Bool}
def PM (qx:Bool)(X:Cx)(e:Expr)(C:Addr)(t:St->Hp->(Addr->Option Addr->Hp->Prop)->Prop):Prop:=
 ∀(pins:List (Addr×Obj)) (s:Shared) (σ:St) (H:Hp) (Q:Addr->Option Addr->Hp->Prop),Inv X pins σ H s->t σ H Q->
  wpAny (model X.prog X.w) X.A (eval e X.env) (λv s1=>∃x dx H1,v = .ref x/\Inv X pins σ H1 s1/\H1 x=some (.ext (F2.XIs qx x C dx))/\X.s₀.heap.objs.size<=x/\XRec true s1.heap x C dx .none/\Q x dx H1) X.xe s
def Gf (qx:Bool)(X:Cx)(E:St->XK):Prop:=∀(pins:List (Addr×Obj)) (σ:St) (H:Hp) (s:Shared) (x C:Addr) (dx:Option Addr),Inv X pins σ H s->XOn qx X pins H s x C dx none .none->E σ (.ref x) dx H->X.xe (.ref x) s
theorem XE.raises {X:Cx}{E:St->XK}:Gf qx (X.wish (XE qx X E)) E:=λpins σ H s x C dx I o q=>⟨pins,σ,H,x,C,dx,none,.none,rfl,I.unwish,⟨o.hx,o.nx,o.rc,o.tb,o.fo⟩,q⟩
theorem JW {X:Cx}{e:Expr}{C:Addr}{bm:List Value}{t:St->Hp->(Addr->Option Addr->Hp->Prop)->Prop}{E:St->XK}{pos:Pos}(hc:X.calm=true)(c:XCl X.K C bm)(hx:Gf qx X E)(h:PM qx X e C t)
 (ho:evalOpt (some e) X.env=some (eval e X.env):=by rfl):PS X (.Raise (some e) none pos) (λ_ σ H=>t σ H λx dx H1=>E σ (.ref x) dx H1):=by
 intro pins s σ H D I q;rw [arm_exec_Raise,ho];refine un4 (wpAny_standAt ?_);refine Ua (qx:=true) c (I.ok.hd hc) ?_;refine un4 (un6 (h pins s σ H _ I q) (λv s1 z9=>?_) λ_ _ z=>z);obtain ⟨x,dx,H1,e1,I1,hx1,nx,r,q1⟩:=z9;subst e1;refine un4 (wpAny_standAt (un5 ⟨x,dx,rfl,I1.kIn,r,hx pins σ H1 s1 x C dx I1 ⟨hx1,nx,r.to,(λa e=>by cases e),.inl rfl⟩ q1⟩))
theorem Qm {K:PySem.W.Frag}{h:Heap}{N:Addr}{m:Str->Option Value}{n:Str}(X:K.In h)(G:h.Ns N m)(e:nsIn K N n=some none):m n=none:=by
 obtain ⟨o,es,ep,ho,hd,_,hf⟩:=G;unfold nsIn at e
 split at e
 ·next c d es' n' sl q=>
  have z:=X _ _ q;rw [ho] at z
  cases z
  cases hd
  split at e
  ·cases e
  ·next he=>rw [<-hf];unfold nsFind findBy;rw [<-uf3,he];rfl
 ·cases e
section
variable {prog:Program}{w:World}{A:Around}{E:Value->Shared->Prop}{h:Heap}{g:Array GenState}{d:Drawn}{t:Nat}{os:OsState}{Q:Value->Shared->Prop}
variable {nm q:Str}{C N:Addr}{bs bm bmB:List Value}{hdct:Bool}{sn:List Str}{sub:List Value}{ab:Bool}{col:Option Bool}{dd:Option Addr}{k0 k1 k2 k3 k5:Option Value}{B newId initId:String}{mN:Str->Option Value}
theorem RY (F:ExcBaseFacts B newId initId bmB)(T:OwnTail h bmB bm){us:List Value}(hC:h.get? C=some (excClassObj nm q C N bs bm hdct sn sub ab col dd k0 k1 k2 k3 k5 newId))(hn:h.Ns N mN)(hni:mN "__init__" = none)(hus:us.length<=sizeLine)
 (hq:∀h' tp,(∀b o,h.get? b=some o->h'.get? b=some o)->h'.get? (h.objs.size + 1)=some (excObj C tp)->Q (.ref (h.objs.size + 1)) ⟨h',g,d,t,os⟩) :
 wpAny (model prog w) A (call (.ref C) us) Q E ⟨h,g,d,t,os⟩:=by
 have c1:=tc_lookup;have c2:=tc_bind (.ref C);have ty:(⟨h,g,d,t,os⟩:Shared).TypeIs (.ref C) "type":=⟨_,hC,rfl⟩;refine wpAny_call (codeAny_of_tree ?_);show wpAny _ _ (callAny (.ref C) _) _ _ _
 repeat (any_goals (first
  | assumption
  | with_reducible refine wpAny_loadPart_at hC ?_
  | wp_step))
 refine ⟨rfl,codeAny_call_builtin_at (Code.quiet_builtin _ (by decide +kernel)) entry_typeCall (wpAny_check_type_call_sub hC ?_)⟩
 repeat (first
  | with_reducible refine wpAny_loadPart_at hC ?_
  | with_reducible refine wpAny_madeBy_exc hC ?_
  | wp_step)
 refine codeAny_call_builtin_code (Code.quiet_builtin _ F.quiet) (wpAny_check_new_subT F T hC (codeAny_exc_new_subT F T hC ?_ hus))
 change wpAny _ _ _ _ _ (Shared.mk (EB h C us) g d t os)
 have kp:∀b o,h.get? b=some o->(EB h C us).get? b=some o:=λb o e=>uc4 _ (uc4 _ e);have he:(EB h C us).get? (h.objs.size + 1)=some { cls:=.ref C,data:=.fields #[.ref h.objs.size,.none,.none,.none,.bool false,.none] }:=by heap_get
 have n1:(EB h C us).Ns N mN:=hn.keeps kp;have cC:(Value.ref C :: bm).contains (.ref C)=true:=by simp
 unfold isInstance
 repeat (first
  | with_reducible refine wpAny_loadPart_at he ?_
  | (with_reducible refine wpAny_isSubtype_exc (kp _ _ hC) ?_;rw [cC])
  | wp_step)
 show wpAny _ _ (typeLookup (.ref C) _) _ _ _;refine wpAny_typeLookup_tail (kp _ _ hC) n1 (T.keeps kp) F.mroIs F.init.lookup ?_;rw [hni];refine ul4 (un4 (wpAny_of_eq (F.init.bind _) (un4 (wpAny_call (codeAny_call_builtin F.init.plain F.initEntry (wpAny_check_init_subT F (T.keeps kp) (kp _ _ hC) he rfl ?_))))))
 wp_walk
 refine hq _ ((EB h C us).objs.size) (λb o hb=>?_) ?_
 ·rw [uc7 _ _ (ul8 (Nat.lt_succ_of_lt (ul5 hb)))];exact uc4 _ (kp b o hb)
 ·rw [ud5 _ (uc4 _ he) rfl];rfl
end
section
variable {X:Cx}{k:Nat}{f C P:Addr}{fd:FuncData}{a:Str}{ps:List Str}{n:Str}{p pos:Pos}{e:Expr}{es:List Expr}
theorem XB {t:TA}(M:XMk X.K C P f)(ha:XAt X.K C P a)(F:FnOk X.prog X.w X.K X.mg X.base CX0 k f fd ps (spI X.K P a))(hr:Room (k + 1) X.A)(hb:Binds X.K fd ps [])(hg:Gl X n)(hm:X.mg n=some (.ref C))(hA:PA X [e] t)
 (hdb:(n == ("__debug__" : Str))=false:=by decide) (h1:starEach [e] X.env=[(false,eval e X.env)]:=by rfl) :
 PM qx X (.Call (.Name n p) [e] [] pos) C (λσ H Q=>t σ H λvs H1=>∃v,vs=[v]/\∀x dx,H1 x=none->H1 dx=none->dx≠x->Q x (some dx) (upd (upd H1 dx (.xd [(a,v)])) x (.ext (F2.XIs qx x C (some dx))))):=by
 intro pins s σ H Q I h;refine wpAny_Call_Name_kw (D9 I hg hm ?_ hdb);refine uf4 (h₀:=X.base) I.ok.mod.kin M.kp (thn (hA pos pins s σ H _ I h) λus s1 z9=>?_) h1 rfl;obtain ⟨vs,H1,I1,r,v,ev,q⟩:=z9;refine ⟨I1.kIn,?_⟩;subst ev
 cases r with
 | cons r0 rs=>
   cases rs
   exact Sw M ha F hr hb I1 r0 λs' x dx I' hx hdx ne nx rc=>⟨x,some dx,_,rfl,I',Ax,ul7 I1.sz nx,rc,q x dx hx hdx ne⟩
theorem VU {t:TA}{bm:List Value}{cd:ClassData}(c:XCl X.K C bm)(hk:keepIn X.K (.ref C)=true)(hcd:clsIn X.K C=some cd)(hni:nsIn X.K cd.ns "__init__" = some none)(hg:Gl X n)(hm:X.mg n=some (.ref C))(ha:PA X (e :: es) t)
 (hdb:(n == ("__debug__" : Str))=false:=by decide) (h1:starEach (e :: es) X.env=(false,eval e X.env) :: starEach es X.env:=by rfl) (hpl:(backTo pos (starEach es X.env)).any (·.1)=false:=by rfl) :
 PM qx X (.Call (.Name n p) (e :: es) [] pos) C (λσ H Q=>t σ H λvs H1=>vs.length<=1000/\∀x,H1 x=none->Q x none (upd H1 x (.ext (F2.XIs qx x C none)))):=by
 intro pins s σ H Q I h;refine wpAny_Call_Name_kw (D9 I hg hm ?_ hdb);refine uf4 (h₀:=X.base) I.ok.mod.kin hk (thn (ha pos pins s σ H _ I h) λus s1 z9=>?_) h1 hpl;obtain ⟨vs,H1,I1,r,hl,q⟩:=z9;refine ⟨I1.kIn,?_⟩;obtain ⟨nm,q',N,bs,sn,sub,ab,col,dd,k0,k1,k2,k3,k5,hC,hN⟩:=c.obj I1.kIn;have hni':s1.heap.nsMap N "__init__" = none:=by
  unfold clsIn at hcd
  split at hcd
  ·next l=>
   cases hcd
   have z:=I1.kIn _ _ l;rw [hC] at z
   cases z
   exact Qm I1.kIn hN hni
  ·cases hcd
 obtain ⟨hh,g,d,tk,os⟩:=s1;refine RY ua8 (c.tail I1.kIn) hC hN hni' (by show us.length<=sizeLine;rw [<-r.length];exact ul7 hl (by decide)) λh' tp kp ht=>?_;have xr:XRec true h' (hh.objs.size + 1) C none .none:=⟨_,_,ht,rfl,rfl,rfl,rfl,λ_=>⟨rfl,by show 4 < 6;decide⟩⟩;exact ⟨_,none,_,rfl,I1.laid (h':=h') (t':=tk) kp (un1 _) (Ic xr.to.is),Ax,ul7 I1.sz (un1 _),xr,q _ (I1.hok.fresh (un1 _))⟩
end
end L2
namespace L2
open PySem PySem.Spec PyProof.Rows PySem.W
variable {qx:Bool}
abbrev Cx.mark (X:Cx)(x:Addr):Cx:={ X with A:=X.A.mark (some (.ref x)),calm:=false,xe:=λ_ _=>False }
section
variable {X:Cx}{pins:List (Addr×Obj)}{σ:St}{H:Hp}{s:Shared}{D:Ends}
theorem Inv.mark (I:Inv X pins σ H s)(x:Addr):Inv (X.mark x) pins σ H s:=
 ⟨⟨I.ok.mod,I.ok.kind,I.ok.glob,I.ok.blt,I.ok.above,I.ok.inj,I.ok.has,I.ok.cab,(λz=>by cases z),I.ok.frames,I.ok.stk,I.ok.exf,I.ok.bs,I.ok.bsz,I.ok.noex,I.ok.exfs,I.ok.funs,I.ok.frf⟩,I.os,I.bare,I.base,I.loc,I.cell,I.free,I.freeC,I.pin,I.hok,I.len⟩
theorem Inv.unmark {x:Addr}(J:X.Ok)(I:Inv (X.mark x) pins σ H s):Inv X pins σ H s:=⟨J,I.os,I.bare,I.base,I.loc,I.cell,I.free,I.freeC,I.pin,I.hok,I.len⟩
theorem Inv.repin {pn' pins':List (Addr×Obj)}{xe:Value->Shared->Prop}(I:Inv X pins σ H s)(h:∀p∈pn'++pins',p∈X.pn++pins):Inv { X with pn:=pn',xe:=xe } pins' σ H s:=
 ⟨⟨I.ok.mod,I.ok.kind,I.ok.glob,I.ok.blt,I.ok.above,I.ok.inj,I.ok.has,I.ok.cab,I.ok.hd,I.ok.frames,I.ok.stk,I.ok.exf,I.ok.bs,I.ok.bsz,I.ok.noex,I.ok.exfs,I.ok.funs,I.ok.frf⟩,I.os,I.bare,I.base,I.loc,I.cell,I.free,I.freeC,λp hp=>I.pin p (h p hp),I.hok,I.len⟩
theorem SP.unmark {x:Addr}(J:X.Ok){f:Flow}(h:SP (X.mark x) pins D f s):SP X pins D f s:=by
 cases f with
 | next=>obtain ⟨σ',H',I,q⟩:=h;exact ⟨σ',H',I.unmark J,q⟩
 | brk=>obtain ⟨σ',H',I,q⟩:=h;exact ⟨σ',H',I.unmark J,q⟩
 | cont=>obtain ⟨σ',H',I,q⟩:=h;exact ⟨σ',H',I.unmark J,q⟩
 | ret u=>obtain ⟨v,σ',H',I,r,q⟩:=h;exact ⟨v,σ',H',I.unmark J,r,q⟩
theorem HI {M:Model}{A:Around}{E:Value->Shared->Prop}{i:Nat}{n:Str}{pos:Pos}{Q:Unit->Shared->Prop}(I:Inv X pins σ H s)(hN:X.N.Nodup)(hi:X.N[i]?=some n)(hk:X.env.scope.names.lookup n=some .local)
 (h:∀s',Inv X pins (σ.set i none) H s'->Q () s'):wpAny M A (do bindName X.env n .none;unbindBehindTheSuite X.env n pos) Q E s:=by
 refine un4 (wpAny_bindName (Gy (v:=.non) I hN hi (.inl hk) rfl (λs1 I1=>?_) (.inr hk)));unfold unbindBehindTheSuite;have hiσ:i < σ.length:=by rw [I.len];exact (ub1.mp hi).1
 obtain ⟨m,hn,hl⟩:=id I1.loc;have hcls:(X.env.scope.kind == .class || (X.env.scope.kind == .module && X.env.locals != X.env.globals))=false:=by rw [I.ok.kind];rfl
 obtain ⟨u0,_,lk⟩:=hl i n .non hi (by rw [uc3 hiσ]) (.inl hk);have hv:m n=some u0:=by
  rcases lk with ⟨_,e⟩ | ⟨k,_⟩
  ·exact e
  ·have k:X.env.scope.names.lookup n=some .cell\/X.env.scope.names.lookup n=some .free:=k;rw [hk] at k;rcases k with k | k <;> cases k
 refine wpAny_onRaise (wpAny_unbindName_local hk hn hv hcls λh' u hn' hs=>?_);have cne:=I1.cne;have tracked:HOk X.prog X.w H h':=λb ob e=>by
  refine (I1.hok b ob e).stay (λc w' hc q=>(hs.2 c ?_).trans q) (λ_ q=>q) λ_ _ q=>q;rintro rfl;rcases hc with rfl | hc
  ·rw [I1.free] at e;cases e
  ·rw [I1.free] at hc;cases hc
 have far:∀b o,X.s₀.heap.get? b=some o->b≠X.env.locals:=λb o e=>ul6 (uf0 (ul5 e) I1.ok.above);refine h _ ⟨I1.ok,I1.os,I1.bare,⟨λb o e n hb hx=>?_,λb o e n hb hx=>?_,I1.base.free,λb o e hx=>?_,I1.base.tups,I1.base.frzs,I1.base.tbls⟩,⟨_,hn',λj y v' e1 e2 e3=>?_⟩,λy c e=>?_,I1.free,I1.freeC,λp hp=>?_,tracked,by simpa using I.len⟩
 ·exact (hs.2 b (far b o e)).trans (I1.base.keep b o e n hb hx)
 ·obtain ⟨sl,e1⟩:=I1.base.slot b o e n hb hx;exact ⟨sl,(hs.2 b (far b o e)).trans e1⟩
 ·obtain ⟨o',e1⟩:=I1.base.there b o e hx;exact ⟨o',(hs.2 b (far b o e)).trans e1⟩
 ·by_cases hj:j=i
  ·subst hj;rw [uc3 hiσ] at e2
   cases e2
  ·rw [ud9 (Ne.symm hj)] at e2;obtain ⟨u',r',q⟩:=hl j y v' e1 (by rw [ud9 (Ne.symm hj)];exact e2) e3;refine ⟨u',r',?_⟩;rcases q with ⟨k,e⟩ | ⟨k,c,e,z⟩
   ·refine .inl ⟨k,?_⟩;have:y≠n:=λe=>hj (Hw hN e1 (e ▸ hi));simp [this,e]
   ·exact .inr ⟨k,c,e,z.sameBut hs (cne y c e)⟩
 ·obtain ⟨w',z⟩:=I1.cell y c e;exact ⟨w',z.sameBut hs (cne y c e)⟩
 ·obtain ⟨e,n,ne,nf,d⟩:=I1.pin p hp;exact ⟨(hs.2 p.1 ne).trans e,n,ne,nf,d⟩
end
def PH (qx:Bool)(X:Cx)(hs:List ExceptHandler)(th:Addr->Addr->Option Addr->TS):Prop:=∀(pins:List (Addr×Obj)) (s:Shared) (σ:St) (H:Hp) (x C:Addr) (dx:Option Addr) (T:Addr) (D:Ends),Inv X pins σ H s->XOn qx X pins H s x C dx (some T) .none->th x C dx D σ H->
 wpAny (model X.prog X.w) X.A (handleBy (.ref x) X.env hs) (SP X pins D) X.xe s
noncomputable def Ends.unset (D:Ends)(i:Nat):Ends:={ nx:=λσ H=>D.nx (σ.set i none) H,rt:=D.rt,bk:=λσ H=>D.bk (σ.set i none) H,ct:=λσ H=>D.ct (σ.set i none) H }
section
variable {X:Cx}{n v:Str}{C':Addr}{bm':List Value}{p pos:Pos}{b₀:Stmt}{suite:List Stmt}{rest:List ExceptHandler}{ts:Addr->TS}{tr:Addr->Addr->Option Addr->TS}{i:Nat}
def ah (K:PySem.W.Frag)(C':Addr)(i:Nat)(ts:Addr->TS)(tr:Addr->Addr->Option Addr->TS):Addr->Addr->Option Addr->TS:=λx C dx D σ H=>∃bm,XCl K C bm/\
 if (Value.ref C :: bm).contains (.ref C')=true then ts x (D.unset i) (σ.set i (some (.ref x))) H else tr x C dx D σ H
theorem YQ (hg:Gl X n)(hm:X.mg n=some (.ref C'))(c':XCl X.K C' bm')(hN:X.N.Nodup)(hi:X.N[i]?=some v)(hl:X.env.scope.names.lookup v=some .local)(hb:∀x,PSs (X.mark x) (b₀ :: suite) (ts x))(hr:PH qx X rest tr)
 (hdb:(n == ("__debug__" : Str))=false:=by decide):PH qx X (.ExceptHandler (some (.Name n p)) (some v) (b₀ :: suite) pos :: rest) (ah X.K C' i ts tr):=by
 intro pins s σ H x C dx T D I o ⟨bm,c,q⟩;have Im:=I.mark x;refine wpAny_handleBy_cons (codeAny_handlers_test (D9 Im hg hm ?_ hdb)) (by intro z;cases z)
 refine JM c c' I.kIn o.rc ?_
 cases hc:(Value.ref C :: bm).contains (.ref C') with
 | false=>
   rw [hc,if_neg (by decide)] at q;exact hr pins s σ H x C dx T D I o q
 | true=>
   rw [hc,if_pos rfl] at q;refine codeAny_handlers_suite_as ?_;refine E8 none I o (.inl rfl) λh1 I1 o1=>?_;refine Gy (v:=.ref x) I1 hN hi (.inl hl) rfl (λs2 I2=>?_) (.inr hl);refine un6 (hb x pins s2 _ H _ (I2.mark x) q) (λf s3 z=>?_) λ_ _ z=>z.elim;show wpAny _ _ _ _ _ _;have J:=I.ok
   cases f with
   | next=>obtain ⟨σ',H',I',q'⟩:=z;exact HI (I'.unmark J) hN hi hl λs4 I4=>⟨_,H',I4,q'⟩
   | brk=>obtain ⟨σ',H',I',q'⟩:=z;exact HI (I'.unmark J) hN hi hl λs4 I4=>⟨_,H',I4,q'⟩
   | cont=>obtain ⟨σ',H',I',q'⟩:=z;exact HI (I'.unmark J) hN hi hl λs4 I4=>⟨_,H',I4,q'⟩
   | ret u=>obtain ⟨w,σ',H',I',r,q'⟩:=z;exact HI (I'.unmark J) hN hi hl λs4 I4=>⟨w,_,H',I4,r,q'⟩
def ai (K:PySem.W.Frag)(C':Addr)(ts:TS)(tr:Addr->Addr->Option Addr->TS):Addr->Addr->Option Addr->TS:=λx C dx D σ H=>∃bm,XCl K C bm/\
 if (Value.ref C :: bm).contains (.ref C')=true then ts D σ H else tr x C dx D σ H
theorem YR {ts:TS}(hg:Gl X n)(hm:X.mg n=some (.ref C'))(c':XCl X.K C' bm')(hb:∀x,PSs (X.mark x) (b₀ :: suite) ts)(hr:PH qx X rest tr)
 (hdb:(n == ("__debug__" : Str))=false:=by decide):PH qx X (.ExceptHandler (some (.Name n p)) none (b₀ :: suite) pos :: rest) (ai X.K C' ts tr):=by
 intro pins s σ H x C dx T D I o ⟨bm,c,q⟩;have Im:=I.mark x;refine wpAny_handleBy_cons (codeAny_handlers_test (D9 Im hg hm ?_ hdb)) (by intro z;cases z)
 refine JM c c' I.kIn o.rc ?_
 cases hc:(Value.ref C :: bm).contains (.ref C') with
 | false=>
   rw [hc,if_neg (by decide)] at q;exact hr pins s σ H x C dx T D I o q
 | true=>
   rw [hc,if_pos rfl] at q;refine codeAny_handlers_suite ?_;refine E8 none I o (.inl rfl) λh1 I1 o1=>?_;exact un6 (hb x pins _ _ H _ (I1.mark x) q) (λf s3 z=>z.unmark I.ok) λ_ _ z=>z.elim
theorem XG {body:List Stmt}{h₀:ExceptHandler}{hs:List ExceptHandler}{tb:(St->XK)->TS}{th:Addr->Addr->Option Addr->TS}(h1:X.stack=X.env :: X.outer)(h2:X.env.frame=some X.env.locals)
 (hb:∀(pn:List (Addr×Obj)) (E:St->XK),PSs { X with pn:=pn,xe:=XE qx { X with pn:=pn } E } body (tb E)) (hh:PH qx X (h₀ :: hs) th) :
 PS X (.Try body (h₀ :: hs) [] [] pos) (λD σ H=>tb (λσ' v dx H'=>∀x C,v = .ref x->H' x=some (.ext (F2.XIs qx x C dx))->(∃h,F2.XIs qx x C dx h)->th x C dx D σ' H') D σ H):=by
 intro pins s σ H D I q;refine wpAny_Try_except ?_;refine un6 (hb (X.pn++pins) _ [] s σ H D (I.repin λp hp=>by simpa using hp) q) (λf s1 z=>?_) λe s1 z=>?_
 ·have back:∀{σ':St} {H':Hp},Inv { X with pn:=X.pn++pins,xe:=XE qx { X with pn:=X.pn++pins } (λσ' v dx H'=>∀x C,v = .ref x->H' x=some (.ext (F2.XIs qx x C dx))->(∃h,F2.XIs qx x C dx h)->th x C dx D σ' H') } [] σ' H' s1->Inv X pins σ' H' s1:=λJ=>J.repin (X:={ X with pn:=X.pn++pins,xe:=_ }) (pn':=X.pn) (pins':=pins) (xe:=X.xe) λp hp=>by simpa using hp
  cases f with
  | next=>obtain ⟨σ',H',J,q'⟩:=z;exact wpAny_execs_nil ⟨σ',H',back J,q'⟩
  | brk=>obtain ⟨σ',H',J,q'⟩:=z;exact ⟨σ',H',back J,q'⟩
  | cont=>obtain ⟨σ',H',J,q'⟩:=z;exact ⟨σ',H',back J,q'⟩
  | ret u=>obtain ⟨w,σ',H',J,r,q'⟩:=z;exact ⟨w,σ',H',back J,r,q'⟩
 ·obtain ⟨pins',σ',H',x,C,dx,T,fl,rfl,J,o,q'⟩:=z;have J1:Inv X pins σ' H' s1:=J.repin (X:={ X with pn:=X.pn++pins }) (pn':=X.pn) (pins':=pins) (xe:=X.xe) λp hp=>by
   simp only [ui3] at hp ⊢;exact .inl hp
  have o1:XOn qx X pins H' s1 x C dx T fl:=⟨o.hx,o.nx,o.rc,λa e=>by
   obtain ⟨z1,z2,z3,⟨y1,y2,y3⟩,z5⟩:=o.tb a e;exact ⟨z1,z2,z3,⟨y1,y2,λp hp=>y3 p (by simp only [ui3] at hp ⊢;exact .inl hp)⟩,z5⟩,o.fo⟩
  refine Gv J1.ok.frames J1 h1 h2 o1 λh' a I' o'=>E8 none I' o' (.inl rfl) λh'' I'' o''=>?_;exact hh pins _ σ' H' x C dx a D I'' o'' (q' x C rfl o.hx ⟨_,o.rc.is⟩)
end
end L2
namespace F2
open PySem L2 PySem.Spec
variable {qx:Bool}
noncomputable def Ce:D->Bool
 | .exc _ _=>true
 | _=>false
def exE (E:XK)(v:V)(H:Hp):Prop:=∀x dx,v = .ref x->E (.ref x) dx H
section
variable (K:PySem.W.Frag)
def RX (E:L2.St->XK)(f:M D):TE:=λσ H Q=>∃Oo c t,FInv K Oo c t σ H/\∃r t',f t=some (r,t')/\∀v H' c',FInv K Oo c' t' σ H'->Stp Oo c H c' H'->Rep K c' H' v r->if Ce r=true then exE (E σ) v H' else Q v H'
def μX (E:XK):Cf->Hp->D->(V->Hp->Prop)->Prop:=λc H r rt=>∀v,Rep K c H v r->if Ce r=true then exE E v H else rt v H
def RSX (E:L2.St->XK)(f:M Out):TS:=λD σ H=>∃Oo c t,FInv K Oo c t σ H/\∃o t',f t=some (o,t')/\∀σ' H' c',FInv K Oo c' t' σ' H'->Stp Oo c H c' H'->
 match o with
 | .next=>D.nx σ' H'
 | .brk=>D.bk σ' H'
 | .cont=>D.ct σ' H'
 | .ret r=>∀v,Rep K c' H' v r->if Ce r=true then exE (E σ') v H' else D.rt v H'
def spX (f:Fn):Sp:=λvs H Q E=>∃c ds S,SInv K c S H/\Reps K c H vs ds/\∃r S',f ds S=some (r,S')/\
 ∀v H' c',SInv K c' S' H'->Stp c.O c H c' H'->(∀b,c'.O b↔c.O b)->Rep K c' H' v r->if Ce r=true then exE E v H' else Q v H'
end
def Hy (g:Fn):Fn:=λds S=>match g ds S with
 | some (r,S')=>if Ce r=true then none else some (r,S')
 | none=>none
variable {g:Fn}{r:D}
theorem Sa {ds:List D}{S S':List Ob}(h:Hy g ds S=some (r,S')):g ds S=some (r,S')/\Ce r=false:=by
 unfold Hy at h
 split at h
 ·next r' S1 e=>
  by_cases hx:Ce r'=true
  ·rw [if_pos hx] at h;cases h
  ·rw [if_neg hx] at h;cases h;exact ⟨e,by simpa using hx⟩
 ·cases h
variable {fa:Addr}{fd:FuncData}{x:Str}
section
variable {P:Program}{w:World}{K:PySem.W.Frag}{mg:Str->Option Value}{base:Heap}
theorem P5 {k:Nat}{ps:List Str}(F:FnOk P w K mg base (CX1 qx P w) k fa fd ps (spX K g)):FnOk P w K mg base CX0 k fa fd ps (spF K (Hy g)):=
 F.calm λvs H Q E z9=>by
  obtain ⟨c,ds,S,si,rs,r,S',e,kk⟩:=z9;obtain ⟨e1,e2⟩:=Sa e;exact ⟨c,ds,S,si,rs,r,S',e1,λv H' c' a1 a2 a3 a4=>by rw [if_neg (by rw [e2];decide)];exact kk v H' c' a1 a2 a3 a4⟩
theorem C4 {qual:Str}{st:Stmt}{N ps:List Str}{k n m:Nat}{g:M Out}(e1:ps.length=n)(e2:N.length=m)(F:Fun K x qual st fa fd)(S:FnScope N ps (Ao st))
 (hb:∀(cdv:Value) (A:Around) (outer:List Env) (s:Shared) (H:Hp) (E:XK),Room k (A.deeper (PyProof.Rows.envOfC qual (Ao st) s.heap.objs.size fa cdv))->
   F7 (CX1 qx P w) (cxX qx P w K mg base N qual (Ao st) fa cdv A outer s H E) (λ_=>E)->Gf qx (cxX qx P w K mg base N qual (Ao st) fa cdv A outer s H E) (λ_=>E)->
   PassesOwn (model P w) (cxX qx P w K mg base N qual (Ao st) fa cdv A outer s H E).A (cxX qx P w K mg base N qual (Ao st) fa cdv A outer s H E).env (cxX qx P w K mg base N qual (Ao st) fa cdv A outer s H E).xe->
   PSs (cxX qx P w K mg base N qual (Ao st) fa cdv A outer s H E) (Ca st) (RSg K (μX K E) g)):FnOk P w K mg base (CX1 qx P w) (k + 1) fa fd ps (spX K (fnOf n m g)):=by
 subst e1 e2;have hlen:∀{ds:List D} {S:List Ob} {z:D×List Ob},fnOf ps.length N.length g ds S=some z->ds.length=ps.length:=λ{ds S z} h=>by
  unfold fnOf at h
  split at h
  ·next h1=>exact h1
  ·cases h
 refine F.okX S (λvs H Q E h=>?_) (λcdv A outer s H vs Q E hr h=>?_)
 ·obtain ⟨c,ds,S,si,rs,r,S',e,_⟩:=h;rw [rs.length];exact hlen e
 obtain ⟨c,ds,S0,si,rs,r,S',e,kk⟩:=h;refine ⟨RSg K (μX K E) g,hb cdv A outer s H E hr XE.pass XE.raises (XE.own rfl rfl),?_⟩;have hl:=hlen e;unfold fnOf at e;rw [if_pos hl] at e
 cases eg:g ⟨env0 N.length ds,S0⟩ with
 | none=>rw [eg] at e;cases e
 | some p=>
   obtain ⟨o,t⟩:=p;rw [eg] at e;refine ⟨c.O,c,_,Hl si rs,o,t,eg,λσ' H' c' f' s'=>?_⟩;obtain ⟨si',ext'⟩:=f'.leave;have st':Stp c.O c H ⟨c'.ι,c.O⟩ H':=⟨s'.ext.trans ext',s'.oo⟩
   cases o with
   | next=>cases e;exact kk .non H' _ si' st' (λ_=>Iff.rfl) .non
   | ret d=>cases e;exact λv rv=>kk v H' _ si' st' (λ_=>Iff.rfl) (rv.mono ext')
   | brk=>cases e
   | cont=>cases e
theorem CN {ps:List Str}{k:Nat}{f:Fn}(e:f=g)(h:FnOk P w K mg base (CX1 qx P w) k fa fd ps (spX K g)):FnOk P w K mg base (CX1 qx P w) k fa fd ps (spX K f):=by rw [e];exact h
end
variable {f:M D}
section
variable {X:Cx}{e a b:Expr}{es:List Expr}{pos:Pos}{E:L2.St->XK}{st:Stmt}
theorem Cr {E:XK}{f:M Out}(h:PS X st (RSX X.K (λ_=>E) f)):PS X st (RSg X.K (μX X.K E) f):=CA h λD σ H z9=>by
 obtain ⟨Oo,c,t,fi,o,t',eq,k⟩:=z9;refine ⟨Oo,c,t,fi,o,t',eq,λσ' H' c' f' s'=>?_⟩;have q:=k σ' H' c' f' s'
 cases o <;> exact q
theorem Cb {k:Nat}{ps:List Str}{f:M (List D)}{p:Pos}(F:FnOk X.prog X.w X.K X.mg X.base (CX1 qx X.prog X.w) k fa fd ps (spX X.K g))(hr:Room k X.A)(hg:Gl X x)(hm:X.mg x=some (.ref fa))(hk:PySem.W.keepIn X.K (.ref fa)=true)(hb:Binds X.K fd ps [])
 (hx:F7 (CX1 qx X.prog X.w) X E) (ha:PA X (e :: es) (RA X.K f)) (hdb:(x == ("__debug__" : Str))=false:=by decide) (h1:Cv e=false:=by rfl) (h2:CH es=true:=by rfl) :
 PE X (.Call (.Name x p) (e :: es) [] pos) (RX X.K E (Ar g f)):=
 BP (TV F hr hg hm hk hb hx ha hdb (Ct h1) (Ci h2).1) λσ H Q z9=>by
  obtain ⟨Oo,c,t,fi,r,t',eq,kk⟩:=z9;obtain ⟨ds,t1,e1,eq⟩:=Aw eq;obtain ⟨S',e2,rfl⟩:=Mh eq;refine ⟨Oo,c,t,fi,ds,t1,e1,λvs H1 c1 f1 s1 rvs=>?_⟩;refine ⟨c1,ds,t1.S,f1.s,rvs,r,S',e2,λv H' c' si st ho rv=>?_⟩;obtain ⟨f2,s2⟩:=f1.after si st ho;exact kk v H' c' f2 (s1.trans s2) rv
def nxD (f:M D):M D:=bnd f λd=>if Ce d=true then fail else ret d
theorem N2 {t t':T}(h:nxD f t=some (r,t')):f t=some (r,t')/\Ce r=false:=by
 obtain ⟨d,t1,e1,h⟩:=Aw h
 by_cases hx:Ce d=true
 ·rw [if_pos hx] at h;cases h
 ·rw [if_neg hx] at h;cases h;exact ⟨e1,by simpa using hx⟩
theorem Rv {A B:Prop}(h:Ce r=false)(q:if Ce r=true then A else B):B:=by rw [if_neg (by rw [h];decide)] at q;exact q
def Lp (g:M D)(h:D->M D):M D:=bnd g λy=>if Ce y=true then ret y else nxD (h y)
theorem RX.bind {K:PySem.W.Frag}{g:M D}{h:D->M D}{σ:L2.St}{H:Hp}{Q:VK}{Oo:Addr->Prop}{c:Cf}{t t':T}(fi:FInv K Oo c t σ H)(eq:Lp g h t=some (r,t'))
 (k:∀v H' c',FInv K Oo c' t' σ H'->Stp Oo c H c' H'->Rep K c' H' v r->if Ce r=true then exE (E σ) v H' else Q v H') {R:V->Hp->Prop}
 (s:∀y dy t1 H1 c1,FInv K Oo c1 t1 σ H1->Stp Oo c H c1 H1->Rep K c1 H1 y dy->h dy t1=some (r,t')->(∀v H' c',FInv K Oo c' t' σ H'->Stp Oo c1 H1 c' H'->Rep K c' H' v r->Q v H')->R y H1):RX K E g σ H R:=by
 obtain ⟨dy,t1,e1,eq⟩:=Aw eq;refine ⟨Oo,c,t,fi,dy,t1,e1,λy H1 c1 f1 s1 ry=>?_⟩
 by_cases hx:Ce dy=true
 ·rw [if_pos hx] at eq ⊢
  cases eq
  have:=k y H1 c1 f1 s1 ry;rw [if_pos hx] at this;exact this
 ·rw [if_neg hx] at eq ⊢;obtain ⟨e2,e3⟩:=N2 eq;exact s y dy t1 H1 c1 f1 s1 ry e2 λv H' c' f' s' rv=>Rv e3 (k v H' c' f' (s1.trans s') rv)
def KB (f g:M D)(h:D->D->M D):M D:=bnd f λx=>Lp g λy=>h x y
theorem RX.two {K:PySem.W.Frag}{g:M D}{h:D->D->M D}{R:R2}(s:Ck K R h){σ:L2.St}{H:Hp}{Q:VK}(q:RX K E (KB f g h) σ H Q):tOp R (RE K f) (RX K E g) σ H Q:=by
 obtain ⟨Oo,c,t,fi,r,t',eq,k⟩:=q;obtain ⟨dx,t1,e1,eq⟩:=Aw eq;refine ⟨Oo,c,t,fi,dx,t1,e1,λx H1 c1 f1 s1 rx=>?_⟩;exact RX.bind f1 eq (λv H' c' f' s' rv=>k v H' c' f' (s1.trans s') rv) λy dy t2 H2 c2 f2 s2 ry e2 kk=>s f2 (rx.mono s2.ext) ry e2 kk
theorem UB {op:Operator}{R:R2}{g:M D}{h:D->D->M D}(ho:OpR X (binaryOp op) R)(s:Ck X.K R h)(ha:PE X a (RE X.K f))(hb:PE X b (RX X.K E g)):PE X (.BinOp a op b pos) (RX X.K E (KB f g h)):=
 BP (Qr ho ha hb) λ_ _ _ q=>RX.two s q
def bF (f g:M D)(h:D->D->M D):M D:=Lp f λx=>bnd g λy=>h x y
def bz (g:Fn)(f:M D):M D:=Lp f λd t=>match g [d] t.S with
 | some (r,S')=>some (r,{ t with S:=S' })
 | none=>none
theorem GY (h:PE X e (RX X.K E f)):PS X (.Return (some e) pos) (RSX X.K E (AJ f)):=
 CA (Iw h) λD σ H z9=>by
  obtain ⟨Oo,c,t,fi,o,t',eq,k⟩:=z9;obtain ⟨d,t1,e1,eq⟩:=Aw eq
  cases eq
  exact ⟨Oo,c,t,fi,d,_,e1,λv H1 c1 f1 s1 rv=>k σ H1 c1 f1 s1 v rv⟩
def D1 (i:Nat)(f:M D):M Out:=bnd f λd=>if Ce d=true then ret (.ret d) else bnd (By i d) λ_=>ret .next
theorem CG {i:Nat}{pos':Pos}(hN:X.N.Nodup)(hi:X.N[i]?=some x)(hx:Loc X.env.scope x)(he:PE X e (RX X.K E f))(hs:swapsWith e (some (.Name x pos')) pos.line X.env=pure false:=by rfl)(hf:X.fn x=true\/X.env.scope.names.lookup x=some .local:=by first | exact .inl rfl | exact .inr rfl | assumption) :
 PS X (.Assign [.Name x pos'] e pos) (RSX X.K E (D1 i f)):=CA (Od hN hi hx he hs hf) λD σ H z9=>by
 obtain ⟨Oo,c,t,fi,o,t',eq,k⟩:=z9;obtain ⟨d,t1,e1,eq⟩:=Aw eq;refine ⟨Oo,c,t,fi,d,t1,e1,λv H1 c1 f1 s1 rv=>?_⟩
 by_cases hx:Ce d=true
 ·rw [if_pos hx] at eq ⊢
  cases eq
  have:=k σ H1 c1 f1 s1 v rv;rw [if_pos hx] at this;exact this
 ·rw [if_neg hx] at eq ⊢
  cases eq
  exact k _ H1 c1 (f1.set rv) s1
def bE (f:M D):M Out:=bnd f λd=>if Ce d=true then ret (.ret d) else ret .next
def bJ (f:M D)(g:D->M Unit):M Out:=bnd f λd=>if Ce d=true then ret (.ret d) else bnd (g d) λ_=>ret .next
theorem NO {f:M Out}(h:PS X st (RSX X.K E f)):PSs X [st] (RSX X.K E f):=G6 h
end
end F2
namespace L2
open PySem PySem.Spec PyProof.Rows PySem.W PySem.Builtin PySem.Builtin.ObjectAttr
structure XGet (K:PySem.W.Frag)(C:Addr):Prop where
 ga:findIn K (.ref C) "__getattribute__" = some (some (.builtin "BaseException.__getattribute__"))
 gt:findIn K (.ref C) "__getattr__" = some none
 mb:mroIn K C (.type "BaseException")=some true
 mo:mroIn K C (.type "object")=some true
 hd:hasDictIn K C=true
section
variable {prog:Program}{w:World}{A:Around}{E:Value->Shared->Prop}{s:Shared}{K:PySem.W.Frag}{x C:Addr}{ox:Obj}{od:Option Obj}{name:Str}{tk:Tok}{Q:Value->Shared->Prop}{R:Result->Shared->Prop}
theorem Rb {fill expr:Bool}(X:K.In s.heap)(I:InstAt s.heap x ox C od)(g:XGet K C)
 (h:codeAny (model prog w) A (.call (.builtin "BaseException.__getattribute__") ⟨[.ref x,.str name tk],[]⟩) (λr s'=>match r with | .ok (.ret v)=>wpAny (model prog w) A (handedOut v) Q E s' | _=>False) s) :
 wpAny (model prog w) A (getAttrBy (.ref x) (.str name tk) fill expr) Q E s:=by
 have L0:=I.type (M:=model prog w);have L1:=looks_findIn (M:=model prog w) X g.ga;have L2:=looks_findIn (M:=model prog w) X g.gt;have ne:(onTheHeap (Value.ref C) && Value.builtin "BaseException.__getattribute__" == Value.builtin "object.__getattribute__")=false:=by
  rw [show (Value.builtin "BaseException.__getattribute__" == Value.builtin "object.__getattribute__")=false from by decide +kernel];rfl
 unfold getAttrBy;refine ul4 (un4 (L0.here (un4 (L1.here ?_))));show wpAny _ _ (if (onTheHeap (Value.ref C) && Value.builtin "BaseException.__getattribute__" == Value.builtin "object.__getattribute__")=true then _ else _) _ _ _;rw [if_neg (by rw [ne];decide)];unfold getAttrByItsOwn hookBefore;rw [if_pos (show onTheHeap (Value.ref C)=true from rfl)];refine un4 (L2.here (un4 (wpAny_attempt (ul4 ?_))));unfold callGetattribute;rw [if_neg (show ¬((expr && onTheHeap (Value.builtin "BaseException.__getattribute__"))=true) from by cases expr <;> decide)];unfold boundAndCalled;refine un4 (wpAny_of_eq (PySem.F.excAttr_ValueError.ga.bind _) (wpAny_call (codeAny_mono h λr s' z=>?_)))
 cases r with
 | error e=>exact z.elim
 | ok f=>cases f <;> first | exact z | exact z.elim
theorem To (X:K.In s.heap)(I:InstAt s.heap x ox C od)(g:XGet K C)
 (h:wpAny (model prog w) A.in1 («object.__getattribute__» ⟨[.ref x,.str name tk],[]⟩) (λfin s'=>match fin with | .done f=>R (.ok f) s' | .again c'=>c'.quiet=true/\codeAny (model prog w) A c' R s') (λe s'=>R (.error e) s') s) :
 codeAny (model prog w) A (.call (.builtin "BaseException.__getattribute__") ⟨[.ref x,.str name tk],[]⟩) R s:=by
 have ob:Looks (model prog w) s.heap (isInstance (.ref x) (.type "BaseException")) true:=I.type.andThen (looks_mroIn X g.mb);refine codeAny_call_builtin PySem.F.excAttr_ValueError.ga.plain PySem.F.entry_bexc_ga (@check_slot (model prog w) _ _ s "BaseException.__getattribute__" "BaseException" "__getattribute__" (.ref x) [.str name tk] [] _ (by decide +kernel) (by decide +kernel) ob (PySem.F.args_bexc_ga (.ref x) (.str name tk)) h)
theorem Tp {v:Value}(X:K.In s.heap)(I:InstAt s.heap x ox C od)(g:XGet K C)(hf:findObj K C od name=some (.value v))(h:R (.ok (.ret v)) s) :
 codeAny (model prog w) A (.call (.builtin "BaseException.__getattribute__") ⟨[.ref x,.str name tk],[]⟩) R s:=by
 refine To X I g ?_;have L0:=I.type (M:=model prog w);have L1:=looks_find (M:=model prog w) X I hf;refine un4 (un5 (un4 (un5 (un4 (L0.here (un4 (L1.here ?_)))))));exact un5 h
end
end L2
namespace L2
open PySem PySem.Spec PyProof.Rows PySem.W
end L2
namespace F2
open PySem L2 PySem.Spec PySem.W
variable {qx:Bool}
abbrev Cp:List Str:=["NoValue", "Short", "Broken", "NoTalk"]
structure XM (K:PySem.W.Frag)(mg:Str->Option Value)(P:Addr)(ca:Str->Addr):Prop where
 pm:mg "ParleyError" = some (.ref P)
 pc:XCl K P VE
 ns:∀n∈Cp,nsIn K mainGlobals n=some (some (.ref (ca n)))
 ms:∀n∈Cp,mg n=some (.ref (ca n))
 cl:∀n∈Cp,XCl K (ca n) (.ref P :: VE)
 inj:∀n∈Cp,∀m∈Cp,ca n=ca m->n=m
 np:∀n∈Cp,ca n≠P
 kp:∀n∈Cp,keepIn K (.ref (ca n))=true
 gt:∀n∈Cp,XGet K (ca n)
 gc:∀n∈Cp,findIn K (.ref (ca n)) "__class__" = some (some (.builtin "object.__class__"))
 na:∀n∈Cp,findIn K (.ref (ca n)) "at" = some none
 nd:∀n∈Cp,findIn K (.ref (ca n)) "side" = some none
noncomputable def Fu (n m:Str):Bool:=m == "ParleyError" || m == "ValueError" || n == m
theorem HZ {a b:Addr}{r:List Value}:(Value.ref a :: r).contains (.ref b)=(a == b || r.contains (.ref b)):=by
 rw [List.contains_cons]
 congr 1
 by_cases h:a=b
 ·subst h;simp
 ·rw [beq_eq_false_iff_ne.mpr h,beq_eq_false_iff_ne.mpr (λz:Value.ref b=Value.ref a=>h (Value.ref.inj z).symm)]
theorem WN {b:Addr}:VE.contains (.ref b)=false:=rfl
section
variable {K:PySem.W.Frag}{mg:Str->Option Value}{P:Addr}{ca:Str->Addr}
theorem XM.subE (x:XM K mg P ca){n m:Str}(hn:n∈Cp)(hm:m∈Cp):(Value.ref (ca n) :: .ref P :: VE).contains (.ref (ca m))=Fu n m:=by
 rw [HZ,HZ,WN,beq_eq_false_iff_ne.mpr (Ne.symm (x.np m hm)),uk7,uk7];have h1:(m == ("ParleyError" : Str))=false/\(m == ("ValueError" : Str))=false:=by
  simp only [Cp,uk6,uh9,or_false] at hm;rcases hm with rfl | rfl | rfl | rfl <;> exact ⟨by decide,by decide⟩
 unfold Fu;rw [h1.1,h1.2,Bool.false_or,Bool.false_or]
 by_cases h:n=m
 ·subst h;rw [ui2,ui2]
 ·rw [beq_eq_false_iff_ne.mpr h,beq_eq_false_iff_ne.mpr λz=>h (x.inj n hn m hm z)]
theorem XM.of (x:XM K mg P ca){n:Str}{C:Addr}(hn:n∈Cp)(h:nsIn K mainGlobals n=some (some (.ref C))):C=ca n:=by
 rw [x.ns n hn] at h;injection h with h;injection h with h;injection h with h
 exact h.symm
end
theorem WF {q1 q2:Bool}{x C C':Addr}{dx dx':Option Addr}(h:XIs q1 x C dx=XIs q2 x C' dx')(e:∃h,XIs q1 x C dx h):C=C'/\dx=dx':=by
 obtain ⟨hh,o,vs,e1,e2,e3,e4⟩:=e;have q:XIs q2 x C' dx' hh:=by rw [<-h];exact ⟨o,vs,e1,e2,e3,e4⟩
 obtain ⟨o',vs',q1,q2,q3,q4⟩:=q;rw [e1] at q1;cases q1
 rw [e2] at q2;cases q2
 exact ⟨rfl,e3.symm.trans q3⟩
section
variable {X:Cx}{e:Expr}{es:List Expr}{pos p pos2:Pos}{E:L2.St->XK}{P:Addr}{ca:Str->Addr}
def XN1 (prog:Program)(w:World)(K:PySem.W.Frag)(mg:Str->Option Value)(base:Heap)(C P:Addr):Prop:=
 ∃(f:Addr) (fd:FuncData) (ps:List Str),XMk K C P f/\XAt K C P "at"/\Binds K fd ps []/\FnOk prog w K mg base CX0 1 f fd ps (spI K P "at")
def Sq (n:Str)(f:M (List D)):M Out:=bnd f λds=>match ds with
 | [d]=>ret (.ret (.exc n [d]))
 | _=>fail
theorem Rn {f:M (List D)}(x:XM X.K X.mg P ca)(xn:XN1 X.prog X.w X.K X.mg X.base (ca "NoTalk") P)(hr:L2.Room 2 X.A)(hc:X.calm=true)(hx:Gf qx X E)(hg:Gl X "NoTalk")(ha:PA X [e] (RA X.K f))
 (h1:Cv e=false:=by rfl):PS X (.Raise (some (.Call (.Name "NoTalk" p) [e] [] pos)) none pos2) (RSX X.K E (Sq "NoTalk" f)):=by
 obtain ⟨fa,fd,ps,M,A,B,F⟩:=xn;have hn:("NoTalk" : Str)∈Cp:=by decide
 refine CA (JW hc M.cl hx (XB M A F hr B hg (x.ms _ hn) ha (by decide) (Ct h1))) λD σ H z9=>?_;obtain ⟨Oo,c,t,fi,o,t',eq,k⟩:=z9;obtain ⟨ds,t1,e1,eq⟩:=Aw eq;refine ⟨Oo,c,t,fi,ds,t1,e1,λvs H1 c1 f1 s1 rvs=>?_⟩
 match ds,rvs,eq with
 | [],_,eq=>cases eq
 | _ :: _ :: _,_,eq=>cases eq
 | [d],.cons (v:=v0) rv .nil,eq=>
   cases eq
   refine ⟨_,rfl,λy dx hy hdx ne=>?_⟩;have f2:=f1.laid (o:=.xd [("at",v0)]) hdx;have hy2:upd H1 dx (.xd [("at",v0)]) y=none:=by rw [As (Ne.symm ne)];exact hy
   have f3:=f2.laid (o:=.ext (XIs qx y (ca "NoTalk") (some dx))) hy2;have s3:=s1.trans ((f1.stp_laid (o:=.xd [("at",v0)]) hdx).trans (f2.stp_laid (o:=.ext (XIs qx y (ca "NoTalk") (some dx))) hy2));refine k σ _ c1 f3 s3 (.ref y) (.exc (x.ns _ hn) Ax (f2.s.free hy2) ?_ (.cons (rv.mono ((f1.stp_laid hdx).ext.trans (f2.stp_laid hy2).ext)) .nil)) y (some dx) rfl;exact ⟨by rw [As ne,Ax];rfl,f1.s.free hdx⟩
def XN0 (K:PySem.W.Frag)(C:Addr):Prop:=∃cd,clsIn K C=some cd/\nsIn K cd.ns "__init__" = some none
def Iy (n:Str)(f:M (List D)):M Out:=bnd f λds=>if ds.length<=1000 then ret (.ret (.exc n [])) else fail
theorem Ml {n:Str}{f:M (List D)}(x:XM X.K X.mg P ca)(hn:n∈Cp)(hf:JI n=[])(xn:XN0 X.K (ca n))(hc:X.calm=true)(hx:Gf qx X E)(hg:Gl X n)(ha:PA X (e :: es) (RA X.K f))
 (hdb:(n == ("__debug__" : Str))=false:=by decide) (h1:Cv e=false:=by rfl) (h2:CH es=true:=by rfl):PS X (.Raise (some (.Call (.Name n p) (e :: es) [] pos)) none pos2) (RSX X.K E (Iy n f)):=by
 obtain ⟨cd,hcd,hni⟩:=xn;refine CA (JW hc (x.cl n hn) hx (VU (x.cl n hn) (x.kp n hn) hcd hni hg (x.ms _ hn) ha hdb (Ct h1) (Ci h2).1)) λD σ H z9=>?_;obtain ⟨Oo,c,t,fi,o,t',eq,k⟩:=z9;obtain ⟨ds,t1,e1,eq⟩:=Aw eq;refine ⟨Oo,c,t,fi,ds,t1,e1,λvs H1 c1 f1 s1 rvs=>?_⟩
 split at eq
 ·next hl=>
  cases eq
  refine ⟨by rw [rvs.length];exact hl,λy hy=>?_⟩;have f3:=f1.laid (o:=.ext (XIs qx y (ca n) none)) hy;exact k σ _ c1 f3 (s1.trans (f1.stp_laid hy)) (.ref y) (.exc (x.ns _ hn) Ax (f1.s.free hy) (vs:=[]) rfl .nil) y none rfl
 ·cases eq
end
section
variable {X:Cx}{pos p:Pos}{P:Addr}{ca:Str->Addr}{μ:Cf->Hp->D->(V->Hp->Prop)->Prop}
def RH (K:PySem.W.Frag)(ca:Str->Addr)(μ:Cf->Hp->D->(V->Hp->Prop)->Prop)(h:D->M Out):Addr->Addr->Option Addr->TS:=λx C dx E σ H=>∃Oo c t n ds,FInv K Oo c t σ H/\n∈Cp/\C=ca n/\Rep K c H (.ref x) (.exc n ds)/\
 ∃o t',h (.exc n ds) t=some (o,t')/\∀σ' H' c',FInv K Oo c' t' σ' H'->Stp Oo c H c' H'->
  match o with
  | .next=>E.nx σ' H'
  | .brk=>E.bk σ' H'
  | .cont=>E.ct σ' H'
  | .ret r=>μ c' H' r E.rt
noncomputable def unE (i:Nat)(t:T):T:={ t with env:=t.env.set i none }
theorem FInv.unset {K:PySem.W.Frag}{Oo:Addr->Prop}{c:Cf}{t:T}{σ:L2.St}{H:Hp}(f:FInv K Oo c t σ H)(i:Nat):FInv K Oo c (unE i t) (σ.set i none) H:=by
 have neq:∀{j:Nat} {x:Sl},(t.env.set i none)[j]?=some (some x)->j≠i/\t.env[j]?=some (some x):=λ{j x} q=>by
  by_cases h:j=i
  ·subst h;rw [ug7] at q
   split at q
   ·split at q
    ·injection q with q;cases q
    ·cases q
   ·next h1=>exact absurd rfl h1
  ·rw [ud9 (Ne.symm h)] at q;exact ⟨h,q⟩
 refine ⟨f.s,by simp [unE,f.len],f.sub,λj e q=>?_,λj ds q=>?_,λj k ds es a q1 q2 q3 q4=>?_⟩
 ·obtain ⟨h,q⟩:=neq q;obtain ⟨u,h1,h2⟩:=f.val j e q;exact ⟨u,by rw [ud9 (Ne.symm h)];exact h1,h2⟩
 ·obtain ⟨h,q⟩:=neq q;obtain ⟨a,vs,h1,h2⟩:=f.own j ds q;exact ⟨a,vs,by rw [ud9 (Ne.symm h)];exact h1,h2⟩
 ·obtain ⟨h,q1⟩:=neq q1;obtain ⟨h',q2⟩:=neq q2;rw [ud9 (Ne.symm h)] at q3;rw [ud9 (Ne.symm h')] at q4;exact f.inj j k ds es a q1 q2 q3 q4
def hAs (n':Str)(i:Nat)(s:M Out)(r:D->M Out):D->M Out:=λe t=>match e with
 | .exc n ds=>if Fu n n'=true then (match s { t with env:=t.env.set i (some (.val (.exc n ds))) } with
   | some (o,t2)=>some (o,unE i t2)
   | none=>none) else r (.exc n ds) t
 | _=>none
def hNo (n':Str)(s:M Out)(r:D->M Out):D->M Out:=λe t=>match e with
 | .exc n ds=>if Fu n n'=true then s t else r (.exc n ds) t
 | _=>none
noncomputable def Tr:D->M Out:=λ_ _=>none
theorem Rh:PH qx X [] (RH X.K ca μ Tr):=by
 rintro _ _ _ _ _ _ _ _ _ _ _ ⟨_,_,_,_,_,_,_,_,_,_,_,e,_⟩
 cases e
theorem YD {n' v:Str}{C':Addr}{bm':List Value}{i:Nat}{b₀:Stmt}{suite:List Stmt}{rest:List ExceptHandler}{s:M Out}{r:D->M Out}(x:XM X.K X.mg P ca)(hg:Gl X n')(hm:X.mg n'=some (.ref C'))(c':XCl X.K C' bm')(hs:∀n∈Cp,(Value.ref (ca n) :: .ref P :: VE).contains (.ref C')=Fu n n')
 (hN:X.N.Nodup) (hi:X.N[i]?=some v) (hl:X.env.scope.names.lookup v=some .local) (hb:∀x,PSs (X.mark x) (b₀ :: suite) (RSg X.K μ s)) (hr:PH qx X rest (RH X.K ca μ r)) (hdb:(n' == ("__debug__" : Str))=false:=by decide) :
 PH qx X (.ExceptHandler (some (.Name n' p)) (some v) (b₀ :: suite) pos :: rest) (RH X.K ca μ (hAs n' i s r)):=by
 intro pins s0 σ H y C dx T D I o q;refine YQ hg hm c' hN hi hl hb hr hdb pins s0 σ H y C dx T D I o ?_;obtain ⟨Oo,c,t,n,ds,fi,hn,rfl,rv,o1,t',eq,k⟩:=q;refine ⟨_,x.cl n hn,?_⟩;rw [hs n hn];unfold hAs at eq;dsimp only at eq
 by_cases hb':Fu n n'=true
 ·rw [if_pos hb'] at eq ⊢
  cases e1:s { t with env:=t.env.set i (some (.val (.exc n ds))) } with
  | none=>rw [e1] at eq;cases eq
  | some z=>
    obtain ⟨o2,t2⟩:=z;rw [e1] at eq
    cases eq
    refine ⟨Oo,c,_,fi.set rv,o1,t2,e1,λσ' H' c2 f2 s2=>?_⟩;have:=k _ H' c2 (f2.unset i) s2
    cases o1 <;> exact this
 ·rw [if_neg hb'] at eq ⊢;exact ⟨Oo,c,t,n,ds,fi,hn,rfl,rv,o1,t',eq,k⟩
theorem YE {n':Str}{C':Addr}{bm':List Value}{b₀:Stmt}{suite:List Stmt}{rest:List ExceptHandler}{s:M Out}{r:D->M Out}(x:XM X.K X.mg P ca)(hg:Gl X n')(hm:X.mg n'=some (.ref C'))(c':XCl X.K C' bm')(hs:∀n∈Cp,(Value.ref (ca n) :: .ref P :: VE).contains (.ref C')=Fu n n')
 (hb:∀x,PSs (X.mark x) (b₀ :: suite) (RSg X.K μ s)) (hr:PH qx X rest (RH X.K ca μ r)) (hdb:(n' == ("__debug__" : Str))=false:=by decide) :
 PH qx X (.ExceptHandler (some (.Name n' p)) none (b₀ :: suite) pos :: rest) (RH X.K ca μ (hNo n' s r)):=by
 intro pins s0 σ H y C dx T D I o q;refine YR hg hm c' hb hr hdb pins s0 σ H y C dx T D I o ?_;obtain ⟨Oo,c,t,n,ds,fi,hn,rfl,rv,o1,t',eq,k⟩:=q;refine ⟨_,x.cl n hn,?_⟩;rw [hs n hn];unfold hNo at eq;dsimp only at eq
 by_cases hb':Fu n n'=true
 ·rw [if_pos hb'] at eq ⊢;exact ⟨Oo,c,t,fi,o1,t',eq,λσ' H' c2 f2 s2=>by
   have:=k _ H' c2 f2 s2
   cases o1 <;> exact this⟩
 ·rw [if_neg hb'] at eq ⊢;exact ⟨Oo,c,t,n,ds,fi,hn,rfl,rv,o1,t',eq,k⟩
noncomputable def GA (b:M Out)(h:D->M Out):M Out:=λt=>match b t with
 | some (.ret (.exc n ds),t1)=>if n∈Cp then h (.exc n ds) t1 else none
 | z=>z
theorem Rp {body:List Stmt}{h₀:ExceptHandler}{hs:List ExceptHandler}{b:M Out}{h:D->M Out}(x:XM X.K X.mg P ca)(hμ:∀c H r rt,Ce r=false->(∀v,Rep X.K c H v r->rt v H)=μ c H r rt)(h1:X.stack=X.env :: X.outer)(h2:X.env.frame=some X.env.locals)
 (hb:∀(pn:List (Addr×Obj)) (E:L2.St->XK),F7 (CX1 qx X.prog X.w) { X with pn:=pn,xe:=XE qx { X with pn:=pn } E } E->PSs { X with pn:=pn,xe:=XE qx { X with pn:=pn } E } body (RSX X.K E b)) (hh:PH qx X (h₀ :: hs) (RH X.K ca μ h)):PS X (.Try body (h₀ :: hs) [] [] pos) (RSg X.K μ (GA b h)):=
 CA (XG h1 h2 (λpn E=>hb pn E (XE.pass (X:={ X with pn:=pn }))) hh) λD σ H z9=>by
  obtain ⟨Oo,c,t,fi,o,t',eq,k⟩:=z9;unfold GA at eq
  cases e1:b t with
  | none=>rw [e1] at eq;cases eq
  | some z=>
    obtain ⟨o1,t1⟩:=z;rw [e1] at eq;refine ⟨Oo,c,t,fi,o1,t1,e1,λσ1 H1 c1 f1 s1=>?_⟩
    cases o1 with
    | next=>cases eq;exact k σ1 H1 c1 f1 s1
    | brk=>cases eq;exact k σ1 H1 c1 f1 s1
    | cont=>cases eq;exact k σ1 H1 c1 f1 s1
    | ret r=>
      intro v rv
      cases hx:Ce r with
      | false=>
        rw [if_neg (by decide)];have eq':some (Out.ret r,t1)=some (o,t'):=by cases r <;> first | exact eq | cases hx
        cases eq'
        have q:=k σ1 H1 c1 f1 s1;have q:μ c1 H1 r D.rt:=q;rw [<-hμ _ _ _ _ hx] at q;exact q v rv
      | true=>
        rw [if_pos rfl];intro y dx hv y' C hy' hC hex
        cases rv with
        | @exc q0 x0 C0 dx0 n vs ds g hx0 hA fl rs=>
          cases hv
          cases hy'
          dsimp only at eq
          split at eq
          ·next hn=>
           rw [hx0] at hC;injection hC with hC;injection hC with hC
           obtain ⟨e2,e3⟩:=WF hC.symm hex;have:=x.of hn g;exact ⟨Oo,c1,t1,n,ds,f1,hn,e2.trans this,.exc g hx0 hA fl rs,o,t',eq,λσ' H' c' f' s'=>k σ' H' c' f' (s1.trans s')⟩
          ·cases eq
        | _=>cases hx
end
end F2
namespace F2
open PySem L2 PySem.Spec PySem.W
variable {qx:Bool}
def bK (n:Str):D->M D
 | .exc m _=>if m∈Cp then ret (.bl (Fu m n)) else fail
 | .non=>ret (.bl false)
 | .bl _=>ret (.bl false)
 | .int _=>ret (.bl false)
 | .str _=>ret (.bl false)
 | .lst _=>ret (.bl false)
 | .tup _=>ret (.bl false)
 | .dic=>ret (.bl false)
 | _=>fail
section
variable {X:Cx}{P:Addr}{ca:Str->Addr}{a:Expr}{f:M D}{p pos q:Pos}
def JA (nm:Str):D->M D
 | .exc n ds=>if n∈Cp then (match ((JI n).zip ds).lookup nm with
   | some d=>ret d
   | none=>fail) else fail
 | _=>fail
theorem Jt {K:PySem.W.Frag}{c:Cf}{H:Hp}{nm:Str}{d:D}:∀{ns:List Str} {vs:List V} {ds:List D},Reps K c H vs ds->(ns.zip ds).lookup nm=some d->∃v,(ns.zip vs).lookup nm=some v/\Rep K c H v d
 | [],_,_,_,e=>by cases e
 | _ :: _,_,_,.nil,e=>by cases e
 | n :: ns,_,_,.cons (v:=v0) (d:=d0) r rs,e=>by
   by_cases h:nm=n
   ·subst h;simp only [List.zip_cons_cons,List.lookup,ui2,ug8] at e ⊢;subst e;exact ⟨v0,rfl,r⟩
   ·have hb:(nm == n)=false:=beq_eq_false_iff_ne.mpr h;simp only [List.zip_cons_cons,List.lookup,hb] at e ⊢;exact Jt rs e
theorem NH {nm:Str}(x:XM X.K X.mg P ca)(hno:∀n∈Cp,findIn X.K (.ref (ca n)) nm=some none)(ha:PE X a (RE X.K f))(hb:attributeBase a nm X.env (eval a X.env)=eval a X.env):PE X (.Attribute a nm pos) (RE X.K (bnd f (JA nm))):=by
 intro pins s σ H Q I h;obtain ⟨Oo,c0,t,fi,r,t',eq,k⟩:=h;obtain ⟨d,t1,e1,eq⟩:=Aw eq;refine UZ hb (thn (ha pins s σ H (λv H1=>∃c1,FInv X.K Oo c1 t1 σ H1/\Stp Oo c0 H c1 H1/\Rep X.K c1 H1 v d) I ⟨Oo,c0,t,fi,d,t1,e1,λv H1 c1 f1 s1 rv=>⟨c1,f1,s1,rv⟩⟩) λu s1 z9=>?_);obtain ⟨v,H1,I1,rx,c1,f1,st1,rv⟩:=z9
 cases rv with
 | @exc q0 x0 C0 dx0 m vs ds g hx0 hA fl rs=>
   cases (show u=Value.ref x0 from rx)
   unfold JA at eq;dsimp only at eq
   split at eq
   ·next hm=>
    have hc:=x.of hm g;subst hc
    cases el:((JI m).zip ds).lookup nm with
    | none=>rw [el] at eq;cases eq
    | some d'=>
      rw [el] at eq
      cases eq
      obtain ⟨v',l1,r1⟩:=Jt rs el
      cases dx0 with
      | none=>
        have fl:vs=[]:=fl;subst fl;simp at l1
      | some dd=>
        have hdd:H1 dd=some (.xd ((JI m).zip vs)):=fl.1;obtain ⟨o,vs0,q1,q2,q3,q4,_⟩:=(I1.hok x0 _ hx0).1;have nc:notCls o=true:=by unfold notCls;rw [q4]
        obtain ⟨mA,nA,rA⟩:=(show ObjOk X.prog X.w H1 s1.heap dd (.xd ((JI m).zip vs)) from I1.hok dd _ hdd);obtain ⟨od,ho,hl⟩:=Ip nA;obtain ⟨u',hu,ru⟩:=RelO.some_of (v:=v') (o:=mA nm) (by rw [<-l1];exact rA nm);have IA:InstAt s1.heap x0 o (ca m) (some od):=⟨q1,q2,nc,by rw [q3];exact ho⟩;unfold getAttr;refine un4 (wpAny_mkText ?_);refine Rb (s:={ s1 with toks:=s1.toks + 1 }) I1.kIn IA (x.gt m hm) (Tp I1.kIn IA (x.gt m hm) (findObj_own (x.gt m hm).hd (hno m hm) rfl (by rw [hl,hu])) ?_);exact handed_on (Rr ru) ⟨v',H1,I1.tok _,ru,k v' H1 c1 f1 st1 r1⟩
   ·cases eq
 | _=>cases eq
end
end F2
namespace F2
open PySem L2 PySem.Spec PySem.W
variable {qx:Bool}
def QR (K:PySem.W.Frag)(P c:Addr):Bool:=M2 K c (.ref P :: VE) && keepIn K (.ref c) && findIn K (.ref c) "__getattribute__" == some (some (.builtin "BaseException.__getattribute__")) && findIn K (.ref c) "__getattr__" == some none && mroIn K c (.type "BaseException") == some true
 && mroIn K c (.type "object") == some true && hasDictIn K c && findIn K (.ref c) "__class__" == some (some (.builtin "object.__class__")) && findIn K (.ref c) "at" == some none && findIn K (.ref c) "side" == some none
structure XOne (K:PySem.W.Frag)(P c:Addr):Prop where
 cl:XCl K c (.ref P :: VE)
 kp:keepIn K (.ref c)=true
 gt:XGet K c
 gc:findIn K (.ref c) "__class__" = some (some (.builtin "object.__class__"))
 na:findIn K (.ref c) "at" = some none
 nd:findIn K (.ref c) "side" = some none
variable {K:PySem.W.Frag}{P:Addr}
theorem Jl {c:Addr}(h:QR K P c=true):XOne K P c:=by
 unfold QR at h;simp only [uh4,beq_iff_eq] at h;obtain ⟨⟨⟨⟨⟨⟨⟨⟨⟨h1,h2⟩,h3⟩,h4⟩,h5⟩,h6⟩,h7⟩,h8⟩,h9⟩,h10⟩:=h;exact ⟨.of_in h1,h2,⟨h3,h4,h5,h6,h7⟩,h8,h9,h10⟩
noncomputable def JC (c1 c2 c3 c4:Addr):Str->Addr:=λn=>if n = "NoValue" then c1 else if n = "Short" then c2 else if n = "Broken" then c3 else c4
theorem DL {Q:Str->Prop}(h1:Q "NoValue")(h2:Q "Short")(h3:Q "Broken")(h4:Q "NoTalk"):∀n∈Cp,Q n:=by
 intro n hn;simp only [Cp,uk6,uh9,or_false] at hn;rcases hn with rfl | rfl | rfl | rfl <;> assumption
def QQ (K:PySem.W.Frag)(P:Addr)(cs:List Addr):Bool:=M2 K P VE && cs.all (QR K P)
theorem ZG {h:Heap}{mg:Str->Option Value}{c1 c2 c3 c4:Addr}(X:K.In h)(G:h.Ns mainGlobals mg)(p:nsIn K mainGlobals "ParleyError" = some (some (.ref P)))(a1:nsIn K mainGlobals "NoValue" = some (some (.ref c1)))(a2:nsIn K mainGlobals "Short" = some (some (.ref c2)))(a3:nsIn K mainGlobals "Broken" = some (some (.ref c3)))(a4:nsIn K mainGlobals "NoTalk" = some (some (.ref c4)))(q:QQ K P [c1,c2,c3,c4]=true)(nd:[P,c1,c2,c3,c4].Nodup):XM K mg P (JC c1 c2 c3 c4):=by
 unfold QQ at q;simp only [uk8,List.all_nil,Bool.and_true,uh4] at q;obtain ⟨q0,q1,q2,q3,q4⟩:=q;have o1:=Jl q1;have o2:=Jl q2;have o3:=Jl q3;have o4:=Jl q4;have inj:∀n∈Cp,∀m∈Cp,JC c1 c2 c3 c4 n=JC c1 c2 c3 c4 m->n=m:=by
  simp only [ui7,uk6,uh9,or_false,not_or,List.nodup_nil,and_true] at nd;obtain ⟨⟨n1,n2,n3,n4⟩,⟨m12,m13,m14⟩,⟨m23,m24⟩,m34,_⟩:=nd;have h1:JC c1 c2 c3 c4 "NoValue" = c1:=rfl;have h2:JC c1 c2 c3 c4 "Short" = c2:=rfl;have h3:JC c1 c2 c3 c4 "Broken" = c3:=rfl;have h4:JC c1 c2 c3 c4 "NoTalk" = c4:=rfl;refine DL ?_ ?_ ?_ ?_ <;> refine DL ?_ ?_ ?_ ?_ <;> intro e <;> first | rfl | (exfalso;rw [h1] at e) | (exfalso;rw [h2] at e) | (exfalso;rw [h3] at e) | (exfalso;rw [h4] at e)
  all_goals (first | rw [h1] at e | rw [h2] at e | rw [h3] at e | rw [h4] at e)
  all_goals (first | contradiction | (have e:=e.symm;contradiction))
 refine ⟨mg_of X G p,.of_in q0,DL a1 a2 a3 a4,DL (mg_of X G a1) (mg_of X G a2) (mg_of X G a3) (mg_of X G a4),DL o1.cl o2.cl o3.cl o4.cl,inj,?_,
  DL o1.kp o2.kp o3.kp o4.kp,DL o1.gt o2.gt o3.gt o4.gt,DL o1.gc o2.gc o3.gc o4.gc,DL o1.na o2.na o3.na o4.na,DL o1.nd o2.nd o3.nd o4.nd⟩
 simp only [ui7,uk6,uh9,or_false,not_or] at nd;obtain ⟨⟨n1,n2,n3,n4⟩,_⟩:=nd;exact DL (Ne.symm n1) (Ne.symm n2) (Ne.symm n3) (Ne.symm n4)
noncomputable def Da (s:Stmt)(k:Nat):Stmt:=match s with
 | .ClassDef _ _ _ body _ _ _ _ _ _ _=>body.getD k (.Pass ⟨0,0,0,0⟩)
 | _=>.Pass ⟨0,0,0,0⟩
noncomputable def G0 (K:PySem.W.Frag)(C f:Addr):Bool:=match clsIn K C with
 | some cd=>nsIn K cd.ns "__init__" == some (some (.ref f))
 | none=>false
def XF1 (K:PySem.W.Frag)(C P:Addr)(qual:Str)(st:Stmt):Prop:=∃(f:Addr) (fd:FuncData),XMk K C P f/\XAt K C P "at"/\Binds K fd ["self", "at"] []/\Fun K "__init__" qual st f fd
variable {C:Addr}
theorem Yw {f:Addr}{qual:Str}{st:Stmt}{od an:Option Addr}{sl:Array (Option Value)}{oc kV dc pm cd ct:Value}(o:XOne K P C)(i:G0 K C f=true)(hf:isFn K (.ref f)=true)(hs:findIn K (.ref C) "__setattr__" = some (some (.builtin "object.__setattr__")))
 (l:K.lookup f=some ⟨oc,od,.func (PySem.W.fnOf "__init__" qual (DM st) (Ca st) (Ao st) .none kV dc pm an cd ct),sl⟩) (c:codeIn K cd qual=true) (k:keepIn K (.ref f)=true)
 (hb:∀(kV doc pm:Value) (an:Option Addr) (cdv ct:Value) (us:List Value),us.length=2->bindArgs (PySem.W.fnOf "__init__" qual (DM st) (Ca st) (Ao st) .none kV doc pm an cdv ct) ⟨us,[]⟩=pure ((["self", "at"]:List Str).zip us)):XF1 K C P qual st:=by
 refine ⟨f,_,⟨o.cl,?_,hf,o.kp⟩,⟨o.cl,hs,o.na⟩,(GZ (st:=st) l c k).binds (ps:=["self", "at"]) hb,GZ (st:=st) l c k⟩;unfold G0 at i
 split at i
 ·next cd' e=>exact ⟨cd',e,beq_iff_eq.mp i⟩
 ·cases i
theorem Tt {prog:Program}{w:World}{mg:Str->Option Value}{base:Heap}{qual:Str}{st:Stmt}{p1 p2 p3 p4:Pos}(hbd:Ca st=[.Assign [.Attribute (.Name "self" p1) "at" p2] (.Name "at" p3) p4])(S:FnScope ["self", "at"] ["self", "at"] (Ao st))
 (s1:(Ao st).names.lookup ("self" : Str)=some NameKind.local) (s2:(Ao st).names.lookup ("at" : Str)=some NameKind.local) (x:XF1 K C P qual st):XN1 prog w K mg base C P:=by
 obtain ⟨f,fd,M,A,B,F⟩:=x;refine ⟨f,fd,_,M,A,B,F.ok (k:=0) S (λvs H Q E h=>?_) λcdv A' outer s H vs Q E hr h=>?_⟩
 ·obtain ⟨y,C',tp,v,rfl,_⟩:=h;rfl
 ·rw [hbd];refine ⟨_,G6 (Qv (P:=P) (DB (i:=0) rfl (.inl s1) (by decide) (by decide)) (DB (i:=1) rfl (.inl s2) (by decide) (by decide)) rfl),?_⟩;obtain ⟨y,C',tp,v,rfl,hy,ha,k⟩:=h;exact ⟨v,rfl,.ref y,rfl,y,C',tp,rfl,hy,ha,λdx h1 h2=>k dx h1 h2⟩
noncomputable def KN (K:PySem.W.Frag)(C:Addr):Bool:=match clsIn K C with
 | some cd=>nsIn K cd.ns "__init__" == some none
 | none=>false
theorem SR (h:KN K C=true):XN0 K C:=by
 unfold KN at h
 split at h
 ·next cd e=>exact ⟨cd,e,beq_iff_eq.mp h⟩
 ·cases h
end F2
namespace F2
open PySem L2 PySem.Spec PySem.W
inductive Kd where
 | pl | fr | ex | er
abbrev okK (k:Kd)(P:Program)(w:World)(K:PySem.W.Frag)(mg:Str->Option Value)(base:Heap)(n:Nat)(fa:Addr)(fd:FuncData)(ps:List Str)(f:Fn):Prop:=match k with
 | .pl=>FnOk P w K mg base CX0 n fa fd ps (spF K f)
 | .fr=>FnOk P w K mg base CX0 n fa fd ps (Kf K f)
 | .ex=>FnOk P w K mg base (CX1 true P w) n fa fd ps (spX K f)
 | .er=>FnOk P w K mg base (CX1 false P w) n fa fd ps (spX K f)
section
variable {X:Cx}{e a b:Expr}{pos:Pos}{f g:M D}
theorem Cq {E:XK}(h:PE X e (RE X.K f)):PS X (.Return (some e) pos) (RSg X.K (μX X.K E) (AJ (nxD f))):=
 CA (Iw h) λD σ H z9=>by
  obtain ⟨Oo,c,t,fi,o,t',eq,k⟩:=z9;obtain ⟨d,t1,e1,eq⟩:=Aw eq
  cases eq
  obtain ⟨e2,e3⟩:=N2 e1;exact ⟨Oo,c,t,fi,d,_,e2,λv H1 c1 f1 s1 rv=>Rv e3 (k σ H1 c1 f1 s1 v rv)⟩
end
theorem Xf {K:PySem.W.Frag}:∀(c:Cf) (H:Hp) (r:D) (rt:V->Hp->Prop),Ce r=false->(∀v,Rep K c H v r->rt v H)=μR K c H r rt:=λ_ _ _ _ _=>rfl
theorem Xg {K:PySem.W.Frag}{E:XK}:∀(c:Cf) (H:Hp) (r:D) (rt:V->Hp->Prop),Ce r=false->(∀v,Rep K c H v r->rt v H)=μX K E c H r rt:=λc H r rt h=>by
 unfold μX;rw [h];rfl
variable {qx:Bool}
section
variable {X:Cx}{P:Addr}{ca:Str->Addr}{a:Expr}{es:List Expr}{f:M D}{p pos q:Pos}{i:Nat}{ns:List Str}
end
end F2
namespace F2
open PySem L2 PySem.Spec SeqAt
end F2
namespace L2
open PySem PySem.Spec PyProof.Rows PySem.W PySem.Builtin PySem.Builtin.ObjectAttr
variable {qx:Bool}
section
variable {prog:Program}{w:World}{A:Around}{s:Shared}{K:PySem.W.Frag}{x C P dx:Addr}{ox:Obj}{od:Option Obj}{R:Result->Shared->Prop}{name:Str}{v:Value}{tk:Tok}{cd:ClassData}
theorem TN (X:K.In s.heap)(I:InstAt s.heap x ox C od)(hc:clsIn K C=some cd)(hmr:cd.mro=GF C P)(ha:findIn K (.ref C) name=some none)
 (h:wpAny (model prog w) A.in1 (storeInOwnDict (.ref x) (.ref C) (.str name tk) name v false) (λfin s'=>match fin with | .done f=>R (.ok f) s' | .again c'=>c'.quiet=true/\codeAny (model prog w) A c' R s') (λe s'=>R (.error e) s') s) :
 codeAny (model prog w) A (.call (.builtin "object.__setattr__") ⟨[.ref x,.str name tk,v],[]⟩) R s:=by
 have SF:=PySem.F.store_object;have ob:Looks (model prog w) s.heap (isInstance (.ref x) (.type "object")) true:=I.type.andThen (looks_mroIn X (by unfold mroIn;rw [hc,Option.bind_some,hmr];rfl));refine codeAny_call_builtin SF.slot.plain SF.entry (@check_slot (model prog w) _ _ s "object.__setattr__" "object" "__setattr__" (.ref x) [.str name tk,v] [] _ SF.kind SF.split ob (SF.args (.ref x) (.str name tk) v) ?_);have mr:Looks (model prog w) s.heap (mroOf (.ref C)) (GF C P):=by rw [<-hmr];exact (looks_clsIn X hc).andThen .now
 rw [osa_eq,refuse_eq];refine un4 (un4 (I.type.here (un4 (mr.here ?_))));rw [K4];refine un5 (un4 (I.type.here (un4 ((looks_findIn X ha).here ?_))));exact un4 (un5 h)
theorem Ue {E:Value->Shared->Prop}{Q:Unit->Shared->Prop}{m:Str->Option Value}{a:Str}{oD:Obj}(X:K.In s.heap)(hx:s.heap.get? x=some ox)(hcl:ox.cls = .ref C)(hno:notCls ox=true)(hod:ox.dict=some dx)(hdx:s.heap.get? dx=some oD)(n1:s.heap.Ns1 dx m)(hm:PySem.Within m [a])(hs:findIn K (.ref C) "__setattr__" = some (some (.builtin "object.__setattr__")))(hc:clsIn K C=some cd)(hmr:cd.mro=GF C P)(hd:cd.hasDict=true)(ha:findIn K (.ref C) name=some none)
 (h:∀h',(∀b o,b≠dx->s.heap.get? b=some o->h'.get? b=some o)->h'.Ns1 dx (λy=>if y=name then some v else m y)->Q () { s with heap:=h',toks:=s.toks + 2 }) :
 wpAny (model prog w) A (setAttr (.ref x) name v) Q E s:=by
 have I:InstAt s.heap x ox C (some oD):=⟨hx,hcl,hno,by rw [hod];exact hdx⟩;refine set_plain X I hs (TN (s:={ s with toks:=s.toks + 1 }) X I hc hmr ha ?_);refine un4 (un5 (un4 (un4 (wpAny_loadPart (s:={ s with toks:=s.toks + 1 }) hx ?_))));rw [hod,hcl];refine un4 (Looks.here (s:={ s with toks:=s.toks + 1 }) (looks_clsIn X hc) ?_);rw [hd,if_neg (by decide)];refine un5 ?_;refine un4 (un5 (un4 ?_));refine wpAny_nsSet1 n1 λh' n2 sb=>?_;obtain ⟨oD,esD,epD,hoD,hdD,hcD⟩:=n2.count (PySem.Within.cons name v hm);refine un4 (wpAny_lookBehind hoD (by rw [hdD];exact pastItsLine_dict (ul7 hcD (by show 2<=_;decide))) ?_);exact un5 (h h' (λb o hb e=>(sb.2 b hb).trans e) n2)
end
def ae (K:PySem.W.Frag)(P:Addr)(ta tv:TE)(f1 f:Str):TS:=λD σ H=>tv σ H λy H1=>ta σ H1 λx H2=>∃a C tp dx y1,x = .ref a/\H2 a=some (FT a C tp dx)/\H2 dx=some (.xd [(f1,y1)])/\dx≠a/\XAt K C P f/\D.nx σ (upd H2 dx (.xd [(f1,y1),(f,y)]))
theorem Sk {X:Cx}{P:Addr}{o value:Expr}{ta tv:TE}{f1 f:Str}{pos' pos:Pos}(hf:f1≠f)(ha:PE X o ta)(hv:PE X value tv)(hs:swapsWith value (some (.Attribute o f pos')) pos.line X.env=pure false):PS X (.Assign [.Attribute o f pos'] value pos) (ae X.K P ta tv f1 f):=by
 intro pins s σ H D I h;refine plainObj_wpAny_Assign_Attribute (thn (hv pins s σ H _ I h) λu s1 ⟨y,H1,I1,ry,q⟩=>thn (ha pins s1 σ H1 _ I1 q) λov s2 z9=>?_) hs;obtain ⟨x,H2,I2,rx,a,C,tp,dx,y1,ex,ea,ed,ne,c,q2⟩:=z9;subst ex;obtain rfl:ov=Value.ref a:=rx;obtain ⟨cd,c1,c2,c3⟩:=c.cl.cls;have hx:s2.heap.get? a=some { excObj C tp with dict:=some dx }:=(I2.hok a _ ea).1;obtain ⟨m,n1,rm⟩:=(show ObjOk X.prog X.w H2 s2.heap dx (.xd [(f1,y1)]) from I2.hok dx _ ed);obtain ⟨oD,ho,_⟩:=Ip n1;have hw:PySem.Within m [f1]:=λg hg=>by
  by_cases e:g=f1
  ·simp [e]
  ·exfalso;have z:=rm g;have hgb:(g == f1)=false:=beq_eq_false_iff_ne.mpr e;simp only [List.lookup,hgb] at z
   cases hm:m g with
   | none=>exact hg hm
   | some u=>rw [hm] at z;exact z
 refine Ue I2.kIn hx rfl rfl rfl ho n1 hw c.set c1 c2 c3 c.no λh' k n=>?_;have na:∀b u,s2.heap.get? b=some u->H2 b=none->b≠dx:=λb u _ z w'=>by rw [w',ed] at z;cases z
 refine ⟨σ,_,I2.un (h':=h') (t':=s2.toks + 2) ⟨λb u e1 e2 _ _=>k b u (na b u e1 e2) e1,λb u e1 e2 _ _=>⟨u.slots,k b u (na b u e1 e2) e1⟩,λb u e1 e2 _=>?_,λb u e1 _=>?_,λb xs e1=>?_,λb o' u e1=>?_,λb ps e1=>⟨#[],?_⟩⟩ λb u e1=>?_,q2⟩
 ·rw [As (na b u e1 e2)];exact e2
 ·by_cases hb:b=dx
  ·subst hb;obtain ⟨od',es,ep,e,_⟩:=n;exact ⟨_,e⟩
  ·exact ⟨_,k b u hb e1⟩
 ·rw [As (λz=>by rw [z,ed] at e1;cases e1)];exact e1
 ·rw [As (λz=>by rw [z,ed] at e1;cases e1)];exact e1
 ·rw [As (λz=>by rw [z,ed] at e1;cases e1),e1];simp
 ·by_cases hb:b=dx
  ·subst hb;rw [Ax] at e1;cases e1
   refine ⟨_,n,λg=>?_⟩
   by_cases hg:g=f
   ·subst hg;have hgb:(g == f1)=false:=beq_eq_false_iff_ne.mpr (Ne.symm hf);simp only [List.lookup,hgb,ui2,if_true];exact ry
   ·have hgb:(g == f)=false:=beq_eq_false_iff_ne.mpr hg;have z:=rm g
    by_cases hg1:g=f1
    ·subst hg1;simp only [List.lookup,ui2] at z;simp only [List.lookup,ui2,if_neg hg];exact z
    ·have hgb1:(g == f1)=false:=beq_eq_false_iff_ne.mpr hg1;simp only [List.lookup,hgb1] at z;simp only [List.lookup,hgb,hgb1,if_neg hg];exact z
  ·rw [As hb] at e1;refine (I2.hok b u e1).stay (λz v hz q=>k z v ?_ q) (λz q=>?_) λz xs q=>?_
   ·rcases hz with rfl | hz
    ·exact hb
    ·intro w';rw [w',ed] at hz;cases hz
   ·rw [As (λz=>by rw [z,ed] at q;cases q)];exact q
   ·rw [As (λz=>by rw [z,ed] at q;cases q)];exact q
def IC (K:PySem.W.Frag)(P:Addr)(a b:Str):Sp:=λvs H Q _=>∃x C tp v u,vs=[.ref x,v,u]/\H x=some (exO x C tp)/\XAt K C P a/\XAt K C P b/\∀dx,H dx=none->dx≠x->Q .non (upd (upd H dx (.xd [(a,v),(b,u)])) x (FT x C tp dx))
section
variable {X:Cx}{k:Nat}{f C P:Addr}{fd:FuncData}{pins:List (Addr×Obj)}{σ:St}{H:Hp}{s:Shared}{Q:Value->Shared->Prop}{us:List Value}{vs:List V}{a b:Str}{ps:List Str}{v v2:V}{u u2:Value}
theorem QC (M:XMk X.K C P f)(ha:XAt X.K C P a)(hab:XAt X.K C P b)(F:FnOk X.prog X.w X.K X.mg X.base CX0 k f fd ps (IC X.K P a b))(hr:Room (k + 1) X.A)(hb:Binds X.K fd ps [])(I:Inv X pins σ H s)(r:RelV v u)(rr:RelV v2 u2)
 (h:∀s' x dx,Inv X pins σ (upd (upd H dx (.xd [(a,v),(b,v2)])) x (.ext (F2.XIs qx x C (some dx)))) s'->H x=none->H dx=none->dx≠x->s.heap.objs.size<=x->XRec true s'.heap x C (some dx) .none->Q (.ref x) s'):wpAny (model X.prog X.w) X.A (call (.ref C) [u,u2]) Q X.xe s:=by
 obtain ⟨nm,q,N,bs,sn,sub,ab,col,dd,k0,k1,k2,k3,k5,hC,hN⟩:=M.cl.obj I.kIn;have hni:s.heap.nsMap N "__init__" = some (.ref f):=by
  obtain ⟨cd,c1,c2⟩:=M.init;refine Hx I.kIn hN ?_;unfold clsIn at c1
  split at c1
  ·next l=>
   cases c1
   have z:=I.kIn _ _ l;rw [hC] at z
   cases z
   exact c2
  ·cases c1
 have I1:Inv X pins σ (upd H (s.heap.objs.size + 1) (exO (s.heap.objs.size + 1) C s.heap.objs.size)) { s with heap:=EB s.heap C [u,u2] }:=by
  refine I.laid (t':=s.toks) (λb o e=>uc4 _ (uc4 _ e)) (un1 _) (NF ?_);show ((s.heap.push _).push _).get? _=_
  heap_get
 have hx0:=I.hok.fresh (un1 s.heap.objs.size);have r2:Vals [V.ref (s.heap.objs.size + 1),v,v2] [Value.ref (s.heap.objs.size + 1),u,u2]:=.cons rfl (.cons r (.cons rr .nil));have hsp:IC X.K P a b [V.ref (s.heap.objs.size + 1),v,v2] (upd H (s.heap.objs.size + 1) (exO (s.heap.objs.size + 1) C s.heap.objs.size))
  (λw' H'=>w' = .non/\∃dx,H dx=none/\dx≠s.heap.objs.size + 1/\H'=upd (upd H dx (.xd [(a,v),(b,v2)])) (s.heap.objs.size + 1) (FT (s.heap.objs.size + 1) C s.heap.objs.size dx)) E0:=by
  refine ⟨_,C,s.heap.objs.size,v,v2,rfl,Ax,ha,hab,λdx h1 h2=>⟨rfl,dx,by rw [As h2] at h1;exact h1,h2,?_⟩⟩
  funext b
  by_cases e1:b=s.heap.objs.size + 1
  ·subst e1;rw [Ax,Ax]
  ·by_cases e2:b=dx
   ·subst e2;rw [As e1,As e1,Ax,Ax]
   ·rw [As e1,As e1,As e2,As e2,As e1]
 have hl:([Value.ref (s.heap.objs.size + 1),u,u2]++[]).length=ps.length:=by
  have e:=F.len _ _ _ _ hsp;simpa using e
 obtain ⟨hh,g,d,t,os⟩:=s;refine wpAny_call (JL ua8 (M.cl.tail I.kIn) hC hN hni ((bind_fn I.kIn _ (beq_iff_eq.mp M.fn))) (by show 2<=sizeLine;decide) ?_);refine codeAny_mono (F.run _ X.stack _ _ ⟨[Value.ref (hh.objs.size + 1),u,u2],[]⟩ [Value.ref (hh.objs.size + 1),u,u2] _ _ E0 (hr.make C [u,u2] []) (I1.env0.make C [u,u2] []) (by have:=hb _ [Value.ref (hh.objs.size + 1),u,u2] I1.kIn hl;simpa using this) r2 hsp) λr s' hq'=>?_
 cases r with
 | error e=>exact hq'.elim
 | ok fl=>
   cases fl with
   | ret w'=>
     obtain ⟨v',H',I3,rv,rfl,dx,d1,d2,rfl⟩:=I1.after hq';refine ⟨rv,?_⟩;have hx:=(I3.hok (hh.objs.size + 1) _ Ax).1;have hx:s'.heap.get? (hh.objs.size + 1)=some { excObj C hh.objs.size with dict:=some dx }:=hx;have xr:XRec true s'.heap (hh.objs.size + 1) C (some dx) .none:=⟨_,_,hx,rfl,rfl,rfl,rfl,λ_=>⟨rfl,by show 4 < 6;decide⟩⟩;have I4:=I3.write (x:=hh.objs.size + 1) (e:=hh.objs.size + 1) (o:=.ext (F2.XIs qx (hh.objs.size + 1) C (some dx))) (h':=s'.heap) (t':=s'.toks) (by rw [Ax];trivial) (.inl rfl) (λ_ _ _ z=>z) ⟨_,hx⟩ (Ic xr.to.is);rw [L7] at I4;exact h s' (hh.objs.size + 1) dx I4 hx0 d1 d2 (un1 _) xr
   | next=>exact False.elim hq'
   | brk=>exact False.elim hq'
   | cont=>exact False.elim hq'
end
section
variable {X:Cx}{k:Nat}{f C P:Addr}{fd:FuncData}{a b:Str}{ps:List Str}{n:Str}{p pos:Pos}{e e':Expr}
theorem XC {t:TA}(M:XMk X.K C P f)(ha:XAt X.K C P a)(hab:XAt X.K C P b)(F:FnOk X.prog X.w X.K X.mg X.base CX0 k f fd ps (IC X.K P a b))(hr:Room (k + 1) X.A)(hb:Binds X.K fd ps [])(hg:Gl X n)(hm:X.mg n=some (.ref C))(hA:PA X [e,e'] t)
 (hdb:(n == ("__debug__" : Str))=false:=by decide) (h1:starEach [e,e'] X.env=(false,eval e X.env) :: starEach [e'] X.env:=by rfl) (hpl:(backTo pos (starEach [e'] X.env)).any (·.1)=false:=by rfl) :
 PM qx X (.Call (.Name n p) [e,e'] [] pos) C (λσ H Q=>t σ H λvs H1=>∃v u,vs=[v,u]/\∀x dx,H1 x=none->H1 dx=none->dx≠x->Q x (some dx) (upd (upd H1 dx (.xd [(a,v),(b,u)])) x (.ext (F2.XIs qx x C (some dx))))):=by
 intro pins s σ H Q I h;refine wpAny_Call_Name_kw (D9 I hg hm ?_ hdb);refine uf4 (h₀:=X.base) I.ok.mod.kin M.kp (thn (hA pos pins s σ H _ I h) λus s1 z9=>?_) h1 hpl;obtain ⟨vs,H1,I1,r,v,u,ev,q⟩:=z9;refine ⟨I1.kIn,?_⟩;subst ev
 cases r with
 | cons r0 rs=>
   cases rs with
   | cons r1 rs=>
     cases rs
     exact QC M ha hab F hr hb I1 r0 r1 λs' x dx I' hx hdx ne nx rc=>⟨x,some dx,_,rfl,I',Ax,ul7 I1.sz nx,rc,q x dx hx hdx ne⟩
end
end L2
namespace F2
open PySem L2 PySem.Spec PySem.W
variable {qx:Bool}
section
variable {X:Cx}{e e':Expr}{pos p pos2:Pos}{E:L2.St->XK}{P:Addr}{ca:Str->Addr}
def XN2 (prog:Program)(w:World)(K:PySem.W.Frag)(mg:Str->Option Value)(base:Heap)(C P:Addr):Prop:=
 ∃(f:Addr) (fd:FuncData) (ps:List Str),XMk K C P f/\XAt K C P "at"/\XAt K C P "side"/\Binds K fd ps []/\FnOk prog w K mg base CX0 1 f fd ps (IC K P "at" "side")
def Fs (n:Str)(f:M (List D)):M Out:=bnd f λds=>match ds with
 | [d,d']=>ret (.ret (.exc n [d,d']))
 | _=>fail
theorem GH {f:M (List D)}(x:XM X.K X.mg P ca)(xn:XN2 X.prog X.w X.K X.mg X.base (ca "Broken") P)(hr:L2.Room 2 X.A)(hc:X.calm=true)(hx:Gf qx X E)(hg:Gl X "Broken")(ha:PA X [e,e'] (RA X.K f))
 (h1:Cv e=false:=by rfl) (h2:CH [e']=true:=by rfl):PS X (.Raise (some (.Call (.Name "Broken" p) [e,e'] [] pos)) none pos2) (RSX X.K E (Fs "Broken" f)):=by
 obtain ⟨fa,fd,ps,M,A,A2,B,F⟩:=xn;have hn:("Broken" : Str)∈Cp:=by decide
 refine CA (JW hc M.cl hx (XC M A A2 F hr B hg (x.ms _ hn) ha (by decide) (Ct h1) (Ci h2).1)) λD σ H z9=>?_;obtain ⟨Oo,c,t,fi,o,t',eq,k⟩:=z9;obtain ⟨ds,t1,e1,eq⟩:=Aw eq;refine ⟨Oo,c,t,fi,ds,t1,e1,λvs H1 c1 f1 s1 rvs=>?_⟩;rcases ds with _ | ⟨d,_ | ⟨d',_ | ⟨_,_⟩⟩⟩
 ·cases eq
 ·cases eq
 ·cases rvs with
  | @cons v0 _ _ _ rv r=>
  cases r with
  | @cons v1 _ _ _ rv1 r=>
  cases r
  cases eq
  refine ⟨_,_,rfl,λy dx hy hdx ne=>?_⟩;have f2:=f1.laid (o:=.xd [("at",v0),("side",v1)]) hdx;have hy2:upd H1 dx (.xd [("at",v0),("side",v1)]) y=none:=by rw [As (Ne.symm ne)];exact hy
  have f3:=f2.laid (o:=.ext (XIs qx y (ca "Broken") (some dx))) hy2;have ex:=(f1.stp_laid (o:=.xd [("at",v0),("side",v1)]) hdx).ext.trans (f2.stp_laid (o:=.ext (XIs qx y (ca "Broken") (some dx))) hy2).ext;have s3:=s1.trans ((f1.stp_laid (o:=.xd [("at",v0),("side",v1)]) hdx).trans (f2.stp_laid (o:=.ext (XIs qx y (ca "Broken") (some dx))) hy2));refine k σ _ c1 f3 s3 (.ref y) (.exc (x.ns _ hn) Ax (f2.s.free hy2) ?_ (.cons (rv.mono ex) (.cons (rv1.mono ex) .nil))) y (some dx) rfl;exact ⟨by rw [As ne,Ax];rfl,f1.s.free hdx⟩
 ·cases eq
end
def XF2 (K:PySem.W.Frag)(C P:Addr)(qual:Str)(st:Stmt):Prop:=∃(f:Addr) (fd:FuncData),XMk K C P f/\XAt K C P "at"/\XAt K C P "side"/\Binds K fd ["self", "at", "side"] []/\Fun K "__init__" qual st f fd
theorem Yx {K:PySem.W.Frag}{C P f:Addr}{qual:Str}{st:Stmt}{od an:Option Addr}{sl:Array (Option Value)}{oc kV dc pm cd ct:Value}(o:XOne K P C)(i:G0 K C f=true)(hf:isFn K (.ref f)=true)(hs:findIn K (.ref C) "__setattr__" = some (some (.builtin "object.__setattr__")))
 (l:K.lookup f=some ⟨oc,od,.func (PySem.W.fnOf "__init__" qual (DM st) (Ca st) (Ao st) .none kV dc pm an cd ct),sl⟩) (c:codeIn K cd qual=true) (k:keepIn K (.ref f)=true)
 (hb:∀(kV doc pm:Value) (an:Option Addr) (cdv ct:Value) (us:List Value),us.length=3->bindArgs (PySem.W.fnOf "__init__" qual (DM st) (Ca st) (Ao st) .none kV doc pm an cdv ct) ⟨us,[]⟩=pure ((["self", "at", "side"]:List Str).zip us)):XF2 K C P qual st:=by
 refine ⟨f,_,⟨o.cl,?_,hf,o.kp⟩,⟨o.cl,hs,o.na⟩,⟨o.cl,hs,o.nd⟩,(GZ (st:=st) l c k).binds (ps:=["self", "at", "side"]) hb,GZ (st:=st) l c k⟩;unfold G0 at i
 split at i
 ·next cd' e=>exact ⟨cd',e,beq_iff_eq.mp i⟩
 ·cases i
theorem Hq {prog:Program}{w:World}{K:PySem.W.Frag}{mg:Str->Option Value}{base:Heap}{C P:Addr}{qual:Str}{st:Stmt}{p1 p2 p3 p4 p5 p6 p7 p8:Pos}(hbd:Ca st=[.Assign [.Attribute (.Name "self" p1) "at" p2] (.Name "at" p3) p4,.Assign [.Attribute (.Name "self" p5) "side" p6] (.Name "side" p7) p8])(S:FnScope ["self", "at", "side"] ["self", "at", "side"] (Ao st))
 (s1:(Ao st).names.lookup ("self" : Str)=some NameKind.local) (s2:(Ao st).names.lookup ("at" : Str)=some NameKind.local) (s3:(Ao st).names.lookup ("side" : Str)=some NameKind.local) (x:XF2 K C P qual st):XN2 prog w K mg base C P:=by
 obtain ⟨f,fd,M,A,A2,B,F⟩:=x;refine ⟨f,fd,_,M,A,A2,B,F.ok (k:=0) S (λvs H Q E h=>?_) λcdv A' outer s H vs Q E hr h=>?_⟩
 ·obtain ⟨y,C',tp,v,u,rfl,_⟩:=h;rfl
 ·rw [hbd];refine ⟨_,JX (Qv (P:=P) (DB (i:=0) rfl (.inl s1) (by decide) (by decide)) (DB (i:=1) rfl (.inl s2) (by decide) (by decide)) rfl) (G6 (Sk (P:=P) (f1:="at") (by decide) (DB (i:=0) rfl (.inl s1) (by decide) (by decide)) (DB (i:=2) rfl (.inl s3) (by decide) (by decide)) rfl)),?_⟩;obtain ⟨y,C',tp,v,u,rfl,hy,ha,ha2,k⟩:=h;refine ⟨v,rfl,.ref y,rfl,y,C',tp,rfl,hy,ha,λdx h1 h2=>⟨u,rfl,.ref y,rfl,y,C',tp,dx,v,rfl,Ax,by rw [As h2,Ax],h2,ha2,?_⟩⟩;have z:=k dx h1 h2;have e:upd (upd (upd H dx (.xd [("at",v)])) y (FT y C' tp dx)) dx (.xd [("at",v),("side",u)])=upd (upd H dx (.xd [("at",v),("side",u)])) y (FT y C' tp dx):=by
   funext b
   by_cases e1:b=dx
   ·subst e1;rw [Ax,As h2,Ax]
   ·by_cases e2:b=y
    ·subst e2;rw [As e1,Ax,Ax]
    ·rw [As e1,As e2,As e1,As e2,As e1]
  rw [e];exact z
end F2
namespace L2
open PySem PySem.Spec PyProof.Rows PySem.W
end L2
namespace F2
open PySem L2 PySem.Spec
section
variable {X:Cx}{a b:Expr}{pos:Pos}
end
end F2
namespace L2
open PySem PySem.Spec PyProof.Rows PySem.W
theorem MA:entryFor table "proto.unchain" = some Builtin.«proto.unchain»:=entryFor_of_tree (by kernel_rfl)
section
variable {prog:Program}{w:World}{A:Around}{E:Value->Shared->Prop}{env:Env}{K:PySem.W.Frag}{C:Addr}{bm:List Value}{s:Shared}
theorem QM {x y:Addr}{ox:Obj}{vx:Array Value}{Q:Value->Shared->Prop}(gx:s.heap.get? x=some ox)(dx:ox.data = .fields vx)(x2:vx[2]?=some .none)(h:Q .none s) :
 wpAny (model prog w) A (runValue (.builtin "proto.unchain" ⟨[.ref y,.ref x,.ref x,.bool false],[]⟩)) Q E s:=by
 refine runValue_entry MA ?_;unfold Builtin.«proto.unchain»;refine un4 (un3 gx dx x2 ?_);rw [if_pos (by decide)];refine un4 (un5 (un5 ⟨_,rfl,h⟩))
theorem Ub {t c0:Sem Value}{x:Addr}{Q:Flow->Shared->Prop}(c:XCl K C bm)(hh:A.handled=some (.ref x))
 (hc0:∀(s:Shared) (Q:Value->Shared->Prop) (E:Value->Shared->Prop),Q Value.none s->wpAny (model prog w) A c0 Q E s)
 (h:wpAny (model prog w) A t (λv s1=>∃y dy ox vx,v = .ref y/\y≠x/\K.In s1.heap/\XRec true s1.heap y C dy .none/\s1.heap.get? x=some ox/\ox.data = .fields vx/\vx[2]?=some .none/\
   ∀h',XRec false h' y C dy .none->(∀b,b≠y->h'.get? b=s1.heap.get? b)->E v { s1 with heap:=h' }) E s):wpAny (model prog w) A (raiseStmt env (some t) (some c0)) Q E s:=by
 unfold raiseStmt;refine un4 (un6 h (λv s1 q=>?_) λ_ _ z=>z);obtain ⟨y,dy,ox,vx,rfl,ne,X,⟨o,vs,hx,hc,hd,hdt,h1,h2⟩,gx,dx,x2,hE⟩:=q;obtain ⟨h2,h4⟩:=h2 rfl;obtain ⟨nm,q,N,bs,sn,sub,ab,col,dd,k0,k1,k2,k3,k5,hC,_⟩:=c.obj X;have hb:=c.has X;obtain ⟨hp,g,d,tk,os⟩:=s1;refine un4 (ul4 (hc0 _ _ _ (un4 (un5 ?_))))
 repeat (first
  | (with_reducible refine wpAny_loadPart_at hx ?_;rw [hc])
  | with_reducible refine wpAny_loadPart_at hC ?_
  | (with_reducible refine wpAny_isSubtype_exc hC ?_;rw [hb])
  | with_reducible refine un3 hx hdt h1 ?_
  | wp_step)
 have nC:C≠y:=by
  rintro rfl;rw [hC] at hx
  cases hx
  cases hdt
 rw [hdt];show wpAny _ _ (if 3 < vs.size then _ else _) _ _ _;rw [if_pos (Nat.lt_of_succ_lt h4)];refine wpAny_update hx ?_;obtain ⟨m1,m2,m3⟩:=Gq hdt (·.setIfInBounds 3 Value.none);have hx1:=ud5 (Obj.mapFields (·.setIfInBounds 3 Value.none)) hx (Obj.isFreed_of_fields m1);refine un4 (wpAny_setField hx1 m1 (by rw [ub7];exact h4) ?_);obtain ⟨n1,n2,n3⟩:=Gq m1 (·.setIfInBounds 4 (Value.bool true));have hx2:=ud5 (Obj.mapFields (·.setIfInBounds 4 (Value.bool true))) hx1 (Obj.isFreed_of_fields n1);have oth:∀b,b≠y->((hp.update y (Obj.mapFields (·.setIfInBounds 3 Value.none))).update y (Obj.mapFields (·.setIfInBounds 4 (Value.bool true)))).get? b=hp.get? b:=λb z=>by
  rw [uc7 _ _ (Ne.symm z),uc7 _ _ (Ne.symm z)]
 have hC2:=(oth C nC).trans hC;have gx2:=(oth x (Ne.symm ne)).trans gx;have hc2:=n2.trans (m2.trans hc);have hd2:=n3.trans (m3.trans hd);have t1:((vs.setIfInBounds 3 Value.none).setIfInBounds 4 (Value.bool true))[1]?=some .none:=by
  rw [ua2 (by decide),ua2 (by decide)];exact h1
 have t4:2 < ((vs.setIfInBounds 3 Value.none).setIfInBounds 4 (Value.bool true)).size:=by
  rw [ub7,ub7];lia
 show wpAny (model prog w) A _ Q E ⟨(hp.update y (Obj.mapFields (·.setIfInBounds 3 Value.none))).update y (Obj.mapFields (·.setIfInBounds 4 (Value.bool true))),g,d,tk,os⟩;generalize (hp.update y (Obj.mapFields (·.setIfInBounds 3 Value.none))).update y (Obj.mapFields (·.setIfInBounds 4 (Value.bool true)))=h3 at hx2 oth hC2 gx2;generalize ((o.mapFields (·.setIfInBounds 3 Value.none)).mapFields (·.setIfInBounds 4 (Value.bool true)))=o2 at hx2 hc2 hd2 n1;generalize ((vs.setIfInBounds 3 Value.none).setIfInBounds 4 (Value.bool true))=vs2 at n1 t1 t4;clear hx1 m1 m2 m3 n2 n3
 repeat (first
  | (with_reducible refine wpAny_loadPart_at hx2 ?_;rw [hc2])
  | with_reducible refine wpAny_loadPart_at hC2 ?_
  | (with_reducible refine wpAny_isSubtype_exc hC2 ?_;rw [hb])
  | with_reducible refine un3 hx2 n1 t1 ?_
  | wp_step)
 unfold raiseNew;refine un4 (wpAny_handled ?_);rw [hh];dsimp only;rw [if_pos (by simpa using Ne.symm ne)];refine un4 (ul4 (QM gx2 dx x2 (un4 ?_)));obtain ⟨z1,z2,z3⟩:=Gq n1 (·.setIfInBounds 2 (Value.ref x));refine wpAny_setField hx2 n1 t4 ?_;have hx3:=ud5 (Obj.mapFields (·.setIfInBounds 2 (Value.ref x))) hx2 (Obj.isFreed_of_fields z1);refine wpAny_throw (hE _ ⟨_,_,hx3,z2.trans hc2,z3.trans hd2,z1,?_,λz=>by cases z⟩ λb hb'=>?_)
 ·rw [ua2 (by decide)];exact t1
 ·rw [uc7 _ _ (Ne.symm hb')];exact oth b hb'
end
section
variable {X:Cx}{pins:List (Addr×Obj)}{σ:St}{H:Hp}{s s':Shared}{qx:Bool}{x C:Addr}{dx T:Option Addr}{fl:Value}
theorem XOn.keep (I:Inv X pins σ H s)(o:XOn qx X pins H s x C dx T fl)(k:∀b,b≠X.env.locals->(∀z c,X.env.cells.lookup z=some c->c≠b)->s'.heap.get? b=s.heap.get? b):XOn qx X pins H s' x C dx T fl:=by
 obtain ⟨ox,vs,gx,cx,dxe,dtx,tbx,xc⟩:=id o.rc;have nl:x≠X.env.locals:=λz=>by have:=o.hx;rw [z,I.free] at this;cases this
 have nc:∀z c,X.env.cells.lookup z=some c->c≠x:=λz c e w=>by
  have:=o.hx;rw [<-w,I.freeC z c e] at this
  cases this
 refine ⟨o.hx,o.nx,⟨ox,vs,(k x nl nc).trans gx,cx,dxe,dtx,tbx,xc⟩,λa e=>?_,o.fo⟩;obtain ⟨z1,z2,z3,⟨y1,y2,y3⟩,ot,ts,gT,dT,t3⟩:=o.tb a e;exact ⟨z1,z2,z3,⟨y1,y2,y3⟩,ot,ts,(k a y1 y2).trans gT,dT,t3⟩
theorem SJ {M:Model}{A:Around}{E:Value->Shared->Prop}{i:Nat}{n:Str}{pos:Pos}{Q:Unit->Shared->Prop}(I:Inv X pins σ H s)(hN:X.N.Nodup)(hi:X.N[i]?=some n)(hk:X.env.scope.names.lookup n=some .local)
 (h:∀s',Inv X pins (σ.set i none) H s'->(∀b,b≠X.env.locals->(∀z c,X.env.cells.lookup z=some c->c≠b)->s'.heap.get? b=s.heap.get? b)->Q () s'):wpAny M A (do bindName X.env n .none;unbindBehindTheSuite X.env n pos) Q E s:=by
 refine un4 (wpAny_bindName (Mt (v:=.non) I hN hi (.inl hk) rfl (λs1 I1 sb1=>?_) (.inr hk)));obtain ⟨a1,sb1,ha1⟩:=sb1;unfold unbindBehindTheSuite;have hiσ:i < σ.length:=by rw [I.len];exact (ub1.mp hi).1
 obtain ⟨m,hn,hl⟩:=id I1.loc;have hcls:(X.env.scope.kind == .class || (X.env.scope.kind == .module && X.env.locals != X.env.globals))=false:=by rw [I.ok.kind];rfl
 obtain ⟨u0,_,lk⟩:=hl i n .non hi (by rw [uc3 hiσ]) (.inl hk);have hv:m n=some u0:=by
  rcases lk with ⟨_,e⟩ | ⟨k,_⟩
  ·exact e
  ·have k:X.env.scope.names.lookup n=some .cell\/X.env.scope.names.lookup n=some .free:=k;rw [hk] at k;rcases k with k | k <;> cases k
 refine wpAny_onRaise (wpAny_unbindName_local hk hn hv hcls λh' u hn' hs=>?_);have cne:=I1.cne;have tracked:HOk X.prog X.w H h':=λb ob e=>by
  refine (I1.hok b ob e).stay (λc w' hc q=>(hs.2 c ?_).trans q) (λ_ q=>q) λ_ _ q=>q;rintro rfl;rcases hc with rfl | hc
  ·rw [I1.free] at e;cases e
  ·rw [I1.free] at hc;cases hc
 have far:∀b o,X.s₀.heap.get? b=some o->b≠X.env.locals:=λb o e=>ul6 (uf0 (ul5 e) I1.ok.above);refine h _ ⟨I1.ok,I1.os,I1.bare,⟨λb o e n hb hx=>?_,λb o e n hb hx=>?_,I1.base.free,λb o e hx=>?_,I1.base.tups,I1.base.frzs,I1.base.tbls⟩,⟨_,hn',λj y v' e1 e2 e3=>?_⟩,λy c e=>?_,I1.free,I1.freeC,λp hp=>?_,tracked,by simpa using I.len⟩ λb hb hc=>?_
 ·exact (hs.2 b (far b o e)).trans (I1.base.keep b o e n hb hx)
 ·obtain ⟨sl,e1⟩:=I1.base.slot b o e n hb hx;exact ⟨sl,(hs.2 b (far b o e)).trans e1⟩
 ·obtain ⟨o',e1⟩:=I1.base.there b o e hx;exact ⟨o',(hs.2 b (far b o e)).trans e1⟩
 ·by_cases hj:j=i
  ·subst hj;rw [uc3 hiσ] at e2
   cases e2
  ·rw [ud9 (Ne.symm hj)] at e2;obtain ⟨u',r',q⟩:=hl j y v' e1 (by rw [ud9 (Ne.symm hj)];exact e2) e3;refine ⟨u',r',?_⟩;rcases q with ⟨k,e⟩ | ⟨k,c,e,z⟩
   ·refine .inl ⟨k,?_⟩;have:y≠n:=λe=>hj (Hw hN e1 (e ▸ hi));simp [this,e]
   ·exact .inr ⟨k,c,e,z.sameBut hs (cne y c e)⟩
 ·obtain ⟨w',z⟩:=I1.cell y c e;exact ⟨w',z.sameBut hs (cne y c e)⟩
 ·obtain ⟨e,n,ne,nf,d⟩:=I1.pin p hp;exact ⟨(hs.2 p.1 ne).trans e,n,ne,nf,d⟩
 ·rw [hs.2 b hb];refine sb1.2 b ?_;rintro rfl;rcases ha1 with z | z
  ·exact hb z
  ·exact hc _ _ z rfl
end
def IM (X:Cx)(E:St->XK):Prop:=∀(pins:List (Addr×Obj)) (σ:St) (H:Hp) (s:Shared) (x C:Addr) (dx T:Option Addr) (fl:Value),Inv X pins σ H s->XOn false X pins H s x C dx T fl->E σ (.ref x) dx H->X.xe (.ref x) s
theorem XE.raisesT {X:Cx}{E:St->XK}:IM (X.wish (XE false X E)) E:=λpins σ H s x C dx T fl I o q=>⟨pins,σ,H,x,C,dx,T,fl,rfl,I.unwish,⟨o.hx,o.nx,o.rc,o.tb,o.fo⟩,q⟩
section
variable {X:Cx}{n v:Str}{C' C2:Addr}{bm' bm2:List Value}{p pos p2:Pos}{e cN:Expr}{rest:List ExceptHandler}{t:St->Hp->(Addr->Option Addr->Hp->Prop)->Prop}{tr:Addr->Addr->Option Addr->TS}{i:Nat}{E:St->XK}
def aj (K:PySem.W.Frag)(C':Addr)(i:Nat)(t:St->Hp->(Addr->Option Addr->Hp->Prop)->Prop)(E:St->XK)(tr:Addr->Addr->Option Addr->TS):Addr->Addr->Option Addr->TS:=λx C dx D σ H=>∃bm,XCl K C bm/\
 if (Value.ref C :: bm).contains (.ref C')=true then t (σ.set i (some (.ref x))) H (λy dy H1=>y≠x/\H1 x=some (.ext (F2.XIs true x C dx))/\E ((σ.set i (some (.ref x))).set i none) (.ref y) dy H1) else tr x C dx D σ H
theorem YS (h1:X.stack=X.env :: X.outer)(h2:X.env.frame=some X.env.locals)(hg:Gl X n)(hm:X.mg n=some (.ref C'))(c':XCl X.K C' bm')(hN:X.N.Nodup)(hi:X.N[i]?=some v)(hl:X.env.scope.names.lookup v=some .local)
 (c2:XCl X.K C2 bm2) (hp:∀x,PM false (X.mark x) e C2 t) (hx:IM X E)
 (hz:∀(A:Around) (s:Shared) (Q:Value->Shared->Prop) (E:Value->Shared->Prop),Q Value.none s->wpAny (model X.prog X.w) A (eval cN X.env) Q E s)
 (hr:PH true X rest tr) (hdb:(n == ("__debug__" : Str))=false:=by decide):PH true X (.ExceptHandler (some (.Name n p)) (some v) [.Raise (some e) (some cN) p2] pos :: rest) (aj X.K C' i t E tr):=by
 intro pins s σ H x C dx T D I o ⟨bm,c,q⟩;have Im:=I.mark x;refine wpAny_handleBy_cons (codeAny_handlers_test (D9 Im hg hm ?_ hdb)) (by intro z;cases z)
 refine JM c c' I.kIn o.rc ?_
 cases hc:(Value.ref C :: bm).contains (.ref C') with
 | false=>
   rw [hc,if_neg (by decide)] at q;exact hr pins s σ H x C dx T D I o q
 | true=>
   rw [hc,if_pos rfl] at q;refine codeAny_handlers_suite_as ?_;refine E8 none I o (.inl rfl) λh1' I1 o1=>?_;refine Gy (v:=.ref x) I1 hN hi (.inl hl) rfl (λs2 I2=>?_) (.inr hl);refine wpAny_execs_cons ?_;rw [arm_exec_Raise];refine un4 (wpAny_standAt ?_);refine Ub (x:=x) c2 rfl (λs Q E h=>un4 (hz _ _ _ _ (un4 (wpAny_standAt (un5 h))))) ?_;refine un4 (un6 (hp x pins s2 _ H _ (I2.mark x) q) (λw' s3 z9=>?_) λ_ _ z=>z.elim);obtain ⟨y,dy,H1,e1,I3,hy,ny,r,ne,hxx,q1⟩:=z9;subst e1;have J3:=I3.unmark I.ok;obtain ⟨ox,vx,gx,_,_,dtx,xc⟩:=(I3.hok x _ hxx).1;refine un4 (wpAny_standAt (un5 ⟨y,dy,ox,vx,rfl,ne,I3.kIn,r,gx,dtx,(xc rfl).1,λh' r' kp=>?_⟩));obtain ⟨o1',o2',o3'⟩:=J3.newT (um9 _);have J4:=J3.left hy (J3.hok.fresh (um9 _)) ny (ul7 J3.sz (um9 _)) (ch:=[y]) (h':=h') ⟨λb u hb _ e=>(kp b (by simpa using hb)).trans e,λb u hb e=>⟨u.slots,(kp b (by simpa using hb)).trans e⟩⟩ (λb hb=>.inl (by simpa using hb)) r'.is o2' o1' o3';have o4:XOn false X pins H1 { s3 with heap:=h' } y C2 dy none .none:=⟨hy,ny,r',(λa e=>by cases e),.inl rfl⟩;refine Gv I3.ok.frames J4 h1 h2 o4 λh5 a J5 o5=>?_;refine SJ J5 hN hi hl λs6 J6 k6=>?_;have o6:=o5.keep J5 k6;obtain ⟨oy,vy,gy,_,_,dty,tby,_⟩:=id o6.rc;unfold PySem.passOn;refine un4 (un3 gy dty tby ?_);rw [if_neg (show ¬((Value.ref a == Value.none)=true) from by intro z;cases z)]
   rw [h2];refine un4 (E8 (some X.env.locals) J6 o6 (.inr rfl) λh7 J7 o7=>wpAny_throw ?_);refine Gv I3.ok.frames J7 h1 h2 o7 λh8 a8 J8 o8=>?_;obtain ⟨oz,vz,gz,_,_,dtz,tbz,_⟩:=id o8.rc;show cameBackBy _ _ _ _ _ _;unfold cameBackBy;refine un4 (un3 gz dtz tbz ?_);rw [if_neg (show ¬((Value.ref a8 == Value.none)=true) from by intro z;cases z)]
   rw [h2];exact E8 (some X.env.locals) J8 o8 (.inr rfl) λh9 J9 o9=>hx pins _ H1 _ y C2 dy _ _ J9 o9 q1
end
structure FnOkH (P:Program)(w:World)(K:PySem.W.Frag)(mg:Str->Option Value)(base:Heap)(CX:CXT)(k:Nat)(f:Addr)(fd:FuncData)(ps:List Str)(sp:Sp):Prop where
 len:∀vs H Q E,sp vs H Q E->vs.length=ps.length
 run:∀(z:Addr) (A:Around) (outer:List Env) (s:Shared) (H:Hp) (args:Args) (us:List Value) (vs:List V) (Q:VK) (E:XK),Room k A->Env0 P w K mg base A outer s H->BindsTo s fd args (ps.zip us)->Vals vs us->sp vs H Q E->
  codeAny (model P w) (A.mark (some (.ref z))) (.call (.ref f) args) (CR CX outer P w H s Q E) s
theorem W2 {CX:CXT}{P:Program}{w:World}{K:PySem.W.Frag}{mg:Str->Option Value}{base:Heap}{k:Nat}{f:Addr}{name qual:Str}{params:Arguments}{body:List Stmt}{scope:Scope}{dV kV doc pm cdv ct oc:Value}{an od:Option Addr}
 {osl:Array (Option Value)} {N ps:List Str} {sp:Sp} (lk:K.lookup f=some ⟨oc,od,.func (PySem.W.fnOf name qual params body scope dV kV doc pm an cdv ct),osl⟩) (hcd:PySem.W.codeIn K cdv qual=true) (S:FnScope N ps scope)
 (len:∀vs H Q E,sp vs H Q E->vs.length=ps.length)
 (hbody:∀(z:Addr) (A:Around) (outer:List Env) (s:Shared) (H:Hp) (vs:List V) (Q:VK) (E:XK),Room k (A.deeper (envOfC qual scope s.heap.objs.size f cdv))->sp vs H Q E->
   ∃t,PSs ((Em CX P w K mg base N qual scope f cdv A outer s H E).mark z) body t/\t { nx:=λ_ H'=>Q .non H',rt:=Q } (DK N vs) H) :
 FnOkH P w K mg base CX (k + 1) f (PySem.W.fnOf name qual params body scope dV kV doc pm an cdv ct) ps sp:=by
 refine ⟨len,λz A outer s H args us vs Q E hr e0 hb r hsp=>?_⟩;have hl:=len _ _ _ _ hsp;have KX:K.In s.heap:=e0.mod.kin.keeps λb o e=>(e0.bs b o e).1;have lim:s.heap.NoLimit:=e0.mod.nolimit.keeps λb o e=>(e0.bs b o e).1;have hkind:∀y∈ps.zip us,scope.names.lookup y.1=some .local\/(scope.names.lookup y.1=some .cell/\((cellsFrom (s.heap.objs.size + 1) scope.names []).lookup y.1).isSome=true):=λz9 hy=>by
  obtain ⟨n,v⟩:=z9;rcases S.par n (ui8 hy).1 with q | q
  ·exact .inl q
  ·exact .inr ⟨q,uc5 _ _ _ (.inl q)⟩
 refine codeAny_call_function (A:=A.mark (some (.ref z))) hr.depth (KX _ _ lk) rfl S.co S.gen rfl (PySem.W.codeRec_of KX hcd) (hb _ _ _ _ ?_);refine wpAny_newFunctionEnv_cells S.kind hkind λenv he s1 x=>?_;subst he;refine ⟨lim.keeps x.toInCall.keep,codeAny_func ?_⟩;obtain ⟨t,ht,hq⟩:=hbody z A outer s H vs Q E (hr.deeper _) hsp;have I:Inv (Em CX P w K mg base N qual scope f cdv A outer s H E) [] (DK N vs) H s1:=Mm S hr.hd e0 hl r x;refine un6 (ht [] s1 (DK N vs) H _ (I.mark z) hq) (λfl s' hs=>?_) λe s' hs=>hs.elim;have fin:∀{σ':St} {H':Hp} {v:V} {u:Value},Inv ((Em CX P w K mg base N qual scope f cdv A outer s H E).mark z) [] σ' H' s'->RelV v u->Q v H'->CE outer P w H s Q u s':=
  λ{σ' H' v u} J rv q=>⟨v,H',J.os,J.bare,J.base,J.hok,rv,q⟩
 cases fl with
 | ret u=>
   obtain ⟨v,σ',H',J,rv,q⟩:=hs;exact fin J rv q
 | next=>
   obtain ⟨σ',H',J,q⟩:=hs;exact fin (v:=V.non) (u:=Value.none) J rfl q
 | brk=>
   obtain ⟨_,_,_,q⟩:=hs;exact False.elim q
 | cont=>
   obtain ⟨_,_,_,q⟩:=hs;exact False.elim q
theorem Fun.okH {P:Program}{w:World}{K:PySem.W.Frag}{mg:Str->Option Value}{base:Heap}{x qual:Str}{st:Stmt}{f:Addr}{fd:FuncData}{N ps:List Str}{k:Nat}{sp:Sp}(F:Fun K x qual st f fd)(S:FnScope N ps (Ao st))(len:∀vs H Q E,sp vs H Q E->vs.length=ps.length)
 (hbody:∀(cdv:Value) (z:Addr) (A:Around) (outer:List Env) (s:Shared) (H:Hp) (vs:List V) (Q:VK) (E:XK),Room k (A.deeper (envOfC qual (Ao st) s.heap.objs.size f cdv))->sp vs H Q E->
   ∃t,PSs ((Em CX0 P w K mg base N qual (Ao st) f cdv A outer s H E).mark z) (Ca st) t/\t { nx:=λ_ H'=>Q .non H',rt:=Q } (DK N vs) H):FnOkH P w K mg base CX0 (k + 1) f fd ps sp:=by
 obtain ⟨oc,od,kV,doc,pm,an,cdv,ct,osl,rfl,lk,hcd⟩:=F.ex;exact W2 lk hcd S len λz A outer s H vs Q E hr hsp=>hbody cdv z A outer s H vs Q E hr hsp
section
variable {qx:Bool}{X:Cx}{k:Nat}{f C P:Addr}{fd:FuncData}{pins:List (Addr×Obj)}{σ:St}{H:Hp}{s:Shared}{Q:Value->Shared->Prop}{us:List Value}{vs:List V}{a b:Str}{ps:List Str}{v v2:V}{u u2:Value}{n:Str}{p pos:Pos}{e e':Expr}
theorem OU {z:Addr}(M:XMk X.K C P f)(ha:XAt X.K C P a)(hab:XAt X.K C P b)(F:FnOkH X.prog X.w X.K X.mg X.base CX0 k f fd ps (IC X.K P a b))(hr:Room (k + 1) X.A)(hb:Binds X.K fd ps [])(I:Inv (X.mark z) pins σ H s)(r:RelV v u)(rr:RelV v2 u2)
 (h:∀s' x dx,Inv (X.mark z) pins σ (upd (upd H dx (.xd [(a,v),(b,v2)])) x (.ext (F2.XIs qx x C (some dx)))) s'->H x=none->H dx=none->dx≠x->s.heap.objs.size<=x->XRec true s'.heap x C (some dx) .none->Q (.ref x) s'):wpAny (model X.prog X.w) (X.mark z).A (call (.ref C) [u,u2]) Q (X.mark z).xe s:=by
 obtain ⟨nm,q,N,bs,sn,sub,ab,col,dd,k0,k1,k2,k3,k5,hC,hN⟩:=M.cl.obj I.kIn;have hni:s.heap.nsMap N "__init__" = some (.ref f):=by
  obtain ⟨cd,c1,c2⟩:=M.init;refine Hx I.kIn hN ?_;unfold clsIn at c1
  split at c1
  ·next l=>
   cases c1
   have z:=I.kIn _ _ l;rw [hC] at z
   cases z
   exact c2
  ·cases c1
 have I1:Inv (X.mark z) pins σ (upd H (s.heap.objs.size + 1) (exO (s.heap.objs.size + 1) C s.heap.objs.size)) { s with heap:=EB s.heap C [u,u2] }:=by
  refine I.laid (t':=s.toks) (λb o e=>uc4 _ (uc4 _ e)) (un1 _) (NF ?_);show ((s.heap.push _).push _).get? _=_
  heap_get
 have hx0:=I.hok.fresh (un1 s.heap.objs.size);have r2:Vals [V.ref (s.heap.objs.size + 1),v,v2] [Value.ref (s.heap.objs.size + 1),u,u2]:=.cons rfl (.cons r (.cons rr .nil));have hsp:IC X.K P a b [V.ref (s.heap.objs.size + 1),v,v2] (upd H (s.heap.objs.size + 1) (exO (s.heap.objs.size + 1) C s.heap.objs.size))
  (λw' H'=>w' = .non/\∃dx,H dx=none/\dx≠s.heap.objs.size + 1/\H'=upd (upd H dx (.xd [(a,v),(b,v2)])) (s.heap.objs.size + 1) (FT (s.heap.objs.size + 1) C s.heap.objs.size dx)) E0:=by
  refine ⟨_,C,s.heap.objs.size,v,v2,rfl,Ax,ha,hab,λdx h1 h2=>⟨rfl,dx,by rw [As h2] at h1;exact h1,h2,?_⟩⟩
  funext b
  by_cases e1:b=s.heap.objs.size + 1
  ·subst e1;rw [Ax,Ax]
  ·by_cases e2:b=dx
   ·subst e2;rw [As e1,As e1,Ax,Ax]
   ·rw [As e1,As e1,As e2,As e2,As e1]
 have hl:([Value.ref (s.heap.objs.size + 1),u,u2]++[]).length=ps.length:=by
  have e:=F.len _ _ _ _ hsp;simpa using e
 obtain ⟨hh,g,d,t,os⟩:=s;refine wpAny_call (JL ua8 (M.cl.tail I.kIn) hC hN hni ((bind_fn I.kIn _ (beq_iff_eq.mp M.fn))) (by show 2<=sizeLine;decide) ?_);refine codeAny_mono (F.run z _ X.stack _ _ ⟨[Value.ref (hh.objs.size + 1),u,u2],[]⟩ [Value.ref (hh.objs.size + 1),u,u2] _ _ E0 (hr.make C [u,u2] []) (Env0.make (A:=X.A) ⟨I1.env0.frames,I1.env0.mod,I1.env0.bs,I1.env0.bsz,I1.env0.funs,I1.env0.frf,I1.env0.hok,I1.env0.bare⟩ C [u,u2] []) (by have:=hb _ [Value.ref (hh.objs.size + 1),u,u2] I1.kIn hl;simpa using this) r2 hsp) λr s' hq'=>?_
 cases r with
 | error e=>exact hq'.elim
 | ok fl=>
   cases fl with
   | ret w'=>
     obtain ⟨v',H',I3,rv,rfl,dx,d1,d2,rfl⟩:=I1.after hq';refine ⟨rv,?_⟩;have hx:=(I3.hok (hh.objs.size + 1) _ Ax).1;have hx:s'.heap.get? (hh.objs.size + 1)=some { excObj C hh.objs.size with dict:=some dx }:=hx;have xr:XRec true s'.heap (hh.objs.size + 1) C (some dx) .none:=⟨_,_,hx,rfl,rfl,rfl,rfl,λ_=>⟨rfl,by show 4 < 6;decide⟩⟩;have I4:=I3.write (x:=hh.objs.size + 1) (e:=hh.objs.size + 1) (o:=.ext (F2.XIs qx (hh.objs.size + 1) C (some dx))) (h':=s'.heap) (t':=s'.toks) (by rw [Ax];trivial) (.inl rfl) (λ_ _ _ z=>z) ⟨_,hx⟩ (Ic xr.to.is);rw [L7] at I4;exact h s' (hh.objs.size + 1) dx I4 hx0 d1 d2 (un1 _) xr
   | next=>exact False.elim hq'
   | brk=>exact False.elim hq'
   | cont=>exact False.elim hq'
theorem VW {z:Addr}{t:TA}(M:XMk X.K C P f)(ha:XAt X.K C P a)(hab:XAt X.K C P b)(F:FnOkH X.prog X.w X.K X.mg X.base CX0 k f fd ps (IC X.K P a b))(hr:Room (k + 1) X.A)(hb:Binds X.K fd ps [])(hg:Gl (X.mark z) n)(hm:X.mg n=some (.ref C))(hA:PA (X.mark z) [e,e'] t)
 (hdb:(n == ("__debug__" : Str))=false:=by decide) (h1:starEach [e,e'] X.env=(false,eval e X.env) :: starEach [e'] X.env:=by rfl) (hpl:(backTo pos (starEach [e'] X.env)).any (·.1)=false:=by rfl) :
 PM qx (X.mark z) (.Call (.Name n p) [e,e'] [] pos) C (λσ H Q=>t σ H λvs H1=>∃v u,vs=[v,u]/\∀x dx,H1 x=none->H1 dx=none->dx≠x->Q x (some dx) (upd (upd H1 dx (.xd [(a,v),(b,u)])) x (.ext (F2.XIs qx x C (some dx))))):=by
 intro pins s σ H Q I h;refine wpAny_Call_Name_kw (D9 I hg hm ?_ hdb);refine uf4 (h₀:=X.base) I.ok.mod.kin M.kp (thn (hA pos pins s σ H _ I h) λus s1 z9=>?_) h1 hpl;obtain ⟨vs,H1,I1,r,v,u,ev,q⟩:=z9;refine ⟨I1.kIn,?_⟩;subst ev
 cases r with
 | cons r0 rs=>
   cases rs with
   | cons r1 rs=>
     cases rs
     exact OU (X:=X) (z:=z) M ha hab F hr hb I1 r0 r1 λs' x dx I' hx hdx ne nx rc=>⟨x,some dx,_,rfl,I',Ax,ul7 I1.sz nx,rc,q x dx hx hdx ne⟩
end
end L2
namespace F2
open PySem L2 PySem.Spec PySem.W
section
variable {X:Cx}{pos p p2 p3 p4:Pos}{P:Addr}{ca:Str->Addr}{E:XK}{e e' cN:Expr}
def SW (prog:Program)(w:World)(K:PySem.W.Frag)(mg:Str->Option Value)(base:Heap)(C P:Addr):Prop:=
 ∃(f:Addr) (fd:FuncData) (ps:List Str),XMk K C P f/\XAt K C P "at"/\XAt K C P "side"/\Binds K fd ps []/\FnOkH prog w K mg base CX0 1 f fd ps (IC K P "at" "side")
theorem YF {n' v:Str}{C':Addr}{bm':List Value}{i:Nat}{rest:List ExceptHandler}{f:M (List D)}{r:D->M Out}(x:XM X.K X.mg P ca)(xn:SW X.prog X.w X.K X.mg X.base (ca "Broken") P)(h1:X.stack=X.env :: X.outer)(h2:X.env.frame=some X.env.locals)(hr:L2.Room 2 X.A)
 (hg:Gl X n') (hm:X.mg n'=some (.ref C')) (c':XCl X.K C' bm') (hs:∀n∈Cp,(Value.ref (ca n) :: .ref P :: VE).contains (.ref C')=Fu n n')
 (hN:X.N.Nodup) (hi:X.N[i]?=some v) (hl:X.env.scope.names.lookup v=some .local) (hx:IM X (λ_=>E)) (hgB:Gl X "Broken") (ha:∀x,PA (X.mark x) [e,e'] (RA X.K f))
 (hz:∀(A:Around) (s:Shared) (Q:Value->Shared->Prop) (E:Value->Shared->Prop),Q Value.none s->wpAny (model X.prog X.w) A (eval cN X.env) Q E s)
 (hrest:PH true X rest (RH X.K ca (μX X.K E) r)) (hdb:(n' == ("__debug__" : Str))=false:=by decide) (hs1:Cv e=false:=by rfl) (hs2:CH [e']=true:=by rfl) :
 PH true X (.ExceptHandler (some (.Name n' p)) (some v) [.Raise (some (.Call (.Name "Broken" p3) [e,e'] [] p4)) (some cN) p2] pos :: rest) (RH X.K ca (μX X.K E) (hAs n' i (Fs "Broken" f) r)):=by
 obtain ⟨fa,fd,ps,M,A,A2,B,F⟩:=xn;have hnB:("Broken" : Str)∈Cp:=by decide
 intro pins s0 σ H y C dx T D I o q;refine YS h1 h2 hg hm c' hN hi hl M.cl (λz=>VW M A A2 F hr B hgB (x.ms _ hnB) (ha z) (by decide) (Ct hs1) (Ci hs2).1) hx hz hrest hdb pins s0 σ H y C dx T D I o ?_;obtain ⟨Oo,c,t,n,ds,fi,hn,rfl,rv,o1,t',eq,k⟩:=q;refine ⟨_,x.cl n hn,?_⟩;rw [hs n hn];unfold hAs at eq;dsimp only at eq
 by_cases hb':Fu n n'=true
 ·rw [if_pos hb'] at eq ⊢
  cases e1:Fs "Broken" f { t with env:=t.env.set i (some (.val (.exc n ds))) } with
  | none=>rw [e1] at eq;cases eq
  | some z=>
    obtain ⟨o2,t2⟩:=z;rw [e1] at eq
    cases eq
    obtain ⟨es,t1,e2,e1⟩:=Aw e1;have hny:¬c.A y:=by cases rv with | exc _ _ hA _ _=>exact hA
    refine ⟨Oo,c,_,fi.set rv,es,t1,e2,λvs H1 c1 f1 s1 rvs=>?_⟩;rcases es with _ | ⟨d,_ | ⟨d',_ | ⟨_,_⟩⟩⟩
    ·cases e1
    ·cases e1
    ·cases rvs with
     | @cons v0 _ _ _ r0 rs=>
     cases rs with
     | @cons v1 _ _ _ r1 rs=>
     cases rs
     cases e1
     refine ⟨_,_,rfl,λu du hu hdu ne=>?_⟩;have hy1:H1 y=some (.ext (XIs true y (ca n) dx)):=s1.ext.keep _ _ o.hx hny;have nyu:y≠u:=λz=>by rw [z,hu] at hy1;cases hy1
     have nyd:y≠du:=λz=>by rw [z,hdu] at hy1;cases hy1
     have f2:=f1.laid (o:=.xd [("at",v0),("side",v1)]) hdu;have hu2:upd H1 du (.xd [("at",v0),("side",v1)]) u=none:=by rw [As (Ne.symm ne)];exact hu
     have f3:=f2.laid (o:=.ext (XIs false u (ca "Broken") (some du))) hu2;have ex:=(f1.stp_laid (o:=.xd [("at",v0),("side",v1)]) hdu).ext.trans (f2.stp_laid (o:=.ext (XIs false u (ca "Broken") (some du))) hu2).ext;have s3:=s1.trans ((f1.stp_laid (o:=.xd [("at",v0),("side",v1)]) hdu).trans (f2.stp_laid (o:=.ext (XIs false u (ca "Broken") (some du))) hu2));refine ⟨Ne.symm nyu,by rw [As nyu,As nyd];exact hy1,?_⟩;refine k _ _ c1 (f3.unset i) s3 (.ref u) (.exc (x.ns _ hnB) Ax (f2.s.free hu2) ?_ (.cons (r0.mono ex) (.cons (r1.mono ex) .nil))) u (some du) rfl;exact ⟨by rw [As ne,Ax];rfl,f1.s.free hdu⟩
    ·cases e1
 ·rw [if_neg hb'] at eq ⊢;exact ⟨Oo,c,t,n,ds,fi,hn,rfl,rv,o1,t',eq,k⟩
end
theorem Rw {prog:Program}{w:World}{K:PySem.W.Frag}{mg:Str->Option Value}{base:Heap}{C P:Addr}{qual:Str}{st:Stmt}{p1 p2 p3 p4 p5 p6 p7 p8:Pos}(hbd:Ca st=[.Assign [.Attribute (.Name "self" p1) "at" p2] (.Name "at" p3) p4,.Assign [.Attribute (.Name "self" p5) "side" p6] (.Name "side" p7) p8])(S:FnScope ["self", "at", "side"] ["self", "at", "side"] (Ao st))
 (s1:(Ao st).names.lookup ("self" : Str)=some NameKind.local) (s2:(Ao st).names.lookup ("at" : Str)=some NameKind.local) (s3:(Ao st).names.lookup ("side" : Str)=some NameKind.local) (x:XF2 K C P qual st):SW prog w K mg base C P:=by
 obtain ⟨f,fd,M,A,A2,B,F⟩:=x;refine ⟨f,fd,_,M,A,A2,B,F.okH (k:=0) S (λvs H Q E h=>?_) λcdv z A' outer s H vs Q E hr h=>?_⟩
 ·obtain ⟨y,C',tp,v,u,rfl,_⟩:=h;rfl
 ·rw [hbd];refine ⟨_,JX (Qv (P:=P) (DB (i:=0) rfl (.inl s1) (by decide) (by decide)) (DB (i:=1) rfl (.inl s2) (by decide) (by decide)) rfl) (G6 (Sk (P:=P) (f1:="at") (by decide) (DB (i:=0) rfl (.inl s1) (by decide) (by decide)) (DB (i:=2) rfl (.inl s3) (by decide) (by decide)) rfl)),?_⟩;obtain ⟨y,C',tp,v,u,rfl,hy,ha,ha2,k⟩:=h;refine ⟨v,rfl,.ref y,rfl,y,C',tp,rfl,hy,ha,λdx h1 h2=>⟨u,rfl,.ref y,rfl,y,C',tp,dx,v,rfl,Ax,by rw [As h2,Ax],h2,ha2,?_⟩⟩;have z:=k dx h1 h2;have e:upd (upd (upd H dx (.xd [("at",v)])) y (FT y C' tp dx)) dx (.xd [("at",v),("side",u)])=upd (upd H dx (.xd [("at",v),("side",u)])) y (FT y C' tp dx):=by
   funext b
   by_cases e1:b=dx
   ·subst e1;rw [Ax,As h2,Ax]
   ·by_cases e2:b=y
    ·subst e2;rw [As e1,Ax,Ax]
    ·rw [As e1,As e2,As e1,As e2,As e1]
  rw [e];exact z
end F2
namespace L2
open PySem PySem.Spec PyProof.Rows
section
variable {prog:Program}{w:World}{A:Around}{E:Value->Shared->Prop}{s:Shared}
variable {I:Addr}{fp wr:List Addr}{G:Array GenState->Array GenState->Prop}{n:Nat}{P:Nat->Value->Prop}{St:Nat->Shared->Prop}
def bt (prog:Program)(w:World)(h:Heap)(no:List Addr)(k:Key)(x v:Value):Prop:=∃(p:Addr) (o:Obj) (kv:Value) (q:Nat),v = .ref p/\p∉no/\h.get? p=some o/\o.cls = .type "tuple"/\o.data = .seq #[kv,x] q/\(CV prog w).is k kv=true
end
section
variable {X:Cx}
end
end L2
namespace F2
open PySem L2 PySem.Spec PyProof.Rows
section
variable {X:Cx}{pos:Pos}{e:Expr}
end
end F2
namespace L2
open PySem PySem.Spec PyProof.Rows
def T8 (neg:Bool):R2:=λx y H Q=>∃a kvs k,x = .str k/\y = .ref a/\H a=some (.dK kvs)/\Q (.bl (if neg then !(EG kvs (Sum.inr k:Key)).isSome else (EG kvs (Sum.inr k:Key)).isSome)) H
section
variable {X:Cx}
theorem Xn (hu:X.A.units + 64 < cLine):OpR X (compareOp .In) (T8 false):=by
 intro pins s σ H x y v u Q I rx ry h;obtain ⟨a,kvs,k,rfl,rfl,e,q⟩:=h
 cases ry
 exact ZZ (by lia) I (DGet.k (k:=(Sum.inr k:Key)) e) rx λs' I'=>⟨.bl _,H,I',rfl,q⟩
theorem Sc (hu:X.A.units + 64 < cLine):OpR X (compareOp .NotIn) (T8 true):=by
 intro pins s σ H x y v u Q I rx ry h;obtain ⟨a,kvs,k,rfl,rfl,e,q⟩:=h
 cases ry
 exact U2 (by lia) I (DGet.k (k:=(Sum.inr k:Key)) e) rx λs' I'=>⟨.bl _,H,I',rfl,q⟩
theorem P4:Du X (.type "dict") (λxs H Q=>∃(p:Addr) (kvs:List (Key×V)),xs=[.ref p]/\H p=some (.dK kvs)/\∀l,H l=none->Q (.ref l) (upd H l (.dK kvs))):=by
 intro pins s σ H xs us0 Q I r h;obtain ⟨p,kvs,rfl,e,q⟩:=h;obtain ⟨u,rfl,rx⟩:=F5 r
 cases rx
 obtain ⟨hz,hp,vs,rel,dd⟩:=MW I.hok e;refine kt_call_dict hp dd (by rw [<-rel.length];exact hz) λh' hD sb=>?_;have nm:(s.heap.objs.size == sysModules)=false:=by
  have:=I.big;rw [beq_eq_false_iff_ne];exact ul8 this
 have hk:∀b o,s.heap.get? b=some o->h'.get? b=some o:=λb o eb=>by
  rw [sb.2 b (ul6 (ul5 eb))];exact uc4 _ eb
 exact ⟨.ref s.heap.objs.size,_,I.laid (t':=s.toks) hk (um9 _) (NE hz nm rel hD),rfl,q _ (I.hok.fresh (um9 _))⟩
end
end L2
namespace F2
open PySem L2 PySem.Spec PyProof.Rows
def inS (neg:Bool):D->D->M D
 | .str k,.obj n=>λt=>match t.S[n]? with
   | some (.dct kvs)=>some (.bl (if neg then !(B5 kvs (.inr k)).isSome else (B5 kvs (.inr k)).isSome),t)
   | _=>none
 | _,_=>fail
def Ky:List D->M D
 | [.obj n]=>λt=>match t.S[n]? with
   | some (.dct kvs)=>some (.obj t.S.length,{ t with S:=t.S++[.dct kvs] })
   | _=>none
 | _=>fail
section
variable {K:PySem.W.Frag}
theorem Pv {neg:Bool}:Ck K (T8 neg) (inS neg):=λ{Oo c t σ H x y dx dy r t' Q} f rx ry eq k=>by
 unfold inS at eq
 split at eq
 ·next z n=>
  cases rx
  cases ry with
  | @obj a kk hk=>
    split at eq
    ·next kvs es=>
     cases eq
     obtain ⟨us,g1,g2⟩:=f.s.obs _ a _ hk es;refine ⟨a,us,z,rfl,rfl,g1,?_⟩;rw [g2.has];exact k _ H c f .refl (.bl _)
    ·cases eq
 ·cases eq
end
section
variable {X:Cx}{pos:Pos}{e:Expr}
theorem Ti {f:M (List D)}{p:Pos}(hg:Gl X "dict")(hm:X.mg "dict" = none)(ha:PA X [e] (RA X.K f))(h1:Cv e=false:=by rfl) :
 PE X (.Call (.Name "dict" p) [e] [] pos) (RE X.K (fB f Ky)):=
 BP (Iu P4 hg hm (by decide +kernel) ha (by decide) (by decide) (Ct h1) rfl) λσ H Q z9=>by
  obtain ⟨Oo,c,t,fi,r,t',eq,k⟩:=z9;obtain ⟨as,t1,e1,eq⟩:=Aw eq;unfold Ky at eq
  split at eq
  ·next n=>
   split at eq
   ·next kvs es=>
    cases eq
    refine ⟨Oo,c,t,fi,_,_,e1,λvs H1 c1 f1 s1 rv=>?_⟩;obtain ⟨v,rfl,rw1⟩:=EU rv
    cases rw1 with
    | @obj a kk hk=>
    obtain ⟨us,g1,g2⟩:=f1.s.obs _ a _ hk es;refine ⟨a,us,rfl,g1,λl hnl=>?_⟩;obtain ⟨c2,f2,s2,eo⟩:=f1.newObj (o:=.dct kvs) (u:=.dK us) hnl λc' H' ex hu=>⟨_,hu,g2.mono ex⟩;exact k _ _ c2 f2 (s1.trans s2) (.obj eo)
   ·cases eq
  ·cases eq
end
end F2
namespace F2
open PySem L2 PySem.Spec PySem.W
theorem LB {P:Program}{w:World}{K:PySem.W.Frag}{mg:Str->Option Value}{base:Heap}{x qual:Str}{st:Stmt}{fa:Addr}{fd:FuncData}{N ps:List Str}{k n m:Nat}{g:M Out}(e1:ps.length=n)(e2:N.length=m)(F:Fun K x qual st fa fd)(S:FnScope N ps (Ao st))
 (hb:∀(cdv:Value) (A:Around) (outer:List Env) (s:Shared) (H:Hp) (E:XK),L2.Room k (A.deeper (PyProof.Rows.envOfC qual (Ao st) s.heap.objs.size fa cdv))->
   F7 (CX1 false P w) (cxX false P w K mg base N qual (Ao st) fa cdv A outer s H E) (λ_=>E)->Gf false (cxX false P w K mg base N qual (Ao st) fa cdv A outer s H E) (λ_=>E)->
   PassesOwn (model P w) (cxX false P w K mg base N qual (Ao st) fa cdv A outer s H E).A (cxX false P w K mg base N qual (Ao st) fa cdv A outer s H E).env (cxX false P w K mg base N qual (Ao st) fa cdv A outer s H E).xe->
   IM (cxX false P w K mg base N qual (Ao st) fa cdv A outer s H E) (λ_=>E)->
   PSs (cxX false P w K mg base N qual (Ao st) fa cdv A outer s H E) (Ca st) (RSg K (μX K E) g)):FnOk P w K mg base (CX1 false P w) (k + 1) fa fd ps (spX K (fnOf n m g)):=
 C4 e1 e2 F S λcdv A outer s H E hr h1 h2 h3=>hb cdv A outer s H E hr h1 h2 h3 XE.raisesT
theorem Vj {M:Model}{env:Env}{j:Nat}{pos:Pos}:∀(A:Around) (s:Shared) (Q:Value->Shared->Prop) (E:Value->Shared->Prop),Q Value.none s->wpAny M A (eval (.Constant .none j pos) env) Q E s:=λA s Q E h=>un5 h
section
variable {X:Cx}
end
end F2
namespace LW
open PySem L2 F2
def FM:M Out:=
 (AJ (FX (fB (Ac (Ad 0) (Ac (fC (.ty "int")) Aj)) Es) (KC (fB (Ac (Ad 0) (Ac (fC (.ty "bool")) Aj)) Es))))
def Dy (Nr:Fn):M Out:=
 (AJ (FX (Ar Nr (Ac (Ad 0) Aj)) (Gj (Ad 1) (Ad 0) (Ad 2) leA leA)))
def KM (Ls Np No Nq Eb:Fn):M Out:=
 (Aq (A9 2 (Ah (Ad 0) (fC (.int 0)) ixD))
 (Aq (ifS (AQ (Ah (Ad 2) (fC (.str "nothing")) (eqS id)))
   (AJ (Ah (Ad 1) (fC .non) isC))
   AX)
 (Aq (ifS (AQ (Ah (Ad 2) (fC (.str "number")) (eqS id)))
   (AJ (Ar Eb (Ac (Ad 1) (Ac (Ah (Ad 0) (fC (.int 1)) ixD) (Ac (Ah (Ad 0) (fC (.int 2)) ixD) Aj)))))
   AX)
 (Aq (ifS (AQ (Ah (Ad 2) (fC (.str "text")) (eqS id)))
   (AJ (Ar Nq (Ac (Ad 0) (Ac (Ad 1) Aj))))
   AX)
 (Aq (ifS (AQ (Ah (Ad 2) (fC (.str "list")) (eqS id)))
   (AJ (Ar No (Ac (Ad 0) (Ac (Ad 1) Aj))))
   AX)
 (Aq (ifS (AQ (Ah (Ad 2) (fC (.str "pair")) (eqS id)))
   (AJ (Ar Np (Ac (Ad 0) (Ac (Ad 1) Aj))))
   AX)
 (AJ (Ar Ls (Ac (Ad 0) (Ac (Ad 1) Aj))))))))))
def FL (Hg:Fn):M Out:=
 (Aq (ifS (fOr (Dr (AQ (fB (Ac (Ad 1) (Ac (fC (.ty "str")) Aj)) Es))) (AQ (Ah (fB (Ac (Ad 1) Aj) B9) (Ah (Ad 0) (fC (.int 1)) ixD) gtA)))
   (AJ (fC (.bl false)))
   AX)
 (Aq (C9 (Gk (Ad 1)) (By 2)
   (ifS (Dr (AQ (Ar Hg (Ac (fB (Ac (Ad 2) Aj) LP) Aj))))
   (AJ (fC (.bl false)))
   AX))
 (AJ (fC (.bl true)))))
def GI:M Out:=
 (AJ (FX (Gj (fC (.int 32)) (Ad 0) (fC (.int 126)) leA leA) (Ah (Ad 0) (fC (.int 37)) (eqS λb=>!b))))
def FJ (D5:Fn):M Out:=
 (Aq (ifS (fOr (Dr (AQ (fB (Ac (Ad 1) (Ac (fC (.ty "list")) Aj)) Es))) (AQ (Ah (fB (Ac (Ad 1) Aj) B9) (Ah (Ad 0) (fC (.int 2)) ixD) gtA)))
   (AJ (fC (.bl false)))
   AX)
 (Aq (C9 (Gk (Ad 1)) (By 2)
   (ifS (Dr (AQ (Ar D5 (Ac (Ah (Ad 0) (fC (.int 1)) ixD) (Ac (Ad 2) Aj)))))
   (AJ (fC (.bl false)))
   AX))
 (AJ (fC (.bl true)))))
def FK (D5:Fn):M Out:=
 (Aq (ifS (fOr (Dr (AQ (fB (Ac (Ad 1) (Ac (fC (.ty "tuple")) Aj)) Es))) (AQ (Ah (fB (Ac (Ad 1) Aj) B9) (fC (.int 2)) (eqS λb=>!b))))
   (AJ (fC (.bl false)))
   AX)
 (AJ (FX (Ar D5 (Ac (Ah (Ad 0) (fC (.int 1)) ixD) (Ac (Ah (Ad 1) (fC (.int 0)) ixD) Aj))) (Ar D5 (Ac (Ah (Ad 0) (fC (.int 2)) ixD) (Ac (Ah (Ad 1) (fC (.int 1)) ixD) Aj))))))
def EO (D5 Eb:Fn):M Out:=
 (Aq (ifS (fOr (Dr (AQ (fB (Ac (Ad 1) (Ac (fC (.ty "tuple")) Aj)) Es))) (AQ (Ah (fB (Ac (Ad 1) Aj) B9) (fC (.int 3)) (eqS λb=>!b))))
   (AJ (fC (.bl false)))
   AX)
 (Aq (ifS (fOr (Dr (AQ (fB (Ac (Ah (Ad 1) (fC (.int 0)) ixD) (Ac (fC (.ty "str")) Aj)) Es))) (AQ (Ah (Ah (Ad 1) (fC (.int 0)) ixD) (fC (.str "of")) (eqS λb=>!b))))
   (AJ (fC (.bl false)))
   AX)
 (Aq (ifS (Dr (AQ (Ar Eb (Ac (Ah (Ad 1) (fC (.int 1)) ixD) (Ac (fC (.int 0)) (Ac (Ah (fB (Ac (Ah (Ad 0) (fC (.int 1)) ixD) Aj) B9) (fC (.int 1)) Dn) Aj))))))
   (AJ (fC (.bl false)))
   AX)
 (AJ (Ar D5 (Ac (Ah (Ah (Ad 0) (fC (.int 1)) ixD) (Ah (Ad 1) (fC (.int 1)) ixD) ixD) (Ac (Ah (Ad 1) (fC (.int 2)) ixD) Aj)))))))
def Fq:M Out:=
 (AJ (Ah (Ah (Ah (Ah (Ad 0) (Ah (Ad 1) (fC (.int 0)) ixD) ixD) (fC (.int 1)) ixD) (Ah (Ad 1) (fC (.int 1)) ixD) ixD) (fC (.int 2)) ixD))
def Fo (D5 Lu:Fn):M Out:=
 (Aq (ifS (fOr (Dr (AQ (fB (Ac (Ad 1) (Ac (fC (.ty "tuple")) Aj)) Es))) (AQ (Ah (fB (Ac (Ad 1) Aj) B9) (fC (.int 3)) (eqS λb=>!b))))
   (AJ (fC .non))
   AX)
 (Aq (ifS (fOr (Dr (AQ (fB (Ac (Ah (Ad 1) (fC (.int 0)) ixD) (Ac (fC (.ty "str")) Aj)) Es))) (AQ (Ah (Ah (Ad 1) (fC (.int 0)) ixD) (Ah (Ad 0) (fC (.int 0)) ixD) (eqS λb=>!b))))
   (AJ (fC .non))
   AX)
 (Aq (A9 2 (Ar Lu (Ac (Ad 0) (Ac (Ah (Ad 1) (fC (.int 1)) ixD) Aj))))
 (Aq (ifS (fOr (AQ (Ah (Ad 2) (fC .non) isC)) (Dr (AQ (Ar D5 (Ac (Ah (Ah (Ah (Ad 0) (fC (.int 1)) ixD) (Ad 2) ixD) (fC (.int 1)) ixD) (Ac (Ah (Ad 1) (fC (.int 2)) ixD) Aj))))))
   (AJ (fC .non))
   AX)
 (AJ (Ad 2))))))
def EQ (OJ:Fn):M Out:=
 (Aq (ifS (Dr (AQ (fB (Ac (Ad 1) (Ac (fC (.ty "str")) Aj)) Es)))
   (AJ (fC .non))
   AX)
 (Aq (A9 2 (Ar OJ (Ac (Ad 0) Aj)))
 (Aq (C9 (CJ (Ac (fB (Ac (Ad 2) Aj) B9) Aj)) (By 3)
   (ifS (AQ (Ah (Ah (Ah (Ad 2) (Ad 3) ixD) (fC (.int 0)) ixD) (Ad 1) (eqS id)))
   (AJ (Ad 3))
   AX))
 (AJ (fC .non)))))
def F1 (Q3:Fn):M Out:=
 (AJ (fIf (AQ (Ar Q3 (Ac (Ad 0) Aj))) (B4 Aj) (Ah (Ad 0) (fC (.int 1)) ixD)))
def Hu:M Out:=
 (AJ (Ah (Ah (Ad 0) (fC (.int 0)) ixD) (fC (.str "end")) (eqS id)))
def Ek (Cl Fv Ku:Fn):M Out:=
 (Aq (A9 2 (Ah (Ad 0) (fC (.int 0)) ixD))
 (Aq (ifS (AQ (Ah (Ad 2) (fC (.str "nothing")) (eqS id)))
   (Iz (BJ Aj))
   AX)
 (Aq (ifS (AQ (Ah (Ad 2) (fC (.str "number")) (eqS id)))
   (Iz (EJ Ku (Ac (Ah (Ad 1) (Ah (Ad 0) (fC (.int 1)) ixD) Dn) (Ac (Ar Fv (Ac (Ah (Ah (Ad 0) (fC (.int 2)) ixD) (Ah (Ad 0) (fC (.int 1)) ixD) Dn) Aj)) Aj))))
   AX)
 (Aq (ifS (AQ (Ah (Ad 2) (fC (.str "text")) (eqS id)))
   (Iz (bnd (Bb (BJ (Ac (fB (Ac (Ad 1) Aj) B9) Aj))) λx=>bnd (Bb (DX 1 [] (Gk (Ad 1)) (By 0) EF (fB (Ac (Ad 0) Aj) LP))) λy=>JD x y))
   AX)
 (Aq (ifS (AQ (Ah (Ad 2) (fC (.str "list")) (eqS id)))
   (Aq (EY 3 (BJ (Ac (fB (Ac (Ad 1) Aj) B9) Aj)))
 (Aq (C9 (Gk (Ad 1)) (By 4)
   (ownM 3 Hj (Ac (Bb (EJ Cl (Ac (Ah (Ad 0) (fC (.int 1)) ixD) (Ac (Ad 4) Aj)))) Aj)))
 (IB 3)))
   AX)
 (Aq (ifS (AQ (Ah (Ad 2) (fC (.str "pair")) (eqS id)))
   (Iz (bnd (Bb (EJ Cl (Ac (Ah (Ad 0) (fC (.int 1)) ixD) (Ac (Ah (Ad 1) (fC (.int 0)) ixD) Aj)))) λx=>bnd (Bb (EJ Cl (Ac (Ah (Ad 0) (fC (.int 2)) ixD) (Ac (Ah (Ad 1) (fC (.int 1)) ixD) Aj)))) λy=>JD x y))
   AX)
 (Iz (bnd (Bb (BJ (Ac (Ah (Ad 1) (fC (.int 1)) ixD) Aj))) λx=>bnd (Bb (EJ Cl (Ac (Ah (Ah (Ad 0) (fC (.int 1)) ixD) (Ah (Ad 1) (fC (.int 1)) ixD) ixD) (Ac (Ah (Ad 1) (fC (.int 2)) ixD) Aj)))) λy=>JD x y))))))))
def ES:M Out:=
 (AJ (Ah (Ah (fUn (Ad 0) MU) (fC (.int 7)) Bp) (fC (.int 8)) Hk))
def Ez (Hh:Fn):M Out:=
 (Iz (DX 1 [0,1] (FY (Ac (fC (.int 1)) (Ac (Ah (Ad 1) (fC (.int 1)) Bp) Aj))) (By 0) EF (Ah (Ar Hh (Ac (Ad 1) (Ac (Ah (Ad 2) (Ad 0) Dn) Aj))) (fC (.int 256)) Gu)))
def GK:M Out:=
 (AJ (Ah (Ad 0) (Ah (fC (.int 8)) (Ad 1) Fy) QE))
def Dz (Lv Nu Nt Nv Lw:Fn):M Out:=
 (Aq (A9 3 (Ah (Ad 0) (fC (.int 0)) ixD))
 (Aq (ifS (AQ (Ah (Ad 3) (fC (.str "nothing")) (eqS id)))
   (AJ (nxD (B4 (Ac (fC .non) (Ac (Ad 2) Aj)))))
   AX)
 (Aq (ifS (AQ (Ah (Ad 3) (fC (.str "number")) (eqS id)))
   (AJ (Ar Lw (Ac (Ad 0) (Ac (Ad 1) (Ac (Ad 2) Aj)))))
   AX)
 (Aq (ifS (AQ (Ah (Ad 3) (fC (.str "text")) (eqS id)))
   (AJ (Ar Nv (Ac (Ad 0) (Ac (Ad 1) (Ac (Ad 2) Aj)))))
   AX)
 (Aq (ifS (AQ (Ah (Ad 3) (fC (.str "list")) (eqS id)))
   (AJ (Ar Nt (Ac (Ad 0) (Ac (Ad 1) (Ac (Ad 2) Aj)))))
   AX)
 (Aq (ifS (AQ (Ah (Ad 3) (fC (.str "pair")) (eqS id)))
   (AJ (Ar Nu (Ac (Ad 0) (Ac (Ad 1) (Ac (Ad 2) Aj)))))
   AX)
 (AJ (Ar Lv (Ac (Ad 0) (Ac (Ad 1) (Ac (Ad 2) Aj)))))))))))
def Fm:M Out:=
 (Aq (ifS (AQ (Ah (Ad 1) (fB (Ac (Ad 0) Aj) B9) geA))
   (Iy "Short" (Ac (fC (.str "the bytes end within a value")) Aj))
   AX)
 (AJ (nxD (Ah (Ad 0) (Ad 1) ixD))))
def Ef (Fd:Fn):M Out:=
 (Aq (D1 3 (Ar Fd (Ac (Ad 1) (Ac (Ad 2) Aj))))
 (Aq (ifS (AQ (Ah (Ad 3) (Ad 0) gtA))
   (Fs "Broken" (Ac (Ad 2) (Ac (fC .non) Aj)))
   AX)
 (AJ (nxD (Ad 3)))))
def Dm (Hh Fd Fv:Fn):M Out:=
 (Aq (A9 3 (Ah (Ah (Ad 0) (fC (.int 2)) ixD) (Ah (Ad 0) (fC (.int 1)) ixD) Dn))
 (Aq (A9 4 (Ar Fv (Ac (Ad 3) Aj)))
 (Aq (A9 5 (fC (.int 0)))
 (Aq (C9 (CJ (Ac (Ad 4) Aj)) (By 6)
   (Aq (D1 5 (KB (Ah (Ad 5) (fC (.int 256)) Fy) (Ar Fd (Ac (Ad 1) (Ac (Ah (Ad 2) (Ad 6) Bp) Aj))) Bp))
 (ifS (AQ (Ah (Ad 5) (Ar Hh (Ac (Ad 3) (Ac (Ah (Ah (Ad 4) (fC (.int 1)) Dn) (Ad 6) Dn) Aj))) gtA))
   (Fs "Broken" (Ac (Ah (Ad 2) (Ad 6) Bp) (Ac (fC .non) Aj)))
   AX)))
 (AJ (nxD (B4 (Ac (Ah (Ah (Ad 0) (fC (.int 1)) ixD) (Ad 5) Bp) (Ac (Ah (Ad 2) (Ad 4) Bp) Aj)))))))))
def DR (P1 D3:Fn):M Out:=
 (Aq (D1 3 (Ar D3 (Ac (Ah (Ad 0) (fC (.int 1)) ixD) (Ac (Ad 1) (Ac (Ad 2) Aj)))))
 (Aq (A9 4 (Ah (Ad 2) (fC (.int 1)) Bp))
 (Aq (A9 5 (fC (.str "")))
 (Aq (C9 (CJ (Ac (Ad 3) Aj)) (By 6)
   (D1 5 (KB (Ad 5) (Ar P1 (Ac (Ad 1) (Ac (Ah (Ad 4) (Ad 6) Bp) Aj))) Bp)))
 (AJ (nxD (B4 (Ac (Ad 5) (Ac (Ah (Ad 4) (Ad 3) Bp) Aj)))))))))
def Fp (Hg Fd:Fn):M Out:=
 (Aq (D1 2 (Ar Fd (Ac (Ad 0) (Ac (Ad 1) Aj))))
 (Aq (ifS (Dr (AQ (Ar Hg (Ac (Ad 2) Aj))))
   (Fs "Broken" (Ac (Ad 1) (Ac (fC .non) Aj)))
   AX)
 (AJ (nxD (Ah (fC (.str " !\"#$ &'()*+,-./0123456789:;<=>?@ABCDEFGHIJKLMNOPQRSTUVWXYZ[\\]^_`abcdefghijklmnopqrstuvwxyz{|}~")) (Ah (Ad 2) (fC (.int 32)) Dn) ixD)))))
def DP (CO D3:Fn):M Out:=
 (Aq (D1 3 (Ar D3 (Ac (Ah (Ad 0) (fC (.int 2)) ixD) (Ac (Ad 1) (Ac (Ad 2) Aj)))))
 (Aq (A9 4 (Ah (Ad 2) (fC (.int 1)) Bp))
 (Aq (EY 5 (BJ Aj))
 (Aq (C9 (CJ (Ac (Ad 3) Aj)) (By 6)
   (Aq (D1 7 (Ar CO (Ac (Ah (Ad 0) (fC (.int 1)) ixD) (Ac (Ad 1) (Ac (Ad 4) Aj)))))
 (Aq (ownM 5 DW (Ac (Ah (Ad 7) (fC (.int 0)) ixD) Aj))
 (A9 4 (Ah (Ad 7) (fC (.int 1)) ixD)))))
 (AJ (nxD (B4 (Ac (Ad 5) (Ac (Ad 4) Aj)))))))))
def DQ (CO:Fn):M Out:=
 (Aq (D1 3 (Ar CO (Ac (Ah (Ad 0) (fC (.int 1)) ixD) (Ac (Ad 1) (Ac (Ad 2) Aj)))))
 (Aq (D1 4 (Ar CO (Ac (Ah (Ad 0) (fC (.int 2)) ixD) (Ac (Ad 1) (Ac (Ah (Ad 3) (fC (.int 1)) ixD) Aj)))))
 (AJ (nxD (B4 (Ac (B4 (Ac (Ah (Ad 3) (fC (.int 0)) ixD) (Ac (Ah (Ad 4) (fC (.int 0)) ixD) Aj))) (Ac (Ah (Ad 4) (fC (.int 1)) ixD) Aj)))))))
def Dl (CO D3:Fn):M Out:=
 (Aq (D1 3 (Ar D3 (Ac (Ah (fB (Ac (Ah (Ad 0) (fC (.int 1)) ixD) Aj) B9) (fC (.int 1)) Dn) (Ac (Ad 1) (Ac (Ad 2) Aj)))))
 (Aq (D1 4 (Ar CO (Ac (Ah (Ah (Ad 0) (fC (.int 1)) ixD) (Ad 3) ixD) (Ac (Ad 1) (Ac (Ah (Ad 2) (fC (.int 1)) Bp) Aj)))))
 (AJ (nxD (B4 (Ac (B4 (Ac (fC (.str "of")) (Ac (Ad 3) (Ac (Ah (Ad 4) (fC (.int 0)) ixD) Aj)))) (Ac (Ah (Ad 4) (fC (.int 1)) ixD) Aj)))))))
def El (Cl:Fn):M Out:=
 (AJ (Ah (Bb (BJ (Ac (Ad 1) Aj))) (Bb (EJ Cl (Ac (Ah (Ah (Ah (Ad 0) (fC (.int 1)) ixD) (Ad 1) ixD) (fC (.int 1)) ixD) (Ac (Ad 2) Aj)))) Bp))
def Dw:M Out:=
 (Aq (ifS (AQ (Ah (Ad 1) (fB (Ac (Ad 0) Aj) B9) ltA))
   (AJ (Ah (Ad 0) (Ad 1) ixD))
   AX)
 (AJ (fC (.int 0))))
def C5 (Ks:Fn):M Out:=
 (Aq (A9 2 (Ar Ks (Ac (Ad 0) (Ac (Ad 1) Aj))))
 (AJ (Fg [("rest",(Ad 2)),("mixed",(Ah (Ad 2) (Ah (fC (.int 10)) (fC (.int 12)) JV) ltA)),("count",(Ah (fC (.int 3)) (Ah (fC (.int 5)) (Ad 1) Fy) Bp))])))
def C6:M Out:=
 (Aq (A9 2 (Ah (Ad 0) (fC (.str "rest")) BY))
 (Aq (ifS (Dr (AQ (Ah (Ad 0) (fC (.str "mixed")) BY)))
   (Aq (Dc (Ah (Ad 2) (Ad 1) KD) (D2 (Ad 0) (fC (.str "rest"))))
 (AJ (Ah (Ad 2) (Ad 1) Gu)))
   AX)
 (Aq (Dc (Ah (Ah (Ad 0) (fC (.str "count")) BY) (fC (.int 1)) Bp) (D2 (Ad 0) (fC (.str "count"))))
 (Aq (A9 2 (Ah (Ah (Ad 2) (fC (.int 1000000000163)) Gu) (Ah (fC (.int 70001)) (Ah (Ad 0) (fC (.str "count")) BY) LF) Bp))
 (Aq (A9 2 (Ah (Ah (Ad 2) (Ah (Ad 2) (fC (.int 29)) Bp) LF) (fC (.int 1000000000193)) Gu))
 (Aq (A9 2 (Ah (Ah (Ad 2) (Ad 2) LF) (fC (.int 999999999959)) Gu))
 (Aq (Dc (Ad 2) (D2 (Ad 0) (fC (.str "rest"))))
 (AJ (Ah (Ah (Ad 2) (fC (.int 9)) KD) (Ad 1) Gu)))))))))
def DY (Au Ds:Fn):M Out:=
 (Aq (A9 2 (Ar Au (Ac (Ad 0) (Ac (Ah (fC (.int 3)) (Ah (fC (.int 3)) (fB (Ac (Ah (Ad 1) (fC (.int 0)) gtA) Aj) NQ) Fy) Bp) Aj))))
 (Aq (ifS (AQ (Ah (Ad 2) (fC (.int 0)) (eqS id)))
   (AJ (B4 (Ac (fC (.str "nothing")) Aj)))
   AX)
 (Aq (ifS (AQ (Ah (Ad 2) (fC (.int 1)) (eqS id)))
   (Aq (A9 3 (Ah (Bb (BJ (Ac (fC (.int 0)) (Ac (Ah (Ar Au (Ac (Ad 0) (Ac (fC (.int 9)) Aj))) (fC (.int 4)) Dn) (Ac (Ah (Ar Au (Ac (Ad 0) (Ac (Ah (fC (.int 10)) (fC (.int 17)) JV) Aj))) (Ah (fC (.int 10)) (fC (.int 16)) JV) Dn) Aj))))) (Ar Au (Ac (Ad 0) (Ac (fC (.int 3)) Aj))) ixD))
 (AJ (B4 (Ac (fC (.str "number")) (Ac (Ad 3) (Ac (Ah (Ad 3) (Ah (Bb (BJ (Ac (fC (.int 0)) (Ac (fC (.int 1)) (Ac (fC (.int 255)) (Ac (fC (.int 256)) (Ac (fC (.int 300)) (Ac (fC (.int 70000)) (Ac (Ar Au (Ac (Ad 0) (Ac (Ah (fC (.int 10)) (fC (.int 17)) JV) Aj))) Aj))))))))) (Ar Au (Ac (Ad 0) (Ac (fC (.int 7)) Aj))) ixD) Bp) Aj))))))
   AX)
 (Aq (ifS (AQ (Ah (Ad 2) (fC (.int 2)) (eqS id)))
   (AJ (B4 (Ac (fC (.str "text")) (Ac (Ah (Bb (BJ (Ac (fC (.int 0)) (Ac (fC (.int 1)) (Ac (fC (.int 5)) (Ac (fC (.int 250)) Aj)))))) (Ar Au (Ac (Ad 0) (Ac (fC (.int 4)) Aj))) ixD) Aj))))
   AX)
 (Aq (ifS (AQ (Ah (Ad 2) (fC (.int 3)) (eqS id)))
   (AJ (B4 (Ac (fC (.str "list")) (Ac (Ar Ds (Ac (Ad 0) (Ac (Ah (Ad 1) (fC (.int 1)) Dn) Aj))) (Ac (Ah (Bb (BJ (Ac (fC (.int 0)) (Ac (fC (.int 2)) (Ac (fC (.int 6)) (Ac (fC (.int 250)) Aj)))))) (Ar Au (Ac (Ad 0) (Ac (fC (.int 4)) Aj))) ixD) Aj)))))
   AX)
 (Aq (ifS (AQ (Ah (Ad 2) (fC (.int 4)) (eqS id)))
   (AJ (B4 (Ac (fC (.str "pair")) (Ac (Ar Ds (Ac (Ad 0) (Ac (Ah (Ad 1) (fC (.int 1)) Dn) Aj))) (Ac (Ar Ds (Ac (Ad 0) (Ac (Ah (Ad 1) (fC (.int 1)) Dn) Aj))) Aj)))))
   AX)
 (AJ (B4 (Ac (fC (.str "choice")) (Ac (fB (Ac (Bb (DX 1 [0,1] (CJ (Ac (Ah (fC (.int 1)) (Ar Au (Ac (Ad 0) (Ac (fC (.int 3)) Aj))) Bp) Aj)) (By 0) EF (Ar Ds (Ac (Ad 1) (Ac (Ah (Ad 2) (fC (.int 1)) Dn) Aj))))) Aj) Oz) Aj))))))))))
def DZ (Dt Au:Fn):M Out:=
 (Aq (A9 2 (Ah (Ad 1) (fC (.int 0)) ixD))
 (Aq (ifS (AQ (Ah (Ad 2) (fC (.str "nothing")) (eqS id)))
   (AJ (fC .non))
   AX)
 (Aq (ifS (AQ (Ah (Ad 2) (fC (.str "number")) (eqS id)))
   (AJ (Ah (Bb (BJ (Ac (Ah (Ad 1) (fC (.int 1)) ixD) (Ac (Ah (Ad 1) (fC (.int 2)) ixD) (Ac (Ah (Ah (Ad 1) (fC (.int 1)) ixD) (Ar Au (Ac (Ad 0) (Ac (Ah (Ah (Ah (Ad 1) (fC (.int 2)) ixD) (Ah (Ad 1) (fC (.int 1)) ixD) Dn) (fC (.int 1)) Bp) Aj))) Bp) Aj))))) (Ar Au (Ac (Ad 0) (Ac (fC (.int 3)) Aj))) ixD))
   AX)
 (Aq (ifS (AQ (Ah (Ad 2) (fC (.str "text")) (eqS id)))
   (Aq (A9 3 (fC (.str " !#09AZaz~{")))
 (AJ (joinM (fC (.str "")) (Ac (Bb (DX 1 [3,0] (CJ (Ac (fB (Ac (Ah (Ad 1) (fC (.int 1)) ixD) (Ac (Ar Au (Ac (Ad 0) (Ac (fC (.int 7)) Aj))) Aj)) Hv) Aj)) (By 0) EF (Ah (Ad 1) (Ar Au (Ac (Ad 2) (Ac (fC (.int 11)) Aj))) ixD))) Aj))))
   AX)
 (Aq (ifS (AQ (Ah (Ad 2) (fC (.str "list")) (eqS id)))
   (AJ (Bb (DX 1 [0,1] (CJ (Ac (fB (Ac (Ah (Ad 1) (fC (.int 2)) ixD) (Ac (Ar Au (Ac (Ad 0) (Ac (fC (.int 4)) Aj))) Aj)) Hv) Aj)) (By 0) EF (Ar Dt (Ac (Ad 1) (Ac (Ah (Ad 2) (fC (.int 1)) ixD) Aj))))))
   AX)
 (Aq (ifS (AQ (Ah (Ad 2) (fC (.str "pair")) (eqS id)))
   (AJ (B4 (Ac (Ar Dt (Ac (Ad 0) (Ac (Ah (Ad 1) (fC (.int 1)) ixD) Aj))) (Ac (Ar Dt (Ac (Ad 0) (Ac (Ah (Ad 1) (fC (.int 2)) ixD) Aj))) Aj))))
   AX)
 (Aq (A9 4 (Ar Au (Ac (Ad 0) (Ac (fB (Ac (Ah (Ad 1) (fC (.int 1)) ixD) Aj) B9) Aj))))
 (AJ (B4 (Ac (fC (.str "of")) (Ac (Ad 4) (Ac (Ar Dt (Ac (Ad 0) (Ac (Ah (Ah (Ad 1) (fC (.int 1)) ixD) (Ad 4) ixD) Aj))) Aj))))))))))))
def Dx (Au Ds Dj:Fn):M Out:=
 (Aq (A9 1 (Ar Dj (Ac (Ad 0) (Ac (fC (.int 0)) Aj))))
 (Aq (A9 2 (Ah (Bb (BJ (Ac (Ah (fC (.int 1)) (Ar Au (Ac (Ad 1) (Ac (fC (.int 5)) Aj))) Bp) (Ac (Ah (fC (.int 1)) (Ar Au (Ac (Ad 1) (Ac (fC (.int 9)) Aj))) Bp) (Ac (fC (.int 30)) Aj))))) (Ar Au (Ac (Ad 1) (Ac (fC (.int 3)) Aj))) ixD))
 (Aq (EY 3 (BJ Aj))
 (Aq (C9 (CJ (Ac (Ad 2) Aj)) (By 4)
   (Aq (A9 1 (Ar Dj (Ac (Ad 0) (Ac (Ah (fC (.int 1)) (Ah (Ad 4) (fC (.int 13)) Gu) Bp) Aj))))
 (Aq (Dc (Ah (Ah (Ah (Ad 1) (fC (.str "rest")) BY) (Ah (fC (.int 1)) (Ah (Ad 4) (fC (.int 13)) Hk) Bp) Hk) (Ah (fC (.int 37)) (Ad 4) Fy) Bp) (D2 (Ad 1) (fC (.str "rest"))))
 (ifS (NG (AQ (Ah (Ar Au (Ac (Ad 1) (Ac (fC (.int 6)) Aj))) (fC (.int 0)) (eqS id))) (AQ (Ah (Ad 4) (fC (.int 0)) gtA)))
   (ownM 3 DW (Ac (B4 (Ac (fC (.str "end")) Aj)) Aj))
   (Aq (A9 5 (Ah (Bb (BJ (Ac (fC (.str "left")) (Ac (fC (.str "right")) Aj)))) (Ar Au (Ac (Ad 1) (Ac (fC (.int 2)) Aj))) ixD))
 (Aq (EY 6 (BJ Aj))
 (Aq (C9 (CJ (Ac (Ah (Bb (BJ (Ac (fC (.int 1)) (Ac (fC (.int 2)) (Ac (fC (.int 3)) (Ac (fC (.int 9)) Aj)))))) (Ar Au (Ac (Ad 1) (Ac (fC (.int 4)) Aj))) ixD) Aj)) (By 7)
   (Aq (A9 8 (Ah (Ah (fC (.str "abcdefghi")) (Ad 7) ixD) (Ah (Ah (fC (.str "xyz")) (Ar Au (Ac (Ad 1) (Ac (fC (.int 3)) Aj))) ixD) (Ar Au (Ac (Ad 1) (Ac (fC (.int 8)) Aj))) Fy) Bp))
 (Aq (A9 9 (Ah (Bb (BJ (Ac (Ar Au (Ac (Ad 1) (Ac (Ad 2) Aj))) (Ac (fB (Ac (Ah (Ad 2) (fC (.int 1)) Dn) (Ac (Ah (Ad 4) (fC (.int 1)) Bp) Aj)) Hv) Aj)))) (Ar Au (Ac (Ad 1) (Ac (fC (.int 2)) Aj))) ixD))
 (ownM 6 DW (Ac (B4 (Ac (Ad 8) (Ac (Ar Ds (Ac (Ad 1) (Ac (Ar Au (Ac (Ad 1) (Ac (fC (.int 3)) Aj))) Aj))) (Ac (Ad 9) Aj)))) Aj)))))
 (ownM 3 DW (Ac (B4 (Ac (Ad 5) (Ac (Ad 6) Aj))) Aj)))))))))
 (AJ (Ad 3))))))
def Ei (Dt Au Dj:Fn):M Out:=
 (Aq (EY 4 (BJ Aj))
 (Aq (A9 5 (fC (.int 0)))
 (Aq (EY 6 (BJ (Ac (fC (.int 0)) Aj)))
 (Aq (C9 (FY (Ac (Ad 2) (Ac (fB (Ac (fB (Ac (Ad 0) Aj) B9) (Ac (Ad 3) Aj)) Hv) Aj))) (By 7)
   (Aq (A9 8 (Ar Dj (Ac (Ad 0) (Ac (Ad 7) Aj))))
 (ifS (AQ (Ah (Ah (Ad 1) (Ad 5) ixD) (B4 (Ac (fC (.str "end")) Aj)) (eqS λb=>!b)))
   (Aq (Dc (Ah (Ad 1) (Ad 5) ixD) (unS 2 (B3 (By 9) (B3 (By 10) Ev))))
 (Aq (Dc (Ah (Ad 10) (Ar Au (Ac (Ad 8) (Ac (fB (Ac (Ad 10) Aj) B9) Aj))) ixD) (unS 3 (B3 (By 11) (B3 (By 12) (B3 (By 13) Ev)))))
 (Aq (ownM 4 DW (Ac (B4 (Ac (Ad 9) (Ac (Ad 11) (Ac (Ar Dt (Ac (Ad 8) (Ac (Ad 12) Aj))) Aj)))) Aj))
 (Aq (A9 5 (Ad 13))
 (ownM 6 DW (Ac (Ad 5) Aj))))))
   AX)))
 (AJ (Bb (BJ (Ac (Ad 4) (Ac (Ad 6) Aj)))))))))
def ER (FS My:Fn):M Out:=
 (Aq (A9 2 (fC (.int 0)))
 (Aq (EY 3 (BJ Aj))
 (Aq (C9 (CJ (Ac (fB (Ac (Ad 1) Aj) B9) Aj)) (By 4)
   (Aq (A9 5 (Ar My (Ac (Ah (Ad 0) (Ad 2) ixD) (Ac (Ah (Ad 1) (Ad 4) ixD) Aj))))
 (Aq (ifS (AQ (Ah (Ad 5) (fC .non) isC))
   (Sq "NoTalk" (Ac (Ad 4) Aj))
   AX)
 (Aq (A9 6 (B4 (Ac (Ad 2) (Ac (Ad 5) Aj))))
 (Aq (ownM 3 DW (Ac (Ad 6) Aj))
 (A9 2 (Ar FS (Ac (Ad 0) (Ac (Ad 6) Aj)))))))))
 (AJ (nxD (Ad 3))))))
def ET (JB GP:Fn):M Out:=
 (Aq (A9 2 (Fg [("left",(Lz (BJ Aj))),("right",(Lz (BJ Aj)))]))
 (Aq (D1 3 (Ar GP (Ac (Ad 0) (Ac (Ad 1) Aj))))
 (Aq (C9 (CJ (Ac (fB (Ac (Ad 3) Aj) B9) Aj)) (By 4)
   (Aq (A9 5 (Ah (Ad 0) (Ah (Ah (Ad 3) (Ad 4) ixD) (fC (.int 0)) ixD) ixD))
 (KA (objM Hj (Ah (Ad 2) (Ah (Ad 5) (fC (.int 0)) ixD) BY) (Ac (Ar JB (Ac (Ad 5) (Ac (Ah (Ah (Ad 3) (Ad 4) ixD) (fC (.int 1)) ixD) (Ac (Ah (Ah (Ad 1) (Ad 4) ixD) (fC (.int 2)) ixD) Aj)))) Aj)))))
 (AJ (nxD (B4 (Ac (Ah (Ad 2) (fC (.str "left")) BY) (Ac (Ah (Ad 2) (fC (.str "right")) BY) Aj))))))))
def D0 (Cl D5:Fn):M Out:=
 (Aq (ifS (Dr (AQ (Ar D5 (Ac (Ad 0) (Ac (Ad 1) Aj)))))
   (Iy "NoValue" (Ac (fC (.str "the value does not fit the shape")) Aj))
   AX)
 (AJ (nxD (Bb (EJ Cl (Ac (Ad 0) (Ac (Ad 1) Aj)))))))
def GM (PZ:Fn):M Out:=
 (Aq (D1 3 (Ar PZ (Ac (Ad 0) (Ac (fC (.int 0)) (Ac (Fg [("left",(Ad 1)),("right",(Ad 2))]) (Ac (Fg [("left",(fC (.int 0))),("right",(fC (.int 0)))]) Aj))))))
 (AJ (nxD (B4 (Ac (Ah (Ad 3) (fC (.int 0)) ixD) (Ac (Ah (Ad 3) (fC (.int 1)) ixD) (Ac (B4 (Ac (Ah (Ah (Ad 3) (fC (.int 2)) ixD) (fC (.str "left")) BY) (Ac (Ah (Ah (Ad 3) (fC (.int 2)) ixD) (fC (.str "right")) BY) Aj))) Aj)))))))
def GL (Kv:Fn):M Out:=
 (Aq (EY 4 (BJ Aj))
 (Aq (A9 5 (Ad 1))
 (Aq (A9 6 (fB (Ac (Ad 3) Aj) Ky))
 (Aq (OF (AQ (Ah (Ah (Ah (Ad 0) (Ad 5) ixD) (fC (.int 0)) ixD) (Ad 2) (inS false)))
   (Aq (A9 7 (Ah (Ah (Ad 0) (Ad 5) ixD) (fC (.int 0)) ixD))
 (Aq (D1 8 (Ar Kv (Ac (Ah (Ad 0) (Ad 5) ixD) (Ac (Ah (Ad 2) (Ad 7) BY) (Ac (Ah (Ad 6) (Ad 7) BY) Aj)))))
 (Aq (ifS (AQ (Ah (Ad 8) (fC .non) isC))
   (ret .brk)
   AX)
 (Aq (ownM 4 DW (Ac (Ah (Ad 8) (fC (.int 0)) ixD) Aj))
 (Aq (A9 5 (Ah (Ad 8) (fC (.int 1)) ixD))
 (Dc (Ah (Ad 8) (fC (.int 2)) ixD) (D2 (Ad 6) (Ad 7)))))))))
 (AJ (nxD (B4 (Ac (Ad 4) (Ac (Ad 5) (Ac (Ad 6) Aj))))))))))
def EA (CO:Fn):M Out:=
 (Aq (ifS (AQ (Ah (Ad 2) (fB (Ac (Ad 1) Aj) B9) geA))
   (AJ (nxD (fC .non)))
   AX)
 (Aq (ifS (AQ (Ah (Ah (Ad 1) (Ad 2) ixD) (fB (Ac (Ah (Ad 0) (fC (.int 1)) ixD) Aj) B9) geA))
   (Fs "Broken" (Ac (Ad 2) (Ac (Ah (Ad 0) (fC (.int 0)) ixD) Aj)))
   AX)
 (Aq (A9 3 (Ah (Ah (Ad 0) (fC (.int 1)) ixD) (Ah (Ad 1) (Ad 2) ixD) ixD))
 (Aq (GA (D1 4 (Ar CO (Ac (Ah (Ad 3) (fC (.int 1)) ixD) (Ac (Ad 1) (Ac (Ah (Ad 2) (fC (.int 1)) Bp) Aj))))) (hNo "Short" (AJ (nxD (fC .non))) (hAs "Broken" 5 (Fs "Broken" (Ac (bnd (Ad 5) (JA "at")) (Ac (Ah (Ad 0) (fC (.int 0)) ixD) Aj))) Tr)))
 (AJ (nxD (B4 (Ac (B4 (Ac (Ah (Ad 0) (fC (.int 0)) ixD) (Ac (Ah (Ad 3) (fC (.int 0)) ixD) (Ac (Ah (Ad 4) (fC (.int 0)) ixD) Aj)))) (Ac (Ah (Ad 3) (fC (.int 2)) ixD) (Ac (Ah (Ad 4) (fC (.int 1)) ixD) Aj))))))))))
def EN (Lx:Fn):M Out:=
 (Aq (EY 2 (BJ Aj))
 (Aq (A9 3 (fC (.int 0)))
 (Aq (C9 (Gk (Ad 1)) (unS 3 (B3 (By 4) (B3 (By 5) (B3 (By 6) Ev))))
   (Aq (A9 7 (Ah (Ah (Ad 0) (Ad 3) ixD) (fC (.int 1)) ixD))
 (Aq (A9 8 (idxM (Bb (DX 1 [] (Gk (Ad 7)) (By 0) EF (Ah (Ad 0) (fC (.int 0)) ixD))) (Ac (Ad 5) Aj)))
 (Aq (ownM 2 DW (Ac (Ah (Bb (BJ (Ac (Ad 8) Aj))) (Ar (Hy Lx) (Ac (Ah (Ah (Ad 7) (Ad 8) ixD) (fC (.int 1)) ixD) (Ac (Ad 6) Aj))) Bp) Aj))
 (A9 3 (Ah (Ah (Ad 7) (Ad 8) ixD) (fC (.int 2)) ixD))))))
 (AJ (Ad 2)))))
def Dp:M Out:=
 (Aq (A9 2 (Fg [("left",(Bb (BJ Aj))),("right",(Bb (BJ Aj)))]))
 (Aq (C9 (CJ (Ac (fB (Ac (Ad 0) Aj) B9) Aj)) (By 3)
   (Dc (Ah (Ah (Ad 2) (Ah (Ah (Ad 0) (Ad 3) ixD) (fC (.int 0)) ixD) BY) (Ah (Ad 1) (Ad 3) ixD) Bp) (D2 (Ad 2) (Ah (Ah (Ad 0) (Ad 3) ixD) (fC (.int 0)) ixD))))
 (AJ (Ad 2))))
def DI (Au:Fn):M Out:=
 (Aq (A9 2 (Fg [("left",(Bb (fBF (Ac (Ah (Ad 0) (fC (.str "left")) BY) Aj) Ht))),("right",(Bb (fBF (Ac (Ah (Ad 0) (fC (.str "right")) BY) Aj) Ht)))]))
 (Aq (C9 (CJ (Ac (Ah (fC (.int 1)) (Ar Au (Ac (Ad 1) (Ac (fC (.int 2)) Aj))) Bp) Aj)) (By 3)
   (Aq (A9 4 (Ah (Bb (BJ (Ac (fC (.str "left")) (Ac (fC (.str "right")) Aj)))) (Ar Au (Ac (Ad 1) (Ac (fC (.int 2)) Aj))) ixD))
 (Aq (A9 5 (Ah (Ad 2) (Ad 4) BY))
 (Aq (A9 6 (Ah (Bb (BJ (Ac (Ar Au (Ac (Ad 1) (Ac (Ah (fB (Ac (Ad 5) Aj) B9) (fC (.int 1)) Bp) Aj))) (Ac (fB (Ac (fC (.int 0)) (Ac (Ah (Ah (fB (Ac (Ad 5) Aj) B9) (fC (.int 1)) Dn) (Ar Au (Ac (Ad 1) (Ac (fC (.int 3)) Aj))) Dn) Aj)) NX) Aj)))) (Ar Au (Ac (Ad 1) (Ac (fC (.int 2)) Aj))) ixD))
 (Aq (A9 7 (Ah (Bb (BJ (Ac (Ar Au (Ac (Ad 1) (Ac (fC (.int 256)) Aj))) (Ac (Ar Au (Ac (Ad 1) (Ac (fC (.int 4)) Aj))) (Ac (fC (.int 255)) (Ac (fC (.int 251)) Aj)))))) (Ar Au (Ac (Ad 1) (Ac (fC (.int 4)) Aj))) ixD))
 (Aq (A9 8 (Ar Au (Ac (Ad 1) (Ac (fC (.int 5)) Aj))))
 (ifS (AQ (Ah (Ad 8) (fC (.int 2)) ltA))
   (Dc (Ah (Ah (fSl (Ad 5) fNo (Dv (Ad 6)) DH) (Bb (BJ (Ac (Ad 7) Aj))) Bp) (fSl (Ad 5) (Dv (Ah (Ad 6) (fC (.int 1)) Bp)) fNo DH) Bp) (D2 (Ad 2) (Ad 4)))
   (ifS (AQ (Ah (Ad 8) (fC (.int 2)) (eqS id)))
   (Dc (Ah (Ah (fSl (Ad 5) fNo (Dv (Ad 6)) DH) (Bb (BJ (Ac (Ad 7) Aj))) Bp) (fSl (Ad 5) (Dv (Ad 6)) fNo DH) Bp) (D2 (Ad 2) (Ad 4)))
   (ifS (AQ (Ah (Ad 8) (fC (.int 3)) (eqS id)))
   (Dc (Ah (fSl (Ad 5) fNo (Dv (Ad 6)) DH) (fSl (Ad 5) (Dv (Ah (Ad 6) (fC (.int 1)) Bp)) fNo DH) Bp) (D2 (Ad 2) (Ad 4)))
   (Dc (Ah (Ad 5) (Bb (DX 1 [1] (CJ (Ac (Ar Au (Ac (Ad 1) (Ac (fC (.int 6)) Aj))) Aj)) (By 0) EF (Ar Au (Ac (Ad 1) (Ac (fC (.int 256)) Aj))))) Bp) (D2 (Ad 2) (Ad 4))))))))))))
 (AJ (Ad 2))))
def DJ (FS GP:Fn):M Out:=
 (Aq (D1 2 (Ar GP (Ac (Ad 0) (Ac (Ad 1) Aj))))
 (Aq (ifS (AQ (Ah (fB (Ac (Ad 2) Aj) B9) (fC (.int 0)) (eqS id)))
   (AJ (nxD (fC (.int 0))))
   AX)
 (AJ (nxD (Ar FS (Ac (Ad 0) (Ac (Ah (Ad 2) (fUn (fC (.int 1)) Qk) ixD) Aj)))))))
def Ej (P2:Fn):M Out:=
 (Aq (A9 3 (fC .non))
 (Aq (A9 4 (fC .non))
 (Aq (GA (D1 3 (Ar P2 (Ac (Ad 0) (Ac (Bb (fBF (Ac (Ad 1) Aj) Ht)) (Ac (Bb (fBF (Ac (Ad 2) Aj) Ht)) Aj))))) (hAs "Broken" 5 (A9 4 (B4 (Ac (bnd (Ad 5) (JA "at")) (Ac (bnd (Ad 5) (JA "side")) Aj)))) Tr))
 (AJ (Bb (BJ (Ac (Ad 3) (Ac (Ad 4) Aj))))))))
def Eh (Dk Au OI Kw:Fn):M Out:=
 (Aq (Dc (Ar Dk (Ac (Ad 0) (Ac (Ad 1) (Ac (Ad 2) Aj)))) (unS 2 (B3 (By 4) (B3 (By 5) Ev))))
 (Aq (ifS (AQ (Ah (Ad 5) (fC .non) Ij))
   (AJ (fC (.bl false)))
   AX)
 (Aq (Dc (Ad 4) (unS 3 (B3 (By 6) (B3 (By 7) (B3 (By 8) Ev)))))
 (Aq (ifS (fOr (AQ (Ah (Ar (Hy OI) (Ac (Ad 0) (Ac (Ad 6) Aj))) (B4 (Ac (fSl (Ad 1) fNo (Dv (Ah (Ad 8) (fC (.int 0)) ixD)) DH) (Ac (fSl (Ad 2) fNo (Dv (Ah (Ad 8) (fC (.int 1)) ixD)) DH) Aj))) (eqT λb=>!b))) (AQ (Ah (Ar (Hy Kw) (Ac (Ad 0) (Ac (Ad 6) Aj))) (Ad 7) (eqS λb=>!b))))
   (AJ (fC (.bl false)))
   AX)
 (Aq (A9 9 (Bb (BJ (Ac (Ar Au (Ac (Ad 3) (Ac (Ah (fB (Ac (Ad 1) Aj) B9) (fC (.int 1)) Bp) Aj))) (Ac (Ar Au (Ac (Ad 3) (Ac (Ah (fB (Ac (Ad 2) Aj) B9) (fC (.int 1)) Bp) Aj))) Aj)))))
 (Aq (Dc (Ar Dk (Ac (Ad 0) (Ac (fSl (Ad 1) fNo (Dv (Ah (Ad 9) (fC (.int 0)) ixD)) DH) (Ac (fSl (Ad 2) fNo (Dv (Ah (Ad 9) (fC (.int 1)) ixD)) DH) Aj)))) (unS 2 (B3 (By 10) (B3 (By 11) Ev))))
 (AJ (FX (Ah (Ad 11) (fC .non) isC) (Ah (Ah (Ad 10) (fC (.int 0)) ixD) (fSl (Ad 6) fNo (Dv (fB (Ac (Ah (Ad 10) (fC (.int 0)) ixD) Aj) B9)) DH) (eqS id))))))))))
def Eg (Au Dk HX:Fn):M Out:=
 (Aq (Dc (Ar Dk (Ac (Ad 0) (Ac (Ah (Ad 1) (fC (.str "left")) BY) (Ac (Ah (Ad 1) (fC (.str "right")) BY) Aj)))) (unS 2 (B3 (By 3) (B3 (By 4) Ev))))
 (Aq (ifS (AQ (Ah (Ad 4) (fC .non) isC))
   (AJ (Ar HX (Ac (Ad 0) (Ac (Ah (Ad 1) (fC (.str "left")) BY) (Ac (Ah (Ad 1) (fC (.str "right")) BY) (Ac (Ad 2) Aj))))))
   AX)
 (Aq (Dc (Ad 4) (unS 2 (B3 (By 5) (B3 (By 6) Ev))))
 (Aq (ifS (fOr (AQ (Ah (Ad 6) (Ad 1) (inS true))) (fOr (AQ (Ah (Ad 5) (fC (.int 0)) ltA)) (AQ (Ah (Ad 5) (fB (Ac (Ah (Ad 1) (Ad 6) BY) Aj) B9) geA))))
   (AJ (fC (.bl false)))
   AX)
 (Aq (A9 7 (Fg [("left",(Ah (Ad 1) (fC (.str "left")) BY)),("right",(Ah (Ad 1) (fC (.str "right")) BY))]))
 (Aq (Dc (fSl (Ah (Ad 1) (Ad 6) BY) fNo (Dv (Ad 5)) DH) (D2 (Ad 7) (Ad 6)))
 (Aq (ifS (Dr (AQ (Ar HX (Ac (Ad 0) (Ac (Ah (Ad 7) (fC (.str "left")) BY) (Ac (Ah (Ad 7) (fC (.str "right")) BY) (Ac (Ad 2) Aj)))))))
   (AJ (fC (.bl false)))
   AX)
 (Aq (C9 (Gk (Bb (BJ (Ac (Bb (BJ Aj)) (Ac (Bb (DX 1 [2] (CJ (Ac (Ar Au (Ac (Ad 2) (Ac (fC (.int 5)) Aj))) Aj)) (By 0) EF (Ar Au (Ac (Ad 1) (Ac (fC (.int 256)) Aj))))) Aj))))) (By 8)
   (Aq (Dc (Ah (fSl (Ah (Ad 1) (Ad 6) BY) fNo (Dv (Ah (Ad 5) (fC (.int 1)) Bp)) DH) (Ad 8) Bp) (D2 (Ad 7) (Ad 6)))
 (ifS (AQ (Ah (Ah (Ar Dk (Ac (Ad 0) (Ac (Ah (Ad 7) (fC (.str "left")) BY) (Ac (Ah (Ad 7) (fC (.str "right")) BY) Aj)))) (fC (.int 1)) ixD) (B4 (Ac (Ad 5) (Ac (Ad 6) Aj))) (eqS λb=>!b)))
   (AJ (fC (.bl false)))
   AX)))
 (AJ (fC (.bl true)))))))))))
def GJ (Dk HW Au Dj Lr Mx HN Nn Kt:Fn):M Out:=
 (Aq (A9 1 (Ar Kt (Ac (Ad 0) Aj)))
 (Aq (A9 2 (Ah (Ar Nn (Ac (Ad 0) (Ac (Ad 1) (Ac (fC (.int 14)) (Ac (fC (.int 40)) Aj))))) (fC (.int 0)) ixD))
 (Aq (A9 3 (Ar HN (Ac (Ad 2) (Ac (Ar Mx (Ac (Ad 1) (Ac (Ad 2) Aj))) Aj))))
 (Aq (C9 (FY (Ac (fC (.int 40)) (Ac (fC (.int 46)) Aj))) (By 4)
   (Aq (A9 5 (Ar Dj (Ac (Ad 0) (Ac (Ad 4) Aj))))
 (ifS (Dr (AQ (Ar HW (Ac (Ad 1) (Ac (Ar Lr (Ac (Ad 3) (Ac (Ad 5) Aj))) (Ac (Ad 5) Aj))))))
   (AJ (fC (.bl false)))
   AX)))
 (Aq (C9 (FY (Ac (fC (.int 46)) (Ac (fC (.int 50)) Aj))) (By 4)
   (Aq (A9 5 (Ar Dj (Ac (Ad 0) (Ac (Ad 4) Aj))))
 (Aq (A9 6 (Ah (Bb (BJ (Ac (fC (.int 256)) (Ac (fC (.int 3)) (Ac (fC (.int 2)) Aj))))) (Ar Au (Ac (Ad 5) (Ac (fC (.int 3)) Aj))) ixD))
 (Aq (A9 7 (Fg [("left",(Bb (DX 1 [5,6] (CJ (Ac (Ar Au (Ac (Ad 5) (Ac (fC (.int 12)) Aj))) Aj)) (By 0) EF (Ar Au (Ac (Ad 1) (Ac (Ad 2) Aj))))))]))
 (Aq (Dc (Bb (DX 1 [5,6] (CJ (Ac (Ar Au (Ac (Ad 5) (Ac (fC (.int 12)) Aj))) Aj)) (By 0) EF (Ar Au (Ac (Ad 1) (Ac (Ad 2) Aj))))) (D2 (Ad 7) (fC (.str "right"))))
 (Aq (ifS (Dr (AQ (Ar HW (Ac (Ad 1) (Ac (Ad 7) (Ac (Ad 5) Aj))))))
   (AJ (fC (.bl false)))
   AX)
 (ifS (AQ (Ah (Ar Dk (Ac (Bb (BJ (Ac (B4 (Ac (fC (.str "end")) Aj)) Aj))) (Ac (Ah (Ad 7) (fC (.str "left")) BY) (Ac (Ah (Ad 7) (fC (.str "right")) BY) Aj)))) (Bb (BJ (Ac (B4 (Ac (Bb (BJ Aj)) (Ac (fC (.int 0)) (Ac (B4 (Ac (fC (.int 0)) (Ac (fC (.int 0)) Aj))) Aj)))) (Ac (fC .non) Aj)))) (eqS λb=>!b)))
   (AJ (fC (.bl false)))
   AX)))))))
 (AJ (fC (.bl true))))))))
end LW
namespace F2
open PySem L2
def W {α:Type}(m:M α)(t:T)(P:α->T->Prop):Prop:=∃a t',m t=some (a,t')/\P a t'
def Wf (g:Fn)(ds:List D)(S:List Ob)(P:D->List Ob->Prop):Prop:=∃r S',g ds S=some (r,S')/\P r S'
theorem W.mono {α:Type}{m:M α}{t:T}{P Q:α->T->Prop}(h:W m t P)(i:∀a t',P a t'->Q a t'):W m t Q:=by
 obtain ⟨a,t',e,p⟩:=h;exact ⟨a,t',e,i a t' p⟩
theorem Wf.mono {g:Fn}{ds:List D}{S:List Ob}{P Q:D->List Ob->Prop}(h:Wf g ds S P)(i:∀r S',P r S'->Q r S'):Wf g ds S Q:=by
 obtain ⟨a,t',e,p⟩:=h;exact ⟨a,t',e,i a t' p⟩
section
variable {α β:Type}
theorem A0 {m:M α}{t:T}{P:α->T->Prop}{a:α}{t':T}(e:m t=some (a,t')):W m t P↔P a t':=by
 constructor
 ·rintro ⟨a',t1,e',p⟩;rw [e] at e';cases e';exact p
 ·exact λp=>⟨a,t',e,p⟩
theorem HV {m:M α}{t:T}{P:α->T->Prop}(e:m t=none):W m t P↔False:=by
 constructor
 ·rintro ⟨a',t1,e',p⟩;rw [e] at e';cases e'
 ·exact False.elim
@[simp] theorem W_ret {a:α} {t:T} {P:α->T->Prop}:W (ret a) t P↔P a t:=A0 rfl
@[simp] theorem W_fail {t:T} {P:α->T->Prop}:W (fail:M α) t P↔False:=HV rfl
@[simp] theorem W_bnd {f:M α} {g:α->M β} {t:T} {P:β->T->Prop}:W (bnd f g) t P↔W f t λa t1=>W (g a) t1 P:=by
 constructor
 ·rintro ⟨b,t',e,p⟩;obtain ⟨a,t1,e1,e2⟩:=Aw e;exact ⟨a,t1,e1,b,t',e2,p⟩
 ·rintro ⟨a,t1,e1,b,t',e2,p⟩;exact ⟨b,t',by unfold bnd;rw [e1];exact e2,p⟩
@[simp] theorem Uv {c:Prop} [Decidable c] {f g:M α} {t:T} {P:α->T->Prop}:W (if c then f else g) t P↔if c then W f t P else W g t P:=by split <;> rfl
@[simp] theorem bC {n:Nat} {a:α} {t:T} {P:α->T->Prop}:W (lim n a) t P↔n<=LIM/\P a t:=by
 unfold lim;constructor
 ·rintro ⟨a',t',e,p⟩
  split at e
  ·cases e;exact ⟨by assumption,p⟩
  ·cases e
 ·rintro ⟨h,p⟩;exact ⟨a,t,by simp only [h,if_true],p⟩
end
variable {t:T}{env:List (Option Sl)}{S:List Ob}
@[simp] theorem W_fC {d:D} {P:D->T->Prop}:W (fC d) t P↔P d t:=A0 rfl
@[simp] theorem QY {i:Nat} {P:D->T->Prop}:W (Ad i) t P↔match t.env[i]? with
 | some (some (.val d))=>P d t
 | some (some (.own ds))=>P (.lst ds) ⟨t.env.set i (some (.val (.lst ds))),t.S⟩
 | _=>False:=by
 cases e:t.env[i]? with
 | none=>exact HV (by unfold Ad;simp [e])
 | some o=>
   cases o with
   | none=>exact HV (by unfold Ad;simp [e])
   | some sl=>
     cases sl with
     | val d=>exact A0 (by unfold Ad;simp [e])
     | own ds=>exact A0 (by unfold Ad;simp [e])
@[simp] theorem W_fBin {f g:M D} {h:D->D->M D} {P:D->T->Prop}:W (Ah f g h) t P↔W f t λx t1=>W g t1 λy t2=>W (h x y) t2 P:=by simp [Ah]
@[simp] theorem W_fUn {f:M D} {h:D->M D} {P:D->T->Prop}:W (fUn f h) t P↔W f t λx t1=>W (h x) t1 P:=by simp [fUn]
@[simp] theorem W_toB {b:Bool} {P:Bool->T->Prop}:W (toB (.bl b)) t P↔P b t:=A0 rfl
@[simp] theorem W_fTst {f:M D} {P:Bool->T->Prop}:W (AQ f) t P↔W f t λx t1=>W (toB x) t1 P:=by simp [AQ]
@[simp] theorem W_fChain {f g w:M D} {h h':D->D->M D} {P:D->T->Prop}:W (Gj f g w h h') t P↔W f t λx t1=>W g t1 λy t2=>W (h x y) t2 λk t3=>W (toB k) t3 λk t4=>if k=true then W w t4 λz t5=>W (h' y z) t5 P else P (.bl false) t4:=by
 simp [Gj]
@[simp] theorem W_fAnd {f g:M Bool} {P:Bool->T->Prop}:W (NG f g) t P↔W f t λk t1=>if k=true then W g t1 P else P false t1:=by simp [NG]
@[simp] theorem W_fOr {f g:M Bool} {P:Bool->T->Prop}:W (fOr f g) t P↔W f t λk t1=>if k=true then P true t1 else W g t1 P:=by simp [fOr]
@[simp] theorem W_fNot {f:M Bool} {P:Bool->T->Prop}:W (Dr f) t P↔W f t λk t1=>P (!k) t1:=by simp [Dr]
@[simp] theorem W_fAndV {f g:M D} {P:D->T->Prop}:W (FX f g) t P↔W f t λx t1=>W (toB x) t1 λk t2=>if k=true then W g t2 P else P (.bl false) t2:=by simp [FX]
@[simp] theorem bv {f g:M D} {P:D->T->Prop}:W (WZ f g) t P↔W f t λx t1=>W (toB x) t1 λk t2=>if k=true then P (.bl true) t2 else W g t2 P:=by simp [WZ]
@[simp] theorem W_fNotV {f:M D} {P:D->T->Prop}:W (KC f) t P↔W f t λx t1=>W (toB x) t1 λk t2=>P (.bl (!k)) t2:=by simp [KC]
@[simp] theorem W_fIf {f:M Bool} {g h:M D} {P:D->T->Prop}:W (fIf f g h) t P↔W f t λk t1=>if k=true then W g t1 P else W h t1 P:=by simp [fIf]
@[simp] theorem W_fNil {P:List D->T->Prop}:W Aj t P↔P [] t:=A0 rfl
@[simp] theorem W_fCons {f:M D} {g:M (List D)} {P:List D->T->Prop}:W (Ac f g) t P↔W f t λd t1=>W g t1 λds t2=>P (d :: ds) t2:=by simp [Ac]
@[simp] theorem W_fTup {f:M (List D)} {P:D->T->Prop}:W (B4 f) t P↔W f t λds t1=>ds.length<=LIM/\P (.tup ds) t1:=by simp [B4]
@[simp] theorem W_fLst {f:M (List D)} {P:List D->T->Prop}:W (BJ f) t P↔W f t λds t1=>ds.length<=LIM/\P ds t1:=by simp [BJ]
@[simp] theorem W_fPure {f:M (List D)} {P:D->T->Prop}:W (Bb f) t P↔W f t λds t1=>P (.lst ds) t1:=by simp [Bb]
@[simp] theorem W_newOb {o:Ob} {P:D->T->Prop}:W (Ql o) t P↔P (.obj t.S.length) ⟨t.env,t.S++[o]⟩:=A0 rfl
@[simp] theorem WO {f:M (List D)} {P:D->T->Prop}:W (Lz f) t P↔W f t λds t1=>W (Ql (.lst ds)) t1 P:=by simp [Lz]
@[simp] theorem W_fCall {g:Fn} {f:M (List D)} {P:D->T->Prop}:W (Ar g f) t P↔W f t λds t1=>Wf g ds t1.S λr S'=>P r ⟨t1.env,S'⟩:=by
 unfold Ar;rw [W_bnd];constructor
 ·rintro ⟨ds,t1,e1,r,t',e2,p⟩;refine ⟨ds,t1,e1,?_⟩;dsimp only at e2
  cases e:g ds t1.S with
  | none=>rw [e] at e2;cases e2
  | some z=>obtain ⟨r',S'⟩:=z;rw [e] at e2;cases e2;exact ⟨r,_,e,p⟩
 ·rintro ⟨ds,t1,e1,r,S',e2,p⟩;exact ⟨ds,t1,e1,r,_,by simp only [e2],p⟩
@[simp] theorem W_fB {f:M (List D)} {h:List D->M D} {P:D->T->Prop}:W (fB f h) t P↔W f t λds t1=>W (h ds) t1 P:=by simp [fB]
@[simp] theorem W_fBF {f:M (List D)} {h:List D->M (List D)} {P:List D->T->Prop}:W (fBF f h) t P↔W f t λds t1=>W (h ds) t1 P:=by simp [fBF]
@[simp] theorem W_seqS {f g:M Out} {P:Out->T->Prop}:W (Aq f g) t P↔W f t λo t1=>match o with
 | .next=>W g t1 P
 | .brk=>P .brk t1
 | .cont=>P .cont t1
 | .ret d=>P (.ret d) t1:=by
 unfold Aq;constructor
 ·rintro ⟨o,t',e,p⟩;dsimp only at e
  cases e1:f t with
  | none=>rw [e1] at e;cases e
  | some z=>
    obtain ⟨o1,t1⟩:=z;rw [e1] at e;refine ⟨o1,t1,e1,?_⟩
    cases o1 with
    | next=>exact ⟨o,t',e,p⟩
    | brk=>cases e;exact p
    | cont=>cases e;exact p
    | ret d=>cases e;exact p
 ·rintro ⟨o,t1,e,p⟩
  cases o with
  | next=>obtain ⟨o,t',e',p⟩:=p;exact ⟨o,t',by simp only [e];exact e',p⟩
  | brk=>exact ⟨_,_,by simp only [e],p⟩
  | cont=>exact ⟨_,_,by simp only [e],p⟩
  | ret d=>exact ⟨_,_,by simp only [e],p⟩
@[simp] theorem W_skipS {P:Out->T->Prop}:W AX t P↔P .next t:=A0 rfl
@[simp] theorem W_retS {f:M D} {P:Out->T->Prop}:W (AJ f) t P↔W f t λd t1=>P (.ret d) t1:=by simp [AJ]
@[simp] theorem W_dropS {f:M D} {P:Out->T->Prop}:W (KA f) t P↔W f t λd t1=>P .next t1:=by simp [KA]
@[simp] theorem W_ifS {f:M Bool} {g h:M Out} {P:Out->T->Prop}:W (ifS f g h) t P↔W f t λk t1=>if k=true then W g t1 P else W h t1 P:=by simp [ifS]
@[simp] theorem W_putV {i:Nat} {d:D} {P:Unit->T->Prop}:W (By i d) t P↔P () ⟨t.env.set i (some (.val d)),t.S⟩:=A0 rfl
@[simp] theorem W_setS {i:Nat} {f:M D} {P:Out->T->Prop}:W (A9 i f) t P↔W f t λd t1=>P .next ⟨t1.env.set i (some (.val d)),t1.S⟩:=by
 simp only [A9,W_bnd,W_ret,W_putV]
@[simp] theorem W_ownS {i:Nat} {f:M (List D)} {P:Out->T->Prop}:W (EY i f) t P↔W f t λds t1=>P .next ⟨t1.env.set i (some (.own ds)),t1.S⟩:=by
 unfold EY;rw [W_bnd];have:∀(ds:List D) (t1:T),W (λt:T=>some (Out.next,({ t with env:=t.env.set i (some (.own ds)) }:T))) t1 P↔P .next ⟨t1.env.set i (some (.own ds)),t1.S⟩:=λds t1=>A0 rfl;simp only [this]
@[simp] theorem W_asgS {f:M D} {g:D->M Unit} {P:Out->T->Prop}:W (Dc f g) t P↔W f t λd t1=>W (g d) t1 λ_ t2=>P .next t2:=by simp [Dc]
@[simp] theorem W_putNil {P:Unit->T->Prop}:W (Ev []) t P↔P () t:=A0 rfl
@[simp] theorem W_putCons {f:D->M Unit} {g:List D->M Unit} {d:D} {ds:List D} {P:Unit->T->Prop}:W (B3 f g (d :: ds)) t P↔W (f d) t λ_ t1=>W (g ds) t1 P:=by simp [B3]
@[simp] theorem W_unS_lst {n:Nat} {g:List D->M Unit} {ds:List D} {P:Unit->T->Prop}:W (unS n g (.lst ds)) t P↔ds.length=n/\W (g ds) t P:=by
 unfold unS;simp only [Uv,W_fail];split <;> simp [*]
@[simp] theorem W_unS_tup {n:Nat} {g:List D->M Unit} {ds:List D} {P:Unit->T->Prop}:W (unS n g (.tup ds)) t P↔ds.length=n/\W (g ds) t P:=by
 unfold unS;simp only [Uv,W_fail];split <;> simp [*]
@[simp] theorem W_forS {f:M (List D)} {st:D->M Unit} {b:M Out} {P:Out->T->Prop}:W (C9 f st b) t P↔W f t λds t1=>W (Ed st b ds) t1 P:=by simp [C9]
@[simp] theorem W_forL_nil {st:D->M Unit} {b:M Out} {P:Out->T->Prop}:W (Ed st b []) t P↔P .next t:=A0 rfl
theorem OG {st:D->M Unit}{b:M Out}{d:D}{r:List D}{P:Out->T->Prop}:W (Ed st b (d :: r)) t P↔W (st d) t λ_ t1=>W b t1 λo t2=>match o with
 | .next=>W (Ed st b r) t2 P
 | .cont=>W (Ed st b r) t2 P
 | .brk=>P .next t2
 | .ret x=>P (.ret x) t2:=by
 constructor
 ·rintro ⟨o,t',e,p⟩;unfold Ed at e
  cases e1:st d t with
  | none=>rw [e1] at e;cases e
  | some z=>
    obtain ⟨u,t1⟩:=z;rw [e1] at e
    try dsimp only at e
    refine ⟨u,t1,e1,?_⟩
    cases e2:b t1 with
    | none=>rw [e2] at e;cases e
    | some z=>
      obtain ⟨o2,t2⟩:=z;rw [e2] at e
      try dsimp only at e
      refine ⟨o2,t2,e2,?_⟩
      cases o2 with
      | next=>exact ⟨o,t',e,p⟩
      | cont=>exact ⟨o,t',e,p⟩
      | brk=>cases e;exact p
      | ret x=>cases e;exact p
 ·rintro ⟨u,t1,e1,o,t2,e2,p⟩
  cases o with
  | next=>obtain ⟨o,t',e',p⟩:=p;exact ⟨o,t',by unfold Ed;simp only [e1,e2];exact e',p⟩
  | cont=>obtain ⟨o,t',e',p⟩:=p;exact ⟨o,t',by unfold Ed;simp only [e1,e2];exact e',p⟩
  | brk=>exact ⟨_,_,by unfold Ed;simp only [e1,e2],p⟩
  | ret x=>exact ⟨_,_,by unfold Ed;simp only [e1,e2],p⟩
theorem C1 {st:D->M Unit}{b:M Out}{P:Out->T->Prop}(I:List D->T->Prop):∀(ds:List D) (t:T),I ds t->
 (∀d r t,I (d :: r) t->d∈ds->W (st d) t λ_ t1=>W b t1 λo t2=>match o with
   | .next=>I r t2
   | .cont=>I r t2
   | .brk=>P .next t2
   | .ret x=>P (.ret x) t2)->(∀t,I [] t->P .next t)->W (Ed st b ds) t P
 | [],t,h,_,fin=>W_forL_nil.mpr (fin t h)
 | d :: r,t,h,turn,fin=>by
   rw [OG];refine (turn d r t h uf1).mono λ_ t1 h1=>h1.mono λo t2 h2=>?_
   cases o with
   | next=>exact C1 I r t2 h2 (λd' r' t' h' m=>turn d' r' t' h' (ud7 _ m)) fin
   | cont=>exact C1 I r t2 h2 (λd' r' t' h' m=>turn d' r' t' h' (ud7 _ m)) fin
   | brk=>exact h2
   | ret x=>exact h2
@[simp] theorem W_fComp {n:Nat} {fr:List Nat} {f:M (List D)} {st:D->M Unit} {tst:M Bool} {elt:M D} {P:List D->T->Prop}:W (DX n fr f st tst elt) t P↔W f t λds t1=>W (Do st tst elt ds) ⟨cenv n fr t1.env,t1.S⟩ λxs t'=>xs.length<=LIM/\P xs ⟨t1.env,t'.S⟩:=by
 unfold DX;rw [W_bnd];constructor
 ·rintro ⟨ds,t1,e1,xs,t',e2,p⟩;refine ⟨ds,t1,e1,?_⟩;dsimp only at e2
  cases e:Do st tst elt ds ⟨cenv n fr t1.env,t1.S⟩ with
  | none=>rw [e] at e2;cases e2
  | some z=>
    obtain ⟨ys,t3⟩:=z;rw [e] at e2;dsimp only at e2
    split at e2
    ·cases e2;exact ⟨_,_,e,by assumption,p⟩
    ·cases e2
 ·rintro ⟨ds,t1,e1,xs,t',e2,h,p⟩;exact ⟨ds,t1,e1,xs,_,by simp only [e2,h,if_true],p⟩
@[simp] theorem W_compL_nil {st:D->M Unit} {tst:M Bool} {elt:M D} {P:List D->T->Prop}:W (Do st tst elt []) t P↔P [] t:=A0 rfl
theorem HU {st:D->M Unit}{tst:M Bool}{elt:M D}{d:D}{r:List D}{P:List D->T->Prop}:W (Do st tst elt (d :: r)) t P↔W (st d) t λ_ t1=>W tst t1 λk t2=>
 if k=true then W elt t2 λx t3=>W (Do st tst elt r) t3 λxs t4=>P (x :: xs) t4 else W (Do st tst elt r) t2 P:=by
 rw [Do];simp
theorem FO {st:D->M Unit}{tst:M Bool}{elt:M D}{P:List D->T->Prop}(I:List D->List D->T->Prop):∀(ds:List D) (acc:List D) (t:T),I acc ds t->
 (∀acc d r t,I acc (d :: r) t->d∈ds->W (st d) t λ_ t1=>W tst t1 λk t2=>if k=true then W elt t2 λx t3=>I (acc++[x]) r t3 else I acc r t2)->
 (∀acc t,I acc [] t->P acc t)->W (Do st tst elt ds) t λxs t'=>P (acc++xs) t'
 | [],acc,t,h,_,fin=>W_compL_nil.mpr (by rw [ui6];exact fin acc t h)
 | d :: r,acc,t,h,turn,fin=>by
   rw [HU];have turn':∀acc d' r' t',I acc (d' :: r') t'->d'∈r->_:=λacc d' r' t' h' m=>turn acc d' r' t' h' (ud7 _ m);refine (turn acc d r t h uf1).mono λ_ t1 h1=>h1.mono λk t2 h2=>?_
   cases k with
   | true=>
     rw [if_pos rfl] at h2 ⊢;refine h2.mono λx t3 h3=>(FO I r (acc++[x]) t3 h3 turn' fin).mono λxs t4 h4=>?_;rw [ug5] at h4;exact h4
   | false=>
     rw [if_neg uf2] at h2 ⊢;exact FO I r acc t2 h2 turn' fin
theorem AR {n m:Nat}{g:M Out}{ds:List D}{P:D->List Ob->Prop}(h:ds.length=n)(w:W g ⟨env0 m ds,S⟩ λo t=>match o with
 | .ret r=>P r t.S
 | .next=>P .non t.S
 | _=>False):Wf (fnOf n m g) ds S P:=by
 obtain ⟨o,t,e,p⟩:=w
 cases o with
 | ret r=>exact ⟨r,t.S,by unfold fnOf;rw [if_pos h,e],p⟩
 | next=>exact ⟨.non,t.S,by unfold fnOf;rw [if_pos h,e],p⟩
 | brk=>exact p.elim
 | cont=>exact p.elim
@[simp] theorem W_tTru {P:Bool->T->Prop}:W EF t P↔P true t:=A0 rfl
@[simp] theorem bu {P:D->T->Prop}:W Z3 t P↔P .dic t:=A0 rfl
end F2
namespace F2
open PySem L2
variable {t:T}{P:D->T->Prop}
theorem PU {α β:Type}{o:Option β}{g:β->α×T}{Q:α->T->Prop}{m:M α}(e:m t=o.map g):W m t Q↔∃b,o=some b/\Q (g b).1 (g b).2:=by
 constructor
 ·rintro ⟨a,t',e',p⟩;rw [e] at e';obtain ⟨b,h1,h2⟩:=uc8.mp e';exact ⟨b,h1,by rw [h2];exact p⟩
 ·rintro ⟨b,h,p⟩;exact ⟨_,_,by rw [e,h];rfl,p⟩
theorem PR {α:Type}{c:Prop}[Decidable c]{z:α×T}{Q:α->T->Prop}{m:M α}(e:m t=if c then some z else none):W m t Q↔c/\Q z.1 z.2:=by
 constructor
 ·rintro ⟨a,t',e',p⟩;rw [e] at e'
  split at e'
  ·cases e';exact ⟨by assumption,p⟩
  ·cases e'
 ·rintro ⟨h,p⟩;exact ⟨_,_,by rw [e,if_pos h],p⟩
theorem Ni {α β:Type}{o:Option β}(f:β->α){Q:α->T->Prop}{m:M α}(e:m t=o.map λb=>(f b,t)):W m t Q↔∃b,o=some b/\Q (f b) t:=PU (g:=λb=>(f b,t)) e
theorem IN {α:Type}{c:Prop}[Decidable c]{a:α}{Q:α->T->Prop}{m:M α}(e:m t=if c then some (a,t) else none):W m t Q↔c/\Q a t:=PR (z:=(a,t)) e
@[simp] theorem W_ix_tup {ds:List D} {i:Int}:W (ixD (.tup ds) (.int i)) t P↔∃d,atI ds i=some d/\P d t:=Ni id rfl
@[simp] theorem W_ix_lst {ds:List D} {i:Int}:W (ixD (.lst ds) (.int i)) t P↔∃d,atI ds i=some d/\P d t:=Ni id rfl
@[simp] theorem W_ix_scr {ns:List Int} {i:Int}:W (ixD (.scr ns) (.int i)) t P↔∃n,atI ns i=some n/\P (.int n) t:=Ni D.int rfl
@[simp] theorem W_ix_str {x:Str} {i:Int}:W (ixD (.str x) (.int i)) t P↔x.length<=LIM/\∃n,atI x.cps.toList i=some n/\P (.str ⟨#[n]⟩) t:=by
 by_cases h:x.length<=LIM
 ·have:ixD (.str x) (.int i) t=(atI x.cps.toList i).map λn=>(.str ⟨#[n]⟩,t):=by simp only [ixD,h,if_true]
  rw [PU this];simp [h]
 ·rw [HV (by simp only [ixD,h,if_false])];simp [h]
@[simp] theorem Ko {α:Type} {a:α} {r:List α}:atI (a :: r) 0=some a:=by simp [atI,ixN]
@[simp] theorem Uw {α:Type} {a b:α} {r:List α}:atI (a :: b :: r) 1=some b:=by
 have:(1:Int) < ((a :: b :: r).length:Nat):=by simp;lia
 simp only [atI,ixN,this,if_true,show (0:Int)<=1 by decide];rfl
@[simp] theorem Ux {α:Type} {a b c:α} {r:List α}:atI (a :: b :: c :: r) 2=some c:=by
 have:(2:Int) < ((a :: b :: c :: r).length:Nat):=by simp;lia
 simp only [atI,ixN,this,if_true,show (0:Int)<=2 by decide];rfl
theorem UY {α:Type}{xs:List α}{i:Int}(h0:0<=i)(h1:i < xs.length):∃d,atI xs i=some d/\d∈xs/\xs[i.toNat]?=some d:=by
 have hl:i.toNat < xs.length:=by lia
 refine ⟨xs[i.toNat],?_,ui0 hl,ub6 hl⟩;simp [atI,ixN,h0,h1,hl]
@[simp] theorem W_len_lst {ds:List D}:W (B9 [.lst ds]) t P↔P (.int ds.length) t:=A0 rfl
@[simp] theorem W_len_tup {ds:List D}:W (B9 [.tup ds]) t P↔P (.int ds.length) t:=A0 rfl
@[simp] theorem W_len_scr {ds:List Int}:W (B9 [.scr ds]) t P↔P (.int ds.length) t:=A0 rfl
@[simp] theorem W_len_str {x:Str}:W (B9 [.str x]) t P↔x.length<=LIM/\P (.int x.length) t:=by simp [B9]
@[simp] theorem W_isi {d:D} {m:String}:W (Es [d,.ty m]) t P↔∃n,tyD d=some n/\∃b,LC n m=some b/\P (.bl b) t:=by
 cases e:tyD d with
 | none=>rw [HV (by simp only [Es,e])];simp
 | some n=>
   have:Es [d,.ty m] t=(LC n m).map λb=>(.bl b,t):=by simp only [Es,e]
   rw [PU this];simp
noncomputable def IS:D->Bool
 | .non=>true
 | _=>false
noncomputable def ac (b:Bool):D->Bool
 | .bl c=>c == b
 | _=>false
@[simp] theorem W_is_non {x:D}:W (isC x .non) t P↔P (.bl (IS x)) t:=A0 (by cases x <;> rfl)
@[simp] theorem bq {x:D} {b:Bool}:W (isC x (.bl b)) t P↔P (.bl (ac b x)) t:=A0 (by cases x <;> rfl)
@[simp] theorem W_isNot {x y:D}:W (Ij x y) t P↔W (isC x y) t λd t1=>W (toB d) t1 λb t2=>P (.bl (!b)) t2:=by
 unfold Ij;rw [W_bnd];constructor
 ·exact λh=>h.mono λd t1 h1=>by
   cases d with
   | bl b=>simpa using h1
   | _=>exact (W_fail.mp h1).elim
 ·exact λh=>h.mono λd t1 h1=>by
   cases d with
   | bl b=>simpa using h1
   | _=>obtain ⟨_,_,e,_⟩:=h1;cases e
@[simp] theorem W_add_int {i j:Int}:W (Bp (.int i) (.int j)) t P↔P (.int (i + j)) t:=A0 rfl
@[simp] theorem W_sub_int {i j:Int}:W (Dn (.int i) (.int j)) t P↔P (.int (i - j)) t:=A0 rfl
@[simp] theorem W_lt_int {i j:Int}:W (ltA (.int i) (.int j)) t P↔P (.bl (decide (i < j))) t:=A0 rfl
@[simp] theorem W_le_int {i j:Int}:W (leA (.int i) (.int j)) t P↔P (.bl (decide (i<=j))) t:=A0 rfl
@[simp] theorem W_gt_int {i j:Int}:W (gtA (.int i) (.int j)) t P↔P (.bl (decide (j < i))) t:=A0 rfl
@[simp] theorem W_ge_int {i j:Int}:W (geA (.int i) (.int j)) t P↔P (.bl (decide (j<=i))) t:=A0 rfl
@[simp] theorem ZQ {i j:Str}:W (ltA (.str i) (.str j)) t P↔P (.bl (decide (i.cps.toList < j.cps.toList))) t:=A0 rfl
@[simp] theorem ZN {i j:Str}:W (gtA (.str i) (.str j)) t P↔P (.bl (decide (j.cps.toList < i.cps.toList))) t:=A0 rfl
@[simp] theorem W_neg {i:Int}:W (Qk (.int i)) t P↔P (.int (-i)) t:=A0 rfl
@[simp] theorem W_fdiv {i j:Int}:W (Hk (.int i) (.int j)) t P↔(0 < j/\j < 1073741824)/\P (.int (i / j)) t:=by
 rw [PR (m:=Hk (.int i) (.int j)) (c:=MV i j=true) (z:=(.int (i / j),t)) rfl];simp [MV]
@[simp] theorem W_mod {i j:Int}:W (Gu (.int i) (.int j)) t P↔0 < j/\P (.int (i % j)) t:=by
 rw [PR (m:=Gu (.int i) (.int j)) (c:=decide (0 < j)=true) (z:=(.int (i % j),t)) rfl];simp
@[simp] theorem W_pow {i j:Int}:W (JV (.int i) (.int j)) t P↔M0 i j=true/\P (.int (i ^ j.toNat)) t:=IN rfl
@[simp] theorem W_mul_int {i j:Int}:W (Fy (.int i) (.int j)) t P↔F4 i j=true/\P (.int (i * j)) t:=IN rfl
@[simp] theorem W_mul_str {x:Str} {k:Int}:W (Fy (.str x) (.int k)) t P↔(C8 k=true/\x.length * k.toNat<=LIM/\k<=LIM/\x.length<=LIM)/\P (.str (Txt.mul x k)) t:=IN rfl
theorem G1 {i j:Int}(h1 : -18446744073709551616 < i)(h2:i < 18446744073709551616):F4 i j=true:=by simp [F4,h1,h2]
theorem Vt {i j:Int}(h1 : -18446744073709551616 < j)(h2:j < 18446744073709551616):F4 i j=true:=by simp [F4,h1,h2]
theorem CY {k:Int}(h1 : -4611686018427387904<=k)(h2:k < 4611686018427387904):C8 k=true:=by simp [C8,h1,h2]
@[simp] theorem W_add_str {x y:Str}:W (Bp (.str x) (.str y)) t P↔x.length + y.length<=LIM/\P (.str (x++y)) t:=by
 have:Bp (.str x) (.str y)=lim (x.length + y.length) (.str (x++y)):=rfl;rw [this];simp
@[simp] theorem W_add_lst {x y:List D}:W (Bp (.lst x) (.lst y)) t P↔x.length + y.length<=LIM/\P (.lst (x++y)) t:=by
 have:Bp (.lst x) (.lst y)=lim (x.length + y.length) (.lst (x++y)):=rfl;rw [this];simp
@[simp] theorem ZH {d:D} {x y:List D}:W (Bp (.tup (d :: x)) (.tup y)) t P↔x.length + 1 + y.length<=LIM/\P (.tup (d :: x++y)) t:=by
 have:Bp (.tup (d :: x)) (.tup y) t=if (d :: x).isEmpty=false/\(d :: x).length + y.length<=LIM then some (.tup (d :: x++y),t) else none:=rfl;rw [PR this];simp
@[simp] theorem Yz {y:List D}:W (Bp (.tup []) (.tup y)) t P↔P (.tup y) t:=A0 rfl
@[simp] theorem W_cat {x y:List D} {Q:List D->T->Prop}:W (JD (.lst x) (.lst y)) t Q↔x.length + y.length<=LIM/\Q (x++y) t:=by
 have:JD (.lst x) (.lst y)=lim (x.length + y.length) (x++y):=rfl;rw [this];simp
@[simp] theorem bB {i:Int}:W (ZV [.int i]) t P↔P (.int (if i < 0 then -i else i)) t:=A0 rfl
@[simp] theorem W_min {i j:Int}:W (Hv [.int i,.int j]) t P↔P (.int (if j < i then j else i)) t:=A0 rfl
@[simp] theorem W_max {i j:Int}:W (NX [.int i,.int j]) t P↔P (.int (if j > i then j else i)) t:=A0 rfl
@[simp] theorem ZI {i:Int}:W (NQ [.int i]) t P↔P (.int i) t:=A0 rfl
@[simp] theorem W_int_bl {b:Bool}:W (NQ [.bl b]) t P↔P (.int (if b then 1 else 0)) t:=A0 rfl
@[simp] theorem W_ord {x:Str}:W (LP [.str x]) t P↔x.length=1/\P (.int (x.cps.getD 0 0:Nat)) t:=IN rfl
@[simp] theorem W_tup_lst {ds:List D}:W (Oz [.lst ds]) t P↔P (.tup ds) t:=A0 rfl
@[simp] theorem W_lst_lst {ds:List D} {Q:List D->T->Prop}:W (Ht [.lst ds]) t Q↔Q ds t:=A0 rfl
@[simp] theorem ZJ {ds:List D} {Q:List D->T->Prop}:W (Ht [.tup ds]) t Q↔Q ds t:=A0 rfl
@[simp] theorem W_eq_str {g:Bool->Bool} {x y:Str}:W (eqS g (.str x) (.str y)) t P↔P (.bl (g (x == y))) t:=A0 rfl
@[simp] theorem W_eq_int {g:Bool->Bool} {x y:Int}:W (eqS g (.int x) (.int y)) t P↔P (.bl (g (x == y))) t:=A0 rfl
@[simp] theorem bp {g:Bool->Bool} {x y:Bool}:W (eqS g (.bl x) (.bl y)) t P↔P (.bl (g (x == y))) t:=A0 rfl
@[simp] theorem ZM {g:Bool->Bool} {x:List D}:W (eqS g (.lst x) (.lst [])) t P↔P (.bl (g x.isEmpty)) t:=by
 refine A0 ?_
 cases x <;> rfl
theorem Et {a b:String}:Str.ofString a=Str.ofString b↔a=b:=by
 constructor
 ·intro h;rw [Str.ofString_eq_toList,Str.ofString_eq_toList] at h;injection h with h
  have h:=congrArg Array.toList h;simp only at h;have hinj:∀xs ys:List Char,xs.map Char.toNat=ys.map Char.toNat->xs=ys:=by
   intro xs
   induction xs with
   | nil=>intro ys h;cases ys with | nil=>rfl | cons _ _=>simp at h
   | cons x xs ih=>
     intro ys h
     cases ys with
     | nil=>simp at h
     | cons y ys=>
       simp only [uk9,List.cons.injEq] at h;rw [ih ys h.2,Char.toNat_inj.mp h.1]
  exact String.toList_inj.mp (hinj _ _ (by simpa using h))
 ·exact λh=>by rw [h]
@[simp] theorem Xk {a b:String}:(Str.ofString a == Str.ofString b)=(a == b):=by
 rw [Bool.eq_iff_iff,beq_iff_eq,beq_iff_eq,Et]
@[simp] theorem W_sl_lst {ds:List D} {lo hi:Option Int}:W (DH (.lst ds) lo hi) t P↔P (.lst (Dq ds lo hi)) t:=A0 rfl
@[simp] theorem ZR {ds:List Int} {lo hi:Option Int}:W (DH (.scr ds) lo hi) t P↔P (.lst ((Dq ds lo hi).map .int)) t:=A0 rfl
@[simp] theorem ZS {x:Str} {lo hi:Option Int}:W (DH (.str x) lo hi) t P↔x.length<=LIM/\P (.str (Txt.slice x lo hi)) t:=by
 have:DH (.str x) lo hi=lim x.length (.str (Txt.slice x lo hi)):=rfl;rw [this];simp
@[simp] theorem ZU {ds:List D} {lo hi:Option Int}:W (DH (.tup ds) lo hi) t P↔P (.tup (Dq ds lo hi)) t:=A0 rfl
@[simp] theorem W_fSl {f:M D} {l u:M (Option Int)} {h:D->Option Int->Option Int->M D}:W (fSl f l u h) t P↔W f t λx t1=>W l t1 λlo t2=>W u t2 λhi t3=>W (h x lo hi) t3 P:=by simp [fSl]
@[simp] theorem W_fNo {Q:Option Int->T->Prop}:W fNo t Q↔Q none t:=A0 rfl
@[simp] theorem W_asI {i:Int} {Q:Option Int->T->Prop}:W (asI (.int i)) t Q↔Q (some i) t:=A0 rfl
@[simp] theorem W_fPart {f:M D} {Q:Option Int->T->Prop}:W (Dv f) t Q↔W f t λx t1=>W (asI x) t1 Q:=by simp [Dv]
@[simp] theorem W_fItA {f:M D} {Q:List D->T->Prop}:W (Gk f) t Q↔W f t λx t1=>W (Fk x) t1 Q:=by simp [Gk]
@[simp] theorem W_it_lst {ds:List D} {Q:List D->T->Prop}:W (Fk (.lst ds)) t Q↔Q ds t:=A0 rfl
@[simp] theorem ZP {ds:List D} {Q:List D->T->Prop}:W (Fk (.tup ds)) t Q↔Q ds t:=A0 rfl
@[simp] theorem ZO {ds:List Int} {Q:List D->T->Prop}:W (Fk (.scr ds)) t Q↔Q (ds.map .int) t:=A0 rfl
@[simp] theorem W_it_str {x:Str} {Q:List D->T->Prop}:W (Fk (.str x)) t Q↔Q (x.cps.toList.map λc=>.str ⟨#[c]⟩) t:=A0 rfl
@[simp] theorem W_fRng1 {f:M (List D)} {Q:List D->T->Prop}:W (CJ f) t Q↔W f t λx t1=>W (LX x) t1 Q:=by simp [CJ]
@[simp] theorem W_fRng2 {f:M (List D)} {Q:List D->T->Prop}:W (FY f) t Q↔W f t λx t1=>W (LY x) t1 Q:=by simp [FY]
@[simp] theorem W_rng1 {j:Int} {Q:List D->T->Prop}:W (LX [.int j]) t Q↔C8 j=true/\Q (rngL 0 j.toNat) t:=IN rfl
@[simp] theorem W_rng2 {i j:Int} {Q:List D->T->Prop}:W (LY [.int i,.int j]) t Q↔(C8 i && C8 j)=true/\Q (rngL i (j - i).toNat) t:=IN rfl
@[simp] theorem W_ownM {i:Nat} {h:List D->List D->Option (List D)} {g:M (List D)} {Q:Out->T->Prop}:W (ownM i h g) t Q↔(∃xs,t.env[i]?=some (some (.own xs)))/\W g t λds t1=>∃xs,t1.env[i]?=some (some (.own xs))/\∃ys,h xs ds=some ys/\Q .next ⟨t1.env.set i (some (.own ys)),t1.S⟩:=by
 constructor
 ·rintro ⟨o,t',e,p⟩;unfold ownM at e
  split at e
  ·next xs e0=>
   refine ⟨⟨xs,e0⟩,?_⟩;obtain ⟨ds,t1,e1,e⟩:=Aw e;refine ⟨ds,t1,e1,?_⟩
   split at e
   ·next ys e2=>
    obtain ⟨zs,e3,e4⟩:=uc8.mp e
    cases e4
    exact ⟨ys,e2,zs,e3,p⟩
   ·cases e
  ·cases e
 ·rintro ⟨⟨xs,e0⟩,ds,t1,e1,ys,e2,zs,e3,p⟩;exact ⟨_,_,by unfold ownM bnd;simp only [e0,e1,e2,e3,uj4],p⟩
@[simp] theorem app1_one {xs:List D} {d:D} {ys:List D}:DW xs [d]=some ys↔xs.length < LIM/\xs++[d]=ys:=by
 unfold DW;split <;> simp [*]
@[simp] theorem bD {f g:M D} {d:D} {Q:Unit->T->Prop}:W (stD f g d) t Q↔W f t λo t1=>W g t1 λi t2=>W (Yc o i d) t2 Q:=by simp [stD]
end F2
namespace F2
open PySem L2
variable {t:T}{P:D->T->Prop}{Q:List D->T->Prop}{R:Out->T->Prop}{B:Bool->T->Prop}{U:Unit->T->Prop}
def Gp (k:Bool)(A B:Prop):Prop:=if k=true then A else B
theorem GQ {k:Bool}{A B:Prop}(h:k=true)(a:A):Gp k A B:=by unfold Gp;rw [if_pos h];exact a
theorem Hs {k:Bool}{A B:Prop}(h:k=false)(b:B):Gp k A B:=by unfold Gp;rw [if_neg (by rw [h];exact uf2)];exact b
theorem CU {k:Bool}{A B:Prop}(a:k=true->A)(b:k=false->B):Gp k A B:=by cases h:k with
 | true=>exact GQ rfl (a h)
 | false=>exact Hs rfl (b h)
def FG (g:M Out)(R:Out->T->Prop)(o:Out)(t1:T):Prop:=match o with
 | .next=>W g t1 R
 | o=>R o t1
variable {g:M Out}{t1:T}
theorem DC (h:W g t1 R):FG g R .next t1:=h
theorem On {d:D}(h:R (.ret d) t1):FG g R (.ret d) t1:=h
theorem ba {f:M Out}(h:W f t (FG g R)):W (Aq f g) t R:=W_seqS.mpr (h.mono λo t1 h1=>by cases o <;> exact h1)
theorem Zz (h:R .next t):W AX t R:=W_skipS.mpr h
variable {f:M D}
theorem a9 (h:W f t λd t1=>R (.ret d) t1):W (AJ f) t R:=W_retS.mpr h
theorem Zj (h:W f t λd t1=>R .next t1):W (KA f) t R:=W_dropS.mpr h
theorem wIf {f:M Bool}{h:M Out}(w:W f t λk t1=>Gp k (W g t1 R) (W h t1 R)):W (ifS f g h) t R:=W_ifS.mpr w
theorem bc {i:Nat}(h:W f t λd t1=>R .next ⟨t1.env.set i (some (.val d)),t1.S⟩):W (A9 i f) t R:=W_setS.mpr h
theorem aZ {i:Nat}{f:M (List D)}(h:W f t λd t1=>R .next ⟨t1.env.set i (some (.own d)),t1.S⟩):W (EY i f) t R:=W_ownS.mpr h
theorem aB {g:D->M Unit}(h:W f t λd t1=>W (g d) t1 λ_ t2=>R .next t2):W (Dc f g) t R:=W_asgS.mpr h
theorem aF {f:M (List D)}{st:D->M Unit}{b:M Out}(h:W f t λds t1=>W (Ed st b ds) t1 R):W (C9 f st b) t R:=W_forS.mpr h
theorem wC {d:D}(h:P d t):W (fC d) t P:=W_fC.mpr h
theorem FW {i:Nat}{d:D}(e:t.env[i]?=some (some (.val d)))(h:P d t):W (Ad i) t P:=by rw [QY,e];exact h
variable {ds:List D}
theorem ZD {i:Nat}(e:t.env[i]?=some (some (.own ds)))(h:P (.lst ds) ⟨t.env.set i (some (.val (.lst ds))),t.S⟩):W (Ad i) t P:=by rw [QY,e];exact h
theorem L8 {g:M D}{h:D->D->M D}(w:W f t λx t1=>W g t1 λy t2=>W (h x y) t2 P):W (Ah f g h) t P:=W_fBin.mpr w
theorem wUn {h:D->M D}(w:W f t λx t1=>W (h x) t1 P):W (fUn f h) t P:=W_fUn.mpr w
theorem EH {α β:Type}{f:M α}{g:α->M β}{K:β->T->Prop}(w:W f t λx t1=>W (g x) t1 K):W (bnd f g) t K:=W_bnd.mpr w
theorem QO {b:Bool}(h:B b t):W (toB (.bl b)) t B:=W_toB.mpr h
theorem QP (h:W f t λx t1=>W (toB x) t1 B):W (AQ f) t B:=W_fTst.mpr h
theorem Yn {g w:M D}{h h':D->D->M D}(q:W f t λx t1=>W g t1 λy t2=>W (h x y) t2 λk t3=>W (toB k) t3 λk t4=>Gp k (W w t4 λz t5=>W (h' y z) t5 P) (P (.bl false) t4)):W (Gj f g w h h') t P:=W_fChain.mpr q
theorem ay {f g:M Bool}(h:W f t λk t1=>Gp k (W g t1 B) (B false t1)):W (NG f g) t B:=W_fAnd.mpr h
theorem wOr {f g:M Bool}(h:W f t λk t1=>Gp k (B true t1) (W g t1 B)):W (fOr f g) t B:=W_fOr.mpr h
theorem aX {f:M Bool}(h:W f t λk t1=>B (!k) t1):W (Dr f) t B:=W_fNot.mpr h
theorem Zd {g:M D}(h:W f t λx t1=>W (toB x) t1 λk t2=>Gp k (W g t2 P) (P (.bl false) t2)):W (FX f g) t P:=W_fAndV.mpr h
theorem Zr (h:W f t λx t1=>W (toB x) t1 λk t2=>P (.bl (!k)) t2):W (KC f) t P:=W_fNotV.mpr h
theorem aL {f:M Bool}{g h:M D}(w:W f t λk t1=>Gp k (W g t1 P) (W h t1 P)):W (fIf f g h) t P:=W_fIf.mpr w
theorem Kh (h:Q [] t):W Aj t Q:=W_fNil.mpr h
theorem EV {g:M (List D)}(h:W f t λd t1=>W g t1 λds t2=>Q (d :: ds) t2):W (Ac f g) t Q:=W_fCons.mpr h
def Il (n:Nat)(A:Prop):Prop:=n<=LIM/\A
variable {n:Nat}
theorem Cm {A:Prop}(h:n<=LIM)(a:A):Il n A:=⟨h,a⟩
theorem bi {f:M (List D)}(h:W f t λds t1=>Il ds.length (P (.tup ds) t1)):W (B4 f) t P:=W_fTup.mpr h
theorem aS {f:M (List D)}(h:W f t λds t1=>Il ds.length (Q ds t1)):W (BJ f) t Q:=W_fLst.mpr h
theorem Zv {f:M (List D)}(h:W f t λds t1=>P (.lst ds) t1):W (Bb f) t P:=W_fPure.mpr h
theorem aY {f:M (List D)}(h:W f t λds t1=>P (.obj t1.S.length) ⟨t1.env,t1.S++[.lst ds]⟩):W (Lz f) t P:=by rw [WO];exact h.mono λds t1 h=>W_newOb.mpr h
theorem Lg {g:Fn}{f:M (List D)}(h:W f t λds t1=>Wf g ds t1.S λr S'=>P r ⟨t1.env,S'⟩):W (Ar g f) t P:=W_fCall.mpr h
theorem wB {f:M (List D)}{h:List D->M D}(w:W f t λds t1=>W (h ds) t1 P):W (fB f h) t P:=W_fB.mpr w
theorem wBF {f:M (List D)}{h:List D->M (List D)}(w:W f t λds t1=>W (h ds) t1 Q):W (fBF f h) t Q:=W_fBF.mpr w
theorem IG {i:Nat}{d:D}(h:U () ⟨t.env.set i (some (.val d)),t.S⟩):W (By i d) t U:=W_putV.mpr h
theorem Wy (h:U () t):W (Ev []) t U:=W_putNil.mpr h
theorem Uo {f:D->M Unit}{g:List D->M Unit}{d:D}(h:W (f d) t λ_ t1=>W (g ds) t1 U):W (B3 f g (d :: ds)) t U:=W_putCons.mpr h
theorem bj {g:List D->M Unit}(e:ds.length=n)(h:W (g ds) t U):W (unS n g (.lst ds)) t U:=W_unS_lst.mpr ⟨e,h⟩
theorem bn {g:List D->M Unit}(e:ds.length=n)(h:W (g ds) t U):W (unS n g (.tup ds)) t U:=W_unS_tup.mpr ⟨e,h⟩
theorem Zi {fr:List Nat}{f:M (List D)}{st:D->M Unit}{tst:M Bool}{elt:M D}(h:W f t λds t1=>W (Do st tst elt ds) ⟨cenv n fr t1.env,t1.S⟩ λxs t'=>Il xs.length (Q xs ⟨t1.env,t'.S⟩)):W (DX n fr f st tst elt) t Q:=W_fComp.mpr h
theorem IH (h:B true t):W EF t B:=W_tTru.mpr h
variable {i:Int}
theorem HL {d:D}(e:atI ds i=some d)(h:P d t):W (ixD (.tup ds) (.int i)) t P:=W_ix_tup.mpr ⟨d,e,h⟩
theorem B2 {d:D}(e:atI ds i=some d)(h:P d t):W (ixD (.lst ds) (.int i)) t P:=W_ix_lst.mpr ⟨d,e,h⟩
theorem US (h:P (.int ds.length) t):W (B9 [.lst ds]) t P:=W_len_lst.mpr h
theorem UU (h:P (.int ds.length) t):W (B9 [.tup ds]) t P:=W_len_tup.mpr h
theorem Zo {ds:List Int}(h:P (.int ds.length) t):W (B9 [.scr ds]) t P:=W_len_scr.mpr h
variable {x:Str}
theorem UT (e:x.length<=LIM)(h:P (.int x.length) t):W (B9 [.str x]) t P:=W_len_str.mpr ⟨e,h⟩
theorem aN {d:D}{m n:String}{b:Bool}(e:tyD d=some n)(e':LC n m=some b)(h:P (.bl b) t):W (Es [d,.ty m]) t P:=W_isi.mpr ⟨n,e,b,e',h⟩
theorem aM {x:D}(h:P (.bl (IS x)) t):W (isC x .non) t P:=W_is_non.mpr h
theorem Ys {x y:D}(h:W (isC x y) t λd t1=>W (toB d) t1 λb t2=>P (.bl (!b)) t2):W (Ij x y) t P:=W_isNot.mpr h
variable {j:Int}
theorem Za (h:P (.int (i + j)) t):W (Bp (.int i) (.int j)) t P:=W_add_int.mpr h
theorem ZA (h:P (.int (i - j)) t):W (Dn (.int i) (.int j)) t P:=W_sub_int.mpr h
theorem aT (h:P (.bl (decide (i < j))) t):W (ltA (.int i) (.int j)) t P:=W_lt_int.mpr h
theorem aR (h:P (.bl (decide (i<=j))) t):W (leA (.int i) (.int j)) t P:=W_le_int.mpr h
theorem aH (h:P (.bl (decide (j < i))) t):W (gtA (.int i) (.int j)) t P:=W_gt_int.mpr h
theorem aG (h:P (.bl (decide (j<=i))) t):W (geA (.int i) (.int j)) t P:=W_ge_int.mpr h
theorem aW (h:P (.int (-i)) t):W (Qk (.int i)) t P:=W_neg.mpr h
theorem Yp (h1:0 < j)(h2:j < 1073741824)(h:P (.int (i / j)) t):W (Hk (.int i) (.int j)) t P:=W_fdiv.mpr ⟨⟨h1,h2⟩,h⟩
theorem OC (h1:0 < j)(h:P (.int (i % j)) t):W (Gu (.int i) (.int j)) t P:=W_mod.mpr ⟨h1,h⟩
theorem a7 (h1:M0 i j=true)(h:P (.int (i ^ j.toNat)) t):W (JV (.int i) (.int j)) t P:=W_pow.mpr ⟨h1,h⟩
theorem Jh (h1:F4 i j=true)(h:P (.int (i * j)) t):W (Fy (.int i) (.int j)) t P:=W_mul_int.mpr ⟨h1,h⟩
theorem Zq {k:Int}(h1:C8 k=true/\x.length * k.toNat<=LIM/\k<=LIM/\x.length<=LIM)(h:P (.str (Txt.mul x k)) t):W (Fy (.str x) (.int k)) t P:=W_mul_str.mpr ⟨h1,h⟩
theorem Zc {y:Str}(h:Il (x.length + y.length) (P (.str (x++y)) t)):W (Bp (.str x) (.str y)) t P:=W_add_str.mpr h
theorem Zb {x y:List D}(h:Il (x.length + y.length) (P (.lst (x++y)) t)):W (Bp (.lst x) (.lst y)) t P:=W_add_lst.mpr h
theorem aC {x y:List D}(h:Il (x.length + y.length) (Q (x++y) t)):W (JD (.lst x) (.lst y)) t Q:=W_cat.mpr h
theorem aV (h:P (.int (if j < i then j else i)) t):W (Hv [.int i,.int j]) t P:=W_min.mpr h
theorem aU (h:P (.int (if j > i then j else i)) t):W (NX [.int i,.int j]) t P:=W_max.mpr h
theorem Zl {i:Bool}(h:P (.int (if i then 1 else 0)) t):W (NQ [.bl i]) t P:=W_int_bl.mpr h
theorem Yt (e:x.length=1)(h:P (.int (x.cps.getD 0 0:Nat)) t):W (LP [.str x]) t P:=W_ord.mpr ⟨e,h⟩
theorem ZB (h:P (.tup ds) t):W (Oz [.lst ds]) t P:=W_tup_lst.mpr h
theorem Zp (h:Q ds t):W (Ht [.lst ds]) t Q:=W_lst_lst.mpr h
theorem Ul {g:Bool->Bool}{y:Str}(h:P (.bl (g (x == y))) t):W (eqS g (.str x) (.str y)) t P:=W_eq_str.mpr h
theorem Yr {g:Bool->Bool}{x y:Int}(h:P (.bl (g (x == y))) t):W (eqS g (.int x) (.int y)) t P:=W_eq_int.mpr h
theorem bg {lo hi:Option Int}(h:P (.lst (Dq ds lo hi)) t):W (DH (.lst ds) lo hi) t P:=W_sl_lst.mpr h
theorem wSl {l u:M (Option Int)}{h:D->Option Int->Option Int->M D}(w:W f t λx t1=>W l t1 λlo t2=>W u t2 λhi t3=>W (h x lo hi) t3 P):W (fSl f l u h) t P:=W_fSl.mpr w
variable {K:Option Int->T->Prop}
theorem wNo (h:K none t):W fNo t K:=W_fNo.mpr h
theorem aA (h:K (some i) t):W (asI (.int i)) t K:=W_asI.mpr h
theorem Zu (h:W f t λx t1=>W (asI x) t1 K):W (Dv f) t K:=W_fPart.mpr h
theorem aO (h:W f t λx t1=>W (Fk x) t1 Q):W (Gk f) t Q:=W_fItA.mpr h
theorem aP (h:Q ds t):W (Fk (.lst ds)) t Q:=W_it_lst.mpr h
theorem aQ (h:Q (x.cps.toList.map λc=>.str ⟨#[c]⟩) t):W (Fk (.str x)) t Q:=W_it_str.mpr h
theorem Zw {f:M (List D)}(h:W f t λx t1=>W (LX x) t1 Q):W (CJ f) t Q:=W_fRng1.mpr h
theorem Zx {f:M (List D)}(h:W f t λx t1=>W (LY x) t1 Q):W (FY f) t Q:=W_fRng2.mpr h
theorem Ee (e:C8 j=true)(h:Q (rngL 0 j.toNat) t):W (LX [.int j]) t Q:=W_rng1.mpr ⟨e,h⟩
theorem Up (e:(C8 i && C8 j)=true)(h:Q (rngL i (j - i).toNat) t):W (LY [.int i,.int j]) t Q:=W_rng2.mpr ⟨e,h⟩
theorem Zt {i:Nat}{xs:List D}{h:List D->List D->Option (List D)}{g:M (List D)}(e:t.env[i]?=some (some (.own xs)))(w:W g t λds t1=>∃xs,t1.env[i]?=some (some (.own xs))/\∃ys,h xs ds=some ys/\R .next ⟨t1.env.set i (some (.own ys)),t1.S⟩):W (ownM i h g) t R:=W_ownM.mpr ⟨⟨xs,e⟩,w⟩
theorem az {i:Nat}{xs:List D}{d:D}{A:List D->Prop}(e:t1.env[i]?=some (some (.own xs)))(w:Il (xs.length + 1) (A (xs++[d]))):∃xs,t1.env[i]?=some (some (.own xs))/\∃ys,DW xs [d]=some ys/\A ys:=
 ⟨xs,e,_,app1_one.mpr ⟨w.1,rfl⟩,w.2⟩
end F2
namespace F2
open PySem L2
variable {i:Nat}{g:Fn}{d':D}
section
variable {t:T}{P:D->T->Prop}{B:Bool->T->Prop}{Q:List D->T->Prop}
theorem ZC {n:Int}{ds:List D}{d:D}(e:t.env[i]?=some (some (.val (.tup ds))))(a:atI ds n=some d)(h:P d t):W (Ah (Ad i) (fC (.int n)) ixD) t P:=L8 (FW e (wC (HL a h)))
theorem Zn {x y:Str}{ds:List D}{g:Bool->Bool}(e:t.env[i]?=some (some (.val (.tup (.str y :: ds)))))(h:B (g (y == x)) t):W (AQ (Ah (Ah (Ad i) (fC (.int 0)) ixD) (fC (.str x)) (eqS g))) t B:=QP (L8 (L8 (FW e (wC (HL Ko (wC (Ul (QO h))))))))
theorem Yv {x y:Str}{g:Bool->Bool}(e:t.env[i]?=some (some (.val (.str y))))(h:B (g (y == x)) t):W (AQ (Ah (Ad i) (fC (.str x)) (eqS g))) t B:=QP (L8 (FW e (wC (Ul (QO h)))))
theorem Yu {x y:Int}{g:Bool->Bool}(e:t.env[i]?=some (some (.val (.int y))))(h:B (g (y == x)) t):W (AQ (Ah (Ad i) (fC (.int x)) (eqS g))) t B:=QP (L8 (FW e (wC (Yr (QO h)))))
theorem Wu {d:D}(e:t.env[i]?=some (some (.val d)))(h:Wf g [d] t.S λr S'=>P r ⟨t.env,S'⟩):W (Ar g (Ac (Ad i) Aj)) t P:=Lg (EV (FW e (Kh h)))
theorem Wv {j:Nat}{d:D}(e:t.env[i]?=some (some (.val d)))(e':t.env[j]?=some (some (.val d')))(h:Wf g [d,d'] t.S λr S'=>P r ⟨t.env,S'⟩):W (Ar g (Ac (Ad i) (Ac (Ad j) Aj))) t P:=Lg (EV (FW e (EV (FW e' (Kh h)))))
theorem Wx {d:D}(e:t.env[i]?=some (some (.val d)))(h:Wf g [d,d'] t.S λr S'=>P r ⟨t.env,S'⟩):W (Ar g (Ac (Ad i) (Ac (fC d') Aj))) t P:=Lg (EV (FW e (EV (wC (Kh h)))))
theorem Ww {j k:Nat}{d d'':D}(e:t.env[i]?=some (some (.val d)))(e':t.env[j]?=some (some (.val d')))(e'':t.env[k]?=some (some (.val d'')))(h:Wf g [d,d',d''] t.S λr S'=>P r ⟨t.env,S'⟩):W (Ar g (Ac (Ad i) (Ac (Ad j) (Ac (Ad k) Aj)))) t P:=Lg (EV (FW e (EV (FW e' (EV (FW e'' (Kh h)))))))
end
end F2
set_option maxHeartbeats 1000000
namespace LW
open PySem L2 F2
set_option compiler.extract_closed false
local macro_rules | `(tactic| walk_at "w1")=>`(tactic| first
 | ((with_reducible first | refine' Zn ?wv ?_ | refine' Yv ?wv ?_ | refine' Wu ?wv ?_);(case wv=>exact rfl))
 | ((with_reducible first | refine' Yu ?wv ?_ | refine' Wx ?wv ?_);(case wv=>exact rfl))
 | ((with_reducible refine' ZC ?wv ?wu ?_);(case wv=>exact rfl);(case wu=>first | exact rfl | exact Ko | exact Uw | exact Ux))
 | ((with_reducible refine' Wv ?wv ?wu ?_);(case wv=>exact rfl);(case wu=>exact rfl))
 | ((with_reducible refine' Ww ?wv ?wu ?wt ?_);(case wv=>exact rfl);(case wu=>exact rfl);(case wt=>exact rfl))
 | with_reducible (first | refine ba ?_ | refine DC ?_ | refine On ?_ | refine bc ?_ | refine L8 ?_ | refine wC ?_ | refine EV ?_ | refine Kh ?_ | refine wIf ?_ | refine QP ?_ | refine QO ?_ | refine a9 ?_ | refine Lg ?_ | refine Ul ?_ | refine Yr ?_ | refine wEqB ?_ | refine Za ?_ | refine ZA ?_ | refine Zz ?_ | refine wB ?_ | refine wBF ?_ | refine Zv ?_ | refine bi ?_ | refine aS ?_ | refine aY ?_ | refine aB ?_ | refine aF ?_ | refine ay ?_ | refine wOr ?_ | refine aX ?_ | refine Zd ?_ | refine wOrV ?_ | refine Zr ?_ | refine aL ?_ | refine Yn ?_ | refine wUn ?_ | refine aW ?_ | refine aM ?_ | refine wIsB ?_ | refine Ys ?_ | refine aT ?_ | refine aR ?_ | refine aH ?_ | refine aG ?_ | refine wLtS ?_ | refine wGtS ?_ | refine US ?_ | refine UU ?_ | refine Zo ?_ | refine wAbs ?_ | refine aV ?_ | refine aU ?_ | refine wInt ?_ | refine Zl ?_ | refine ZB ?_ | refine Zp ?_ | refine wLstT ?_ | refine Zc ?_ | refine Zb ?_ | refine wAddT ?_ | refine wAddT0 ?_ | refine aC ?_ | refine wEqNil ?_ | refine wSl ?_ | refine wNo ?_ | refine Zu ?_ | refine aA ?_ | refine bg ?_ | refine wSlR ?_ | refine wSlS ?_ | refine wSlT ?_ | refine aO ?_ | refine aP ?_ | refine wItT ?_ | refine wItR ?_ | refine aQ ?_ | refine Zw ?_ | refine Zx ?_ | refine IG ?_ | refine Wy ?_ | refine Uo ?_ | refine Zi ?_ | refine IH ?_ | refine wDic ?_ | refine aZ ?_ | refine EH ?_ | refine Zj ?_ | refine wStD ?_)
 | ((with_reducible first | refine' FW ?wv ?_ | refine' GQ ?wv ?_ | refine' bj ?wv ?_ | refine' Zt ?wv ?_ | refine' az ?wv ?_);(case wv=>exact rfl))
 | ((with_reducible first | refine' Hs ?wv ?_ | refine' ZD ?wv ?_ | refine' bn ?wv ?_);(case wv=>exact rfl))
 | ((with_reducible first | refine' HL ?wv ?_ | refine' B2 ?wv ?_);(case wv=>first | exact rfl | exact Ko | exact Uw | exact Ux))
 | ((with_reducible refine Cm ?wv ?_);(case wv=>exact ud4 rfl))
 | ((with_reducible refine' aN ?wv ?wu ?_);(case wv=>exact rfl);(case wu=>exact rfl))
 | ((with_reducible refine Yp ?wv ?wu ?_);(case wv=>decide);(case wu=>decide))
 | ((with_reducible first | refine' a7 ?wv ?_ | refine' OC ?wv ?_ | refine' Ee ?wv ?_ | refine' Up ?wv ?_);(case wv=>decide)))
local macro_rules | `(tactic| right)=>`(tactic| repeat (walk_at "w1"))
structure DeckAt (k c:Nat)(S:List Ob):Prop where
 ne:k≠c
 at_:∃(cells:List Int) (par pos:Int),S[k]?=some (.lst [.obj c,.int par,.int pos])/\S[c]?=some (.lst (cells.map .int))/\cells≠[]/\0<=pos
def bH (k c:Nat)(S S':List Ob):Prop:=S'.length=S.length/\∀j:Nat,j≠k->j≠c->S'[j]?=S[j]?
variable {n:Nat}{i:Int}
theorem CT (h0:0<=i)(h1:i < n):ixN n i=some i.toNat:=by simp [ixN,h0,h1]
variable {S:List Ob}{o o':Ob}
theorem IQ {k:Nat}(h:S[k]?=some o):(S.set k o')[k]?=some o':=by
 obtain ⟨hl,_⟩:=ub1.mp h;exact uc3 hl
inductive Sh where
 | nothing | number (lo hi:Int) | text (m:Int) | list (s:Sh) (m:Int) | pair (s r:Sh) | choice (ss:List Sh)
mutual
noncomputable def Sh.d:Sh->D
 | .nothing=>.tup [.str "nothing"]
 | .number lo hi=>.tup [.str "number",.int lo,.int hi]
 | .text m=>.tup [.str "text",.int m]
 | .list s m=>.tup [.str "list",s.d,.int m]
 | .pair s r=>.tup [.str "pair",s.d,r.d]
 | .choice ss=>.tup [.str "choice",.tup (shD ss)]
noncomputable def shD:List Sh->List D
 | []=>[]
 | s :: r=>s.d :: shD r
end
mutual
noncomputable def Sh.depth:Sh->Nat
 | .nothing=>1
 | .number _ _=>1
 | .text _=>1
 | .list s _=>s.depth + 1
 | .pair s r=>max s.depth r.depth + 1
 | .choice ss=>FN ss + 1
noncomputable def FN:List Sh->Nat
 | []=>0
 | s :: r=>max s.depth (FN r)
end
theorem E9:∀ss:List Sh,(shD ss).length=ss.length
 | []=>rfl
 | s :: r=>by simp [shD,E9 r]
theorem Hb:∀(ss:List Sh) (k:Nat),(shD ss)[k]?=(ss[k]?).map Sh.d
 | [],k=>by simp [shD]
 | s :: r,0=>by simp [shD]
 | s :: r,k + 1=>by simp [shD,Hb r k]
theorem DV:∀(ss:List Sh) (k:Nat) (s:Sh),ss[k]?=some s->s.depth<=FN ss
 | [],k,s,h=>by simp at h
 | s :: r,0,s',h=>by simp at h;subst h;simp [FN];lia
 | s :: r,k + 1,s',h=>by
   have:=DV r k s' (by simpa using h);simp [FN];lia
theorem Sh.depth_pos (s:Sh):1<=s.depth:=by cases s <;> simp [Sh.depth]
noncomputable def CK (n:Nat):Bool:=decide (32<=n) && decide (n<=126) && decide (n≠37)
noncomputable def JJ:Str->Bool:=λo=>o == ("of" : Str)
mutual
def AA:Sh->D->Bool
 | .nothing,d=>IS d
 | .number lo hi,d=>match d with
   | .int i=>decide (lo<=i) && decide (i<=hi)
   | _=>false
 | .text m,d=>match d with
   | .str x=>decide ((x.length:Int)<=m) && x.cps.toList.all CK
   | _=>false
 | .list s m,d=>match d with
   | .lst ds=>decide ((ds.length:Int)<=m) && ds.all λe=>AA s e
   | _=>false
 | .pair s r,d=>match d with
   | .tup [a,b]=>AA s a && AA r b
   | _=>false
 | .choice ss,d=>match d with
   | .tup [.str o,.int k,x]=>JJ o && (decide (0<=k) && decide (k < ss.length)) && KG ss k.toNat x
   | _=>false
def KG:List Sh->Nat->D->Bool
 | [],_,_=>false
 | s :: _,0,d=>AA s d
 | _ :: r,k + 1,d=>KG r k d
end
theorem DU:∀(ss:List Sh) (k:Nat) (s:Sh) (d:D),ss[k]?=some s->KG ss k d=AA s d
 | [],k,s,d,h=>by simp at h
 | s :: r,0,s',d,h=>by simp at h;subst h;simp [KG]
 | s :: r,k + 1,s',d,h=>by rw [KG];exact DU r k s' d (by simpa using h)
mutual
noncomputable def okD:D->Bool
 | .str x=>decide (x.length<=90000)
 | .tup xs=>oks xs
 | .lst xs=>oks xs
 | .obj _=>false
 | .scr _=>false
 | .exc _ _=>false
 | .ty _=>false
 | _=>true
noncomputable def oks:List D->Bool
 | []=>true
 | d :: r=>okD d && oks r
end
theorem IY:∀{xs:List D},oks xs=true->∀d∈xs,okD d=true
 | x :: r,h,d,m=>by
   rw [oks,uh4] at h;rcases uk6.mp m with z | z
   ·subst z;exact h.1
   ·exact IY h.2 d z
abbrev Pure1 (f:Fn)(ds:List D)(r:D):Prop:=∀S,Wf f ds S λv S'=>v=r/\S'=S
variable {ds:List D}
theorem Pure1.use {f:Fn}{r:D}(h:Pure1 f ds r){S:List Ob}{P:D->List Ob->Prop}(p:P r S):Wf f ds S P:=(h S).mono λ_ _ ⟨e1,e2⟩=>by subst e1 e2;exact p
noncomputable def Ry:D->Bool
 | .int _=>true
 | _=>false
theorem NR {d:D}(h:okD d=true):Pure1 (fnOf 1 1 FM) [d] (.bl (Ry d)):=by
 intro S;refine AR rfl ?_;unfold FM
 cases d <;> first | (simp [okD] at h;done) | (right;exact ⟨rfl,rfl⟩)
noncomputable def Gd (lo hi:Int):D->Bool
 | .int i=>decide (lo<=i) && decide (i<=hi)
 | _=>false
def O1 (f:Fn):Prop:=∀d,okD d=true->Pure1 f [d] (.bl (Ry d))
def Hd (f:Fn):Prop:=∀d lo hi,okD d=true->Pure1 f [d,.int lo,.int hi] (.bl (Gd lo hi d))
variable {c:Fn}
theorem SO (hc:O1 c):Hd (fnOf 3 3 (Dy c)):=by
 intro d lo hi h S;refine AR rfl ?_;unfold Dy;right;refine (hc d h).use ?_
 cases d with
 | int i=>
   right;refine CU (λe=>?_) λe=>?_
   ·right;exact ⟨by simp only [Gd,e,ul1],rfl⟩
   ·exact ⟨by simp only [Gd,e,uk1],rfl⟩
 | _=>right;exact ⟨rfl,rfl⟩
def Kl (f:Fn):Prop:=∀n:Nat,Pure1 f [.int n] (.bl (CK n))
theorem Qe:Kl (fnOf 1 1 GI):=by
 intro n S;refine AR rfl ?_;unfold GI;right;have c1:decide ((32:Int)<=n)=decide (32<=n):=decide_eq_decide.mpr (by lia);have c2:decide ((n:Int)<=126)=decide (n<=126):=decide_eq_decide.mpr (by lia);have c3:(!((n:Int) == 37))=decide (n≠37):=by
  by_cases h:n=37
  ·subst h;rfl
  ·have:¬((n:Int)=37):=by lia
   simp [h,this]
 rw [c1];refine CU (λe=>?_) λe=>?_
 ·right;rw [c2];refine CU (λe'=>?_) λe'=>?_
  ·right;exact ⟨by simp only [CK,e,e',c3,ul1],rfl⟩
  ·exact ⟨by simp only [CK,e,e',uk1,uk2],rfl⟩
 ·right;exact ⟨by simp only [CK,e,uk1],rfl⟩
def Nh (f:Fn):Prop:=∀m d,okD d=true->Pure1 f [(Sh.text m).d,d] (.bl (AA (.text m) d))
theorem NM (hc:Kl c):Nh (fnOf 2 3 (FL c)):=by
 intro m d h S;refine AR rfl ?_;unfold FL;rw [Sh.d]
 cases d with
 | str x=>
   have hx:x.length<=LIM:=ul7 (by simpa [okD] using h) (show 90000<=LIM by decide);right;refine UT hx ?_;right;refine CU (λe=>?_) λe=>?_
   ·right;have:¬((x.length:Int)<=m):=by have:=uh0 e;lia
    exact ⟨by simp [AA,this],rfl⟩
   ·right;have e':(x.length:Int)<=m:=by have:=of_decide_eq_false e;lia
    refine C1 (λr t=>t.S=S/\∃cs:List Nat,r=cs.map (λc=>D.str ⟨#[c]⟩)/\(x.cps.toList.all CK=cs.all CK)/\∃z,t.env=[some (.val (.tup [.str "text",.int m])),some (.val (.str x)),z]) _ _ ⟨rfl,x.cps.toList,rfl,rfl,_,rfl⟩ ?_ ?_
    ·rintro d r t ⟨hs,cs,hr,hall,z,ht⟩ _;obtain ⟨env,S2⟩:=t;subst hs ht
     cases cs with
     | nil=>simp at hr
     | cons c cs=>
       simp only [uk9,List.cons.injEq] at hr;obtain ⟨rfl,rfl⟩:=hr;right;refine Yt rfl ?_;right;refine (hc c).use ?_;right;refine CU (λq=>?_) λq=>?_
       ·right;have q':CK c=false:=by simpa using q
        refine ⟨?_,rfl⟩;simp only [AA,hall,uk8,q',uk1,uk2]
       ·right;have q':CK c=true:=by simpa using q
        exact ⟨rfl,cs,rfl,by rw [hall,uk8,q',ul1],_,rfl⟩
    ·rintro t ⟨hs,cs,hr,hall,z,ht⟩;obtain ⟨env,S2⟩:=t;subst hs ht;have:cs=[]:=by cases cs with | nil=>rfl | cons _ _=>simp at hr
     subst this;right;exact ⟨by simp [AA,e',hall],rfl⟩
 | obj _=>simp [okD] at h
 | scr _=>simp [okD] at h
 | ty _=>simp [okD] at h
 | exc _ _=>simp [okD] at h
 | _=>right;exact ⟨by simp [AA],rfl⟩
def Ge (f:Fn)(n:Nat):Prop:=∀s:Sh,s.depth<=n->∀d,okD d=true->Pure1 f [s.d,d] (.bl (AA s d))
def QT (f:Fn)(n:Nat):Prop:=∀(s:Sh) (m:Int),s.depth<=n->∀d,okD d=true->Pure1 f [(Sh.list s m).d,d] (.bl (AA (.list s m) d))
theorem NK (hc:Ge c n):QT (fnOf 2 3 (FJ c)) n:=by
 intro s m hs d h S;refine AR rfl ?_;unfold FJ;rw [Sh.d]
 cases d with
 | lst ds=>
   have hx:∀d∈ds,okD d=true:=IY (by simpa [okD] using h);right;refine CU (λe=>?_) λe=>?_
   ·right;have:¬((ds.length:Int)<=m):=by have:=uh0 e;lia
    exact ⟨by simp [AA,this],rfl⟩
   ·right;have e':(ds.length:Int)<=m:=by have:=of_decide_eq_false e;lia
    refine C1 (λr t=>t.S=S/\(ds.all (λe=>AA s e)=r.all λe=>AA s e)/\∃z,t.env=[some (.val (.tup [.str "list",s.d,.int m])),some (.val (.lst ds)),z]) _ _ ⟨rfl,rfl,_,rfl⟩ ?_ ?_
    ·rintro d r t ⟨hS,hall,z,ht⟩ hm;obtain ⟨env,S2⟩:=t;subst hS ht;right;refine (hc s hs d (hx d hm)).use ?_;right;refine CU (λq=>?_) λq=>?_
     ·right;have q':AA s d=false:=by simpa using q
      refine ⟨?_,rfl⟩;simp only [AA,hall,uk8,q',uk1,uk2]
     ·right;have q':AA s d=true:=by simpa using q
      exact ⟨rfl,by rw [hall,uk8,q',ul1],_,rfl⟩
    ·rintro t ⟨hS,hall,z,ht⟩;obtain ⟨env,S2⟩:=t;subst hS ht;right;exact ⟨by simp only [AA,e',decide_true,hall,List.all_nil,ul1],rfl⟩
 | obj _=>simp [okD] at h
 | scr _=>simp [okD] at h
 | ty _=>simp [okD] at h
 | exc _ _=>simp [okD] at h
 | _=>right;exact ⟨by simp [AA],rfl⟩
def QX (f:Fn)(n:Nat):Prop:=∀(s r:Sh),s.depth<=n->r.depth<=n->∀d,okD d=true->Pure1 f [(Sh.pair s r).d,d] (.bl (AA (.pair s r) d))
theorem NL (hc:Ge c n):QX (fnOf 2 2 (FK c)) n:=by
 intro s r hs hr d h S;refine AR rfl ?_;unfold FK;rw [Sh.d]
 cases d with
 | tup ds=>
   have hx:∀d∈ds,okD d=true:=IY (by simpa [okD] using h);right
   match ds,hx with
   | [],_=>right;exact ⟨by simp [AA],rfl⟩
   | [a],_=>right;exact ⟨by simp [AA],rfl⟩
   | [a,b],hx=>
     right;refine (hc s hs a (hx a (by simp))).use ?_;right;refine CU (λe=>?_) λe=>?_
     ·right;refine (hc r hr b (hx b (by simp))).use ?_;exact ⟨by simp only [AA,e,ul1],rfl⟩
     ·exact ⟨by simp only [AA,e,uk1],rfl⟩
   | a :: b :: e :: l,_=>
     refine GQ ?_ ?_
     ·show (!(((a :: b :: e :: l).length:Int) == 2))=true;simp;lia
     right;exact ⟨by simp [AA],rfl⟩
 | obj _=>simp [okD] at h
 | scr _=>simp [okD] at h
 | ty _=>simp [okD] at h
 | exc _ _=>simp [okD] at h
 | _=>right;exact ⟨by simp [AA],rfl⟩
def M3 (f:Fn)(n:Nat):Prop:=∀(ss:List Sh),FN ss<=n->∀d,okD d=true->Pure1 f [(Sh.choice ss).d,d] (.bl (AA (.choice ss) d))
theorem LA {c':Fn}(hc:Ge c n)(hw:Hd c'):M3 (fnOf 2 2 (EO c c')) n:=by
 intro ss hs d h S;refine AR rfl ?_;unfold EO;rw [Sh.d]
 cases d with
 | tup ds=>
   have hx:∀d∈ds,okD d=true:=IY (by simpa [okD] using h);right
   match ds,hx with
   | [],_=>right;exact ⟨by simp [AA],rfl⟩
   | [a],_=>right;exact ⟨by simp [AA],rfl⟩
   | [a,b],_=>right;exact ⟨by simp [AA],rfl⟩
   | [a,b,e],hx=>
     right;have ha:=hx a (by simp)
     cases a with
     | str o=>
       right;refine CU (λq=>?_) λq=>?_
       ·right;have q':JJ o=false:=by simpa [JJ] using q
        refine ⟨?_,rfl⟩
        cases b <;> simp only [AA,q',uk1]
       ·right;have q':JJ o=true:=by simpa [JJ] using q
        refine (hw b 0 _ (hx b (by simp))).use ?_;right
        cases b with
        | int k=>
          refine CU (λq=>?_) λq=>?_
          ·right;refine ⟨?_,rfl⟩;have:(decide (0<=k) && decide (k < (ss.length:Int)))=false:=by
            have q2:k < 0\/((shD ss).length:Int) - 1 < k:=by simpa [Gd] using q
            rw [E9] at q2;simp;lia
           simp only [AA,this,uk1,uk2]
          ·have q2:0<=k/\k<=((shD ss).length:Int) - 1:=by simpa [Gd] using q
           have q3:=q2;rw [E9] at q3;have hk:k.toNat < ss.length:=by lia
           have e1:ss[k.toNat]?=some ss[k.toNat]:=ub6 hk;have e2:atI (shD ss) k=some (ss[k.toNat]).d:=by
            unfold atI;rw [E9,CT q3.1 (by lia)];simp [Hb,e1]
           right;refine HL e2 ?_;right;refine (hc _ (ul7 (DV ss _ _ e1) hs) e (hx e (by simp))).use ?_;refine ⟨?_,rfl⟩;have:(decide (0<=k) && decide (k < (ss.length:Int)))=true:=by simp;lia
           simp only [AA,q',this,ul1,DU ss _ _ e e1]
        | _=>
          right;exact ⟨by simp [AA],rfl⟩
     | obj _=>simp [okD] at ha
     | scr _=>simp [okD] at ha
     | ty _=>simp [okD] at ha
     | exc _ _=>simp [okD] at ha
     | _=>right;exact ⟨by simp [AA],rfl⟩
   | a :: b :: e :: f :: l,_=>
     refine GQ ?_ ?_
     ·show (!(((a :: b :: e :: f :: l).length:Int) == 3))=true;simp;lia
     right;exact ⟨by simp [AA],rfl⟩
 | obj _=>simp [okD] at h
 | scr _=>simp [okD] at h
 | ty _=>simp [okD] at h
 | exc _ _=>simp [okD] at h
 | _=>right;exact ⟨by simp [AA],rfl⟩
variable {cc cp cl ct cw:Fn}
theorem Ve (h1:M3 cc n)(h2:QX cp n)(h3:QT cl n)(h4:Nh ct)(h5:Hd cw):Ge (fnOf 2 3 (KM cc cp cl ct cw)) (n + 1):=by
 intro s hs d h S;refine AR rfl ?_;unfold KM
 cases s with
 | nothing=>
   rw [Sh.d];right;exact ⟨by rw [AA],rfl⟩
 | number lo hi=>
   rw [Sh.d];right;refine (h5 d lo hi h).use ⟨?_,rfl⟩
   cases d <;> simp [AA,Gd]
 | text m=>
   rw [Sh.d];right;exact (h4 m d h).use ⟨rfl,rfl⟩
 | list s m=>
   rw [Sh.depth] at hs;have q:=h3 s m (by lia) d h;rw [Sh.d] at q ⊢;right;exact q.use ⟨rfl,rfl⟩
 | pair s r=>
   rw [Sh.depth] at hs;have q:=h2 s r (by lia) (by lia) d h;rw [Sh.d] at q ⊢;right;exact q.use ⟨rfl,rfl⟩
 | choice ss=>
   rw [Sh.depth] at hs;have q:=h1 ss (by lia) d h;rw [Sh.d] at q ⊢;right;exact q.use ⟨rfl,rfl⟩
theorem Mj (x:Array Nat):∀(n:Nat) (acc:Array Nat),((List.replicate n x).foldl (·++·) acc).toList=acc.toList++(List.replicate n x.toList).flatten
 | 0,acc=>by simp
 | n + 1,acc=>by
   rw [ue5,uj0,Mj x n,ue5,ug4];simp
theorem R4 {x:Str}{k:Int}:(Txt.mul x k).cps.toList=(List.replicate k.toNat x.cps.toList).flatten:=by
 unfold Txt.mul
 split
 ·have:k.toNat=0:=by lia
  rw [this];rfl
 ·split
  ·next h=>
   rw [uj5] at h;rcases h with h | h
   ·have:k=1:=by simpa using h
    subst this;simp
   ·have:x.cps.toList=[]:=by
     have h':x.length=0:=by simpa using h
     exact ua3 (by simpa [Str.length] using h')
    rw [this];simp
  ·have:=Mj x.cps k.toNat #[];simpa using this
theorem E6 (x:Str):x.length=x.cps.toList.length:=by simp [Str.length]
theorem GD (x y:Str):(x++y).cps.toList=x.cps.toList++y.cps.toList:=by
 show (x.cps++y.cps).toList=_;simp
variable {α:Type}
theorem V5 (a:α)(k:Nat):(List.replicate k [a]).flatten=List.replicate k a:=by
 induction k with
 | zero=>rfl
 | succ k ih=>rw [ue5,ug4,ih,ue5];rfl
variable {fr:List (Option Sl)}{elt:M D}{z:Option Sl}
theorem Ma {f:D->D}(h:∀d∈ds,W elt ⟨some (.val d) :: fr,S⟩ λx t'=>x=f d/\t'=⟨some (.val d) :: fr,S⟩) :
 W (Do (By 0) EF elt ds) ⟨z :: fr,S⟩ λxs t'=>xs=ds.map f/\t'.S=S:=by
 refine (FO (P:=λxs t'=>xs=ds.map f/\t'.S=S) (λacc r t=>acc++r.map f=ds.map f/\∃z,t=⟨z :: fr,S⟩) ds [] _ ⟨rfl,z,rfl⟩ ?_ ?_).mono λxs t' h=>h
 ·rintro acc d r t ⟨h1,z,rfl⟩ hm;refine IG (IH ?_);rw [if_pos rfl];refine (h d hm).mono λx t' z9=>?_;obtain ⟨e1,e2⟩:=z9;subst e1 e2;exact ⟨by rw [ug5];exact h1,_,rfl⟩
 ·rintro acc t ⟨h1,z,rfl⟩;exact ⟨by simpa using h1,rfl⟩
mutual
noncomputable def sz:D->Nat
 | .tup xs=>szs xs + 1
 | .lst xs=>szs xs + 1
 | _=>1
noncomputable def szs:List D->Nat
 | []=>0
 | d :: r=>sz d + szs r
end
theorem Wp {x y:Str}(h:x.cps.toList=y.cps.toList):x=y:=by
 cases x;cases y
 congr
 exact Array.toList_inj.mp h
mutual
noncomputable def wf:Sh->Bool
 | .nothing=>true
 | .number lo hi=>decide (-1000000000000000000 < lo) && decide (lo<=hi) && decide (hi < 1000000000000000000)
 | .text m=>decide (0<=m) && decide (m<=250)
 | .list s m=>decide (0<=m) && decide (m<=250) && wf s
 | .pair s r=>wf s && wf r
 | .choice ss=>decide (1<=ss.length) && decide (ss.length<=9) && wfs ss
noncomputable def wfs:List Sh->Bool
 | []=>true
 | s :: r=>wf s && wfs r
end
mutual
noncomputable def cnt:Sh->Nat
 | .list s _=>cnt s + 1
 | .pair s r=>cnt s + cnt r + 1
 | .choice ss=>WT ss + 1
 | _=>1
noncomputable def WT:List Sh->Nat
 | []=>0
 | s :: r=>cnt s + WT r
end
theorem Fb:∀{ss:List Sh},wfs ss=true->∀s∈ss,wf s=true
 | x :: r,h,s,m=>by
   rw [wfs,uh4] at h;rcases uk6.mp m with z | z
   ·subst z;exact h.1
   ·exact Fb h.2 s z
theorem SL:∀{ss:List Sh},(∀s∈ss,wf s=true)->wfs ss=true
 | [],_=>rfl
 | x :: r,h=>by rw [wfs,h x uf1,SL λs m=>h s (ud7 _ m)];rfl
theorem Op:∀ss:List Sh,shD ss=ss.map Sh.d
 | []=>rfl
 | s :: r=>by rw [shD,Op r];rfl
theorem Mq:∀{ss:List Sh} {s:Sh},s∈ss->s.depth<=FN ss
 | x :: r,s,m=>by
   rw [FN];rcases uk6.mp m with z | z
   ·subst z;lia
   ·have:=Mq z;lia
variable {xs:List D}
theorem FA (h0:0<=i)(h1:i < xs.length){p:D->Prop}(h:∀d∈xs,p d):∃d,atI xs i=some d/\p d:=by
 obtain ⟨d,e,m,_⟩:=UY h0 h1;exact ⟨d,e,h d m⟩
def PD (k c l:Nat)(S S':List Ob):Prop:=S'.length=S.length/\∀j:Nat,j≠k->j≠c->j≠l->S'[j]?=S[j]?
noncomputable def QF (deep:Int):Int:=if deep < 2 then 0 else 2 * deep + 4
def bd (deep x:Int):Int:=if deep < 2 then 1 else max x 1 + QF deep - (if deep + 1<=x then 1 else 0)
def tb (deep y i:Int):Int:=if deep=2 then i else if i=0 then 0 else y + QF (deep - 1) + i - 1 - (if deep<=y then 1 else 0)
structure ShapeRes (k c l:Nat)(S:List Ob)(deep x:Int)(s:Sh)(S':List Ob):Prop where
 w:wf s=true
 dep:(s.depth:Int)<=max deep 1
 lft:S'[l]?=some (.lst [.int (x - cnt s)])
 one:x<=1->cnt s=1
 few:(cnt s:Int)<=max x 1 + QF deep
 deck:DeckAt k c S'
 kp:PD k c l S S'
 few2:(cnt s:Int)<=bd deep x
theorem Xh {k:Int}:(Txt.mul ⟨#[n]⟩ k).cps.toList=List.replicate k.toNat n:=by rw [R4];exact V5 n k.toNat
theorem Tw {k:Int}:(Txt.mul ⟨#[n]⟩ k).length=k.toNat:=by rw [E6,Xh,ud2]
structure Sep (ks:List (Nat×Nat)):Prop where
 sep:∀p∈ks,∀q∈ks,p=q\/(q.1≠p.1/\q.1≠p.2/\q.2≠p.1/\q.2≠p.2)
mutual
noncomputable def dpt:D->Nat
 | .lst ds=>Gi ds + 1
 | .tup ds=>Gi ds + 1
 | _=>1
noncomputable def Gi:List D->Nat
 | []=>0
 | d :: r=>max (dpt d) (Gi r)
end
theorem Pb:∀{ds:List D} {n:Nat},(∀d∈ds,dpt d<=n)->Gi ds<=n
 | [],n,_=>by simp [Gi]
 | x :: r,n,h=>by
   rw [Gi];have h1:=h x uf1;have h2:=Pb λd m=>h d (ud7 _ m);lia
theorem Pa (d:D):0 < dpt d:=by cases d <;> simp [dpt]
mutual
noncomputable def smD:D->Bool
 | .str x=>decide (x.length<=300)
 | .int i=>decide (-1000000000000000000000000 < i) && decide (i < 1000000000000000000000000)
 | .tup xs=>decide (xs.length<=300) && sms xs
 | .lst xs=>decide (xs.length<=300) && sms xs
 | .obj _=>false
 | .scr _=>false
 | .ty _=>false
 | .exc _ _=>false
 | _=>true
noncomputable def sms:List D->Bool
 | []=>true
 | d :: r=>smD d && sms r
end
theorem SA:∀{xs:List D},(∀d∈xs,smD d=true)->sms xs=true
 | [],_=>rfl
 | x :: r,h=>by
   rw [sms,uh4];exact ⟨h x uf1,SA λd m=>h d (ud7 _ m)⟩
mutual
theorem UO:∀{d:D},smD d=true->okD d=true
 | .str x,h=>by rw [smD,ug9] at h;rw [okD,ug9];lia
 | .tup xs,h=>by rw [smD,uh4] at h;rw [okD];exact Ou h.2
 | .lst xs,h=>by rw [smD,uh4] at h;rw [okD];exact Ou h.2
 | .obj _,h=>by simp [smD] at h
 | .scr _,h=>by simp [smD] at h
 | .ty _,h=>by simp [smD] at h
 | .non,_=>by simp [okD]
 | .bl _,_=>by simp [okD]
 | .int _,_=>by simp [okD]
 | .dic,_=>by simp [okD]
theorem Ou:∀{xs:List D},sms xs=true->oks xs=true
 | [],_=>by simp [oks]
 | d :: r,h=>by rw [sms,uh4] at h;rw [oks,uh4];exact ⟨UO h.1,Ou h.2⟩
end
theorem Eo {f:D->D->Option Bool}:∀{xs:List D},(∀d∈xs,f d d=some true)->Ec f xs xs=some true
 | [],_=>rfl
 | x :: r,h=>by
   rw [Ec,h x uf1,Eo λd m=>h d (ud7 _ m)];rfl
theorem Ep:∀(n:Nat) (d:D),dpt d<=n->smD d=true->d≠.dic->(∀xs,d = .lst xs\/d = .tup xs->∀x∈xs,eqN (n - 1) x x=some true)->eqN n d d=some true
 | 0,d,hd,_,_,_=>absurd hd (by have:=Pa d;lia)
 | n + 1,.lst xs,_,_,_,h=>by
   rw [eqN,if_pos rfl];exact Eo (h xs (.inl rfl))
 | n + 1,.tup xs,_,_,_,h=>by
   have e:Ec (eqN n) xs xs=some true:=Eo (h xs (.inr rfl));rw [eqN,e];simp
 | n + 1,.non,_,_,_,_=>rfl
 | n + 1,.bl b,_,_,_,_=>by show some (b == b)=some true;rw [ui2]
 | n + 1,.int b,_,_,_,_=>by show some (b == b)=some true;rw [ui2]
 | n + 1,.str b,_,_,_,_=>by show some (b == b)=some true;rw [ui2]
 | n + 1,.dic,_,_,h,_=>absurd rfl h
 | n + 1,.obj _,_,h,_,_=>by simp [smD] at h
 | n + 1,.scr _,_,h,_,_=>by simp [smD] at h
 | n + 1,.ty _,_,h,_,_=>by simp [smD] at h
theorem GX:∀(n:Nat) (s:Sh),s.depth<=n->wf s=true->∀d,AA s d=true->smD d=true/\dpt d<=s.depth/\∀m,s.depth<=m->eqN m d d=some true
 | 0,s,h,_,_,_=>absurd s.depth_pos (by lia)
 | n + 1,s,hs,hw,d,hf=>by
   have l2:(Str.ofString "of").length<=300:=by decide +kernel
   cases s with
   | nothing=>
     cases d <;> simp [AA,IS] at hf
     refine ⟨rfl,by simp [dpt,Sh.depth],λm hm=>?_⟩;have:=(Sh.nothing).depth_pos;obtain ⟨m,rfl⟩:∃k,m=k + 1:=⟨m - 1,by lia⟩;exact Ep _ _ (by simp [dpt]) rfl (by simp) (by simp)
   | number lo hi=>
     simp only [wf,uh4,ug9] at hw
     cases d <;> simp [AA] at hf
     rename_i i;have sm:smD (.int i)=true:=by
      simp only [smD,uh4,ug9];lia
     refine ⟨sm,by simp [dpt,Sh.depth],λm hm=>?_⟩;rw [Sh.depth] at hm;obtain ⟨m,rfl⟩:∃k,m=k + 1:=⟨m - 1,by lia⟩;exact Ep _ _ (by simp [dpt]) sm (by simp) (by simp)
   | text q=>
     simp only [wf,uh4,ug9] at hw
     cases d <;> simp [AA] at hf
     rename_i x;have sm:smD (.str x)=true:=by
      simp only [smD,ug9];lia
     refine ⟨sm,by simp [dpt,Sh.depth],λm hm=>?_⟩;rw [Sh.depth] at hm;obtain ⟨m,rfl⟩:∃k,m=k + 1:=⟨m - 1,by lia⟩;exact Ep _ _ (by simp [dpt]) sm (by simp) (by simp)
   | list s q=>
     simp only [wf,uh4,ug9] at hw;rw [Sh.depth] at hs
     cases d <;> simp only [AA,uf6] at hf
     rename_i ds;rw [uh4,ug9,uh8] at hf;have ih:=λd m=>GX n s (by lia) hw.2 d (hf.2 d m);have sm:smD (.lst ds)=true:=by
      rw [smD,uh4,ug9];exact ⟨by lia,SA λd m=>(ih d m).1⟩
     have dd:Gi ds<=s.depth:=Pb λd m=>(ih d m).2.1;refine ⟨sm,by rw [dpt,Sh.depth];lia,λm hm=>?_⟩;rw [Sh.depth] at hm;obtain ⟨m,rfl⟩:∃k,m=k + 1:=⟨m - 1,by lia⟩;refine Ep _ _ (by rw [dpt];lia) sm (by simp) λxs e x hx=>?_;rcases e with e | e
     ·cases e;exact (ih x hx).2.2 m (by lia)
     ·cases e
   | pair s r=>
     simp only [wf,uh4] at hw;rw [Sh.depth] at hs;unfold AA at hf
     split at hf
     case h_2=>cases hf
     case h_1 a b=>
      rw [uh4] at hf;have i1:=GX n s (by lia) hw.1 a hf.1;have i2:=GX n r (by lia) hw.2 b hf.2;have sm:smD (.tup [a,b])=true:=by simp [smD,sms,i1.1,i2.1]
      have h1:=i1.2.1;have h2:=i2.2.1;refine ⟨sm,by simp only [dpt,Gi,Sh.depth];lia,λm hm=>?_⟩;rw [Sh.depth] at hm;obtain ⟨m,rfl⟩:∃k,m=k + 1:=⟨m - 1,by lia⟩;refine Ep _ _ (by simp only [dpt,Gi];lia) sm (by simp) λxs e x hx=>?_;rcases e with e | e
      ·cases e
      ·cases e
       simp only [uk6,uh9,or_false] at hx;rcases hx with rfl | rfl
       ·exact i1.2.2 m (by lia)
       ·exact i2.2.2 m (by lia)
   | choice ss=>
     simp only [wf,uh4,ug9] at hw;rw [Sh.depth] at hs;unfold AA at hf
     split at hf
     case h_2=>cases hf
     case h_1 o k x=>
      simp only [uh4,ug9] at hf;obtain ⟨⟨ho,k0,k1⟩,hf⟩:=hf;have hk:k.toNat < ss.length:=by lia
      have e1:ss[k.toNat]?=some ss[k.toNat]:=ub6 hk;rw [DU ss _ _ _ e1] at hf;have hd:=DV ss _ _ e1;have ih:=GX n _ (by lia) (Fb hw.2 _ (ui0 hk)) x hf;have ho':o.length<=300:=by
       have:o=("of" : Str):=by simpa [JJ] using ho
       subst this;exact l2
      have sm:smD (.tup [.str o,.int k,x])=true:=by
       simp only [smD,sms,ih.1,Bool.and_true,uh4,ug9,uh5,uj3];lia
      have h1:=ih.2.1;have h2:=Pa x;have p1:=(ss[k.toNat]).depth_pos;refine ⟨sm,by simp only [dpt,Gi,Sh.depth];lia,λm hm=>?_⟩;rw [Sh.depth] at hm;obtain ⟨m,rfl⟩:∃k,m=k + 1:=⟨m - 1,by lia⟩;refine Ep _ _ (by simp only [dpt,Gi];lia) sm (by simp) λxs e y hy=>?_;rcases e with e | e
      ·cases e
      ·cases e
       obtain ⟨m',rfl⟩:∃k,m=k + 1:=⟨m - 1,by lia⟩;simp only [uk6,uh9,or_false] at hy;rcases hy with rfl | rfl | rfl
       ·exact Ep _ _ (by simp [dpt]) (by simp [smD,ho']) (by simp) (by simp)
       ·exact Ep _ _ (by simp [dpt]) (by simp only [smD,uh4,ug9];lia) (by simp) (by simp)
       ·exact ih.2.2 _ (by lia)
variable {t:T}{P:D->T->Prop}
theorem L9 {d:D}{g:Bool->Bool}(h0:Tu d=false)(h:eqN EQD d d=some true)(p:P (.bl (g true)) t):W (eqS g d d) t P:=⟨_,_,by simp [eqS,h0,h],p⟩
variable {f:M D}
theorem Zm {g:M (List D)}(h:W f t λo t1=>W g t1 λas t2=>∃z ds ys,o = .str z/\as=[.lst ds]/\Gz ds=some ys/\(z.length<=8/\ys.length<=1048576)/\P (.str (Txt.join z ys)) t2):W (joinM f g) t P:=by
 refine EH (h.mono λo t1 h1=>EH (h1.mono λas t2 h2=>?_));obtain ⟨z,ds,ys,rfl,rfl,e,hl,p⟩:=h2;refine ⟨_,_,?_,p⟩;simp only [e];rw [if_pos hl]
theorem IF:∀ns:List Nat,Gz (ns.map λn=>D.str ⟨#[n]⟩)=some (ns.map λn=>(⟨#[n]⟩:Str))
 | []=>rfl
 | n :: r=>by
   rw [uk9,Gz,if_pos (ud4 rfl),IF r];rfl
theorem KH:∀(ns:List Nat) (acc:Array Nat),((ns.map λn=>(⟨#[n]⟩:Str)).foldl (λacc p=>acc++(Str.ofString "").cps++p.cps) acc).toList=acc.toList++ns
 | [],acc=>by simp
 | n :: r,acc=>by
   have e:(Str.ofString "").cps=#[]:=by decide +kernel
   rw [uk9,uj0,KH r,e];simp
theorem KJ (ns:List Nat):(Txt.join (Str.ofString "") (ns.map λn=>(⟨#[n]⟩:Str))).cps.toList=ns:=by
 show (List.foldl (λ(acc:Array Nat) (p:Str)=>acc++(Str.ofString "").cps++p.cps) (((ns.map λn=>(⟨#[n]⟩:Str)).headD Str.empty).cps) ((ns.map λn=>(⟨#[n]⟩:Str)).drop 1)).toList=ns
 cases ns with
 | nil=>rfl
 | cons n r=>
   rw [uk9,List.drop_one,List.tail_cons,KH];rfl
structure ValueRes (k c l:Nat)(S:List Ob)(s:Sh)(r:D)(S':List Ob):Prop where
 fit:AA s r=true
 lft:∃a b:Int,S'[l]?=some (.lst [.int a,.int b])
 deck:DeckAt k c S'
 kp:PD k c l S S'
theorem Jj {f:M (List D)}{P:Out->T->Prop}(h:W f t λds t1=>P (.ret (.lst ds)) t1):W (Iz f) t P:=W_bnd.mpr (h.mono λ_ _ p=>W_ret.mpr p)
theorem GB {g:Fn}{f:M (List D)}{P:List D->T->Prop}(h:W f t λds t1=>Wf g ds t1.S λr S'=>∃rs,r = .lst rs/\P rs ⟨t1.env,S'⟩):W (EJ g f) t P:=by
 refine W_bnd.mpr (h.mono λds t1 z9=>?_);obtain ⟨r,S',e,rs,er,p⟩:=z9;subst er;exact ⟨rs,⟨t1.env,S'⟩,by simp only [e],p⟩
theorem WC {i:Nat}{P:Out->T->Prop}(e:t.env[i]?=some (some (.own xs)))(h:P (.ret (.lst xs)) ⟨t.env.set i none,t.S⟩):W (IB i) t P:=⟨_,_,by simp only [IB,e],h⟩
theorem Zg (h:P (.int (Builtin.Int.intBits i:Nat)) t):W (MU (.int i)) t P:=⟨_,_,rfl,h⟩
theorem bf {j:Int}(h0:0<=j)(h:P (.int (i / 2 ^ j.toNat)) t):W (QE (.int i) (.int j)) t P:=⟨_,_,by simp [QE,i2C,h0],h⟩
variable {ys:List D}{t1:T}
theorem aE {i:Nat}{A:List D->Prop}(e:t1.env[i]?=some (some (.own xs)))(l:xs.length + ys.length<=LIM)(w:A (xs++ys)):∃xs,t1.env[i]?=some (some (.own xs))/\∃zs,Hj xs [.lst ys]=some zs/\A zs:=
 ⟨xs,e,xs++ys,by simp [Hj,l],w⟩
theorem Jy {f:M Bool}{b:M Out}{P:Out->T->Prop}(I:Nat->T->Prop)(turn:∀n t,I n t->W f t λk t1=>match k with
 | true=>∃m,n=m + 1/\W b t1 λo t2=>match o with
   | .next=>I m t2
   | .cont=>I m t2
   | .brk=>P .next t2
   | .ret x=>P (.ret x) t2
 | false=>P .next t1):∀(fuel n:Nat) (t:T),n < fuel->I n t->W (D4 f b fuel) t P
 | 0,n,t,h,_=>absurd h (uj6 _)
 | fuel + 1,n,t,h,i=>by
   obtain ⟨k,t1,e1,p⟩:=turn n t i
   cases k with
   | false=>exact ⟨_,_,by simp only [D4,e1],p⟩
   | true=>
     obtain ⟨m,rfl,o,t2,e2,p⟩:=p
     cases o with
     | next=>obtain ⟨o,t',e',p⟩:=Jy I turn fuel m t2 (by lia) p;exact ⟨o,t',by simp only [D4,e1,e2];exact e',p⟩
     | cont=>obtain ⟨o,t',e',p⟩:=Jy I turn fuel m t2 (by lia) p;exact ⟨o,t',by simp only [D4,e1,e2];exact e',p⟩
     | brk=>exact ⟨_,_,by simp only [D4,e1,e2],p⟩
     | ret x=>exact ⟨_,_,by simp only [D4,e1,e2],p⟩
noncomputable def wid (n:Nat):Nat:=if n=0 then 0 else n.log2 / 8 + 1
theorem RM (h:2<=n):n.log2=(n / 2).log2 + 1:=by rw [Nat.log2_def,if_pos h]
theorem TB (h:n < 2):n.log2=0:=by rw [Nat.log2_def,if_neg (by lia)]
theorem NV:∀(k:Nat) {n:Nat},2 ^ k<=n->n.log2=(n / 2 ^ k).log2 + k
 | 0,n,_=>by rw [um1,un2,Nat.add_zero]
 | k + 1,n,h=>by
   have h2:2 ^ k * 2<=n:=by rw [<-um2];exact h
   have h3:2<=n / 2 ^ k:=(Nat.le_div_iff_mul_le (Nat.pow_pos (by decide))).mpr (by rw [ul9];exact h2);rw [NV k (ul7 (Nat.le_mul_of_pos_right _ (by decide)) h2),RM h3,uc9,<-um2,ul2,Nat.add_comm 1 k]
theorem Ty (h:256<=n):n.log2=(n / 256).log2 + 8:=NV 8 h
theorem Tz (h:n < 256):n.log2 < 8:=by
 by_cases z:n=0
 ·subst z;rw [TB (by lia)];lia
 ·exact (Nat.log2_lt z).mpr h
theorem Uq (h:0 < n):wid n=wid (n / 256) + 1:=by
 unfold wid;rw [if_neg (by lia)]
 by_cases z:n < 256
 ·have:=Tz z;rw [if_pos (by lia)];lia
 ·rw [if_neg (by lia),Ty (by lia)];lia
theorem Lh:∀(k n:Nat),n < 256 ^ k->wid n<=k
 | 0,n,h=>by
   have:n=0:=by simpa using h
   subst this;decide
 | k + 1,n,h=>by
   by_cases z:n=0
   ·subst z;exact un0 _
   ·rw [Uq (by lia)];have:=Lh k (n / 256) (Nat.div_lt_of_lt_mul (by rw [um2] at h;lia));lia
theorem Tc (n:Nat):((Builtin.Int.intBits (n:Int):Nat) + 7) / 8=wid n:=by
 unfold Builtin.Int.intBits wid
 by_cases z:n=0
 ·subst z;rfl
 ·have:((n:Int) == 0)=false:=by simp;exact z
  rw [this,if_neg (by simp),if_neg z,Int.natAbs_natCast];lia
noncomputable def nb:Nat->Nat->List D
 | 0,_=>[]
 | w + 1,n=>nb w (n / 256)++[.int ((n % 256:Nat):Int)]
theorem R7:∀w n,(nb w n).length=w
 | 0,n=>rfl
 | w + 1,n=>by rw [nb,uf5,R7];rfl
theorem R8:∀w n:Nat,(List.range w).map (λk=>D.int ((n / 2 ^ (8 * (w - 1 - k)) % 256:Nat):Int))=nb w n
 | 0,n=>rfl
 | w + 1,n=>by
   rw [List.range_succ,uj7,nb,<-R8 w (n / 256)]
   congr 1
   ·refine ue6 λk hk=>?_;rw [uk0] at hk;have e:8 * (w + 1 - 1 - k)=8 + 8 * (w - 1 - k):=by lia
    rw [e,Nat.pow_add,uc9]
   ·simp
mutual
def Br:Sh->D->List D
 | .nothing,_=>[]
 | .number lo hi,d=>match d with
   | .int i=>nb (wid (hi - lo).toNat) (i - lo).toNat
   | _=>[]
 | .text _,d=>match d with
   | .str x=>.int (x.length:Nat) :: x.cps.toList.map λn=>D.int (n:Nat)
   | _=>[]
 | .list s _,d=>match d with
   | .lst ds=>.int (ds.length:Nat) :: (ds.map λd=>Br s d).flatten
   | _=>[]
 | .pair s r,d=>match d with
   | .tup [a,b]=>Br s a++Br r b
   | _=>[]
 | .choice ss,d=>match d with
   | .tup [_,.int k,x]=>.int k :: Kr ss k.toNat x
   | _=>[]
def Kr:List Sh->Nat->D->List D
 | [],_,_=>[]
 | s :: _,0,d=>Br s d
 | _ :: r,k + 1,d=>Kr r k d
end
theorem FP:∀(ss:List Sh) (k:Nat) (s:Sh) (d:D),ss[k]?=some s->Kr ss k d=Br s d
 | [],k,s,d,h=>by simp at h
 | s :: r,0,s',d,h=>by simp at h;subst h;simp [Kr]
 | s :: r,k + 1,s',d,h=>by rw [Kr];exact FP r k s' d (by simpa using h)
def GV (f:Fn)(n:Nat):Prop:=∀(s:Sh),s.depth<=n->wf s=true->∀d,AA s d=true->(Br s d).length<=LIM->Pure1 f [s.d,d] (.lst (Br s d))
def HS (f:Fn):Prop:=∀(n j:Nat),j<=1000->Pure1 f [.int n,.int j] (.int ((n / 2 ^ (8 * j):Nat):Int))
theorem Vo:HS (fnOf 2 2 GK):=by
 intro n j hj S;refine AR rfl ?_;unfold GK;right;refine Jh (G1 (by decide) (by decide)) ?_;refine bf (by lia) ?_;refine ⟨?_,rfl⟩;have:(8 * (j:Int)).toNat=8 * j:=by lia
 rw [this];simp
def Kn (f:Fn):Prop:=∀n:Nat,n < 256 ^ 9->Pure1 f [.int n] (.int (wid n:Nat))
theorem Ur:Kn (fnOf 1 1 ES):=by
 intro n _ S;refine AR rfl ?_;unfold ES;right;refine Zg ?_;right;refine ⟨?_,rfl⟩;rw [<-Tc];simp
def M8 (f:Fn):Prop:=∀(n w:Nat),w<=1000->Pure1 f [.int n,.int w] (.lst (nb w n))
theorem G9 (i:Int)(n:Nat):rngL i n=(List.range n).map λk:Nat=>D.int (i + k):=by
 rfl
theorem VA (hc:HS c):M8 (fnOf 2 2 (Ez c)):=by
 intro n w hw S;have hL:LIM=100000:=rfl;refine AR rfl ?_;unfold Ez;refine Jj ?_;right;refine Up (by rw [CY (by decide) (by decide),CY (by lia) (by lia)];rfl) ?_;refine (Ma (f:=λd=>match d with | .int k=>.int ((n / 2 ^ (8 * (w - k.toNat)) % 256:Nat):Int) | _=>d) (fr:=[some (.val (.int n)),some (.val (.int w))]) ?_).mono ?_
 ·intro d m;rw [G9] at m;obtain ⟨k,hk,rfl⟩:=um3.mp m;rw [uk0] at hk;right;have e:((w:Int) - (1 + (k:Int)))=((w - (1 + k):Nat):Int):=by lia
  rw [e];refine (hc n (w - (1 + k)) (by lia)).use ?_;right;refine ⟨?_,rfl⟩;have e2:(1 + (k:Int)).toNat=1 + k:=by lia
  dsimp only;rw [e2];simp
 ·rintro xs t' ⟨rfl,hS⟩;have hn:((w:Int) + 1 - 1).toNat=w:=by lia
  rw [G9,hn];refine Cm (by simp only [ui9,List.length_range,hL];lia) ?_;refine ⟨?_,hS⟩;rw [<-R8 w n,um4]
  congr 1
  refine ue6 λk hk=>?_;rw [uk0] at hk;have e2:(1 + (k:Int)).toNat=1 + k:=by lia
  have e3:w - (1 + k)=w - 1 - k:=by lia
  simp only [Function.comp,e2,e3]
variable {lo hi:Int}
theorem Px (h:wf (.number lo hi)=true):(hi - lo).toNat < 256 ^ 9:=by
 simp only [wf,uh4,ug9] at h;have:(256:Nat) ^ 9=4722366482869645213696:=by decide
 lia
theorem Q7 (x:Str):(x.cps.toList.map λc=>D.str ⟨#[c]⟩).map (λd=>match d with | .str y=>D.int (y.cps.getD 0 0:Nat) | _=>d)=x.cps.toList.map λn=>D.int (n:Nat):=by
 rw [um4];refine ue6 λn _=>?_;rfl
variable {cn:Fn}
theorem Vd (hc:GV c n)(hw:Kn cw)(hn:M8 cn):GV (fnOf 2 5 (Ek c cw cn)) (n + 1):=by
 intro s hs hwf d hf hlen S;have hL:LIM=100000:=rfl;refine AR rfl ?_;unfold Ek
 cases s with
 | nothing=>
   rw [Sh.d];right;refine Jj ?_;right;exact ⟨by rw [Br],rfl⟩
 | number lo hi=>
   have hsp:=Px hwf;have hwd:=Lh 9 _ hsp;simp only [wf,uh4,ug9] at hwf
   cases d <;> simp [AA] at hf
   rename_i i;rw [Sh.d];right;refine Jj (GB ?_);right;have e1:hi - lo=(((hi - lo).toNat:Nat):Int):=by lia
   have e2:i - lo=(((i - lo).toNat:Nat):Int):=by lia
   rw [e1,e2];refine (hw _ hsp).use ?_;right;refine (hn _ _ (by lia)).use ?_;exact ⟨_,rfl,by rw [Br],rfl⟩
 | text q=>
   simp only [wf,uh4,ug9] at hwf
   cases d <;> simp [AA] at hf
   rename_i x;rw [Sh.d];right;refine Jj ?_;refine EH ?_;right;refine UT (by rw [hL];lia) ?_;right;refine (Ma (f:=λd=>match d with | .str y=>D.int (y.cps.getD 0 0:Nat) | _=>d) (fr:=[]) ?_).mono ?_
   ·intro d m;obtain ⟨k,hk,rfl⟩:=um3.mp m;right;refine Yt rfl ?_;exact ⟨rfl,rfl⟩
   ·rintro xs t' ⟨rfl,hS⟩;rw [Q7];have hl:x.cps.toList.length<=250:=by rw [<-E6];lia
    refine Cm (by rw [ui9,hL];lia) ?_;right;refine Cm (by simp only [ui9,uh5,uj3,hL];lia) ?_;exact ⟨by rw [Br];rfl,hS⟩
 | list s q=>
   simp only [wf,uh4,ug9] at hwf;rw [Sh.depth] at hs
   cases d <;> simp only [AA,uf6] at hf
   rename_i ds;rw [uh4,ug9,uh8] at hf;rw [Br] at hlen ⊢;rw [Sh.d];right;refine C1 (λr t=>∃(z:Option Sl) (acc:List D),t=⟨[some (.val (.tup [.str "list",s.d,.int q])),some (.val (.lst ds)),some (.val (.str "list")),some (.own acc),z],S⟩/\acc++(r.map λd=>Br s d).flatten = .int (ds.length:Nat) :: (ds.map λd=>Br s d).flatten) _ _ ⟨_,_,rfl,rfl⟩ ?_ ?_
   ·rintro d r t ⟨z,acc,rfl,hacc⟩ m;rw [uk9,ug4,<-ug5] at hacc;have hl:acc.length + (Br s d).length<=LIM:=by
     have:=congrArg List.length hacc;rw [uf5,uf5] at this;lia
    right;refine GB ?_;right;refine (hc s (ud0 hs) hwf.2 d (hf.2 d m) (ul7 (Nat.le_add_left _ _) hl)).use ⟨_,rfl,?_⟩;right;refine aE rfl hl ?_;exact ⟨_,_,rfl,hacc⟩
   ·rintro t ⟨z,acc,rfl,hacc⟩;rw [um0,List.flatten_nil,ui6] at hacc;right;refine WC rfl ?_;exact ⟨by rw [hacc],rfl⟩
 | pair s r=>
   simp only [wf,uh4] at hwf;rw [Sh.depth] at hs;unfold AA at hf
   split at hf
   case h_2=>cases hf
   case h_1 a b=>
    rw [uh4] at hf;rw [Br] at hlen ⊢;rw [uf5] at hlen;rw [Sh.d];right;refine Jj ?_;refine EH ?_;right;refine GB ?_;right;refine (hc s (ul7 (Nat.le_max_left _ _) (ud0 hs)) hwf.1 a hf.1 (ul7 (uh7 _ _) hlen)).use ⟨_,rfl,?_⟩;refine EH ?_;right;refine GB ?_;right;refine (hc r (ul7 (Nat.le_max_right _ _) (ud0 hs)) hwf.2 b hf.2 (ul7 (Nat.le_add_left _ _) hlen)).use ⟨_,rfl,?_⟩;right;refine Cm hlen ?_;exact ⟨rfl,rfl⟩
 | choice ss=>
   simp only [wf,uh4,ug9] at hwf;rw [Sh.depth] at hs;unfold AA at hf
   split at hf
   case h_2=>cases hf
   case h_1 o k x=>
    simp only [uh4,ug9] at hf;obtain ⟨⟨ho,k0,k1⟩,hf⟩:=hf;have hk:k.toNat < ss.length:=by lia
    have e1:ss[k.toNat]?=some ss[k.toNat]:=ub6 hk;have hl:=E9 ss;have e2:atI (shD ss) k=some (ss[k.toNat]).d:=by
     unfold atI;rw [CT k0 (by lia)];show (shD ss)[k.toNat]?=_;rw [Hb,e1];rfl
    rw [DU ss _ _ _ e1] at hf;rw [Br] at hlen ⊢;rw [FP ss _ _ _ e1] at hlen ⊢;rw [uh5] at hlen;rw [Sh.d];right;refine Jj ?_;right;refine GB ?_;right;refine HL e2 ?_;right;refine (hc _ (ul7 (DV ss _ _ e1) (ud0 hs)) (Fb hwf.2 _ (ui0 hk)) x hf (Nat.le_of_succ_le hlen)).use ⟨_,rfl,?_⟩;right;refine Cm (by simp only [uh5,uj3];lia) ?_;exact ⟨rfl,rfl⟩
theorem K5 (a:Int)(n:Nat):(rngL a n).length=n:=by simp [rngL]
variable {j:Nat}
theorem LT {a:Int}{d:D}{r:List D}(e:d :: r=(rngL a n).drop j):d = .int (a + j)/\r=(rngL a n).drop (j + 1)/\j < n:=by
 have hj:j < (rngL a n).length:=by
  rcases Nat.lt_or_ge j (rngL a n).length with h | h
  ·exact h
  ·rw [List.drop_eq_nil_of_le h] at e;cases e
 rw [ub3 hj] at e;injection e with e1 e2
 rw [K5] at hj;refine ⟨?_,e2,hj⟩;rw [e1];simp [rngL]
noncomputable def sgs:Str:=" !\"#$ &'()*+,-./0123456789:;<=>?@ABCDEFGHIJKLMNOPQRSTUVWXYZ[\\]^_`abcdefghijklmnopqrstuvwxyz{|}~"
theorem Ya {c:Nat}(h:CK c=true):atI sgs.cps.toList ((c:Int) - 32)=some c:=by
 have hl:sgs.cps.toList.length=95:=by decide +kernel
 have hall:(List.range 127).all (λc=>!CK c || decide (sgs.cps.toList[c - 32]?=some c))=true:=by decide +kernel
 have h':=h;simp only [CK,uh4,ug9] at h';have:=uh8.mp hall c (uk0.mpr (by lia));rw [h,Bool.not_true,Bool.false_or,ug9] at this;rw [show ((c:Int) - 32)=((c - 32:Nat):Int) by lia];exact Lo this
variable {n':Str}
section
variable {t:T}{P:D->T->Prop}{R:Out->T->Prop}
def Uj (h:D->M Out)(R:Out->T->Prop)(o:Out)(t1:T):Prop:=match o with
 | .ret (.exc n ds)=>n∈Cp/\W (h (.exc n ds)) t1 R
 | o=>R o t1
theorem bh {b:M Out}{h:D->M Out}(w:W b t (Uj h R)):W (GA b h) t R:=by
 obtain ⟨o,t1,e,q⟩:=w;have rest:∀d,Ce d=false->o = .ret d->W (GA b h) t R:=λd hd ho=>by
  subst ho;refine ⟨.ret d,t1,?_,?_⟩
  ·unfold GA;rw [e];cases d <;> first | rfl | cases hd
  ·cases d <;> first | exact q | cases hd
 cases o with
 | next=>exact ⟨.next,t1,by unfold GA;rw [e],q⟩
 | brk=>exact ⟨.brk,t1,by unfold GA;rw [e],q⟩
 | cont=>exact ⟨.cont,t1,by unfold GA;rw [e],q⟩
 | ret d=>
   cases d with
   | exc n ds=>
     obtain ⟨hn,o2,t2,e2,q2⟩:=q;exact ⟨o2,t2,by unfold GA;rw [e];dsimp only;rw [if_pos hn,e2],q2⟩
   | _=>exact rest _ rfl rfl
theorem SH {h:D->M Out}(q:R .next t1):Uj h R .next t1:=q
theorem Ws {h:D->M Out}{n:Str}(e:n∈Cp)(q:W (h (.exc n ds)) t1 R):Uj h R (.ret (.exc n ds)) t1:=⟨e,q⟩
def xK (d:D)(A B:Prop):Prop:=if Ce d=true then A else B
theorem ZF {d:D}{A B:Prop}(e:Ce d=false)(b:B):xK d A B:=by unfold xK;rw [if_neg (by rw [e];decide)];exact b
theorem ZE {d:D}{A B:Prop}(e:Ce d=true)(a:A):xK d A B:=by unfold xK;rw [if_pos e];exact a
theorem Zy {i:Nat}(w:W f t λd t1=>xK d (R (.ret d) t1) (R .next ⟨t1.env.set i (some (.val d)),t1.S⟩)):W (D1 i f) t R:=by
 refine EH (w.mono λd t1 q=>?_);unfold xK at q
 split at q
 ·next h=>rw [if_pos h];exact ⟨_,_,rfl,q⟩
 ·next h=>rw [if_neg h];exact ⟨_,_,rfl,q⟩
theorem wNx (w:W f t λd t1=>Ce d=false/\P d t1):W (nxD f) t P:=by
 refine EH (w.mono λd t1 z9=>?_);obtain ⟨h,q⟩:=z9;rw [if_neg (by rw [h];decide)];exact ⟨_,_,rfl,q⟩
theorem Zh {g:M D}{h:D->M D}(w:W g t λy t1=>xK y (P y t1) (W (h y) t1 λd t2=>Ce d=false/\P d t2)):W (Lp g h) t P:=by
 refine EH (w.mono λy t1 q=>?_);unfold xK at q
 split at q
 ·next z=>rw [if_pos z];exact ⟨_,_,rfl,q⟩
 ·next z=>rw [if_neg z];exact wNx q
theorem Zf {g:M D}{h:D->D->M D}(w:W f t λx t1=>W (Lp g (h x)) t1 P):W (KB f g h) t P:=EH w
theorem Wz {n:Str}{f:M (List D)}(w:W f t λds t1=>ds.length<=1000/\R (.ret (.exc n [])) t1):W (Iy n f) t R:=
 EH (w.mono λds t1 ⟨e,q⟩=>by rw [if_pos e];exact ⟨_,_,rfl,q⟩)
theorem WB {n:Str}(w:W f t λ_ t1=>R (.ret (.exc n [])) t1):W (Iy n (Ac f Aj)) t R:=Wz (EV (w.mono λd t1 q=>Kh ⟨by show 1<=1000;decide,q⟩))
theorem aI {n:Str}{i:Nat}{s:M Out}{r:D->M Out}(e:Fu n n'=true)(w:W s { t with env:=t.env.set i (some (.val (.exc n ds))) } λo t2=>R o (unE i t2)):W (hAs n' i s r (.exc n ds)) t R:=by
 obtain ⟨o,t2,e1,q⟩:=w;exact ⟨o,unE i t2,by unfold hAs;dsimp only;rw [if_pos e,e1],q⟩
theorem aJ {n:Str}{s:M Out}{r:D->M Out}(e:Fu n n'=true)(w:W s t R):W (hNo n' s r (.exc n ds)) t R:=by
 obtain ⟨o,t2,e1,q⟩:=w;exact ⟨o,t2,by unfold hNo;dsimp only;rw [if_pos e,e1],q⟩
theorem Zk {n:Str}{s:M Out}{r:D->M Out}(e:Fu n n'=false)(w:W (r (.exc n ds)) t R):W (hNo n' s r (.exc n ds)) t R:=by
 obtain ⟨o,t2,e1,q⟩:=w;exact ⟨o,t2,by unfold hNo;dsimp only;rw [if_neg (by rw [e];decide),e1],q⟩
theorem Ze {m n:Str}{d:D}(e:m∈Cp)(l:((JI m).zip ds).lookup n=some d)(q:P d t):W (JA n (.exc m ds)) t P:=⟨_,_,by unfold JA;dsimp only;rw [if_pos e,l];rfl,q⟩
theorem PV {g:Fn}{Q:D->List Ob->Prop}(w:Wf g ds S λr S'=>Ce r=false/\Q r S'):Wf (Hy g) ds S Q:=by
 obtain ⟨r,S',e,h,q⟩:=w;exact ⟨r,S',by unfold Hy;rw [e];dsimp only;rw [if_neg (by rw [h];decide)],q⟩
theorem Pure1.ok {g:Fn}{r:D}(h:Pure1 g ds r)(e:Ce r=false):Pure1 (Hy g) ds r:=λS=>PV ((h S).mono λ_ _ ⟨e1,e2⟩=>⟨by rw [e1];exact e,e1,e2⟩)
end
theorem WA {n:Str}{g:M D}{R:Out->T->Prop}(w:W f t λa t1=>W g t1 λb t2=>R (.ret (.exc n [a,b])) t2):W (Fs n (Ac f (Ac g Aj))) t R:=
 EH (EV (w.mono λa t1 q=>EV (q.mono λb t2 q=>Kh ⟨_,_,rfl,q⟩)))
local macro_rules | `(tactic| walk_at "x1")=>`(tactic| first
 | walk_at "w1"
 | with_reducible refine bh ?_ | with_reducible refine Zy ?_ | with_reducible refine wDropX ?_ | with_reducible refine wAsgX ?_ | with_reducible refine wNx ?_ | with_reducible refine Zf ?_ | with_reducible refine wBinY ?_ | with_reducible refine Zh ?_ | with_reducible refine wCallY ?_ | with_reducible refine SH ?_
 | ((with_reducible refine' Ws ?wv ?_);(case wv=>decide)) | ((with_reducible refine' ZF ?wv ?_);(case wv=>exact rfl)) | ((with_reducible refine' ZE ?wv ?_);(case wv=>exact rfl))
 | with_reducible refine wRaiseT ?_ | with_reducible refine WB ?_ | ((with_reducible refine' aI ?wv ?_);(case wv=>decide)) | ((with_reducible refine' wHAsN ?wv ?_);(case wv=>decide)) | ((with_reducible refine' aJ ?wv ?_);(case wv=>decide)) | ((with_reducible refine' Zk ?wv ?_);(case wv=>decide))
 | ((with_reducible refine' wIsiX ?wv ?_);(case wv=>decide)) | with_reducible refine wIsiXN ?_ | ((with_reducible refine' Ze ?wv ?wu ?_);(case wv=>decide);(case wu=>exact rfl)))
local macro_rules | `(tactic| left)=>`(tactic| repeat (walk_at "x1"))
inductive Rd where
 | done (v:D)
 | need (ok:Nat->Bool) (nx:Nat->Rd)
inductive RR where
 | told (v:D) (a:Nat)
 | short
 | broken (a:Nat)
noncomputable def Rd.run:Rd->List Nat->Nat->RR
 | .done v,_,a=>.told v a
 | .need ok nx,w,a=>match w[a]? with
   | none=>.short
   | some b=>if ok b=true then (nx b).run w (a + 1) else .broken a
noncomputable def Rd.bnd:Rd->(D->Rd)->Rd
 | .done v,k=>k v
 | .need ok nx,k=>.need ok λb=>(nx b).bnd k
def RR.thn (r:RR)(w:List Nat)(k:D->Rd):RR:=match r with
 | .told v a=>(k v).run w a
 | .short=>.short
 | .broken a=>.broken a
variable {w:List Nat}
theorem Cj {ok:Nat->Bool}{nx:Nat->Rd}{a:Nat}(h:w[a]?=none):(Rd.need ok nx).run w a = .short:=by rw [Rd.run,h]
theorem B8 {ok:Nat->Bool}{nx:Nat->Rd}{a b:Nat}(h:w[a]?=some b):(Rd.need ok nx).run w a=if ok b=true then (nx b).run w (a + 1) else .broken a:=by rw [Rd.run,h]
theorem E7 (k:D->Rd)(w:List Nat):∀(p:Rd) (a:Nat),(p.bnd k).run w a=(p.run w a).thn w k:=by
 intro p
 induction p with
 | done v=>intro a;rfl
 | need ok nx ih=>
   intro a;rw [Rd.bnd]
   cases h:w[a]? with
   | none=>rw [Cj h,Cj h];rfl
   | some b=>
     rw [B8 h,B8 h]
     by_cases q:ok b=true
     ·rw [if_pos q,if_pos q];exact ih b (a + 1)
     ·rw [if_neg q,if_neg q];rfl
variable {v:D}
theorem DT {b:Nat}:∀(p:Rd) (a:Nat),a<=w.length->p.run w a = .told v b->a<=b/\b<=w.length:=by
 intro p
 induction p with
 | done v'=>intro a ha h;cases h;exact ⟨um9 _,ha⟩
 | need ok nx ih=>
   intro a ha h
   cases e:w[a]? with
   | none=>rw [Cj e] at h;cases h
   | some c=>
     rw [B8 e] at h;have hl:=(ub1.mp e).1
     by_cases q:ok c=true
     ·rw [if_pos q] at h;have:=ih c (a + 1) hl h;lia
     ·rw [if_neg q] at h;cases h
theorem EZ {k:Nat}:∀(p:Rd) (a:Nat),p.run w a = .broken k->a<=k/\k < w.length:=by
 intro p
 induction p with
 | done v'=>intro a h;cases h
 | need ok nx ih=>
   intro a h
   cases e:w[a]? with
   | none=>rw [Cj e] at h;cases h
   | some c=>
     rw [B8 e] at h;have hl:=(ub1.mp e).1
     by_cases q:ok c=true
     ·rw [if_pos q] at h;have:=ih c (a + 1) h;lia
     ·rw [if_neg q] at h;cases h;lia
theorem OH {k:Nat}:∀(p:Rd) (a:Nat),p.run w a = .broken k->p.run (w.take k) a = .short:=by
 intro p
 induction p with
 | done v'=>intro a h;cases h
 | need ok nx ih=>
   intro a h;have hk:=EZ _ _ h
   cases e:w[a]? with
   | none=>rw [Cj e] at h;cases h
   | some x=>
     rw [B8 e] at h
     by_cases q:ok x=true
     ·rw [if_pos q] at h;have hk:=EZ _ _ h;rw [B8 (b:=x) (by rw [uf8,if_pos (by lia)];exact e),if_pos q];exact ih x (a + 1) h
     ·rw [if_neg q] at h
      cases h
      exact Cj (by rw [uf8,if_neg (by lia)])
def Rd.good:Rd->Prop
 | .done _=>True
 | .need ok nx=>(ok 0=true\/ok 32=true)/\∀b,ok b=true->(nx b).good
noncomputable def GT (lo:Int)(M:Nat):Nat->Nat->Rd
 | 0,x=>.done (.int (lo + x))
 | r + 1,x=>.need (λb=>decide (x * 256 + b<=M / 2 ^ (8 * r))) λb=>GT lo M r (x * 256 + b)
def HB:Nat->List Nat->Rd
 | 0,cs=>.done (.str ⟨cs.toArray⟩)
 | n + 1,cs=>.need CK λc=>HB n (cs++[c])
def GR (p:Rd):Nat->List D->Rd
 | 0,ds=>.done (.lst ds)
 | n + 1,ds=>p.bnd λv=>GR p n (ds++[v])
def pSh:Nat->Sh->Rd
 | 0,_=>.done .non
 | _ + 1,.nothing=>.done .non
 | _ + 1,.number lo hi=>GT lo (hi - lo).toNat (wid (hi - lo).toNat) 0
 | _ + 1,.text q=>.need (λb=>decide ((b:Int)<=q)) λb=>HB b []
 | n + 1,.list s q=>.need (λb=>decide ((b:Int)<=q)) λb=>GR (pSh n s) b []
 | n + 1,.pair s r=>(pSh n s).bnd λv=>(pSh n r).bnd λu=>.done (.tup [v,u])
 | n + 1,.choice ss=>.need (λb=>decide (b < ss.length)) λb=>(pSh n (ss.getD b .nothing)).bnd λv=>.done (.tup [.str "of",.int b,v])
mutual
noncomputable def plD:D->Bool
 | .lst xs=>pls xs
 | .tup xs=>pls xs
 | .obj _=>false
 | .scr _=>false
 | .ty _=>false
 | .exc _ _=>false
 | .dic=>false
 | _=>true
noncomputable def pls:List D->Bool
 | []=>true
 | d :: r=>plD d && pls r
end
noncomputable def pos (i:Int):Int:=if 0 < i then i else 0
structure ValueRes2 (k c l:Nat)(S:List Ob)(s:Sh)(a b:Int)(r:D)(S':List Ob):Prop where
 fit:AA s r=true
 lft:∃a' b':Int,S'[l]?=some (.lst [.int a',.int b'])/\((Br s r).length:Int)<=9 * (a - a') + (pos b - pos b')/\pos b'<=pos b/\1<=a - a'/\a - a'<=cnt s + (14 * (s.depth:Int)) * pos a
 deck:DeckAt k c S'
 kp:PD k c l S S'
mutual
noncomputable def szE:D->Nat
 | .lst xs=>1 + Ug xs
 | .tup xs=>1 + Ug xs
 | _=>1
noncomputable def Ug:List D->Nat
 | []=>0
 | d :: r=>szE d + Ug r
end
structure VOk (s:Sh)(v:D):Prop where
 fit:AA s v=true
 len:(Br s v).length<=14809
local macro_rules | `(tactic| walk_at "y1")=>`(tactic| first | walk_at "x1" | with_reducible refine WA ?_)
local macro_rules | `(tactic| symm)=>`(tactic| repeat (walk_at "y1"))
noncomputable def wD (w:List Nat):List D:=w.map λ(n:Nat)=>D.int (n:Int)
theorem B1 (w:List Nat):(wD w).length=w.length:=by unfold wD;rw [ui9]
theorem SK {a b:Nat}(h:w[a]?=some b):(wD w)[a]?=some (.int (b:Int)):=by unfold wD;rw [ug2,h];rfl
abbrev exS:D:=.exc "Short" []
abbrev exB (a:Nat):D:=.exc "Broken" [.int (a:Int),.non]
noncomputable def rrD:RR->D
 | .told v b=>.tup [v,.int (b:Int)]
 | .short=>exS
 | .broken a=>exB a
noncomputable def byX:Option Nat->D
 | none=>exS
 | some b=>.int (b:Int)
noncomputable def upX (m:Int)(a:Nat):Option Nat->D
 | none=>exS
 | some b=>if (b:Int)<=m then .int (b:Int) else exB a
def sgX (a:Nat):Option Nat->D
 | none=>exS
 | some c=>if CK c=true then .str ⟨#[c]⟩ else exB a
def BX (f:Fn):Prop:=∀(w:List Nat) (a:Nat),Pure1 f [.lst (wD w),.int (a:Int)] (byX w[a]?)
theorem YA:BX (fnOf 2 2 Fm):=by
 intro w a S;refine AR rfl ?_;unfold Fm;have hl:=B1 w
 cases h:w[a]? with
 | none=>
   have:=ub4.mp h;symm;refine GQ (uk4 (by lia)) ?_;symm;exact ⟨rfl,rfl⟩
 | some b=>
   obtain ⟨hj,_⟩:=ub1.mp h;symm;refine Hs (uj9 (by lia)) ?_;symm;refine B2 (Lo (SK h)) ?_;exact ⟨rfl,rfl,rfl⟩
def UX (f:Fn):Prop:=∀(m:Int) (w:List Nat) (a:Nat),Pure1 f [.int m,.lst (wD w),.int (a:Int)] (upX m a w[a]?)
theorem Y8 (hc:BX c):UX (fnOf 3 4 (Ef c)):=by
 intro m w a S;refine AR rfl ?_;unfold Ef;have hb:=hc w a
 cases h:w[a]? with
 | none=>
   rw [h,byX] at hb;symm;refine hb.use ?_;symm;exact ⟨rfl,rfl⟩
 | some b=>
   rw [h,byX] at hb;symm;refine hb.use ?_;symm;rw [upX]
   by_cases q:(b:Int)<=m
   ·rw [if_pos q];refine Hs (uj9 (by lia)) ?_;symm;exact ⟨rfl,rfl,rfl⟩
   ·rw [if_neg q];refine GQ (uk4 (by lia)) ?_;symm;exact ⟨rfl,rfl⟩
def SX (f:Fn):Prop:=∀(w:List Nat) (a:Nat),Pure1 f [.lst (wD w),.int (a:Int)] (sgX a w[a]?)
variable {cb:Fn}
theorem YY {cs:Fn}(hs:Kl cs)(hb:BX cb):SX (fnOf 2 3 (Fp cs cb)):=by
 intro w a S;refine AR rfl ?_;unfold Fp;have hb:=hb w a
 cases h:w[a]? with
 | none=>
   rw [h,byX] at hb;symm;refine hb.use ?_;symm;exact ⟨rfl,rfl⟩
 | some c=>
   rw [h,byX] at hb;symm;refine hb.use ?_;symm;refine (hs c).use ?_;rw [sgX]
   by_cases q:CK c=true
   ·rw [if_pos q,q];symm;refine W_ix_str.mpr ⟨by decide +kernel,c,Ya q,?_⟩;exact ⟨rfl,rfl,rfl⟩
   ·have q':CK c=false:=by simpa using q
    rw [if_neg q,q'];symm;exact ⟨rfl,rfl⟩
theorem YV (hl:HS cl)(hb:BX cb)(hw:Kn cw){lo hi:Int}(hwf:wf (.number lo hi)=true)(w:List Nat)(a:Nat):Pure1 (fnOf 3 7 (Dm cl cb cw)) [(Sh.number lo hi).d,.lst (wD w),.int (a:Int)] (rrD ((GT lo (hi - lo).toNat (wid (hi - lo).toNat) 0).run w a)):=by
 intro S;have hsp:=Px hwf;have hwd:=Lh 9 _ hsp;refine AR rfl ?_;unfold Dm;rw [Sh.d];have em:hi - lo=(((hi - lo).toNat:Nat):Int):=by
  simp only [wf,uh4,ug9] at hwf;lia
 have hww:=λS P p=>(hw (hi - lo).toNat hsp).use (S:=S) (P:=P) p;rw [<-em] at hww;generalize (hi - lo).toNat=M at *;generalize hW:wid M=n at *;symm;refine hww _ _ ?_;rw [em];symm;refine Ee (CY (by lia) (by lia)) ?_;refine C1 (λr t=>∃(j x:Nat) (e6:Option Sl),j<=n/\r=(rngL 0 ((n:Nat):Int).toNat).drop j/\(GT lo M n 0).run w a=(GT lo M (n - j) x).run w (a + j)/\t=⟨[some (.val (.tup [.str "number",.int lo,.int hi])),some (.val (.lst (wD w))),some (.val (.int a)),some (.val (.int M)),some (.val (.int n)),some (.val (.int x)),e6],S⟩) _ _ ⟨0,0,none,un0 _,rfl,rfl,rfl⟩ ?_ ?_
 ·rintro d r t ⟨j,x,e6,hj,hr,hrun,rfl⟩ _;obtain ⟨rfl,hr',hjn⟩:=LT hr;rw [ug3] at hjn;rw [um5];obtain ⟨e,he⟩:∃e,n - j=e + 1:=⟨n - j - 1,by lia⟩;rw [he,GT] at hrun;have hby:=hb w (a + j);symm;refine Jh (Vt (by decide) (by decide)) ?_;symm;rw [show ((a:Int) + (j:Int))=((a + j:Nat):Int) by lia]
  cases h:w[a + j]? with
  | none=>
    rw [h,byX] at hby;rw [Cj h] at hrun;refine hby.use ?_;symm;exact ⟨by rw [hrun];rfl,rfl⟩
  | some b=>
    rw [h,byX] at hby;rw [B8 h] at hrun;refine hby.use ?_;symm;refine ⟨rfl,?_⟩;symm;rw [show ((n:Int) - 1 - (j:Int))=((e:Nat):Int) by lia,show ((x:Int) * 256 + (b:Int))=((x * 256 + b:Nat):Int) by lia];refine (hl M e (by lia)).use ?_;symm
    by_cases q:x * 256 + b<=M / 2 ^ (8 * e)
    ·rw [if_pos (uk4 q)] at hrun;refine Hs (uj9 (by lia)) ?_;symm;exact ⟨j + 1,x * 256 + b,_,hjn,hr',by rw [show n - (j + 1)=e by lia,hrun,ul2],rfl⟩
    ·rw [if_neg (by rw [ug9];exact q)] at hrun;refine GQ (uk4 (by lia)) ?_;symm;exact ⟨by rw [hrun];rfl,rfl⟩
 ·rintro t ⟨j,x,e6,hj,hr,hrun,rfl⟩;have hj':j=n:=by
   have:=congrArg List.length hr;rw [uj3,uh3,K5,ug3] at this;lia
  subst hj';rw [um6,GT,Rd.run] at hrun;symm;exact ⟨rfl,by rw [hrun];rfl,rfl⟩
variable {ca cu:Fn}
theorem X5 (ha:SX ca)(hu:UX cu){q:Int}(hwf:wf (.text q)=true)(n:Nat)(w:List Nat)(a:Nat):Pure1 (fnOf 3 7 (DR ca cu)) [(Sh.text q).d,.lst (wD w),.int (a:Int)] (rrD ((pSh (n + 1) (.text q)).run w a)):=by
 intro S;have hL:LIM=100000:=rfl;refine AR rfl ?_;unfold DR;rw [Sh.d,pSh];simp only [wf,uh4,ug9] at hwf;have hup:=hu q w a;symm
 cases h:w[a]? with
 | none=>
   rw [h,upX] at hup;rw [Cj h];refine hup.use ?_;symm;exact ⟨rfl,rfl⟩
 | some b=>
   rw [h,upX] at hup;rw [B8 h]
   by_cases hb:(b:Int)<=q
   ·rw [if_pos hb] at hup;rw [if_pos (uk4 hb)];refine hup.use ?_;symm;refine Ee (CY (by lia) (by lia)) ?_;refine C1 (λr t=>∃(j:Nat) (y:Str) (e6:Option Sl),j<=b/\r=(rngL 0 ((b:Nat):Int).toNat).drop j/\y.cps.toList.length=j/\(HB b []).run w (a + 1)=(HB (b - j) y.cps.toList).run w (a + 1 + j)/\t=⟨[some (.val (.tup [.str "text",.int q])),some (.val (.lst (wD w))),some (.val (.int a)),some (.val (.int b)),some (.val (.int ((a:Int) + 1))),some (.val (.str y)),e6],S⟩) _ _ ⟨0,Str.ofString "",none,un0 _,rfl,by decide +kernel,by rw [um7,Nat.add_zero,show (Str.ofString "").cps.toList=[] by decide +kernel],rfl⟩ ?_ ?_
    ·rintro d r t ⟨j,y,e6,hj,hr,hyl,hrun,rfl⟩ _;obtain ⟨rfl,hr',hjn⟩:=LT hr;rw [ug3] at hjn;rw [um5];obtain ⟨e,he⟩:∃e,b - j=e + 1:=⟨b - j - 1,by lia⟩;rw [he,HB] at hrun;have hsg:=ha w (a + 1 + j);symm;rw [show ((a:Int) + 1 + (j:Int))=((a + 1 + j:Nat):Int) by lia]
     cases h2:w[a + 1 + j]? with
     | none=>
       rw [h2,sgX] at hsg;rw [Cj h2] at hrun;refine hsg.use ?_;symm;exact ⟨by rw [hrun];rfl,rfl⟩
     | some c=>
       rw [h2,sgX] at hsg;rw [B8 h2] at hrun
       by_cases hc:CK c=true
       ·rw [if_pos hc] at hsg hrun;refine hsg.use ?_;symm;refine Cm (by rw [E6 y,hyl,hL];show j + 1<=_;lia) ?_;refine ⟨rfl,?_⟩;symm;refine ⟨j + 1,_,_,hjn,hr',?_,?_,rfl⟩
        ·rw [GD,uf5,hyl];rfl
        ·rw [hrun,GD,show b - (j + 1)=e by lia,ul2 (a + 1)]
       ·rw [if_neg hc] at hsg hrun;refine hsg.use ?_;symm;exact ⟨by rw [hrun];rfl,rfl⟩
    ·rintro t ⟨j,y,e6,hj,hr,hyl,hrun,rfl⟩;have hj':j=b:=by
      have:=congrArg List.length hr;rw [uj3,uh3,K5,ug3] at this;lia
     subst hj';rw [um6,HB,Rd.run] at hrun;have ey:(⟨y.cps.toList.toArray⟩:Str)=y:=Wp (by simp);rw [ey] at hrun;symm;refine ⟨rfl,?_,rfl⟩;rw [hrun,rrD,show ((a:Int) + 1 + (j:Int))=((a + 1 + j:Nat):Int) by lia]
   ·rw [if_neg hb] at hup;rw [if_neg (by rw [ug9];exact hb)];refine hup.use ?_;symm;exact ⟨rfl,rfl⟩
def RX (c:Fn)(s:Sh)(p:Rd):Prop:=∀(w:List Nat) (a:Nat),a<=w.length->Pure1 c [s.d,.lst (wD w),.int (a:Int)] (rrD (p.run w a))
theorem X1 {s:Sh}{p:Rd}{q:Int}(hu:UX cu)(hq2:q<=250)(hc:RX c s p)(w:List Nat)(a:Nat):Pure1 (fnOf 3 8 (DP c cu)) [(Sh.list s q).d,.lst (wD w),.int (a:Int)] (rrD ((Rd.need (λb=>decide ((b:Int)<=q)) λb=>GR p b []).run w a)):=by
 intro S;have hL:LIM=100000:=rfl;refine AR rfl ?_;unfold DP;rw [Sh.d];have hup:=hu q w a;symm
 cases h:w[a]? with
 | none=>
   rw [h,upX] at hup;rw [Cj h];refine hup.use ?_;symm;exact ⟨rfl,rfl⟩
 | some b=>
   have hal:=(ub1.mp h).1;rw [h,upX] at hup;rw [B8 h]
   by_cases hb:(b:Int)<=q
   ·rw [if_pos hb] at hup;rw [if_pos (uk4 hb)];refine hup.use ?_;symm;refine Ee (CY (by lia) (by lia)) ?_;refine C1 (λr t=>∃(j a':Nat) (ds:List D) (e6 e7:Option Sl),j<=b/\r=(rngL 0 ((b:Nat):Int).toNat).drop j/\ds.length=j/\a'<=w.length/\(GR p b []).run w (a + 1)=(GR p (b - j) ds).run w a'/\t=⟨[some (.val (.tup [.str "list",s.d,.int q])),some (.val (.lst (wD w))),some (.val (.int a)),some (.val (.int b)),some (.val (.int (a':Int))),some (.own ds),e6,e7],S⟩) _ _ ⟨0,a + 1,[],none,none,un0 _,rfl,rfl,hal,rfl,rfl⟩ ?_ ?_
    ·rintro d r t ⟨j,a',ds,e6,e7,hj,hr,hdl,ha',hrun,rfl⟩ _;obtain ⟨rfl,hr',hjn⟩:=LT hr;rw [ug3] at hjn;obtain ⟨e,he⟩:∃e,b - j=e + 1:=⟨b - j - 1,by lia⟩;rw [he,GR,E7] at hrun;have hcc:=hc w a' ha'
     cases h2:p.run w a' with
     | short=>
       rw [h2] at hrun hcc;symm;refine hcc.use ?_;rw [rrD];symm;exact ⟨by rw [hrun];rfl,rfl⟩
     | broken k=>
       rw [h2] at hrun hcc;symm;refine hcc.use ?_;rw [rrD];symm;exact ⟨by rw [hrun];rfl,rfl⟩
     | told v a2=>
       have hle:=DT p a' ha' h2;rw [h2] at hrun hcc;symm;refine hcc.use ?_;rw [rrD];symm;refine Cm (by rw [hdl,hL];lia) ?_;symm;exact ⟨j + 1,a2,ds++[v],_,_,hjn,hr',by rw [uf5,hdl];rfl,hle.2,by rw [hrun,show b - (j + 1)=e by lia];rfl,rfl⟩
    ·rintro t ⟨j,a',ds,e6,e7,hj,hr,hdl,ha',hrun,rfl⟩;have hj':j=b:=by
      have:=congrArg List.length hr;rw [uj3,uh3,K5,ug3] at this;lia
     subst hj';rw [um6,GR,Rd.run] at hrun;symm;exact ⟨rfl,by rw [hrun];rfl,rfl⟩
   ·rw [if_neg hb] at hup;rw [if_neg (by rw [ug9];exact hb)];refine hup.use ?_;symm;exact ⟨rfl,rfl⟩
theorem X2 {s r:Sh}{p p':Rd}(hs:RX c s p)(hr:RX c r p')(w:List Nat)(a:Nat)(ha:a<=w.length):Pure1 (fnOf 3 5 (DQ c)) [(Sh.pair s r).d,.lst (wD w),.int (a:Int)] (rrD ((p.bnd λv=>p'.bnd λu=>.done (.tup [v,u])).run w a)):=by
 intro S;refine AR rfl ?_;unfold DQ;rw [Sh.d,E7];have h1:=hs w a ha
 cases e1:p.run w a with
 | short=>
   rw [e1] at h1;symm;refine h1.use ?_;rw [rrD];symm;exact ⟨rfl,rfl⟩
 | broken k=>
   rw [e1] at h1;symm;refine h1.use ?_;rw [rrD];symm;exact ⟨rfl,rfl⟩
 | told v a'=>
   have hle:=DT p a ha e1;rw [e1] at h1;have h2:=hr w a' hle.2;rw [RR.thn,E7];symm;refine h1.use ?_;rw [rrD];symm;refine h2.use ?_
   cases e2:p'.run w a' with
   | short=>rw [rrD];symm;exact ⟨rfl,rfl⟩
   | broken k=>rw [rrD];symm;exact ⟨rfl,rfl⟩
   | told u a2=>rw [rrD];symm;exact ⟨rfl,rfl,rfl⟩
variable {ss:List Sh}
theorem Uc {p:Nat->Rd}(hu:UX cu)(hc:∀(k:Nat) (h:k < ss.length),RX c ss[k] (p k))(w:List Nat)(a:Nat):Pure1 (fnOf 3 5 (Dl c cu)) [(Sh.choice ss).d,.lst (wD w),.int (a:Int)] (rrD ((Rd.need (λb=>decide (b < ss.length)) λb=>(p b).bnd λv=>.done (.tup [.str "of",.int b,v])).run w a)):=by
 intro S;refine AR rfl ?_;unfold Dl;rw [Sh.d];have hup:=hu ((ss.length:Int) - 1) w a;symm;rw [E9];refine hup.use ?_
 cases h:w[a]? with
 | none=>
   rw [Cj h,upX];symm;exact ⟨rfl,rfl⟩
 | some b=>
   have hal:=(ub1.mp h).1;rw [B8 h,upX]
   by_cases hb:b < ss.length
   ·rw [if_pos (show (b:Int)<=(ss.length:Int) - 1 by lia),if_pos (uk4 hb),E7];have e0:ss[b]?=some ss[b]:=ub6 hb;have hsd:atI (shD ss) (b:Int)=some ss[b].d:=Lo (by rw [Hb,e0];rfl);have h2:=hc b hb w (a + 1) hal;symm;refine HL hsd ?_;symm;rw [show ((a:Int) + 1)=((a + 1:Nat):Int) by lia];refine h2.use ?_
    cases e2:(p b).run w (a + 1) with
    | short=>rw [rrD];symm;exact ⟨rfl,rfl⟩
    | broken k=>rw [rrD];symm;exact ⟨rfl,rfl⟩
    | told u a2=>rw [rrD];symm;exact ⟨rfl,rfl,rfl⟩
   ·rw [if_neg (show ¬(b:Int)<=(ss.length:Int) - 1 by lia),if_neg (by rw [ug9];exact hb)];symm;exact ⟨rfl,rfl⟩
def Kk (f:Fn)(n:Nat):Prop:=∀s:Sh,s.depth<=n->wf s=true->RX f s (pSh n s)
theorem Ud (hn:∀lo hi,wf (.number lo hi)=true->RX cn (.number lo hi) (pSh (n + 1) (.number lo hi)))(ht:∀q,wf (.text q)=true->RX ct (.text q) (pSh (n + 1) (.text q)))
 (hl:∀s q,q<=250->s.depth<=n->wf s=true->RX cl (.list s q) (pSh (n + 1) (.list s q))) (hp:∀s r,s.depth<=n->r.depth<=n->wf s=true->wf r=true->RX cp (.pair s r) (pSh (n + 1) (.pair s r)))
 (hc:∀ss:List Sh,(∀(k:Nat) (h:k < ss.length),ss[k].depth<=n/\wf ss[k]=true)->RX cc (.choice ss) (pSh (n + 1) (.choice ss))):Kk (fnOf 3 4 (Dz cc cp cl ct cn)) (n + 1):=by
 intro s hs hwf w a ha S;refine AR rfl ?_;unfold Dz
 cases s with
 | nothing=>
   rw [Sh.d,pSh,Rd.run,rrD];symm;exact ⟨rfl,rfl,rfl⟩
 | number lo hi=>
   have h:=hn lo hi hwf w a ha;rw [Sh.d] at h ⊢;symm;exact h.use ⟨rfl,rfl⟩
 | text q=>
   have h:=ht q hwf w a ha;rw [Sh.d] at h ⊢;symm;exact h.use ⟨rfl,rfl⟩
 | list s q=>
   simp only [wf,uh4,ug9] at hwf;rw [Sh.depth] at hs;have h:=hl s q hwf.1.2 (by lia) hwf.2 w a ha;rw [Sh.d] at h ⊢;symm;exact h.use ⟨rfl,rfl⟩
 | pair s r=>
   simp only [wf,uh4] at hwf;rw [Sh.depth] at hs;have h:=hp s r (by lia) (by lia) hwf.1 hwf.2 w a ha;rw [Sh.d] at h ⊢;symm;exact h.use ⟨rfl,rfl⟩
 | choice ss=>
   simp only [wf,uh4,ug9] at hwf;rw [Sh.depth] at hs;have h:=hc ss (λk hk=>⟨ul7 (DV ss _ _ (ub6 hk)) (by lia),Fb hwf.2 _ (ui0 hk)⟩) w a ha;rw [Sh.d] at h ⊢;symm;exact h.use ⟨rfl,rfl⟩
theorem Ss {cl':Fn}(e1:cc=fnOf 3 5 (Dl c cu))(e2:cp=fnOf 3 5 (DQ c))(e3:cl=fnOf 3 8 (DP c cu))(e4:ct=fnOf 3 7 (DR ca cu))(e5:cn=fnOf 3 7 (Dm cl' cb cw))
 (hu:UX cu) (ha:SX ca) (hl':HS cl') (hb:BX cb) (hw:Kn cw) (hc:Kk c n):Kk (fnOf 3 4 (Dz cc cp cl ct cn)) (n + 1):=by
 subst e1 e2 e3 e4 e5;refine Ud (λlo hi h w a _=>?_) (λq h w a _=>X5 ha hu h n w a) (λs q h2 hd h w a _=>?_) (λs r d1 d2 w1 w2 w a ha=>?_) λss h w a _=>?_
 ·rw [pSh];exact YV hl' hb hw h w a
 ·rw [pSh];exact X1 hu h2 (hc s hd h) w a
 ·rw [pSh];exact X2 (hc s d1 w1) (hc r d2 w2) w a ha
 ·rw [pSh];refine Uc hu (p:=λb=>pSh n (ss.getD b .nothing)) (λk hk=>?_) w a;show RX c ss[k] (pSh n (ss.getD k .nothing));rw [ub0,ub6 hk,Option.getD_some];exact hc _ (h k hk).1 (h k hk).2
noncomputable def seg (w:List Nat)(a b:Nat):List Nat:=(w.drop a).take (b - a)
theorem FD (w:List Nat)(a:Nat):seg w a a=[]:=by unfold seg;rw [um6,List.take_zero]
variable {x:Nat}
theorem FC {a b:Nat}(h:w[a]?=some x)(hb:a + 1<=b):seg w a b=x :: seg w (a + 1) b:=by
 obtain ⟨hl,e⟩:=ub1.mp h;unfold seg;rw [ub3 hl,e,show b - a=(b - (a + 1)) + 1 by lia,ue8]
theorem L5 {a c b:Nat}(h1:a<=c)(h2:c<=b):seg w a b=seg w a c++seg w c b:=by
 unfold seg;rw [show b - a=(c - a) + (b - c) by lia,List.take_add,List.drop_drop,show a + (c - a)=c by lia]
theorem DE (x y:List Nat):wD (x++y)=wD x++wD y:=by unfold wD;rw [uj7]
theorem Jg (x:Nat)(y:List Nat):wD (x :: y) = .int (x:Int) :: wD y:=rfl
theorem Pk:∀(r y:Nat),nb (r + 1) y = .int ((y / 256 ^ r % 256:Nat):Int) :: nb r y
 | 0,y=>by rw [nb,nb,nb,um1,un2];rfl
 | r + 1,y=>by
   rw [show nb (r + 1 + 1) y=nb (r + 1) (y / 256)++[.int ((y % 256:Nat):Int)] from rfl,Pk r (y / 256),ui1,show nb (r + 1) y=nb r (y / 256)++[.int ((y % 256:Nat):Int)] from rfl,uc9,show 256 * 256 ^ r=256 ^ (r + 1) by rw [um2,ul9]]
theorem N1 {lo:Int}{M:Nat}{w:List Nat}(hw:∀x∈w,x < 256){v:D}{b:Nat}:∀(r x a:Nat),(GT lo M r x).run w a = .told v b->∃y:Nat,v = .int (lo + y)/\y / 256 ^ r=x/\(x<=M / 2 ^ (8 * r)->y<=M)/\nb r y=wD (seg w a b)/\b=a + r
 | 0,x,a,h=>by
   rw [GT,Rd.run] at h
   cases h
   exact ⟨x,rfl,by rw [um1,un2],(λh=>by rw [Nat.mul_zero,um1,un2] at h;exact h),by rw [FD,nb];rfl,rfl⟩
 | r + 1,x,a,h=>by
   rw [GT] at h
   cases e:w[a]? with
   | none=>rw [Cj e] at h;cases h
   | some c=>
     rw [B8 e] at h;have hc:=hw c (ue0 e)
     by_cases q:x * 256 + c<=M / 2 ^ (8 * r)
     ·rw [if_pos (uk4 q)] at h;obtain ⟨y,h1,h2,h3,h4,h5⟩:=N1 hw r _ _ h;refine ⟨y,h1,?_,λ_=>h3 q,?_,by lia⟩
      ·rw [um2,<-uc9,h2];lia
      ·rw [Pk,h2,FC e (by lia),Jg,h4]
       congr 3
       lia
     ·rw [if_neg (by rw [ug9];exact q)] at h;cases h
theorem Oq {w:List Nat}{v:D}{b:Nat}:∀(n:Nat) (cs:List Nat) (a:Nat),(HB n cs).run w a = .told v b->v = .str ⟨(cs++seg w a b).toArray⟩/\(seg w a b).length=n/\(∀c∈seg w a b,CK c=true)/\b=a + n
 | 0,cs,a,h=>by
   rw [HB,Rd.run] at h
   cases h
   rw [FD,ui6];exact ⟨rfl,rfl,(λc z=>nomatch z),rfl⟩
 | n + 1,cs,a,h=>by
   rw [HB] at h
   cases e:w[a]? with
   | none=>rw [Cj e] at h;cases h
   | some c=>
     rw [B8 e] at h
     by_cases q:CK c=true
     ·rw [if_pos q] at h;obtain ⟨h1,h2,h3,h4⟩:=Oq n _ _ h;rw [FC e (by lia)];refine ⟨by rw [h1,ug5];rfl,by rw [uh5,h2],λx hx=>?_,by lia⟩;rcases uk6.mp hx with rfl | hx
      ·exact q
      ·exact h3 x hx
     ·rw [if_neg q] at h;cases h
theorem NW {w:List Nat}{s:Sh}{p:Rd}(hp:∀(a b:Nat) (v:D),a<=w.length->p.run w a = .told v b->AA s v=true/\Br s v=wD (seg w a b)){v:D}{b:Nat}:∀(n:Nat) (ds:List D) (a:Nat),a<=w.length->(GR p n ds).run w a = .told v b->∃es,v = .lst (ds++es)/\es.length=n/\(∀e∈es,AA s e=true)/\(es.map λd=>Br s d).flatten=wD (seg w a b)/\a<=b
 | 0,ds,a,_,h=>by
   rw [GR,Rd.run] at h
   cases h
   exact ⟨[],by rw [ui6],rfl,(λe z=>nomatch z),by rw [FD];rfl,um9 _⟩
 | n + 1,ds,a,ha,h=>by
   rw [GR,E7] at h
   cases e:p.run w a with
   | short=>rw [e] at h;cases h
   | broken k=>rw [e] at h;cases h
   | told u a'=>
     rw [e,RR.thn] at h;have hle:=DT p a ha e;have hu:=hp a a' u ha e;obtain ⟨es,h1,h2,h3,h4,h5⟩:=NW hp n _ _ hle.2 h;refine ⟨u :: es,by rw [h1,ug5];rfl,by rw [uh5,h2],λx hx=>?_,?_,by lia⟩
     ·rcases uk6.mp hx with rfl | hx
      ·exact hu.1
      ·exact h3 x hx
     ·rw [uk9,ug4,h4,hu.2,L5 hle.1 h5,DE]
theorem L3:∀(n:Nat) (s:Sh),s.depth<=n->wf s=true->∀(w:List Nat),(∀x∈w,x < 256)->∀(a b:Nat) (v:D),a<=w.length->(pSh n s).run w a = .told v b->AA s v=true/\Br s v=wD (seg w a b)
 | 0,s,hs,_,_,_,_,_,_,_,_=>absurd s.depth_pos (by lia)
 | n + 1,s,hs,hwf,w,hw,a,b,v,ha,h=>by
   cases s with
   | nothing=>
     rw [pSh,Rd.run] at h
     cases h
     rw [FD,Br];exact ⟨by simp [AA,IS],rfl⟩
   | number lo hi=>
     rw [pSh] at h;obtain ⟨y,rfl,_,h3,h4,_⟩:=N1 hw _ _ _ h;have hy:=h3 (un0 _);simp only [wf,uh4,ug9] at hwf;refine ⟨?_,?_⟩
     ·simp only [AA,uh4,ug9];lia
     ·rw [Br,<-h4,show (lo + (y:Int) - lo).toNat=y by lia]
   | text q=>
     rw [pSh] at h
     cases e:w[a]? with
     | none=>rw [Cj e] at h;cases h
     | some c=>
       rw [B8 e] at h
       by_cases hc:(c:Int)<=q
       ·rw [if_pos (uk4 hc)] at h;obtain ⟨rfl,h2,h3,h4⟩:=Oq _ _ _ h;rw [uj1];have hl:(⟨(seg w (a + 1) b).toArray⟩:Str).length=c:=by rw [E6];exact h2
        refine ⟨?_,?_⟩
        ·simp only [AA,uh4,ug9,uh8];exact ⟨by rw [hl];exact hc,h3⟩
        ·rw [Br,hl,FC e (by lia),Jg];rfl
       ·rw [if_neg (by rw [ug9];exact hc)] at h;cases h
   | list s q=>
     simp only [wf,uh4,ug9] at hwf;rw [Sh.depth] at hs;rw [pSh] at h
     cases e:w[a]? with
     | none=>rw [Cj e] at h;cases h
     | some c=>
       have hal:=(ub1.mp e).1;rw [B8 e] at h
       by_cases hc:(c:Int)<=q
       ·rw [if_pos (uk4 hc)] at h;obtain ⟨es,rfl,h2,h3,h4,h5⟩:=NW (λa b v=>L3 n s (by lia) hwf.2 w hw a b v) _ _ _ hal h;rw [uj1];refine ⟨?_,?_⟩
        ·rw [AA,uh4,ug9,uh8];exact ⟨by rw [h2];exact hc,h3⟩
        ·rw [Br,h4,h2,FC e h5,Jg]
       ·rw [if_neg (by rw [ug9];exact hc)] at h;cases h
   | pair s r=>
     simp only [wf,uh4] at hwf;rw [Sh.depth] at hs;rw [pSh,E7] at h
     cases e:(pSh n s).run w a with
     | short=>rw [e] at h;cases h
     | broken k=>rw [e] at h;cases h
     | told u a'=>
       rw [e,RR.thn,E7] at h;have l1:=DT _ a ha e;have i1:=L3 n s (by lia) hwf.1 w hw a a' u ha e
       cases e2:(pSh n r).run w a' with
       | short=>rw [e2] at h;cases h
       | broken k=>rw [e2] at h;cases h
       | told u2 a2=>
         rw [e2] at h;have l2:=DT _ a' l1.2 e2;have i2:=L3 n r (by lia) hwf.2 w hw a' a2 u2 l1.2 e2
         cases h
         refine ⟨?_,?_⟩
         ·simp only [AA,uh4];exact ⟨i1.1,i2.1⟩
         ·rw [Br,i1.2,i2.2,L5 l1.1 l2.1,DE]
   | choice ss=>
     simp only [wf,uh4,ug9] at hwf;rw [Sh.depth] at hs;rw [pSh] at h
     cases e:w[a]? with
     | none=>rw [Cj e] at h;cases h
     | some c=>
       have hal:=(ub1.mp e).1;rw [B8 e] at h
       by_cases hc:c < ss.length
       ·rw [if_pos (uk4 hc),E7] at h;have e0:ss[c]?=some ss[c]:=ub6 hc;rw [ub0,e0,Option.getD_some] at h
        cases e2:(pSh n ss[c]).run w (a + 1) with
        | short=>rw [e2] at h;cases h
        | broken k=>rw [e2] at h;cases h
        | told u a2=>
          rw [e2] at h;have l1:=DT _ (a + 1) hal e2;have i1:=L3 n ss[c] (ul7 (DV ss _ _ e0) (by lia)) (Fb hwf.2 _ (ui0 hc)) w hw (a + 1) a2 u hal e2
          cases h
          refine ⟨?_,?_⟩
          ·simp only [AA,uh4,ug9];refine ⟨⟨rfl,by lia,by lia⟩,?_⟩;rw [ug3,DU ss _ _ _ e0];exact i1.1
          ·rw [Br,ug3,FP ss _ _ _ e0,i1.2,FC e l1.1,Jg]
       ·rw [if_neg (by rw [ug9];exact hc)] at h;cases h
variable {kvs:List (Key×D)}
theorem B0 {x:Str}{d:D}(e:t.S[n]?=some (.dct kvs))(e2:B5 kvs (.inr x)=some d)(h:P d t):W (BY (.obj n) (.str x)) t P:=
 ⟨d,t,by simp only [BY,e,e2];rfl,h⟩
theorem Db {g:M D}{d:D}{U:Unit->T->Prop}(h:W f t λo t1=>W g t1 λi t2=>W (Hc o i d) t2 U):W (D2 f g d) t U:=EH (h.mono λo t1 h1=>EH h1)
theorem Cy {x:Str}{d:D}{U:Unit->T->Prop}(e:t.S[n]?=some (.dct kvs))(hl:kvs.length < LIM)(h:U () ⟨t.env,t.S.set n (.dct (Ch kvs (.inr x) d))⟩):W (Hc (.obj n) (.str x) d) t U:=
 ⟨(),_,by simp only [Hc,e,if_pos hl],h⟩
theorem F6 {l:List (Str×M D)}(h:W (EK l) ⟨t.env,t.S++[.dct []]⟩ λps t1=>t1.S[t.S.length]?=some (.dct [])/\ps.length<=15/\P (.obj t.S.length) ⟨t1.env,t1.S.set t.S.length (.dct (BO ps))⟩):W (Fg l) t P:=by
 obtain ⟨ps,t1,e1,e2,e3,p⟩:=h;refine ⟨_,_,?_,p⟩;unfold Fg bnd;simp only [e1];unfold Ly;simp only [e2,if_pos e3]
theorem DF {Q:List (Key×D)->T->Prop}(h:Q [] t):W (EK []) t Q:=⟨_,_,rfl,h⟩
theorem BK {k:Str}{r:List (Str×M D)}{Q:List (Key×D)->T->Prop}(h:W f t λd t1=>W (EK r) t1 λps t2=>Q ((.inr k,d) :: ps) t2):W (EK ((k,f) :: r)) t Q:=
 EH (h.mono λd t1 h1=>EH (h1.mono λps t2 h2=>⟨_,_,rfl,h2⟩))
structure St where
 rest:Int
 mixed:Bool
 turn:Int
noncomputable def St.ob (s:St):Ob:=.dct [(.inr (Str.ofString "rest"),.int s.rest),(.inr (Str.ofString "mixed"),.bl s.mixed),(.inr (Str.ofString "turn"),.int s.turn)]
noncomputable def take (s:St)(m:Int):Int×St:=
 if s.mixed=false then (s.rest % m,⟨s.rest / m,s.mixed,s.turn⟩)
 else
  let stir:=(s.rest % 2147483579 + 70001 * (s.turn + 1)) % 2147483579
  let rest:=(stir * stir % 2147483563 * 50021 + 7) % 2147483579
  (rest / 5 % m,⟨rest,s.mixed,s.turn + 1⟩)
theorem Cn (a:Int)(n:Nat):(rngL a n).length=n:=by simp [rngL]
inductive GS where
 | fin
 | st (side:Str) (ws:List (Str×Sh×Int))
def wdD (w:Str×Sh×Int):D:=.tup [.str w.1,w.2.1.d,.int w.2.2]
def GS.d:GS->D
 | .fin=>.tup [.str (Str.ofString "end")]
 | .st side ws=>.tup [.str side,.lst (ws.map wdD)]
noncomputable def GS.isFin:GS->Bool
 | .fin=>true
 | _=>false
theorem Yq {g:Bool->Bool}{x:GS}(h:P (.bl (g x.isFin)) t):W (eqS g x.d (.tup [.str (Str.ofString "end")])) t P:=by
 cases x with
 | fin=>exact ⟨_,_,by
    show Option.map (λb=>(D.bl (g b),t)) (Option.map (λb=>b && true) (some ((Str.ofString "end" == Str.ofString "end") && true)))=some (D.bl (g true),t);rw [ui2];rfl,h⟩
 | st side ws=>exact ⟨_,_,by
    show Option.map (λb=>(D.bl (g b),t)) (Option.map (λb=>b && false) (some ((side == Str.ofString "end") && true)))=some (D.bl (g false),t)
    cases (side == Str.ofString "end") <;> rfl,h⟩
theorem FB {a:Int}{d:D}{r:List D}(e:d :: r=(rngL a n).drop j):d = .int (a + j)/\r=(rngL a n).drop (j + 1)/\j < n:=by
 have hj:j < (rngL a n).length:=by
  rcases Nat.lt_or_ge j (rngL a n).length with h | h
  ·exact h
  ·rw [List.drop_eq_nil_of_le h] at e;cases e
 rw [ub3 hj] at e;injection e with e1 e2
 rw [Cn] at hj;refine ⟨?_,e2,hj⟩;rw [e1];simp [rngL]
structure WOk (n:Int)(w:Str×Sh×Int):Prop where
 ok:wf w.2.1=true
 dep:w.2.1.depth<=3
 lo:0<=w.2.2
 hi:w.2.2 < n
 nm:w.1.length<=90000
inductive GSOk (n:Int):GS->Prop
 | fin:GSOk n .fin
 | st {side:Str} {ws:List (Str×Sh×Int)}:(side=Str.ofString "left"\/side=Str.ofString "right")->0 < ws.length->ws.length<=9->(ws.map (·.1)).Nodup->(∀w∈ws,WOk n w)->GSOk n (.st side ws)
structure GOk (g:List GS):Prop where
 ne:0 < g.length
 le:g.length<=30
 all:∀x∈g,GSOk g.length x
def Lk (f:Fn):Prop:=∀(n:Int) (x:GS),GSOk n x->Pure1 f [x.d] (.bl x.isFin)
theorem Rz:Lk (fnOf 1 1 Hu):=by
 intro n x hx S;refine AR rfl ?_;unfold Hu
 cases hx with
 | fin=>
   rw [GS.d];right;exact ⟨by simp [GS.isFin],rfl⟩
 | st hs _ _ _ _=>
   rw [GS.d];right;refine ⟨?_,rfl⟩;rcases hs with rfl | rfl <;> simp [GS.isFin]
def GS.words:GS->D
 | .fin=>.tup []
 | .st _ ws=>.lst (ws.map wdD)
noncomputable def GS.ws:GS->List (Str×Sh×Int)
 | .fin=>[]
 | .st _ ws=>ws
def Lm (f:Fn):Prop:=∀(n:Int) (x:GS),GSOk n x->Pure1 f [x.d] x.words
theorem Us {ce:Fn}(he:Lk ce):Lm (fnOf 1 1 (F1 ce)):=by
 intro n x hx S;refine AR rfl ?_;unfold F1
 cases x with
 | fin=>
   right;refine (he n .fin hx).use ?_;right;exact ⟨rfl,rfl⟩
 | st side ws=>
   right;refine (he n (.st side ws) hx).use ?_;rw [GS.d];right;exact ⟨rfl,rfl⟩
def N9:Option Nat->D
 | some i=>.int i
 | none=>.non
def Jw (f:Fn):Prop:=∀(n:Int) (x:GS) (nm:Str),GSOk n x->Pure1 f [x.d,.str nm] (N9 (x.ws.findIdx? λw=>w.1 == nm))
theorem Ih {p:α->Bool}{l:List α}(h:∀i (hi:i < l.length),i < j->p l[i]=false){x:α}(hx:l[j]?=some x)(hp:p x=true):l.findIdx? p=some j:=by
 obtain ⟨hj,e⟩:=ub1.mp hx;rw [ua0];exact ⟨hj,by rw [e];exact hp,λi hi=>by simpa using h i (by lia) hi⟩
theorem LR (hw:Lm cw):Jw (fnOf 2 4 (EQ cw)):=by
 intro n x nm hx S;refine AR rfl ?_;unfold EQ;right;refine (hw n x hx).use ?_;have key:∀(ws:List (Str×Sh×Int)) (d:D),ws.length<=9->(∀(t:T) (P:D->T->Prop),P (.int ws.length) t->W (B9 [d]) t P)->(∀(t:T) (P:D->T->Prop) (i:Nat) (w:Str×Sh×Int),ws[i]?=some w->P (wdD w) t->W (ixD d (.int i)) t P)->
  W (Aq (C9 (CJ (Ac (fB (Ac (Ad 2) Aj) B9) Aj)) (By 3)
  (ifS (AQ (Ah (Ah (Ah (Ad 2) (Ad 3) ixD) (fC (.int 0)) ixD) (Ad 1) (eqS id)))
  (AJ (Ad 3))
  AX))
 (AJ (fC .non))) ⟨[some (.val x.d),some (.val (.str nm)),some (.val d),none],S⟩ λo t=>match o with
   | .ret r=>r=N9 (ws.findIdx? λw=>w.1 == nm)/\t.S=S
   | .next=>D.non=N9 (ws.findIdx? λw=>w.1 == nm)/\t.S=S
   | _=>False:=by
   intro ws d hl len ix;right;refine len _ _ ?_;right;refine Ee (CY (by lia) (by lia)) ?_;refine C1 (λr t=>∃(j:Nat) (e3:Option Sl),(∀i (hi:i < ws.length),i < j->(ws[i].1 == nm)=false)/\j<=ws.length/\r=(rngL 0 ((ws.length:Nat):Int).toNat).drop j/\t=⟨[some (.val x.d),some (.val (.str nm)),some (.val d),e3],S⟩) _ _ ⟨0,none,λi hi h=>absurd h (by lia),by lia,rfl,rfl⟩ ?_ ?_
   ·rintro d' r t ⟨j,e3,hj,hjl,hr,rfl⟩ _;obtain ⟨rfl,hr',hjn⟩:=FB hr;rw [ug3] at hjn;have e:ws[j]?=some ws[j]:=ub6 hjn;rw [um5];right;refine ix _ _ j _ e ?_;unfold wdD;right;refine CU (λq=>?_) λq=>?_
    ·right;refine ⟨?_,rfl⟩;rw [Ih hj e q];rfl
    ·right;refine ⟨j + 1,_,λi hi hij=>?_,by lia,hr',rfl⟩;rcases Nat.lt_or_ge i j with h | h
     ·exact hj i hi h
     ·have:i=j:=by lia
      subst this;exact q
   ·rintro t ⟨j,e3,hj,hjl,hr,rfl⟩;have hj':j=ws.length:=by
     have:=congrArg List.length hr;rw [uj3,uh3,Cn,ug3] at this;lia
    subst hj';right;refine ⟨?_,rfl⟩;rw [List.findIdx?_eq_none_iff.mpr]
    ·rfl
    ·intro w hw';obtain ⟨i,hi,rfl⟩:=List.mem_iff_getElem.mp hw';exact hj i hi hi
 cases hx with
 | fin=>
   refine DC ?_;refine key [] (.tup []) (by decide) (λt P h=>UU h) λt P i w e h=>?_;simp at e
 | @st side ws h1 h2 h3 h4 h5=>
   refine DC ?_;refine key ws (.lst (ws.map wdD)) h3 (λt P h=>US (by rw [ui9];exact h)) λt P i w e h=>?_;obtain ⟨hi,_⟩:=ub1.mp e;refine B2 ?_ h;unfold atI;rw [CT (by lia) (by rw [ui9];lia)];show (ws.map wdD)[(i:Int).toNat]?=_;rw [ug3,ug2,e];rfl
theorem U5 {x:Int}:eqN n (.int x) (.int x)=some true:=by
 cases n <;> (show some (x == x)=some true;rw [ui2])
theorem U7 (h:∀x∈xs,eqN n x x=some true):eqN (n + 1) (.tup xs) (.tup xs)=some true:=by
 rw [eqN,Eo h];simp
theorem U6 (h:∀x∈xs,eqN n x x=some true):eqN (n + 1) (.lst xs) (.lst xs)=some true:=by
 rw [eqN,if_pos rfl,Eo h]
noncomputable def GS.side:GS->Str
 | .fin=>Str.ofString "end"
 | .st s _=>s
noncomputable def BT (g:List GS)(q:Nat):GS:=g.getD q .fin
def wdAt (g:List GS)(q p:Nat):Str×Sh×Int:=(BT g q).ws.getD p (Str.ofString "",.nothing,0)
def De (g:List GS)(q p:Nat):Nat:=(wdAt g q p).2.2.toNat
def Fr (g:List GS)(q p:Nat)(v:D):D:=.tup [.str (BT g q).side,.str (wdAt g q p).1,v]
abbrev Mv:=Nat×D
def lastQ (g:List GS):Nat->List Mv->Nat
 | q,[]=>q
 | q,(p,_) :: r=>lastQ g (De g q p) r
def B6 (g:List GS):Nat->List Mv->List D
 | _,[]=>[]
 | q,(p,v) :: r=>Fr g q p v :: B6 g (De g q p) r
def CI (g:List GS):Nat->List Mv->List D
 | _,[]=>[]
 | q,(p,_) :: r=>.tup [.int q,.int p] :: CI g (De g q p) r
def EC (g:List GS):Nat->List Mv->List D
 | q,[]=>[.int q]
 | q,(p,_) :: r=>.int q :: EC g (De g q p) r
structure MvOk (g:List GS)(q:Nat)(p:Nat)(v:D):Prop where
 lt:q < g.length
 pl:p < (BT g q).ws.length
 fit:AA (wdAt g q p).2.1 v=true
def okQ (g:List GS):Nat->List Mv->Prop
 | _,[]=>True
 | q,(p,v) :: r=>MvOk g q p v/\okQ g (De g q p) r
theorem E5 (g:List GS):∀(q:Nat) (a b:List Mv),lastQ g q (a++b)=lastQ g (lastQ g q a) b
 | q,[],b=>rfl
 | q,(p,v) :: r,b=>by rw [ui1,lastQ,lastQ,E5 g _ r b]
theorem Ir (g:List GS):∀(q:Nat) (a b:List Mv),B6 g q (a++b)=B6 g q a++B6 g (lastQ g q a) b
 | q,[],b=>rfl
 | q,(p,v) :: r,b=>by rw [ui1,B6,B6,lastQ,Ir g _ r b];rfl
theorem HG (g:List GS):∀(q:Nat) (a b:List Mv),CI g q (a++b)=CI g q a++CI g (lastQ g q a) b
 | q,[],b=>rfl
 | q,(p,v) :: r,b=>by rw [ui1,CI,CI,lastQ,HG g _ r b];rfl
theorem ID (g:List GS):∀(q:Nat) (a:List Mv) (p:Nat) (v:D),EC g q (a++[(p,v)])=EC g q a++[.int (De g (lastQ g q a) p)]
 | q,[],p,v=>rfl
 | q,(p',v') :: r,p,v=>by rw [ui1,EC,EC,lastQ,ID g _ r p v];rfl
theorem F9 (g:List GS):∀(q:Nat) (a b:List Mv),okQ g q (a++b)↔okQ g q a/\okQ g (lastQ g q a) b
 | q,[],b=>by simp [okQ,lastQ]
 | q,(p,v) :: r,b=>by rw [ui1,okQ,okQ,lastQ,F9 g _ r b,and_assoc]
theorem DA (g:List GS):∀(q:Nat) (a:List Mv),(B6 g q a).length=a.length
 | q,[]=>rfl
 | q,(p,v) :: r=>by rw [B6,uh5,DA g _ r,uh5]
theorem Ft (g:List GS):∀(q:Nat) (a:List Mv),(CI g q a).length=a.length
 | q,[]=>rfl
 | q,(p,v) :: r=>by rw [CI,uh5,Ft g _ r,uh5]
theorem Ju (g:List GS):∀(q:Nat) (a:List Mv),(EC g q a).length=a.length + 1
 | q,[]=>rfl
 | q,(p,v) :: r=>by rw [EC,uh5,Ju g _ r,uh5]
theorem FQ (g:List GS):∀(q:Nat) (a:List Mv) (i:Nat) (p:Nat) (v:D),a[i]?=some (p,v)->(B6 g q a)[i]?=some (Fr g (lastQ g q (a.take i)) p v)
 | q,[],i,p,v,h=>by simp at h
 | q,(p',v') :: r,0,p,v,h=>by
   simp at h;obtain ⟨rfl,rfl⟩:=h;rfl
 | q,(p',v') :: r,i + 1,p,v,h=>by
   rw [B6,List.getElem?_cons_succ,FQ g _ r i p v (by simpa using h),ue8,lastQ]
variable {g:List GS}{q:Nat}
theorem TL {a:List Mv}(h:okQ g q a)(i:Nat):okQ g q (a.take i):=by
 rw [<-ud6 i a,F9] at h;exact h.1
theorem IX {a:List Mv}(h:okQ g q a){i p:Nat}{v:D}(e:a[i]?=some (p,v)):MvOk g (lastQ g q (a.take i)) p v:=by
 obtain ⟨hi,e'⟩:=ub1.mp e;have hd:a.drop i=(p,v) :: a.drop (i + 1):=by rw [ub3 hi,e']
 rw [<-ud6 i a,F9,hd,okQ] at h;exact h.2.1
theorem D8 (h:GOk g){q:Nat}(hq:q < g.length):GSOk g.length (BT g q):=by
 unfold BT;rw [ub0,ub6 hq];exact h.all _ (ui0 hq)
theorem EW (hq:q < g.length):atI (g.map GS.d) q=some (BT g q).d:=by
 unfold atI;rw [CT (by lia) (by rw [ui9];lia)];show (g.map GS.d)[(q:Int).toNat]?=_;unfold BT;rw [ug3,ug2,ub0,ub6 hq];rfl
variable {p:Nat}
theorem HF (hp:p < (BT g q).ws.length):∃side ws,BT g q = .st side ws/\p < ws.length/\ws[p]?=some (wdAt g q p):=by
 unfold wdAt
 cases e:BT g q with
 | fin=>rw [e] at hp;simp [GS.ws] at hp
 | st side ws=>
   rw [e] at hp;have hp:p < ws.length:=hp;refine ⟨side,ws,rfl,hp,?_⟩;show ws[p]?=some (ws.getD p _);rw [ub0,ub6 hp];rfl
theorem GC {ws:List (Str×Sh×Int)}{w:Str×Sh×Int}(e:ws[p]?=some w):atI (ws.map wdD) p=some (wdD w):=by
 obtain ⟨hp,_⟩:=ub1.mp e;unfold atI;rw [CT (by lia) (by rw [ui9];lia)];show (ws.map wdD)[(p:Int).toNat]?=_;rw [ug3,ug2,e];rfl
theorem Jk (h:GOk g){q p:Nat}(hq:q < g.length)(hp:p < (BT g q).ws.length):WOk g.length (wdAt g q p):=by
 obtain ⟨side,ws,e,hp',e2⟩:=HF hp;have:=D8 h hq;rw [e] at this
 cases this with
 | st _ _ _ _ h5=>exact h5 _ (ue0 e2)
theorem Vw (h:GOk g){q p:Nat}(hq:q < g.length)(hp:p < (BT g q).ws.length):De g q p < g.length:=by
 have:=Jk h hq hp;unfold De;have h1:=this.lo;have h2:=this.hi;lia
theorem LD {g:List GS}(h:GOk g):∀{a:List Mv} {q:Nat},q < g.length->okQ g q a->lastQ g q a < g.length
 | [],q,hq,_=>hq
 | (p,v) :: r,q,hq,hk=>by
   rw [okQ] at hk;rw [lastQ];exact LD h (Vw h hq hk.1.pl) hk.2
theorem KF {ws:List (Str×Sh×Int)}(nd:(ws.map (·.1)).Nodup){p:Nat}{w:Str×Sh×Int}(e:ws[p]?=some w):(ws.findIdx? λx=>x.1 == w.1)=some p:=by
 obtain ⟨hp,ep⟩:=ub1.mp e;refine Ih (λi hi hip=>?_) e (by simp);rw [<-ep];have hne:¬ws[i].1=ws[p].1:=λz=>by
  have h1:i < (ws.map (·.1)).length:=by rw [ui9];exact hi
  have h2:p < (ws.map (·.1)).length:=by rw [ui9];exact hp
  have:(ws.map (·.1))[i]=(ws.map (·.1))[p]:=by rw [List.getElem_map,List.getElem_map];exact z
  have:=(uh1 nd).mp this;lia
 simpa using hne
theorem Pm:∀{xs:List D},(∀d∈xs,okD d=true)->oks xs=true
 | [],_=>by rw [oks]
 | d :: r,h=>by rw [oks,h d uf1,Pm λx m=>h x (ud7 _ m)];rfl
theorem Go:∀(n:Nat) (s:Sh),s.depth<=n->wf s=true->∀v,AA s v=true->okD v=true
 | 0,s,h,_,_,_=>absurd s.depth_pos (by lia)
 | n + 1,s,hd,hw,v,h=>by
   cases s with
   | nothing=>cases v <;> first | rfl | (simp [AA,IS] at h;done)
   | number lo hi=>cases v <;> first | rfl | (simp [AA] at h;done)
   | text q=>
     simp only [wf,uh4,ug9] at hw
     cases v <;> simp only [AA,uf6] at h
     simp only [uh4,ug9] at h;rw [okD,ug9];lia
   | list s q=>
     rw [Sh.depth] at hd;simp only [wf,uh4,ug9] at hw
     cases v <;> simp only [AA,uf6] at h
     simp only [uh4,ug9,uh8] at h;rw [okD];exact Pm λd m=>Go n s (by lia) hw.2 d (h.2 d m)
   | pair a b=>
     rw [Sh.depth] at hd;simp only [wf,uh4] at hw;unfold AA at h
     split at h
     ·rw [uh4] at h;rw [okD,oks,oks,oks,Go n a (by lia) hw.1 _ h.1,Go n b (by lia) hw.2 _ h.2];rfl
     ·cases h
   | choice ss=>
     rw [Sh.depth] at hd;simp only [wf,uh4,ug9] at hw;unfold AA at h
     split at h
     ·next o k x=>
      simp only [uh4,ug9] at h;have hk:k.toNat < ss.length:=by lia
      have e1:ss[k.toNat]?=some ss[k.toNat]:=ub6 hk;have h2:=h.2;rw [DU ss _ _ _ e1] at h2;have ho:o=("of" : Str):=eq_of_beq h.1.1;have hx:=Go n _ (ul7 (DV ss _ _ e1) (by lia)) (Fb hw.2 _ (ui0 hk)) x h2;subst ho;have hl:okD (.str ("of" : Str))=true:=by decide +kernel
      rw [okD,oks,oks,oks,oks,hl,hx];rfl
     ·cases h
def Jx (f:Fn):Prop:=∀(g:List GS) (q p:Nat) (v:D),GOk g->MvOk g q p v->Pure1 f [(BT g q).d,Fr g q p v] (.int p)
theorem MP {cf:Fn}(hf:Ge cf 3)(hp:Jw cp):Jx (fnOf 2 3 (Fo cf cp)):=by
 intro g q p v hg hm S;refine AR rfl ?_;unfold Fo;obtain ⟨side,ws,e,hpl,ew⟩:=HF hm.pl;have hgs:=D8 hg hm.lt;have hw:=Jk hg hm.lt hm.pl;have hfit:=hm.fit;unfold Fr;rw [e] at hgs ⊢;generalize wdAt g q p=w at ew hw hfit ⊢;have hov:okD v=true:=Go 3 w.2.1 hw.dep hw.ok v hfit;show W _ ⟨[some (.val (.tup [.str side,.lst (ws.map wdD)])),some (.val (.tup [.str side,.str w.1,v])),none],S⟩ _;right;refine Hs (by simp) ?_;right;have hpn:=hp g.length (.st side ws) w.1 hgs;have hidx:((GS.st side ws).ws.findIdx? λx=>x.1 == w.1)=some p:=by
  cases hgs with
  | st _ _ _ h4 _=>exact KF h4 ew
 rw [hidx] at hpn;refine hpn.use ?_;show FG _ _ .next ⟨[some (.val (.tup [.str side,.lst (ws.map wdD)])),some (.val (.tup [.str side,.str w.1,v])),some (.val (.int p))],S⟩;right;refine B2 (GC ew) ?_;unfold wdD;right;refine (hf w.2.1 hw.dep v hov).use ?_;rw [hfit];right;exact ⟨rfl,rfl⟩
def Kj (f:Fn):Prop:=∀(g:List GS) (q p:Nat),GOk g->q < g.length->p < (BT g q).ws.length->Pure1 f [.lst (g.map GS.d),.tup [.int q,.int p]] (.int (De g q p))
theorem Vx:Kj (fnOf 2 2 Fq):=by
 intro g q p hg hq hp S;refine AR rfl ?_;unfold Fq;obtain ⟨side,ws,e,hpl,ew⟩:=HF hp;have hw:=Jk hg hq hp;have hlo:=hw.lo;right;refine B2 (EW hq) ?_;rw [e,GS.d];right;refine B2 (GC ew) ?_;unfold wdD;right;refine ⟨?_,rfl⟩;unfold De
 congr 1
 lia
variable {a0 a1 e4 e5 e6:Option Sl}{y:D}{X Y:List D}
theorem t7 {x:D}(h:x=y)(h2:X=Y):(⟨[a0,a1,some (.val x),some (.own X),e4,e5,e6],S⟩:T)=⟨[a0,a1,some (.val y),some (.own Y),e4,e5,e6],S⟩:=by subst h h2;rfl
abbrev kR:Key:=.inr (Str.ofString "rest")
abbrev kM:Key:=.inr (Str.ofString "mixed")
abbrev kC:Key:=.inr (Str.ofString "count")
theorem kRM:¬kR=kM:=by intro h;injection h with h;rw [Et] at h;exact absurd h (by decide)
theorem kRC:¬kR=kC:=by intro h;injection h with h;rw [Et] at h;exact absurd h (by decide)
theorem kMC:¬kM=kC:=by intro h;injection h with h;rw [Et] at h;exact absurd h (by decide)
theorem kMR:¬kM=kR:=λh=>kRM h.symm
theorem kCR:¬kC=kR:=λh=>kRC h.symm
abbrev Cz (a b c:D):List (Key×D):=[(kR,a),(kM,b),(kC,c)]
variable {a b:D}
theorem LQ {c:D}:B5 (Cz a b c) kR=some a:=by simp [B5,uj2]
theorem N8 {c:D}:B5 (Cz a b c) kM=some b:=by
 unfold B5 Cz;rw [uj2,show decide (kR=kM)=false from uj9 kRM];simp [uj2]
theorem HC {c:D}:B5 (Cz a b c) kC=some c:=by
 unfold B5 Cz;rw [uj2,show decide (kR=kC)=false from uj9 kRC];dsimp only;rw [uj2,show decide (kM=kC)=false from uj9 kMC];simp [uj2]
theorem G5 {c d:D}:Ch (Cz a b c) kR d=Cz d b c:=by
 unfold Ch Cz;rw [if_pos (by simp)];simp only [uk9,um0,if_true,if_neg kMR,if_neg kCR]
theorem Oc {c d:D}:Ch (Cz a b c) kC d=Cz a b d:=by
 unfold Ch Cz;rw [if_pos (by simp)];simp only [uk9,um0,if_true,if_neg kRC,if_neg kMC]
theorem N7 {c:D}:BO (Cz a b c)=Cz a b c:=by
 unfold BO;simp only [uj0,List.foldl_nil];have e1:Ch [] kR a=[(kR,a)]:=by simp [Ch]
 rw [e1];have e2:Ch [(kR,a)] kM b=[(kR,a),(kM,b)]:=by
  unfold Ch;rw [if_neg (by simp only [ul0,um8,uk7,ug9];exact kRM)];rfl
 rw [e2];unfold Ch;rw [if_neg (by
  simp only [ul0,um8,uk7,uj5,ug9];intro h;rcases h with h | h
  ·exact kRC h
  ·exact kMC h)]
 rfl
def Room (k r:Nat)(S:List Ob):Prop:=∃(a c:Int) (b:Bool),S[k]?=some (.dct (Cz (.int a) (.bl b) (.int c)))/\0<=c/\c + r<=1000000000000000000000000000000
variable {r:Nat}
theorem Room.mono {k r':Nat}(h:Room k r S)(e:r'<=r):Room k r' S:=by
 obtain ⟨a,c,b,h1,h2,h3⟩:=h;exact ⟨a,c,b,h1,h2,by lia⟩
variable {m:Nat}
theorem Room.drop {k:Nat}(h:Room k (r + m) S):Room k r S:=h.mono (uh7 _ _)
theorem Room.loop {k:Nat}(h:Room k (r + q * (m + 1)) S):Room k (r + q * m + q) S:=by rw [Nat.mul_succ,<-ul2] at h;exact h
theorem Ji {j:Int}(h1:i.natAbs < 2 ^ 512)(h2:j.natAbs < 2 ^ 512)(h:P (.int (i * j)) t):W (LF (.int i) (.int j)) t P:=
 ⟨_,_,by simp only [LF,i2C,NZ,uk4 h1,uk4 h2];rfl,h⟩
theorem M1 {j:Int}(h1:0 < j)(h2:j < 18446744073709551616)(h:P (.int (i / j)) t):W (KD (.int i) (.int j)) t P:=
 ⟨_,_,by simp only [KD,i2C,ND,uk4 h1,uk4 h2];rfl,h⟩
theorem FI (h0:0<=i)(h:i < 10000000000000000000000000000000000000000000000000000000000000000000000000000000):i.natAbs < 2 ^ 512:=by
 have:(10000000000000000000000000000000000000000000000000000000000000000000000000000000:Nat)<=2 ^ 512:=by decide
 lia
theorem CB {k:Nat}(h:S[k]?=some o):(S.set k o')[k]?=some o':=IQ h
def PTakeOk (f:Fn):Prop:=∀(k r:Nat) (S:List Ob) (m:Int),0 < m->m < 4611686018427387904->Room k (r + 1) S->Wf f [.obj k,.int m] S λv S'=>(∃i,v = .int i/\0<=i/\i < m)/\Room k r S'
theorem PTakeOk.use {f:Fn}(h:PTakeOk f){k r:Nat}{S:List Ob}{m:Int}(many:Int)(d:Room k (r + 1) S){P:D->List Ob->Prop}(p:∀i S',0<=i->i < many->Room k r S'->P (.int i) S')(e:m=many:=by first | rfl | decide)(h1:0 < many:=by decide)(h2:many < 4611686018427387904:=by decide):Wf f [.obj k,.int m] S P:=by
 subst e;exact (h k r S m h1 h2 d).mono λv S' ⟨⟨i,e,i0,i1⟩,q⟩=>by subst e;exact p i S' i0 i1 q
theorem T6:PTakeOk (fnOf 2 3 C6):=by
 intro k n S m hm0 hm1 ⟨a,c,b,hS,c0,c1⟩;refine AR rfl ?_;unfold C6;right;refine B0 hS LQ ?_;right;refine B0 hS N8 ?_;right;refine CU (λz=>?_) λz=>?_
 ·right;refine M1 hm0 (by lia) ?_;refine Db ?_;right;refine Cy hS (by show 3 < 100000;decide) ?_;rw [G5];right;refine OC hm0 ?_;exact ⟨⟨_,rfl,uj8 _ (by lia),uf9 _ hm0⟩,_,_,_,CB hS,c0,by lia⟩
 ·right;refine B0 hS HC ?_;right;refine Db ?_;right;refine Cy hS (by show 3 < 100000;decide) ?_;rw [Oc];have g1:(S.set k (.dct (Cz (.int a) (.bl b) (.int (c + 1)))))[k]?=some (.dct (Cz (.int a) (.bl b) (.int (c + 1)))):=CB hS;refine DC ?_
  change W _ ⟨[some (.val (.obj k)),some (.val (.int m)),some (.val (.int a))],S.set k (.dct (Cz (.int a) (.bl b) (.int (c + 1))))⟩ _
  generalize S.set k (.dct (Cz (.int a) (.bl b) (.int (c + 1))))=S1 at g1 ⊢;right;have a0:=uj8 a (b:=1000000000163) (by decide);have a1:=uf9 a (b:=1000000000163) (by decide);generalize a % 1000000000163=x at a0 a1;refine B0 g1 HC ?_;obtain ⟨s,es⟩:∃s,s=c + 1:=⟨_,rfl⟩;rw [<-es];rw [<-es] at g1;have s0:0<=s:=by lia
  have s1:s<=1000000000000000000000000000000:=by lia
  refine Ji (by decide) (FI s0 (by lia)) ?_;right;refine Ji (FI (by lia) (by lia)) (FI (by lia) (by lia)) ?_;right;have b0:=uj8 ((x + 70001 * s) * (x + 70001 * s + 29)) (b:=1000000000193) (by decide);have b1:=uf9 ((x + 70001 * s) * (x + 70001 * s + 29)) (b:=1000000000193) (by decide);generalize (x + 70001 * s) * (x + 70001 * s + 29) % 1000000000193=y at b0 b1;refine Ji (FI (by lia) (by lia)) (FI (by lia) (by lia)) ?_;right;refine Db ?_;right;refine Cy g1 (by show 3 < 100000;decide) ?_;rw [G5];right;refine M1 (by decide) (by decide) ?_;right;refine OC hm0 ?_;exact ⟨⟨_,rfl,uj8 _ (by lia),uf9 _ hm0⟩,_,_,_,CB g1,by lia,by lia⟩
def IK (f:Fn):Prop:=∀(ns:List Int) (k:Nat),k<=1000->∃c:Int,Pure1 f [.scr ns,.int k] (.int c)
theorem TR:IK (fnOf 2 2 Dw):=by
 intro ns k hk
 by_cases z:k < ns.length
 ·refine ⟨ns[k],λS=>AR rfl ?_⟩;unfold Dw;right;refine GQ (uk4 (by lia)) ?_;right;refine W_ix_scr.mpr ⟨ns[k],?_,?_⟩
  ·unfold atI;rw [CT (by lia) (by lia)];show ns[(k:Int).toNat]?=_;rw [ug3,ub6 z]
  ·right;exact ⟨rfl,rfl⟩
 ·refine ⟨0,λS=>AR rfl ?_⟩;unfold Dw;right;refine Hs (uj9 (by lia)) ?_;right;exact ⟨rfl,rfl⟩
theorem Ey {x:Ob}:(S++[x])[S.length]?=some x:=by simp
def IL (f:Fn):Prop:=∀(ns:List Int) (k:Nat) (S:List Ob),k<=1000->Wf f [.scr ns,.int k] S λr S'=>∃n,r = .obj n/\Room n 900000000000000000000000000000 S'
theorem T2 (hc:IK cc):IL (fnOf 2 3 (C5 cc)):=by
 intro ns k S hk;obtain ⟨c,hc⟩:=hc ns k hk;refine AR rfl ?_;unfold C5;right;refine hc.use ?_;right;refine F6 ?_;refine BK ?_;right;refine BK ?_;right;refine BK ?_;right;refine Jh (G1 (by decide) (by decide)) ?_;right;refine DF ?_;refine ⟨Ey,by show 3<=15;decide,S.length,rfl,?_⟩;exact ⟨c,3 + 5 * (k:Int),_,(CB Ey).trans (congrArg (λl=>some (Ob.dct l)) N7),by lia,by lia⟩
noncomputable def cs:Nat->Nat
 | 0=>10
 | d + 1=>10 + 3 * cs d
theorem YB (d:Nat):10<=cs d:=by cases d <;> simp [cs]
theorem EM (h:n<=m)(hm:m<=1000:=by decide):C8 (n:Int)=true:=CY (by lia) (by lia)
theorem JK {l:List α}{x:α}(h:l.length + (m + 1)=n):(l++[x]).length + m=n:=by rw [uf5,<-h];simp only [uh5,uj3];lia
theorem IV {l:List α}{x:α}{p:α->Prop}(h:∀y∈l,p y)(hx:p x):∀y∈l++[x],p y:=λy hy=>by
 rcases ui3.mp hy with h' | h'
 ·exact h y h'
 ·rw [uf7] at h';subst h';exact hx
theorem NU {a:Nat}(h:a<=n)(hn:n<=100000:=by decide):a<=LIM:=ul7 h hn
theorem Z0 (h:∀x∈ss,x.depth<=n):(Sh.choice ss).depth<=n + 1:=by
 rw [Sh.depth];refine Nat.succ_le_succ ?_
 induction ss with
 | nil=>rw [FN];exact un0 _
 | cons x r ih=>rw [FN];exact Nat.max_le.mpr ⟨h x uf1,ih λy m=>h y (ud7 _ m)⟩
structure Drawn (k r:Nat)(dp:Nat)(v:D)(S':List Ob):Prop where
 ex:∃s:Sh,v=s.d/\s.depth<=dp/\wf s=true
 pool:Room k r S'
def PShapeOk (f:Fn)(n:Nat):Prop:=∀(d k r:Nat) (S:List Ob),d < n->Room k (r + cs d) S->Wf f [.obj k,.int d] S λv S'=>Drawn k r (d + 1) v S'
theorem PShapeOk.use {f:Fn}(h:PShapeOk f n){d k r:Nat}{S:List Ob}(hd:d < n)(q:Room k (r + cs d) S){P:D->List Ob->Prop}(p:∀s S',s.depth<=d + 1->wf s=true->Room k r S'->P s.d S'):Wf f [.obj k,.int d] S P:=
 (h d k r S hd q).mono λv S' ⟨⟨s,e,h1,h2⟩,q⟩=>by subst e;exact p s S' h1 h2 q
theorem Sm {cr:Fn}(ht:PTakeOk ct)(hr:n=0\/PShapeOk cr n):PShapeOk (fnOf 2 4 (DY ct cr)) (n + 1):=by
 intro d k r S hd p0;refine AR rfl ?_;unfold DY;have hcs:=YB d;right;refine Jh (G1 (by decide) (by decide)) ?_;right;refine ht.use (r:=r + (cs d - 1)) (if d=0 then 3 else 6) (p0.mono (by lia)) (λi S1 i0 i1 p1=>?_) ?_ (by split <;> decide) (by split <;> decide)
 ·right;refine CU (λz=>?_) λz=>?_
  ·right;exact ⟨⟨.nothing,by rw [Sh.d],by show 1<=_;lia,rfl⟩,p1.drop⟩
  right;refine CU (λy=>?_) λy=>?_
  ·right;refine ht.use (r:=r + 8) 9 (p1.mono (by lia)) λa S2 a0 a1 p2=>?_;right;refine ht.use (r:=r + 7) 100000000000000000 p2 λb S3 b0 b1 p3=>?_;right;refine ht.use (r:=r + 6) 3 p3 λg S4 z0 z1 p4=>?_;have e16:(10:Int) ^ (16:Int).toNat=10000000000000000:=by decide
   rw [e16];obtain ⟨dd,ed,lo,rfl,l0,l1⟩:=FA (xs:=[D.int 0,D.int (a - 4),D.int (b - 10000000000000000)]) z0 (by simpa using z1) (p:=λd=>∃m:Int,d = .int m/\-100000000000000000<=m/\m<=100000000000000000) (by
    simp only [ue1];clear z0 z1 ht p4 p3 p2 p1 p0;exact ⟨⟨_,rfl,by decide,by decide⟩,⟨_,rfl,by lia,by lia⟩,⟨_,rfl,by lia,by lia⟩,λ_ z=>nomatch z⟩)
   refine B2 ed ?_;right;refine ht.use (r:=r + 5) 100000000000000000 p4 λx S5 x0 x1 p5=>?_;right;refine ht.use (r:=r + 4) 7 p5 λh S6 h0 h1 p6=>?_;obtain ⟨dd,ed,hi,rfl,m0,m1⟩:=FA (xs:=[D.int 0,D.int 1,D.int 255,D.int 256,D.int 300,D.int 70000,D.int x]) h0 (by simpa using h1) (p:=λd=>∃m:Int,d = .int m/\0<=m/\m<=100000000000000000) (by
    simp only [ue1];exact ⟨⟨_,rfl,by decide,by decide⟩,⟨_,rfl,by decide,by decide⟩,⟨_,rfl,by decide,by decide⟩,⟨_,rfl,by decide,by decide⟩,⟨_,rfl,by decide,by decide⟩,⟨_,rfl,by decide,by decide⟩,⟨_,rfl,x0,Int.le_of_lt x1⟩,λ_ z=>nomatch z⟩)
   refine B2 ed ?_;right;refine ⟨⟨.number lo (lo + hi),by rw [Sh.d],by show 1<=_;lia,?_⟩,p6.drop⟩;simp only [wf,uh4,ug9];clear p0 p1 p2 p3 p4 p5 p6;lia
  right;refine CU (λx=>?_) λx=>?_
  ·right;refine ht.use (r:=r + 8) 4 (p1.mono (by lia)) λg S4 z0 z1 p4=>?_;obtain ⟨dd,ed,m,rfl,m0,m1⟩:=FA (xs:=[D.int 0,D.int 1,D.int 5,D.int 250]) z0 (by simpa using z1) (p:=λd=>∃m:Int,d = .int m/\0<=m/\m<=250) (by
    simp only [ue1];exact ⟨⟨_,rfl,by decide,by decide⟩,⟨_,rfl,by decide,by decide⟩,⟨_,rfl,by decide,by decide⟩,⟨_,rfl,by decide,by decide⟩,λ_ z=>nomatch z⟩)
   refine B2 ed ?_;right;refine ⟨⟨.text m,by rw [Sh.d],by show 1<=_;lia,?_⟩,p4.drop⟩;simp only [wf,uh4,ug9];exact ⟨m0,m1⟩
  have i3:3<=i:=by
   have z':¬i=0:=by simpa using z
   have y':¬i=1:=by simpa using y
   have x':¬i=2:=by simpa using x
   lia
  obtain ⟨d,rfl⟩:∃e,d=e + 1:=⟨d - 1,by
   have:¬d=0:=λe=>by rw [if_pos e] at i1;lia
   lia⟩
  have e0:(((d + 1:Nat):Int) - 1)=(d:Int):=by lia
  rcases hr with rfl | hr
  ·exact absurd (Nat.lt_of_succ_lt_succ hd) (uj6 _)
  have hd':=Nat.lt_of_succ_lt_succ hd;have ec:cs (d + 1)=10 + 3 * cs d:=rfl;rw [ec] at p1;replace p1:Room k (r + 9 + 3 * cs d) S1:=p1.mono (by lia);clear p0 hcs ec;right;refine CU (λw=>?_) λw=>?_
  ·right;rw [e0];refine hr.use (r:=r + 9) hd' (p1.mono (by lia)) λs S2 s1 s2 p2=>?_;right;refine ht.use (r:=r + 8) 4 p2 λg S4 z0 z1 p4=>?_;obtain ⟨dd,ed,m,rfl,m0,m1⟩:=FA (xs:=[D.int 0,D.int 2,D.int 6,D.int 250]) z0 (by simpa using z1) (p:=λd=>∃m:Int,d = .int m/\0<=m/\m<=250) (by
    simp only [ue1];exact ⟨⟨_,rfl,by decide,by decide⟩,⟨_,rfl,by decide,by decide⟩,⟨_,rfl,by decide,by decide⟩,⟨_,rfl,by decide,by decide⟩,λ_ z=>nomatch z⟩)
   refine B2 ed ?_;right;refine ⟨⟨.list s m,by rw [Sh.d],by rw [Sh.depth];lia,?_⟩,p4.drop⟩;simp only [wf,uh4,ug9];exact ⟨⟨m0,m1⟩,s2⟩
  right;refine CU (λv=>?_) λv=>?_
  ·right;rw [e0];refine hr.use (r:=r + cs d) hd' (p1.mono (by lia)) λs S2 s1 s2 p2=>?_;right;rw [e0];refine hr.use hd' p2 λs' S3 s3 s4 p3=>?_;right;exact ⟨⟨.pair s s',by rw [Sh.d],by rw [Sh.depth];lia,by simp only [wf,s2,s4,Bool.and_self]⟩,p3⟩
  right;refine ht.use (r:=r + 3 * cs d) 3 (p1.mono (by lia)) λa S3 a0 a1 p3=>?_;right;obtain ⟨m,em⟩:=uc2 (Int.add_nonneg (by decide:(0:Int)<=1) a0);rw [em];have m13:1<=m/\m<=3:=by clear p1 p3;lia
  refine Ee (EM m13.2) ?_;refine (FO (P:=λxs t'=>∃ss:List Sh,xs=ss.map Sh.d/\ss.length=m/\(∀s∈ss,s.depth<=d + 1/\wf s=true)/\Room k r t'.S) (λacc q t=>∃(ss:List Sh) (S':List Ob) (z:Option Sl),acc=ss.map Sh.d/\ss.length + q.length=m/\(∀s∈ss,s.depth<=d + 1/\wf s=true)/\Room k (r + cs d * q.length) S'/\t=⟨[z,some (.val (.obj k)),some (.val (.int ((d + 1:Nat):Int)))],S'⟩) _ [] _ ⟨[],S3,_,rfl,by simp [rngL],by simp,p3.mono (by rw [Cn,ug3,ul9];exact ue9 (Nat.mul_le_mul_right _ m13.2) _),rfl⟩ ?_ ?_).mono ?_
  ·rintro acc d' q t ⟨ss,S',z,rfl,h1,h2,h3,rfl⟩ _;rw [uh5] at h1 h3;refine IG (IH ?_);rw [if_pos rfl];right;rw [e0];refine hr.use hd' h3.loop λs S5 q1 q2 q3=>?_;exact ⟨ss++[s],S5,_,by rw [uj7];rfl,JK h1,IV h2 ⟨q1,q2⟩,q3,rfl⟩
  ·rintro acc t ⟨ss,S',z,rfl,h1,h2,h3,rfl⟩;exact ⟨ss,rfl,h1,h2,h3⟩
  ·rintro xs t' ⟨ss,hxs,h1,h2,h3⟩;rw [uj1] at hxs;subst hxs;refine Cm (NU (n:=3) (by rw [ui9,h1];exact m13.2)) ?_;right;refine ⟨⟨.choice ss,by rw [Sh.d,Op],Z0 λx hx=>(h2 x hx).1,?_⟩,h3⟩;simp only [wf,uh4,ug9];exact ⟨⟨by lia,by lia⟩,SL λx hx=>(h2 x hx).2⟩
 ·by_cases e:d=0
  ·subst e;decide
  ·rw [if_neg e];have:decide ((d:Int) > 0)=true:=uk4 (by lia);rw [this];decide
theorem Z2 {s:Sh}{q:Int}(h:(Sh.list s q).depth<=m + 1):s.depth<=m:=by rw [Sh.depth] at h;exact ud0 h
theorem WX {a b:Sh}(h:(Sh.pair a b).depth<=m + 1):a.depth<=m/\b.depth<=m:=by rw [Sh.depth] at h;lia
theorem Z1 (h:(Sh.choice ss).depth<=m + 1):∀x∈ss,x.depth<=m:=λx hx=>by rw [Sh.depth] at h;exact ul7 (Mq hx) (ud0 h)
theorem YX {k:Nat}(h:k < ss.length):atI (shD ss) (k:Int)=some (ss[k]).d:=by
 unfold atI;rw [CT (by lia) (by rw [E9];lia)];show (shD ss)[(k:Int).toNat]?=_;rw [ug3,Hb,ub6 h];rfl
def sg11:Str:=" !#09AZaz~{"
theorem Wj (h0:0<=i)(h1:i < 11):∃c,atI sg11.cps.toList i=some c/\CK c=true:=by
 have hl:sg11.cps.toList.length=11:=by decide +kernel
 have ha:sg11.cps.toList.all CK=true:=by decide +kernel
 have hi:i.toNat < sg11.cps.toList.length:=by lia
 refine ⟨sg11.cps.toList[i.toNat],?_,uh8.mp ha _ (ui0 hi)⟩;unfold atI;rw [CT h0 (by lia)];show sg11.cps.toList[i.toNat]?=_;rw [ub6 hi]
noncomputable def vB:Nat->Nat
 | 0=>10
 | m + 1=>10 + vB m * 3
theorem Room.vA {k:Nat}(h:Room k (r + vB (m + 1)) S):Room k (r + 10) S:=h.mono (by rw [vB];lia)
theorem Room.vL {k:Nat}(h:Room k (r + vB (m + 1)) S):Room k (r + vB m * 3 + 1) S:=h.mono (by rw [vB];lia)
theorem Room.vP {k:Nat}(h:Room k (r + vB (m + 1)) S):Room k (r + vB m + vB m) S:=h.mono (by rw [vB];lia)
theorem Room.vC {k:Nat}(h:Room k (r + vB (m + 1)) S):Room k (r + vB m + 1) S:=h.mono (by rw [vB];lia)
theorem UR (h:n<=10):n<=vB (m + 1):=by rw [vB];lia
theorem aw (h:n<=vB m * 3):n + 1<=vB (m + 1):=by rw [vB];lia
theorem ax (h:n<=vB m)(h2:p<=vB m):n + p<=vB (m + 1):=by rw [vB];lia
theorem au (h:n<=vB m):n + 1<=vB (m + 1):=by rw [vB];lia
theorem Vf {A v b l c:Nat}(h:A + b * (l + 1)<=c)(hv:v<=b):A + v + b * l<=c:=by rw [Nat.mul_succ] at h;lia
theorem Xj (h:wf (.number lo hi)=true):lo<=hi/\0 < hi - lo + 1/\hi - lo + 1 < 4611686018427387904/\wid (hi - lo).toNat<=8:=by
 simp only [wf,uh4,ug9] at h;refine ⟨by lia,by lia,by lia,Lh 8 _ ?_⟩;have:(256:Nat) ^ 8=18446744073709551616:=by decide
 lia
theorem Vz {g:Int}(z0:0<=g)(z1:g < hi - lo + 1):lo<=lo + g/\lo + g<=hi:=by lia
theorem UD {g q:Int}(c:Nat)(g0:0<=g)(q0:0<=q)(g1:g < (c:Int) + 1):∃m:Nat,(if g < q then g else q)=m/\m<=c/\(m:Int)<=q:=⟨(if g < q then g else q).toNat,by split <;> lia⟩
structure Val (k r:Nat)(s:Sh)(c:Nat)(v:D)(S':List Ob):Prop where
 fit:AA s v=true
 len:(Br s v).length<=c
 pool:Room k r S'
def PValOk (f:Fn)(m:Nat):Prop:=∀(s:Sh) (k r:Nat) (S:List Ob),s.depth<=m->wf s=true->Room k (r + vB m) S->Wf f [.obj k,s.d] S λv S'=>Val k r s (vB m) v S'
theorem V2 {cv:Fn}(ht:PTakeOk ct)(hv:m=0\/PValOk cv m):PValOk (fnOf 2 5 (DZ cv ct)) (m + 1):=by
 intro s k r S hd hw p0;have rec_:∀{s':Sh} {r':Nat} {S':List Ob} {P:D->List Ob->Prop},s'.depth<=m->wf s'=true->Room k (r' + vB m) S'->(∀v S'',AA s' v=true->(Br s' v).length<=vB m->Room k r' S''->P v S'')->Wf cv [.obj k,s'.d] S' P:=λ{s' r' S' P} h1 h2 q p=>by
  rcases hv with rfl | hv
  ·exact absurd (uf0 s'.depth_pos h1) (uj6 _)
  ·exact (hv s' k r' S' h1 h2 q).mono λv S'' ⟨g1,g2,g3⟩=>p v S'' g1 g2 g3
 refine AR rfl ?_;unfold DZ
 cases s with
 | nothing=>
   rw [Sh.d];right;exact ⟨by rw [AA];rfl,by rw [Br];exact un0 _,p0.drop⟩
 | number lo hi=>
   obtain ⟨w0,w1,w2,w3⟩:=Xj hw;rw [Sh.d];right;refine ht.use (r:=r + 9) (hi - lo + 1) p0.vA (λg S1 z0 z1 p1=>?_) rfl w1 w2;right;refine ht.use (r:=r + 8) 3 p1 λi S2 i0 i1 p2=>?_;obtain ⟨d,ed,q,rfl,q0,q1⟩:=FA (xs:=[D.int lo,D.int hi,D.int (lo + g)]) i0 (by simpa using i1) (p:=λd=>∃m:Int,d = .int m/\lo<=m/\m<=hi) (by
    simp only [ue1];exact ⟨⟨_,rfl,Int.le_refl _,w0⟩,⟨_,rfl,w0,Int.le_refl _⟩,⟨_,rfl,Vz z0 z1⟩,λ_ z=>nomatch z⟩)
   refine B2 ed ?_;exact ⟨by simp only [AA,uh4,ug9];exact ⟨q0,q1⟩,by rw [Br,R7];exact UR (ul7 w3 (by decide)),p2.drop⟩
 | text q=>
   simp only [wf,uh4,ug9] at hw;rw [Sh.d];right;refine Zm ?_;right;refine ht.use (r:=r + 9) 7 p0.vA λg S1 z0 z1 p1=>?_;right;obtain ⟨n,en,n3,nq⟩:=UD 6 z0 hw.1 z1;rw [en];refine Ee (EM n3) ?_;refine (FO (P:=λxs t'=>∃ns:List Nat,xs=ns.map (λn=>D.str ⟨#[n]⟩)/\ns.all CK=true/\ns.length=n/\Room k r t'.S) (λacc q t=>∃(ns:List Nat) (S':List Ob) (z:Option Sl),acc=ns.map (λn=>D.str ⟨#[n]⟩)/\ns.all CK=true/\ns.length + q.length=n/\Room k (r + 1 * q.length) S'/\t=⟨[z,some (.val (.str sg11)),some (.val (.obj k))],S'⟩) _ [] _ ⟨[],S1,_,rfl,rfl,by simp [rngL],p1.mono (by rw [Cn,ug3];exact ue9 (ul7 (Nat.mul_le_mul_left 1 n3) (by decide)) _),rfl⟩ ?_ ?_).mono ?_
   ·rintro acc d q t ⟨ns,S',z,rfl,h1,h2,h3,rfl⟩ _;rw [uh5] at h2 h3;refine IG (IH ?_);rw [if_pos rfl];right;refine ht.use 11 h3.loop λi S5 i0 i1 p5=>?_;obtain ⟨c,ec,hc⟩:=Wj i0 i1;refine W_ix_str.mpr ⟨by decide +kernel,c,ec,?_⟩;refine ⟨ns++[c],S5,_,by rw [uj7];rfl,by simp [List.all_append,h1,hc],JK h2,p5,rfl⟩
   ·rintro acc t ⟨ns,S',z,rfl,h1,h2,h3,rfl⟩;exact ⟨ns,rfl,h1,h2,h3.drop⟩
   ·rintro xs t' ⟨ns,e,h1,h2,h3⟩;rw [uj1] at e;subst e h2;refine Cm (NU (n:=6) (by rw [ui9];exact n3)) ?_;right;refine ⟨_,_,_,rfl,rfl,IF ns,⟨by decide +kernel,by rw [ui9];clear p0 p1;lia⟩,?_⟩;refine On ?_;refine ⟨?_,?_,h3⟩
    ·rw [AA];simp only [uh4,ug9];rw [E6,KJ];exact ⟨nq,h1⟩
    ·rw [Br,uh5,ui9,KJ];exact UR (ul7 (Nat.succ_le_succ n3) (by decide))
 | list s q=>
   simp only [wf,uh4,ug9] at hw;rw [Sh.d];right;refine ht.use 4 p0.vL λg S1 z0 z1 p1=>?_;right;obtain ⟨n,en,n2,nq⟩:=UD 3 z0 hw.1.1 z1;rw [en];have nb2:vB m * n<=vB m * 3:=Nat.mul_le_mul_left _ n2;refine Ee (EM n2) ?_;refine (FO (P:=λxs t'=>(∀x∈xs,AA s x=true)/\xs.length=n/\((xs.map λd=>Br s d).flatten).length<=vB m * 3/\Room k r t'.S) (λacc l t=>∃(S':List Ob) (z:Option Sl),(∀x∈acc,AA s x=true)/\acc.length + l.length=n/\((acc.map λd=>Br s d).flatten).length + vB m * l.length<=vB m * 3/\Room k (r + vB m * l.length) S'/\t=⟨[z,some (.val (.obj k)),some (.val (.tup [.str "list",s.d,.int q]))],S'⟩) _ [] _ ⟨S1,_,by simp,by simp [rngL],by rw [Cn,ug3];exact ul7 (Nat.le_of_eq (Nat.zero_add _)) nb2,p1.mono (by rw [Cn,ug3];exact ue9 nb2 _),rfl⟩ ?_ ?_).mono ?_
   ·rintro acc d l t ⟨S',z,h1,h2,h3,h4,rfl⟩ _;rw [uh5] at h2 h3 h4;refine IG (IH ?_);rw [if_pos rfl];right;refine rec_ (Z2 hd) hw.2 h4.loop λv S5 f1 f2 p5=>?_;refine ⟨S5,_,IV h1 f1,JK h2,?_,p5,rfl⟩;rw [uj7,List.flatten_append,uf5];simp only [uk9,um0,ug4,List.flatten_nil,ui6];exact Vf h3 f2
   ·rintro acc t ⟨S',z,h1,h2,h3,h4,rfl⟩;exact ⟨h1,h2,h3,h4.drop⟩
   ·rintro xs t' ⟨h1,h2,h3,h4⟩;rw [uj1] at h1 h2 h3;subst h2;refine Cm (NU (n:=3) n2) ?_;refine ⟨?_,by rw [Br,uh5];exact aw h3,h4⟩;rw [AA,uh4,ug9,uh8];exact ⟨nq,h1⟩
 | pair a b=>
   simp only [wf,uh4] at hw;rw [Sh.d];right;refine rec_ (WX hd).1 hw.1 p0.vP λv S1 f1 f2 p1=>?_;right;refine rec_ (WX hd).2 hw.2 p1 λu S2 g1 g2 p2=>?_;right;exact ⟨by simp only [AA,f1,g1,Bool.and_self],by rw [Br,uf5];exact ax f2 g2,p2⟩
 | choice ss=>
   simp only [wf,uh4,ug9] at hw;rw [Sh.d];right;rw [E9];refine ht.use (ss.length:Int) p0.vC (λi S1 i0 i1 p1=>?_) rfl (by clear p0;lia) (by clear p0;lia);obtain ⟨j,rfl⟩:=uc2 i0;have hj:j < ss.length:=Int.ofNat_lt.mp i1;have e1:ss[j]?=some ss[j]:=ub6 hj;right;refine HL (YX hj) ?_;right;refine rec_ (Z1 hd _ (ui0 hj)) (Fb hw.2 _ (ui0 hj)) p1 λv S2 f1 f2 p2=>?_;right;have hof:JJ (Str.ofString "of")=true:=by decide +kernel
   refine ⟨?_,?_,p2⟩
   ·simp only [AA,uh4,ug9];exact ⟨⟨hof,i0,i1⟩,by rw [ug3,DU ss _ _ _ e1];exact f1⟩
   ·rw [Br,ug3,FP ss _ _ _ e1,uh5];exact au f2
def hd1 (x:Str):Option Nat:=x.cps.toList.head?
def abc9:Str:="abcdefghi"
def xyz3:Str:="xyz"
theorem WP (h:j < 9):atI abc9.cps.toList (j:Int)=some (97 + j):=by
 have:j=0\/j=1\/j=2\/j=3\/j=4\/j=5\/j=6\/j=7\/j=8:=by lia
 rcases this with rfl | rfl | rfl | rfl | rfl | rfl | rfl | rfl | rfl <;> decide +kernel
theorem Yy (h0:0<=i)(h1:i < 3):∃c,atI xyz3.cps.toList i=some c:=by
 have hl:xyz3.cps.toList.length=3:=by decide +kernel
 have hi:i.toNat < xyz3.cps.toList.length:=by lia
 refine ⟨xyz3.cps.toList[i.toNat],?_⟩;unfold atI;rw [CT h0 (by lia)];show xyz3.cps.toList[i.toNat]?=_;rw [ub6 hi]
theorem Xi {k:Int}(h:k < 8):((⟨#[n]⟩:Str)++Txt.mul ⟨#[m]⟩ k).length<=90000:=by
 rw [E6,GD,uf5,Xh,ud2];show 1 + _<=_;lia
theorem YK {k:Int}:hd1 ((⟨#[n]⟩:Str)++Txt.mul ⟨#[m]⟩ k)=some n:=by
 unfold hd1;rw [GD];rfl
theorem YJ {ws:List (Str×Sh×Int)}(h:ws.map (λw=>hd1 w.1)=(List.range ws.length).map λi=>some (97 + i)):(ws.map (·.1)).Nodup:=by
 have h1:((ws.map (·.1)).map hd1).Nodup:=by
  rw [um4];show (ws.map λw=>hd1 w.1).Nodup;rw [h];refine List.Pairwise.map _ (R:=λa b:Nat=>a≠b) (λa b h e=>?_) List.nodup_range;injection e with e
  lia
 exact (List.pairwise_map.mp h1).imp λh e=>h (congrArg hd1 e)
theorem Vi {ws:List (Str×Sh×Int)}{w:Str×Sh×Int}(h:ws.map (λw=>hd1 w.1)=(List.range ws.length).map λi=>some (97 + i))(hw:hd1 w.1=some (97 + ws.length)):(ws++[w]).map (λw=>hd1 w.1)=(List.range (ws++[w]).length).map λi=>some (97 + i):=by
 rw [uj7,h,uf5,ud3,List.range_succ,uj7];simp [hw]
def Ll (f:Fn):Prop:=∀(ns:List Int) (S:List Ob),Wf f [.scr ns] S λr _=>∃g:List GS,GOk g/\r = .lst (g.map GS.d)
variable {a2 e7 e8 e9:Option Sl}
theorem t10 (h:X=Y):(⟨[a0,a1,a2,some (.own X),e4,e5,e6,e7,e8,e9],S⟩:T)=⟨[a0,a1,a2,some (.own Y),e4,e5,e6,e7,e8,e9],S⟩:=by subst h;rfl
variable {a3:Option Sl}
theorem af (h:X=Y):(⟨[a0,a1,a2,a3,e4,e5,some (.own X),e7,e8,e9],S⟩:T)=⟨[a0,a1,a2,a3,e4,e5,some (.own Y),e7,e8,e9],S⟩:=by subst h;rfl
theorem TZ {cz:Fn}(ht:PTakeOk ct)(hs:PShapeOk cz 3)(hp:IL cp):Ll (fnOf 1 10 (Dx ct cz cp)):=by
 intro ns S;have hL:LIM=100000:=rfl;refine AR rfl ?_;unfold Dx;right;refine (hp ns 0 S (by decide)).mono λr S1 z9=>?_;obtain ⟨K,e1,p1⟩:=z9;subst e1;right;refine ht.use (r:=3) 5 (p1.mono (by decide)) λa S2 a0 a1 p2=>?_;right;refine ht.use (r:=2) 9 (p2.mono (by decide)) λb S3 b0 b1 p3=>?_;right;refine ht.use (r:=1) 3 p3 λc S4 c0 c1 p4=>?_;obtain ⟨dd,ed,many,rfl,m0,m1⟩:=FA (xs:=[D.int (1 + a),D.int (1 + b),D.int 30]) c0 (by simpa using c1) (p:=λd=>∃m:Nat,d = .int m/\1<=m/\m<=30) (by
  simp only [ue1];exact ⟨⟨(1 + a).toNat,by rw [ue7 (by lia)],by lia,by lia⟩,⟨(1 + b).toNat,by rw [ue7 (by lia)],by lia,by lia⟩,⟨30,rfl,by decide,by decide⟩,λ_ z=>nomatch z⟩)
 refine B2 ed ?_;clear p1 p2 p3 p4 ed a0 a1 b0 b1 c0 c1;right;refine Ee (EM m1) ?_;refine C1 (λr t=>∃(gs:List GS) (S':List Ob) (e1 e4 e5 e6 e7 e8 e9:Option Sl),gs.length<=many/\r=(rngL 0 ((many:Nat):Int).toNat).drop gs.length/\(∀x∈gs,GSOk many x)/\t=⟨[some (.val (.scr ns)),e1,some (.val (.int many)),some (.own (gs.map GS.d)),e4,e5,e6,e7,e8,e9],S'⟩) _ _ ⟨[],S4,_,none,none,none,none,none,none,un0 _,rfl,(λ_ z=>nomatch z),rfl⟩ ?_ ?_
 ·rintro d r t ⟨gs,S',e1,e4,e5,e6,e7,e8,e9,hj,hr,hg,rfl⟩ _;obtain ⟨rfl,hr',hjn⟩:=FB hr;rw [ug3] at hjn;rw [um5];generalize hJ:gs.length=j at hj hjn;right;rw [show ((1:Int) + (j:Int) % 13)=((1 + j % 13:Nat):Int) by lia];refine (hp ns (1 + j % 13) S' (by lia)).mono λr1 S1 z9=>?_;obtain ⟨K,e,p1⟩:=z9;subst e;refine DC ?_;obtain ⟨ra,rc,rb,hS,c0,c1⟩:=p1;right;refine B0 hS LQ ?_;right;refine Yp (by lia) (by lia) ?_;right;refine Jh (G1 (by decide) (by decide)) ?_;right;refine Db ?_;right;refine Cy hS (by show 3 < 100000;decide) ?_;rw [G5];have p2:Room K 900000000000000000000000000000 (S1.set K (.dct (Cz (.int (ra / (1 + (j:Int) / 13) + 37 * (j:Int))) (.bl rb) (.int rc)))):=⟨_,_,_,CB hS,c0,c1⟩;refine DC ?_
  change W _ ⟨[some (.val (.scr ns)),some (.val (.obj K)),some (.val (.int many)),some (.own (gs.map GS.d)),some (.val (.int j)),e5,e6,e7,e8,e9],S1.set K (.dct (Cz (.int (ra / (1 + (j:Int) / 13) + 37 * (j:Int))) (.bl rb) (.int rc)))⟩ _
  generalize S1.set K (.dct (Cz (.int (ra / (1 + (j:Int) / 13) + 37 * (j:Int))) (.bl rb) (.int rc)))=S2 at p2 ⊢;clear hS c0 c1 ra rc rb;right;refine ht.use (r:=5002) 6 (p2.mono (by decide)) λq S3 q0 q1 p3=>?_;have grow:∀(x:GS) (S':List Ob) (e1 e4 e5 e6 e7 e8 e9:Option Sl),GSOk many x->∃(gs':List GS) (S'':List Ob) (f1 f4 f5 f6 f7 f8 f9:Option Sl),gs'.length<=many/\r=(rngL 0 ((many:Nat):Int).toNat).drop gs'.length/\(∀x∈gs',GSOk many x)/\(⟨[some (.val (.scr ns)),e1,some (.val (.int many)),some (.own (gs.map GS.d++[x.d])),e4,e5,e6,e7,e8,e9],S'⟩:T)=⟨[some (.val (.scr ns)),f1,some (.val (.int many)),some (.own (gs'.map GS.d)),f4,f5,f6,f7,f8,f9],S''⟩:=by
   intro x S' e1 e4 e5 e6 e7 e8 e9 hx;refine ⟨gs++[x],S',e1,e4,e5,e6,e7,e8,e9,?_,?_,IV hg hx,t10 (by rw [uj7];rfl)⟩
   ·rw [uf5,ud3];lia
   ·rw [uf5,ud3];exact hr'
  have fin:W (ownM 3 DW (Ac (B4 (Ac (fC (.str "end")) Aj)) Aj)) ⟨[some (.val (.scr ns)),some (.val (.obj K)),some (.val (.int many)),some (.own (gs.map GS.d)),some (.val (.int j)),e5,e6,e7,e8,e9],S3⟩ λo t=>o = .next/\∃(gs':List GS) (S'':List Ob) (f1 f4 f5 f6 f7 f8 f9:Option Sl),gs'.length<=many/\r=(rngL 0 ((many:Nat):Int).toNat).drop gs'.length/\(∀x∈gs',GSOk many x)/\t=⟨[some (.val (.scr ns)),f1,some (.val (.int many)),some (.own (gs'.map GS.d)),f4,f5,f6,f7,f8,f9],S''⟩:=by
   right;refine Cm (by rw [ui9,hL];lia) ?_;exact ⟨rfl,grow .fin _ _ _ _ _ _ _ _ .fin⟩
  have els:W (Aq (A9 5 (Ah (Bb (BJ (Ac (fC (.str "left")) (Ac (fC (.str "right")) Aj)))) (Ar ct (Ac (Ad 1) (Ac (fC (.int 2)) Aj))) ixD)) (Aq (EY 6 (BJ Aj)) (Aq (C9 (CJ (Ac (Ah (Bb (BJ (Ac (fC (.int 1)) (Ac (fC (.int 2)) (Ac (fC (.int 3)) (Ac (fC (.int 9)) Aj)))))) (Ar ct (Ac (Ad 1) (Ac (fC (.int 4)) Aj))) ixD) Aj)) (By 7) (Aq (A9 8 (Ah (Ah (fC (.str "abcdefghi")) (Ad 7) ixD) (Ah (Ah (fC (.str "xyz")) (Ar ct (Ac (Ad 1) (Ac (fC (.int 3)) Aj))) ixD) (Ar ct (Ac (Ad 1) (Ac (fC (.int 8)) Aj))) Fy) Bp)) (Aq (A9 9 (Ah (Bb (BJ (Ac (Ar ct (Ac (Ad 1) (Ac (Ad 2) Aj))) (Ac (fB (Ac (Ah (Ad 2) (fC (.int 1)) Dn) (Ac (Ah (Ad 4) (fC (.int 1)) Bp) Aj)) Hv) Aj)))) (Ar ct (Ac (Ad 1) (Ac (fC (.int 2)) Aj))) ixD)) (ownM 6 DW (Ac (B4 (Ac (Ad 8) (Ac (Ar cz (Ac (Ad 1) (Ac (Ar ct (Ac (Ad 1) (Ac (fC (.int 3)) Aj))) Aj))) (Ac (Ad 9) Aj)))) Aj))))) (ownM 3 DW (Ac (B4 (Ac (Ad 5) (Ac (Ad 6) Aj))) Aj))))) ⟨[some (.val (.scr ns)),some (.val (.obj K)),some (.val (.int many)),some (.own (gs.map GS.d)),some (.val (.int j)),e5,e6,e7,e8,e9],S3⟩ λo t=>o = .next/\∃(gs':List GS) (S'':List Ob) (f1 f4 f5 f6 f7 f8 f9:Option Sl),gs'.length<=many/\r=(rngL 0 ((many:Nat):Int).toNat).drop gs'.length/\(∀x∈gs',GSOk many x)/\t=⟨[some (.val (.scr ns)),f1,some (.val (.int many)),some (.own (gs'.map GS.d)),f4,f5,f6,f7,f8,f9],S''⟩:=by
   clear fin;right;refine ht.use (r:=5001) 2 p3 λs S4 s0 s1 p4=>?_;obtain ⟨dd,ed,side,rfl,hside⟩:=FA (xs:=[D.str (Str.ofString "left"),D.str (Str.ofString "right")]) s0 (by simpa using s1) (p:=λd=>∃x:Str,d = .str x/\(x=Str.ofString "left"\/x=Str.ofString "right")) (by
    simp only [ue1];exact ⟨⟨_,rfl,.inl rfl⟩,⟨_,rfl,.inr rfl⟩,λ_ z=>nomatch z⟩)
   refine B2 ed ?_;right;refine ht.use (r:=5000) 4 p4 λg S5 z0 z1 p5=>?_;obtain ⟨dd,ed',cnt,rfl,n0,n1⟩:=FA (xs:=[D.int 1,D.int 2,D.int 3,D.int 9]) z0 (by simpa using z1) (p:=λd=>∃m:Nat,d = .int m/\1<=m/\m<=9) (by
    simp only [ue1];exact ⟨⟨1,rfl,by decide,by decide⟩,⟨2,rfl,by decide,by decide⟩,⟨3,rfl,by decide,by decide⟩,⟨9,rfl,by decide,by decide⟩,λ_ z=>nomatch z⟩)
   refine B2 ed' ?_;right;clear ed ed' z0 z1 s0 s1 p2 p3 p4 q0 q1;refine Ee (EM n1) ?_;refine C1 (λr t=>∃(ws:List (Str×Sh×Int)) (S':List Ob) (e7 e8 e9:Option Sl),ws.length<=cnt/\r=(rngL 0 ((cnt:Nat):Int).toNat).drop ws.length/\ws.map (λw=>hd1 w.1)=(List.range ws.length).map (λi=>some (97 + i))/\(∀w∈ws,WOk many w)/\Room K (200 * (cnt - ws.length)) S'/\t=⟨[some (.val (.scr ns)),some (.val (.obj K)),some (.val (.int many)),some (.own (gs.map GS.d)),some (.val (.int j)),some (.val (.str side)),some (.own (ws.map wdD)),e7,e8,e9],S'⟩) _ _ ⟨[],S5,_,_,_,un0 _,rfl,rfl,(λ_ z=>nomatch z),p5.mono (by simp;lia),rfl⟩ ?_ ?_
   ·rintro d q t ⟨ws,S',e7,e8,e9,hl,hq,hh,hw,p6,rfl⟩ _;obtain ⟨rfl,hq',hin⟩:=FB hq;rw [ug3] at hin;rw [um5];obtain ⟨m,em⟩:∃m,cnt - ws.length=m + 1:=⟨cnt - ws.length - 1,by lia⟩;rw [em] at p6;replace p6:Room K (200 * m + 200) S':=p6;right;refine W_ix_str.mpr ⟨by decide +kernel,97 + ws.length,WP (by lia),?_⟩;right;refine ht.use (r:=200 * m + 199) 3 p6 λx S6 x0 x1 p7=>?_;obtain ⟨c,ec⟩:=Yy x0 x1;refine W_ix_str.mpr ⟨by decide +kernel,c,ec,?_⟩;right;refine ht.use (r:=200 * m + 198) 8 p7 λy S7 y0 y1 p8=>?_;refine Zq ⟨CY (by lia) (by lia),?_,by rw [hL];show y<=(100000:Int);lia,by rw [hL];show 1<=_;decide⟩ ?_
    ·show 1 * _<=_;rw [hL];lia
    right;have hnl:=Xi (n:=97 + ws.length) (m:=c) (k:=y) y1;refine Cm (by rw [Tw,hL];show 1 + _<=_;lia) ?_;right;refine ht.use (r:=200 * m + 197) (many:Int) p8 (λu S8 u0 u1 p9=>?_) rfl (by lia) (by lia);right;refine ht.use (r:=200 * m + 196) 2 p9 λv S9 v0 v1 p10=>?_;obtain ⟨dd,ed,then_,rfl,h0,h1⟩:=FA (xs:=[D.int u,D.int (if (j:Int) + 1 < (many:Int) - 1 then (j:Int) + 1 else (many:Int) - 1)]) v0 (by simpa using v1) (p:=λd=>∃m:Int,d = .int m/\0<=m/\m < many) (by
     simp only [ue1];exact ⟨⟨_,rfl,u0,u1⟩,⟨_,rfl,by split <;> lia,by split <;> lia⟩,λ_ z=>nomatch z⟩)
    refine B2 ed ?_;right;refine ht.use (r:=200 * m + 195) 3 p10 λdp S10 d0 d1 p11=>?_;obtain ⟨dq,rfl⟩:=uc2 d0;have hdq:dq < 3:=Int.ofNat_lt.mp d1;have hcs:cs dq<=130:=by
     have:dq=0\/dq=1\/dq=2:=by lia
     rcases this with rfl | rfl | rfl <;> decide
    right;refine hs.use (r:=200 * m) hdq (p11.mono (by lia)) λsh S11 g1 g2 p12=>?_;right;refine Cm (by rw [ui9,hL];lia) ?_;refine ⟨ws++[(⟨#[97 + ws.length]⟩++Txt.mul ⟨#[c]⟩ y,sh,then_)],S11,_,_,_,?_,?_,Vi hh YK,IV hw ⟨g2,by show sh.depth<=3;lia,h0,h1,hnl⟩,p12.mono (by rw [uf5,ud3];lia),af (by rw [uj7];rfl)⟩
    ·rw [uf5,ud3];lia
    ·rw [uf5,ud3];exact hq'
   ·rintro t ⟨ws,S',e7,e8,e9,hl,hq,hh,hw,p6,rfl⟩;have hl':ws.length=cnt:=by
     have:=congrArg List.length hq;rw [uj3,uh3,Cn,ug3] at this;lia
    right;refine Cm (by rw [ui9,hL];lia) ?_;exact ⟨rfl,grow (.st side ws) _ _ _ _ _ _ _ _ (.st hside (by lia) (by lia) (YJ hh) hw)⟩
  right;refine CU (λz=>?_) λz=>?_
  ·right;refine CU (λy=>?_) λy=>?_
   ·exact fin.mono λo t ⟨e,h⟩=>by subst e;exact h
   ·exact els.mono λo t ⟨e,h⟩=>by subst e;exact h
  ·exact els.mono λo t ⟨e,h⟩=>by subst e;exact h
 ·rintro t ⟨gs,S',e1,e4,e5,e6,e7,e8,e9,hj,hr,hg,rfl⟩;have hj':gs.length=many:=by
   have:=congrArg List.length hr;rw [uj3,uh3,Cn,ug3] at this;lia
  right;exact ⟨gs,⟨by lia,by lia,by rw [hj'];exact hg⟩,rfl⟩
def okB (g:List GS):Nat->List Mv->Prop
 | _,[]=>True
 | q,(p,v) :: r=>(Br (wdAt g q p).2.1 v).length<=400/\okB g (De g q p) r
theorem IW (g:List GS):∀(q:Nat) (a b:List Mv),okB g q (a++b)↔okB g q a/\okB g (lastQ g q a) b
 | q,[],b=>by simp [okB,lastQ]
 | q,(p,v) :: r,b=>by rw [ui1,okB,okB,lastQ,IW g _ r b,and_assoc]
theorem TJ {a:List Mv}(h:okB g q a)(i:Nat):okB g q (a.take i):=by
 rw [<-ud6 i a,IW] at h;exact h.1
structure TOk (g:List GS)(mv:List Mv):Prop where
 ok:okQ g 0 mv
 bd:okB g 0 mv
 len:mv.length<=60
theorem PValOk.use {f:Fn}(h:PValOk f m){s:Sh}{k r:Nat}{S:List Ob}(hd:s.depth<=m)(hw:wf s=true)(q:Room k (r + vB m) S){P:D->List Ob->Prop}(p:∀v S',AA s v=true->(Br s v).length<=vB m->P v S'):Wf f [.obj k,s.d] S P:=
 (h s k r S hd hw q).mono λv S' ⟨h1,h2,_⟩=>p v S' h1 h2
theorem t14 {e10 e11 e12 e13:Option Sl}{x:D}{X' Y':List D}(h:X=Y)(h2:x=y)(h3:X'=Y'):(⟨[a0,a1,a2,a3,some (.own X),some (.val x),some (.own X'),e7,e8,e9,e10,e11,e12,e13],S⟩:T)=⟨[a0,a1,a2,a3,some (.own Y),some (.val y),some (.own Y'),e7,e8,e9,e10,e11,e12,e13],S⟩:=by subst h h2 h3;rfl
theorem Zs {k:Nat}{h:List D->List D->Option (List D)}{g:M (List D)}(w:W f t λo t1=>o = .obj k/\∃xs0,t1.S[k]?=some (.lst xs0)/\W g t1 λds t2=>∃xs ys,t2.S[k]?=some (.lst xs)/\h xs ds=some ys/\P .non ⟨t2.env,t2.S.set k (.lst ys)⟩):W (objM h f g) t P:=by
 unfold objM;refine W_bnd.mpr (w.mono λo t1 z9=>?_);obtain ⟨e,xs0,e1,w⟩:=z9;subst e;obtain ⟨ds,t2,e2,xs,ys,e3,e4,p⟩:=w;refine ⟨_,_,?_,p⟩;simp only [e1,bnd,e2,e3,e4];rfl
def BS (g:List GS)(sd:Str):Nat->List Mv->List D
 | _,[]=>[]
 | q,(p,v) :: r=>(if (BT g q).side=sd then .int p :: Br (wdAt g q p).2.1 v else [])++BS g sd (De g q p) r
theorem Fc (g:List GS)(sd:Str):∀(q:Nat) (a b:List Mv),BS g sd q (a++b)=BS g sd q a++BS g sd (lastQ g q a) b
 | q,[],b=>rfl
 | q,(p,v) :: r,b=>by rw [ui1,BS,BS,lastQ,Fc g sd _ r b,ug5]
theorem Ld (g:List GS):∀(q:Nat) (a:List Mv) (i:Nat) (p:Nat) (v:D),a[i]?=some (p,v)->(CI g q a)[i]?=some (.tup [.int (lastQ g q (a.take i)),.int p])
 | q,[],i,p,v,h=>by simp at h
 | q,(p',v') :: r,0,p,v,h=>by
   simp at h;obtain ⟨rfl,rfl⟩:=h;rfl
 | q,(p',v') :: r,i + 1,p,v,h=>by
   rw [CI,List.getElem?_cons_succ,Ld g _ r i p v (by simpa using h),ue8,lastQ]
abbrev kL:Key:=.inr (Str.ofString "left")
abbrev kRt:Key:=.inr (Str.ofString "right")
theorem kLR:¬kL=kRt:=by intro h;injection h with h;rw [Et] at h;exact absurd h (by decide)
theorem kRL:¬kRt=kL:=λh=>kLR h.symm
theorem sLR:¬Str.ofString "left" = Str.ofString "right":=λh=>kLR (congrArg Sum.inr h)
theorem DN:B5 [(kL,a),(kRt,b)] kL=some a:=by simp [B5,uj2]
theorem DO:B5 [(kL,a),(kRt,b)] kRt=some b:=by
 unfold B5;rw [uj2,show decide (kL=kRt)=false from uj9 kLR];simp [uj2]
theorem Fw:BO [(kL,a),(kRt,b)]=[(kL,a),(kRt,b)]:=by
 unfold BO;simp only [uj0,List.foldl_nil];have e1:Ch [] kL a=[(kL,a)]:=by simp [Ch]
 rw [e1];unfold Ch;rw [if_neg (by simp only [ul0,um8,uk7,ug9];exact kLR)];rfl
theorem Vp {d:D}:Ch [(kL,a),(kRt,b)] kL d=[(kL,d),(kRt,b)]:=by
 unfold Ch;rw [if_pos (by simp)];simp only [uk9,um0,if_true,if_neg kRL]
theorem Vq {d:D}:Ch [(kL,a),(kRt,b)] kRt d=[(kL,a),(kRt,d)]:=by
 unfold Ch;rw [if_pos (by simp)];simp only [uk9,um0,if_true,if_neg kLR]
theorem L6 (hg:GOk g){q p:Nat}{v:D}(h:MvOk g q p v):(BT g q).side=Str.ofString "left"\/(BT g q).side=Str.ofString "right":=by
 obtain ⟨side,ws,e,hpl,ew⟩:=HF h.pl;have:=D8 hg h.lt;rw [e] at this ⊢
 cases this with
 | st hs _ _ _ _=>exact hs
abbrev sL:Str:=Str.ofString "left"
abbrev sR:Str:=Str.ofString "right"
structure Wr (K A B:Nat)(S:List Ob)(xs ys:List D):Prop where
 k:S[K]?=some (.dct [(kL,.obj A),(kRt,.obj B)])
 a:S[A]?=some (.lst xs)
 b:S[B]?=some (.lst ys)
 ab:A≠B
 ka:K≠A
 kb:K≠B
theorem Lb {i:Nat}{x:Ob}(h:i≠j)(e:S[j]?=some o):(S.set i x)[j]?=some o:=by rw [ud9 h];exact e
variable {K B:Nat}
theorem Wr.setA {A:Nat}{zs:List D}(h:Wr K A B S xs ys):Wr K A B (S.set A (.lst zs)) zs ys:=⟨Lb (Ne.symm h.ka) h.k,IQ h.a,Lb h.ab h.b,h.ab,h.ka,h.kb⟩
theorem Wr.setB {A:Nat}{zs:List D}(h:Wr K A B S xs ys):Wr K A B (S.set B (.lst zs)) xs zs:=⟨Lb (Ne.symm h.kb) h.k,Lb (Ne.symm h.ab) h.a,IQ h.b,h.ab,h.ka,h.kb⟩
def FrO (F:List (Nat×Ob))(k:Nat)(S:List Ob):Prop:=∀p∈F,p.1≠k/\S[p.1]?=some p.2
theorem FrO.set {F:List (Nat×Ob)}{k:Nat}{S:List Ob}{o:Ob}(h:FrO F k S):FrO F k (S.set k o):=λp hp=>⟨(h p hp).1,by rw [ud9 (Ne.symm (h p hp).1)];exact (h p hp).2⟩
def FAll (F:List (Nat×Ob))(S:List Ob):Prop:=∀p∈F,S[p.1]?=some p.2
variable {F:List (Nat×Ob)}
theorem FAll.app {ex:List Ob}(h:FAll F S):FAll F (S++ex):=λp hp=>by rw [ub2 (ub1.mp (h p hp)).1];exact h p hp
theorem FrO.all {k:Nat}(h:FrO F k S):FAll F S:=λp hp=>(h p hp).2
theorem FrO.new {x:Ob}(h:FAll F S):FrO F S.length (S++[x]):=λp hp=>⟨ul6 (ub1.mp (h p hp)).1,FAll.app h p hp⟩
theorem FrO.app {F:List (Nat×Ob)}{k:Nat}{S ex:List Ob}(h:FrO F k S):FrO F k (S++ex):=λp hp=>⟨(h p hp).1,FAll.app h.all p hp⟩
def RoomF (F:List (Nat×Ob))(k r:Nat)(S:List Ob):Prop:=Room k r S/\FrO F k S
theorem RoomF.mono {F:List (Nat×Ob)}{k r r':Nat}{S:List Ob}(h:RoomF F k r S)(e:r'<=r):RoomF F k r' S:=⟨h.1.mono e,h.2⟩
theorem RoomF.app {F:List (Nat×Ob)}{k r:Nat}{S ex:List Ob}(h:RoomF F k r S):RoomF F k r (S++ex):=by
 obtain ⟨⟨a,c,b,h1,h2,h3⟩,h4⟩:=h;exact ⟨⟨a,c,b,by rw [ub2 (ub1.mp h1).1];exact h1,h2,h3⟩,h4.app⟩
def PTakeF (F:List (Nat×Ob))(f:Fn):Prop:=∀(k r:Nat) (S:List Ob) (m:Int),0 < m->m < 4611686018427387904->RoomF F k (r + 1) S->Wf f [.obj k,.int m] S λv S'=>(∃i,v = .int i/\0<=i/\i < m)/\RoomF F k r S'
theorem PTakeF.use {f:Fn}(h:PTakeF F f){k r:Nat}{S:List Ob}{m:Int}(many:Int)(d:RoomF F k (r + 1) S){P:D->List Ob->Prop}(p:∀i S',0<=i->i < many->RoomF F k r S'->P (.int i) S')(e:m=many:=by first | rfl | decide)(h1:0 < many:=by decide)(h2:many < 4611686018427387904:=by decide):Wf f [.obj k,.int m] S P:=by
 subst e;exact (h k r S m h1 h2 d).mono λv S' ⟨⟨i,e,i0,i1⟩,q⟩=>by subst e;exact p i S' i0 i1 q
theorem XJ:PTakeF F (fnOf 2 3 C6):=by
 intro k n S m hm0 hm1 ⟨⟨a,c,b,hS,c0,c1⟩,fr⟩;refine AR rfl ?_;unfold C6;right;refine B0 hS LQ ?_;right;refine B0 hS N8 ?_;right;refine CU (λz=>?_) λz=>?_
 ·right;refine M1 hm0 (by lia) ?_;refine Db ?_;right;refine Cy hS (by show 3 < 100000;decide) ?_;rw [G5];right;refine OC hm0 ?_;exact ⟨⟨_,rfl,uj8 _ (by lia),uf9 _ hm0⟩,⟨_,_,_,CB hS,c0,by lia⟩,fr.set⟩
 ·right;refine B0 hS HC ?_;right;refine Db ?_;right;refine Cy hS (by show 3 < 100000;decide) ?_;rw [Oc];have g1:(S.set k (.dct (Cz (.int a) (.bl b) (.int (c + 1)))))[k]?=some (.dct (Cz (.int a) (.bl b) (.int (c + 1)))):=CB hS;have fr1:FrO F k (S.set k (.dct (Cz (.int a) (.bl b) (.int (c + 1))))):=fr.set;refine DC ?_
  change W _ ⟨[some (.val (.obj k)),some (.val (.int m)),some (.val (.int a))],S.set k (.dct (Cz (.int a) (.bl b) (.int (c + 1))))⟩ _
  generalize S.set k (.dct (Cz (.int a) (.bl b) (.int (c + 1))))=S1 at g1 fr1 ⊢;right;have a0:=uj8 a (b:=1000000000163) (by decide);have a1:=uf9 a (b:=1000000000163) (by decide);generalize a % 1000000000163=x at a0 a1;refine B0 g1 HC ?_;obtain ⟨s,es⟩:∃s,s=c + 1:=⟨_,rfl⟩;rw [<-es];rw [<-es] at g1;have s0:0<=s:=by lia
  have s1:s<=1000000000000000000000000000000:=by lia
  refine Ji (by decide) (FI s0 (by lia)) ?_;right;refine Ji (FI (by lia) (by lia)) (FI (by lia) (by lia)) ?_;right;have b0:=uj8 ((x + 70001 * s) * (x + 70001 * s + 29)) (b:=1000000000193) (by decide);have b1:=uf9 ((x + 70001 * s) * (x + 70001 * s + 29)) (b:=1000000000193) (by decide);generalize (x + 70001 * s) * (x + 70001 * s + 29) % 1000000000193=y at b0 b1;refine Ji (FI (by lia) (by lia)) (FI (by lia) (by lia)) ?_;right;refine Db ?_;right;refine Cy g1 (by show 3 < 100000;decide) ?_;rw [G5];right;refine M1 (by decide) (by decide) ?_;right;refine OC hm0 ?_;exact ⟨⟨_,rfl,uj8 _ (by lia),uf9 _ hm0⟩,⟨_,_,_,CB g1,by lia,by lia⟩,fr1.set⟩
def Nb (F:List (Nat×Ob))(f:Fn):Prop:=∀(ns:List Int) (k:Nat) (S:List Ob),k<=1000->FAll F S->Wf f [.scr ns,.int k] S λr S'=>∃n,r = .obj n/\RoomF F n 900000000000000000000000000000 S'
theorem XD (hc:IK cc):Nb F (fnOf 2 3 (C5 cc)):=by
 intro ns k S hk hF;obtain ⟨c,hc⟩:=hc ns k hk;refine AR rfl ?_;unfold C5;right;refine hc.use ?_;right;refine F6 ?_;refine BK ?_;right;refine BK ?_;right;refine BK ?_;right;refine Jh (G1 (by decide) (by decide)) ?_;right;refine DF ?_;refine ⟨Ey,by show 3<=15;decide,S.length,rfl,?_⟩;exact ⟨⟨c,3 + 5 * (k:Int),_,(CB Ey).trans (congrArg (λl=>some (Ob.dct l)) N7),by lia,by lia⟩,FrO.set (FrO.new hF)⟩
structure ValF (F:List (Nat×Ob))(k r:Nat)(s:Sh)(c:Nat)(v:D)(S':List Ob):Prop where
 fit:AA s v=true
 len:(Br s v).length<=c
 pool:RoomF F k r S'
def GS.sd:GS->Str
 | .fin=>Str.ofString "end"
 | .st s _=>s
inductive Odd (x:GS):D->Prop
 | non:Odd x .non
 | lst {ds:List D}:Odd x (.lst ds)
 | two {a b:D}:Odd x (.tup [a,b])
 | four {a b c d:D}:Odd x (.tup [a,b,c,d])
 | sideN {b c:D}:Odd x (.tup [.non,b,c])
 | side {s:Str} {b c:D}:¬s=x.sd->Odd x (.tup [.str s,b,c])
 | nmN {s:Str} {c:D}:Odd x (.tup [.str s,.non,c])
 | nmI {s:Str} {i:Int} {c:D}:Odd x (.tup [.str s,.int i,c])
 | nm {s nm:Str} {c:D}:(x.ws.findIdx? λw=>w.1 == nm)=none->Odd x (.tup [.str s,.str nm,c])
 | val {s nm:Str} {c:D} {p:Nat} {w:Str×Sh×Int}:(x.ws.findIdx? λw=>w.1 == nm)=some p->x.ws[p]?=some w->okD c=true->AA w.2.1 c=false->Odd x (.tup [.str s,.str nm,c])
def Rq (n:Nat)(d:D):Prop:=∀m,n<=m->eqN m d d=some true
theorem Rq.mono {d:D}(h:Rq n d)(e:n<=m):Rq m d:=λk hk=>h k (ul7 e hk)
theorem X3:Rq n (.int i):=λm _=>by cases m <;> (show some (i == i)=some true;rw [ui2])
theorem Ol {i:Str}:Rq n (.str i):=λm _=>by cases m <;> (show some (i == i)=some true;rw [ui2])
theorem Sv (h:∀x∈xs,Rq n x):Rq (n + 1) (.tup xs):=λm hm=>by
 obtain ⟨k,rfl⟩:∃k,m=k + 1:=⟨m - 1,by lia⟩;have e:Ec (eqN k) xs xs=some true:=Eo λx hx=>h x hx k (by lia);rw [eqN,e];simp
theorem X4 (h:∀x∈xs,Rq n x):Rq (n + 1) (.lst xs):=λm hm=>by
 obtain ⟨k,rfl⟩:∃k,m=k + 1:=⟨m - 1,by lia⟩;rw [eqN,if_pos rfl];exact Eo λx hx=>h x hx k (by lia)
theorem ZX {p:D->Prop}(h:p a):∀x∈[a],p x:=λx hx=>by rw [uf7.mp hx];exact h
theorem WQ {p:D->Prop}(h:p a)(h2:p b):∀x∈[a,b],p x:=λx hx=>(uk6.mp hx).elim (λe=>by rw [e];exact h) (ZX h2 x)
theorem ZY {p:D->Prop}{c:D}(h:p a)(h2:p b)(h3:p c):∀x∈[a,b,c],p x:=λx hx=>(uk6.mp hx).elim (λe=>by rw [e];exact h) (WQ h2 h3 x)
def mB:Nat->Nat
 | 0=>0
 | m + 1=>10 + vB m * 2 + mB m * 2
structure Mis (n:Nat)(s:Sh)(v:D):Prop where
 ok:okD v=true
 no:AA s v=false
 rq:Rq n v
structure Fit (n:Nat)(s:Sh)(v:D):Prop where
 ok:okD v=true
 fit:AA s v=true
 rq:Rq n v
theorem Rk {s:Sh}(hn:s.depth<=n)(hw:wf s=true)(h:AA s v=true):Fit n s v:=by
 obtain ⟨h1,h2,h3⟩:=GX s.depth s (um9 _) hw v h;exact ⟨UO h1,h,λm hm=>h3 m (ul7 hn hm)⟩
def Gr (S S':List Ob):Prop:=S.length<=S'.length/\∀i,i < S.length->S'[i]?=S[i]?
theorem Gr.trans {S S1 S2:List Ob}(a:Gr S S1)(b:Gr S1 S2):Gr S S2:=⟨ul7 a.1 b.1,λi h=>(b.2 i (uf0 h a.1)).trans (a.2 i h)⟩
theorem Gr.app {ex:List Ob}:Gr S (S++ex):=⟨by rw [uf5];lia,λi h=>ub2 h⟩
theorem Gr.set {S S':List Ob}{k:Nat}{o:Ob}(a:Gr S S')(h:S.length<=k):Gr S (S'.set k o):=⟨by rw [List.length_set];exact a.1,λi hi=>by rw [ud9 (by lia)];exact a.2 i hi⟩
theorem Gr.get {S S':List Ob}{k:Nat}{o:Ob}(a:Gr S S')(h:S[k]?=some o):S'[k]?=some o:=by rw [a.2 k (ub1.mp h).1];exact h
abbrev lr (a b:D):List (Key×D):=[(kL,a),(kRt,b)]
abbrev dW (l r:List Nat):List (Key×D):=lr (.lst (wD l)) (.lst (wD r))
abbrev dP (a b:Nat):List (Key×D):=lr (.int a) (.int b)
noncomputable def onS {α:Type}(s:Str)(a b:α):α:=if s=sL then a else b
variable {s:Str}
theorem Fl (h:s=sL\/s=sR):B5 (lr a b) (.inr s)=some (onS s a b):=by
 unfold onS;rcases h with rfl | rfl
 ·rw [if_pos rfl];exact DN
 ·rw [if_neg (Ne.symm sLR)];exact DO
theorem KL {d:D}(h:s=sL\/s=sR):Ch (lr a b) (.inr s) d=lr (onS s d a) (onS s b d):=by
 unfold onS;rcases h with rfl | rfl
 ·rw [if_pos rfl,if_pos rfl];exact Vp
 ·rw [if_neg (Ne.symm sLR),if_neg (Ne.symm sLR)];exact Vq
inductive Sr where
 | stop
 | brk (k:Nat) (s:Str)
 | next (m:D) (h a b:Nat)
def msgR (side:Str)(ws:List (Str×Sh×Int))(w:List Nat)(p:Nat):RR×Nat:=match w[p]? with
 | none=>(.short,0)
 | some c=>match ws[c]? with
   | none=>(.broken p,0)
   | some wd=>((pSh 3 wd.2.1).run w (p + 1),c)
def FU (side:Str)(ws:List (Str×Sh×Int))(w:List Nat)(p:Nat):D:=match msgR side ws w p with
 | (.short,_)=>.non
 | (.broken k,_)=>.exc "Broken" [.int k,.str side]
 | (.told v e,c)=>.tup [.tup [.str side,.str (ws.getD c (Str.ofString "",.nothing,0)).1,v],.int (ws.getD c (Str.ofString "",.nothing,0)).2.2,.int e]
def Cg (g:List GS)(wl wr:List Nat)(h a b:Nat):Sr:=match BT g h with
 | .fin=>.stop
 | .st side ws=>match msgR side ws (onS side wl wr) (onS side a b) with
   | (.short,_)=>.stop
   | (.broken k,_)=>.brk k side
   | (.told v e,c)=>.next (.tup [.str side,.str (ws.getD c (Str.ofString "",.nothing,0)).1,v]) (ws.getD c (Str.ofString "",.nothing,0)).2.2.toNat (onS side e a) (onS side b e)
def SS (f:Fn):Prop:=∀(n:Int) (side:Str) (ws:List (Str×Sh×Int)) (w:List Nat) (p:Nat),GSOk n (.st side ws)->p<=w.length->w.length<=50000->Pure1 f [(GS.st side ws).d,.lst (wD w),.int p] (FU side ws w p)
theorem Xc (hc:Kk c 3):SS (fnOf 3 6 (EA c)):=by
 intro n side ws w p hgs hp hwl S;have hlw:=B1 w
 cases hgs with
 | @st _ _ hs1 hs2 hs3 hs4 hs5=>
 refine AR rfl ?_;unfold EA;rw [GS.d]
 cases hb:w[p]? with
 | none=>
   have hpl:¬p < w.length:=by rw [ub4] at hb;lia
   rw [show FU side ws w p = .non by unfold FU msgR;rw [hb]];symm;rw [hlw];refine GQ (by simp;lia) ?_;symm;refine ⟨rfl,?_⟩;symm;exact ⟨rfl,rfl⟩
 | some cc=>
   obtain ⟨hpl,_⟩:=ub1.mp hb;have hix:atI (wD w) (p:Int)=some (.int (cc:Int)):=by
    unfold atI;rw [CT (by lia) (by rw [hlw];lia)];show (wD w)[(p:Int).toNat]?=_;rw [ug3];exact SK hb
   symm;rw [hlw];refine Hs (by simp;lia) ?_;symm;refine B2 hix ?_;symm;rw [ui9]
   cases hw:ws[cc]? with
   | none=>
     have hcl:¬cc < ws.length:=by rw [ub4] at hw;lia
     rw [show FU side ws w p = .exc "Broken" [.int p,.str side] by unfold FU msgR;simp only [hb,hw]];refine GQ (by simp;lia) ?_;symm;exact ⟨rfl,rfl⟩
   | some wd=>
     obtain ⟨hcl,_⟩:=ub1.mp hw;have hwo:=hs5 wd (ue0 hw);have hgd:ws.getD cc (Str.ofString "",.nothing,0)=wd:=by rw [ub0,hw];rfl
     have hrd:=hc wd.2.1 hwo.dep hwo.ok w (p + 1) hpl;refine Hs (by simp;lia) ?_;symm;refine B2 hix ?_;symm;refine B2 (GC hw) ?_;unfold wdD;dsimp only;symm
     cases e:(pSh 3 wd.2.1).run w (p + 1) with
     | told v b=>
       rw [show FU side ws w p = .tup [.tup [.str side,.str wd.1,v],.int wd.2.2,.int b] by unfold FU msgR;simp only [hb,hw,e,hgd]];rw [e,rrD] at hrd;refine hrd.use ?_;symm;exact ⟨rfl,rfl,rfl⟩
     | short=>
       rw [show FU side ws w p = .non by unfold FU msgR;simp only [hb,hw,e]];rw [e,rrD] at hrd;refine hrd.use ?_;symm;refine ⟨rfl,?_⟩;symm;exact ⟨rfl,rfl⟩
     | broken k=>
       rw [show FU side ws w p = .exc "Broken" [.int k,.str side] by unfold FU msgR;simp only [hb,hw,e]];rw [e,rrD] at hrd;refine hrd.use ?_;symm;exact ⟨rfl,rfl⟩
abbrev Rs:=List D×Nat×Nat×Nat×Option (Nat×Str)
def walkR (g:List GS)(wl wr:List Nat):Nat->Nat->Nat->Nat->List D->Rs
 | 0,h,a,b,t=>(t,h,a,b,none)
 | f + 1,h,a,b,t=>match Cg g wl wr h a b with
   | .stop=>(t,h,a,b,none)
   | .brk k s=>(t,h,a,b,some (k,s))
   | .next m h' a' b'=>walkR g wl wr f h' a' b' (t++[m])
structure Pl (g:List GS)(wl wr:List Nat)(h a b:Nat):Prop where
 h:h < g.length
 a:a<=wl.length
 b:b<=wr.length
variable {wl wr:List Nat}
theorem Xl {a b:Nat}(ha:a<=wl.length)(hb:b<=wr.length):onS s a b<=(onS s wl wr).length:=by unfold onS;split <;> assumption
variable {h:Nat}
theorem Ex {a b:Nat}(hg:GOk g)(p:Pl g wl wr h a b){m:D}{h' a' b':Nat}(e:Cg g wl wr h a b = .next m h' a' b'):Pl g wl wr h' a' b'/\a + b < a' + b':=by
 have hgs:=D8 hg p.h;unfold Cg at e
 cases eg:BT g h with
 | fin=>rw [eg] at e;cases e
 | st side ws=>
   rw [eg] at e hgs
   cases hgs with
   | @st _ _ hs1 hs2 hs3 hs4 hs5=>
   dsimp only at e;unfold msgR at e
   cases hb:(onS side wl wr)[onS side a b]? with
   | none=>rw [hb] at e;cases e
   | some c=>
     rw [hb] at e;dsimp only at e
     cases hw:ws[c]? with
     | none=>rw [hw] at e;cases e
     | some wd=>
       rw [hw] at e;dsimp only at e;obtain ⟨hpl,_⟩:=ub1.mp hb;have hwo:=hs5 wd (ue0 hw);have hlo:=hwo.lo;have hhi:=hwo.hi;have hgd:ws.getD c (Str.ofString "",.nothing,0)=wd:=by rw [ub0,hw];rfl
       cases er:(pSh 3 wd.2.1).run (onS side wl wr) (onS side a b + 1) with
       | short=>rw [er] at e;cases e
       | broken k=>rw [er] at e;cases e
       | told v x=>
         rw [er] at e;dsimp only at e;rw [hgd] at e;injection e with e1 e2 e3 e4
         obtain ⟨l1,l2⟩:=DT _ _ hpl er;have pa:=p.a;have pb:=p.b;subst e2;unfold onS at e3 e4 l1 l2
         by_cases q:side=sL
         ·rw [if_pos q] at e3 e4 l1 l2;exact ⟨⟨by lia,by lia,by lia⟩,by lia⟩
         ·rw [if_neg q] at e3 e4 l1 l2;exact ⟨⟨by lia,by lia,by lia⟩,by lia⟩
theorem Um {x:Str}{neg:Bool}(e:t.S[n]?=some (.dct kvs))(h:P (.bl (if neg then !(B5 kvs (.inr x)).isSome else (B5 kvs (.inr x)).isSome)) t):W (inS neg (.str x) (.obj n)) t P:=
 ⟨_,_,by simp only [inS,e],h⟩
theorem Yo (e:t.S[n]?=some (.dct kvs))(h:P (.obj t.S.length) ⟨t.env,t.S++[.dct kvs]⟩):W (Ky [.obj n]) t P:=
 ⟨_,_,by simp only [Ky,e],h⟩
theorem Th:B5 (lr a b) (.inr (Str.ofString "end"))=none:=by
 have h1:decide (kL=(Sum.inr (Str.ofString "end"):Key))=false:=by decide +kernel
 have h2:decide (kRt=(Sum.inr (Str.ofString "end"):Key))=false:=by decide +kernel
 unfold B5;rw [uj2,show decide ((kL,a).1=(Sum.inr (Str.ofString "end"):Key))=false from h1];dsimp only;rw [uj2,show decide ((kRt,b).1=(Sum.inr (Str.ofString "end"):Key))=false from h2];rfl
theorem t9 {a6:Option Sl}{x:D}(h1:X=Y)(h2:x=y):(⟨[a0,a1,a2,a3,some (.own X),some (.val x),a6,e7,e8],S⟩:T)=⟨[a0,a1,a2,a3,some (.own Y),some (.val y),a6,e7,e8],S⟩:=by subst h1 h2;rfl
def roD (r:D)(S':List Ob):Rs->Prop
 | (t,h,a,b,none)=>∃K,r = .tup [.lst t,.int h,.obj K]/\S'[K]?=some (.dct (dP a b))
 | (_,_,_,_,some (k,s))=>r = .exc "Broken" [.int k,.str s]
def Nf (f:Fn):Prop:=∀(g:List GS) (wl wr:List Nat) (h a b W P:Nat) (S:List Ob),GOk g->Pl g wl wr h a b->wl.length<=25000->wr.length<=25000->S[W]?=some (.dct (dW wl wr))->S[P]?=some (.dct (dP a b))->
 Wf f [.lst (g.map GS.d),.int h,.obj W,.obj P] S λr S'=>Gr S S'/\roD r S' (walkR g wl wr (wl.length + wr.length + 1) h a b [])
theorem Qz (hc:SS c):Nf (fnOf 4 9 (GL c)):=by
 intro g wl wr h a b W P S hg p hl1 hl2 hW hP;have hL:LIM=100000:=rfl;refine AR rfl ?_;unfold GL;symm;refine Yo hP ?_;symm;generalize hR:walkR g wl wr (wl.length + wr.length + 1) h a b []=R;obtain ⟨K,hK⟩:∃K,K=S.length:=⟨_,rfl⟩;rw [<-hK];refine Jy (λn t=>∃(h' a' b':Nat) (tk:List D) (S':List Ob) (e7 e8:Option Sl),Pl g wl wr h' a' b'/\wl.length + wr.length + 1<=n + (a' + b')/\tk.length + n<=wl.length + wr.length + 1/\walkR g wl wr n h' a' b' tk=R/\Gr S S'/\S'[K]?=some (.dct (dP a' b'))/\t=⟨[some (.val (.lst (g.map GS.d))),some (.val (.int h)),some (.val (.obj W)),some (.val (.obj P)),some (.own tk),some (.val (.int h')),some (.val (.obj K)),e7,e8],S'⟩) ?_ PP (wl.length + wr.length + 1) _ ?_ ?_
 ·rintro n t ⟨h',a',b',tk,S',e7,e8,p',hn,ht,hR',hG,hK',rfl⟩;have pa:=p'.a;have pb:=p'.b;obtain ⟨m,rfl⟩:∃m,n=m + 1:=⟨n - 1,by lia⟩;have hgs:=D8 hg p'.h;have hix:=EW p'.h;have hW':=hG.get hW;unfold walkR Cg at hR'
  cases eg:BT g h' with
  | fin=>
    rw [eg] at hix hR';rw [GS.d] at hix;symm;refine B2 hix ?_;symm;refine Um hW' ?_;rw [Th];symm;show FG _ _ Out.next _;symm;subst hR';exact ⟨rfl,hG,K,rfl,hK'⟩
  | st side ws=>
    rw [eg] at hix hR' hgs;have hs:side=sL\/side=sR:=by cases hgs with | st hs1 _ _ _ _=>exact hs1
    have hix2:=hix;rw [GS.d] at hix2;symm;refine B2 hix2 ?_;symm;refine Um hW' ?_;rw [Fl hs];symm;refine ⟨m,rfl,?_⟩;symm;refine B2 hix2 ?_;symm;refine B2 hix ?_;symm;refine B0 hW' (Fl hs) ?_;symm;refine B0 hK' (Fl hs) ?_;symm;have hon:(onS side (D.int (a':Int)) (D.int (b':Int))) = .int ((onS side a' b':Nat):Int):=by unfold onS;split <;> rfl
    have hon2:(onS side (D.lst (wD wl)) (D.lst (wD wr))) = .lst (wD (onS side wl wr)):=by unfold onS;split <;> rfl
    rw [hon,hon2];have hle:=Xl (s:=side) pa pb;have hms:=hc g.length side ws (onS side wl wr) (onS side a' b') hgs hle (by unfold onS;split <;> lia)
    unfold FU at hms;dsimp only at hR';generalize hmr:msgR side ws (onS side wl wr) (onS side a' b')=mr at hms hR';obtain ⟨r0,c0⟩:=mr
    cases r0 with
    | short=>
      dsimp only at hms hR';refine hms.use ?_;symm;refine W_ret.mpr ?_;show FG _ _ Out.next _;symm;subst hR';exact ⟨rfl,hG,K,rfl,hK'⟩
    | broken k=>
      dsimp only at hms hR';refine hms.use ?_;symm;subst hR';exact ⟨hG,rfl⟩
    | told v e=>
      dsimp only at hms hR';have hst:Cg g wl wr h' a' b' = .next (.tup [.str side,.str (ws.getD c0 (Str.ofString "",.nothing,0)).1,v]) (ws.getD c0 (Str.ofString "",.nothing,0)).2.2.toNat (onS side e a') (onS side b' e):=by
       unfold Cg;rw [eg];dsimp only;rw [hmr]
      obtain ⟨p2,hlt⟩:=Ex hg p' hst;refine hms.use ?_;symm;refine Cm (by rw [hL];lia) ?_;symm;refine Db ?_;symm;refine Cy hK' (by show 2 < 100000;decide) ?_;rw [KL hs];have hwl:(0:Int)<=(ws.getD c0 (Str.ofString "",.nothing,0)).2.2:=by
       cases hgs with
       | st _ h2 _ _ h5=>
         cases hq:ws[c0]? with
         | none=>rw [ub0,hq];exact Int.le_refl _
         | some wd=>rw [ub0,hq];exact (h5 wd (ue0 hq)).lo
      have hd:lr (onS side (D.int (e:Int)) (D.int (a':Int))) (onS side (D.int (b':Int)) (D.int (e:Int)))=dP (onS side e a') (onS side b' e):=by unfold onS;split <;> rfl
      refine ⟨_,_,_,tk++[_],_,_,_,p2,by lia,by rw [uf5,ud3];lia,hR',hG.set (by lia),(CB hK').trans (congrArg (λl=>some (Ob.dct l)) hd),t9 rfl (congrArg D.int (ue7 hwl).symm)⟩
 ·show _ < 1000000;lia
 ·exact ⟨h,a,b,[],_,none,none,p,by lia,by simp,hR,Gr.app,by rw [hK];exact Ey,rfl⟩
def Ng (f:Fn):Prop:=∀(g:List GS) (wl wr:List Nat) (S:List Ob),GOk g->wl.length<=25000->wr.length<=25000->Wf f [.lst (g.map GS.d),.lst (wD wl),.lst (wD wr)] S λr S'=>Gr S S'/\match walkR g wl wr (wl.length + wr.length + 1) 0 0 0 [] with
 | (t,h,a,b,none)=>r = .tup [.lst t,.int h,.tup [.int a,.int b]]
 | (_,_,_,_,some (k,s))=>r = .exc "Broken" [.int k,.str s]
theorem QH (hc:Nf c):Ng (fnOf 3 4 (GM c)):=by
 intro g wl wr S hg hl1 hl2;refine AR rfl ?_;unfold GM;symm;refine F6 ?_;refine BK ?_;symm;refine BK ?_;symm;refine DF ?_;refine ⟨by simp,by show 2<=15;decide,?_⟩;have hA:Gr S ((S++[Ob.dct []]).set S.length (.dct (BO (dW wl wr)))):=Gr.app.set (um9 _);have hB:((S++[Ob.dct []]).set S.length (.dct (BO (dW wl wr))))[S.length]?=some (.dct (dW wl wr)):=by rw [Fw];exact CB Ey
 show W _ ⟨_,(S++[Ob.dct []]).set S.length (.dct (BO (dW wl wr)))⟩ _;generalize (S++[Ob.dct []]).set S.length (.dct (BO (dW wl wr)))=S1 at hA hB ⊢;symm;refine F6 ?_;refine BK ?_;symm;refine BK ?_;symm;refine DF ?_;refine ⟨by simp,by show 2<=15;decide,?_⟩;have hC:Gr S1 ((S1++[Ob.dct []]).set S1.length (.dct (BO (dP 0 0)))):=Gr.app.set (um9 _);have hD:((S1++[Ob.dct []]).set S1.length (.dct (BO (dP 0 0))))[S1.length]?=some (.dct (dP 0 0)):=by rw [Fw];exact CB Ey
 show W _ ⟨_,(S1++[Ob.dct []]).set S1.length (.dct (BO (dP 0 0)))⟩ _;generalize (S1++[Ob.dct []]).set S1.length (.dct (BO (dP 0 0)))=S2 at hC hD ⊢;symm;refine (hc g wl wr 0 0 0 S.length S1.length S2 hg ⟨hg.ne,un0 _,un0 _⟩ hl1 hl2 (hC.get hB) hD).mono λr S3 z9=>?_;obtain ⟨hG,hr⟩:=z9;have hS:=hA.trans (hC.trans hG);generalize walkR g wl wr (wl.length + wr.length + 1) 0 0 0 []=R at hr ⊢;obtain ⟨t,h,a,b,o⟩:=R
 cases o with
 | none=>
   obtain ⟨K,rfl,hK⟩:=hr;symm;refine B0 hK DN ?_;symm;refine B0 hK DO ?_;symm;exact ⟨rfl,hS,rfl⟩
 | some z=>
   obtain ⟨k,s⟩:=z;have hr:r = .exc "Broken" [.int k,.str s]:=hr;subst hr;symm;exact ⟨hS,rfl⟩
theorem U3 {l:List α}{d:α}{r:List α}(e:d :: r=l.drop j):l[j]?=some d/\r=l.drop (j + 1):=by
 constructor
 ·have:=congrArg (λx=>x[0]?) e;simp only [List.getElem?_cons_zero,List.getElem?_drop,Nat.add_zero] at this;exact this.symm
 ·have:=congrArg List.tail e;rw [List.tail_drop] at this;exact this
abbrev IJ (xs:List D):Prop:=∀x∈xs,∃i:Int,x = .int i
theorem Ix:∀{xs:List D},IJ xs->GU xs=true
 | [],_=>rfl
 | x :: r,h=>by
   obtain ⟨i,rfl⟩:=h x uf1;rw [GU,Ix λy m=>h y (ud7 _ m)];rfl
theorem U8 {L R:List D}(hl:IJ L)(hr:IJ R):eqN EQD (.tup [.lst L,.lst R]) (.tup [.lst L,.lst R])=some true:=by
 have key:∀{X:List D},IJ X->eqN (38 + 1) (.lst X) (.lst X)=some true:=λ{X} h=>U6 λx hx=>by
  obtain ⟨i,rfl⟩:=h x hx;exact U5
 show eqN (39 + 1) _ _=_;exact U7 (by simp only [ue1];exact ⟨key hl,key hr,λ_ z=>nomatch z⟩)
theorem aD {g:Bool->Bool}{x d:D}(hx:FV t.S x=d)(hy:FV t.S y=d)(hp:C7 d=true)(he:eqN EQD d d=some true)(h:P (.bl (g true)) t):W (eqT g x y) t P:=
 ⟨_,_,by unfold eqT;rw [hx,hy,hp,he];rfl,h⟩
theorem V6 {A:Nat}(ha:S[A]?=some (.lst xs))(hb:S[B]?=some (.lst ys)):FV S (.tup [.obj A,.obj B]) = .tup [.lst xs,.lst ys]:=by
 simp only [FV,uk9,um0,Ew,ha,hb]
theorem Wn (hwl:∀x∈wl,x < 256)(hwr:∀x∈wr,x < 256){h a b:Nat}(hg:GOk g)(p:Pl g wl wr h a b){m:D}{h' a' b':Nat}(e:Cg g wl wr h a b = .next m h' a' b'):Rq 5 m:=by
 have hgs:=D8 hg p.h;unfold Cg at e
 cases eg:BT g h with
 | fin=>rw [eg] at e;cases e
 | st side ws=>
   rw [eg] at e hgs
   cases hgs with
   | @st _ _ hs1 hs2 hs3 hs4 hs5=>
   dsimp only at e;unfold msgR at e
   cases hb:(onS side wl wr)[onS side a b]? with
   | none=>rw [hb] at e;cases e
   | some c=>
     rw [hb] at e;dsimp only at e
     cases hw:ws[c]? with
     | none=>rw [hw] at e;cases e
     | some wd=>
       rw [hw] at e;dsimp only at e;obtain ⟨hpl,_⟩:=ub1.mp hb;have hwo:=hs5 wd (ue0 hw)
       cases er:(pSh 3 wd.2.1).run (onS side wl wr) (onS side a b + 1) with
       | short=>rw [er] at e;cases e
       | broken k=>rw [er] at e;cases e
       | told v x=>
         rw [er] at e;injection e with e1 e2 e3 e4
         rw [<-e1];have hall:∀y∈onS side wl wr,y < 256:=by unfold onS;split <;> assumption
         have hf:=(L3 3 wd.2.1 hwo.dep hwo.ok _ hall _ _ _ hpl er).1;exact Sv (n:=4) (ZY Ol Ol ((Rk hwo.dep hwo.ok hf).rq.mono (by decide)))
theorem PB {g:List GS}{wl wr:List Nat}(hwl:∀x∈wl,x < 256)(hwr:∀x∈wr,x < 256)(hg:GOk g):∀(f h a b:Nat) (t:List D),Pl g wl wr h a b->(∀x∈t,Rq 5 x)->∀x∈(walkR g wl wr f h a b t).1,Rq 5 x
 | 0,h,a,b,t,p,ht=>ht
 | f + 1,h,a,b,t,p,ht=>by
   unfold walkR
   cases e:Cg g wl wr h a b with
   | stop=>exact ht
   | brk k s=>exact ht
   | next m h' a' b'=>
     refine PB hwl hwr hg f h' a' b' _ (Ex hg p e).1 λx hx=>?_;rcases ui3.mp hx with hx | hx
     ·exact ht x hx
     ·rw [uf7.mp hx];exact Wn hwl hwr hg p e
def isB (l:List D):Prop:=∀d∈l,∃x:Nat,d = .int (x:Int)/\x < 256
theorem Rx:∀{l:List D},isB l->∃w:List Nat,l=wD w/\∀x∈w,x < 256
 | [],_=>⟨[],rfl,λx z=>nomatch z⟩
 | d :: r,h=>by
   obtain ⟨x,rfl,hx⟩:=h d uf1;obtain ⟨w,rfl,hw⟩:=Rx λd m=>h d (ud7 _ m);refine ⟨x :: w,rfl,λy hy=>?_⟩;rcases uk6.mp hy with rfl | hy
   ·exact hx
   ·exact hw y hy
theorem Pf {a b:List D}(ha:isB a)(hb:isB b):isB (a++b):=λd h=>(ui3.mp h).elim (ha d) (hb d)
theorem Hr {b:List D}(hx:x < 256)(hb:isB b):isB (.int (x:Int) :: b):=λd h=>by
 rcases uk6.mp h with rfl | h
 ·exact ⟨x,rfl,hx⟩
 ·exact hb d h
theorem R6:∀(w n:Nat),isB (nb w n)
 | 0,n=>λd h=>nomatch h
 | w + 1,n=>Pf (R6 w _) (Hr (Nat.mod_lt _ (by decide)) λd h=>nomatch h)
theorem Gg:∀(n:Nat) (s:Sh),s.depth<=n->wf s=true->∀v,AA s v=true->isB (Br s v)
 | 0,s,h,_,_,_=>absurd s.depth_pos (by lia)
 | n + 1,s,hs,hw,v,hf=>by
   cases s with
   | nothing=>rw [Br];exact λd h=>nomatch h
   | number lo hi=>
     cases v <;> simp [AA] at hf
     rw [Br];exact R6 _ _
   | text q=>
     simp only [wf,uh4,ug9] at hw
     cases v <;> simp only [AA,uf6] at hf
     rename_i x;simp only [uh4,ug9,uh8] at hf;rw [Br];refine Hr (by lia) λd h=>?_;obtain ⟨c,hc,rfl⟩:=um3.mp h;have:=hf.2 c hc;simp only [CK,uh4,ug9] at this;exact ⟨c,rfl,by lia⟩
   | list s q=>
     simp only [wf,uh4,ug9] at hw;rw [Sh.depth] at hs
     cases v <;> simp only [AA,uf6] at hf
     rename_i ds;simp only [uh4,ug9,uh8] at hf;rw [Br];refine Hr (by lia) λd h=>?_;obtain ⟨l,hl,hd⟩:=List.mem_flatten.mp h;obtain ⟨e,he,rfl⟩:=um3.mp hl;exact Gg n s (by lia) hw.2 e (hf.2 e he) d hd
   | pair s r=>
     simp only [wf,uh4] at hw;rw [Sh.depth] at hs;unfold AA at hf
     split at hf
     ·rw [uh4] at hf;rw [Br];exact Pf (Gg n s (by lia) hw.1 _ hf.1) (Gg n r (by lia) hw.2 _ hf.2)
     ·cases hf
   | choice ss=>
     simp only [wf,uh4,ug9] at hw;rw [Sh.depth] at hs;unfold AA at hf
     split at hf
     ·next o k x=>
      simp only [uh4,ug9] at hf;obtain ⟨j,rfl⟩:=uc2 hf.1.2.1;have hj:j < ss.length:=by have:=hf.1.2.2;lia
      have e1:ss[j]?=some ss[j]:=ub6 hj;have h2:=hf.2;rw [ug3,DU ss _ _ _ e1] at h2;rw [Br,ug3,FP ss _ _ _ e1];exact Hr (by lia) (Gg n _ (ul7 (DV ss _ _ e1) (by lia)) (Fb hw.2 _ (ui0 hj)) x h2)
     ·cases hf
theorem aK {g:M (List D)}(h:W f t λo t1=>W g t1 λas t2=>∃ds y j,o = .lst ds/\as=[y]/\(Hm y=true/\ds.all Hm=true)/\NP (toV y) (ds.map toV)=some j/\P (.int (j:Nat)) t2):W (idxM f g) t P:=by
 obtain ⟨o,t1,e1,as,t2,e2,ds,y,j,rfl,rfl,hf,hj,p⟩:=h;refine ⟨_,_,?_,p⟩;simp only [idxM,bnd,e1,e2,if_pos hf,hj]
theorem Ru {ws:List (Str×Sh×Int)}(nd:(ws.map (·.1)).Nodup){p:Nat}{w:Str×Sh×Int}(e:ws[p]?=some w):NP (toV (.str w.1)) ((ws.map λw=>D.str w.1).map toV)=some p:=by
 unfold NP;rw [um4,List.findIdx?_map];rw [<-KF nd e]
 congr 1
theorem Qc {ws:List (Str×Sh×Int)}:(ws.map λw=>D.str w.1).all Hm=true:=by
 rw [List.all_map,uh8];intro w _;rfl
theorem PQ {l:List α}{ι f:α->D}(h:∀a∈l,W elt ⟨some (.val (ι a)) :: fr,S⟩ λx t'=>x=f a/\t'=⟨some (.val (ι a)) :: fr,S⟩) :
 W (Do (By 0) EF elt (l.map ι)) ⟨z :: fr,S⟩ λxs t'=>xs=l.map f/\t'.S=S:=by
 induction l generalizing z with
 | nil=>exact W_compL_nil.mpr ⟨rfl,rfl⟩
 | cons a r ih=>
   rw [uk9,HU];refine IG (IH ?_);rw [if_pos rfl];refine (h a uf1).mono λx t' z9=>?_;obtain ⟨e1,e2⟩:=z9;subst e1 e2;refine (ih (z:=some (.val (ι a))) λb hb=>h b (ud7 _ hb)).mono λxs t' z9=>?_;obtain ⟨e1,e2⟩:=z9;subst e1;exact ⟨rfl,e2⟩
def B256 (w:List Nat):Prop:=∀x∈w,x < 256
theorem B256.app {a b:List Nat}(h:B256 a)(h2:B256 b):B256 (a++b):=λx hx=>(ui3.mp hx).elim (h x) (h2 x)
def VBF (f:Fn):Prop:=∀(s:Sh),s.depth<=3->wf s=true->∀d,AA s d=true->(Br s d).length<=400->Pure1 f [s.d,d] (.lst (Br s d))
theorem Ym {cf:Fn}(hc:GV c 3)(hf:Ge cf 3):VBF (fnOf 2 2 (D0 c cf)):=by
 intro s hs hwf d h hlen S;have hd:okD d=true:=(Rk hs hwf h).ok;refine AR rfl ?_;unfold D0;left;refine (hf s hs d hd).use ?_;rw [h];left;refine GB ?_;left;exact (hc s hs hwf d h (ul7 hlen (by decide))).use ⟨_,rfl,rfl,rfl,rfl⟩
def ST (n:Nat)(ps:List (List Nat)):Prop:=ps.length=n/\∀w∈ps,w.length<=401/\B256 w
def M5 (f:Fn):Prop:=∀(g:List GS) (mv:List Mv) (S:List Ob),GOk g->TOk g mv->Wf f [.lst (g.map GS.d),.lst (B6 g 0 mv)] S λr S'=>S'=S/\∃ps,ST mv.length ps/\r = .lst (ps.map λw=>.lst (wD w))
theorem t9s {x:D}(h1:X=Y)(h2:x=y):(⟨[a0,a1,some (.own X),some (.val x),e4,e5,e6,e7,e8],S⟩:T)=⟨[a0,a1,some (.own Y),some (.val y),e4,e5,e6,e7,e8],S⟩:=by subst h1 h2;rfl
theorem RQ (hc:VBF c):M5 (fnOf 2 9 (EN c)):=by
 intro g mv S hg hT;have hL:LIM=100000:=rfl;have hlen:=hT.len;refine AR rfl ?_;unfold EN;left;refine C1 (λr t=>∃(j:Nat) (ps:List (List Nat)) (e4 e5 e6 e7 e8:Option Sl),j<=mv.length/\r=(B6 g 0 mv).drop j/\ST j ps/\t=⟨[some (.val (.lst (g.map GS.d))),some (.val (.lst (B6 g 0 mv))),some (.own (ps.map λw=>.lst (wD w))),some (.val (.int (lastQ g 0 (mv.take j)))),e4,e5,e6,e7,e8],S⟩) _ _ ⟨0,[],none,none,none,none,none,un0 _,rfl,⟨rfl,λ_ z=>nomatch z⟩,rfl⟩ ?_ ?_
 ·rintro d r t ⟨j,ps,e4,e5,e6,e7,e8,hjl,hr,hps,rfl⟩ _;obtain ⟨hdj,hr'⟩:=U3 hr;have hjn:j < mv.length:=by
   obtain ⟨h,_⟩:=ub1.mp hdj;rw [DA] at h;exact h
  cases em:mv[j]? with
  | none=>rw [ub4] at em;lia
  | some x=>
  obtain ⟨p,v⟩:=x;have hm:=IX hT.ok em;have htk:mv.take (j + 1)=mv.take j++[(p,v)]:=by
   rw [List.take_succ,em];rfl
  have hbd:(Br (wdAt g (lastQ g 0 (mv.take j)) p).2.1 v).length<=400:=by
   have:=TJ hT.bd (j + 1);rw [htk,IW] at this;exact this.2.1
  rw [FQ g 0 mv j p v em] at hdj
  cases hdj
  have nQ:lastQ g 0 (mv.take (j + 1))=De g (lastQ g 0 (mv.take j)) p:=by rw [htk,E5];rfl
  have hlt:=hm.lt;obtain ⟨side,ws,egs,hpl,ew⟩:=HF hm.pl;have hgs:=D8 hg hlt;have hw:=Jk hg hlt hm.pl;have hfit:=hm.fit;have hget:=EW hlt;have hnx:D.int (wdAt g (lastQ g 0 (mv.take j)) p).2.2=D.int (lastQ g 0 (mv.take (j + 1)):Nat):=by
   have:=hw.lo;rw [nQ];unfold De
   congr 1
   lia
  unfold Fr;have hpc:p < 9:=by
   rw [egs] at hgs
   cases hgs with
   | st _ _ h3 _ _=>lia
  obtain ⟨bs,hbs,hb256⟩:=Rx (Gg 3 _ hw.dep hw.ok v hfit);have hvb:=hc _ hw.dep hw.ok v hfit hbd;generalize lastQ g 0 (mv.take j)=q at *;generalize wdAt g q p=w at *;rw [egs] at hgs hget;obtain ⟨nd,h9⟩:(ws.map (·.1)).Nodup/\ws.length<=9:=by
   cases hgs with
   | st _ _ h3 h4 _=>exact ⟨h4,h3⟩
  rw [GS.d] at hget;rw [hbs] at hvb hbd;rw [B1] at hbd;left;refine B2 hget ?_;left;refine aK ?_;left;refine (PQ (f:=λw=>.str w.1) (fr:=[]) ?_).mono ?_
  ·intro w' _;unfold wdD;left;exact ⟨rfl,rfl⟩
  rintro xs tc ⟨rfl,hS⟩;refine Cm (by rw [ui9,hL];lia) ?_;rw [hS];left;refine ⟨_,_,p,rfl,rfl,⟨rfl,Qc⟩,Ru nd ew,?_⟩;left;refine B2 (GC ew) ?_;unfold wdD;dsimp only;left;refine PV (hvb.use ⟨rfl,?_⟩);left;refine Cm (by rw [B1,hL];show 1 + _<=_;lia) ?_;left;refine Cm (by rw [ui9,hps.1,hL];lia) ?_;left;refine B2 (GC ew) ?_;unfold wdD;dsimp only;left;refine ⟨j + 1,ps++[p :: bs],_,_,_,_,_,hjn,hr',⟨by rw [uf5,hps.1];rfl,λx hx=>?_⟩,t9s (by rw [uj7];rfl) hnx⟩;rcases ui3.mp hx with hx | hx
  ·exact hps.2 x hx
  ·rw [uf7.mp hx];exact ⟨by rw [uh5];lia,λy hy=>(uk6.mp hy).elim (λe=>by rw [e];lia) (hb256 y)⟩
 ·rintro t ⟨j,ps,e4,e5,e6,e7,e8,hjl,hr,hps,rfl⟩;have hj':j=mv.length:=by
   have:=congrArg List.length hr;rw [uj3,uh3,DA] at this;lia
  subst hj';left;exact ⟨rfl,ps,hps,rfl⟩
def O5 (K:Nat)(S:List Ob)(m:Nat):Prop:=∃l r:List Nat,S[K]?=some (.dct (dW l r))/\B256 l/\B256 r/\l.length<=m/\r.length<=m
def M7 (f:Fn):Prop:=∀(g:List GS) (mv:List Mv) (ps:List (List Nat)) (S:List Ob),GOk g->TOk g mv->ST mv.length ps->Wf f [.lst (B6 g 0 mv),.lst (ps.map λw=>.lst (wD w))] S λr S'=>Gr S S'/\∃K,r = .obj K/\S.length<=K/\O5 K S' 24060
theorem RW:M7 (fnOf 2 4 Dp):=by
 intro g mv ps S hg hT hps;have hL:LIM=100000:=rfl;have hlen:=hT.len;refine AR rfl ?_;unfold Dp;left;refine F6 ?_;refine BK ?_;left;refine BK ?_;left;refine DF ?_;refine ⟨by simp,by show 2<=15;decide,?_⟩;have hA:Gr S ((S++[Ob.dct []]).set S.length (.dct (BO (dW [] [])))):=Gr.app.set (um9 _);have hB:((S++[Ob.dct []]).set S.length (.dct (BO (dW [] []))))[S.length]?=some (.dct (dW [] [])):=by rw [Fw];exact CB Ey
 show FG _ _ Out.next ⟨_,(S++[Ob.dct []]).set S.length (.dct (BO (dW [] [])))⟩;generalize (S++[Ob.dct []]).set S.length (.dct (BO (dW [] [])))=S1 at hA hB ⊢;obtain ⟨K,hK⟩:∃K,K=S.length:=⟨_,rfl⟩;rw [<-hK] at hB ⊢;left;rw [DA];refine Ee (CY (by lia) (by lia)) ?_;refine C1 (λr t=>∃(j:Nat) (S':List Ob) (e3:Option Sl),j<=mv.length/\r=(rngL 0 ((mv.length:Nat):Int).toNat).drop j/\Gr S S'/\O5 K S' (401 * j)/\t=⟨[some (.val (.lst (B6 g 0 mv))),some (.val (.lst (ps.map λw=>.lst (wD w)))),some (.val (.obj K)),e3],S'⟩) _ _ ⟨0,S1,none,un0 _,rfl,hA,⟨[],[],hB,(λ_ z=>nomatch z),(λ_ z=>nomatch z),un0 _,un0 _⟩,rfl⟩ ?_ ?_
 ·rintro d r t ⟨j,S',e3,hjl,hr,hG,⟨wl,wr,hKw,hbl,hbr,hll,hlr⟩,rfl⟩ _;obtain ⟨rfl,hr',hjn⟩:=FB hr;rw [ug3] at hjn;rw [um5]
  cases em:mv[j]? with
  | none=>rw [ub4] at em;lia
  | some x=>
  obtain ⟨p,v⟩:=x;have hm:=IX hT.ok em;have hmi:atI (B6 g 0 mv) j=some (Fr g (lastQ g 0 (mv.take j)) p v):=by
   unfold atI;rw [CT (by lia) (by rw [DA];lia)];show (B6 g 0 mv)[(j:Int).toNat]?=_;rw [ug3,FQ g 0 mv j p v em]
  have hjp:j < ps.length:=by rw [hps.1];exact hjn
  have hpi:atI (ps.map λw=>D.lst (wD w)) (j:Int)=some (.lst (wD ps[j])):=by
   unfold atI;rw [CT (by lia) (by rw [ui9];lia)];show (ps.map λw=>D.lst (wD w))[(j:Int).toNat]?=_;rw [ug3,ug2,ub6 hjp];rfl
  obtain ⟨hp1,hp2⟩:=hps.2 _ (ui0 hjp);have hs:=L6 hg hm;unfold Fr at hmi;generalize (BT g (lastQ g 0 (mv.take j))).side=side at hmi hs;have hon2:(onS side (D.lst (wD wl)) (D.lst (wD wr))) = .lst (wD (onS side wl wr)):=by unfold onS;split <;> rfl
  have hol:(onS side wl wr).length<=401 * j:=by unfold onS;split <;> assumption
  left;refine B2 hmi ?_;left;refine B0 hKw (Fl hs) ?_;rw [hon2];left;refine B2 hpi ?_;left;refine Cm (by rw [B1,B1,hL];lia) ?_;rw [<-DE];left;refine Db ?_;left;refine B2 hmi ?_;left;refine Cy hKw (by show 2 < 100000;decide) ?_;rw [KL hs];refine ⟨j + 1,_,_,hjn,hr',hG.set (by lia),⟨onS side (wl++ps[j]) wl,onS side wr (wr++ps[j]),(CB hKw).trans (congrArg (λl=>some (Ob.dct l)) ?_),?_,?_,?_,?_⟩,rfl⟩
  ·unfold onS;split <;> rfl
  ·unfold onS;split
   ·exact hbl.app hp2
   ·exact hbl
  ·unfold onS;split
   ·exact hbr
   ·exact hbr.app hp2
  ·unfold onS;split
   ·rw [uf5];lia
   ·lia
  ·unfold onS;split
   ·lia
   ·rw [uf5];lia
 ·rintro t ⟨j,S',e3,hjl,hr,hG,⟨wl,wr,hKw,hbl,hbr,hll,hlr⟩,rfl⟩;left;exact ⟨hG,K,rfl,by lia,wl,wr,hKw,hbl,hbr,by lia,by lia⟩
theorem Ff {a:Nat}:Dq (wD w) none (some (a:Int))=wD (w.take a):=by
 unfold Dq;rw [HT.LZ,HT.J0,uk3,um7];unfold wD;rw [List.map_take];exact (List.take_eq_take_min ..).symm
theorem NC {a:Nat}:Dq (wD w) (some (a:Int)) none=wD (w.drop a):=by
 unfold Dq;rw [HT.LZ,HT.J0];unfold wD;rw [List.map_drop,ui9,List.take_of_length_le (by rw [uh3,ui9];lia)]
 by_cases h:a<=w.length
 ·rw [Nat.min_eq_left h]
 ·rw [Nat.min_eq_right (by lia),List.drop_of_length_le (by rw [ui9];lia),List.drop_of_length_le (by rw [ui9];lia)]
theorem RoomF.put {k:Nat}(h:RoomF ((K,o) :: F) k r S)(hF:∀p∈F,p.1≠K):RoomF ((K,o') :: F) k r (S.set K o'):=by
 obtain ⟨⟨a,c,b,h1,h2,h3⟩,h4⟩:=h;have hk:=h4 _ uf1;refine ⟨⟨a,c,b,by rw [ud9 hk.1];exact h1,h2,h3⟩,λp hp=>?_⟩;rcases uk6.mp hp with rfl | hp
 ·exact ⟨hk.1,CB hk.2⟩
 ·have:=h4 p (ud7 _ hp);exact ⟨this.1,by rw [ud9 (Ne.symm (hF p hp))];exact this.2⟩
theorem RoomF.lt {k:Nat}(h:RoomF F k r S):k < S.length:=by
 obtain ⟨⟨a,c,b,h1,_,_⟩,_⟩:=h;exact (ub1.mp h1).1
theorem RoomF.more {k:Nat}(h:RoomF F k r S):RoomF ((S.length,o) :: F) k r (S++[o]):=by
 refine ⟨(h.app (ex:=[o])).1,λp hp=>?_⟩;rcases uk6.mp hp with rfl | hp
 ·exact ⟨ul8 h.lt,Ey⟩
 ·exact (h.app (ex:=[o])).2 p hp
def M6 (f:Fn):Prop:=∀(F:List (Nat×Ob)) (W k r:Nat) (S:List Ob) (l r':List Nat),(W,Ob.dct (dW l r'))∈F->B256 l->B256 r'->l.length<=24060->r'.length<=24060->RoomF F k (r + 1000) S->Wf f [.obj W,.obj k] S λx S'=>∃(K:Nat) (l2 r2:List Nat),x = .obj K/\B256 l2/\B256 r2/\l2.length<=24100/\r2.length<=24100/\RoomF ((K,.dct (dW l2 r2)) :: F) k r S'
theorem Nl {x y:Ob}:(S++[x]).set S.length y=S++[y]:=by simp
theorem QJ {y:Nat}(h:B256 w):B256 (w.take x)/\B256 (w.drop y):=⟨λz hz=>h z (List.mem_of_mem_take hz),λz hz=>h z (List.mem_of_mem_drop hz)⟩
theorem RU (ht:∀F,PTakeF F ct):M6 (fnOf 2 9 (DI ct)):=by
 intro F W k r S l r' hW bl br hl hr p0;have hL:LIM=100000:=rfl;have hWS:=p0.2.all _ hW;refine AR rfl ?_;unfold DI;left;refine F6 ?_;have hW2:(S++[Ob.dct []])[W]?=some (.dct (dW l r')):=Gr.app.get hWS;refine BK ?_;left;refine B0 hW2 DN ?_;left;refine BK ?_;left;refine B0 hW2 DO ?_;left;refine DF ?_;refine ⟨by simp,by show 2<=15;decide,?_⟩;have p1:RoomF ((S.length,.dct (dW l r')) :: F) k (r + 1000) (S++[.dct (dW l r')]):=p0.more;have hne:∀p∈F,p.1≠S.length:=λp hp=>ul6 (ub1.mp (p0.2.all p hp)).1;show FG _ _ Out.next ⟨_,(S++[Ob.dct []]).set S.length (.dct (BO (dW l r')))⟩;rw [Fw,Nl];generalize S++[.dct (dW l r')]=S1 at p1 ⊢;generalize S.length=K at p1 hne ⊢;left;refine (ht _).use (r:=r + 999) 2 p1 λc S2 c0 c1 p2=>?_;left;obtain ⟨cn,ecn⟩:∃cn:Nat,(1:Int) + c=cn:=⟨(1 + c).toNat,by lia⟩;rw [ecn];have hcn:cn<=2:=by lia
 refine Ee (EM hcn) ?_;refine C1 (λq t=>∃(j:Nat) (l2 r2:List Nat) (S':List Ob) (e3 e4 e5 e6 e7 e8:Option Sl),j + q.length=cn/\B256 l2/\B256 r2/\l2.length<=24060 + 6 * j/\r2.length<=24060 + 6 * j/\RoomF ((K,.dct (dW l2 r2)) :: F) k (r + 100 * q.length) S'/\t=⟨[some (.val (.obj W)),some (.val (.obj k)),some (.val (.obj K)),e3,e4,e5,e6,e7,e8],S'⟩) _ _ ⟨0,l,r',S2,none,none,none,none,none,none,by rw [Cn,ug3];lia,bl,br,hl,hr,p2.mono (by rw [Cn,ug3];lia),rfl⟩ ?_ ?_
 ·rintro d q t ⟨j,l2,r2,S',e3,e4,e5,e6,e7,e8,hj,b2l,b2r,h2l,h2r,p3,rfl⟩ _;rw [uh5] at hj p3;replace p3:RoomF ((K,.dct (dW l2 r2)) :: F) k (r + 100 * q.length + 100) S':=p3.mono (by lia);generalize hq:r + 100 * q.length=R0 at p3 ⊢;left;refine (ht _).use (r:=R0 + 99) 2 p3 λs S3 s0 s1 p4=>?_;obtain ⟨dd,ed,side,rfl,hs⟩:=FA (xs:=[D.str (Str.ofString "left"),D.str (Str.ofString "right")]) s0 (by simpa using s1) (p:=λd=>∃x:Str,d = .str x/\(x=Str.ofString "left"\/x=Str.ofString "right")) (by
   simp only [ue1];exact ⟨⟨_,rfl,.inl rfl⟩,⟨_,rfl,.inr rfl⟩,λ_ z=>nomatch z⟩)
  refine B2 ed ?_;have hon2:(onS side (D.lst (wD l2)) (D.lst (wD r2))) = .lst (wD (onS side l2 r2)):=by unfold onS;split <;> rfl
  have hol:(onS side l2 r2).length<=24060 + 6 * j:=by unfold onS;split <;> assumption
  have hob:B256 (onS side l2 r2):=by unfold onS;split <;> assumption
  generalize hw:onS side l2 r2=w at hol hob hon2;left;refine B0 (p4.2.all _ uf1) (Fl hs) ?_;rw [hon2];left;rw [B1];refine (ht _).use (r:=R0 + 98) ((w.length:Int) + 1) p4 (λx S4 x0 x1 p5=>?_) rfl (by lia) (by lia);left;rw [B1];left;refine (ht _).use (r:=R0 + 97) 3 p5 λy S5 y0 y1 p6=>?_;left;refine (ht _).use (r:=R0 + 96) 2 p6 λz S6 z0 z1 p7=>?_;obtain ⟨dd,ed2,at_,rfl,ha⟩:=FA (xs:=[D.int x,D.int (if (w.length:Int) - 1 - y > 0 then (w.length:Int) - 1 - y else 0)]) z0 (by simpa using z1) (p:=λd=>∃m:Nat,d = .int m/\m<=w.length) (by
   simp only [ue1];exact ⟨⟨x.toNat,by rw [ue7 x0],by lia⟩,⟨(if (w.length:Int) - 1 - y > 0 then (w.length:Int) - 1 - y else 0).toNat,by rw [ue7 (by split <;> lia)],by split <;> lia⟩,λ_ z=>nomatch z⟩)
  refine B2 ed2 ?_;left;refine (ht _).use (r:=R0 + 95) 256 p7 λu S7 u0 u1 p8=>?_;left;refine (ht _).use (r:=R0 + 94) 4 p8 λu2 S8 v0 v1 p9=>?_;left;refine (ht _).use (r:=R0 + 93) 4 p9 λu3 S9 w0 w1 p10=>?_;obtain ⟨dd,ed3,bb,rfl,hb⟩:=FA (xs:=[D.int u,D.int u2,D.int 255,D.int 251]) w0 (by simpa using w1) (p:=λd=>∃m:Nat,d = .int m/\m < 256) (by
   simp only [ue1];exact ⟨⟨u.toNat,by rw [ue7 u0],by lia⟩,⟨u2.toNat,by rw [ue7 v0],by lia⟩,⟨255,rfl,by decide⟩,⟨251,rfl,by decide⟩,λ_ z=>nomatch z⟩)
  refine B2 ed3 ?_;left;refine (ht _).use (r:=R0 + 92) 5 p10 λway S10 y0' y1' p11=>?_;clear ed ed2 ed3 p5 p6 p7 p8 p9 p10;have fin:∀(w':List Nat) (S':List Ob) (e3 e4 e5 e6 e7 e8:Option Sl),B256 w'->w'.length<=w.length + 6->RoomF ((K,.dct (dW l2 r2)) :: F) k R0 S'->∃(j':Nat) (l2' r2':List Nat) (S'':List Ob) (f3 f4 f5 f6 f7 f8:Option Sl),j' + q.length=cn/\B256 l2'/\B256 r2'/\l2'.length<=24060 + 6 * j'/\r2'.length<=24060 + 6 * j'/\RoomF ((K,.dct (dW l2' r2')) :: F) k R0 S''/\(⟨[some (.val (.obj W)),some (.val (.obj k)),some (.val (.obj K)),e3,e4,e5,e6,e7,e8],S'.set K (.dct (Ch (dW l2 r2) (.inr side) (.lst (wD w'))))⟩:T)=⟨[some (.val (.obj W)),some (.val (.obj k)),some (.val (.obj K)),f3,f4,f5,f6,f7,f8],S''⟩:=by
   intro w' S' e3 e4 e5 e6 e7 e8 hb' hl' p;rw [KL hs];have hd:lr (onS side (D.lst (wD w')) (D.lst (wD l2))) (onS side (D.lst (wD r2)) (D.lst (wD w')))=dW (onS side w' l2) (onS side r2 w'):=by unfold onS;split <;> rfl
   rw [hd];refine ⟨j + 1,onS side w' l2,onS side r2 w',_,e3,e4,e5,e6,e7,e8,by lia,?_,?_,?_,?_,p.put hne,rfl⟩
   ·unfold onS;split <;> assumption
   ·unfold onS;split <;> assumption
   ·unfold onS;split <;> lia
   ·unfold onS;split <;> lia
  have kp:∀{S':List Ob} {R:Nat},RoomF ((K,.dct (dW l2 r2)) :: F) k R S'->S'[K]?=some (.dct (dW l2 r2)):=λp=>p.2.all _ uf1;have tl:=λx y=>QJ (x:=x) (y:=y) hob;have b1:B256 [bb]:=λx hx=>by rw [uf7.mp hx];exact hb
  left;have j1:(w.take at_).length<=w.length:=by rw [uh2];lia
  have j2:∀x,(w.drop x).length<=w.length:=λx=>by rw [uh3];lia
  have hs1:((at_:Int) + 1)=((at_ + 1:Nat):Int):=rfl;have hjc:j<=2:=by lia
  refine CU (λ_=>?_) λ_=>?_
  ·left;rw [Ff];refine Cm (by rw [B1,hL];show _ + 1<=_;lia) ?_;left;rw [hs1,NC];refine Cm (by rw [uf5,B1,B1,hL];have:=j2 (at_ + 1);show _ + 1 + _<=_;lia) ?_;rw [show wD (w.take at_)++[D.int (bb:Int)]++wD (w.drop (at_ + 1))=wD (w.take at_++[bb]++w.drop (at_ + 1)) by rw [DE,DE];rfl];refine Db ?_;left;refine Cy (kp p11) (by show 2 < 100000;decide) ?_;exact fin _ _ _ _ _ _ _ _ (((tl at_ 0).1.app b1).app (tl 0 (at_ + 1)).2) (by rw [uf5,uf5,ud3];have:=j2 (at_ + 1);rw [uh3] at *;rw [uh2] at *;lia) (p11.mono (by lia))
  ·left;refine CU (λ_=>?_) λ_=>?_
   ·left;rw [Ff];refine Cm (by rw [B1,hL];show _ + 1<=_;lia) ?_;left;rw [NC];refine Cm (by rw [uf5,B1,B1,hL];have:=j2 at_;show _ + 1 + _<=_;lia) ?_;rw [show wD (w.take at_)++[D.int (bb:Int)]++wD (w.drop at_)=wD (w.take at_++[bb]++w.drop at_) by rw [DE,DE];rfl];refine Db ?_;left;refine Cy (kp p11) (by show 2 < 100000;decide) ?_;exact fin _ _ _ _ _ _ _ _ (((tl at_ 0).1.app b1).app (tl 0 at_).2) (by rw [uf5,uf5,ud3,uh3,uh2];lia) (p11.mono (by lia))
   ·left;refine CU (λ_=>?_) λ_=>?_
    ·left;rw [Ff];rw [hs1,NC];refine Cm (by rw [B1,B1,hL];have:=j2 (at_ + 1);lia) ?_;rw [<-DE];refine Db ?_;left;refine Cy (kp p11) (by show 2 < 100000;decide) ?_;exact fin _ _ _ _ _ _ _ _ ((tl at_ 0).1.app (tl 0 (at_ + 1)).2) (by rw [uf5,uh3,uh2];lia) (p11.mono (by lia))
    ·left;refine (ht _).use (r:=R0 + 91) 6 p11 λn S11 n0 n1 p12=>?_;obtain ⟨m,rfl⟩:=uc2 n0;have hm:m<=5:=by lia
     left;refine Ee (EM hm) ?_;refine (FO (P:=λxs t'=>∃w2:List Nat,xs=wD w2/\B256 w2/\w2.length<=5/\RoomF ((K,.dct (dW l2 r2)) :: F) k R0 t'.S) (λacc q t=>∃(w2:List Nat) (S':List Ob) (z:Option Sl),acc=wD w2/\B256 w2/\w2.length + q.length=m/\RoomF ((K,.dct (dW l2 r2)) :: F) k (R0 + q.length) S'/\t=⟨[z,some (.val (.obj k))],S'⟩) _ [] _ ⟨[],S11,_,rfl,(λ_ z=>nomatch z),by rw [Cn,ug3,uj3];lia,p12.mono (by rw [Cn,ug3];lia),rfl⟩ ?_ ?_).mono ?_
     ·rintro acc d q t ⟨w2,S',z,rfl,h1,h2,h3,rfl⟩ _;rw [uh5] at h2 h3;refine IG (IH ?_);rw [if_pos rfl];left;refine (ht _).use 256 h3 λi S5 i0 i1 p5=>?_;obtain ⟨x,rfl⟩:=uc2 i0;exact ⟨w2++[x],S5,_,by rw [DE];rfl,h1.app λy hy=>by rw [uf7.mp hy];lia,by rw [uf5,ud3];lia,p5,rfl⟩
     ·rintro acc t ⟨w2,S',z,rfl,h1,h2,h3,rfl⟩;exact ⟨w2,rfl,h1,by lia,h3.mono (by lia)⟩
     ·rintro xs t' ⟨w2,e,h1,h2,h3⟩;rw [uj1] at e;subst e;refine Cm (by rw [B1,hL];lia) ?_;left;refine Cm (by rw [B1,B1,hL];lia) ?_;rw [<-DE];refine Db ?_;left;refine Cy (kp h3) (by show 2 < 100000;decide) ?_;exact fin _ _ _ _ _ _ _ _ (hob.app h1) (by rw [uf5];lia) h3
 ·rintro t ⟨j,l2,r2,S',e3,e4,e5,e6,e7,e8,hj,b2l,b2r,h2l,h2r,p3,rfl⟩;left;rw [uj3] at hj;exact ⟨K,l2,r2,rfl,b2l,b2r,by lia,by lia,p3.mono (uh7 _ _)⟩
structure Mvs (g:List GS)(wl wr:List Nat)(mv:List Mv)(h a b:Nat)(t:List D):Prop where
 t:t=B6 g 0 mv
 ok:okQ g 0 mv
 h:lastQ g 0 mv=h
 a:BS g sL 0 mv=wD (wl.take a)
 b:BS g sR 0 mv=wD (wr.take b)
theorem Ox {a b:Nat}(h1:a<=b):w.take b=w.take a++seg w a b:=by
 have e:w.take b=seg w 0 b:=by unfold seg;rw [uk3,um7]
 have e2:w.take a=seg w 0 a:=by unfold seg;rw [uk3,um7]
 rw [e,e2,L5 (un0 _) h1]
theorem Wk {side:Str}(h:side=sL\/side=sR):(side=sL/\¬side=sR)\/(¬side=sL/\side=sR):=by
 rcases h with rfl | rfl
 ·exact .inl ⟨rfl,sLR⟩
 ·exact .inr ⟨Ne.symm sLR,rfl⟩
theorem Wm (hwl:∀x∈wl,x < 256)(hwr:∀x∈wr,x < 256){h a b:Nat}(hg:GOk g)(p:Pl g wl wr h a b){m:D}{h' a' b':Nat}(e:Cg g wl wr h a b = .next m h' a' b') :
 ∃(c:Nat) (v:D),m=Fr g h c v/\MvOk g h c v/\h'=De g h c/\a<=a'/\b<=b'/\wD (seg wl a a')=(if (BT g h).side=sL then D.int c :: Br (wdAt g h c).2.1 v else [])/\wD (seg wr b b')=(if (BT g h).side=sR then D.int c :: Br (wdAt g h c).2.1 v else []):=by
 have hgs:=D8 hg p.h;unfold Cg at e
 cases eg:BT g h with
 | fin=>rw [eg] at e;cases e
 | st side ws=>
   rw [eg] at e hgs
   cases hgs with
   | @st _ _ hs1 hs2 hs3 hs4 hs5=>
   dsimp only at e;unfold msgR at e
   cases hb:(onS side wl wr)[onS side a b]? with
   | none=>rw [hb] at e;cases e
   | some c=>
     rw [hb] at e;dsimp only at e
     cases hw:ws[c]? with
     | none=>rw [hw] at e;cases e
     | some wd=>
       rw [hw] at e;dsimp only at e;obtain ⟨hpl,_⟩:=ub1.mp hb;obtain ⟨hcl,_⟩:=ub1.mp hw;have hwo:=hs5 wd (ue0 hw);have hgd:ws.getD c (Str.ofString "",.nothing,0)=wd:=by rw [ub0,hw];rfl
       have hwd:wdAt g h c=wd:=by unfold wdAt;rw [eg];exact hgd
       cases er:(pSh 3 wd.2.1).run (onS side wl wr) (onS side a b + 1) with
       | short=>rw [er] at e;cases e
       | broken k=>rw [er] at e;cases e
       | told v x=>
         rw [er] at e;injection e with e1 e2 e3 e4
         have hall:∀y∈onS side wl wr,y < 256:=by unfold onS;split <;> assumption
         obtain ⟨hf,hby⟩:=L3 3 wd.2.1 hwo.dep hwo.ok _ hall _ _ _ hpl er;obtain ⟨l1,l2⟩:=DT _ _ hpl er;have hseg:wD (seg (onS side wl wr) (onS side a b) x)=D.int c :: Br wd.2.1 v:=by
          rw [FC hb (by lia),hby];rfl
         rw [hgd] at e1 e2;refine ⟨c,v,?_,⟨p.h,by rw [eg];exact hcl,by rw [hwd];exact hf⟩,?_,?_⟩
         ·rw [<-e1];unfold Fr;rw [eg,hwd];rfl
         ·rw [<-e2];unfold De;rw [hwd]
         ·rw [hwd,show (GS.st side ws).side=side from rfl,<-e3,<-e4];unfold onS at hseg l1 ⊢;rcases Wk hs1 with ⟨q1,q2⟩ | ⟨q1,q2⟩
          ·rw [if_pos q1,if_pos q1] at hseg;rw [if_pos q1] at l1;rw [if_pos q1,if_pos q1,if_pos q1,if_neg q2,FD];exact ⟨by lia,um9 _,hseg,rfl⟩
          ·rw [if_neg q1,if_neg q1] at hseg;rw [if_neg q1] at l1;rw [if_neg q1,if_neg q1,if_neg q1,if_pos q2,FD];exact ⟨um9 _,by lia,rfl,hseg⟩
theorem Pz {g:List GS}{wl wr:List Nat}(hwl:∀x∈wl,x < 256)(hwr:∀x∈wr,x < 256)(hg:GOk g):∀(f h a b:Nat) (t:List D) (mv:List Mv),Pl g wl wr h a b->Mvs g wl wr mv h a b t->∃mv',Mvs g wl wr mv' (walkR g wl wr f h a b t).2.1 (walkR g wl wr f h a b t).2.2.1 (walkR g wl wr f h a b t).2.2.2.1 (walkR g wl wr f h a b t).1/\Pl g wl wr (walkR g wl wr f h a b t).2.1 (walkR g wl wr f h a b t).2.2.1 (walkR g wl wr f h a b t).2.2.2.1
 | 0,h,a,b,t,mv,p,m=>⟨mv,m,p⟩
 | f + 1,h,a,b,t,mv,p,m=>by
   unfold walkR
   cases e:Cg g wl wr h a b with
   | stop=>exact ⟨mv,m,p⟩
   | brk k s=>exact ⟨mv,m,p⟩
   | next x h' a' b'=>
     obtain ⟨c,v,rfl,hm,rfl,ha,hb,wa,wb⟩:=Wm hwl hwr hg p e;refine Pz hwl hwr hg f _ a' b' _ (mv++[(c,v)]) (Ex hg p e).1 ⟨?_,?_,?_,?_,?_⟩
     ·rw [Ir,m.t,m.h];rfl
     ·rw [F9,m.h];exact ⟨m.ok,hm,trivial⟩
     ·rw [E5,m.h];rfl
     ·rw [Fc,m.h,m.a,Ox ha,DE,wa];simp only [BS,ui6]
     ·rw [Fc,m.h,m.b,Ox hb,DE,wb];simp only [BS,ui6]
def Agr (c:Nat)(w w2:List Nat):Prop:=∀i,i < c->w2[i]?=w[i]?
variable {w2:List Nat}
theorem Agr.mono {c d:Nat}(h:Agr c w w2)(e:d<=c):Agr d w w2:=λi hi=>h i (uf0 hi e)
theorem agr_take {c:Nat}:Agr c w (w.take c):=λi hi=>by rw [uf8,if_pos hi]
theorem He {c:Nat}:Agr c w w:=λ_ _=>rfl
theorem O6 {c:Nat}{m:List Nat}(h:c<=w.length):Agr c w (w.take c++m):=λi hi=>by
 rw [ub2 (by rw [uh2];lia),uf8,if_pos hi]
theorem Tx {c b:Nat}(hw:Agr c w w2):∀(p:Rd) (a:Nat),p.run w a = .told v b->b<=c->p.run w2 a = .told v b:=by
 intro p
 induction p with
 | done v'=>intro a h _;exact h
 | need ok nx ih=>
   intro a h hb
   cases e:w[a]? with
   | none=>rw [Cj e] at h;cases h
   | some x=>
     rw [B8 e] at h;have hl:=(ub1.mp e).1
     by_cases q:ok x=true
     ·rw [if_pos q] at h;have hlt:a < c:=by have:=(DT _ (a + 1) hl h).1;lia
      rw [B8 ((hw a hlt).trans e),if_pos q];exact ih x (a + 1) h hb
     ·rw [if_neg q] at h;cases h
theorem Qg {c k:Nat}(hw:Agr c w w2):∀(p:Rd) (a:Nat),p.run w a = .broken k->k < c->p.run w2 a = .broken k:=by
 intro p
 induction p with
 | done v'=>intro a h _;cases h
 | need ok nx ih=>
   intro a h hk
   cases e:w[a]? with
   | none=>rw [Cj e] at h;cases h
   | some x=>
     have hak:=(EZ _ _ h).1;rw [B8 e] at h;rw [B8 ((hw a (by lia)).trans e)]
     by_cases q:ok x=true
     ·rw [if_pos q] at h ⊢;exact ih x (a + 1) h hk
     ·rw [if_neg q] at h ⊢;exact h
theorem RZ {side:Str}{ws:List (Str×Sh×Int)}{c e:Nat}(hw:Agr c w w2)(h:msgR side ws w p=(.told v e,x))(he:e<=c):msgR side ws w2 p=(.told v e,x):=by
 unfold msgR at h ⊢
 cases hb:w[p]? with
 | none=>rw [hb] at h;cases h
 | some y=>
   rw [hb] at h;dsimp only at h;obtain ⟨hpl,_⟩:=ub1.mp hb
   cases hws:ws[y]? with
   | none=>rw [hws] at h;cases h
   | some wd=>
     rw [hws] at h;injection h with h1 h2
     have hlt:p < c:=by have:=(DT _ _ hpl h1).1;lia
     rw [(hw p hlt).trans hb];dsimp only;rw [hws];dsimp only;rw [Tx hw _ _ h1 he,h2]
theorem OM {side:Str}{ws:List (Str×Sh×Int)}{c k:Nat}(hw:Agr c w w2)(h:msgR side ws w p=(.broken k,x))(hk:k < c):msgR side ws w2 p=(.broken k,x):=by
 unfold msgR at h ⊢
 cases hb:w[p]? with
 | none=>rw [hb] at h;cases h
 | some y=>
   rw [hb] at h;dsimp only at h
   cases hws:ws[y]? with
   | none=>
     rw [hws] at h;injection h with h1 h2
     injection h1 with h1
     subst h1;rw [(hw p hk).trans hb];dsimp only;rw [hws,h2]
   | some wd=>
     rw [hws] at h;injection h with h1 h2
     have hlt:p < c:=by have:=(EZ _ _ h1).1;lia
     rw [(hw p hlt).trans hb];dsimp only;rw [hws];dsimp only;rw [Qg hw _ _ h1 hk,h2]
theorem TD {side:Str}{ws:List (Str×Sh×Int)}{k:Nat}(h:msgR side ws w p=(.broken k,x)):∃y,msgR side ws (w.take k) p=(.short,y):=by
 unfold msgR at h ⊢
 cases hb:w[p]? with
 | none=>rw [hb] at h;cases h
 | some y=>
   rw [hb] at h;dsimp only at h
   cases hws:ws[y]? with
   | none=>
     rw [hws] at h;injection h with h1 h2
     injection h1 with h1
     subst h1;rw [uf8,if_neg (uk5 _)];exact ⟨0,rfl⟩
   | some wd=>
     rw [hws] at h;injection h with h1 h2
     have hlt:p < k:=by have:=(EZ _ _ h1).1;lia
     rw [uf8,if_pos hlt,hb];dsimp only;rw [hws];dsimp only;rw [OH _ _ h1];exact ⟨_,rfl⟩
variable {vl vr:List Nat}
theorem Pn {side:Str}{a b:Nat}(h1:Agr a wl vl)(h2:Agr b wr vr):Agr (onS side a b) (onS side wl wr) (onS side vl vr):=by unfold onS;split <;> assumption
theorem Agr.symm {c:Nat}{w w2:List Nat}(h:Agr c w w2):Agr c w2 w:=λi hi=>(h i hi).symm
theorem Ov {a b ca cb k:Nat}(hl:Agr ca vl wl)(hr:Agr cb vr wr)(e:Cg g vl vr h a b = .brk k s)(hk:k < onS s ca cb):Cg g wl wr h a b = .brk k s:=by
 unfold Cg at e ⊢
 cases eg:BT g h with
 | fin=>rw [eg] at e;cases e
 | st side ws=>
   rw [eg] at e;dsimp only at e ⊢;generalize hm:msgR side ws (onS side vl vr) (onS side a b)=r at e;obtain ⟨r0,c⟩:=r
   cases r0 with
   | short=>cases e
   | told v x=>cases e
   | broken k'=>
     injection e with e1 e2
     subst e1 e2;rw [OM (Pn hl hr) hm hk]
theorem IE {a b ca cb:Nat}(hl:Agr ca vl wl)(hr:Agr cb vr wr){m:D}{h' a' b':Nat}(e:Cg g vl vr h a b = .next m h' a' b')(ha:a'<=ca)(hb:b'<=cb):Cg g wl wr h a b = .next m h' a' b':=by
 unfold Cg at e ⊢
 cases eg:BT g h with
 | fin=>rw [eg] at e;cases e
 | st side ws=>
   rw [eg] at e;dsimp only at e ⊢;generalize hm:msgR side ws (onS side vl vr) (onS side a b)=r at e;obtain ⟨r0,c⟩:=r
   cases r0 with
   | short=>cases e
   | broken k'=>cases e
   | told v x=>
     have hx:x<=onS side ca cb:=by
      injection e with e1 e2 e3 e4
      unfold onS at e3 e4 ⊢
      split at e3
      ·next q=>rw [if_pos q] at e4 ⊢;lia
      ·next q=>rw [if_neg q] at e4 ⊢;lia
     rw [RZ (Pn hl hr) hm hx];exact e
theorem Uf {a b k:Nat}(hs:s=sL\/s=sR)(e:Cg g wl wr h a b = .brk k s):Cg g (onS s (wl.take k) wl) (onS s wr (wr.take k)) h a b = .stop:=by
 unfold Cg at e ⊢
 cases eg:BT g h with
 | fin=>rfl
 | st side ws=>
   rw [eg] at e;dsimp only at e ⊢;generalize hm:msgR side ws (onS side wl wr) (onS side a b)=r at e;obtain ⟨r0,c⟩:=r
   cases r0 with
   | short=>cases e
   | told v x=>cases e
   | broken k'=>
     injection e with e1 e2
     subst e1 e2;have hq:onS side (onS side (wl.take k') wl) (onS side wr (wr.take k'))=(onS side wl wr).take k':=by unfold onS;split <;> rfl
     obtain ⟨y,hy⟩:=TD hm;rw [hq,hy]
theorem Q0 {a b k:Nat}(e:Cg g wl wr h a b = .brk k s):k < (onS s wl wr).length/\onS s a b<=k:=by
 unfold Cg at e
 cases eg:BT g h with
 | fin=>rw [eg] at e;cases e
 | st side ws=>
   rw [eg] at e;dsimp only at e;unfold msgR at e
   cases hb:(onS side wl wr)[onS side a b]? with
   | none=>rw [hb] at e;cases e
   | some c=>
     rw [hb] at e;dsimp only at e;obtain ⟨hpl,_⟩:=ub1.mp hb
     cases hw:ws[c]? with
     | none=>
       rw [hw] at e;injection e with e1 e2
       subst e1 e2;exact ⟨hpl,um9 _⟩
     | some wd=>
       rw [hw] at e;dsimp only at e
       cases er:(pSh 3 wd.2.1).run (onS side wl wr) (onS side a b + 1) with
       | short=>rw [er] at e;cases e
       | told v x=>rw [er] at e;cases e
       | broken k'=>
         rw [er] at e;injection e with e1 e2
         subst e1 e2;obtain ⟨l1,l2⟩:=EZ _ _ er;exact ⟨l2,by lia⟩
theorem Ki (g:List GS)(wl wr:List Nat):∀(F h a b:Nat) (t:List D),∃ex,(walkR g wl wr F h a b t).1=t++ex
 | 0,h,a,b,t=>⟨[],by rw [ui6];rfl⟩
 | F + 1,h,a,b,t=>by
   unfold walkR
   cases Cg g wl wr h a b with
   | stop=>exact ⟨[],by rw [ui6]⟩
   | brk k s=>exact ⟨[],by rw [ui6]⟩
   | next m h' a' b'=>
     obtain ⟨ex,e⟩:=Ki g wl wr F h' a' b' (t++[m]);exact ⟨m :: ex,by rw [e,ug5];rfl⟩
theorem OE {g:List GS}{wl wr vl vr:List Nat}(hg:GOk g)(hl:Agr vl.length wl vl)(hr:Agr vr.length wr vr)(hl2:vl.length<=wl.length)(hr2:vr.length<=wr.length):∀(F F' h a b:Nat) (t:List D),Pl g vl vr h a b->wl.length + wr.length + 1<=F + (a + b)->
 (match walkR g vl vr F' h a b t with
 | (t',_,_,_,none)=>∃ex,(walkR g wl wr F h a b t).1=t'++ex
 | R=>walkR g wl wr F h a b t=R)
 | 0,F',h,a,b,t,p,hf=>by have:=p.a;have:=p.b;lia
 | F + 1,0,h,a,b,t,p,hf=>by
   show ∃ex,(walkR g wl wr (F + 1) h a b t).1=t++ex;exact Ki g wl wr (F + 1) h a b t
 | F + 1,F' + 1,h,a,b,t,p,hf=>by
   have hl':=hl.symm;have hr':=hr.symm;unfold walkR
   cases e:Cg g vl vr h a b with
   | stop=>exact Ki g wl wr (F + 1) h a b t
   | brk k s=>
     dsimp only;have hb:=(Q0 e).1;have e2:=Ov hl' hr' e (by unfold onS at hb ⊢;split <;> (next q=>first | (rw [if_pos q] at hb;exact hb) | (rw [if_neg q] at hb;exact hb)))
     rw [e2]
   | next m h' a' b'=>
     obtain ⟨p',hlt⟩:=Ex hg p e;have e2:=IE hl' hr' e p'.a p'.b;rw [e2];exact OE hg hl hr hl2 hr2 F F' h' a' b' (t++[m]) p' (by lia)
theorem Mw {g:List GS}{wl wr:List Nat}(hg:GOk g):∀(f h a b:Nat) (t:List D),Pl g wl wr h a b->a<=(walkR g wl wr f h a b t).2.2.1/\b<=(walkR g wl wr f h a b t).2.2.2.1
 | 0,h,a,b,t,p=>⟨um9 _,um9 _⟩
 | f + 1,h,a,b,t,p=>by
   unfold walkR
   cases e:Cg g wl wr h a b with
   | stop=>exact ⟨um9 _,um9 _⟩
   | brk k s=>exact ⟨um9 _,um9 _⟩
   | next m h' a' b'=>
     obtain ⟨p',_⟩:=Ex hg p e;have q:=Mw hg f h' a' b' (t++[m]) p';have hle:a<=a'/\b<=b':=by
      unfold Cg at e
      cases eg:BT g h with
      | fin=>rw [eg] at e;cases e
      | st side ws=>
        rw [eg] at e;dsimp only at e;unfold msgR at e
        cases hb:(onS side wl wr)[onS side a b]? with
        | none=>rw [hb] at e;cases e
        | some c=>
          rw [hb] at e;dsimp only at e;obtain ⟨hpl,_⟩:=ub1.mp hb
          cases hw:ws[c]? with
          | none=>rw [hw] at e;cases e
          | some wd=>
            rw [hw] at e;dsimp only at e
            cases er:(pSh 3 wd.2.1).run (onS side wl wr) (onS side a b + 1) with
            | short=>rw [er] at e;cases e
            | broken k=>rw [er] at e;cases e
            | told v x=>
              rw [er] at e;injection e with e1 e2 e3 e4
              obtain ⟨l1,l2⟩:=DT _ _ hpl er;unfold onS at e3 e4 l1
              by_cases q:side=sL
              ·rw [if_pos q] at e3 e4 l1;lia
              ·rw [if_neg q] at e3 e4 l1;lia
     exact ⟨ul7 hle.1 q.1,ul7 hle.2 q.2⟩
theorem Te (hg:GOk g){h a b k:Nat}{s:Str}(hh:h < g.length)(e:Cg g wl wr h a b = .brk k s):s=sL\/s=sR:=by
 have hgs:=D8 hg hh;unfold Cg at e
 cases eg:BT g h with
 | fin=>rw [eg] at e;cases e
 | st side ws=>
   rw [eg] at e hgs
   cases hgs with
   | st hs _ _ _ _=>
   dsimp only at e;generalize msgR side ws (onS side wl wr) (onS side a b)=r at e;obtain ⟨r0,c⟩:=r
   cases r0 with
   | short=>cases e
   | told v x=>cases e
   | broken k'=>injection e with e1 e2;subst e2;exact hs
theorem OD {g:List GS}{wl wr:List Nat}(hg:GOk g){k:Nat}{s:Str}:∀(F h a b:Nat) (t t':List D) (h' a' b':Nat),Pl g wl wr h a b->walkR g wl wr F h a b t=(t',h',a',b',some (k,s))->
 (s=sL\/s=sR)/\k < (onS s wl wr).length/\onS s a' b'<=k/\
 (∀(vl vr:List Nat) (F':Nat),Agr (onS s (k + 1) wl.length) wl vl->Agr (onS s wr.length (k + 1)) wr vr->F<=F'->walkR g vl vr F' h a b t=(t',h',a',b',some (k,s)))/\
 (∀F',F<=F'->walkR g (onS s (wl.take k) wl) (onS s wr (wr.take k)) F' h a b t=(t',h',a',b',none))
 | 0,h,a,b,t,t',h',a',b',p,e=>by cases e
 | F + 1,h,a,b,t,t',h',a',b',p,e=>by
   unfold walkR at e
   cases es:Cg g wl wr h a b with
   | stop=>rw [es] at e;cases e
   | brk k' s'=>
     rw [es] at e;injection e with e1 e
     injection e with e2 e
     injection e with e3 e
     injection e with e4 e
     injection e with e
     injection e with e5 e6
     subst e1 e2 e3 e4 e5 e6;have hs:=Te hg p.h es;obtain ⟨b1,b2⟩:=Q0 es;refine ⟨hs,b1,b2,λvl vr F' hl hr hF=>?_,λF' hF=>?_⟩
     ·obtain ⟨f,rfl⟩:∃f,F'=f + 1:=⟨F' - 1,by lia⟩;unfold walkR;rw [Ov hl hr es (by unfold onS;split <;> lia)]
     ·obtain ⟨f,rfl⟩:∃f,F'=f + 1:=⟨F' - 1,by lia⟩;unfold walkR;rw [Uf hs es]
   | next m h1 a1 b1=>
     rw [es] at e;obtain ⟨p1,_⟩:=Ex hg p es;have e':walkR g wl wr F h1 a1 b1 (t++[m])=(t',h',a',b',some (k,s)):=e;obtain ⟨hs,c1,c2,c3,c4⟩:=OD hg F h1 a1 b1 (t++[m]) t' h' a' b' p1 e';have hm:=Mw hg F h1 a1 b1 (t++[m]) p1;rw [e'] at hm;have hm1:a1<=a':=hm.1;have hm2:b1<=b':=hm.2;have pa:=p1.a;have pb:=p1.b;refine ⟨hs,c1,c2,λvl vr F' hl hr hF=>?_,λF' hF=>?_⟩
     ·obtain ⟨f,rfl⟩:∃f,F'=f + 1:=⟨F' - 1,by lia⟩;unfold walkR;rw [IE hl hr es (by unfold onS at c2 ⊢;split <;> (next q=>first | (rw [if_pos q] at c2;lia) | (rw [if_neg q] at c2;lia))) (by unfold onS at c2 ⊢;split <;> (next q=>first | (rw [if_pos q] at c2;lia) | (rw [if_neg q] at c2;lia)))]
      exact c3 vl vr f hl hr (by lia)
     ·obtain ⟨f,rfl⟩:∃f,F'=f + 1:=⟨F' - 1,by lia⟩;unfold walkR;rw [IE (ca:=onS s k wl.length) (cb:=onS s wr.length k) (by unfold onS;split <;> first | exact agr_take | exact He) (by unfold onS;split <;> first | exact agr_take | exact He) es (by unfold onS at c2 ⊢;split <;> (next q=>first | (rw [if_pos q] at c2;lia) | (rw [if_neg q] at c2;lia))) (by unfold onS at c2 ⊢;split <;> (next q=>first | (rw [if_pos q] at c2;lia) | (rw [if_neg q] at c2;lia)))]
      exact c4 f (by lia)
def Km (f:Fn):Prop:=∀(g:List GS) (mv:List Mv),GOk g->okQ g 0 mv->mv.length<=60000->Pure1 f [.lst (g.map GS.d),.lst (B6 g 0 mv)] (.lst (CI g 0 mv))
theorem Wo (hn:Kj cn)(hp:Jx cp):Km (fnOf 2 7 (ER cn cp)):=by
 intro g mv hg hk hl S;have hL:LIM=100000:=rfl;refine AR rfl ?_;unfold ER;left;rw [DA];refine Ee (CY (by lia) (by lia)) ?_;refine C1 (λr t=>∃(j:Nat) (e4 e5 e6:Option Sl),j<=mv.length/\r=(rngL 0 ((mv.length:Nat):Int).toNat).drop j/\t=⟨[some (.val (.lst (g.map GS.d))),some (.val (.lst (B6 g 0 mv))),some (.val (.int (lastQ g 0 (mv.take j)))),some (.own (CI g 0 (mv.take j))),e4,e5,e6],S⟩) _ _ ⟨0,none,none,none,un0 _,rfl,rfl⟩ ?_ ?_
 ·rintro d' r t ⟨j,e4,e5,e6,hj,hr,rfl⟩ _;obtain ⟨rfl,hr',hjm⟩:=FB hr;rw [ug3] at hjm;rw [um5];have hlt:=LD hg hg.ne (TL hk j);obtain ⟨p,v,hpv⟩:∃p v,mv[j]=(p,v):=⟨_,_,rfl⟩;have em:mv[j]?=some (p,v):=by rw [ub6 hjm,hpv]
  have hmv:=IX hk em;have hmsg:atI (B6 g 0 mv) (j:Int)=some (Fr g (lastQ g 0 (mv.take j)) p v):=by
   unfold atI;rw [CT (by lia) (by rw [DA];lia)];show (B6 g 0 mv)[(j:Int).toNat]?=_;rw [ug3,FQ g 0 mv j p v em]
  have htk:mv.take (j + 1)=mv.take j++[(p,v)]:=by rw [List.take_succ_eq_append_getElem hjm,hpv]
  left;refine B2 (EW hlt) ?_;left;refine B2 hmsg ?_;left;refine (hp g _ p v hg hmv).use ?_;left;refine Cm (by rw [Ft,uh2,hL];lia) ?_;left;refine (hn g _ p hg hlt hmv.pl).use ?_;left;refine ⟨j + 1,_,_,_,hjm,hr',t7 ?_ ?_⟩
  ·rw [htk,E5];rfl
  ·rw [htk,HG];rfl
 ·rintro t ⟨j,e4,e5,e6,hj,hr,rfl⟩;have hz:=congrArg List.length hr;rw [uj3,uh3,Cn,ug3] at hz;have hje:j=mv.length:=by lia
  subst hje;rw [List.take_length];left;exact ⟨rfl,rfl,rfl⟩
def Lj (f:Fn):Prop:=∀(g:List GS) (mv:List Mv),GOk g->okQ g 0 mv->mv.length<=60000->Pure1 f [.lst (g.map GS.d),.lst (B6 g 0 mv)] (.int (lastQ g 0 mv))
theorem Ta {cs:Fn}(hn:Kj cn)(hs:Km cs):Lj (fnOf 2 3 (DJ cn cs)):=by
 intro g mv hg hk hl S;refine AR rfl ?_;unfold DJ;left;refine (hs g mv hg hk (by lia)).use ?_;left;rw [Ft];refine CU (λq=>?_) λq=>?_
 ·have:mv=[]:=by
   have:(mv.length:Int)=0:=by simpa using q
   exact uc0.mp (by lia)
  subst this;left;exact ⟨rfl,rfl,rfl⟩
 ·have hne:mv≠[]:=by intro z;subst z;simp at q
  obtain ⟨mv',x,rfl⟩:∃l x,mv=l++[x]:=⟨mv.dropLast,mv.getLast hne,(List.dropLast_concat_getLast hne).symm⟩;obtain ⟨p,v⟩:=x;rw [F9] at hk;have hm:=hk.2.1;have hst:CI g 0 (mv'++[(p,v)])=CI g 0 mv'++[.tup [.int (lastQ g 0 mv'),.int p]]:=by rw [HG];rfl
  rw [hst];have hlast:atI (CI g 0 mv'++[D.tup [.int (lastQ g 0 mv'),.int p]]) (-1)=some (.tup [.int (lastQ g 0 mv'),.int p]):=by
   unfold atI ixN;simp only [uf5,uh5,uj3];rw [if_neg (by lia),if_pos (by lia)];rw [show (-1 + ((CI g 0 mv').length + (0 + 1):Nat):Int).toNat=(CI g 0 mv').length by lia];simp
  left;refine B2 hlast ?_;left;refine (hn g _ p hg hm.lt hm.pl).use ?_;rw [E5];left;exact ⟨rfl,rfl,rfl⟩
def PJ (f:Fn):Prop:=∀(g:List GS) (q p:Nat) (v:D),GOk g->MvOk g q p v->(Br (wdAt g q p).2.1 v).length<=50000->Pure1 f [(BT g q).d,.int p,v] (.lst (.int p :: Br (wdAt g q p).2.1 v))
theorem Xd (hc:GV c 3):PJ (fnOf 3 3 (El c)):=by
 intro g q p v hg hm hb S;have hL:LIM=100000:=rfl;refine AR rfl ?_;unfold El;obtain ⟨side,ws,e,hpl,ew⟩:=HF hm.pl;have hw:=Jk hg hm.lt hm.pl;have hfit:=hm.fit;rw [e,GS.d];right;refine GB ?_;right;refine B2 (GC ew) ?_;unfold wdD;right;refine (hc _ hw.dep hw.ok v hfit (by lia)).use ?_;refine ⟨_,rfl,?_⟩;right;refine Cm (by rw [hL];show 1 + _<=_;lia) ?_;exact ⟨rfl,rfl⟩
theorem GO (g:List GS)(sd:Str)(mv:List Mv)(j:Nat):(BS g sd 0 (mv.take j)).length<=(BS g sd 0 mv).length:=by
 have e:BS g sd 0 mv=BS g sd 0 (mv.take j++mv.drop j):=by rw [ud6]
 rw [e,Fc,uf5];exact uh7 _ _
def Nj (f:Fn):Prop:=∀(g:List GS) (mv:List Mv) (S:List Ob),GOk g->okQ g 0 mv->mv.length<=60000->(BS g sL 0 mv).length<=25000->(BS g sR 0 mv).length<=25000->Wf f [.lst (g.map GS.d),.lst (B6 g 0 mv)] S λr S'=>∃K A B,r = .tup [.obj A,.obj B]/\Wr K A B S' (BS g sL 0 mv) (BS g sR 0 mv)/\Gr S S'/\S.length<=A/\S.length<=B
theorem WE {cm cs:Fn}(hm:PJ cm)(hs:Km cs):Nj (fnOf 2 6 (ET cm cs)):=by
 intro g mv S hg hk hlen hll hlr;have hL:LIM=100000:=rfl;refine AR rfl ?_;unfold ET;left;refine F6 ?_;refine BK ?_;left;refine BK ?_;left;refine DF ?_;refine ⟨by simp,by show 2<=15;decide,?_⟩;obtain ⟨S1,hS1⟩:∃S1:List Ob,S1=(S++[Ob.dct []]++[Ob.lst []]++[Ob.lst []]).set S.length (.dct (BO [(kL,.obj (S++[Ob.dct []]).length),(kRt,.obj (S++[Ob.dct []]++[Ob.lst []]).length)])):=⟨_,rfl⟩;have w0:Wr S.length (S++[Ob.dct []]).length (S++[Ob.dct []]++[Ob.lst []]).length S1 [] []:=by
  rw [hS1,Fw];refine ⟨IQ (o:=.dct []) (by simp),?_,?_,by simp,by simp,by simp⟩
  ·rw [ud9 (by simp)];simp
  ·rw [ud9 (by simp)];simp
 have hFS:Gr S S1:=by
  rw [hS1];exact Gr.set ((Gr.app.trans Gr.app).trans Gr.app) (um9 _)
 have hne:S.length<=(S++[Ob.dct []]).length/\S.length<=(S++[Ob.dct []]++[Ob.lst []]).length:=by
  simp only [uf5,uh5,uj3];exact ⟨by lia,by lia⟩
 refine DC ?_;show W _ ⟨[some (.val (.lst (g.map GS.d))),some (.val (.lst (B6 g 0 mv))),some (.val (.obj S.length)),none,none,none],(S++[Ob.dct []]++[Ob.lst []]++[Ob.lst []]).set S.length (.dct (BO [(kL,.obj (S++[Ob.dct []]).length),(kRt,.obj (S++[Ob.dct []]++[Ob.lst []]).length)]))⟩ _;rw [<-hS1];clear hS1;generalize (S++[Ob.dct []]++[Ob.lst []]).length=B at w0 hne;generalize (S++[Ob.dct []]).length=A at w0 hne;generalize hSK:S.length=K at w0 ⊢;left;refine (hs g mv hg hk (by lia)).use ?_;left;rw [Ft];refine Ee (CY (by lia) (by lia)) ?_;refine C1 (λr t=>∃(j:Nat) (S':List Ob) (e4 e5:Option Sl),j<=mv.length/\r=(rngL 0 ((mv.length:Nat):Int).toNat).drop j/\Wr K A B S' (BS g sL 0 (mv.take j)) (BS g sR 0 (mv.take j))/\Gr S S'/\t=⟨[some (.val (.lst (g.map GS.d))),some (.val (.lst (B6 g 0 mv))),some (.val (.obj K)),some (.val (.lst (CI g 0 mv))),e4,e5],S'⟩) _ _ ⟨0,S1,none,none,by lia,rfl,w0,hFS,rfl⟩ ?_ ?_
 ·rintro d' r t ⟨j,S',e4,e5,hjl,hr,hw,hF',rfl⟩ _;obtain ⟨rfl,hr',hjn⟩:=FB hr;rw [ug3] at hjn;rw [um5]
  cases em:mv[j]? with
  | none=>rw [ub4] at em;lia
  | some x=>
  obtain ⟨p,v⟩:=x;have hm':=IX hk em;have htk:mv.take (j + 1)=mv.take j++[(p,v)]:=by
   rw [List.take_succ,em];rfl
  have hsi:atI (CI g 0 mv) j=some (.tup [.int (lastQ g 0 (mv.take j)),.int p]):=by
   unfold atI;rw [CT (by lia) (by rw [Ft];lia)];show (CI g 0 mv)[(j:Int).toNat]?=_;rw [ug3,Ld g 0 mv j p v em]
  have hmi:atI (B6 g 0 mv) j=some (Fr g (lastQ g 0 (mv.take j)) p v):=by
   unfold atI;rw [CT (by lia) (by rw [DA];lia)];show (B6 g 0 mv)[(j:Int).toNat]?=_;rw [ug3,FQ g 0 mv j p v em]
  have hside:=L6 hg hm';have lA:=GO g sL mv j;have lB:=GO g sR mv j;have lA':=GO g sL mv (j + 1);have lB':=GO g sR mv (j + 1);have nA:BS g sL 0 (mv.take (j + 1))=BS g sL 0 (mv.take j)++(if (BT g (lastQ g 0 (mv.take j))).side=sL then D.int p :: Br (wdAt g (lastQ g 0 (mv.take j)) p).2.1 v else []):=by
   rw [htk,Fc,BS,BS,ui6]
  have nB:BS g sR 0 (mv.take (j + 1))=BS g sR 0 (mv.take j)++(if (BT g (lastQ g 0 (mv.take j))).side=sR then D.int p :: Br (wdAt g (lastQ g 0 (mv.take j)) p).2.1 v else []):=by
   rw [htk,Fc,BS,BS,ui6]
  have hbd:(Br (wdAt g (lastQ g 0 (mv.take j)) p).2.1 v).length<=25000:=by
   rcases hside with h | h
   ·rw [nA,if_pos h,uf5,uh5] at lA';lia
   ·rw [nB,if_pos h,uf5,uh5] at lB';lia
  generalize hq:lastQ g 0 (mv.take j)=q at *;have hix:∀(t:T) (P:D->T->Prop),P (.str (BT g q).side) t->W (ixD (BT g q).d (.int 0)) t P:=λt P h=>by
   cases e:BT g q with
   | fin=>rw [e] at h;rw [GS.d];exact HL Ko h
   | st s w=>rw [e] at h;rw [GS.d];exact HL Ko h
  left;refine B2 hsi ?_;left;refine B2 (EW hm'.lt) ?_;left;obtain ⟨C,xs,hCn,hC,hxl,hget,hnew⟩:∃(C:Nat) (xs:List D),S.length<=C/\S'[C]?=some (.lst xs)/\xs.length<=25000/\B5 [(kL,.obj A),(kRt,.obj B)] (.inr (BT g q).side)=some (.obj C)/\Wr K A B (S'.set C (.lst (xs++D.int p :: Br (wdAt g q p).2.1 v))) (BS g sL 0 (mv.take (j + 1))) (BS g sR 0 (mv.take (j + 1))):=by
   rcases hside with h | h
   ·refine ⟨A,_,hne.1,hw.a,by lia,by rw [h];exact DN,?_⟩;rw [nA,nB,if_pos h,if_neg (by rw [h];exact sLR),ui6];exact hw.setA
   ·refine ⟨B,_,hne.2,hw.b,by lia,by rw [h];exact DO,?_⟩;rw [nA,nB,if_pos h,if_neg (by rw [h];exact Ne.symm sLR),ui6];exact hw.setB
  refine Zs (k:=C) ?_;left;refine hix _ _ ?_;refine B0 hw.k hget ?_;refine ⟨rfl,_,hC,?_⟩;left;refine B2 hsi ?_;left;refine B2 hmi ?_;unfold Fr;left;refine (hm g q p v hg hm' (by lia)).use ?_;left;refine ⟨xs,_,hC,if_pos (by rw [hL,uh5];lia),?_⟩;exact ⟨j + 1,_,_,_,hjn,hr',hnew,hF'.set hCn,rfl⟩
 ·rintro t ⟨j,S',e4,e5,hjl,hr,hw,hF',rfl⟩;have hj':j=mv.length:=by
   have:=congrArg List.length hr;rw [uj3,uh3,Cn,ug3] at this;lia
  subst hj';rw [List.take_length] at hw;left;refine B0 hw.k DN ?_;left;refine B0 hw.k DO ?_;left;exact ⟨rfl,K,A,B,rfl,hw,hF',by rw [<-hSK];exact hne.1,by rw [<-hSK];exact hne.2⟩
def HR (f:Fn):Prop:=∀(g:List GS) (wl wr:List Nat) (S:List Ob),GOk g->wl.length<=25000->wr.length<=25000->Wf f [.lst (g.map GS.d),.lst (wD wl),.lst (wD wr)] S λr S'=>Gr S S'/\match walkR g wl wr (wl.length + wr.length + 1) 0 0 0 [] with
 | (t,h,a,b,none)=>r = .lst [.tup [.lst t,.int h,.tup [.int a,.int b]],.non]
 | (_,_,_,_,some (k,s))=>r = .lst [.non,.tup [.int k,.str s]]
theorem RV (hc:Ng c):HR (fnOf 3 6 (Ej c)):=by
 intro g wl wr S hg hl1 hl2;refine AR rfl ?_;unfold Ej;symm;refine (hc g wl wr S hg hl1 hl2).mono λr S1 z9=>?_;obtain ⟨hG,hr⟩:=z9;generalize walkR g wl wr (wl.length + wr.length + 1) 0 0 0 []=R at hr ⊢;obtain ⟨t,h,a,b,o⟩:=R
 cases o with
 | none=>
   have hr:r = .tup [.lst t,.int h,.tup [.int a,.int b]]:=hr;subst hr;symm;exact ⟨hG,rfl⟩
 | some z=>
   obtain ⟨k,s⟩:=z;have hr:r = .exc "Broken" [.int k,.str s]:=hr;subst hr;symm;exact ⟨hG,rfl⟩
theorem RoomF.gr {k:Nat}{S':List Ob}(h:RoomF F k r S)(e:Gr S S'):RoomF F k r S':=by
 obtain ⟨⟨a,c,b,h1,h2⟩,h3⟩:=h;exact ⟨⟨a,c,b,e.get h1,h2⟩,λp hp=>⟨(h3 p hp).1,e.get (h3 p hp).2⟩⟩
theorem R5 {g:List GS}(hg:GOk g):∀(q:Nat) (mv:List Mv),okQ g q mv->mv.length<=(BS g sL q mv).length + (BS g sR q mv).length
 | q,[],_=>un0 _
 | q,(p,v) :: r,h=>by
   rw [okQ] at h;have ih:=R5 hg _ r h.2;rw [BS,BS,uf5,uf5,uh5];rcases L6 hg h.1 with e | e
   ·rw [if_pos e,uh5];lia
   ·rw [if_pos (show (BT g q).side=sR from e),uh5];lia
theorem WV:Dq (xs++ys) none (some (xs.length:Int))=xs:=by
 unfold Dq;rw [HT.LZ,HT.J0,uk3,um7,Nat.min_eq_left (by rw [uf5];lia),List.take_left'];rfl
def PF (f:Fn):Prop:=∀(F:List (Nat×Ob)) (g:List GS) (wl wr:List Nat) (k r:Nat) (S:List Ob),GOk g->wl.length<=25000->wr.length<=25000->B256 wl->B256 wr->(walkR g wl wr (wl.length + wr.length + 1) 0 0 0 []).2.2.2.2=none->RoomF F k (r + 2) S->Wf f [.lst (g.map GS.d),.lst (wD wl),.lst (wD wr),.obj k] S λx S'=>x = .bl true/\RoomF F k r S'
variable {ck:Fn}
theorem TC (ht:HR ct)(hk:∀F,PTakeF F ck)(hw:Nj cw)(hb:Lj cb):PF (fnOf 4 12 (Eh ct ck cw cb)):=by
 intro F g wl wr k r S hg hl1 hl2 b1 b2 hnb p0;refine AR rfl ?_;unfold Eh;have P0:Pl g wl wr 0 0 0:=⟨hg.ne,un0 _,un0 _⟩;obtain ⟨mv,hm,hpl⟩:=Pz b1 b2 hg (wl.length + wr.length + 1) 0 0 0 [] [] P0 ⟨rfl,trivial,rfl,rfl,rfl⟩;have hrq:=PB b1 b2 hg (wl.length + wr.length + 1) 0 0 0 [] P0 (λ_ z=>nomatch z);have hcut:=λx y=>OE (wl:=wl) (wr:=wr) (vl:=wl.take x) (vr:=wr.take y) hg (agr_take.mono (by rw [uh2];lia)) (agr_take.mono (by rw [uh2];lia)) (by rw [uh2];lia) (by rw [uh2];lia) (wl.length + wr.length + 1) ((wl.take x).length + (wr.take y).length + 1) 0 0 0 [] ⟨hg.ne,un0 _,un0 _⟩ (by lia);symm;refine (ht g wl wr S hg hl1 hl2).mono λr1 S1 z9=>?_;obtain ⟨hG,hr⟩:=z9;generalize walkR g wl wr (wl.length + wr.length + 1) 0 0 0 []=R at hr hm hpl hrq hcut hnb;obtain ⟨t,h,a,b,o⟩:=R;have ho:o=none:=hnb;subst ho;have hr:r1 = .lst [.tup [.lst t,.int h,.tup [.int a,.int b]],.non]:=hr;subst hr;have p1:=p0.gr hG;have ea:BS g sL 0 mv=wD (wl.take a):=hm.a;have eb:BS g sR 0 mv=wD (wr.take b):=hm.b;have eh:lastQ g 0 mv=h:=hm.h;have et:t=B6 g 0 mv:=hm.t;have la:(wD (wl.take a)).length<=25000:=by rw [B1,uh2];lia
 have lb:(wD (wr.take b)).length<=25000:=by rw [B1,uh2];lia
 have hml:=R5 hg 0 mv hm.ok;rw [ea,eb] at hml;symm;refine PV ?_;rw [et];refine (hw g mv S1 hg hm.ok (by lia) (by rw [ea];exact la) (by rw [eb];exact lb)).mono λr2 S2 z9=>?_;obtain ⟨K,A,B,e,w,hG2,_,_⟩:=z9;refine ⟨by rw [e];rfl,?_⟩;subst e;rw [ea,eb] at w;have p2:=p1.gr hG2;symm;rw [Ff];symm;rw [Ff];have iL:IJ (wD (wl.take a)):=λx hx=>by
  obtain ⟨y,_,rfl⟩:=um3.mp hx;exact ⟨_,rfl⟩
 have iR:IJ (wD (wr.take b)):=λx hx=>by
  obtain ⟨y,_,rfl⟩:=um3.mp hx;exact ⟨_,rfl⟩
 refine aD (d:=.tup [.lst (wD (wl.take a)),.lst (wD (wr.take b))]) (V6 w.a w.b) (by simp only [FV,uk9,um0,Ew]) (by simp only [C7,GU,Ix iL,Ix iR,Bool.and_self]) (U8 iL iR) ?_;symm;refine ((hb g mv hg hm.ok (by lia)).ok rfl).use ?_;rw [eh];symm;refine CU (λz=>absurd z (by simp)) λ_=>?_;symm;rw [B1];refine (hk F).use (r:=r + 1) ((wl.length:Int) + 1) p2 (λx S3 x0 x1 p3=>?_) rfl (by lia) (by lia);obtain ⟨x,rfl⟩:=uc2 x0;symm;rw [B1];refine (hk F).use (r:=r) ((wr.length:Int) + 1) p3 (λy S4 y0 y1 p4=>?_) rfl (by lia) (by lia);obtain ⟨y,rfl⟩:=uc2 y0;symm;rw [Ff];symm;rw [Ff];refine (ht g (wl.take x) (wr.take y) S4 hg (by rw [uh2];lia) (by rw [uh2];lia)).mono λr3 S5 z9=>?_;obtain ⟨hG5,hr5⟩:=z9;have hc:=hcut x y;have p5:=p4.gr hG5;generalize walkR g (wl.take x) (wr.take y) ((wl.take x).length + (wr.take y).length + 1) 0 0 0 []=R at hr5 hc;obtain ⟨t',h',a',b',o⟩:=R
 cases o with
 | some z=>
   have hc:(t,h,a,b,none)=(t',h',a',b',some z):=hc
   cases hc
 | none=>
   have hc:∃ex,t=t'++ex:=hc;obtain ⟨ex,hc⟩:=hc;have hr5:r3 = .lst [.tup [.lst t',.int h',.tup [.int a',.int b']],.non]:=hr5;subst hr5;symm;rw [<-et,hc,WV];refine L9 rfl ?_ ?_
   ·exact X4 (n:=6) (λx hx=>(hrq x (by show x∈t;rw [hc];exact ud8 _ hx)).mono (by decide)) 40 (by decide)
   ·symm;exact ⟨rfl,p5⟩
variable {l:List Nat}
theorem Qp {r:List Nat}:(onS s (D.lst (wD l)) (D.lst (wD r))) = .lst (wD (onS s l r)):=by unfold onS;split <;> rfl
theorem Ph {r:List Nat}(h:s=sL\/s=sR):Ch (dW l r) (.inr s) (.lst (wD w))=dW (onS s w l) (onS s r w):=by
 rw [KL h];unfold onS;split <;> rfl
theorem Qo {r:List Nat}(h1:B256 l)(h2:B256 r):B256 (onS s l r):=by unfold onS;split <;> assumption
theorem G2 {r:List Nat}(h1:l.length<=m)(h2:r.length<=m):(onS s l r).length<=m:=by unfold onS;split <;> assumption
theorem II {g:List GS}{wl wr:List Nat}(hg:GOk g):∀(f f' h a b:Nat) (t:List D),Pl g wl wr h a b->wl.length + wr.length + 1<=f + (a + b)->wl.length + wr.length + 1<=f' + (a + b)->walkR g wl wr f h a b t=walkR g wl wr f' h a b t
 | 0,f',h,a,b,t,p,h1,h2=>by have:=p.a;have:=p.b;lia
 | f + 1,0,h,a,b,t,p,h1,h2=>by have:=p.a;have:=p.b;lia
 | f + 1,f' + 1,h,a,b,t,p,h1,h2=>by
   unfold walkR
   cases e:Cg g wl wr h a b with
   | stop=>rfl
   | brk k s=>rfl
   | next m h' a' b'=>
     obtain ⟨p',hlt⟩:=Ex hg p e;exact II hg f f' h' a' b' (t++[m]) p' (by lia) (by lia)
theorem WU {r:List Nat}{k:Nat}:onS s ((onS s l r).take k) l=onS s (l.take k) l/\onS s r ((onS s l r).take k)=onS s r (r.take k):=by unfold onS;split <;> exact ⟨rfl,rfl⟩
theorem QZ {r m:List Nat}{k:Nat}(h:k < (onS s l r).length):Agr (onS s (k + 1) l.length) l (onS s ((onS s l r).take (k + 1)++m) l)/\Agr (onS s r.length (k + 1)) r (onS s r ((onS s l r).take (k + 1)++m)):=by
 unfold onS at h ⊢
 split
 ·next q=>rw [if_pos q] at h;exact ⟨O6 h,He⟩
 ·next q=>rw [if_neg q] at h;exact ⟨He,O6 h⟩
theorem VD {x:List Nat}:onS s w (onS s x l)=onS s w l:=by unfold onS;split <;> rfl
theorem VF {x r:List Nat}:onS s (onS s r x) w=onS s r w:=by unfold onS;split <;> rfl
theorem NB {k R:Nat}(p:RoomF F k (R + m) S)(h:∀(R:Nat) (S':List Ob) (d:D),RoomF F k (R + 1) S'->W elt ⟨some (.val d) :: fr,S'⟩ λx t'=>∃(b:Nat) (S'':List Ob),x = .int b/\b < 256/\RoomF F k R S''/\t'=⟨some (.val d) :: fr,S''⟩) :
 W (Do (By 0) EF elt (rngL 0 (m:Int).toNat)) ⟨z :: fr,S⟩ λxs t'=>∃w2:List Nat,xs=wD w2/\B256 w2/\w2.length<=m/\RoomF F k R t'.S:=by
 refine (FO (P:=λxs t'=>∃w2:List Nat,xs=wD w2/\B256 w2/\w2.length<=m/\RoomF F k R t'.S) (λacc q t=>∃(w2:List Nat) (S':List Ob) (z:Option Sl),acc=wD w2/\B256 w2/\w2.length + q.length=m/\RoomF F k (R + q.length) S'/\t=⟨z :: fr,S'⟩) _ [] _ ⟨[],S,_,rfl,(λ_ z=>nomatch z),by rw [Cn,ug3,uj3];lia,p.mono (by rw [Cn,ug3];lia),rfl⟩ ?_ ?_).mono ?_
 ·rintro acc d q t ⟨w2,S',z,rfl,h1,h2,h3,rfl⟩ _;rw [uh5] at h2 h3;refine IG (IH ?_);rw [if_pos rfl];refine (h (R + q.length) S' d h3).mono ?_;rintro x t' ⟨b,S'',rfl,hb,h4,rfl⟩;exact ⟨w2++[b],S'',_,by rw [DE];rfl,h1.app λy hy=>by rw [uf7.mp hy];exact hb,by rw [uf5,ud3];lia,h4,rfl⟩
 ·rintro acc t ⟨w2,S',z,rfl,h1,h2,h3,rfl⟩;exact ⟨w2,rfl,h1,by lia,h3.mono (by lia)⟩
 ·rintro xs t' ⟨w2,e,h1,h2,h3⟩;exact ⟨w2,by rw [uj1] at e;exact e,h1,h2,h3⟩
def M4 (f:Fn):Prop:=∀(F:List (Nat×Ob)) (g:List GS) (wl wr:List Nat) (W k r:Nat) (S:List Ob),GOk g->wl.length<=24500->wr.length<=24500->B256 wl->B256 wr->(W,Ob.dct (dW wl wr))∈F->RoomF F k (r + 20) S->Wf f [.lst (g.map GS.d),.obj W,.obj k] S λx S'=>x = .bl true/\RoomF F k r S'
theorem RK {cr:Fn}(hk:∀F,PTakeF F ck)(ht:HR ct)(hr:PF cr):M4 (fnOf 3 9 (Eg ck ct cr)):=by
 intro F g wl wr W k r S hg hl1 hl2 b1 b2 hW p0;have hL:LIM=100000:=rfl;have hWS:=p0.2.all _ hW;refine AR rfl ?_;unfold Eg;symm;refine B0 hWS DN ?_;symm;refine B0 hWS DO ?_;symm;refine (ht g wl wr S hg (by lia) (by lia)).mono λr1 S1 z9=>?_;obtain ⟨hG,hr1⟩:=z9;have p1:=p0.gr hG;have hWS1:=p1.2.all _ hW;have P0:Pl g wl wr 0 0 0:=⟨hg.ne,un0 _,un0 _⟩;generalize hR:walkR g wl wr (wl.length + wr.length + 1) 0 0 0 []=R at hr1;obtain ⟨t,h,a,b,o⟩:=R
 cases o with
 | none=>
   have hr1:r1 = .lst [.tup [.lst t,.int h,.tup [.int a,.int b]],.non]:=hr1;subst hr1;symm;refine B0 hWS1 DN ?_;symm;refine B0 hWS1 DO ?_;symm;refine (hr F g wl wr k r S1 hg (by lia) (by lia) b1 b2 (by rw [hR]) (p1.mono (by lia))).mono λx S2 z9=>?_;obtain ⟨e,p2⟩:=z9;subst e;exact ⟨rfl,p2⟩
 | some z=>
   obtain ⟨at_,side⟩:=z;have hr1:r1 = .lst [.non,.tup [.int at_,.str side]]:=hr1;subst hr1;obtain ⟨hs,hlt,_,hA,hC⟩:=OD hg (wl.length + wr.length + 1) 0 0 0 [] t h a b P0 hR;have hlw:(onS side wl wr).length<=24500:=G2 hl1 hl2;have hlb:B256 (onS side wl wr):=Qo b1 b2;symm;refine Um hWS1 ?_;rw [Fl hs];symm;refine B0 hWS1 (Fl hs) ?_;rw [Qp];symm;rw [B1];refine CU (λz=>absurd (uh0 z) (by lia)) λ_=>?_;symm;refine F6 ?_;have hW2:(S1++[Ob.dct []])[W]?=some (.dct (dW wl wr)):=Gr.app.get hWS1;refine BK ?_;symm;refine B0 hW2 DN ?_;symm;refine BK ?_;symm;refine B0 hW2 DO ?_;symm;refine DF ?_;refine ⟨by simp,by show 2<=15;decide,?_⟩;have p2:RoomF ((S1.length,.dct (dW wl wr)) :: F) k (r + 20) (S1++[.dct (dW wl wr)]):=p1.more;have hne:∀p∈F,p.1≠S1.length:=λp hp=>ul6 (ub1.mp (p1.2.all p hp)).1;show FG _ _ Out.next ⟨_,(S1++[Ob.dct []]).set S1.length (.dct (BO (dW wl wr)))⟩;rw [Fw,Nl];generalize S1++[.dct (dW wl wr)]=S2 at p2 ⊢;generalize S1.length=K at p2 hne ⊢;have hW3:=p2.2.all _ (ud7 _ hW);symm;refine B0 hW3 (Fl hs) ?_;rw [Qp];symm;rw [Ff];refine Db ?_;symm;refine Cy (p2.2.all _ uf1) (by show 2 < 100000;decide) ?_;rw [Ph hs];have p3:=p2.put (o':=.dct (dW (onS side ((onS side wl wr).take at_) wl) (onS side wr ((onS side wl wr).take at_)))) hne;show FG _ _ Out.next ⟨_,S2.set K (.dct (dW (onS side ((onS side wl wr).take at_) wl) (onS side wr ((onS side wl wr).take at_))))⟩;generalize S2.set K (.dct (dW (onS side ((onS side wl wr).take at_) wl) (onS side wr ((onS side wl wr).take at_))))=S3 at p3 ⊢;symm;refine B0 (p3.2.all _ uf1) DN ?_;symm;refine B0 (p3.2.all _ uf1) DO ?_;symm;have hlt3:((onS side wl wr).take at_).length<=24500:=by rw [uh2];lia
   have hnn:(walkR g (onS side ((onS side wl wr).take at_) wl) (onS side wr ((onS side wl wr).take at_)) ((onS side ((onS side wl wr).take at_) wl).length + (onS side wr ((onS side wl wr).take at_)).length + 1) 0 0 0 []).2.2.2.2=none:=by
    rw [II hg _ (wl.length + wr.length + 1 + ((onS side ((onS side wl wr).take at_) wl).length + (onS side wr ((onS side wl wr).take at_)).length + 1)) 0 0 0 [] ⟨hg.ne,un0 _,un0 _⟩ (by lia) (by lia),WU.1,WU.2,hC _ (by lia)]
   refine (hr _ g _ _ k (r + 18) S3 hg (ul7 (G2 hlt3 hl1) (by decide)) (ul7 (G2 hl2 hlt3) (by decide)) (Qo (QJ (y:=0) hlb).1 b1) (Qo b2 (QJ (y:=0) hlb).1) hnn p3).mono λx S4 z9=>?_;obtain ⟨e,p4⟩:=z9;subst e;symm;refine (hk _).use (r:=r + 17) 5 p4 λn S5 n0 n1 p5=>?_;obtain ⟨m,rfl⟩:=uc2 n0;have hm:m<=4:=by lia
   symm;refine Ee (EM hm) ?_;refine (NB (R:=r) (m:=m) (fr:=[some (.val (.obj k))]) (p5.mono (by lia)) ?_).mono ?_
   ·intro R S' d q;symm;refine (hk _).use 256 q λi S5 i0 i1 p5=>?_;obtain ⟨x,rfl⟩:=uc2 i0;exact ⟨x,S5,rfl,by lia,p5,rfl⟩
   rintro xs t' ⟨w2,rfl,bw,hw2,p6⟩;obtain ⟨en,S6⟩:=t';replace p6:RoomF _ k r S6:=p6;refine Cm (by rw [B1,hL];lia) ?_;symm;refine C1 (λq t=>∃(x:List Nat) (S':List Ob) (e8:Option Sl),(∀d∈q,∃m:List Nat,d = .lst (wD m)/\B256 m/\m.length<=4)/\RoomF ((K,.dct (dW (onS side x wl) (onS side wr x))) :: F) k r S'/\t=⟨[some (.val (.lst (g.map GS.d))),some (.val (.obj W)),some (.val (.obj k)),some (.val .non),some (.val (.tup [.int at_,.str side])),some (.val (.int at_)),some (.val (.str side)),some (.val (.obj K)),e8],S'⟩) _ _ ⟨(onS side wl wr).take at_,S6,none,?_,p6,rfl⟩ ?_ ?_
   ·intro d hd;rcases uk6.mp hd with rfl | hd
    ·exact ⟨[],rfl,(λ_ z=>nomatch z),by decide⟩
    ·rw [uf7.mp hd];exact ⟨w2,rfl,bw,by lia⟩
   ·rintro d q t ⟨x,S',e8,hq,p7,rfl⟩ _;obtain ⟨mo,rfl,bm,hmo⟩:=hq d uf1;have hW7:=p7.2.all _ (ud7 _ hW);symm;refine B0 hW7 (Fl hs) ?_;rw [Qp];symm;rw [show ((at_:Int) + 1)=((at_ + 1:Nat):Int) from rfl,Ff];refine Cm (by rw [B1,B1,uh2,hL];lia) ?_;rw [<-DE];refine Db ?_;symm;refine Cy (p7.2.all _ uf1) (by show 2 < 100000;decide) ?_;rw [Ph hs,VD,VF];have p8:=p7.put (o':=.dct (dW (onS side ((onS side wl wr).take (at_ + 1)++mo) wl) (onS side wr ((onS side wl wr).take (at_ + 1)++mo)))) hne;have hl8:((onS side wl wr).take (at_ + 1)++mo).length<=24600:=by rw [uf5,uh2];lia
    have hA8:=hA _ _ (wl.length + wr.length + 1 + ((onS side ((onS side wl wr).take (at_ + 1)++mo) wl).length + (onS side wr ((onS side wl wr).take (at_ + 1)++mo)).length + 1)) (QZ (m:=mo) hlt).1 (QZ (m:=mo) hlt).2 (by lia);rw [II hg _ ((onS side ((onS side wl wr).take (at_ + 1)++mo) wl).length + (onS side wr ((onS side wl wr).take (at_ + 1)++mo)).length + 1) 0 0 0 [] ⟨hg.ne,un0 _,un0 _⟩ (by lia) (by lia)] at hA8;generalize (onS side wl wr).take (at_ + 1)++mo=w8 at p8 hl8 hA8 ⊢;show FG _ _ Out.next ⟨_,S'.set K (.dct (dW (onS side w8 wl) (onS side wr w8)))⟩;generalize S'.set K (.dct (dW (onS side w8 wl) (onS side wr w8)))=S8 at p8 ⊢;symm;refine B0 (p8.2.all _ uf1) DN ?_;symm;refine B0 (p8.2.all _ uf1) DO ?_;symm;refine (ht g (onS side w8 wl) (onS side wr w8) S8 hg (ul7 (G2 hl8 (ul7 hl1 (by decide))) (by decide)) (ul7 (G2 (ul7 hl2 (by decide)) hl8) (by decide))).mono λr9 S9 z9=>?_;obtain ⟨hG9,hr9⟩:=z9;rw [hA8] at hr9;have hr9:r9 = .lst [.non,.tup [.int at_,.str side]]:=hr9;subst hr9;symm;refine L9 rfl (Sv (n:=7) (WQ X3 Ol) 40 (by decide)) ?_;symm;exact ⟨w8,S9,_,λd hd=>hq d (ud7 _ hd),p8.gr hG9,rfl⟩
   ·rintro t ⟨x,S',e8,hq,p7,rfl⟩;symm;exact ⟨rfl,p7.1,λp hp=>p7.2 p (ud7 _ hp)⟩
def Jv (f:Fn):Prop:=∀(ns:List Int) (g:List GS) (S:List Ob),GOk g->Wf f [.scr ns,.lst (g.map GS.d),.int 14,.int 40] S λr _=>∃mv:List Mv,TOk g mv/\r = .lst [.lst (B6 g 0 mv),.lst (EC g 0 mv)]
theorem Sn {cv:Fn}(hv:PValOk cv 3)(ht:PTakeOk ct)(hp:IL cp):Jv (fnOf 4 14 (Ei cv ct cp)):=by
 intro ns g S hg;have hL:LIM=100000:=rfl;refine AR rfl ?_;unfold Ei;right;have hN:(if (40:Int) < (ns.length:Int) then (40:Int) else (ns.length:Int))<=40/\0<=(if (40:Int) < (ns.length:Int) then (40:Int) else (ns.length:Int)):=by split <;> lia
 generalize (if (40:Int) < (ns.length:Int) then (40:Int) else (ns.length:Int))=N at hN ⊢;refine Up (by rw [CY (by lia) (by lia),CY (by lia) (by lia)];rfl) ?_;have hlen:(rngL 14 (N - 14).toNat).length<=49:=by rw [Cn];lia
 have hmem:∀d∈rngL 14 (N - 14).toNat,∃k:Nat,d = .int k/\k<=1000:=λd hd=>by
  rw [G9] at hd;obtain ⟨i,hi,rfl⟩:=um3.mp hd;have:=uk0.mp hi;exact ⟨14 + i,by congr 1,by lia⟩
 generalize rngL 14 (N - 14).toNat=ds at hlen hmem ⊢;refine C1 (λr t=>∃(mv:List Mv) (st:List D) (S':List Ob) (e7 e8 e9 e10 e11 e12 e13:Option Sl),mv.length + r.length<=49/\okQ g 0 mv/\okB g 0 mv/\st=EC g 0 mv/\t=⟨[some (.val (.scr ns)),some (.val (.lst (g.map GS.d))),some (.val (.int 14)),some (.val (.int 40)),some (.own (B6 g 0 mv)),some (.val (.int (lastQ g 0 mv))),some (.own st),e7,e8,e9,e10,e11,e12,e13],S'⟩) _ _ ⟨[],[.int 0],S,none,none,none,none,none,none,none,by rw [uj3];lia,trivial,trivial,rfl,rfl⟩ ?_ ?_
 ·rintro d r t ⟨mv,st,S',e7,e8,e9,e10,e11,e12,e13,hl,hk,hb,hst,rfl⟩ hd;obtain ⟨k,rfl,hk1⟩:=hmem d hd;rw [uh5] at hl;have hlt:=LD hg hg.ne hk;right;refine (hp ns k S' hk1).mono λr1 S1 z9=>?_;obtain ⟨K,e,p1⟩:=z9;subst e;refine DC ?_;right;refine B2 (EW hlt) ?_;right;refine Yq ?_;right;refine CU (λq=>?_) λq=>?_
  ·have hnf:¬(BT g (lastQ g 0 mv)).isFin=true:=by simpa using q
   have hgs:=D8 hg hlt;obtain ⟨side,ws,egs⟩:∃side ws,BT g (lastQ g 0 mv) = .st side ws:=by
    cases e:BT g (lastQ g 0 mv) with
    | fin=>rw [e] at hnf;simp [GS.isFin] at hnf
    | st side ws=>exact ⟨side,ws,rfl⟩
   have hws:(BT g (lastQ g 0 mv)).ws=ws:=by rw [egs];rfl
   have hside:(BT g (lastQ g 0 mv)).side=side:=by rw [egs];rfl
   have hpos:0 < ws.length/\ws.length<=9:=by
    rw [egs] at hgs
    cases hgs with
    | st _ h2 h3 _ _=>exact ⟨h2,h3⟩
   right;refine B2 (EW hlt) ?_;rw [egs,GS.d];right;rw [ui9];refine ht.use (r:=1000) (ws.length:Int) (p1.mono (by decide)) (λi S2 i0 i1 p2=>?_) rfl (by lia) (by lia);obtain ⟨p,rfl⟩:=uc2 i0;have hpl:p < (BT g (lastQ g 0 mv)).ws.length:=by rw [hws];exact Int.ofNat_lt.mp i1
   obtain ⟨side',ws',egs',_,ew⟩:=HF hpl;rw [egs] at egs'
   cases egs'
   have hw:=Jk hg hlt hpl;have hlo:=hw.lo;refine B2 (GC ew) ?_;unfold wdD;right;refine hv.use (r:=0) hw.dep hw.ok (p2.mono (by decide)) λx S3 x1 x2=>?_;right;refine Cm (by rw [DA,hL];lia) ?_;right;refine Cm (by rw [hst,Ju,hL];lia) ?_;refine ⟨mv++[(p,x)],st++[.int (wdAt g (lastQ g 0 mv) p).2.2],S3,_,_,_,_,_,_,_,?_,?_,?_,?_,t14 ?_ ?_ rfl⟩
   ·rw [uf5,ud3];lia
   ·rw [F9];exact ⟨hk,⟨hlt,hpl,x1⟩,trivial⟩
   ·rw [IW];exact ⟨hb,x2,trivial⟩
   ·rw [ID,hst];unfold De
    congr 2
    congr 1
    lia
   ·rw [Ir];show _=_++[Fr g (lastQ g 0 mv) p _];unfold Fr;rw [hside]
   ·rw [E5];show _=D.int (De g (lastQ g 0 mv) p:Nat);unfold De
    congr 1
    lia
  ·right;exact ⟨mv,st,_,_,_,_,_,_,_,_,by lia,hk,hb,hst,rfl⟩
 ·rintro t ⟨mv,st,S',e7,e8,e9,e10,e11,e12,e13,hl,hk,hb,hst,rfl⟩;right;exact ⟨mv,⟨hk,hb,by rw [uj3] at hl;lia⟩,by rw [hst]⟩
theorem W1:GOk [.fin]:=⟨by decide,by decide,λx hx=>by rw [uf7.mp hx];exact .fin⟩
theorem W7 {cs cz cg:Fn}(ht:HR ct)(ha:M4 ca)(hk:∀F,PTakeF F ck)(hp:∀F,Nb F cp)(hs:M6 cs)(hz:M5 cz)(hw:M7 cw)(hl:Jv cl)(hgr:Ll cg){ns:List Int}:Wf (fnOf 1 8 (GJ ct ca ck cp cs cz cw cl cg)) [.scr ns] [] λr _=>r = .bl true:=by
 have hL:LIM=100000:=rfl;refine AR rfl ?_;unfold GJ;left;refine (hgr ns []).mono λr S1 z9=>?_;obtain ⟨g,hg,e⟩:=z9;subst e;left;refine (hl ns g S1 hg).mono λr S2 z9=>?_;obtain ⟨mv,hT,e⟩:=z9;subst e;left;refine (hz g mv S2 hg hT).mono λr S3 z9=>?_;obtain ⟨e3,ps,hps,e⟩:=z9;subst e3 e;left;refine (hw g mv ps S3 hg hT hps).mono λr S4 z9=>?_;obtain ⟨_,K,e,_,l,r',hK,bl,br,hll,hlr⟩:=z9;subst e;left;refine C1 (λq t=>∃(S':List Ob) (e4 e5:Option Sl),FAll [(K,.dct (dW l r'))] S'/\t=⟨[some (.val (.scr ns)),some (.val (.lst (g.map GS.d))),some (.val (.lst (B6 g 0 mv))),some (.val (.obj K)),e4,e5,none,none],S'⟩) _ _ ⟨S4,none,none,(λp hp=>by rw [uf7.mp hp];exact hK),rfl⟩ ?_ ?_
 ·rintro d q t ⟨S',e4,e5,hF,rfl⟩ hd;obtain ⟨k,rfl,hk1⟩:∃k:Nat,d = .int k/\k<=1000:=by
   rw [G9] at hd;obtain ⟨i,hi,rfl⟩:=um3.mp hd;have:=uk0.mp hi;exact ⟨40 + i,by congr 1,by lia⟩
  left;refine (hp _ ns k S' hk1 hF).mono λr1 S5 z9=>?_;obtain ⟨n,e,p5⟩:=z9;subst e;left;refine (hs _ K n 20 S5 l r' uf1 bl br hll hlr (p5.mono (by decide))).mono λr2 S6 z9=>?_;obtain ⟨K2,l2,r2',e,b1,b2,h1,h2,p6⟩:=z9;subst e;left;refine (ha _ g l2 r2' K2 n 0 S6 hg (by lia) (by lia) b1 b2 uf1 p6).mono λr3 S7 z9=>?_;obtain ⟨e,p7⟩:=z9;subst e;left;exact ⟨S7,_,_,λp hp=>p7.2.all p (ud7 _ hp),rfl⟩
 ·rintro t ⟨S',e4,e5,hF,rfl⟩;left;refine C1 (λq t=>∃(S':List Ob) (e4 e5 e6 e7:Option Sl),t=⟨[some (.val (.scr ns)),some (.val (.lst (g.map GS.d))),some (.val (.lst (B6 g 0 mv))),some (.val (.obj K)),e4,e5,e6,e7],S'⟩) _ _ ⟨S',e4,e5,none,none,rfl⟩ ?_ ?_
  ·rintro d q t ⟨S',e4,e5,e6,e7,rfl⟩ hd;obtain ⟨k,rfl,hk1⟩:∃k:Nat,d = .int k/\k<=1000:=by
    rw [G9] at hd;obtain ⟨i,hi,rfl⟩:=um3.mp hd;have:=uk0.mp hi;exact ⟨46 + i,by congr 1,by lia⟩
   left;refine (hp [] ns k S' hk1 (λ_ z=>nomatch z)).mono λr1 S5 z9=>?_;obtain ⟨n,e,p5⟩:=z9;subst e;left;refine (hk _).use (r:=200) 3 (p5.mono (by decide)) λc S6 c0 c1 p6=>?_;obtain ⟨dd,ed,most,rfl,hm0,hm1⟩:=FA (xs:=[D.int 256,D.int 3,D.int 2]) c0 (by simpa using c1) (p:=λd=>∃m:Int,d = .int m/\0 < m/\m<=256) (by
    simp only [ue1];exact ⟨⟨_,rfl,by decide,by decide⟩,⟨_,rfl,by decide,by decide⟩,⟨_,rfl,by decide,by decide⟩,λ_ z=>nomatch z⟩)
   refine B2 ed ?_;left;refine F6 ?_;have p7:=p6.more (o:=.dct []);have hK7:S6.length≠n:=by have:=p6.lt;lia
   generalize S6++[Ob.dct []]=S7 at p7 ⊢;generalize S6.length=K7 at p7 hK7 ⊢;refine BK ?_;left;refine (hk _).use (r:=169) 12 (p7.mono (by decide)) λa1 S1a a10 a11 p1a=>?_;obtain ⟨m1,rfl⟩:=uc2 a10;have hm1:m1<=11:=by lia
   left;refine Ee (EM hm1) ?_;refine (NB (R:=150) (m:=m1) (fr:=[some (.val (.obj n)),some (.val (.int most))]) (p1a.mono (by lia)) ?_).mono ?_
   ·intro R S' d q;left;refine (hk _).use most q (λi S5 i0 i1 p5=>?_) rfl hm0 (by lia);obtain ⟨x,rfl⟩:=uc2 i0;exact ⟨x,S5,rfl,by lia,p5,rfl⟩
   rintro xs t' ⟨wl,rfl,bwl,hwl,p9⟩;obtain ⟨en1,S9⟩:=t';replace p9:RoomF _ n 150 S9:=p9;refine Cm (by rw [B1,hL];lia) ?_;left;refine DF ?_;refine ⟨p9.2.all _ uf1,by show 1<=15;decide,?_⟩;have hmg:BO [(kL,D.lst (wD wl))]=[(kL,.lst (wD wl))]:=by simp [BO,Ch]
   have p10:=p9.put (o':=.dct [(kL,.lst (wD wl))]) (λ_ z=>nomatch z);show FG _ _ Out.next ⟨_,S9.set K7 (.dct (BO [(kL,.lst (wD wl))]))⟩;rw [hmg];generalize S9.set K7 (.dct [(kL,.lst (wD wl))])=S10 at p10 ⊢;left;refine (hk _).use (r:=119) 12 (p10.mono (by decide)) λa2 S2a a20 a21 p2a=>?_;obtain ⟨m2,rfl⟩:=uc2 a20;have hm2:m2<=11:=by lia
   left;refine Ee (EM hm2) ?_;refine (NB (R:=100) (m:=m2) (fr:=[some (.val (.obj n)),some (.val (.int most))]) (p2a.mono (by lia)) ?_).mono ?_
   ·intro R S' d q;left;refine (hk _).use most q (λi S5 i0 i1 p5=>?_) rfl hm0 (by lia);obtain ⟨x,rfl⟩:=uc2 i0;exact ⟨x,S5,rfl,by lia,p5,rfl⟩
   rintro xs t' ⟨wr,rfl,bwr,hwr,p12⟩;obtain ⟨en2,S12⟩:=t';replace p12:RoomF _ n 100 S12:=p12;refine Cm (by rw [B1,hL];lia) ?_;refine Db ?_;left;refine Cy (p12.2.all _ uf1) (by show 1 < 100000;decide) ?_;have hpt:Ch [(kL,D.lst (wD wl))] kRt (.lst (wD wr))=dW wl wr:=by
    unfold Ch;rw [if_neg (by simp only [ul0,um8,uk7,ug9];exact kLR)];rfl
   rw [hpt];have p13:=p12.put (o':=.dct (dW wl wr)) (λ_ z=>nomatch z);show FG _ _ Out.next ⟨_,S12.set K7 (.dct (dW wl wr))⟩;generalize S12.set K7 (.dct (dW wl wr))=S13 at p13 ⊢;left;refine (ha _ g wl wr K7 n 0 S13 hg (by lia) (by lia) bwl bwr uf1 (p13.mono (by decide))).mono λr3 S14 z9=>?_;obtain ⟨e,p14⟩:=z9;subst e;left;refine B0 (p14.2.all _ uf1) DN ?_;left;refine B0 (p14.2.all _ uf1) DO ?_;left;refine (ht [.fin] wl wr S14 W1 (by lia) (by lia)).mono λr4 S15 z9=>?_;obtain ⟨_,hr4⟩:=z9;have hr4:r4 = .lst [.tup [.lst [],.int (0:Nat),.tup [.int (0:Nat),.int (0:Nat)]],.non]:=hr4;subst hr4;left;refine L9 rfl (by decide +kernel) ?_;left;exact ⟨S15,_,_,_,_,rfl⟩
  ·rintro t ⟨S',e4,e5,e6,e7,rfl⟩;left;rfl
end LW
set_option maxHeartbeats 4000000
namespace F2
open PySem L2 PySem.Spec PySem.W
theorem TK {k:Kd}{P:Program}{w:World}{K:PySem.W.Frag}{mg:Str->Option Value}{base:Heap}{n:Nat}{fa:Addr}{fd:FuncData}{ps:List Str}:okK k P w K mg base n fa fd ps (λ_ _=>none):=by
 cases k <;> exact ⟨λvs H Q E h=>(by obtain ⟨c,ds,S,_,_,r,S',e,_⟩:=h;cases e),λA' outer s H args us vs Q E _ _ _ _ h=>(by obtain ⟨c,ds,S,_,_,r,S',e,_⟩:=h;cases e)⟩
theorem us0 {n:Nat}:∀{us:List Value},us.length=n + 1->∃a vs,us=a :: vs/\vs.length=n
 | _ :: _,h=>⟨_,_,rfl,Nat.succ.inj h⟩
variable {us:List Value}
theorem us1 (h:us.length=1):∃a,us=[a]:=by
 obtain ⟨a,vs,rfl,q⟩:=us0 h;exact ⟨a,by rw [ua3 q]⟩
theorem us2 (h:us.length=2):∃a b,us=[a,b]:=by
 obtain ⟨_,vs,rfl,q⟩:=us0 h;obtain ⟨_,rfl⟩:=us1 q;exact ⟨_,_,rfl⟩
theorem us3 (h:us.length=3):∃a b c,us=[a,b,c]:=by
 obtain ⟨_,vs,rfl,q⟩:=us0 h;obtain ⟨_,_,rfl⟩:=us2 q;exact ⟨_,_,_,rfl⟩
theorem us4 (h:us.length=4):∃a b c d,us=[a,b,c,d]:=by
 obtain ⟨_,vs,rfl,q⟩:=us0 h;obtain ⟨_,_,_,rfl⟩:=us3 q;exact ⟨_,_,_,_,rfl⟩
theorem us5 (h:us.length=5):∃a b c d e,us=[a,b,c,d,e]:=by
 obtain ⟨_,vs,rfl,q⟩:=us0 h;obtain ⟨_,_,_,_,rfl⟩:=us4 q;exact ⟨_,_,_,_,_,rfl⟩
theorem us6 (h:us.length=6):∃a b c d e f,us=[a,b,c,d,e,f]:=by
 obtain ⟨_,vs,rfl,q⟩:=us0 h;obtain ⟨_,_,_,_,_,rfl⟩:=us5 q;exact ⟨_,_,_,_,_,_,rfl⟩
theorem us7 (h:us.length=7):∃a b c d e f g,us=[a,b,c,d,e,f,g]:=by
 obtain ⟨_,vs,rfl,q⟩:=us0 h;obtain ⟨_,_,_,_,_,_,rfl⟩:=us6 q;exact ⟨_,_,_,_,_,_,_,rfl⟩
end F2
namespace K30
open PySem L2 F2 LW
set_option hygiene false
set_option compiler.extract_closed false
local macro_rules
 | `(tactic| clear 0)=>`(tactic| exact ⟨rfl,rfl,rfl,by decide +kernel,rfl,by decide +kernel,by decide +kernel⟩)
 | `(tactic| clear 1 $x $a)=>`(tactic| refine @Ap _ _ _ _ _ _ _ _ _ _ _ _ $a hr rfl (M.mgs $x) (Fun.kp (M.fn $x)) (M.bd $x) ?_ (by decide) (by rfl) (by rfl))
 | `(tactic| clear 2 $a $b)=>`(tactic| refine @Aa _ _ _ _ _ $a $b rfl)
 | `(tactic| clear 3 $a $b $c $d)=>`(tactic| refine @Am _ _ _ _ _ _ _ _ $a $b $c $d (λ_ _=>rfl))
 | `(tactic| clear 4 $a $b $c)=>`(tactic| refine @AK _ _ _ _ $a _ _ _ $b rfl $c ?_ (by rfl) (by first | exact .inl rfl | exact .inr rfl | assumption))
 | `(tactic| clear 5)=>`(tactic| refine @Ai _ _ _ _ _ _ ?_ ?_)
 | `(tactic| clear 6 $a $b $c $d)=>`(tactic| refine @Bz _ _ _ _ _ _ _ _ _ _ $a $b rfl $c $d ?_ (by decide) (by decide) (by rfl) (by rfl))
 | `(tactic| clear 7)=>`(tactic| refine @An _ _ _ _ ?_)
 | `(tactic| clear 8 $a $b $c $d)=>`(tactic| refine @AB _ _ _ _ _ _ _ _ _ $a $b $c $d)
 | `(tactic| clear 9 $a)=>`(tactic| refine @AW _ _ _ _ _ _ _ _ _ ?_ ?_ $a)
 | `(tactic| clear 10 $a $b $c $d)=>`(tactic| refine @AS _ _ _ _ _ _ _ _ _ $a $b ?_ $c $d)
 | `(tactic| clear 11 $a)=>`(tactic| refine @CP _ _ _ _ _ _ _ _ _ $a rfl ?_ ?_ ?_ (by intro _;rfl))
 | `(tactic| clear 12 $a $b)=>`(tactic| refine @Fh _ _ _ _ $a _ _ _ $b rfl (.inl rfl) ?_ (by rfl) (by first | exact .inl rfl | exact .inr rfl | assumption))
 | `(tactic| clear 13)=>`(tactic| refine @AI _ _ _ _ ?_)
inductive Fx where
 | Bx | Az | Bm | Bw | Bt | BB | BC | Bi | A8 | Bl | AZ | Bo | Be | BI | Cc | Bf | Av | AT | A6 | Bu | Ay | Bc | AN | Bk | BF | BV | BD | BE | Bj | BH | AY | BW | BU | A7 | A4 | AE | Ae | AC | AD | A5 | Bv | Bn | AL | Bd | AG | Bh | Bg | law_
noncomputable def top (i:Nat):Stmt:=PySem.Challenge.pw_wireparley_k30_whole_any_bytes.main.body.getD i (.Pass ⟨0,0,0,0⟩)
noncomputable abbrev nm:Fx->Str
 | .Bx=>"is_number"
 | .Az=>"is_number_within"
 | .Bm=>"fits"
 | .Bw=>"fits_text"
 | .Bt=>"is_sign"
 | .BB=>"fits_list"
 | .BC=>"fits_pair"
 | .Bi=>"fits_choice"
 | .A8=>"state_behind"
 | .Bl=>"steps_of"
 | .AZ=>"state_next"
 | .Bo=>"place_said"
 | .Be=>"place_named"
 | .BI=>"words_of"
 | .Cc=>"is_end"
 | .Bf=>"value_bytes"
 | .Av=>"fitting_bytes"
 | .AT=>"width_up_to"
 | .A6=>"number_bytes"
 | .Bu=>"leading"
 | .Ay=>"read_value"
 | .Bc=>"byte_at"
 | .AN=>"byte_up_to"
 | .Bk=>"read_number"
 | .BF=>"read_text"
 | .BV=>"sign_at"
 | .BD=>"read_list"
 | .BE=>"read_pair"
 | .Bj=>"read_choice"
 | .BH=>"wires_of"
 | .AY=>"message_bytes"
 | .BW=>"talk_by"
 | .BU=>"read_on"
 | .A7=>"read_message"
 | .A4=>"_law_cell_at"
 | .AE=>"_law_pool"
 | .Ae=>"_law_take"
 | .AC=>"_law_shape"
 | .AD=>"_law_value"
 | .A5=>"_law_grammar"
 | .Bv=>"_law_talk"
 | .Bn=>"_law_sizes"
 | .AL=>"_law_whole_wires"
 | .Bd=>"_law_spoilt"
 | .AG=>"_law_told"
 | .Bh=>"_law_read"
 | .Bg=>"_law_good"
 | .law_=>"law"
abbrev st:Fx->Stmt
 | .Bx=>top 10
 | .Az=>top 11
 | .Bm=>top 12
 | .Bw=>top 13
 | .Bt=>top 14
 | .BB=>top 15
 | .BC=>top 16
 | .Bi=>top 17
 | .A8=>top 19
 | .Bl=>top 20
 | .AZ=>top 21
 | .Bo=>top 22
 | .Be=>top 23
 | .BI=>top 24
 | .Cc=>top 25
 | .Bf=>top 28
 | .Av=>top 29
 | .AT=>top 30
 | .A6=>top 31
 | .Bu=>top 32
 | .Ay=>top 33
 | .Bc=>top 34
 | .AN=>top 35
 | .Bk=>top 36
 | .BF=>top 37
 | .BV=>top 38
 | .BD=>top 39
 | .BE=>top 40
 | .Bj=>top 41
 | .BH=>top 43
 | .AY=>top 44
 | .BW=>top 45
 | .BU=>top 46
 | .A7=>top 47
 | .A4=>top 49
 | .AE=>top 50
 | .Ae=>top 51
 | .AC=>top 52
 | .AD=>top 53
 | .A5=>top 54
 | .Bv=>top 55
 | .Bn=>top 56
 | .AL=>top 57
 | .Bd=>top 58
 | .AG=>top 59
 | .Bh=>top 60
 | .Bg=>top 61
 | .law_=>top 62
noncomputable abbrev ps:Fx->List Str
 | .Bx=>["thing"]
 | .Az=>["thing", "low", "high"]
 | .Bm=>["s", "thing"]
 | .Bw=>["s", "thing"]
 | .Bt=>["number"]
 | .BB=>["s", "thing"]
 | .BC=>["s", "thing"]
 | .Bi=>["s", "thing"]
 | .A8=>["g", "talk"]
 | .Bl=>["g", "talk"]
 | .AZ=>["g", "step"]
 | .Bo=>["state", "thing"]
 | .Be=>["state", "thing"]
 | .BI=>["state"]
 | .Cc=>["state"]
 | .Bf=>["s", "value"]
 | .Av=>["s", "value"]
 | .AT=>["most"]
 | .A6=>["number", "width"]
 | .Bu=>["number", "cut"]
 | .Ay=>["s", "wire", "at"]
 | .Bc=>["wire", "at"]
 | .AN=>["most", "wire", "at"]
 | .Bk=>["s", "wire", "at"]
 | .BF=>["s", "wire", "at"]
 | .BV=>["wire", "at"]
 | .BD=>["s", "wire", "at"]
 | .BE=>["s", "wire", "at"]
 | .Bj=>["s", "wire", "at"]
 | .BH=>["g", "talk"]
 | .AY=>["state", "place", "value"]
 | .BW=>["g", "left", "right"]
 | .BU=>["g", "state", "wires", "places"]
 | .A7=>["state", "wire", "at"]
 | .A4=>["script", "k"]
 | .AE=>["script", "k"]
 | .Ae=>["pool", "many"]
 | .AC=>["pool", "deep"]
 | .AD=>["pool", "s"]
 | .A5=>["script"]
 | .Bv=>["script", "g", "start", "most"]
 | .Bn=>["g", "talk"]
 | .AL=>["talk", "parts"]
 | .Bd=>["wires", "pool"]
 | .AG=>["g", "left", "right"]
 | .Bh=>["g", "left", "right", "pool"]
 | .Bg=>["g", "wires", "pool"]
 | .law_=>["script"]
noncomputable abbrev ns:Fx->List Str
 | .Bx=>["thing"]
 | .Az=>["thing", "low", "high"]
 | .Bm=>["s", "thing", "kind"]
 | .Bw=>["s", "thing", "sign"]
 | .Bt=>["number"]
 | .BB=>["s", "thing", "part"]
 | .BC=>["s", "thing"]
 | .Bi=>["s", "thing"]
 | .A8=>["g", "talk", "steps"]
 | .Bl=>["g", "talk", "state", "steps", "k", "place", "step"]
 | .AZ=>["g", "step"]
 | .Bo=>["state", "thing", "place"]
 | .Be=>["state", "thing", "words", "place"]
 | .BI=>["state"]
 | .Cc=>["state"]
 | .Bf=>["s", "value"]
 | .Av=>["s", "value", "kind", "row", "thing"]
 | .AT=>["most"]
 | .A6=>["number", "width"]
 | .Bu=>["number", "cut"]
 | .Ay=>["s", "wire", "at", "kind"]
 | .Bc=>["wire", "at"]
 | .AN=>["most", "wire", "at", "byte"]
 | .Bk=>["s", "wire", "at", "most", "width", "number", "k"]
 | .BF=>["s", "wire", "at", "length", "place", "text", "k"]
 | .BV=>["wire", "at", "number"]
 | .BD=>["s", "wire", "at", "length", "place", "things", "k", "part"]
 | .BE=>["s", "wire", "at", "first", "second"]
 | .Bj=>["s", "wire", "at", "k", "part"]
 | .BH=>["g", "talk", "wires", "steps", "k", "state"]
 | .AY=>["state", "place", "value"]
 | .BW=>["g", "left", "right", "read"]
 | .BU=>["g", "state", "wires", "places", "talk", "standing", "behind", "side", "read"]
 | .A7=>["state", "wire", "at", "word", "read", "e"]
 | .A4=>["script", "k"]
 | .AE=>["script", "k", "cell"]
 | .Ae=>["pool", "many", "rest"]
 | .AC=>["pool", "deep", "kind", "low"]
 | .AD=>["pool", "s", "kind", "signs", "k"]
 | .A5=>["script", "pool", "many", "g", "h", "side", "words", "k", "name", "then"]
 | .Bv=>["script", "g", "start", "most", "talk", "here", "states", "k", "pool", "side", "words", "name", "shape", "then"]
 | .Bn=>["g", "talk", "found", "here", "side", "name", "value", "words", "k"]
 | .AL=>["talk", "parts", "wires", "k"]
 | .Bd=>["wires", "pool", "found", "turn", "side", "wire", "at", "byte", "way"]
 | .AG=>["g", "left", "right", "told", "fields", "e"]
 | .Bh=>["g", "left", "right", "pool", "told", "fields", "talk", "state", "places", "less", "first", "broken"]
 | .Bg=>["g", "wires", "pool", "told", "fields", "at", "side", "cut", "more"]
 | .law_=>["script", "g", "talk", "wires", "k", "pool", "most", "some"]
def body (Φ:Fx->Fn):Fx->Fn
 | .Bx=>fnOf 1 1 (FM)
 | .Az=>fnOf 3 3 (Dy (Φ .Bx))
 | .Bm=>fnOf 2 3 (KM (Φ .Bi) (Φ .BC) (Φ .BB) (Φ .Bw) (Φ .Az))
 | .Bw=>fnOf 2 3 (FL (Φ .Bt))
 | .Bt=>fnOf 1 1 (GI)
 | .BB=>fnOf 2 3 (FJ (Φ .Bm))
 | .BC=>fnOf 2 2 (FK (Φ .Bm))
 | .Bi=>fnOf 2 2 (EO (Φ .Bm) (Φ .Az))
 | .A8=>fnOf 2 3 (DJ (Φ .AZ) (Φ .Bl))
 | .Bl=>fnOf 2 7 (ER (Φ .AZ) (Φ .Bo))
 | .AZ=>fnOf 2 2 (Fq)
 | .Bo=>fnOf 2 3 (Fo (Φ .Bm) (Φ .Be))
 | .Be=>fnOf 2 4 (EQ (Φ .BI))
 | .BI=>fnOf 1 1 (F1 (Φ .Cc))
 | .Cc=>fnOf 1 1 (Hu)
 | .Bf=>fnOf 2 2 (D0 (Φ .Av) (Φ .Bm))
 | .Av=>fnOf 2 5 (Ek (Φ .Av) (Φ .AT) (Φ .A6))
 | .AT=>fnOf 1 1 (ES)
 | .A6=>fnOf 2 2 (Ez (Φ .Bu))
 | .Bu=>fnOf 2 2 (GK)
 | .Ay=>fnOf 3 4 (Dz (Φ .Bj) (Φ .BE) (Φ .BD) (Φ .BF) (Φ .Bk))
 | .Bc=>fnOf 2 2 (Fm)
 | .AN=>fnOf 3 4 (Ef (Φ .Bc))
 | .Bk=>fnOf 3 7 (Dm (Φ .Bu) (Φ .Bc) (Φ .AT))
 | .BF=>fnOf 3 7 (DR (Φ .BV) (Φ .AN))
 | .BV=>fnOf 2 3 (Fp (Φ .Bt) (Φ .Bc))
 | .BD=>fnOf 3 8 (DP (Φ .Ay) (Φ .AN))
 | .BE=>fnOf 3 5 (DQ (Φ .Ay))
 | .Bj=>fnOf 3 5 (Dl (Φ .Ay) (Φ .AN))
 | .BH=>fnOf 2 6 (ET (Φ .AY) (Φ .Bl))
 | .AY=>fnOf 3 3 (El (Φ .Av))
 | .BW=>fnOf 3 4 (GM (Φ .BU))
 | .BU=>fnOf 4 9 (GL (Φ .A7))
 | .A7=>fnOf 3 6 (EA (Φ .Ay))
 | .A4=>fnOf 2 2 (Dw)
 | .AE=>fnOf 2 3 (C5 (Φ .A4))
 | .Ae=>fnOf 2 3 (C6)
 | .AC=>fnOf 2 4 (DY (Φ .Ae) (Φ .AC))
 | .AD=>fnOf 2 5 (DZ (Φ .AD) (Φ .Ae))
 | .A5=>fnOf 1 10 (Dx (Φ .Ae) (Φ .AC) (Φ .AE))
 | .Bv=>fnOf 4 14 (Ei (Φ .AD) (Φ .Ae) (Φ .AE))
 | .Bn=>fnOf 2 9 (EN (Φ .Bf))
 | .AL=>fnOf 2 4 (Dp)
 | .Bd=>fnOf 2 9 (DI (Φ .Ae))
 | .AG=>fnOf 3 6 (Ej (Φ .BW))
 | .Bh=>fnOf 4 12 (Eh (Φ .AG) (Φ .Ae) (Φ .BH) (Φ .A8))
 | .Bg=>fnOf 3 9 (Eg (Φ .Ae) (Φ .AG) (Φ .Bh))
 | .law_=>fnOf 1 8 (GJ (Φ .AG) (Φ .Bg) (Φ .Ae) (Φ .AE) (Φ .Bd) (Φ .Bn) (Φ .AL) (Φ .Bv) (Φ .A5))
def run:Nat->Fx->Fn
 | 0=>λ_ _ _=>none
 | n + 1=>body (run n)
structure Md (K:PySem.W.Frag)(mg:Str->Option Value)(A:Fx->Addr)(fd:Fx->FuncData):Prop where
 fn:∀x,Fun K (nm x) (nm x) (st x) (A x) (fd x)
 mgs:∀x,mg (nm x)=some (.ref (A x))
 bd:∀x,Binds K (fd x) (ps x) []
 z_bool:mg "bool" = none
 z_dict:mg "dict" = none
 z_int:mg "int" = none
 z_isinstance:mg "isinstance" = none
 z_len:mg "len" = none
 z_list:mg "list" = none
 z_max:mg "max" = none
 z_min:mg "min" = none
 z_ord:mg "ord" = none
 z_range:mg "range" = none
 z_str:mg "str" = none
 z_tuple:mg "tuple" = none
 g_FIRST_SIGN:∃tk,mg "FIRST_SIGN" = some (.int 32 tk)
 g_LAST_SIGN:∃tk,mg "LAST_SIGN" = some (.int 126 tk)
 g_PERCENT_SIGN:∃tk,mg "PERCENT_SIGN" = some (.int 37 tk)
 g_SIGNS:∃tk,mg "SIGNS" = some (.str " !\"#$ &'()*+,-./0123456789:;<=>?@ABCDEFGHIJKLMNOPQRSTUVWXYZ[\\]^_`abcdefghijklmnopqrstuvwxyz{|}~" tk)
 xm:∃(P:Addr) (ca:Str->Addr),XM K mg P ca/\(XF1 K (ca "NoTalk") P "NoTalk.__init__" (Da (top 5) 0)/\XF2 K (ca "Broken") P "Broken.__init__" (Da (top 4) 0))/\∀n∈(["NoValue", "Short"]:List Str),XN0 K (ca n)
noncomputable abbrev kd:Fx->Kd
 | .Bx=>.pl
 | .Az=>.pl
 | .Bm=>.pl
 | .Bw=>.pl
 | .Bt=>.pl
 | .BB=>.pl
 | .BC=>.pl
 | .Bi=>.pl
 | .A8=>.ex
 | .Bl=>.ex
 | .AZ=>.pl
 | .Bo=>.pl
 | .Be=>.pl
 | .BI=>.pl
 | .Cc=>.pl
 | .Bf=>.ex
 | .Av=>.fr
 | .AT=>.pl
 | .A6=>.fr
 | .Bu=>.pl
 | .Ay=>.ex
 | .Bc=>.ex
 | .AN=>.ex
 | .Bk=>.ex
 | .BF=>.ex
 | .BV=>.ex
 | .BD=>.ex
 | .BE=>.ex
 | .Bj=>.ex
 | .BH=>.ex
 | .AY=>.pl
 | .BW=>.er
 | .BU=>.er
 | .A7=>.er
 | .A4=>.pl
 | .AE=>.pl
 | .Ae=>.pl
 | .AC=>.pl
 | .AD=>.pl
 | .A5=>.pl
 | .Bv=>.pl
 | .Bn=>.pl
 | .AL=>.pl
 | .Bd=>.pl
 | .AG=>.pl
 | .Bh=>.pl
 | .Bg=>.pl
 | .law_=>.pl
theorem La:FnScope ["self", "at", "side"] ["self", "at", "side"] (Ao (Da (top 4) 0)):=by clear 0
theorem YW:FnScope ["self", "at"] ["self", "at"] (Ao (Da (top 5) 0)):=by clear 0
section
variable {P:Program}{w:World}{K:PySem.W.Frag}{mg:Str->Option Value}{base:Heap}{A:Fx->Addr}{fd:Fx->FuncData}{n:Nat}
theorem MR:FnScope (ns .Bx) (ps .Bx) (Ao (st .Bx)):=by clear 0
abbrev qIh (P:Program)(w:World)(K:PySem.W.Frag)(mg:Str->Option Value)(base:Heap)(A:Fx->Addr)(fd:Fx->FuncData)(n:Nat):Prop:=∀x,okK (kd x) P w K mg base (n + 2) (A x) (fd x) (ps x) (run n x)
abbrev qOk (P:Program)(w:World)(K:PySem.W.Frag)(mg:Str->Option Value)(base:Heap)(A:Fx->Addr)(fd:Fx->FuncData)(n:Nat)(k:Kd)(x:Fx):Prop:=okK k P w K mg base (n + 2 + 1) (A x) (fd x) (ps x) (run (n + 1) x)
theorem ML (M:Md K mg A fd)(ih:qIh P w K mg base A fd n):qOk P w K mg base A fd n .pl .Bx:=by
 refine BR (g:=fnOf 1 1 (FM)) rfl (BQ rfl rfl (M.fn .Bx) MR (λcdv A' outer s H E hr=>?_));clear 7;clear 13;refine @Ie _ _ _ _ _ _ _ ?_ ?_;clear 6 DG Ea M.z_isinstance Co;clear 2 ?_ ?_;exact (Ab 0);clear 2 ?_ Af;exact (FH rfl M.z_int Q1);refine @Ig _ _ _ _ _ ?_;refine @W0 _ _ _ _ ?_;clear 6 DG Ea M.z_isinstance Co;clear 2 ?_ ?_;exact (Ab 0);clear 2 ?_ Af;exact (FH rfl M.z_bool U0)
theorem HE:FnScope (ns .Az) (ps .Az) (Ao (st .Az)):=by clear 0
theorem HA (M:Md K mg A fd)(ih:qIh P w K mg base A fd n):qOk P w K mg base A fd n .pl .Az:=by
 refine BR (g:=fnOf 3 3 (Dy (run n .Bx))) rfl (BQ rfl rfl (M.fn .Az) HE (λcdv A' outer s H E hr=>?_));clear 7;clear 13;refine @Ie _ _ _ _ _ _ _ ?_ ?_;clear 1 .Bx (ih .Bx);clear 2 ?_ Af;exact (Ab 0);refine @Ig _ _ _ _ _ ?_;refine NI KZ KZ Jb Jb ?_ ?_ ?_;exact (Ab 1);exact (Ab 0);exact (Ab 2)
theorem sc_fits_:FnScope (ns .Bm) (ps .Bm) (Ao (st .Bm)):=by clear 0
theorem TM (M:Md K mg A fd)(ih:qIh P w K mg base A fd n):qOk P w K mg base A fd n .pl .Bm:=by
 refine BR (g:=fnOf 2 3 (KM (run n .Bi) (run n .BC) (run n .BB) (run n .Bw) (run n .Az))) rfl (BQ rfl rfl (M.fn .Bm) sc_fits_ (λcdv A' outer s H E hr=>?_));clear 5;clear 4 2 sc_fits_.nd (.inl rfl);clear 3 Ak Al ?_ Ag;exact (Ab 0);clear 5;clear 9 AH;clear 10 (BL hr.units) (A3 (g:=id)) AF (AM _);exact (Ab 2);clear 7;clear 13;refine @Gm _ _ _ _ _ _ _ _ _ G4 Ha ?_ Cu (AM _);exact (Ab 1);clear 5;clear 9 AH;clear 10 (BL hr.units) (A3 (g:=id)) AF (AM _);exact (Ab 2);clear 7;clear 13;clear 1 .Az (ih .Az);clear 2 ?_ ?_;exact (Ab 1);clear 2 ?_ ?_;clear 3 Ak Al ?_ Ag;exact (Ab 0);clear 2 ?_ Af;clear 3 Ak Al ?_ Ag;exact (Ab 0);clear 5;clear 9 AH;clear 10 (BL hr.units) (A3 (g:=id)) AF (AM _);exact (Ab 2);clear 7;clear 13;clear 1 .Bw (ih .Bw);clear 2 ?_ ?_;exact (Ab 0);clear 2 ?_ Af;exact (Ab 1);clear 5;clear 9 AH;clear 10 (BL hr.units) (A3 (g:=id)) AF (AM _);exact (Ab 2);clear 7;clear 13;clear 1 .BB (ih .BB);clear 2 ?_ ?_;exact (Ab 0);clear 2 ?_ Af;exact (Ab 1);clear 5;clear 9 AH;clear 10 (BL hr.units) (A3 (g:=id)) AF (AM _);exact (Ab 2);clear 7;clear 13;clear 1 .BC (ih .BC);clear 2 ?_ ?_;exact (Ab 0);clear 2 ?_ Af;exact (Ab 1);clear 7;clear 13;clear 1 .Bi (ih .Bi);clear 2 ?_ ?_;exact (Ab 0);clear 2 ?_ Af;exact (Ab 1)
theorem sc_fits_text_:FnScope (ns .Bw) (ps .Bw) (Ao (st .Bw)):=by clear 0
theorem MK (M:Md K mg A fd)(ih:qIh P w K mg base A fd n):qOk P w K mg base A fd n .pl .Bw:=by
 refine BR (g:=fnOf 2 3 (FL (run n .Bt))) rfl (BQ rfl rfl (M.fn .Bw) sc_fits_text_ (λcdv A' outer s H E hr=>?_));clear 5;clear 9 AH;refine @Fi _ _ _ ?_;refine @Fj _ _ _ _ _ _ _ ?_ ?_;refine @CQ _ _ _ _ ?_;refine @CL _ _ _ ?_ (by intro _;rfl);clear 6 DG Ea M.z_isinstance Co;clear 2 ?_ ?_;exact (Ab 1);clear 2 ?_ Af;exact (FH rfl M.z_str Kq);refine @EL _ _ _ _ ?_;clear 10 G3 Gb ?_ (AM _);clear 6 BA BM M.z_len B7;clear 2 ?_ Af;exact (Ab 1);clear 3 Ak Al ?_ Ag;exact (Ab 0);clear 7;exact (AI C3);clear 5;clear 11 PassesOwn.never;refine @Gn _ _ _ _ ?_;exact (Ab 1);exact (AV sc_fits_text_.nd rfl (.inl rfl));clear 7;clear 9 AH;refine @CQ _ _ _ _ ?_;refine @CL _ _ _ ?_ (by intro _;rfl);clear 1 .Bt (ih .Bt);clear 2 ?_ Af;clear 6 Nw Pw M.z_ord Q2;clear 2 ?_ Af;exact (Ab 2);clear 7;exact (AI C3);clear 7;exact (AI C3)
theorem OW:FnScope (ns .Bt) (ps .Bt) (Ao (st .Bt)):=by clear 0
theorem OP (M:Md K mg A fd)(ih:qIh P w K mg base A fd n):qOk P w K mg base A fd n .pl .Bt:=by
 obtain ⟨_,g_FIRST_SIGN⟩:=M.g_FIRST_SIGN;obtain ⟨_,g_LAST_SIGN⟩:=M.g_LAST_SIGN;obtain ⟨_,g_PERCENT_SIGN⟩:=M.g_PERCENT_SIGN;refine BR (g:=fnOf 1 1 (GI)) rfl (BQ rfl rfl (M.fn .Bt) OW (λcdv A' outer s H E hr=>?_));clear 7;clear 13;refine @Ie _ _ _ _ _ _ _ ?_ ?_;refine NI KZ KZ Jb Jb ?_ ?_ ?_;exact (IP rfl g_FIRST_SIGN);exact (Ab 0);exact (IP rfl g_LAST_SIGN);refine @Ig _ _ _ _ _ ?_;refine @Gm _ _ _ _ _ _ _ _ _ (Eu hr.units) (A3 (g:=λb=>!b)) ?_ ?_ (AM _);exact (Ab 0);exact (IP rfl g_PERCENT_SIGN)
theorem sc_fits_list_:FnScope (ns .BB) (ps .BB) (Ao (st .BB)):=by clear 0
theorem MI (M:Md K mg A fd)(ih:qIh P w K mg base A fd n):qOk P w K mg base A fd n .pl .BB:=by
 refine BR (g:=fnOf 2 3 (FJ (run n .Bm))) rfl (BQ rfl rfl (M.fn .BB) sc_fits_list_ (λcdv A' outer s H E hr=>?_));clear 5;clear 9 AH;refine @Fi _ _ _ ?_;refine @Fj _ _ _ _ _ _ _ ?_ ?_;refine @CQ _ _ _ _ ?_;refine @CL _ _ _ ?_ (by intro _;rfl);clear 6 DG Ea M.z_isinstance Co;clear 2 ?_ ?_;exact (Ab 1);clear 2 ?_ Af;exact (FH rfl M.z_list GW);refine @EL _ _ _ _ ?_;clear 10 G3 Gb ?_ (AM _);clear 6 BA BM M.z_len B7;clear 2 ?_ Af;exact (Ab 1);clear 3 Ak Al ?_ Ag;exact (Ab 0);clear 7;exact (AI C3);clear 5;clear 11 PassesOwn.never;refine @Gn _ _ _ _ ?_;exact (Ab 1);exact (AV sc_fits_list_.nd rfl (.inl rfl));clear 7;clear 9 AH;refine @CQ _ _ _ _ ?_;refine @CL _ _ _ ?_ (by intro _;rfl);clear 1 .Bm (ih .Bm);clear 2 ?_ ?_;clear 3 Ak Al ?_ Ag;exact (Ab 0);clear 2 ?_ Af;exact (Ab 2);clear 7;exact (AI C3);clear 7;exact (AI C3)
theorem MQ:FnScope (ns .BC) (ps .BC) (Ao (st .BC)):=by clear 0
theorem MJ (M:Md K mg A fd)(ih:qIh P w K mg base A fd n):qOk P w K mg base A fd n .pl .BC:=by
 refine BR (g:=fnOf 2 2 (FK (run n .Bm))) rfl (BQ rfl rfl (M.fn .BC) MQ (λcdv A' outer s H E hr=>?_));clear 5;clear 9 AH;refine @Fi _ _ _ ?_;refine @Fj _ _ _ _ _ _ _ ?_ ?_;refine @CQ _ _ _ _ ?_;refine @CL _ _ _ ?_ (by intro _;rfl);clear 6 DG Ea M.z_isinstance Co;clear 2 ?_ ?_;exact (Ab 1);clear 2 ?_ Af;exact (FH rfl M.z_tuple Hf);refine @EL _ _ _ _ ?_;clear 10 (Eu hr.units) (A3 (g:=λb=>!b)) Ag (AM _);clear 6 BA BM M.z_len B7;clear 2 ?_ Af;exact (Ab 1);clear 7;exact (AI C3);clear 7;clear 13;refine @Ie _ _ _ _ _ _ _ ?_ ?_;clear 1 .Bm (ih .Bm);clear 2 ?_ ?_;clear 3 Ak Al ?_ Ag;exact (Ab 0);clear 2 ?_ Af;clear 3 Ak Al ?_ Ag;exact (Ab 1);refine @Ig _ _ _ _ _ ?_;clear 1 .Bm (ih .Bm);clear 2 ?_ ?_;clear 3 Ak Al ?_ Ag;exact (Ab 0);clear 2 ?_ Af;clear 3 Ak Al ?_ Ag;exact (Ab 1)
theorem K6:FnScope (ns .Bi) (ps .Bi) (Ao (st .Bi)):=by clear 0
theorem KP (M:Md K mg A fd)(ih:qIh P w K mg base A fd n):qOk P w K mg base A fd n .pl .Bi:=by
 refine BR (g:=fnOf 2 2 (EO (run n .Bm) (run n .Az))) rfl (BQ rfl rfl (M.fn .Bi) K6 (λcdv A' outer s H E hr=>?_));clear 5;clear 9 AH;refine @Fi _ _ _ ?_;refine @Fj _ _ _ _ _ _ _ ?_ ?_;refine @CQ _ _ _ _ ?_;refine @CL _ _ _ ?_ (by intro _;rfl);clear 6 DG Ea M.z_isinstance Co;clear 2 ?_ ?_;exact (Ab 1);clear 2 ?_ Af;exact (FH rfl M.z_tuple Hf);refine @EL _ _ _ _ ?_;clear 10 (Eu hr.units) (A3 (g:=λb=>!b)) Ag (AM _);clear 6 BA BM M.z_len B7;clear 2 ?_ Af;exact (Ab 1);clear 7;exact (AI C3);clear 5;clear 9 AH;refine @Fi _ _ _ ?_;refine @Fj _ _ _ _ _ _ _ ?_ ?_;refine @CQ _ _ _ _ ?_;refine @CL _ _ _ ?_ (by intro _;rfl);clear 6 DG Ea M.z_isinstance Co;clear 2 ?_ ?_;clear 3 Ak Al ?_ Ag;exact (Ab 1);clear 2 ?_ Af;exact (FH rfl M.z_str Kq);refine @EL _ _ _ _ ?_;clear 10 (Eu hr.units) (A3 (g:=λb=>!b)) AF (AM _);clear 3 Ak Al ?_ Ag;exact (Ab 1);clear 7;exact (AI C3);clear 5;clear 9 AH;refine @CQ _ _ _ _ ?_;refine @CL _ _ _ ?_ (by intro _;rfl);clear 1 .Az (ih .Az);clear 2 ?_ ?_;clear 3 Ak Al ?_ Ag;exact (Ab 1);clear 2 Ag ?_;clear 2 ?_ Af;clear 8 CM Cs ?_ Ag;clear 6 BA BM M.z_len B7;clear 2 ?_ Af;clear 3 Ak Al ?_ Ag;exact (Ab 0);clear 7;exact (AI C3);clear 7;clear 13;clear 1 .Bm (ih .Bm);clear 2 ?_ ?_;clear 3 Ak Al ?_ ?_;clear 3 Ak Al ?_ Ag;exact (Ab 0);clear 3 Ak Al ?_ Ag;exact (Ab 1);clear 2 ?_ Af;clear 3 Ak Al ?_ Ag;exact (Ab 1)
theorem sc_state_behind_:FnScope (ns .A8) (ps .A8) (Ao (st .A8)):=by clear 0
theorem JU (M:Md K mg A fd)(ih:qIh P w K mg base A fd n):qOk P w K mg base A fd n .ex .A8:=by
 refine CN (g:=fnOf 2 3 (DJ (run n .AZ) (run n .Bl))) rfl (C4 rfl rfl (M.fn .A8) sc_state_behind_ (λcdv A' outer s H E hr hp hq ho=>?_));clear 5;refine Cr ?_;refine CG (i:=2) sc_state_behind_.nd rfl (.inl rfl) ?_;refine Cb (ih .Bl) hr rfl (M.mgs .Bl) (Fun.kp (M.fn .Bl)) (M.bd .Bl) hp ?_;clear 2 ?_ ?_;exact (Ab 0);clear 2 ?_ Af;exact (Ab 1);clear 5;clear 9 AH;clear 10 (BL hr.units) (A3 (g:=id)) Ag (AM _);clear 6 BA BM M.z_len B7;clear 2 ?_ Af;exact (Ab 2);clear 7;exact (Cq Ag);clear 7;refine Cq ?_;clear 1 .AZ (ih .AZ);clear 2 ?_ ?_;exact (Ab 0);clear 2 ?_ Af;clear 3 Ak Al ?_ ?_;exact (Ab 2);exact (YC Yk Wd Ag)
theorem sc_steps_of_:FnScope (ns .Bl) (ps .Bl) (Ao (st .Bl)):=by clear 0
theorem N3 (M:Md K mg A fd)(ih:qIh P w K mg base A fd n):qOk P w K mg base A fd n .ex .Bl:=by
 obtain ⟨P',ca,x,xt,x0⟩:=M.xm;have xn:XN1 P w K mg base (ca "NoTalk") P':=Tt rfl YW rfl rfl xt.1;refine CN (g:=fnOf 2 7 (ER (run n .AZ) (run n .Bo))) rfl (C4 rfl rfl (M.fn .Bl) sc_steps_of_ (λcdv A' outer s H E hr hp hq ho=>?_));clear 5;exact (AK (i:=2) sc_steps_of_.nd rfl (.inl rfl) Ag);clear 5;clear 12 3 sc_steps_of_.nd;exact (Bq Af);clear 5;clear 11 ho;refine BZ rfl M.z_range ?_;clear 2 ?_ Af;clear 6 BA BM M.z_len B7;clear 2 ?_ Af;exact (Ab 1);exact (AV sc_steps_of_.nd rfl (.inl rfl));clear 5;clear 4 5 sc_steps_of_.nd (.inl rfl);clear 1 .Bo (ih .Bo);clear 2 ?_ ?_;clear 3 Ak Al ?_ ?_;exact (Ab 0);exact (Ab 2);clear 2 ?_ Af;clear 3 Ak Al ?_ ?_;exact (Ab 1);exact (Ab 4);clear 5;clear 9 AH;clear 10 G4 Ha Cu (AM _);exact (Ab 5);clear 7;refine Cr ?_;refine Rn x xn (hr.mono (by lia)) rfl hq rfl ?_;clear 2 ?_ Af;exact (Ab 4);clear 5;clear 4 6 sc_steps_of_.nd (.inl rfl);refine @BG _ _ _ _ _ ?_;clear 2 ?_ ?_;exact (Ab 2);clear 2 ?_ Af;exact (Ab 5);clear 5;refine Dd 3 ?_;clear 2 ?_ Af;exact (Ab 6);clear 7;clear 4 2 sc_steps_of_.nd (.inl rfl);clear 1 .AZ (ih .AZ);clear 2 ?_ ?_;exact (Ab 0);clear 2 ?_ Af;exact (Ab 6);clear 7;refine Cq ?_;exact (Ab 3)
theorem L4:FnScope (ns .AZ) (ps .AZ) (Ao (st .AZ)):=by clear 0
theorem LM (M:Md K mg A fd)(ih:qIh P w K mg base A fd n):qOk P w K mg base A fd n .pl .AZ:=by
 refine BR (g:=fnOf 2 2 (Fq)) rfl (BQ rfl rfl (M.fn .AZ) L4 (λcdv A' outer s H E hr=>?_));clear 7;clear 13;clear 3 Ak Al ?_ Ag;clear 3 Ak Al ?_ ?_;clear 3 Ak Al ?_ Ag;clear 3 Ak Al ?_ ?_;exact (Ab 0);clear 3 Ak Al ?_ Ag;exact (Ab 1);clear 3 Ak Al ?_ Ag;exact (Ab 1)
theorem sc_place_said_:FnScope (ns .Bo) (ps .Bo) (Ao (st .Bo)):=by clear 0
theorem LK (M:Md K mg A fd)(ih:qIh P w K mg base A fd n):qOk P w K mg base A fd n .pl .Bo:=by
 refine BR (g:=fnOf 2 3 (Fo (run n .Bm) (run n .Be))) rfl (BQ rfl rfl (M.fn .Bo) sc_place_said_ (λcdv A' outer s H E hr=>?_));clear 5;clear 9 AH;refine @Fi _ _ _ ?_;refine @Fj _ _ _ _ _ _ _ ?_ ?_;refine @CQ _ _ _ _ ?_;refine @CL _ _ _ ?_ (by intro _;rfl);clear 6 DG Ea M.z_isinstance Co;clear 2 ?_ ?_;exact (Ab 1);clear 2 ?_ Af;exact (FH rfl M.z_tuple Hf);refine @EL _ _ _ _ ?_;clear 10 (Eu hr.units) (A3 (g:=λb=>!b)) Ag (AM _);clear 6 BA BM M.z_len B7;clear 2 ?_ Af;exact (Ab 1);clear 7;exact (AI Cu);clear 5;clear 9 AH;refine @Fi _ _ _ ?_;refine @Fj _ _ _ _ _ _ _ ?_ ?_;refine @CQ _ _ _ _ ?_;refine @CL _ _ _ ?_ (by intro _;rfl);clear 6 DG Ea M.z_isinstance Co;clear 2 ?_ ?_;clear 3 Ak Al ?_ Ag;exact (Ab 1);clear 2 ?_ Af;exact (FH rfl M.z_str Kq);refine @EL _ _ _ _ ?_;clear 10 (Eu hr.units) (A3 (g:=λb=>!b)) ?_ (AM _);clear 3 Ak Al ?_ Ag;exact (Ab 1);clear 3 Ak Al ?_ Ag;exact (Ab 0);clear 7;exact (AI Cu);clear 5;clear 4 2 sc_place_said_.nd (.inl rfl);clear 1 .Be (ih .Be);clear 2 ?_ ?_;exact (Ab 0);clear 2 ?_ Af;clear 3 Ak Al ?_ Ag;exact (Ab 1);clear 5;clear 9 AH;refine @Fi _ _ _ ?_;refine @Fj _ _ _ _ _ _ _ ?_ ?_;clear 10 G4 Ha Cu (AM _);exact (Ab 2);refine @EL _ _ _ _ ?_;refine @CQ _ _ _ _ ?_;refine @CL _ _ _ ?_ (by intro _;rfl);clear 1 .Bm (ih .Bm);clear 2 ?_ ?_;clear 3 Ak Al ?_ Ag;clear 3 Ak Al ?_ ?_;clear 3 Ak Al ?_ Ag;exact (Ab 0);exact (Ab 2);clear 2 ?_ Af;clear 3 Ak Al ?_ Ag;exact (Ab 1);clear 7;exact (AI Cu);clear 7;clear 13;exact (Ab 2)
theorem sc_place_named_:FnScope (ns .Be) (ps .Be) (Ao (st .Be)):=by clear 0
theorem KQ (M:Md K mg A fd)(ih:qIh P w K mg base A fd n):qOk P w K mg base A fd n .pl .Be:=by
 refine BR (g:=fnOf 2 4 (EQ (run n .BI))) rfl (BQ rfl rfl (M.fn .Be) sc_place_named_ (λcdv A' outer s H E hr=>?_));clear 5;clear 9 AH;refine @CQ _ _ _ _ ?_;refine @CL _ _ _ ?_ (by intro _;rfl);clear 6 DG Ea M.z_isinstance Co;clear 2 ?_ ?_;exact (Ab 1);clear 2 ?_ Af;exact (FH rfl M.z_str Kq);clear 7;exact (AI Cu);clear 5;clear 4 2 sc_place_named_.nd (.inl rfl);clear 1 .BI (ih .BI);clear 2 ?_ Af;exact (Ab 0);clear 5;clear 11 PassesOwn.never;refine BZ rfl M.z_range ?_;clear 2 ?_ Af;clear 6 BA BM M.z_len B7;clear 2 ?_ Af;exact (Ab 2);exact (AV sc_place_named_.nd rfl (.inl rfl));clear 7;clear 9 AH;clear 10 (BL hr.units) (A3 (g:=id)) ?_ (AM _);clear 3 Ak Al ?_ Ag;clear 3 Ak Al ?_ ?_;exact (Ab 2);exact (Ab 3);exact (Ab 1);clear 7;clear 13;exact (Ab 3);clear 7;exact (AI Cu)
theorem Om:FnScope (ns .BI) (ps .BI) (Ao (st .BI)):=by clear 0
theorem N5 (M:Md K mg A fd)(ih:qIh P w K mg base A fd n):qOk P w K mg base A fd n .pl .BI:=by
 refine BR (g:=fnOf 1 1 (F1 (run n .Cc))) rfl (BQ rfl rfl (M.fn .BI) Om (λcdv A' outer s H E hr=>?_));clear 7;clear 13;refine Tk ?_ ?_ ?_;refine @CL _ _ _ ?_ (by intro _;rfl);clear 1 .Cc (ih .Cc);clear 2 ?_ Af;exact (Ab 0);exact (BG Af);clear 3 Ak Al ?_ Ag;exact (Ab 0)
theorem QD:FnScope (ns .Cc) (ps .Cc) (Ao (st .Cc)):=by clear 0
theorem Qn (M:Md K mg A fd)(ih:qIh P w K mg base A fd n):qOk P w K mg base A fd n .pl .Cc:=by
 refine BR (g:=fnOf 1 1 (Hu)) rfl (BQ rfl rfl (M.fn .Cc) QD (λcdv A' outer s H E hr=>?_));clear 7;clear 13;refine @Gm _ _ _ _ _ _ _ _ _ (BL hr.units) (A3 (g:=id)) ?_ AF (AM _);clear 3 Ak Al ?_ Ag;exact (Ab 0)
theorem K8:FnScope (ns .Bf) (ps .Bf) (Ao (st .Bf)):=by clear 0
theorem KU (M:Md K mg A fd)(ih:qIh P w K mg base A fd n):qOk P w K mg base A fd n .ex .Bf:=by
 obtain ⟨P',ca,x,xt,x0⟩:=M.xm;refine CN (g:=fnOf 2 2 (D0 (run n .Av) (run n .Bm))) rfl (C4 rfl rfl (M.fn .Bf) K8 (λcdv A' outer s H E hr hp hq ho=>?_));clear 5;clear 9 AH;refine @CQ _ _ _ _ ?_;refine @CL _ _ _ ?_ (by intro _;rfl);clear 1 .Bm (ih .Bm);clear 2 ?_ ?_;exact (Ab 0);clear 2 ?_ Af;exact (Ab 1);clear 7;refine Cr ?_;refine Ml (n:="NoValue") x (by decide) rfl (x0 "NoValue" (by decide)) rfl hq rfl ?_;clear 2 AF Af;clear 7;refine Cq ?_;refine E1 (ih .Av) hr rfl (M.mgs .Av) (Fun.kp (M.fn .Av)) (M.bd .Av) ?_;clear 2 ?_ ?_;exact (Ab 0);clear 2 ?_ Af;exact (Ab 1)
theorem sc_fitting_bytes_:FnScope (ns .Av) (ps .Av) (Ao (st .Av)):=by clear 0
theorem Jn (M:Md K mg A fd)(ih:qIh P w K mg base A fd n):qOk P w K mg base A fd n .fr .Av:=by
 refine Pt (g:=fnOf 2 5 (Ek (run n .Av) (run n .AT) (run n .A6))) rfl (Pe rfl rfl (M.fn .Av) sc_fitting_bytes_ (λcdv A' outer s H E hr=>?_));clear 5;clear 4 2 sc_fitting_bytes_.nd (.inl rfl);clear 3 Ak Al ?_ Ag;exact (Ab 0);clear 5;clear 9 AH;clear 10 (BL hr.units) (A3 (g:=id)) AF (AM _);exact (Ab 2);clear 7;refine F8 ?_;exact (Bq Af);clear 5;clear 9 AH;clear 10 (BL hr.units) (A3 (g:=id)) AF (AM _);exact (Ab 2);clear 7;refine F8 ?_;refine NJ (ih .A6) hr rfl (M.mgs .A6) (Fun.kp (M.fn .A6)) (M.bd .A6) ?_;clear 2 ?_ ?_;clear 8 CM Cs ?_ ?_;exact (Ab 1);clear 3 Ak Al ?_ Ag;exact (Ab 0);clear 2 ?_ Af;clear 1 .AT (ih .AT);clear 2 ?_ Af;clear 8 CM Cs ?_ ?_;clear 3 Ak Al ?_ Ag;exact (Ab 0);clear 3 Ak Al ?_ Ag;exact (Ab 0);clear 5;clear 9 AH;clear 10 (BL hr.units) (A3 (g:=id)) AF (AM _);exact (Ab 2);clear 7;refine F8 ?_;refine @Qa _ _ _ _ _ _ _ _ _ op_cat Kb ?_ ?_;refine @A1 _ _ _ ?_;refine @Bq _ _ _ _ ?_;clear 2 ?_ Af;clear 6 BA BM M.z_len B7;clear 2 ?_ Af;exact (Ab 1);refine @A1 _ _ _ ?_;refine D6 (EI ["sign"] [] rfl rfl rfl rfl rfl) rfl ?_ ?_ ?_ ?_;refine @Gn _ _ _ _ ?_;exact (Ab 1);intro _ _ _ _ _;exact (AV (by show List.Nodup [("sign" : Str)] ;decide +kernel) rfl (.inl rfl));intro _ _ _ _ _;exact D7;intro _ _ _ _ _;clear 6 Nw Pw M.z_ord Q2;clear 2 ?_ Af;exact (Ab 0);clear 5;clear 9 AH;clear 10 (BL hr.units) (A3 (g:=id)) AF (AM _);exact (Ab 2);clear 5;clear 12 3 sc_fitting_bytes_.nd;refine @Bq _ _ _ _ ?_;clear 2 ?_ Af;clear 6 BA BM M.z_len B7;clear 2 ?_ Af;exact (Ab 1);clear 5;clear 11 PassesOwn.never;refine @Gn _ _ _ _ ?_;exact (Ab 1);exact (AV sc_fitting_bytes_.nd rfl (.inl rfl));clear 7;refine Qd 3 ?_;clear 2 ?_ Af;refine E1 (ih .Av) hr rfl (M.mgs .Av) (Fun.kp (M.fn .Av)) (M.bd .Av) ?_;clear 2 ?_ ?_;clear 3 Ak Al ?_ Ag;exact (Ab 0);clear 2 ?_ Af;exact (Ab 4);clear 7;exact (Ro 3);clear 5;clear 9 AH;clear 10 (BL hr.units) (A3 (g:=id)) AF (AM _);exact (Ab 2);clear 7;refine F8 ?_;refine @Qa _ _ _ _ _ _ _ _ _ op_cat Kb ?_ ?_;refine E1 (ih .Av) hr rfl (M.mgs .Av) (Fun.kp (M.fn .Av)) (M.bd .Av) ?_;clear 2 ?_ ?_;clear 3 Ak Al ?_ Ag;exact (Ab 0);clear 2 ?_ Af;clear 3 Ak Al ?_ Ag;exact (Ab 1);refine E1 (ih .Av) hr rfl (M.mgs .Av) (Fun.kp (M.fn .Av)) (M.bd .Av) ?_;clear 2 ?_ ?_;clear 3 Ak Al ?_ Ag;exact (Ab 0);clear 2 ?_ Af;clear 3 Ak Al ?_ Ag;exact (Ab 1);clear 7;refine F8 ?_;refine @Qa _ _ _ _ _ _ _ _ _ op_cat Kb ?_ ?_;refine @A1 _ _ _ ?_;refine @Bq _ _ _ _ ?_;clear 2 ?_ Af;clear 3 Ak Al ?_ Ag;exact (Ab 1);refine E1 (ih .Av) hr rfl (M.mgs .Av) (Fun.kp (M.fn .Av)) (M.bd .Av) ?_;clear 2 ?_ ?_;clear 3 Ak Al ?_ ?_;clear 3 Ak Al ?_ Ag;exact (Ab 0);clear 3 Ak Al ?_ Ag;exact (Ab 1);clear 2 ?_ Af;clear 3 Ak Al ?_ Ag;exact (Ab 1)
theorem K9:FnScope (ns .AT) (ps .AT) (Ao (st .AT)):=by clear 0
theorem KW (M:Md K mg A fd)(ih:qIh P w K mg base A fd n):qOk P w K mg base A fd n .pl .AT:=by
 refine BR (g:=fnOf 1 1 (ES)) rfl (BQ rfl rfl (M.fn .AT) K9 (λcdv A' outer s H E hr=>?_));clear 7;clear 13;clear 8 LN Kc ?_ Ag;clear 8 AU AO ?_ Ag;refine Rc ?_;exact (Ab 0)
theorem Ka:FnScope (ns .A6) (ps .A6) (Ao (st .A6)):=by clear 0
theorem JS (M:Md K mg A fd)(ih:qIh P w K mg base A fd n):qOk P w K mg base A fd n .fr .A6:=by
 refine Pt (g:=fnOf 2 2 (Ez (run n .Bu))) rfl (Pe rfl rfl (M.fn .A6) Ka (λcdv A' outer s H E hr=>?_));clear 7;refine F8 ?_;refine D6 (EI ["k"] [(0 , "number") ,(1 , "width")] rfl rfl rfl rfl rfl) rfl ?_ ?_ ?_ ?_;refine FZ rfl M.z_range ?_;clear 2 Ag ?_;clear 2 ?_ Af;clear 8 AU AO ?_ Ag;exact (Ab 1);intro _ _ _ _ _;exact (AV (by show List.Nodup [("k" : Str) ,("number" : Str) ,("width" : Str)] ;decide +kernel) rfl (.inl rfl));intro _ _ _ _ _;exact D7;intro _ _ _ _ _;clear 8 Gw FE ?_ Ag;clear 1 .Bu (ih .Bu);clear 2 ?_ ?_;exact (Ab 1);clear 2 ?_ Af;clear 8 CM Cs ?_ ?_;exact (Ab 2);exact (Ab 0)
theorem OX:FnScope (ns .Bu) (ps .Bu) (Ao (st .Bu)):=by clear 0
theorem OQ (M:Md K mg A fd)(ih:qIh P w K mg base A fd n):qOk P w K mg base A fd n .pl .Bu:=by
 refine BR (g:=fnOf 2 2 (GK)) rfl (BQ rfl rfl (M.fn .Bu) OX (λcdv A' outer s H E hr=>?_));clear 7;clear 13;clear 8 Xp We ?_ ?_;exact (Ab 0);clear 8 Ga FF Ag ?_;exact (Ab 1)
theorem sc_read_value_:FnScope (ns .Ay) (ps .Ay) (Ao (st .Ay)):=by clear 0
theorem LL (M:Md K mg A fd)(ih:qIh P w K mg base A fd n):qOk P w K mg base A fd n .ex .Ay:=by
 refine CN (g:=fnOf 3 4 (Dz (run n .Bj) (run n .BE) (run n .BD) (run n .BF) (run n .Bk))) rfl (C4 rfl rfl (M.fn .Ay) sc_read_value_ (λcdv A' outer s H E hr hp hq ho=>?_));clear 5;clear 4 3 sc_read_value_.nd (.inl rfl);clear 3 Ak Al ?_ Ag;exact (Ab 0);clear 5;clear 9 AH;clear 10 (BL hr.units) (A3 (g:=id)) AF (AM _);exact (Ab 3);clear 7;refine Cq ?_;refine @BG _ _ _ _ _ ?_;clear 2 Cu ?_;clear 2 ?_ Af;exact (Ab 2);clear 5;clear 9 AH;clear 10 (BL hr.units) (A3 (g:=id)) AF (AM _);exact (Ab 3);clear 7;refine Cr ?_;refine GY ?_;refine Cb (ih .Bk) hr rfl (M.mgs .Bk) (Fun.kp (M.fn .Bk)) (M.bd .Bk) hp ?_;clear 2 ?_ ?_;exact (Ab 0);clear 2 ?_ ?_;exact (Ab 1);clear 2 ?_ Af;exact (Ab 2);clear 5;clear 9 AH;clear 10 (BL hr.units) (A3 (g:=id)) AF (AM _);exact (Ab 3);clear 7;refine Cr ?_;refine GY ?_;refine Cb (ih .BF) hr rfl (M.mgs .BF) (Fun.kp (M.fn .BF)) (M.bd .BF) hp ?_;clear 2 ?_ ?_;exact (Ab 0);clear 2 ?_ ?_;exact (Ab 1);clear 2 ?_ Af;exact (Ab 2);clear 5;clear 9 AH;clear 10 (BL hr.units) (A3 (g:=id)) AF (AM _);exact (Ab 3);clear 7;refine Cr ?_;refine GY ?_;refine Cb (ih .BD) hr rfl (M.mgs .BD) (Fun.kp (M.fn .BD)) (M.bd .BD) hp ?_;clear 2 ?_ ?_;exact (Ab 0);clear 2 ?_ ?_;exact (Ab 1);clear 2 ?_ Af;exact (Ab 2);clear 5;clear 9 AH;clear 10 (BL hr.units) (A3 (g:=id)) AF (AM _);exact (Ab 3);clear 7;refine Cr ?_;refine GY ?_;refine Cb (ih .BE) hr rfl (M.mgs .BE) (Fun.kp (M.fn .BE)) (M.bd .BE) hp ?_;clear 2 ?_ ?_;exact (Ab 0);clear 2 ?_ ?_;exact (Ab 1);clear 2 ?_ Af;exact (Ab 2);clear 7;refine Cr ?_;refine GY ?_;refine Cb (ih .Bj) hr rfl (M.mgs .Bj) (Fun.kp (M.fn .Bj)) (M.bd .Bj) hp ?_;clear 2 ?_ ?_;exact (Ab 0);clear 2 ?_ ?_;exact (Ab 1);clear 2 ?_ Af;exact (Ab 2)
theorem OV:FnScope (ns .Bc) (ps .Bc) (Ao (st .Bc)):=by clear 0
theorem OO (M:Md K mg A fd)(ih:qIh P w K mg base A fd n):qOk P w K mg base A fd n .ex .Bc:=by
 obtain ⟨P',ca,x,xt,x0⟩:=M.xm;refine CN (g:=fnOf 2 2 (Fm)) rfl (C4 rfl rfl (M.fn .Bc) OV (λcdv A' outer s H E hr hp hq ho=>?_));clear 5;clear 9 AH;clear 10 KY Ja ?_ (AM _);exact (Ab 1);clear 6 BA BM M.z_len B7;clear 2 ?_ Af;exact (Ab 0);clear 7;refine Cr ?_;refine Ml (n:="Short") x (by decide) rfl (x0 "Short" (by decide)) rfl hq rfl ?_;clear 2 AF Af;clear 7;refine Cq ?_;clear 3 Ak Al ?_ ?_;exact (Ab 0);exact (Ab 1)
theorem sc_byte_up_to_:FnScope (ns .AN) (ps .AN) (Ao (st .AN)):=by clear 0
theorem LG (M:Md K mg A fd)(ih:qIh P w K mg base A fd n):qOk P w K mg base A fd n .ex .AN:=by
 obtain ⟨P',ca,x,xt,x0⟩:=M.xm;have xb:XN2 P w K mg base (ca "Broken") P':=Hq rfl La rfl rfl rfl xt.2;refine CN (g:=fnOf 3 4 (Ef (run n .Bc))) rfl (C4 rfl rfl (M.fn .AN) sc_byte_up_to_ (λcdv A' outer s H E hr hp hq ho=>?_));clear 5;refine Cr ?_;refine CG (i:=3) sc_byte_up_to_.nd rfl (.inl rfl) ?_;refine Cb (ih .Bc) hr rfl (M.mgs .Bc) (Fun.kp (M.fn .Bc)) (M.bd .Bc) hp ?_;clear 2 ?_ ?_;exact (Ab 1);clear 2 ?_ Af;exact (Ab 2);clear 5;clear 9 AH;clear 10 G3 Gb ?_ (AM _);exact (Ab 3);exact (Ab 0);clear 7;refine Cr ?_;refine GH x xb (hr.mono (by lia)) rfl hq rfl ?_;clear 2 ?_ ?_;exact (Ab 2);clear 2 Cu Af;clear 7;refine Cq ?_;exact (Ab 3)
theorem sc_read_number_:FnScope (ns .Bk) (ps .Bk) (Ao (st .Bk)):=by clear 0
theorem KS (M:Md K mg A fd)(ih:qIh P w K mg base A fd n):qOk P w K mg base A fd n .ex .Bk:=by
 obtain ⟨P',ca,x,xt,x0⟩:=M.xm;have xb:XN2 P w K mg base (ca "Broken") P':=Hq rfl La rfl rfl rfl xt.2;refine CN (g:=fnOf 3 7 (Dm (run n .Bu) (run n .Bc) (run n .AT))) rfl (C4 rfl rfl (M.fn .Bk) sc_read_number_ (λcdv A' outer s H E hr hp hq ho=>?_));clear 5;clear 4 3 sc_read_number_.nd (.inl rfl);clear 8 CM Cs ?_ ?_;clear 3 Ak Al ?_ Ag;exact (Ab 0);clear 3 Ak Al ?_ Ag;exact (Ab 0);clear 5;clear 4 4 sc_read_number_.nd (.inl rfl);clear 1 .AT (ih .AT);clear 2 ?_ Af;exact (Ab 3);clear 5;exact (AK (i:=5) sc_read_number_.nd rfl (.inl rfl) Ag);clear 5;clear 11 ho;refine BZ rfl M.z_range ?_;clear 2 ?_ Af;exact (Ab 4);exact (AV sc_read_number_.nd rfl (.inl rfl));clear 5;refine Cr ?_;refine CG (i:=5) sc_read_number_.nd rfl (.inl rfl) ?_;refine UB AU AO ?_ ?_;clear 8 Ga FF ?_ Ag;exact (Ab 5);refine Cb (ih .Bc) hr rfl (M.mgs .Bc) (Fun.kp (M.fn .Bc)) (M.bd .Bc) hp ?_;clear 2 ?_ ?_;exact (Ab 1);clear 2 ?_ Af;clear 8 AU AO ?_ ?_;exact (Ab 2);exact (Ab 6);clear 7;clear 9 AH;clear 10 G3 Gb ?_ (AM _);exact (Ab 5);clear 1 .Bu (ih .Bu);clear 2 ?_ ?_;exact (Ab 3);clear 2 ?_ Af;clear 8 CM Cs ?_ ?_;clear 8 CM Cs ?_ Ag;exact (Ab 4);exact (Ab 6);clear 7;refine Cr ?_;refine GH x xb (hr.mono (by lia)) rfl hq rfl ?_;clear 2 ?_ ?_;clear 8 AU AO ?_ ?_;exact (Ab 2);exact (Ab 6);clear 2 Cu Af;clear 7;refine Cq ?_;refine @BG _ _ _ _ _ ?_;clear 2 ?_ ?_;clear 8 AU AO ?_ ?_;clear 3 Ak Al ?_ Ag;exact (Ab 0);exact (Ab 5);clear 2 ?_ Af;clear 8 AU AO ?_ ?_;exact (Ab 2);exact (Ab 4)
theorem sc_read_text_:FnScope (ns .BF) (ps .BF) (Ao (st .BF)):=by clear 0
theorem MO (M:Md K mg A fd)(ih:qIh P w K mg base A fd n):qOk P w K mg base A fd n .ex .BF:=by
 refine CN (g:=fnOf 3 7 (DR (run n .BV) (run n .AN))) rfl (C4 rfl rfl (M.fn .BF) sc_read_text_ (λcdv A' outer s H E hr hp hq ho=>?_));clear 5;refine Cr ?_;refine CG (i:=3) sc_read_text_.nd rfl (.inl rfl) ?_;refine Cb (ih .AN) hr rfl (M.mgs .AN) (Fun.kp (M.fn .AN)) (M.bd .AN) hp ?_;clear 2 ?_ ?_;clear 3 Ak Al ?_ Ag;exact (Ab 0);clear 2 ?_ ?_;exact (Ab 1);clear 2 ?_ Af;exact (Ab 2);clear 5;clear 4 4 sc_read_text_.nd (.inl rfl);clear 8 AU AO ?_ Ag;exact (Ab 2);clear 5;exact (AK (i:=5) sc_read_text_.nd rfl (.inl rfl) AF);clear 5;clear 11 ho;refine BZ rfl M.z_range ?_;clear 2 ?_ Af;exact (Ab 3);exact (AV sc_read_text_.nd rfl (.inl rfl));clear 7;refine Cr ?_;refine CG (i:=5) sc_read_text_.nd rfl (.inl rfl) ?_;refine UB AU AO ?_ ?_;exact (Ab 5);refine Cb (ih .BV) hr rfl (M.mgs .BV) (Fun.kp (M.fn .BV)) (M.bd .BV) hp ?_;clear 2 ?_ ?_;exact (Ab 1);clear 2 ?_ Af;clear 8 AU AO ?_ ?_;exact (Ab 4);exact (Ab 6);clear 7;refine Cq ?_;refine @BG _ _ _ _ _ ?_;clear 2 ?_ ?_;exact (Ab 5);clear 2 ?_ Af;clear 8 AU AO ?_ ?_;exact (Ab 4);exact (Ab 3)
theorem sc_sign_at_:FnScope (ns .BV) (ps .BV) (Ao (st .BV)):=by clear 0
theorem OS (M:Md K mg A fd)(ih:qIh P w K mg base A fd n):qOk P w K mg base A fd n .ex .BV:=by
 obtain ⟨_,g_FIRST_SIGN⟩:=M.g_FIRST_SIGN;obtain ⟨_,g_SIGNS⟩:=M.g_SIGNS;obtain ⟨P',ca,x,xt,x0⟩:=M.xm;have xb:XN2 P w K mg base (ca "Broken") P':=Hq rfl La rfl rfl rfl xt.2;refine CN (g:=fnOf 2 3 (Fp (run n .Bt) (run n .Bc))) rfl (C4 rfl rfl (M.fn .BV) sc_sign_at_ (λcdv A' outer s H E hr hp hq ho=>?_));clear 5;refine Cr ?_;refine CG (i:=2) sc_sign_at_.nd rfl (.inl rfl) ?_;refine Cb (ih .Bc) hr rfl (M.mgs .Bc) (Fun.kp (M.fn .Bc)) (M.bd .Bc) hp ?_;clear 2 ?_ ?_;exact (Ab 0);clear 2 ?_ Af;exact (Ab 1);clear 5;clear 9 AH;refine @CQ _ _ _ _ ?_;refine @CL _ _ _ ?_ (by intro _;rfl);clear 1 .Bt (ih .Bt);clear 2 ?_ Af;exact (Ab 2);clear 7;refine Cr ?_;refine GH x xb (hr.mono (by lia)) rfl hq rfl ?_;clear 2 ?_ ?_;exact (Ab 1);clear 2 Cu Af;clear 7;refine Cq ?_;clear 3 Ak Al ?_ ?_;exact (Tj rfl g_SIGNS);clear 8 CM Cs ?_ ?_;exact (Ab 2);exact (IP rfl g_FIRST_SIGN)
theorem sc_read_list_:FnScope (ns .BD) (ps .BD) (Ao (st .BD)):=by clear 0
theorem MM (M:Md K mg A fd)(ih:qIh P w K mg base A fd n):qOk P w K mg base A fd n .ex .BD:=by
 refine CN (g:=fnOf 3 8 (DP (run n .Ay) (run n .AN))) rfl (C4 rfl rfl (M.fn .BD) sc_read_list_ (λcdv A' outer s H E hr hp hq ho=>?_));clear 5;refine Cr ?_;refine CG (i:=3) sc_read_list_.nd rfl (.inl rfl) ?_;refine Cb (ih .AN) hr rfl (M.mgs .AN) (Fun.kp (M.fn .AN)) (M.bd .AN) hp ?_;clear 2 ?_ ?_;clear 3 Ak Al ?_ Ag;exact (Ab 0);clear 2 ?_ ?_;exact (Ab 1);clear 2 ?_ Af;exact (Ab 2);clear 5;clear 4 4 sc_read_list_.nd (.inl rfl);clear 8 AU AO ?_ Ag;exact (Ab 2);clear 5;clear 12 5 sc_read_list_.nd;exact (Bq Af);clear 5;clear 11 ho;refine BZ rfl M.z_range ?_;clear 2 ?_ Af;exact (Ab 3);exact (AV sc_read_list_.nd rfl (.inl rfl));clear 5;refine Cr ?_;refine CG (i:=7) sc_read_list_.nd rfl (.inl rfl) ?_;refine Cb (ih .Ay) hr rfl (M.mgs .Ay) (Fun.kp (M.fn .Ay)) (M.bd .Ay) hp ?_;clear 2 ?_ ?_;clear 3 Ak Al ?_ Ag;exact (Ab 0);clear 2 ?_ ?_;exact (Ab 1);clear 2 ?_ Af;exact (Ab 4);clear 5;refine Dd 5 ?_;clear 2 ?_ Af;clear 3 Ak Al ?_ Ag;exact (Ab 7);clear 7;clear 4 4 sc_read_list_.nd (.inl rfl);clear 3 Ak Al ?_ Ag;exact (Ab 7);clear 7;refine Cq ?_;refine @BG _ _ _ _ _ ?_;clear 2 ?_ ?_;exact (Ab 5);clear 2 ?_ Af;exact (Ab 4)
theorem sc_read_pair_:FnScope (ns .BE) (ps .BE) (Ao (st .BE)):=by clear 0
theorem MN (M:Md K mg A fd)(ih:qIh P w K mg base A fd n):qOk P w K mg base A fd n .ex .BE:=by
 refine CN (g:=fnOf 3 5 (DQ (run n .Ay))) rfl (C4 rfl rfl (M.fn .BE) sc_read_pair_ (λcdv A' outer s H E hr hp hq ho=>?_));clear 5;refine Cr ?_;refine CG (i:=3) sc_read_pair_.nd rfl (.inl rfl) ?_;refine Cb (ih .Ay) hr rfl (M.mgs .Ay) (Fun.kp (M.fn .Ay)) (M.bd .Ay) hp ?_;clear 2 ?_ ?_;clear 3 Ak Al ?_ Ag;exact (Ab 0);clear 2 ?_ ?_;exact (Ab 1);clear 2 ?_ Af;exact (Ab 2);clear 5;refine Cr ?_;refine CG (i:=4) sc_read_pair_.nd rfl (.inl rfl) ?_;refine Cb (ih .Ay) hr rfl (M.mgs .Ay) (Fun.kp (M.fn .Ay)) (M.bd .Ay) hp ?_;clear 2 ?_ ?_;clear 3 Ak Al ?_ Ag;exact (Ab 0);clear 2 ?_ ?_;exact (Ab 1);clear 2 ?_ Af;clear 3 Ak Al ?_ Ag;exact (Ab 3);clear 7;refine Cq ?_;refine @BG _ _ _ _ _ ?_;clear 2 ?_ ?_;refine @BG _ _ _ _ _ ?_;clear 2 ?_ ?_;clear 3 Ak Al ?_ Ag;exact (Ab 3);clear 2 ?_ Af;clear 3 Ak Al ?_ Ag;exact (Ab 4);clear 2 ?_ Af;clear 3 Ak Al ?_ Ag;exact (Ab 4)
theorem sc_read_choice_:FnScope (ns .Bj) (ps .Bj) (Ao (st .Bj)):=by clear 0
theorem KR (M:Md K mg A fd)(ih:qIh P w K mg base A fd n):qOk P w K mg base A fd n .ex .Bj:=by
 refine CN (g:=fnOf 3 5 (Dl (run n .Ay) (run n .AN))) rfl (C4 rfl rfl (M.fn .Bj) sc_read_choice_ (λcdv A' outer s H E hr hp hq ho=>?_));clear 5;refine Cr ?_;refine CG (i:=3) sc_read_choice_.nd rfl (.inl rfl) ?_;refine Cb (ih .AN) hr rfl (M.mgs .AN) (Fun.kp (M.fn .AN)) (M.bd .AN) hp ?_;clear 2 ?_ ?_;clear 8 CM Cs ?_ Ag;clear 6 BA BM M.z_len B7;clear 2 ?_ Af;clear 3 Ak Al ?_ Ag;exact (Ab 0);clear 2 ?_ ?_;exact (Ab 1);clear 2 ?_ Af;exact (Ab 2);clear 5;refine Cr ?_;refine CG (i:=4) sc_read_choice_.nd rfl (.inl rfl) ?_;refine Cb (ih .Ay) hr rfl (M.mgs .Ay) (Fun.kp (M.fn .Ay)) (M.bd .Ay) hp ?_;clear 2 ?_ ?_;clear 3 Ak Al ?_ ?_;clear 3 Ak Al ?_ Ag;exact (Ab 0);exact (Ab 3);clear 2 ?_ ?_;exact (Ab 1);clear 2 ?_ Af;clear 8 AU AO ?_ Ag;exact (Ab 2);clear 7;refine Cq ?_;refine @BG _ _ _ _ _ ?_;clear 2 ?_ ?_;refine @BG _ _ _ _ _ ?_;clear 2 AF ?_;clear 2 ?_ ?_;exact (Ab 3);clear 2 ?_ Af;clear 3 Ak Al ?_ Ag;exact (Ab 4);clear 2 ?_ Af;clear 3 Ak Al ?_ Ag;exact (Ab 4)
theorem sc_wires_of_:FnScope (ns .BH) (ps .BH) (Ao (st .BH)):=by clear 0
theorem N4 (M:Md K mg A fd)(ih:qIh P w K mg base A fd n):qOk P w K mg base A fd n .ex .BH:=by
 refine CN (g:=fnOf 2 6 (ET (run n .AY) (run n .Bl))) rfl (C4 rfl rfl (M.fn .BH) sc_wires_of_ (λcdv A' outer s H E hr hp hq ho=>?_));clear 5;clear 4 2 sc_wires_of_.nd (.inl rfl);refine E2 ?_;refine Cw ?_ ?_;refine @Rf _ _ _ ?_;exact (Bq Af);refine Cw ?_ E4;refine @Rf _ _ _ ?_;exact (Bq Af);clear 5;refine Cr ?_;refine CG (i:=3) sc_wires_of_.nd rfl (.inl rfl) ?_;refine Cb (ih .Bl) hr rfl (M.mgs .Bl) (Fun.kp (M.fn .Bl)) (M.bd .Bl) hp ?_;clear 2 ?_ ?_;exact (Ab 0);clear 2 ?_ Af;exact (Ab 1);clear 5;clear 11 ho;refine BZ rfl M.z_range ?_;clear 2 ?_ Af;clear 6 BA BM M.z_len B7;clear 2 ?_ Af;exact (Ab 3);exact (AV sc_wires_of_.nd rfl (.inl rfl));clear 5;clear 4 5 sc_wires_of_.nd (.inl rfl);clear 3 Ak Al ?_ ?_;exact (Ab 0);clear 3 Ak Al ?_ Ag;clear 3 Ak Al ?_ ?_;exact (Ab 3);exact (Ab 4);clear 7;refine Vg ?_;refine Re ?_ ?_;clear 3 BN Ba ?_ ?_;exact (Ab 2);clear 3 Ak Al ?_ Ag;exact (Ab 5);clear 2 ?_ Af;clear 1 .AY (ih .AY);clear 2 ?_ ?_;exact (Ab 5);clear 2 ?_ ?_;clear 3 Ak Al ?_ Ag;clear 3 Ak Al ?_ ?_;exact (Ab 3);exact (Ab 4);clear 2 ?_ Af;clear 3 Ak Al ?_ Ag;clear 3 Ak Al ?_ ?_;exact (Ab 1);exact (Ab 4);clear 7;refine Cq ?_;refine @BG _ _ _ _ _ ?_;clear 2 ?_ ?_;clear 3 BN Ba ?_ AF;exact (Ab 2);clear 2 ?_ Af;clear 3 BN Ba ?_ AF;exact (Ab 2)
theorem Jp:FnScope (ns .AY) (ps .AY) (Ao (st .AY)):=by clear 0
theorem Jo (M:Md K mg A fd)(ih:qIh P w K mg base A fd n):qOk P w K mg base A fd n .pl .AY:=by
 refine BR (g:=fnOf 3 3 (El (run n .Av))) rfl (BQ rfl rfl (M.fn .AY) Jp (λcdv A' outer s H E hr=>?_));clear 7;clear 13;clear 8 AU AO ?_ ?_;refine @A1 _ _ _ ?_;refine @Bq _ _ _ _ ?_;clear 2 ?_ Af;exact (Ab 1);refine E1 (ih .Av) hr rfl (M.mgs .Av) (Fun.kp (M.fn .Av)) (M.bd .Av) ?_;clear 2 ?_ ?_;clear 3 Ak Al ?_ Ag;clear 3 Ak Al ?_ ?_;clear 3 Ak Al ?_ Ag;exact (Ab 0);exact (Ab 1);clear 2 ?_ Af;exact (Ab 2)
theorem sc_talk_by_:FnScope (ns .BW) (ps .BW) (Ao (st .BW)):=by clear 0
theorem OT (M:Md K mg A fd)(ih:qIh P w K mg base A fd n):qOk P w K mg base A fd n .er .BW:=by
 refine CN (g:=fnOf 3 4 (GM (run n .BU))) rfl (LB rfl rfl (M.fn .BW) sc_talk_by_ (λcdv A' outer s H E hr hp hq ho ht=>?_));clear 5;refine Cr ?_;refine CG (i:=3) sc_talk_by_.nd rfl (.inl rfl) ?_;refine Cb (ih .BU) hr rfl (M.mgs .BU) (Fun.kp (M.fn .BU)) (M.bd .BU) hp ?_;clear 2 ?_ ?_;exact (Ab 0);clear 2 Ag ?_;clear 2 ?_ ?_;refine E2 ?_;refine Cw ?_ ?_;exact (Ab 1);refine Cw ?_ E4;exact (Ab 2);clear 2 ?_ Af;refine E2 ?_;refine Cw Ag ?_;exact (Cw Ag E4);clear 7;refine Cq ?_;refine @BG _ _ _ _ _ ?_;clear 2 ?_ ?_;clear 3 Ak Al ?_ Ag;exact (Ab 3);clear 2 ?_ ?_;clear 3 Ak Al ?_ Ag;exact (Ab 3);clear 2 ?_ Af;refine @BG _ _ _ _ _ ?_;clear 2 ?_ ?_;clear 3 BN Ba ?_ AF;clear 3 Ak Al ?_ Ag;exact (Ab 3);clear 2 ?_ Af;clear 3 BN Ba ?_ AF;clear 3 Ak Al ?_ Ag;exact (Ab 3)
theorem sc_read_on_:FnScope (ns .BU) (ps .BU) (Ao (st .BU)):=by clear 0
theorem OR (M:Md K mg A fd)(ih:qIh P w K mg base A fd n):qOk P w K mg base A fd n .er .BU:=by
 refine CN (g:=fnOf 4 9 (GL (run n .A7))) rfl (LB rfl rfl (M.fn .BU) sc_read_on_ (λcdv A' outer s H E hr hp hq ho ht=>?_));clear 5;clear 12 4 sc_read_on_.nd;exact (Bq Af);clear 5;clear 4 5 sc_read_on_.nd (.inl rfl);exact (Ab 1);clear 5;clear 4 6 sc_read_on_.nd (.inl rfl);refine Ti rfl M.z_dict ?_;clear 2 ?_ Af;exact (Ab 3);clear 5;refine Tn ho ?_ ?_;clear 10 (Xn hr.units) (Pv (neg:=false)) ?_ (by with_unfolding_all rfl);clear 3 Ak Al ?_ Ag;clear 3 Ak Al ?_ ?_;exact (Ab 0);exact (Ab 5);exact (Ab 2);clear 5;clear 4 7 sc_read_on_.nd (.inl rfl);clear 3 Ak Al ?_ Ag;clear 3 Ak Al ?_ ?_;exact (Ab 0);exact (Ab 5);clear 5;refine Cr ?_;refine CG (i:=8) sc_read_on_.nd rfl (.inl rfl) ?_;refine Cb (ih .A7) hr rfl (M.mgs .A7) (Fun.kp (M.fn .A7)) (M.bd .A7) hp ?_;clear 2 ?_ ?_;clear 3 Ak Al ?_ ?_;exact (Ab 0);exact (Ab 5);clear 2 ?_ ?_;clear 3 BN Ba ?_ ?_;exact (Ab 2);exact (Ab 7);clear 2 ?_ Af;clear 3 BN Ba ?_ ?_;exact (Ab 6);exact (Ab 7);clear 5;clear 9 AH;clear 10 G4 Ha Cu (AM _);exact (Ab 8);exact (An Tm);clear 5;refine Dd 4 ?_;clear 2 ?_ Af;clear 3 Ak Al ?_ Ag;exact (Ab 8);clear 5;clear 4 5 sc_read_on_.nd (.inl rfl);clear 3 Ak Al ?_ Ag;exact (Ab 8);clear 7;refine CF ?_ ?_;clear 3 Ak Al ?_ Ag;exact (Ab 8);refine CD ?_ ?_;exact (Ab 6);exact (Ab 7);clear 7;refine Cq ?_;refine @BG _ _ _ _ _ ?_;clear 2 ?_ ?_;exact (Ab 4);clear 2 ?_ ?_;exact (Ab 5);clear 2 ?_ Af;exact (Ab 6)
theorem sc_read_message_:FnScope (ns .A7) (ps .A7) (Ao (st .A7)):=by clear 0
theorem JT (M:Md K mg A fd)(ih:qIh P w K mg base A fd n):qOk P w K mg base A fd n .er .A7:=by
 obtain ⟨P',ca,x,xt,x0⟩:=M.xm;have xb:XN2 P w K mg base (ca "Broken") P':=Hq rfl La rfl rfl rfl xt.2;have xh:SW P w K mg base (ca "Broken") P':=Rw rfl La rfl rfl rfl xt.2;refine CN (g:=fnOf 3 6 (EA (run n .Ay))) rfl (LB rfl rfl (M.fn .A7) sc_read_message_ (λcdv A' outer s H E hr hp hq ho ht=>?_));clear 5;clear 9 AH;clear 10 KY Ja ?_ (AM _);exact (Ab 2);clear 6 BA BM M.z_len B7;clear 2 ?_ Af;exact (Ab 1);clear 7;exact (Cq Cu);clear 5;clear 9 AH;clear 10 KY Ja ?_ (AM _);clear 3 Ak Al ?_ ?_;exact (Ab 1);exact (Ab 2);clear 6 BA BM M.z_len B7;clear 2 ?_ Af;clear 3 Ak Al ?_ Ag;exact (Ab 0);clear 7;refine Cr ?_;refine GH x xb (hr.mono (by lia)) rfl hq rfl ?_;clear 2 ?_ ?_;exact (Ab 2);clear 2 ?_ Af;clear 3 Ak Al ?_ Ag;exact (Ab 0);clear 5;clear 4 3 sc_read_message_.nd (.inl rfl);clear 3 Ak Al ?_ ?_;clear 3 Ak Al ?_ Ag;exact (Ab 0);clear 3 Ak Al ?_ ?_;exact (Ab 1);exact (Ab 2);clear 5;refine Rp (qx:=true) x Xg rfl rfl ?_ ?_;intro pn E hp;refine NO ?_;refine CG (i:=4) sc_read_message_.nd rfl (.inl rfl) ?_;refine Cb (ih .Ay) hr rfl (M.mgs .Ay) (Fun.kp (M.fn .Ay)) (M.bd .Ay) hp ?_;clear 2 ?_ ?_;clear 3 Ak Al ?_ Ag;exact (Ab 3);clear 2 ?_ ?_;exact (Ab 1);clear 2 ?_ Af;clear 8 AU AO ?_ Ag;exact (Ab 2);refine YE x rfl (x.ms "Short" (by decide)) (x.cl "Short" (by decide)) (λ_ hn=>x.subE hn (by decide)) ?_ ?_;intro y;clear 7;exact (Cq Cu);refine YF (i:=5) x xh rfl rfl (hr.mono (by lia)) rfl (x.ms "Broken" (by decide)) (x.cl "Broken" (by decide)) (λ_ hn=>x.subE hn (by decide)) sc_read_message_.nd rfl rfl ht rfl ?_ Vj Rh;intro y;clear 2 ?_ ?_;refine NH x x.na ?_ rfl;exact (Ab 5);clear 2 ?_ Af;clear 3 Ak Al ?_ Ag;exact (Ab 0);clear 7;refine Cq ?_;refine @BG _ _ _ _ _ ?_;clear 2 ?_ ?_;refine @BG _ _ _ _ _ ?_;clear 2 ?_ ?_;clear 3 Ak Al ?_ Ag;exact (Ab 0);clear 2 ?_ ?_;clear 3 Ak Al ?_ Ag;exact (Ab 3);clear 2 ?_ Af;clear 3 Ak Al ?_ Ag;exact (Ab 4);clear 2 ?_ ?_;clear 3 Ak Al ?_ Ag;exact (Ab 3);clear 2 ?_ Af;clear 3 Ak Al ?_ Ag;exact (Ab 4)
theorem J2:FnScope (ns .A4) (ps .A4) (Ao (st .A4)):=by clear 0
theorem JQ (M:Md K mg A fd)(ih:qIh P w K mg base A fd n):qOk P w K mg base A fd n .pl .A4:=by
 refine BR (g:=fnOf 2 2 (Dw)) rfl (BQ rfl rfl (M.fn .A4) J2 (λcdv A' outer s H E hr=>?_));clear 5;clear 9 AH;clear 10 K0 Jd ?_ (AM _);exact (Ab 1);clear 6 BA BM M.z_len B7;clear 2 ?_ Af;exact (Ab 0);clear 7;clear 13;clear 3 Ak Al ?_ ?_;exact (Ab 0);exact (Ab 1);clear 7;exact (AI Ag)
theorem sc_f_law_pool:FnScope (ns .AE) (ps .AE) (Ao (st .AE)):=by clear 0
theorem MD (M:Md K mg A fd)(ih:qIh P w K mg base A fd n):qOk P w K mg base A fd n .pl .AE:=by
 refine BR (g:=fnOf 2 3 (C5 (run n .A4))) rfl (BQ rfl rfl (M.fn .AE) sc_f_law_pool (λcdv A' outer s H E hr=>?_));clear 5;clear 4 2 sc_f_law_pool.nd (.inl rfl);clear 1 .A4 (ih .A4);clear 2 ?_ ?_;exact (Ab 0);clear 2 ?_ Af;exact (Ab 1);clear 7;clear 13;refine E2 ?_;refine Cw ?_ ?_;exact (Ab 2);refine Cw ?_ ?_;refine @Gm _ _ _ _ _ _ _ _ _ K0 Jd ?_ ?_ (AM _);exact (Ab 2);exact (AB K1 Jf Ag Ag);refine Cw ?_ E4;clear 8 AU AO Ag ?_;clear 8 Ga FF Ag ?_;exact (Ab 1)
theorem sc_f_law_take:FnScope (ns .Ae) (ps .Ae) (Ao (st .Ae)):=by clear 0
theorem MF (M:Md K mg A fd)(ih:qIh P w K mg base A fd n):qOk P w K mg base A fd n .pl .Ae:=by
 refine BR (g:=fnOf 2 3 (C6)) rfl (BQ rfl rfl (M.fn .Ae) sc_f_law_take (λcdv A' outer s H E hr=>?_));clear 5;clear 4 2 sc_f_law_take.nd (.inl rfl);clear 3 BN Ba ?_ AF;exact (Ab 0);clear 5;clear 9 AH;refine @CQ _ _ _ _ ?_;refine @CL _ _ _ ?_ (by intro _;rfl);clear 3 BN Ba ?_ AF;exact (Ab 0);clear 5;refine CF ?_ ?_;clear 8 N6 Mp ?_ ?_;exact (Ab 2);exact (Ab 1);refine CD ?_ AF;exact (Ab 0);clear 7;clear 13;clear 8 Gw FE ?_ ?_;exact (Ab 2);exact (Ab 1);clear 5;refine CF ?_ ?_;clear 8 AU AO ?_ Ag;clear 3 BN Ba ?_ AF;exact (Ab 0);refine CD ?_ AF;exact (Ab 0);clear 5;clear 4 2 sc_f_law_take.nd (.inl rfl);clear 8 AU AO ?_ ?_;clear 8 Gw FE ?_ Ag;exact (Ab 2);clear 8 LO Ke Ag ?_;clear 3 BN Ba ?_ AF;exact (Ab 0);clear 5;clear 4 2 sc_f_law_take.nd (.inl rfl);clear 8 Gw FE ?_ Ag;clear 8 LO Ke ?_ ?_;exact (Ab 2);clear 8 AU AO ?_ Ag;exact (Ab 2);clear 5;clear 4 2 sc_f_law_take.nd (.inl rfl);clear 8 Gw FE ?_ Ag;clear 8 LO Ke ?_ ?_;exact (Ab 2);exact (Ab 2);clear 5;refine CF ?_ ?_;exact (Ab 2);refine CD ?_ AF;exact (Ab 0);clear 7;clear 13;clear 8 Gw FE ?_ ?_;clear 8 N6 Mp ?_ Ag;exact (Ab 2);exact (Ab 1)
theorem sc_f_law_shape:FnScope (ns .AC) (ps .AC) (Ao (st .AC)):=by clear 0
theorem LH (M:Md K mg A fd)(ih:qIh P w K mg base A fd n):qOk P w K mg base A fd n .pl .AC:=by
 refine BR (g:=fnOf 2 4 (DY (run n .Ae) (run n .AC))) rfl (BQ rfl rfl (M.fn .AC) sc_f_law_shape (λcdv A' outer s H E hr=>?_));clear 5;clear 4 2 sc_f_law_shape.nd (.inl rfl);clear 1 .Ae (ih .Ae);clear 2 ?_ ?_;exact (Ab 0);clear 2 ?_ Af;clear 8 AU AO Ag ?_;clear 8 Ga FF Ag ?_;refine @Uz _ _ _ _ _ _ _ _ _ _ Q4 Wa rfl M.z_int Q1 ?_ (by decide) (by decide) (by rfl) (by rfl);clear 2 ?_ Af;refine @Gm _ _ _ _ _ _ _ _ _ G3 Gb ?_ Ag (AM _);exact (Ab 1);clear 5;clear 9 AH;clear 10 (BL hr.units) (A3 (g:=id)) Ag (AM _);exact (Ab 2);clear 7;clear 13;refine @BG _ _ _ _ _ ?_;clear 2 AF Af;clear 5;clear 9 AH;clear 10 (BL hr.units) (A3 (g:=id)) Ag (AM _);exact (Ab 2);clear 5;clear 4 3 sc_f_law_shape.nd (.inl rfl);clear 3 Ak Al ?_ ?_;refine @A1 _ _ _ ?_;refine @Bq _ _ _ _ ?_;clear 2 Ag ?_;clear 2 ?_ ?_;clear 8 CM Cs ?_ Ag;clear 1 .Ae (ih .Ae);clear 2 ?_ ?_;exact (Ab 0);clear 2 Ag Af;clear 2 ?_ Af;clear 8 CM Cs ?_ ?_;clear 1 .Ae (ih .Ae);clear 2 ?_ ?_;exact (Ab 0);clear 2 ?_ Af;exact (AB K1 Jf Ag Ag);exact (AB K1 Jf Ag Ag);clear 1 .Ae (ih .Ae);clear 2 ?_ ?_;exact (Ab 0);clear 2 Ag Af;clear 7;clear 13;refine @BG _ _ _ _ _ ?_;clear 2 AF ?_;clear 2 ?_ ?_;exact (Ab 3);clear 2 ?_ Af;clear 8 AU AO ?_ ?_;exact (Ab 3);clear 3 Ak Al ?_ ?_;refine @A1 _ _ _ ?_;refine @Bq _ _ _ _ ?_;clear 2 Ag ?_;clear 2 Ag ?_;clear 2 Ag ?_;clear 2 Ag ?_;clear 2 Ag ?_;clear 2 Ag ?_;clear 2 ?_ Af;clear 1 .Ae (ih .Ae);clear 2 ?_ ?_;exact (Ab 0);clear 2 ?_ Af;exact (AB K1 Jf Ag Ag);clear 1 .Ae (ih .Ae);clear 2 ?_ ?_;exact (Ab 0);clear 2 Ag Af;clear 5;clear 9 AH;clear 10 (BL hr.units) (A3 (g:=id)) Ag (AM _);exact (Ab 2);clear 7;clear 13;refine @BG _ _ _ _ _ ?_;clear 2 AF ?_;clear 2 ?_ Af;clear 3 Ak Al ?_ ?_;refine @A1 _ _ _ ?_;refine @Bq _ _ _ _ ?_;clear 2 Ag ?_;clear 2 Ag ?_;clear 2 Ag ?_;clear 2 Ag Af;clear 1 .Ae (ih .Ae);clear 2 ?_ ?_;exact (Ab 0);clear 2 Ag Af;clear 5;clear 9 AH;clear 10 (BL hr.units) (A3 (g:=id)) Ag (AM _);exact (Ab 2);clear 7;clear 13;refine @BG _ _ _ _ _ ?_;clear 2 AF ?_;clear 2 ?_ ?_;clear 1 .AC (ih .AC);clear 2 ?_ ?_;exact (Ab 0);clear 2 ?_ Af;clear 8 CM Cs ?_ Ag;exact (Ab 1);clear 2 ?_ Af;clear 3 Ak Al ?_ ?_;refine @A1 _ _ _ ?_;refine @Bq _ _ _ _ ?_;clear 2 Ag ?_;clear 2 Ag ?_;clear 2 Ag ?_;clear 2 Ag Af;clear 1 .Ae (ih .Ae);clear 2 ?_ ?_;exact (Ab 0);clear 2 Ag Af;clear 5;clear 9 AH;clear 10 (BL hr.units) (A3 (g:=id)) Ag (AM _);exact (Ab 2);clear 7;clear 13;refine @BG _ _ _ _ _ ?_;clear 2 AF ?_;clear 2 ?_ ?_;clear 1 .AC (ih .AC);clear 2 ?_ ?_;exact (Ab 0);clear 2 ?_ Af;clear 8 CM Cs ?_ Ag;exact (Ab 1);clear 2 ?_ Af;clear 1 .AC (ih .AC);clear 2 ?_ ?_;exact (Ab 0);clear 2 ?_ Af;clear 8 CM Cs ?_ Ag;exact (Ab 1);clear 7;clear 13;refine @BG _ _ _ _ _ ?_;clear 2 AF ?_;clear 2 ?_ Af;refine @Uz _ _ _ _ _ _ _ _ _ _ Mz Wg rfl M.z_tuple Hf ?_ (by decide) (by decide) (by rfl) (by rfl);clear 2 ?_ Af;refine @A1 _ _ _ ?_;refine D6 (EI ["k"] [(0 , "pool") ,(1 , "deep")] rfl rfl rfl rfl rfl) rfl ?_ ?_ ?_ ?_;refine BZ rfl M.z_range ?_;clear 2 ?_ Af;clear 8 AU AO Ag ?_;clear 1 .Ae (ih .Ae);clear 2 ?_ ?_;exact (Ab 0);clear 2 Ag Af;intro _ _ _ _ _;exact (AV (by show List.Nodup [("k" : Str) ,("pool" : Str) ,("deep" : Str)] ;decide +kernel) rfl (.inl rfl));intro _ _ _ _ _;exact D7;intro _ _ _ _ _;clear 1 .AC (ih .AC);clear 2 ?_ ?_;exact (Ab 1);clear 2 ?_ Af;clear 8 CM Cs ?_ Ag;exact (Ab 2)
theorem sc_f_law_value:FnScope (ns .AD) (ps .AD) (Ao (st .AD)):=by clear 0
theorem LJ (M:Md K mg A fd)(ih:qIh P w K mg base A fd n):qOk P w K mg base A fd n .pl .AD:=by
 refine BR (g:=fnOf 2 5 (DZ (run n .AD) (run n .Ae))) rfl (BQ rfl rfl (M.fn .AD) sc_f_law_value (λcdv A' outer s H E hr=>?_));clear 5;clear 4 2 sc_f_law_value.nd (.inl rfl);clear 3 Ak Al ?_ Ag;exact (Ab 1);clear 5;clear 9 AH;clear 10 (BL hr.units) (A3 (g:=id)) AF (AM _);exact (Ab 2);clear 7;exact (AI Cu);clear 5;clear 9 AH;clear 10 (BL hr.units) (A3 (g:=id)) AF (AM _);exact (Ab 2);clear 7;clear 13;clear 3 Ak Al ?_ ?_;refine @A1 _ _ _ ?_;refine @Bq _ _ _ _ ?_;clear 2 ?_ ?_;clear 3 Ak Al ?_ Ag;exact (Ab 1);clear 2 ?_ ?_;clear 3 Ak Al ?_ Ag;exact (Ab 1);clear 2 ?_ Af;clear 8 AU AO ?_ ?_;clear 3 Ak Al ?_ Ag;exact (Ab 1);clear 1 .Ae (ih .Ae);clear 2 ?_ ?_;exact (Ab 0);clear 2 ?_ Af;clear 8 AU AO ?_ Ag;clear 8 CM Cs ?_ ?_;clear 3 Ak Al ?_ Ag;exact (Ab 1);clear 3 Ak Al ?_ Ag;exact (Ab 1);clear 1 .Ae (ih .Ae);clear 2 ?_ ?_;exact (Ab 0);clear 2 Ag Af;clear 5;clear 9 AH;clear 10 (BL hr.units) (A3 (g:=id)) AF (AM _);exact (Ab 2);clear 5;exact (AK (i:=3) sc_f_law_value.nd rfl (.inr rfl) AF);clear 7;clear 13;refine Vc AF ?_;clear 2 ?_ Af;refine @A1 _ _ _ ?_;refine D6 (EI ["k"] [(3 , "signs") ,(0 , "pool")] rfl rfl rfl rfl rfl) rfl ?_ ?_ ?_ ?_;refine BZ rfl M.z_range ?_;clear 2 ?_ Af;clear 6 (GE rfl) Je M.z_min Kp;clear 2 ?_ ?_;clear 3 Ak Al ?_ Ag;exact (Ab 1);clear 2 ?_ Af;clear 1 .Ae (ih .Ae);clear 2 ?_ ?_;exact (Ab 0);clear 2 Ag Af;intro _ _ _ _ _;exact (AV (by show List.Nodup [("k" : Str) ,("signs" : Str) ,("pool" : Str)] ;decide +kernel) rfl (.inl rfl));intro _ _ _ _ _;exact D7;intro _ _ _ _ _;clear 3 Ak Al ?_ ?_;exact (Ab 1);clear 1 .Ae (ih .Ae);clear 2 ?_ ?_;exact (Ab 2);clear 2 Ag Af;clear 5;clear 9 AH;clear 10 (BL hr.units) (A3 (g:=id)) AF (AM _);exact (Ab 2);clear 7;clear 13;refine @A1 _ _ _ ?_;refine D6 (EI ["k"] [(0 , "pool") ,(1 , "s")] rfl rfl rfl rfl rfl) rfl ?_ ?_ ?_ ?_;refine BZ rfl M.z_range ?_;clear 2 ?_ Af;clear 6 (GE rfl) Je M.z_min Kp;clear 2 ?_ ?_;clear 3 Ak Al ?_ Ag;exact (Ab 1);clear 2 ?_ Af;clear 1 .Ae (ih .Ae);clear 2 ?_ ?_;exact (Ab 0);clear 2 Ag Af;intro _ _ _ _ _;exact (AV (by show List.Nodup [("k" : Str) ,("pool" : Str) ,("s" : Str)] ;decide +kernel) rfl (.inl rfl));intro _ _ _ _ _;exact D7;intro _ _ _ _ _;clear 1 .AD (ih .AD);clear 2 ?_ ?_;exact (Ab 1);clear 2 ?_ Af;clear 3 Ak Al ?_ Ag;exact (Ab 2);clear 5;clear 9 AH;clear 10 (BL hr.units) (A3 (g:=id)) AF (AM _);exact (Ab 2);clear 7;clear 13;refine @BG _ _ _ _ _ ?_;clear 2 ?_ ?_;clear 1 .AD (ih .AD);clear 2 ?_ ?_;exact (Ab 0);clear 2 ?_ Af;clear 3 Ak Al ?_ Ag;exact (Ab 1);clear 2 ?_ Af;clear 1 .AD (ih .AD);clear 2 ?_ ?_;exact (Ab 0);clear 2 ?_ Af;clear 3 Ak Al ?_ Ag;exact (Ab 1);clear 5;clear 4 4 sc_f_law_value.nd (.inl rfl);clear 1 .Ae (ih .Ae);clear 2 ?_ ?_;exact (Ab 0);clear 2 ?_ Af;clear 6 BA BM M.z_len B7;clear 2 ?_ Af;clear 3 Ak Al ?_ Ag;exact (Ab 1);clear 7;clear 13;refine @BG _ _ _ _ _ ?_;clear 2 AF ?_;clear 2 ?_ ?_;exact (Ab 4);clear 2 ?_ Af;clear 1 .AD (ih .AD);clear 2 ?_ ?_;exact (Ab 0);clear 2 ?_ Af;clear 3 Ak Al ?_ ?_;clear 3 Ak Al ?_ Ag;exact (Ab 1);exact (Ab 4)
theorem sc_f_law_grammar:FnScope (ns .A5) (ps .A5) (Ao (st .A5)):=by clear 0
theorem JR (M:Md K mg A fd)(ih:qIh P w K mg base A fd n):qOk P w K mg base A fd n .pl .A5:=by
 refine BR (g:=fnOf 1 10 (Dx (run n .Ae) (run n .AC) (run n .AE))) rfl (BQ rfl rfl (M.fn .A5) sc_f_law_grammar (λcdv A' outer s H E hr=>?_));clear 5;clear 4 1 sc_f_law_grammar.nd (.inl rfl);clear 1 .AE (ih .AE);clear 2 ?_ ?_;exact (Ab 0);clear 2 Ag Af;clear 5;clear 4 2 sc_f_law_grammar.nd (.inl rfl);clear 3 Ak Al ?_ ?_;refine @A1 _ _ _ ?_;refine @Bq _ _ _ _ ?_;clear 2 ?_ ?_;clear 8 AU AO Ag ?_;clear 1 .Ae (ih .Ae);clear 2 ?_ ?_;exact (Ab 1);clear 2 Ag Af;clear 2 ?_ ?_;clear 8 AU AO Ag ?_;clear 1 .Ae (ih .Ae);clear 2 ?_ ?_;exact (Ab 1);clear 2 Ag Af;clear 2 Ag Af;clear 1 .Ae (ih .Ae);clear 2 ?_ ?_;exact (Ab 1);clear 2 Ag Af;clear 5;clear 12 3 sc_f_law_grammar.nd;exact (Bq Af);clear 5;clear 11 PassesOwn.never;refine BZ rfl M.z_range ?_;clear 2 ?_ Af;exact (Ab 2);exact (AV sc_f_law_grammar.nd rfl (.inl rfl));clear 5;clear 4 1 sc_f_law_grammar.nd (.inl rfl);clear 1 .AE (ih .AE);clear 2 ?_ ?_;exact (Ab 0);clear 2 ?_ Af;clear 8 AU AO Ag ?_;clear 8 Gw FE ?_ Ag;exact (Ab 4);clear 5;refine CF ?_ ?_;clear 8 AU AO ?_ ?_;clear 8 LN Kc ?_ ?_;clear 3 BN Ba ?_ AF;exact (Ab 1);clear 8 AU AO Ag ?_;clear 8 LN Kc ?_ Ag;exact (Ab 4);clear 8 Ga FF Ag ?_;exact (Ab 4);refine CD ?_ AF;exact (Ab 1);clear 7;clear 9 ?_;refine @Fi _ _ _ ?_;refine @W3 _ _ _ _ _ _ _ ?_ ?_;clear 10 (BL hr.units) (A3 (g:=id)) Ag (AM _);clear 1 .Ae (ih .Ae);clear 2 ?_ ?_;exact (Ab 1);clear 2 Ag Af;refine @Vh _ _ _ _ ?_;clear 10 G3 Gb Ag (AM _);exact (Ab 4);clear 7;refine Dd 3 ?_;clear 2 ?_ Af;refine @BG _ _ _ _ _ ?_;clear 2 AF Af;clear 5;clear 4 5 sc_f_law_grammar.nd (.inl rfl);clear 3 Ak Al ?_ ?_;refine @A1 _ _ _ ?_;refine @Bq _ _ _ _ ?_;clear 2 AF ?_;clear 2 AF Af;clear 1 .Ae (ih .Ae);clear 2 ?_ ?_;exact (Ab 1);clear 2 Ag Af;clear 5;clear 12 6 sc_f_law_grammar.nd;exact (Bq Af);clear 5;clear 11 PassesOwn.never;refine BZ rfl M.z_range ?_;clear 2 ?_ Af;clear 3 Ak Al ?_ ?_;refine @A1 _ _ _ ?_;refine @Bq _ _ _ _ ?_;clear 2 Ag ?_;clear 2 Ag ?_;clear 2 Ag ?_;clear 2 Ag Af;clear 1 .Ae (ih .Ae);clear 2 ?_ ?_;exact (Ab 1);clear 2 Ag Af;exact (AV sc_f_law_grammar.nd rfl (.inl rfl));clear 5;clear 4 8 sc_f_law_grammar.nd (.inl rfl);clear 8 AU AO ?_ ?_;clear 3 Ak Al AF ?_;exact (Ab 7);clear 8 Ga FF ?_ ?_;clear 3 Ak Al AF ?_;clear 1 .Ae (ih .Ae);clear 2 ?_ ?_;exact (Ab 1);clear 2 Ag Af;clear 1 .Ae (ih .Ae);clear 2 ?_ ?_;exact (Ab 1);clear 2 Ag Af;clear 5;clear 4 9 sc_f_law_grammar.nd (.inl rfl);clear 3 Ak Al ?_ ?_;refine @A1 _ _ _ ?_;refine @Bq _ _ _ _ ?_;clear 2 ?_ ?_;clear 1 .Ae (ih .Ae);clear 2 ?_ ?_;exact (Ab 1);clear 2 ?_ Af;exact (Ab 2);clear 2 ?_ Af;clear 6 (GE rfl) Je M.z_min Kp;clear 2 ?_ ?_;clear 8 CM Cs ?_ Ag;exact (Ab 2);clear 2 ?_ Af;clear 8 AU AO ?_ Ag;exact (Ab 4);clear 1 .Ae (ih .Ae);clear 2 ?_ ?_;exact (Ab 1);clear 2 Ag Af;clear 7;refine Dd 6 ?_;clear 2 ?_ Af;refine @BG _ _ _ _ _ ?_;clear 2 ?_ ?_;exact (Ab 8);clear 2 ?_ ?_;clear 1 .AC (ih .AC);clear 2 ?_ ?_;exact (Ab 1);clear 2 ?_ Af;clear 1 .Ae (ih .Ae);clear 2 ?_ ?_;exact (Ab 1);clear 2 Ag Af;clear 2 ?_ Af;exact (Ab 9);clear 7;refine Dd 3 ?_;clear 2 ?_ Af;refine @BG _ _ _ _ _ ?_;clear 2 ?_ ?_;exact (Ab 5);clear 2 ?_ Af;exact (Ab 6);clear 7;clear 13;exact (Ab 3)
theorem sc_f_law_talk:FnScope (ns .Bv) (ps .Bv) (Ao (st .Bv)):=by clear 0
theorem MG (M:Md K mg A fd)(ih:qIh P w K mg base A fd n):qOk P w K mg base A fd n .pl .Bv:=by
 refine BR (g:=fnOf 4 14 (Ei (run n .AD) (run n .Ae) (run n .AE))) rfl (BQ rfl rfl (M.fn .Bv) sc_f_law_talk (λcdv A' outer s H E hr=>?_));clear 5;clear 12 4 sc_f_law_talk.nd;exact (Bq Af);clear 5;exact (AK (i:=5) sc_f_law_talk.nd rfl (.inl rfl) Ag);clear 5;clear 12 6 sc_f_law_talk.nd;refine @Bq _ _ _ _ ?_;clear 2 Ag Af;clear 5;clear 11 PassesOwn.never;refine FZ rfl M.z_range ?_;clear 2 ?_ ?_;exact (Ab 2);clear 2 ?_ Af;clear 6 (GE rfl) Je M.z_min Kp;clear 2 ?_ ?_;clear 6 BA BM M.z_len B7;clear 2 ?_ Af;exact (Ab 0);clear 2 ?_ Af;exact (Ab 3);exact (AV sc_f_law_talk.nd rfl (.inl rfl));clear 5;clear 4 8 sc_f_law_talk.nd (.inl rfl);clear 1 .AE (ih .AE);clear 2 ?_ ?_;exact (Ab 0);clear 2 ?_ Af;exact (Ab 7);clear 7;clear 9 AH;clear 10 (Eu hr.units) (A3 (g:=λb=>!b)) ?_ (AM _);clear 3 Ak Al ?_ ?_;exact (Ab 1);exact (Ab 5);refine @BG _ _ _ _ _ ?_;clear 2 AF Af;clear 5;refine CF ?_ ?_;clear 3 Ak Al ?_ ?_;exact (Ab 1);exact (Ab 5);refine GG rfl ?_;refine Cd ?_ ?_;exact (AV sc_f_law_talk.nd rfl (.inl rfl));refine Cd ?_ E3;exact (AV sc_f_law_talk.nd rfl (.inl rfl));clear 5;refine CF ?_ ?_;clear 3 Ak Al ?_ ?_;exact (Ab 10);clear 1 .Ae (ih .Ae);clear 2 ?_ ?_;exact (Ab 8);clear 2 ?_ Af;clear 6 BA BM M.z_len B7;clear 2 ?_ Af;exact (Ab 10);refine GG rfl ?_;refine Cd ?_ ?_;exact (AV sc_f_law_talk.nd rfl (.inl rfl));refine Cd ?_ ?_;exact (AV sc_f_law_talk.nd rfl (.inl rfl));refine Cd ?_ E3;exact (AV sc_f_law_talk.nd rfl (.inl rfl));clear 5;refine Dd 4 ?_;clear 2 ?_ Af;refine @BG _ _ _ _ _ ?_;clear 2 ?_ ?_;exact (Ab 9);clear 2 ?_ ?_;exact (Ab 11);clear 2 ?_ Af;clear 1 .AD (ih .AD);clear 2 ?_ ?_;exact (Ab 8);clear 2 ?_ Af;exact (Ab 12);clear 5;clear 4 5 sc_f_law_talk.nd (.inl rfl);exact (Ab 13);clear 7;refine Dd 6 ?_;clear 2 ?_ Af;exact (Ab 5);clear 7;clear 13;refine @A1 _ _ _ ?_;refine @Bq _ _ _ _ ?_;clear 2 ?_ ?_;exact (Ab 4);clear 2 ?_ Af;exact (Ab 6)
theorem sc_f_law_sizes:FnScope (ns .Bn) (ps .Bn) (Ao (st .Bn)):=by clear 0
theorem LI (M:Md K mg A fd)(ih:qIh P w K mg base A fd n):qOk P w K mg base A fd n .pl .Bn:=by
 refine BR (g:=fnOf 2 9 (EN (run n .Bf))) rfl (BQ rfl rfl (M.fn .Bn) sc_f_law_sizes (λcdv A' outer s H E hr=>?_));clear 5;clear 12 2 sc_f_law_sizes.nd;exact (Bq Af);clear 5;exact (AK (i:=3) sc_f_law_sizes.nd rfl (.inl rfl) Ag);clear 5;clear 11 PassesOwn.never;refine @Gn _ _ _ _ ?_;exact (Ab 1);refine GG rfl ?_;refine Cd ?_ ?_;exact (AV sc_f_law_sizes.nd rfl (.inl rfl));refine Cd ?_ ?_;exact (AV sc_f_law_sizes.nd rfl (.inl rfl));refine Cd ?_ E3;exact (AV sc_f_law_sizes.nd rfl (.inl rfl));clear 5;clear 4 7 sc_f_law_sizes.nd (.inl rfl);clear 3 Ak Al ?_ Ag;clear 3 Ak Al ?_ ?_;exact (Ab 0);exact (Ab 3);clear 5;clear 4 8 sc_f_law_sizes.nd (.inl rfl);refine Tl ?_ ?_;refine @A1 _ _ _ ?_;refine D6 (EI ["word"] [] rfl rfl rfl rfl rfl) rfl ?_ ?_ ?_ ?_;refine @Gn _ _ _ _ ?_;exact (Ab 7);intro _ _ _ _ _;exact (AV (by show List.Nodup [("word" : Str)] ;decide +kernel) rfl (.inl rfl));intro _ _ _ _ _;exact D7;intro _ _ _ _ _;clear 3 Ak Al ?_ Ag;exact (Ab 0);clear 2 ?_ Af;exact (Ab 5);clear 5;refine Dd 2 ?_;clear 2 ?_ Af;clear 8 AU AO ?_ ?_;refine @A1 _ _ _ ?_;refine @Bq _ _ _ _ ?_;clear 2 ?_ Af;exact (Ab 8);clear 1 .Bf (P5 (ih .Bf));clear 2 ?_ ?_;clear 3 Ak Al ?_ Ag;clear 3 Ak Al ?_ ?_;exact (Ab 7);exact (Ab 8);clear 2 ?_ Af;exact (Ab 6);clear 7;clear 4 3 sc_f_law_sizes.nd (.inl rfl);clear 3 Ak Al ?_ Ag;clear 3 Ak Al ?_ ?_;exact (Ab 7);exact (Ab 8);clear 7;clear 13;exact (Ab 2)
theorem sc_f_law_whole_wires:FnScope (ns .AL) (ps .AL) (Ao (st .AL)):=by clear 0
theorem Hz (M:Md K mg A fd)(ih:qIh P w K mg base A fd n):qOk P w K mg base A fd n .pl .AL:=by
 refine BR (g:=fnOf 2 4 (Dp)) rfl (BQ rfl rfl (M.fn .AL) sc_f_law_whole_wires (λcdv A' outer s H E hr=>?_));clear 5;clear 4 2 sc_f_law_whole_wires.nd (.inl rfl);refine E2 ?_;refine Cw ?_ ?_;refine @A1 _ _ _ ?_;exact (Bq Af);refine Cw ?_ E4;refine @A1 _ _ _ ?_;exact (Bq Af);clear 5;clear 11 PassesOwn.never;refine BZ rfl M.z_range ?_;clear 2 ?_ Af;clear 6 BA BM M.z_len B7;clear 2 ?_ Af;exact (Ab 0);exact (AV sc_f_law_whole_wires.nd rfl (.inl rfl));clear 7;refine CF ?_ ?_;clear 8 AU AO ?_ ?_;clear 3 BN Ba ?_ ?_;exact (Ab 2);clear 3 Ak Al ?_ Ag;clear 3 Ak Al ?_ ?_;exact (Ab 0);exact (Ab 3);clear 3 Ak Al ?_ ?_;exact (Ab 1);exact (Ab 3);refine CD ?_ ?_;exact (Ab 2);clear 3 Ak Al ?_ Ag;clear 3 Ak Al ?_ ?_;exact (Ab 0);exact (Ab 3);clear 7;clear 13;exact (Ab 2)
theorem sc_f_law_spoilt:FnScope (ns .Bd) (ps .Bd) (Ao (st .Bd)):=by clear 0
theorem KO (M:Md K mg A fd)(ih:qIh P w K mg base A fd n):qOk P w K mg base A fd n .pl .Bd:=by
 refine BR (g:=fnOf 2 9 (DI (run n .Ae))) rfl (BQ rfl rfl (M.fn .Bd) sc_f_law_spoilt (λcdv A' outer s H E hr=>?_));clear 5;clear 4 2 sc_f_law_spoilt.nd (.inl rfl);refine E2 ?_;refine Cw ?_ ?_;refine @A1 _ _ _ ?_;refine @MX _ _ _ _ _ _ _ _ _ _ Fe Jc rfl M.z_list GW ?_ (by decide) (by decide) (by rfl) (by rfl);clear 2 ?_ Af;clear 3 BN Ba ?_ AF;exact (Ab 0);refine Cw ?_ E4;refine @A1 _ _ _ ?_;refine @MX _ _ _ _ _ _ _ _ _ _ Fe Jc rfl M.z_list GW ?_ (by decide) (by decide) (by rfl) (by rfl);clear 2 ?_ Af;clear 3 BN Ba ?_ AF;exact (Ab 0);clear 5;clear 11 PassesOwn.never;refine BZ rfl M.z_range ?_;clear 2 ?_ Af;clear 8 AU AO Ag ?_;clear 1 .Ae (ih .Ae);clear 2 ?_ ?_;exact (Ab 1);clear 2 Ag Af;exact (AV sc_f_law_spoilt.nd rfl (.inl rfl));clear 5;clear 4 4 sc_f_law_spoilt.nd (.inl rfl);clear 3 Ak Al ?_ ?_;refine @A1 _ _ _ ?_;refine @Bq _ _ _ _ ?_;clear 2 AF ?_;clear 2 AF Af;clear 1 .Ae (ih .Ae);clear 2 ?_ ?_;exact (Ab 1);clear 2 Ag Af;clear 5;clear 4 5 sc_f_law_spoilt.nd (.inl rfl);clear 3 BN Ba ?_ ?_;exact (Ab 2);exact (Ab 4);clear 5;clear 4 6 sc_f_law_spoilt.nd (.inl rfl);clear 3 Ak Al ?_ ?_;refine @A1 _ _ _ ?_;refine @Bq _ _ _ _ ?_;clear 2 ?_ ?_;clear 1 .Ae (ih .Ae);clear 2 ?_ ?_;exact (Ab 1);clear 2 ?_ Af;clear 8 AU AO ?_ Ag;clear 6 BA BM M.z_len B7;clear 2 ?_ Af;exact (Ab 5);clear 2 ?_ Af;clear 6 (Q5 rfl) Wb M.z_max WR;clear 2 Ag ?_;clear 2 ?_ Af;clear 8 CM Cs ?_ ?_;clear 8 CM Cs ?_ Ag;clear 6 BA BM M.z_len B7;clear 2 ?_ Af;exact (Ab 5);clear 1 .Ae (ih .Ae);clear 2 ?_ ?_;exact (Ab 1);clear 2 Ag Af;clear 1 .Ae (ih .Ae);clear 2 ?_ ?_;exact (Ab 1);clear 2 Ag Af;clear 5;clear 4 7 sc_f_law_spoilt.nd (.inl rfl);clear 3 Ak Al ?_ ?_;refine @A1 _ _ _ ?_;refine @Bq _ _ _ _ ?_;clear 2 ?_ ?_;clear 1 .Ae (ih .Ae);clear 2 ?_ ?_;exact (Ab 1);clear 2 Ag Af;clear 2 ?_ ?_;clear 1 .Ae (ih .Ae);clear 2 ?_ ?_;exact (Ab 1);clear 2 Ag Af;clear 2 Ag ?_;clear 2 Ag Af;clear 1 .Ae (ih .Ae);clear 2 ?_ ?_;exact (Ab 1);clear 2 Ag Af;clear 5;clear 4 8 sc_f_law_spoilt.nd (.inl rfl);clear 1 .Ae (ih .Ae);clear 2 ?_ ?_;exact (Ab 1);clear 2 Ag Af;clear 7;clear 9 ?_;clear 10 K0 Jd Ag (AM _);exact (Ab 8);clear 7;refine CF ?_ ?_;clear 8 AU AO ?_ ?_;clear 8 AU AO ?_ ?_;refine @CS _ _ _ _ _ _ _ _ _ _ _ sl3 Dh ?_ Df ?_;exact (Ab 5);refine Dg ?_;exact (Ab 6);refine @A1 _ _ _ ?_;refine @Bq _ _ _ _ ?_;clear 2 ?_ Af;exact (Ab 7);refine @CS _ _ _ _ _ _ _ _ _ _ _ sl3 Dh ?_ ?_ Df;exact (Ab 5);refine Dg ?_;clear 8 AU AO ?_ Ag;exact (Ab 6);refine CD ?_ ?_;exact (Ab 2);exact (Ab 4);clear 7;clear 9 ?_;clear 10 (BL hr.units) (A3 (g:=id)) Ag (AM _);exact (Ab 8);clear 7;refine CF ?_ ?_;clear 8 AU AO ?_ ?_;clear 8 AU AO ?_ ?_;refine @CS _ _ _ _ _ _ _ _ _ _ _ sl3 Dh ?_ Df ?_;exact (Ab 5);refine Dg ?_;exact (Ab 6);refine @A1 _ _ _ ?_;refine @Bq _ _ _ _ ?_;clear 2 ?_ Af;exact (Ab 7);refine @CS _ _ _ _ _ _ _ _ _ _ _ sl3 Dh ?_ ?_ Df;exact (Ab 5);refine Dg ?_;exact (Ab 6);refine CD ?_ ?_;exact (Ab 2);exact (Ab 4);clear 7;clear 9 ?_;clear 10 (BL hr.units) (A3 (g:=id)) Ag (AM _);exact (Ab 8);clear 7;refine CF ?_ ?_;clear 8 AU AO ?_ ?_;refine @CS _ _ _ _ _ _ _ _ _ _ _ sl3 Dh ?_ Df ?_;exact (Ab 5);refine Dg ?_;exact (Ab 6);refine @CS _ _ _ _ _ _ _ _ _ _ _ sl3 Dh ?_ ?_ Df;exact (Ab 5);refine Dg ?_;clear 8 AU AO ?_ Ag;exact (Ab 6);refine CD ?_ ?_;exact (Ab 2);exact (Ab 4);clear 7;refine CF ?_ ?_;clear 8 AU AO ?_ ?_;exact (Ab 5);refine @A1 _ _ _ ?_;refine D6 (EI ["k"] [(1 , "pool")] rfl rfl rfl rfl rfl) rfl ?_ ?_ ?_ ?_;refine BZ rfl M.z_range ?_;clear 2 ?_ Af;clear 1 .Ae (ih .Ae);clear 2 ?_ ?_;exact (Ab 1);clear 2 Ag Af;intro _ _ _ _ _;exact (AV (by show List.Nodup [("k" : Str) ,("pool" : Str)] ;decide +kernel) rfl (.inl rfl));intro _ _ _ _ _;exact D7;intro _ _ _ _ _;clear 1 .Ae (ih .Ae);clear 2 ?_ ?_;exact (Ab 1);clear 2 Ag Af;refine CD ?_ ?_;exact (Ab 2);exact (Ab 4);clear 7;clear 13;exact (Ab 2)
theorem sc_f_law_told:FnScope (ns .AG) (ps .AG) (Ao (st .AG)):=by clear 0
theorem MH (M:Md K mg A fd)(ih:qIh P w K mg base A fd n):qOk P w K mg base A fd n .pl .AG:=by
 obtain ⟨P',ca,x,xt,x0⟩:=M.xm;refine BR (g:=fnOf 3 6 (Ej (run n .BW))) rfl (BQ rfl rfl (M.fn .AG) sc_f_law_told (λcdv A' outer s H E hr=>?_));clear 5;exact (AK (i:=3) sc_f_law_told.nd rfl (.inl rfl) Cu);clear 5;exact (AK (i:=4) sc_f_law_told.nd rfl (.inl rfl) Cu);clear 5;refine Rp (qx:=false) x Xf rfl rfl ?_ ?_;intro pn E hp;refine NO ?_;refine CG (i:=3) sc_f_law_told.nd rfl (.inl rfl) ?_;refine Cb (ih .BW) hr rfl (M.mgs .BW) (Fun.kp (M.fn .BW)) (M.bd .BW) hp ?_;clear 2 ?_ ?_;exact (Ab 0);clear 2 ?_ ?_;refine @A1 _ _ _ ?_;refine @MX _ _ _ _ _ _ _ _ _ _ Fe Jc rfl M.z_list GW ?_ (by decide) (by decide) (by rfl) (by rfl);clear 2 ?_ Af;exact (Ab 1);clear 2 ?_ Af;refine @A1 _ _ _ ?_;refine @MX _ _ _ _ _ _ _ _ _ _ Fe Jc rfl M.z_list GW ?_ (by decide) (by decide) (by rfl) (by rfl);clear 2 ?_ Af;exact (Ab 2);refine YD (i:=5) x rfl (x.ms "Broken" (by decide)) (x.cl "Broken" (by decide)) (λ_ hn=>x.subE hn (by decide)) sc_f_law_told.nd rfl rfl ?_ Rh;intro y;clear 7;clear 4 4 sc_f_law_told.nd (.inl rfl);refine @BG _ _ _ _ _ ?_;clear 2 ?_ ?_;refine NH x x.na ?_ rfl;exact (Ab 5);clear 2 ?_ Af;refine NH x x.nd ?_ rfl;exact (Ab 5);clear 7;clear 13;refine @A1 _ _ _ ?_;refine @Bq _ _ _ _ ?_;clear 2 ?_ ?_;exact (Ab 3);clear 2 ?_ Af;exact (Ab 4)
theorem sc_f_law_read:FnScope (ns .Bh) (ps .Bh) (Ao (st .Bh)):=by clear 0
theorem ME (M:Md K mg A fd)(ih:qIh P w K mg base A fd n):qOk P w K mg base A fd n .pl .Bh:=by
 refine BR (g:=fnOf 4 12 (Eh (run n .AG) (run n .Ae) (run n .BH) (run n .A8))) rfl (BQ rfl rfl (M.fn .Bh) sc_f_law_read (λcdv A' outer s H E hr=>?_));clear 5;refine CF ?_ ?_;clear 1 .AG (ih .AG);clear 2 ?_ ?_;exact (Ab 0);clear 2 ?_ ?_;exact (Ab 1);clear 2 ?_ Af;exact (Ab 2);refine GG rfl ?_;refine Cd ?_ ?_;exact (AV sc_f_law_read.nd rfl (.inl rfl));refine Cd ?_ E3;exact (AV sc_f_law_read.nd rfl (.inl rfl));clear 5;clear 9 AH;clear 10 Sb Sy Cu (AM _);exact (Ab 5);clear 7;exact (AI C3);clear 5;refine CF ?_ ?_;exact (Ab 4);refine GG rfl ?_;refine Cd ?_ ?_;exact (AV sc_f_law_read.nd rfl (.inl rfl));refine Cd ?_ ?_;exact (AV sc_f_law_read.nd rfl (.inl rfl));refine Cd ?_ E3;exact (AV sc_f_law_read.nd rfl (.inl rfl));clear 5;clear 9 AH;refine @Fi _ _ _ ?_;refine @Fj _ _ _ _ _ _ _ ?_ ?_;clear 10 (Eu hr.units) (V9 (g:=λb=>!b)) ?_ (AM _);clear 1 .BH (P5 (ih .BH));clear 2 ?_ ?_;exact (Ab 0);clear 2 ?_ Af;exact (Ab 6);refine @BG _ _ _ _ _ ?_;clear 2 ?_ ?_;refine @CS _ _ _ _ _ _ _ _ _ _ _ sl3 Dh ?_ Df ?_;exact (Ab 1);refine Dg ?_;clear 3 Ak Al ?_ Ag;exact (Ab 8);clear 2 ?_ Af;refine @CS _ _ _ _ _ _ _ _ _ _ _ sl3 Dh ?_ Df ?_;exact (Ab 2);refine Dg ?_;clear 3 Ak Al ?_ Ag;exact (Ab 8);refine @EL _ _ _ _ ?_;clear 10 (Eu hr.units) (A3 (g:=λb=>!b)) ?_ (AM _);clear 1 .A8 (P5 (ih .A8));clear 2 ?_ ?_;exact (Ab 0);clear 2 ?_ Af;exact (Ab 6);exact (Ab 7);clear 7;exact (AI C3);clear 5;clear 4 9 sc_f_law_read.nd (.inl rfl);refine @A1 _ _ _ ?_;refine @Bq _ _ _ _ ?_;clear 2 ?_ ?_;clear 1 .Ae (ih .Ae);clear 2 ?_ ?_;exact (Ab 3);clear 2 ?_ Af;clear 8 AU AO ?_ Ag;clear 6 BA BM M.z_len B7;clear 2 ?_ Af;exact (Ab 1);clear 2 ?_ Af;clear 1 .Ae (ih .Ae);clear 2 ?_ ?_;exact (Ab 3);clear 2 ?_ Af;clear 8 AU AO ?_ Ag;clear 6 BA BM M.z_len B7;clear 2 ?_ Af;exact (Ab 2);clear 5;refine CF ?_ ?_;clear 1 .AG (ih .AG);clear 2 ?_ ?_;exact (Ab 0);clear 2 ?_ ?_;refine @CS _ _ _ _ _ _ _ _ _ _ _ sl3 Dh ?_ Df ?_;exact (Ab 1);refine Dg ?_;clear 3 Ak Al ?_ Ag;exact (Ab 9);clear 2 ?_ Af;refine @CS _ _ _ _ _ _ _ _ _ _ _ sl3 Dh ?_ Df ?_;exact (Ab 2);refine Dg ?_;clear 3 Ak Al ?_ Ag;exact (Ab 9);refine GG rfl ?_;refine Cd ?_ ?_;exact (AV sc_f_law_read.nd rfl (.inl rfl));refine Cd ?_ E3;exact (AV sc_f_law_read.nd rfl (.inl rfl));clear 7;clear 13;refine @Ie _ _ _ _ _ _ _ ?_ ?_;refine @Gm _ _ _ _ _ _ _ _ _ G4 Ha ?_ Cu (AM _);exact (Ab 11);refine @Ig _ _ _ _ _ ?_;refine @Gm _ _ _ _ _ _ _ _ _ (BL hr.units) (A3 (g:=id)) ?_ ?_ (AM _);clear 3 Ak Al ?_ Ag;exact (Ab 10);refine @CS _ _ _ _ _ _ _ _ _ _ _ sl3 Dh ?_ Df ?_;exact (Ab 6);refine Dg ?_;clear 6 BA BM M.z_len B7;clear 2 ?_ Af;clear 3 Ak Al ?_ Ag;exact (Ab 10)
theorem sc_f_law_good:FnScope (ns .Bg) (ps .Bg) (Ao (st .Bg)):=by clear 0
theorem MC (M:Md K mg A fd)(ih:qIh P w K mg base A fd n):qOk P w K mg base A fd n .pl .Bg:=by
 refine BR (g:=fnOf 3 9 (Eg (run n .Ae) (run n .AG) (run n .Bh))) rfl (BQ rfl rfl (M.fn .Bg) sc_f_law_good (λcdv A' outer s H E hr=>?_));clear 5;refine CF ?_ ?_;clear 1 .AG (ih .AG);clear 2 ?_ ?_;exact (Ab 0);clear 2 ?_ ?_;clear 3 BN Ba ?_ AF;exact (Ab 1);clear 2 ?_ Af;clear 3 BN Ba ?_ AF;exact (Ab 1);refine GG rfl ?_;refine Cd ?_ ?_;exact (AV sc_f_law_good.nd rfl (.inl rfl));refine Cd ?_ E3;exact (AV sc_f_law_good.nd rfl (.inl rfl));clear 5;clear 9 AH;clear 10 G4 Ha Cu (AM _);exact (Ab 4);clear 7;clear 13;clear 1 .Bh (ih .Bh);clear 2 ?_ ?_;exact (Ab 0);clear 2 ?_ ?_;clear 3 BN Ba ?_ AF;exact (Ab 1);clear 2 ?_ ?_;clear 3 BN Ba ?_ AF;exact (Ab 1);clear 2 ?_ Af;exact (Ab 2);clear 5;refine CF ?_ ?_;exact (Ab 4);refine GG rfl ?_;refine Cd ?_ ?_;exact (AV sc_f_law_good.nd rfl (.inl rfl));refine Cd ?_ E3;exact (AV sc_f_law_good.nd rfl (.inl rfl));clear 5;clear 9 AH;refine @Fi _ _ _ ?_;refine @Fj _ _ _ _ _ _ _ ?_ ?_;clear 10 (Sc hr.units) (Pv (neg:=true)) ?_ (by with_unfolding_all rfl);exact (Ab 6);exact (Ab 1);refine @Fj _ _ _ _ _ _ _ ?_ ?_;clear 10 K0 Jd Ag (AM _);exact (Ab 5);refine @EL _ _ _ _ ?_;clear 10 KY Ja ?_ (AM _);exact (Ab 5);clear 6 BA BM M.z_len B7;clear 2 ?_ Af;clear 3 BN Ba ?_ ?_;exact (Ab 1);exact (Ab 6);clear 7;exact (AI C3);clear 5;clear 4 7 sc_f_law_good.nd (.inl rfl);refine E2 ?_;refine Cw ?_ ?_;clear 3 BN Ba ?_ AF;exact (Ab 1);refine Cw ?_ E4;clear 3 BN Ba ?_ AF;exact (Ab 1);clear 5;refine CF ?_ ?_;refine @CS _ _ _ _ _ _ _ _ _ _ _ sl3 Dh ?_ Df ?_;clear 3 BN Ba ?_ ?_;exact (Ab 1);exact (Ab 6);refine Dg ?_;exact (Ab 5);refine CD ?_ ?_;exact (Ab 7);exact (Ab 6);clear 5;clear 9 AH;refine @CQ _ _ _ _ ?_;refine @CL _ _ _ ?_ (by intro _;rfl);clear 1 .Bh (ih .Bh);clear 2 ?_ ?_;exact (Ab 0);clear 2 ?_ ?_;clear 3 BN Ba ?_ AF;exact (Ab 7);clear 2 ?_ ?_;clear 3 BN Ba ?_ AF;exact (Ab 7);clear 2 ?_ Af;exact (Ab 2);clear 7;exact (AI C3);clear 5;clear 11 PassesOwn.never;refine @Gn _ _ _ _ ?_;refine @A1 _ _ _ ?_;refine @Bq _ _ _ _ ?_;clear 2 ?_ ?_;refine @A1 _ _ _ ?_;exact (Bq Af);clear 2 ?_ Af;refine @A1 _ _ _ ?_;refine D6 (EI ["k"] [(2 , "pool")] rfl rfl rfl rfl rfl) rfl ?_ ?_ ?_ ?_;refine BZ rfl M.z_range ?_;clear 2 ?_ Af;clear 1 .Ae (ih .Ae);clear 2 ?_ ?_;exact (Ab 2);clear 2 Ag Af;intro _ _ _ _ _;exact (AV (by show List.Nodup [("k" : Str) ,("pool" : Str)] ;decide +kernel) rfl (.inl rfl));intro _ _ _ _ _;exact D7;intro _ _ _ _ _;clear 1 .Ae (ih .Ae);clear 2 ?_ ?_;exact (Ab 1);clear 2 Ag Af;exact (AV sc_f_law_good.nd rfl (.inl rfl));clear 5;refine CF ?_ ?_;clear 8 AU AO ?_ ?_;refine @CS _ _ _ _ _ _ _ _ _ _ _ sl3 Dh ?_ Df ?_;clear 3 BN Ba ?_ ?_;exact (Ab 1);exact (Ab 6);refine Dg ?_;clear 8 AU AO ?_ Ag;exact (Ab 5);exact (Ab 8);refine CD ?_ ?_;exact (Ab 7);exact (Ab 6);clear 7;clear 9 AH;clear 10 (Eu hr.units) (A3 (g:=λb=>!b)) ?_ (AM _);clear 3 Ak Al ?_ Ag;clear 1 .AG (ih .AG);clear 2 ?_ ?_;exact (Ab 0);clear 2 ?_ ?_;clear 3 BN Ba ?_ AF;exact (Ab 7);clear 2 ?_ Af;clear 3 BN Ba ?_ AF;exact (Ab 7);refine @BG _ _ _ _ _ ?_;clear 2 ?_ ?_;exact (Ab 5);clear 2 ?_ Af;exact (Ab 6);clear 7;exact (AI C3);clear 7;exact (AI C3)
theorem sc_law_:FnScope (ns .law_) (ps .law_) (Ao (st .law_)):=by clear 0
theorem VC (M:Md K mg A fd)(ih:qIh P w K mg base A fd n):qOk P w K mg base A fd n .pl .law_:=by
 refine BR (g:=fnOf 1 8 (GJ (run n .AG) (run n .Bg) (run n .Ae) (run n .AE) (run n .Bd) (run n .Bn) (run n .AL) (run n .Bv) (run n .A5))) rfl (BQ rfl rfl (M.fn .law_) sc_law_ (λcdv A' outer s H E hr=>?_));clear 5;clear 4 1 sc_law_.nd (.inl rfl);clear 1 .A5 (ih .A5);clear 2 ?_ Af;exact (Ab 0);clear 5;clear 4 2 sc_law_.nd (.inl rfl);clear 3 Ak Al ?_ Ag;clear 1 .Bv (ih .Bv);clear 2 ?_ ?_;exact (Ab 0);clear 2 ?_ ?_;exact (Ab 1);clear 2 Ag ?_;clear 2 Ag Af;clear 5;clear 4 3 sc_law_.nd (.inl rfl);clear 1 .AL (ih .AL);clear 2 ?_ ?_;exact (Ab 2);clear 2 ?_ Af;clear 1 .Bn (ih .Bn);clear 2 ?_ ?_;exact (Ab 1);clear 2 ?_ Af;exact (Ab 2);clear 5;clear 11 PassesOwn.never;refine FZ rfl M.z_range ?_;clear 2 Ag ?_;clear 2 Ag Af;exact (AV sc_law_.nd rfl (.inl rfl));clear 5;clear 4 5 sc_law_.nd (.inr rfl);clear 1 .AE (ih .AE);clear 2 ?_ ?_;exact (Ab 0);clear 2 ?_ Af;exact (Ab 4);clear 7;clear 9 AH;refine @CQ _ _ _ _ ?_;refine @CL _ _ _ ?_ (by intro _;rfl);clear 1 .Bg (ih .Bg);clear 2 ?_ ?_;exact (Ab 1);clear 2 ?_ ?_;clear 1 .Bd (ih .Bd);clear 2 ?_ ?_;exact (Ab 3);clear 2 ?_ Af;exact (Ab 5);clear 2 ?_ Af;exact (Ab 5);clear 7;exact (AI C3);clear 5;clear 11 PassesOwn.never;refine FZ rfl M.z_range ?_;clear 2 Ag ?_;clear 2 Ag Af;exact (AV sc_law_.nd rfl (.inl rfl));clear 5;clear 4 5 sc_law_.nd (.inr rfl);clear 1 .AE (ih .AE);clear 2 ?_ ?_;exact (Ab 0);clear 2 ?_ Af;exact (Ab 4);clear 5;clear 4 6 sc_law_.nd (.inr rfl);clear 3 Ak Al ?_ ?_;refine @A1 _ _ _ ?_;refine @Bq _ _ _ _ ?_;clear 2 Ag ?_;clear 2 Ag ?_;clear 2 Ag Af;clear 1 .Ae (ih .Ae);clear 2 ?_ ?_;exact (Ab 5);clear 2 Ag Af;clear 5;clear 4 7 sc_law_.nd (.inl rfl);refine E2 ?_;refine Cw ?_ E4;refine @A1 _ _ _ ?_;refine D6 (EI ["j"] [(5 , "pool") ,(6 , "most")] rfl rfl rfl rfl rfl) rfl ?_ ?_ ?_ ?_;refine BZ rfl M.z_range ?_;clear 2 ?_ Af;clear 1 .Ae (ih .Ae);clear 2 ?_ ?_;exact (Ab 5);clear 2 Ag Af;intro _ _ _ _ _;exact (AV (by show List.Nodup [("j" : Str) ,("pool" : Str) ,("most" : Str)] ;decide +kernel) rfl (.inl rfl));intro _ _ _ _ _;exact D7;intro _ _ _ _ _;clear 1 .Ae (ih .Ae);clear 2 ?_ ?_;exact (Ab 1);clear 2 ?_ Af;exact (Ab 2);clear 5;refine CF ?_ ?_;refine @A1 _ _ _ ?_;refine D6 (EI ["j"] [(5 , "pool") ,(6 , "most")] rfl rfl rfl rfl rfl) rfl ?_ ?_ ?_ ?_;refine BZ rfl M.z_range ?_;clear 2 ?_ Af;clear 1 .Ae (ih .Ae);clear 2 ?_ ?_;exact (Ab 5);clear 2 Ag Af;intro _ _ _ _ _;exact (AV (by show List.Nodup [("j" : Str) ,("pool" : Str) ,("most" : Str)] ;decide +kernel) rfl (.inl rfl));intro _ _ _ _ _;exact D7;intro _ _ _ _ _;clear 1 .Ae (ih .Ae);clear 2 ?_ ?_;exact (Ab 1);clear 2 ?_ Af;exact (Ab 2);refine CD ?_ AF;exact (Ab 7);clear 5;clear 9 AH;refine @CQ _ _ _ _ ?_;refine @CL _ _ _ ?_ (by intro _;rfl);clear 1 .Bg (ih .Bg);clear 2 ?_ ?_;exact (Ab 1);clear 2 ?_ ?_;exact (Ab 7);clear 2 ?_ Af;exact (Ab 5);clear 7;exact (AI C3);clear 7;clear 9 AH;clear 10 (Eu hr.units) (A3 (g:=λb=>!b)) ?_ (AM _);clear 1 .AG (ih .AG);clear 2 ?_ ?_;refine @A1 _ _ _ ?_;refine @Bq _ _ _ _ ?_;clear 2 ?_ Af;refine @BG _ _ _ _ _ ?_;clear 2 AF Af;clear 2 ?_ ?_;clear 3 BN Ba ?_ AF;exact (Ab 7);clear 2 ?_ Af;clear 3 BN Ba ?_ AF;exact (Ab 7);refine @A1 _ _ _ ?_;refine @Bq _ _ _ _ ?_;clear 2 ?_ ?_;refine @BG _ _ _ _ _ ?_;clear 2 ?_ ?_;refine @A1 _ _ _ ?_;exact (Bq Af);clear 2 Ag ?_;clear 2 ?_ Af;refine @BG _ _ _ _ _ ?_;clear 2 Ag ?_;clear 2 Ag Af;clear 2 Cu Af;clear 7;exact (AI C3);clear 7;exact (AI C3)
theorem all_ok (M:Md K mg A fd):∀(n:Nat) (x:Fx),okK (kd x) P w K mg base (n + 2) (A x) (fd x) (ps x) (run n x)
 | 0,x=>TK
 | n + 1,x=>by
   have ih:=all_ok M n
   cases x with
   | Bx=>exact ML M ih
   | Az=>exact HA M ih
   | Bm=>exact TM M ih
   | Bw=>exact MK M ih
   | Bt=>exact OP M ih
   | BB=>exact MI M ih
   | BC=>exact MJ M ih
   | Bi=>exact KP M ih
   | A8=>exact JU M ih
   | Bl=>exact N3 M ih
   | AZ=>exact LM M ih
   | Bo=>exact LK M ih
   | Be=>exact KQ M ih
   | BI=>exact N5 M ih
   | Cc=>exact Qn M ih
   | Bf=>exact KU M ih
   | Av=>exact Jn M ih
   | AT=>exact KW M ih
   | A6=>exact JS M ih
   | Bu=>exact OQ M ih
   | Ay=>exact LL M ih
   | Bc=>exact OO M ih
   | AN=>exact LG M ih
   | Bk=>exact KS M ih
   | BF=>exact MO M ih
   | BV=>exact OS M ih
   | BD=>exact MM M ih
   | BE=>exact MN M ih
   | Bj=>exact KR M ih
   | BH=>exact N4 M ih
   | AY=>exact Jo M ih
   | BW=>exact OT M ih
   | BU=>exact OR M ih
   | A7=>exact JT M ih
   | A4=>exact JQ M ih
   | AE=>exact MD M ih
   | Ae=>exact MF M ih
   | AC=>exact LH M ih
   | AD=>exact LJ M ih
   | A5=>exact JR M ih
   | Bv=>exact MG M ih
   | Bn=>exact LI M ih
   | AL=>exact Hz M ih
   | Bd=>exact KO M ih
   | AG=>exact MH M ih
   | Bh=>exact ME M ih
   | Bg=>exact MC M ih
   | law_=>exact VC M ih
end
abbrev fno (x:Fx)(kV dc pm:Value)(an:Option Addr)(cd ct:Value):FuncData:=PySem.W.fnOf (nm x) (nm x) (DM (st x)) (Ca (st x)) (Ao (st x)) .none kV dc pm an cd ct
structure At (K:PySem.W.Frag)(x:Fx)(f:Addr)(fd:FuncData):Prop where
 a:PySem.W.nsIn K mainGlobals (nm x)=some (some (.ref f))
 fn:Fun K (nm x) (nm x) (st x) f fd
 bd:Binds K fd (ps x) []
 eq:∃kV dc pm an cd ct,fd=fno x kV dc pm an cd ct
theorem at_mk {K:PySem.W.Frag}{x:Fx}{f:Addr}{od an:Option Addr}{sl:Array (Option Value)}{oc kV dc pm cd ct:Value}(a:PySem.W.nsIn K mainGlobals (nm x)=some (some (.ref f)))(l:K.lookup f=some ⟨oc,od,.func (fno x kV dc pm an cd ct),sl⟩)(c:PySem.W.codeIn K cd (nm x)=true)(k:PySem.W.keepIn K (.ref f)=true):∃p:Addr×FuncData,At K x p.1 p.2:=by
 refine ⟨(f,fno x kV dc pm an cd ct),a,GZ (st:=st x) l c k,(GZ (st:=st x) l c k).binds (ps:=ps x) λ_ _ _ _ _ _ us hl=>?_,_,_,_,_,_,_,rfl⟩
 cases x <;> first | (obtain ⟨_,rfl⟩:=us1 hl;rfl) | (obtain ⟨_,_,rfl⟩:=us2 hl;rfl) | (obtain ⟨_,_,_,rfl⟩:=us3 hl;rfl) | (obtain ⟨_,_,_,_,rfl⟩:=us4 hl;rfl) | (obtain ⟨_,_,_,_,_,rfl⟩:=us5 hl;rfl) | (obtain ⟨_,_,_,_,_,_,rfl⟩:=us6 hl;rfl) | (obtain ⟨_,_,_,_,_,_,_,rfl⟩:=us7 hl;rfl)
theorem xm_all {K:PySem.W.Frag}{h:Heap}{mg:Str->Option Value}{P c1 c2 c3 c4:Addr}{f:Addr}{od an:Option Addr}{sl:Array (Option Value)}{oc kV dc pm cd ct:Value}{f2:Addr}{od2 an2:Option Addr}{sl2:Array (Option Value)}{oc2 kV2 dc2 pm2 cd2 ct2:Value}(X:K.In h)(G:h.Ns mainGlobals mg)(p:PySem.W.nsIn K mainGlobals "ParleyError" = some (some (.ref P)))(a1:PySem.W.nsIn K mainGlobals "NoValue" = some (some (.ref c1)))(a2:PySem.W.nsIn K mainGlobals "Short" = some (some (.ref c2)))(a3:PySem.W.nsIn K mainGlobals "Broken" = some (some (.ref c3)))(a4:PySem.W.nsIn K mainGlobals "NoTalk" = some (some (.ref c4)))(q:QQ K P [c1,c2,c3,c4]=true)(nd:[P,c1,c2,c3,c4].Nodup)(fi:PySem.W.findIn K (.ref c4) "__init__" = some (some (.ref f)))(l:K.lookup f=some ⟨oc,od,.func (PySem.W.fnOf "__init__" "NoTalk.__init__" (DM (Da (top 5) 0)) (Ca (Da (top 5) 0)) (Ao (Da (top 5) 0)) .none kV dc pm an cd ct),sl⟩)(ii:G0 K c4 f=true)(hf:PySem.W.isFn K (.ref f)=true)(hs:PySem.W.findIn K (.ref c4) "__setattr__" = some (some (.builtin "object.__setattr__")))(cc:PySem.W.codeIn K cd "NoTalk.__init__" = true)(k:PySem.W.keepIn K (.ref f)=true)(fi2:PySem.W.findIn K (.ref c3) "__init__" = some (some (.ref f2)))(l2:K.lookup f2=some ⟨oc2,od2,.func (PySem.W.fnOf "__init__" "Broken.__init__" (DM (Da (top 4) 0)) (Ca (Da (top 4) 0)) (Ao (Da (top 4) 0)) .none kV2 dc2 pm2 an2 cd2 ct2),sl2⟩)(ii2:G0 K c3 f2=true)(hf2:PySem.W.isFn K (.ref f2)=true)(hs2:PySem.W.findIn K (.ref c3) "__setattr__" = some (some (.builtin "object.__setattr__")))(cc2:PySem.W.codeIn K cd2 "Broken.__init__" = true)(k2:PySem.W.keepIn K (.ref f2)=true)(n1:KN K c1=true)(n2:KN K c2=true):∃(P:Addr) (ca:Str->Addr),XM K mg P ca/\(XF1 K (ca "NoTalk") P "NoTalk.__init__" (Da (top 5) 0)/\XF2 K (ca "Broken") P "Broken.__init__" (Da (top 4) 0))/\∀n∈(["NoValue", "Short"]:List Str),XN0 K (ca n):=by
 have x:=ZG X G p a1 a2 a3 a4 q nd;refine ⟨P,_,x,⟨Yw (C:=c4) (st:=(Da (top 5) 0)) ⟨x.cl "NoTalk" (by decide),x.kp "NoTalk" (by decide),x.gt "NoTalk" (by decide),x.gc "NoTalk" (by decide),x.na "NoTalk" (by decide),x.nd "NoTalk" (by decide)⟩ ii hf hs l cc k (λ_ _ _ _ _ _ us hl=>by match us,hl with | [_,_],_=>rfl),Yx (C:=c3) (st:=(Da (top 4) 0)) ⟨x.cl "Broken" (by decide),x.kp "Broken" (by decide),x.gt "Broken" (by decide),x.gc "Broken" (by decide),x.na "Broken" (by decide),x.nd "Broken" (by decide)⟩ ii2 hf2 hs2 l2 cc2 k2 (λ_ _ _ _ _ _ us hl=>by match us,hl with | [_,_,_],_=>rfl)⟩,?_⟩;intro n hn;simp only [uk6,uh9,or_false] at hn;rcases hn with rfl | rfl
 ·exact SR n1
 ·exact SR n2
theorem fin_mk {K:PySem.W.Frag}{h:Heap}{mg:Str->Option Value}{fa:Addr}(X:K.In h)(G:h.Ns mainGlobals mg)(hmg:mg "law" = some (.ref fa))(H:∀x:Fx,∃p:Addr×FuncData,At K x p.1 p.2)(z_bool:PySem.W.nsIn K mainGlobals "bool" = some none)(z_dict:PySem.W.nsIn K mainGlobals "dict" = some none)(z_int:PySem.W.nsIn K mainGlobals "int" = some none)(z_isinstance:PySem.W.nsIn K mainGlobals "isinstance" = some none)(z_len:PySem.W.nsIn K mainGlobals "len" = some none)(z_list:PySem.W.nsIn K mainGlobals "list" = some none)(z_max:PySem.W.nsIn K mainGlobals "max" = some none)(z_min:PySem.W.nsIn K mainGlobals "min" = some none)(z_ord:PySem.W.nsIn K mainGlobals "ord" = some none)(z_range:PySem.W.nsIn K mainGlobals "range" = some none)(z_str:PySem.W.nsIn K mainGlobals "str" = some none)(z_tuple:PySem.W.nsIn K mainGlobals "tuple" = some none){tk_FIRST_SIGN:Tok}(g_FIRST_SIGN:PySem.W.nsIn K mainGlobals "FIRST_SIGN" = some (some (.int 32 tk_FIRST_SIGN))){tk_LAST_SIGN:Tok}(g_LAST_SIGN:PySem.W.nsIn K mainGlobals "LAST_SIGN" = some (some (.int 126 tk_LAST_SIGN))){tk_PERCENT_SIGN:Tok}(g_PERCENT_SIGN:PySem.W.nsIn K mainGlobals "PERCENT_SIGN" = some (some (.int 37 tk_PERCENT_SIGN))){tk_SIGNS:Tok}(g_SIGNS:PySem.W.nsIn K mainGlobals "SIGNS" = some (some (.str " !\"#$ &'()*+,-./0123456789:;<=>?@ABCDEFGHIJKLMNOPQRSTUVWXYZ[\\]^_`abcdefghijklmnopqrstuvwxyz{|}~" tk_SIGNS)))(xm:∃(P:Addr) (ca:Str->Addr),XM K mg P ca/\(XF1 K (ca "NoTalk") P "NoTalk.__init__" (Da (top 5) 0)/\XF2 K (ca "Broken") P "Broken.__init__" (Da (top 4) 0))/\∀n∈(["NoValue", "Short"]:List Str),XN0 K (ca n)):∃(A:Fx->Addr) (fd:Fx->FuncData),Md K mg A fd/\A .law_=fa/\∀(s:Shared) (u:Value),BindsTo s (fd .law_) ⟨[u],[]⟩ [("script",u)]:=by
 obtain ⟨F,hF⟩:=Classical.axiomOfChoice H;refine ⟨λx=>(F x).1,λx=>(F x).2,{ fn:=λx=>(hF x).fn,mgs:=λx=>ul3 X G (hF x).a,bd:=λx=>(hF x).bd,xm:=xm,z_bool:=ug0 X G z_bool,z_dict:=ug0 X G z_dict,z_int:=ug0 X G z_int,z_isinstance:=ug0 X G z_isinstance,z_len:=ug0 X G z_len,z_list:=ug0 X G z_list,z_max:=ug0 X G z_max,z_min:=ug0 X G z_min,z_ord:=ug0 X G z_ord,z_range:=ug0 X G z_range,z_str:=ug0 X G z_str,z_tuple:=ug0 X G z_tuple,g_FIRST_SIGN:=⟨tk_FIRST_SIGN,ul3 X G g_FIRST_SIGN⟩,g_LAST_SIGN:=⟨tk_LAST_SIGN,ul3 X G g_LAST_SIGN⟩,g_PERCENT_SIGN:=⟨tk_PERCENT_SIGN,ul3 X G g_PERCENT_SIGN⟩,g_SIGNS:=⟨tk_SIGNS,ul3 X G g_SIGNS⟩ },?_,λs u=>?_⟩
 ·have e:=hmg.symm.trans (ul3 X G (hF .law_).a)
  cases e
  rfl
 ·obtain ⟨_,_,_,_,_,_,e⟩:=(hF .law_).eq;show BindsTo s (F .law_).2 _ _;rw [e];exact .of_eq rfl
theorem walk {l:PySem.W.OpenLaw}{q:Program}{loose:List Str}{XP:(Str->Option Value)->Heap->Prop}{YP:World->Heap->Prop}{d:DefRec}{K:Params->PySem.W.Frag}(m:Nat)(hm:Room (m + 2) callerA)(hn:l.most=some 63)(hdf:d.params.defaults=[])
 (hY:∀(w:World) (h:Heap),YP w h->(K w.params).In h) (lt:∀ns:List Int,ns.length<=63->∃S',run m .law_ [.scr ns] []=some (.bl true,S'))
 (F:∀(w:World) (mg:Str->Option Value) (fa:Addr) (h:Heap),(K w.params).In h->h.Ns mainGlobals mg->mg d.name=some (.ref fa)->
   ∃(A:Fx->Addr) (fd:Fx->FuncData),Md (K w.params) mg A fd/\A .law_=fa/\∀(s:Shared) (u:Value),BindsTo s (fd .law_) ⟨[u],[]⟩ [("script",u)]) :
 PySem.W.WalkO q loose XP YP l.row.toRowW d [] (λf vs=>PySem.call f vs):=
 L2.WD (n:=63) (k:=m + 2) (x:="script") (CX:=λ_=>CX0) (sp:=λw=>spF (K w.params) (run m .law_)) hn (by decide) hdf hm hY
  (λw mg fa h KX G hmg=>by obtain ⟨A,fd,M,e,b⟩:=F w mg fa h KX G hmg;subst e;exact ⟨fd .law_,b,λbase _ _=>all_ok M m .law_⟩)
  (λw H a ns hl hO hS=>by obtain ⟨S',e⟩:=lt ns hl;exact RJ hO hS e) λ_ _ _ _ _ z=>z
theorem Vy (k:Nat):O1 (run (k + 1) .Bx):=λd h=>NR h
theorem Li (k:Nat):Hd (run (k + 2) .Az):=SO (Vy k)
theorem Os (k:Nat):Kl (run (k + 1) .Bt):=Qe
theorem Ui (k:Nat):Nh (run (k + 2) .Bw):=NM (Os k)
theorem JH:∀(n k:Nat),2 * n + 3<=k->Ge (run k .Bm) n
 | 0,k,_=>λs hs=>absurd s.depth_pos (by lia)
 | n + 1,k,h=>by
   obtain ⟨j,rfl⟩:∃j,k=j + 4:=⟨k - 4,by lia⟩;have ih:=JH n (j + 2) (by lia);exact Ve (LA ih (Li j)) (NL ih) (NK ih) (Ui (j + 1)) (Li (j + 1))
theorem NT (k:Nat):HS (run (k + 1) .Bu):=Vo
theorem TH (k:Nat):M8 (run (k + 2) .A6):=VA (NT k)
theorem PC (k:Nat):Kn (run (k + 1) .AT):=Ur
theorem JG:∀(n k:Nat),n + 3<=k->GV (run k .Av) n
 | 0,k,_=>λs hs=>absurd s.depth_pos (by lia)
 | n + 1,k,h=>by
   obtain ⟨j,rfl⟩:∃j,k=j + 3:=⟨k - 3,by lia⟩;exact Vd (JG n (j + 2) (by lia)) (PC (j + 1)) (TH j)
theorem Nm (k:Nat):BX (run (k + 1) .Bc):=YA
theorem Yl (k:Nat):UX (run (k + 2) .AN):=Y8 (Nm k)
theorem Ye (k:Nat):SX (run (k + 2) .BV):=YY (Os k) (Nm k)
theorem Og:∀(n k:Nat),2 * n + 4<=k->Kk (run k .Ay) n
 | 0,k,_=>λs hs=>absurd s.depth_pos (by lia)
 | n + 1,k,h=>by
   obtain ⟨j,rfl⟩:∃j,k=j + 5:=⟨k - 5,by lia⟩;exact Ss rfl rfl rfl rfl rfl (Yl (j + 1)) (Ye (j + 1)) (NT (j + 2)) (Nm (j + 2)) (PC (j + 2)) (Og n (j + 3) (by lia))
theorem Vr (k:Nat):SS (run (k + 11) .A7):=Xc (Og 3 (k + 10) (by lia))
theorem QA (k:Nat):Nf (run (k + 12) .BU):=Qz (Vr k)
theorem QI (k:Nat):Ng (run (k + 13) .BW):=QH (QA k)
theorem U4 (k:Nat):Lk (run (k + 1) .Cc):=Rz
theorem SQ (k:Nat):Lm (run (k + 2) .BI):=Us (U4 k)
theorem Qs (k:Nat):Jw (run (k + 3) .Be):=LR (SQ k)
theorem Qt (k:Nat):Jx (run (k + 10) .Bo):=MP (JH 3 (k + 9) (by lia)) (Qs (k + 6))
theorem N0 (k:Nat):Kj (run (k + 1) .AZ):=Vx
theorem Ms (k:Nat):Km (run (k + 11) .Bl):=Wo (N0 (k + 9)) (Qt k)
theorem PY (k:Nat):Lj (run (k + 12) .A8):=Ta (N0 (k + 10)) (Ms k)
theorem TF (k:Nat):PJ (run (k + 7) .AY):=Xd (JG 3 (k + 6) (by lia))
theorem SN (k:Nat):Nj (run (k + 12) .BH):=WE (TF (k + 4)) (Ms k)
theorem Iq (k:Nat):HR (run (k + 14) .AG):=RV (QI k)
theorem Wt:VBF (run 98 .Bf):=Ym (JG 3 97 (by decide)) (JH 3 97 (by decide))
theorem Sz:M5 (run 99 .Bn):=RQ Wt
theorem SM:M7 (run 99 .AL):=RW
theorem Nx (k:Nat):IK (run (k + 1) .A4):=TR
theorem Oa (k:Nat):IL (run (k + 2) .AE):=T2 (Nx k)
theorem HH (k:Nat):PTakeOk (run (k + 1) .Ae):=T6
theorem Sg (k:Nat)(F:List (Nat×Ob)):Nb F (run (k + 2) .AE):=XD (Nx k)
theorem GN (k:Nat)(F:List (Nat×Ob)):PTakeF F (run (k + 1) .Ae):=XJ
theorem Mr:∀(n k:Nat),n + 1<=k->PShapeOk (run k .AC) n
 | 0,k,_=>λd a b S h=>absurd h (by lia)
 | n + 1,k,h=>by
   obtain ⟨j,rfl⟩:∃j,k=j + 2:=⟨k - 2,by lia⟩;exact Sm (HH j) (.inr (Mr n (j + 1) (by lia)))
theorem Py:∀(n k:Nat),n + 1<=k->PValOk (run k .AD) n
 | 0,k,_=>λs a b S h=>absurd s.depth_pos (by lia)
 | n + 1,k,h=>by
   obtain ⟨j,rfl⟩:∃j,k=j + 2:=⟨k - 2,by lia⟩;exact V2 (HH j) (.inr (Py n (j + 1) (by lia)))
theorem SC:M6 (run 99 .Bd):=RU (GN 97)
theorem Tq:Ll (run 99 .A5):=TZ (HH 97) (Mr 3 98 (by decide)) (Oa 96)
theorem Uh:Jv (run 99 .Bv):=Sn (Py 3 98 (by decide)) (HH 97) (Oa 96)
theorem RN:PF (run 98 .Bh):=TC (Iq 83) (GN 96) (SN 85) (PY 85)
theorem RL:M4 (run 99 .Bg):=RK (GN 97) (Iq 84) RN
theorem law_true (ns:List Int)(h:ns.length<=63):∃S',run 100 .law_ [.scr ns] []=some (.bl true,S'):=by
 obtain ⟨r,S',e,p⟩:=W7 (Iq 85) RL (GN 98) (Sg 97) SC Sz SM Uh Tq (ns:=ns);subst p;exact ⟨S',e⟩
end K30
namespace PySem.W.Fast
def tw10032164833236596664:=0
def tw10084698328109403873:=0
def tw10178819305970978439:=0
def tw10192654479444472493:=0
def tw10195833301353809862:=0
def tw10207771135556376320:=0
def tw10328024769603909673:=0
def tw1050385272674141687:=0
def tw105543410579846365:=0
def tw10555844099347478047:=0
def tw10653159188311558574:=0
def tw10661562642596444996:=0
def tw10661658576740073998:=0
def tw106713336512079423:=0
def tw10701133378791305436:=0
def tw10814347412718472198:=0
def tw10903058211974875488:=0
def tw10936381789898588183:=0
def tw11109677617936345370:=0
def tw11135252737506571103:=0
def tw11147484536805634403:=0
def tw11159326030465150472:=0
def tw1118970527049364383:=0
def tw11243540673586106919:=0
def tw11288075401673803177:=0
def tw11291188437612707666:=0
def tw11325317533425943174:=0
def tw11336336342321505352:=0
def tw11354022725589423000:=0
def tw11379500259548386433:=0
def tw11536071951330554071:=0
def tw1154671951067740503:=0
def tw1157530350955009209:=0
def tw11650868030223446483:=0
def tw11655745252848028421:=0
def tw1170735553480016163:=0
def tw11749257573774130716:=0
def tw11757186860831638642:=0
def tw11802618427449407258:=0
def tw11858511042758517523:=0
def tw11914201111792712009:=0
def tw11919743363648136348:=0
def tw11986287916868252800:=0
def tw11987030428712092064:=0
def tw12026058801749353932:=0
def tw12240962539815653792:=0
def tw12286468241540494502:=0
def tw12310187537696302915:=0
def tw12366453884103168024:=0
def tw12370140545330195937:=0
def tw1245838202073260195:=0
def tw12510520679842216930:=0
def tw12531047078047487458:=0
def tw12549702202327511505:=0
def tw12578014359550712030:=0
def tw12581169199458977547:=0
def tw12719938498058197089:=0
def tw12728345580875859120:=0
def tw12756143655245158060:=0
def tw12804201877975000008:=0
def tw128081458016951578:=0
def tw12823635056110036223:=0
def tw12923598263738681585:=0
def tw13074583420230634261:=0
def tw13077069909156935107:=0
def tw13099749669693855901:=0
def tw13111469226616867738:=0
def tw13255834296758794565:=0
def tw13323108681546776801:=0
def tw13352182462603985091:=0
def tw13363799090752209828:=0
def tw13404205673924631505:=0
def tw13421150864906547523:=0
def tw13454673271964088070:=0
def tw13531000779532772683:=0
def tw13565939920778112380:=0
def tw1362287046726495877:=0
def tw13634228365657666831:=0
def tw13640740881786144750:=0
def tw13726154652830187603:=0
def tw13734073216517544406:=0
def tw13786177516428630909:=0
def tw13787159059977665929:=0
def tw13835079311952723726:=0
def tw1384736931885436261:=0
def tw13858010458326534962:=0
def tw13887895081915870140:=0
def tw13925631127472326325:=0
def tw14111617124848127848:=0
def tw14121574284659598440:=0
def tw14172824761009223098:=0
def tw14232205311065020318:=0
def tw1433584906900883055:=0
def tw14341713119119944781:=0
def tw14385683519704809884:=0
def tw14395041866125271014:=0
def tw14752230765355980403:=0
def tw14777351387981743323:=0
def tw14813779068545376656:=0
def tw14931077340277522803:=0
def tw15124395932990348727:=0
def tw15131106034156390093:=0
def tw15177756787981602393:=0
def tw15265119217368295262:=0
def tw15333449348871977837:=0
def tw15379518603432680820:=0
def tw15398399302673127827:=0
def tw15403454289385671455:=0
def tw15409013261970983120:=0
def tw15487263981264763129:=0
def tw15504834088333780859:=0
def tw15511948259025750086:=0
def tw15512174026733600218:=0
def tw15521957064896826390:=0
def tw1562382420468563601:=0
def tw15624117600517144124:=0
def tw15630986125056978671:=0
def tw15645357299832109424:=0
def tw15705869968165903822:=0
def tw157179522488711845:=0
def tw15720535001259767209:=0
def tw15771939870569349052:=0
def tw15870198251827065244:=0
def tw15941458864205337652:=0
def tw15945085264516946015:=0
def tw15977544506147021357:=0
def tw16023071740378632231:=0
def tw16049032154501295392:=0
def tw16120833279304872733:=0
def tw16159926220813798680:=0
def tw16229942536176953742:=0
def tw16259081820581568816:=0
def tw16288000082333481464:=0
def tw16325149892310926924:=0
def tw1633626903033793687:=0
def tw16337090536800708737:=0
def tw16358796115113169863:=0
def tw16382961738321860103:=0
def tw16447109130006945030:=0
def tw16483511416111371507:=0
def tw16523771458184186102:=0
def tw16529559085063783504:=0
def tw16558429442628289726:=0
def tw16565585359876843428:=0
def tw16628821085434345960:=0
def tw16648696506150365727:=0
def tw16677367190436132908:=0
def tw16699713754081419131:=0
def tw16821288824405489037:=0
def tw16828861998851035873:=0
def tw16839586231141433545:=0
def tw16871981438047518423:=0
def tw16932940182720966207:=0
def tw17014253443074493165:=0
def tw17015569882257053256:=0
def tw17020433534820169079:=0
def tw17036451541387312629:=0
def tw17040945266615894437:=0
def tw17120226497687105714:=0
def tw17177408126110924454:=0
def tw17179311816480598757:=0
def tw17191672194359775765:=0
def tw17309924113330118895:=0
def tw17315763543371445131:=0
def tw17323175536664049457:=0
def tw17342062233192136064:=0
def tw17356035092699854437:=0
def tw17356282541269434814:=0
def tw17426508969651479598:=0
def tw17544436931239520927:=0
def tw17545330999148237278:=0
def tw17597460144952370237:=0
def tw17604548360486705042:=0
def tw17622429447871873797:=0
def tw17684806195409272207:=0
def tw17716987305969661782:=0
def tw17730624313822146423:=0
def tw17779990583212393679:=0
def tw17781902218318814646:=0
def tw17794471448468344389:=0
def tw17830691456646224064:=0
def tw17869524802487661893:=0
def tw17950249003378217276:=0
def tw1801915106246379842:=0
def tw1801939725687512332:=0
def tw18041472588643738108:=0
def tw18054271436936260968:=0
def tw18073571604345734694:=0
def tw18089486421024146900:=0
def tw18118529347310943961:=0
def tw18138743966781066144:=0
def tw18179396149314435964:=0
def tw18201689215886712603:=0
def tw18207074331558144733:=0
def tw18207790223537727390:=0
def tw18214571201605962693:=0
def tw18330665907459013640:=0
def tw18372263225641620203:=0
def tw18397382414790104429:=0
def tw18399907644347269920:=0
def tw1873350610368305605:=0
def tw1924147771307972975:=0
def tw2008831783711282846:=0
def tw2095307472861258188:=0
def tw2150184415548353551:=0
def tw2174564825910996391:=0
def tw2206241229125135587:=0
def tw2224303179189685735:=0
def tw2331797927223999918:=0
def tw2333404061678792036:=0
def tw2386707205432209927:=0
def tw2595767921031161219:=0
def tw2651777068089285622:=0
def tw2700417400127993222:=0
def tw2723026472339661664:=0
def tw2938561192889835365:=0
def tw2940969530343254723:=0
def tw2950935786661960132:=0
def tw3087500877123149441:=0
def tw3128714330107459967:=0
def tw3140674492954159328:=0
def tw3175244558128579915:=0
def tw3241339363687409741:=0
def tw3289128011795722728:=0
def tw3323514706830006830:=0
def tw336152133368967677:=0
def tw3375712558688835929:=0
def tw3453991357712600314:=0
def tw3468547622401715107:=0
def tw3501168387815017569:=0
def tw360864627448773550:=0
def tw3618863098176542902:=0
def tw3635662087897317779:=0
def tw3712272903928952976:=0
def tw3794727355308766730:=0
def tw3826949224280797345:=0
def tw3861990310573616686:=0
def tw3885779476584622156:=0
def tw4026604129932796883:=0
def tw4278017573215958183:=0
def tw432905912778811959:=0
def tw4355868564849154710:=0
def tw4362974235059050639:=0
def tw4402669739419183086:=0
def tw4456612297402388087:=0
def tw4458259260590706042:=0
def tw4464857230677182033:=0
def tw4510502645265315531:=0
def tw4635736638258085990:=0
def tw4702459973863731602:=0
def tw4733680705795212549:=0
def tw4785599494514294865:=0
def tw4789571046682413009:=0
def tw4852801789363249854:=0
def tw4947116877061161218:=0
def tw4992704602481661962:=0
def tw5067474798744377902:=0
def tw516215639644074541:=0
def tw5176871199275320020:=0
def tw5185983923749261808:=0
def tw5220269540780001129:=0
def tw5229532827035071418:=0
def tw5287871697141729398:=0
def tw5295973430788574759:=0
def tw5311690516762274046:=0
def tw5322349846719653296:=0
def tw5329051821598853890:=0
def tw5332536779322056588:=0
def tw5334661104432451457:=0
def tw5357838619234864344:=0
def tw539744062955690990:=0
def tw540124185246362129:=0
def tw5483093417194615068:=0
def tw5490723702726772807:=0
def tw5551365122200321978:=0
def tw5579783132707873018:=0
def tw5581010457171996846:=0
def tw5634102114214690906:=0
def tw5676043582781796130:=0
def tw5683476573848936419:=0
def tw5686804043029047483:=0
def tw5739510235442724453:=0
def tw5768865101784325618:=0
def tw5771405393287517055:=0
def tw5815445406975041335:=0
def tw5825261831782236350:=0
def tw5900354005269359567:=0
def tw5953424754069448209:=0
def tw5995767045069338633:=0
def tw6016967159659540552:=0
def tw603039142742603034:=0
def tw6070149762808104066:=0
def tw6144733833642177702:=0
def tw6163336118229157786:=0
def tw618499677256916395:=0
def tw6191537893131360975:=0
def tw6212516138356730035:=0
def tw6230427437725671690:=0
def tw6301388418658109178:=0
def tw6315566301816995422:=0
def tw6350192765493994226:=0
def tw6378872919293728654:=0
def tw654346612433751951:=0
def tw6608168372507016072:=0
def tw6687865733528957907:=0
def tw6696506368975918086:=0
def tw674591846899168726:=0
def tw6794390511458106723:=0
def tw6808984039646810024:=0
def tw6832877630126151003:=0
def tw6956243086975193974:=0
def tw6994596015407246353:=0
def tw7017928162204758747:=0
def tw7245402728741738885:=0
def tw7245789042870963614:=0
def tw7339624703091547034:=0
def tw7430331256471316623:=0
def tw7437903385286066704:=0
def tw7470244734547046026:=0
def tw7499637801866965473:=0
def tw7513457511662848549:=0
def tw7545623895045829321:=0
def tw7634794635879525140:=0
def tw7638901088145660871:=0
def tw7671044787051527700:=0
def tw7675723308586689050:=0
def tw7696464766261063622:=0
def tw7702885503446725124:=0
def tw773280247080396660:=0
def tw7740469191186593301:=0
def tw7744902530489702011:=0
def tw7758368704034595726:=0
def tw7763958000985337224:=0
def tw7775539964943779246:=0
def tw780677359705613877:=0
def tw7838673122553252631:=0
def tw7846736757693366705:=0
def tw7902530863247240873:=0
def tw8045032071609361558:=0
def tw8099424745763004594:=0
def tw8102082820508936895:=0
def tw810839238647494915:=0
def tw8125770103282719770:=0
def tw816780072426282506:=0
def tw8189952213088357016:=0
def tw8228241079708780110:=0
def tw8228731248003598190:=0
def tw8283507995503953451:=0
def tw8290660978247376264:=0
def tw8311327946965472899:=0
def tw8336103489827892523:=0
def tw8337623495163020332:=0
def tw8400190482347426347:=0
def tw8420771652355242074:=0
def tw8451269536286070554:=0
def tw8495827647274831392:=0
def tw8574141323618465747:=0
def tw8578657013206756558:=0
def tw8590795874179119584:=0
def tw8593661002274878423:=0
def tw8602263131066413237:=0
def tw8623355288243163075:=0
def tw8674043237409416847:=0
def tw8680630898781931252:=0
def tw8703778128762221104:=0
def tw8840289633196187296:=0
def tw8879531573503434463:=0
def tw8949256384897339220:=0
def tw902962959361997029:=0
def tw9107158042458534898:=0
def tw9170085292586510897:=0
def tw9301206399387714042:=0
def tw9332171154656816096:=0
def tw942194140599735505:=0
def tw9428189052105791868:=0
def tw962817469515569012:=0
def tw9630379184281148151:=0
def tw966918613276294636:=0
def tw9839433089765398357:=0
def tw9924747039593095800:=0
def tw9934693204100384206:=0
def tw9954907256834323111:=0
end PySem.W.Fast
open PySem PySem.W PyProof.Rows
set_option maxRecDepth 100000 in
set_option maxHeartbeats 0 in
theorem PySem.Challenge.cw_wireparley_k30_whole_any_bytes_holds : PySem.Challenge.rw_wireparley_k30_whole_any_bytes.Holds := by
 w_on;o_law;k_head;(case hw=>w_witness2)
 k_fill
 refine K30.walk (l:=PySem.Challenge.rw_wireparley_k30_whole_any_bytes) 100 ⟨rfl,by decide,by decide⟩ rfl rfl (λw h Y=>PySem.W.kIn_of Y) K30.law_true ?F
 case F=>
  intro w mg fa h KX G hmg;refine' K30.fin_mk KX G hmg ?H ?z_bool ?z_dict ?z_int ?z_isinstance ?z_len ?z_list ?z_max ?z_min ?z_ord ?z_range ?z_str ?z_tuple ?g_FIRST_SIGN ?g_LAST_SIGN ?g_PERCENT_SIGN ?g_SIGNS ?xm
  (case H=>intro x;cases x <;> (refine' K30.at_mk ?a ?l ?c ?k;(case a=>k_is);(case l=>k_is);(case c=>k_is);(case k=>k_is)))
  (case z_bool=>k_is)
  (case z_dict=>k_is)
  (case z_int=>k_is)
  (case z_isinstance=>k_is)
  (case z_len=>k_is)
  (case z_list=>k_is)
  (case z_max=>k_is)
  (case z_min=>k_is)
  (case z_ord=>k_is)
  (case z_range=>k_is)
  (case z_str=>k_is)
  (case z_tuple=>k_is)
  (case g_FIRST_SIGN=>k_is)
  (case g_LAST_SIGN=>k_is)
  (case g_PERCENT_SIGN=>k_is)
  (case g_SIGNS=>k_is)
  (case xm=>refine' K30.xm_all KX G ?x_p ?x_a1 ?x_a2 ?x_a3 ?x_a4 ?x_q ?x_nd ?x_fi ?x_l ?x_ii ?x_hf ?x_hs ?x_cc ?x_k ?y_fi ?y_l ?y_ii ?y_hf ?y_hs ?y_cc ?y_k ?x_n1 ?x_n2;(case x_p=>k_is);(case x_a1=>k_is);(case x_a2=>k_is);(case x_a3=>k_is);(case x_a4=>k_is);(case x_q=>kernel_rfl);(case x_nd=>decide);(case x_fi=>k_is);(case x_l=>k_is);(case x_ii=>kernel_rfl);(case x_hf=>k_is);(case x_hs=>k_is);(case x_cc=>k_is);(case x_k=>k_is);(case y_fi=>k_is);(case y_l=>k_is);(case y_ii=>kernel_rfl);(case y_hf=>k_is);(case y_hs=>k_is);(case y_cc=>k_is);(case y_k=>k_is);(case x_n1=>kernel_rfl);(case x_n2=>kernel_rfl))
