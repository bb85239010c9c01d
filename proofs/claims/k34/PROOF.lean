import PyProof.Rows.All
import Wide.All
import OpenK.AllK
import Wide.FinOn
import Lean
import PyProof.EqAt
import PyProof.EqKinds
import PyProof.TupleCall
import PyProof.NeKinds
import PyProof.ListMulRoad
import PyProof.MaxThree
import PyProof.Rows.StrJoinMade
import PyProof.ListStr
import PyProof.Rows.MinMaxN
import PyProof.Rows.Range3
import PyProof.ListRange
import PyProof.Rows.SetFrom
import PyProof.Rows.StrCase
import PyProof.SumAny
import PyProof.AutoIntG2
import PyProof.AutoListH
import PyProof.EnumStmt
import PyProof.EnumFor
import PyProof.EnumMake
import PyProof.Rows.EnumRows
import PyProof.ConsumeS
import PyProof.Rows.SortWalk
import KE.KDictSum
import PyProof.ZipIter
import KE.KEqDict
import PyProof.ExcClass2
import PyProof.RaisesMany
import PyProof.ExcBaseAll.ValueError
import PyProof.RulesDel
import PyProof.RulesAs
import PyProof.ExcArgs
import KE.KDictOf
import PyProof.AttrMissHeap
import KE.KMinKey
import PyProof.Rows.CallKwBuiltin
import PySem.Challenge.RW_wireparley_k34_two_readers
noncomputable section
abbrev ua0:=@List.findIdx?_eq_some_iff_getElem
abbrev ua1:=@PyProof.Rows.slot_tuple_getitem
abbrev ua2:=@Array.getElem?_setIfInBounds_ne
abbrev ua3:=@List.eq_nil_of_length_eq_zero
abbrev ua4:=@PyProof.Rows.callWith_type1
abbrev ua5:=@PySem.F.slot_int_bit_length
abbrev ua6:=@Int.fdiv_eq_ediv_of_nonneg
abbrev ua7:=@List.getElem?_append_right
abbrev ua8:=@Array.getElem?_eq_some_iff
abbrev ua9:=@PySem.F.excBase_ValueError
abbrev ub0:=@List.getD_eq_getElem?_getD
abbrev ub1:=@List.getElem?_eq_some_iff
abbrev ub2:=@List.getElem?_append_left
abbrev ub3:=@List.drop_eq_getElem_cons
abbrev ub4:=@List.getElem?_eq_none_iff
abbrev ub5:=@PySem.F.args_tuple_add_2
abbrev ub6:=@List.getElem?_eq_getElem
abbrev ub7:=@Array.size_setIfInBounds
abbrev ub8:=@List.getElem?_replicate
abbrev ub9:=@PySem.F.entry_tuple_add
abbrev uc0:=@List.length_eq_zero_iff
abbrev uc1:=@PySem.F.plainAttrs_list
abbrev uc2:=@Int.eq_ofNat_of_zero_le
abbrev uc3:=@List.getElem?_set_self
abbrev uc4:=@PySem.Heap.get?_push_of_some
abbrev uc5:=@PySem.W.cellsFrom_some
abbrev uc6:=@PySem.F.slot_tuple_add
abbrev uc7:=@PySem.Heap.get?_update_other
abbrev uc8:=@Option.map_eq_some_iff
abbrev uc9:=@List.take_of_length_le
abbrev ud0:=@Nat.le_of_succ_le_succ
abbrev ud1:=@List.mem_append_right
abbrev ud2:=@PySem.W.methodCall_KW
abbrev ud3:=@List.length_replicate
abbrev ud4:=@PySem.Heap.get?_update_self
abbrev ud5:=@List.length_singleton
abbrev ud6:=@Nat.le_of_ble_eq_true
abbrev ud7:=@List.take_append_drop
abbrev ud8:=@List.mem_cons_of_mem
abbrev ud9:=@List.mem_append_left
abbrev ue0:=@List.getElem?_set_ne
abbrev ue1:=@List.mem_of_getElem?
abbrev ue2:=@List.forall_mem_cons
abbrev ue3:=@List.pairwise_append
abbrev ue4:=@List.filterMap_cons
abbrev ue5:=@Array.length_toList
abbrev ue6:=@PySem.Heap.get?_push_size
abbrev ue7:=@PySem.W.plainGet_of
abbrev ue8:=@List.replicate_succ
abbrev ue9:=@List.map_congr_left
abbrev uf0:=@Int.toNat_of_nonneg
abbrev uf1:=@Nat.add_le_add_left
abbrev uf2:=@Nat.lt_of_lt_of_le
abbrev uf3:=@List.mem_cons_self
abbrev uf4:=@Bool.false_ne_true
abbrev uf5:=@Array.find?_toList
abbrev uf6:=@PySem.W.callWith_K
abbrev uf7:=@List.length_append
abbrev uf8:=@Bool.false_eq_true
abbrev uf9:=@List.mem_singleton
abbrev ug0:=@Int.emod_lt_of_pos
abbrev ug1:=@PySem.W.mg_none_of
abbrev ug2:=@List.size_toArray
abbrev ug3:=@List.getElem?_map
abbrev ug4:=@Int.toNat_natCast
abbrev ug5:=@List.flatten_cons
abbrev ug6:=@List.append_assoc
abbrev ug7:=@Bool.eq_false_iff
abbrev ug8:=@List.getElem?_set
abbrev ug9:=@Option.some.injEq
abbrev uh0:=@Nat.le_succ_of_le
abbrev uh1:=@decide_eq_true_eq
abbrev uh2:=@of_decide_eq_true
abbrev uh3:=@List.getElem_inj
abbrev uh4:=@List.length_cons
abbrev uh5:=@Nat.lt_succ_self
abbrev uh6:=@List.length_take
abbrev uh7:=@List.length_drop
abbrev uh8:=@Bool.and_eq_true
abbrev uh9:=@List.lookup_cons
abbrev ui0:=@List.drop_length
abbrev ui1:=@Nat.le_add_right
abbrev ui2:=@List.all_eq_true
abbrev ui3:=@List.not_mem_nil
abbrev ui4:=@List.getElem_mem
abbrev ui5:=@List.cons_append
abbrev ui6:=@List.mem_flatten
abbrev ui7:=@beq_self_eq_true
abbrev ui8:=@List.mem_append
abbrev ui9:=@Option.some.inj
abbrev uj0:=@List.length_map
abbrev uj1:=@PySem.W.kia_one
abbrev uj2:=@List.append_nil
abbrev uj3:=@List.nodup_cons
abbrev uj4:=@List.of_mem_zip
abbrev uj5:=@List.length_set
abbrev uj6:=@List.foldl_cons
abbrev uj7:=@List.nil_append
abbrev uj8:=@List.find?_cons
abbrev uj9:=@List.length_nil
abbrev uk0:=@Option.map_some
abbrev uk1:=@Bool.or_eq_true
abbrev uk2:=@Nat.not_lt_zero
abbrev uk3:=@List.map_append
abbrev uk4:=@Int.emod_nonneg
abbrev uk5:=@decide_eq_false
abbrev uk6:=@List.mem_range
abbrev uk7:=@Bool.false_and
abbrev uk8:=@Bool.and_false
abbrev uk9:=@List.drop_zero
abbrev ul0:=@List.nodup_nil
abbrev ul1:=@decide_eq_true
abbrev ul2:=@Nat.lt_irrefl
abbrev ul3:=@List.mem_cons
abbrev ul4:=@List.map_cons
abbrev ul5:=@Bool.or_false
abbrev ul6:=@List.all_cons
abbrev ul7:=@List.any_cons
abbrev ul8:=@Bool.true_and
abbrev ul9:=@Nat.add_assoc
abbrev um0:=@PySem.W.mg_of
abbrev um1:=@PySem.wpAny_holding
abbrev um2:=@PySem.Heap.lt_size
abbrev um3:=@Nat.ne_of_lt
abbrev um4:=@Nat.le_trans
abbrev um5:=@Nat.ne_of_gt
abbrev um6:=@Nat.le_of_eq
abbrev um7:=@Nat.mul_comm
abbrev um8:=@List.map_nil
abbrev um9:=@List.mem_map
abbrev un0:=@List.map_map
abbrev un1:=@Int.zero_add
abbrev un2:=@Nat.le_refl
abbrev un3:=@Nat.zero_le
abbrev un4:=@Nat.le_succ
abbrev un5:=@PySem.wpAny_field
abbrev un6:=@PySem.wpAny_bind
abbrev un7:=@PySem.wpAny_pure
abbrev un8:=@PySem.wpAny_mono
set_option Elab.async false
set_option linter.all false
set_option maxRecDepth 100000
local macro_rules | `(tactic| walk_at "h") => `(tactic| first | exact Or.inl rfl | exact Or.inr rfl | exact Or.inr (Or.inl rfl) | exact Or.inr (Or.inr rfl) | assumption)
namespace L2
open PySem PySem.Spec PyProof.Rows
abbrev Key:=Sum Int Str
noncomputable def HR:Key->Value->Bool
 | .inl k,v=>Value.isInt k v
 | .inr x,v=>Value.isStrOf x v
noncomputable def bp (w:World):Key->Int
 | .inl k=>hashInt k
 | .inr x=>hashStr w x
theorem BE:∀{k:Key} {v:Value},HR k v=true->(∃i t,k=Sum.inl i/\v=Value.int i t)\/(∃x t,k=Sum.inr x/\v=Value.str x t)
 | .inl i,v,h=>by
   obtain ⟨t,e⟩:=Value.isInt_shape (k:=i) (v:=v) h;exact .inl ⟨i,t,rfl,e⟩
 | .inr x,v,h=>by
   obtain ⟨t,e⟩:=Value.isStrOf_shape (x:=x) (v:=v) h;exact .inr ⟨x,t,rfl,e⟩
theorem Ql (i:Int)(t:Tok):HR (.inl i) (.int i t)=true:=by simp [HR,Value.isInt]
theorem Qm (x:Str)(t:Tok):HR (.inr x) (.str x t)=true:=by simp [HR,Value.isStrOf]
theorem XJ (a b:Int):decide ((Sum.inl a:Key)=Sum.inl b)=(a == b):=by
 by_cases e:a=b
 ·subst e;simp
 ·have h:¬(Sum.inl a:Key)=Sum.inl b:=λq=>e (Sum.inl.inj q);rw [uk5 h];exact (beq_eq_false_iff_ne.mpr e).symm
theorem XO (a b:Str):decide ((Sum.inr a:Key)=Sum.inr b)=decide (a=b):=by
 by_cases e:a=b
 ·subst e;simp
 ·have h:¬(Sum.inr a:Key)=Sum.inr b:=λq=>e (Sum.inr.inj q);rw [uk5 h,uk5 e]
theorem XL (a:Int)(b:Str):decide ((Sum.inl a:Key)=Sum.inr b)=false:=uk5 (λq=>nomatch q)
theorem XN (a:Str)(b:Int):decide ((Sum.inr a:Key)=Sum.inl b)=false:=uk5 (λq=>nomatch q)
def BA (prog:Program)(w:World):PySem.KeyKind prog w Key where
 is:=HR
 hash:=bp w
 inj:=λv a b ha hb=>by
  rcases BE ha with ⟨i,t,rfl,rfl⟩ | ⟨x,t,rfl,rfl⟩
  ·rcases BE hb with ⟨j,u,rfl,e⟩ | ⟨y,u,rfl,e⟩
   ·injection e with e1 _;rw [e1]
   ·exact nomatch e
  ·rcases BE hb with ⟨j,u,rfl,e⟩ | ⟨y,u,rfl,e⟩
   ·exact nomatch e
   ·injection e with e1 _;rw [e1]
 byValue:=λk v h=>by
  rcases BE h with ⟨i,t,rfl,rfl⟩ | ⟨x,t,rfl,rfl⟩ <;> rfl
 pyHash:=λhv h=>by
  rcases BE hv with ⟨i,t,rfl,rfl⟩ | ⟨x,t,rfl,rfl⟩
  ·exact wpAny_pyHash_int h
  ·exact wpAny_pyHash_str h
 eqBool:=λhu hv h=>by
  rcases BE hu with ⟨i,t,rfl,rfl⟩ | ⟨x,t,rfl,rfl⟩
  ·rcases BE hv with ⟨j,u,rfl,rfl⟩ | ⟨y,u,rfl,rfl⟩
   ·rw [XJ] at h;exact wpAny_eqBool_int h
   ·rw [XL] at h;exact SeqAt.EqAt.int_str i t y u _ _ _ _ h
  ·rcases BE hv with ⟨j,u,rfl,rfl⟩ | ⟨y,u,rfl,rfl⟩
   ·rw [XN] at h;exact SeqAt.EqAt.str_int x t j u _ _ _ _ h
   ·rw [XO] at h;exact wpAny_eqBool_str h
 «strs»:=λk x t v h=>by
  rcases BE h with ⟨i,u,rfl,e⟩ | ⟨y,u,rfl,e⟩
  ·exact nomatch e
  ·injection e with e1 _
   subst e1
   cases v <;> rfl
theorem M6 (prog:Program)(w:World)(i:Int)(t:Tok):(BA prog w).is (.inl i) (.int i t)=true:=Ql i t
theorem M7 (prog:Program)(w:World)(x:Str)(t:Tok):(BA prog w).is (.inr x) (.str x t)=true:=Qm x t
inductive V where
 | non | bl (b:Bool) | int (i:Int) | str (x:Str) | byt (b:Array UInt8) | flt (b:UInt64) | ref (a:Addr) | ty (n:String)
 deriving DecidableEq
noncomputable def RelV:V->Value->Prop
 | .non,u=>u=Value.none
 | .bl b,u=>u=Value.bool b
 | .int i,u=>∃t,u=Value.int i t
 | .str x,u=>∃t,u=Value.str x t
 | .byt b,u=>∃t,u=Value.bytes b t
 | .flt b,u=>∃t,u=Value.float b t
 | .ref a,u=>u=Value.ref a
 | .ty n,u=>u=Value.type n
abbrev Vals:List V->List Value->Prop:=Paired RelV
theorem Vals.length {xs:List V}{us:List Value}(r:Vals xs us):xs.length=us.length:=Paired.length r
theorem Vals.get:∀{xs:List V} {us:List Value} {i:Nat} {x:V},Vals xs us->xs[i]?=some x->∃u,us[i]?=some u/\RelV x u
 | _,_,_,_,.nil,e=>by simp at e
 | _,_,0,_,.cons r _,e=>by simp at e;subst e;exact ⟨_,rfl,r⟩
 | _,_,i + 1,x,.cons _ t,e=>by
   obtain ⟨u,h1,h2⟩:=Vals.get (i:=i) (x:=x) t (by simpa using e);exact ⟨u,by simpa using h1,h2⟩
theorem Vals.set {x:V}{u:Value}(r:RelV x u):∀{xs:List V} {us:List Value} (i:Nat),Vals xs us->Vals (xs.set i x) (us.set i u)
 | _,_,_,.nil=>.nil
 | _,_,0,.cons _ t=>.cons r t
 | _,_,i + 1,.cons q t=>.cons q (Vals.set r i t)
theorem Vals.append {xs ys:List V}{us ws:List Value}(r:Vals xs us)(s:Vals ys ws):Vals (xs++ys) (us++ws):=by
 cases r with
 | nil=>exact s
 | cons r t=>exact .cons r (Vals.append t s)
theorem Vals.take:∀{xs:List V} {us:List Value} (n:Nat),Vals xs us->Vals (xs.take n) (us.take n)
 | _,_,0,_=>.nil
 | _,_,_ + 1,.nil=>.nil
 | _,_,n + 1,.cons r t=>.cons r (Vals.take n t)
theorem Vals.drop:∀{xs:List V} {us:List Value} (n:Nat),Vals xs us->Vals (xs.drop n) (us.drop n)
 | _,_,0,r=>r
 | _,_,_ + 1,.nil=>.nil
 | _,_,n + 1,.cons _ t=>Vals.drop n t
def RelO:Option V->Option Value->Prop
 | some v,some u=>RelV v u
 | none,none=>True
 | _,_=>False
def KV {κ:Type}:List (κ×V)->List (κ×Value)->Prop:=Paired λ(p:κ×V) (q:κ×Value)=>p.1=q.1/\RelV p.2 q.2
noncomputable def kV:Key->V
 | .inl i=>.int i
 | .inr x=>.str x
inductive HO where
 /-- a list -/
 | lst (xs:List V)
 /-- a tuple (never changes) -/
 | tup (xs:List V)
 /-- a dict whose keys are ints and texts;one whose keys are tuples of ints and texts (the empty one is both) -/
 | dK (kvs:List (Key×V)) | dT (kvs:List (List Key×V))
 /-- a set of ints: its members,its size -/
 | set (S:Int->Bool) (n:Nat)
 /-- an instance of the class at C,its dict at dx,its attributes -/
 | ins (C dx:Addr) (fs:List (Str×V))
 /-- the dict of the instance at x -/
 | own (x:Addr)
 /-- the dict of an exception -/
 | xd (fs:List (Str×V))
 /-- a bound method,f of x -/
 | met (f x:Addr)
 /-- a range object lo,lo + 1,.. below hi -/
 | rng (lo hi:Int)
 /-- a thing that is known to the object (the script;a dict while a loop walks it): read,never written while it is so -/
 | frz (o:Obj) (u:HO)
 /-- a code object's table -/
 | tbl (ps:Array Value)
 /-- any other thing,by what is true of its one object (a def of one's own: SetO a S n:=HO.ext λh=>..) -/
 | ext (φ:Heap->Prop)
abbrev Hp:=Addr->Option HO
noncomputable def upd (H:Hp)(a:Addr)(o:HO):Hp:=λb=>if b=a then some o else H b
variable {H:Hp}{a:Addr}{o:HO}
theorem Aj:upd H a o a=some o:=by unfold upd;rw [if_pos rfl]
variable {b:Addr}
theorem Ah (h:b≠a):upd H a o b=H b:=by unfold upd;rw [if_neg h]
theorem N3 {u:HO}:upd (upd H a o) a u=upd H a u:=by
 funext b;unfold upd;split <;> rfl
theorem AE (h:H a=some o)(h':H b=none):a≠b:=by
 intro e;subst e;rw [h] at h';cases h'
section
variable (P:Program)(w:World)
def ObjOk (H:Hp)(h:Heap)(a:Addr):HO->Prop
 | .lst xs=>xs.length<=sizeLine/\∃(its:List Value) (n:Nat),Vals xs its/\h.get? a=some { cls:=.type "list",data:=.seq its.toArray n }
 | .tup xs=>xs.length<=sizeLine/\∃its:List Value,Vals xs its/\IsTup h a its.toArray
 | .dK kvs=>kvs.length<=sizeLine/\(a == sysModules)=false/\∃vs,KV kvs vs/\h.DictOf (BA P w) a vs
 | .dT kvs=>kvs.length<=sizeLine/\(a == sysModules)=false/\∃xs:List (List Key×Addr×Value),
    Paired (λ(p:List Key×V) (q:List Key×Addr×Value)=>p.1=q.1/\H q.2.1=some (.tup (p.1.map kV))/\RelV p.2 q.2.2) kvs xs/\
    ∃o es ep,h.get? a=some o/\o.ExactDict/\o.data = .dict es ep/\es.toList=xs.map (entryOfKey (tupleKind (BA P w)))/\(xs.map (·.1)).Nodup
 | .set S n=>h.SetOf (intKind P w) a S n
 | .ins C dx fs=>H dx=some (.own a)/\fs.length<=1000/\dx≠a/\h.get? a=some (PySem.W.instObj C dx)/\
    ∃mA,h.Ns1 dx mA/\(∀f,RelO (fs.lookup f) (mA f))/\PySem.Within mA (fs.map (·.1))
 | .own _=>∃o,h.get? a=some o
 | .xd fs=>∃mA,h.Ns1 a mA/\∀f,RelO (fs.lookup f) (mA f)
 | .rng lo hi=>∃t u v,h.get? a=some { cls:=.type "range",data:=.fields #[.int lo t,.int hi u,.int 1 v] }
 | .frz o u=>h.get? a=some o/\ObjOk H h a u
 | .tbl ps=>h.get? a=some { cls:=.none,data:=.fields ps }
 | .met f x=>h.get? a=some (PySem.W.methodObj (.ref f) (.ref x))
 | .ext φ=>φ h/\(∃o,h.get? a=some o)/\∀h1 h2:Heap,φ h1->(∀o,h1.get? a=some o->h2.get? a=some o)->φ h2
def HOk (H:Hp)(h:Heap):Prop:=∀a o,H a=some o->ObjOk P w H h a o
end
section
variable {P:Program}{w:World}{H H':Hp}{h h':Heap}{a:Addr}{o:HO}
theorem ObjOk.lt (x:ObjOk P w H h a o):a < h.objs.size:=by
 cases o with
 | lst xs=>obtain ⟨_,_,_,_,e⟩:=x;exact um2 e
 | tup xs=>obtain ⟨_,_,_,p⟩:=x;exact p.lt
 | dK kvs=>obtain ⟨_,_,_,_,o,_,_,e,_⟩:=x;exact um2 e
 | dT kvs=>obtain ⟨_,_,_,_,o,_,_,e,_⟩:=x;exact um2 e
 | set S n=>obtain ⟨o,_,_,_,e,_⟩:=x;exact um2 e
 | ins C dx fs=>obtain ⟨_,_,_,e,_⟩:=x;exact um2 e
 | own y=>obtain ⟨_,e⟩:=x;exact um2 e
 | xd fs=>obtain ⟨_,⟨_,_,_,e,_⟩,_⟩:=x;exact um2 e
 | rng lo hi=>obtain ⟨_,_,_,e⟩:=x;exact um2 e
 | frz ob u=>obtain ⟨e,_⟩:=x;exact um2 e
 | tbl ps=>exact um2 (show h.get? a=some _ from x)
 | met f y=>exact um2 (show h.get? a=some _ from x)
 | ext φ=>obtain ⟨_,⟨_,e⟩,_⟩:=x;exact um2 e
theorem Paired.mapP {α β:Type}{F G:α->β->Prop}:∀{l₁:List α} {l₂:List β},Paired F l₁ l₂->(∀a b,F a b->G a b)->Paired G l₁ l₂
 | _,_,.nil,_=>.nil
 | _,_,.cons r t,f=>.cons (f _ _ r) (Paired.mapP t f)
theorem ObjOk.stay (x:ObjOk P w H h a o)(k:∀b u,(b=a\/H b=some (.own a))->h.get? b=some u->h'.get? b=some u)
 (ho:∀b,H b=some (.own a)->H' b=some (.own a)) (ht:∀b xs,H b=some (.tup xs)->H' b=some (.tup xs)):ObjOk P w H' h' a o:=by
 induction o with
 | lst xs=>obtain ⟨z,its,n,r,e⟩:=x;exact ⟨z,its,n,r,k _ _ (.inl rfl) e⟩
 | tup xs=>obtain ⟨z,its,r,ob,e,c⟩:=x;exact ⟨z,its,r,ob,k _ _ (.inl rfl) e,c⟩
 | dK kvs=>obtain ⟨z,y,vs,r,ob,es,ep,e,c⟩:=x;exact ⟨z,y,vs,r,ob,es,ep,k _ _ (.inl rfl) e,c⟩
 | dT kvs=>
   obtain ⟨z,y,xs,r,ob,es,ep,e,c⟩:=x;exact ⟨z,y,xs,Paired.mapP r λp q z=>⟨z.1,ht _ _ z.2.1,z.2.2⟩,ob,es,ep,k _ _ (.inl rfl) e,c⟩
 | set S n=>obtain ⟨ob,es,ep,t,e,c⟩:=x;exact ⟨ob,es,ep,t,k _ _ (.inl rfl) e,c⟩
 | ins C dx fs=>
   obtain ⟨d,z,ne,e,mA,⟨od,es,ep,e2,c⟩,r⟩:=x;exact ⟨ho _ d,z,ne,k _ _ (.inl rfl) e,mA,⟨od,es,ep,k _ _ (.inr d) e2,c⟩,r⟩
 | own y=>obtain ⟨ob,e⟩:=x;exact ⟨ob,k _ _ (.inl rfl) e⟩
 | xd fs=>obtain ⟨mA,⟨od,es,ep,e,c⟩,r⟩:=x;exact ⟨mA,⟨od,es,ep,k _ _ (.inl rfl) e,c⟩,r⟩
 | rng lo hi=>obtain ⟨t,u,v,e⟩:=x;exact ⟨t,u,v,k _ _ (.inl rfl) e⟩
 | frz ob u ih=>obtain ⟨e,q⟩:=x;exact ⟨k _ _ (.inl rfl) e,ih q⟩
 | tbl ps=>
   have e:h.get? a=some { cls:=.none,data:=.fields ps }:=x;show h'.get? a=some { cls:=.none,data:=.fields ps };exact k a _ (.inl rfl) e
 | met f y=>
   have e:h.get? a=some (PySem.W.methodObj (.ref f) (.ref y)):=x;show h'.get? a=some (PySem.W.methodObj (.ref f) (.ref y));exact k a _ (.inl rfl) e
 | ext φ=>obtain ⟨p,⟨o,e⟩,st⟩:=x;exact ⟨st _ _ p λo q=>k _ _ (.inl rfl) q,⟨o,k _ _ (.inl rfl) e⟩,st⟩
theorem HOk.lt (x:HOk P w H h)(e:H a=some o):a < h.objs.size:=(x a o e).lt
theorem HOk.fresh (x:HOk P w H h)(e:h.objs.size<=a):H a=none:=by
 cases q:H a with
 | none=>rfl
 | some u=>exact absurd (uf2 (x.lt q) e) (ul2 _)
theorem HOk.kept (x:HOk P w H h)(k:∀b u,h.get? b=some u->h'.get? b=some u):HOk P w H h':=λa o e=>
 (x a o e).stay (λb u _ q=>k b u q) (λ_ q=>q) λ_ _ q=>q
theorem HOk.laid (x:HOk P w H h)(k:∀b u,h.get? b=some u->h'.get? b=some u)(hp:h.objs.size<=a)(new:ObjOk P w (upd H a o) h' a o):HOk P w (upd H a o) h':=λb u e=>by
 have hn:=x.fresh hp
 by_cases hb:b=a
 ·subst hb;rw [Aj] at e;cases e;exact new
 ·rw [Ah hb] at e;exact (x b u e).stay (λc v _ q=>k c v q) (λc q=>by rw [Ah (AE q hn)];exact q) λc xs q=>by rw [Ah (AE q hn)];exact q
end
def Rd (H:Hp)(a:Addr)(u:HO):Prop:=H a=some u\/∃o,H a=some (.frz o u)
variable {P:Program}{w:World}{h:Heap}
theorem Rd.ok {u:HO}(r:Rd H a u)(x:HOk P w H h):ObjOk P w H h a u:=by
 rcases r with r | ⟨o,r⟩
 ·exact x a u r
 ·obtain ⟨_,q⟩:=x a _ r;exact q
def Mut:Option HO->Prop
 | some (.lst _)=>True
 | some (.dK _)=>True
 | some (.dT _)=>True
 | some (.set _ _)=>True
 | some (.ins _ _ _)=>True
 | some (.ext _)=>True
 | _=>False
section
variable {P:Program}{w:World}{H:Hp}{h h':Heap}{x e:Addr}{o':HO}
theorem HOk.write (ok:HOk P w H h)(mu:Mut (H x))(he:e=x\/H e=some (.own x))(k:∀b u,b≠e->h.get? b=some u->h'.get? b=some u)(heo:∃u,h'.get? e=some u)
 (new:ObjOk P w (upd H x o') h' x o'):HOk P w (upd H x o') h':=λb u q=>by
 have nown:∀c y,H c=some (.own y)->c≠x:=λc y r z=>by subst z;rw [r] at mu;exact mu
 have ntup:∀c xs,H c=some (.tup xs)->c≠x:=λc xs r z=>by subst z;rw [r] at mu;exact mu
 by_cases hb:b=x
 ·subst hb;rw [Aj] at q;cases q;exact new
 ·rw [Ah hb] at q
  by_cases hbe:b=e
  ·have q':H b=some (.own x):=by
    rcases he with z | z
    ·exact absurd (hbe.trans z) hb
    ·rw [hbe];exact z
   rw [q] at q';cases q'
   obtain ⟨v,hv⟩:=heo;exact ⟨v,by rw [hbe];exact hv⟩
  ·refine (ok b u q).stay (λc v hc r=>k c v ?_ r) (λc r=>by rw [Ah (nown c b r)];exact r) λc xs r=>by rw [Ah (ntup c xs r)];exact r
   rcases hc with rfl | hc
   ·exact hbe
   ·rintro rfl;rcases he with z | z
    ·exact nown c b hc z
    ·rw [hc] at z;cases z;exact hb rfl
end
structure Un (fs ex:List Addr)(H H':Hp)(h h':Heap):Prop where
 keep:∀b o,h.get? b=some o->H b=none->b∉fs->b∉ex->h'.get? b=some o
 slot:∀b o,h.get? b=some o->H b=none->b∈fs->b∉ex->∃sl,h'.get? b=some { o with slots:=sl }
 free:∀b o,h.get? b=some o->H b=none->b∉ex->H' b=none
 there:∀b o,h.get? b=some o->b∉ex->∃o',h'.get? b=some o'
 tups:∀b xs,H b=some (.tup xs)->H' b=some (.tup xs)
 frzs:∀b o u,H b=some (.frz o u)->H' b=some (.frz o u)
 tbls:∀b ps,H b=some (.tbl ps)->∃more,H' b=some (.tbl (ps++more))
section
variable {fs fs' ex ex':List Addr}{H H1 H2:Hp}{h h1 h2 h':Heap}{a x e:Addr}{o:HO}
theorem Un.any (u:Un fs ex H H1 h h1){b:Addr}{ob:Obj}(q:h.get? b=some ob)(n:H b=none)(hx:b∉ex):∃sl,h1.get? b=some { ob with slots:=sl }:=by
 by_cases hb:b∈fs
 ·exact u.slot b ob q n hb hx
 ·exact ⟨ob.slots,u.keep b ob q n hb hx⟩
theorem Un.kept (k:∀b u,h.get? b=some u->h'.get? b=some u):Un fs ex H H h h':=
 ⟨λb ob q _ _ _=>k b ob q,λb ob q _ _ _=>⟨ob.slots,k b ob q⟩,λ_ _ _ n _=>n,λb ob q _=>⟨ob,k b ob q⟩,λ_ _ q=>q,λ_ _ _ q=>q,λ_ ps q=>⟨#[],by rw [q];simp⟩⟩
theorem Un.refl:Un fs ex H H h h:=Un.kept λ_ _ q=>q
theorem Un.laid (k:∀b u,h.get? b=some u->h'.get? b=some u)(hp:h.objs.size<=a)(hn:H a=none):Un fs ex H (upd H a o) h h' where
 keep:=λb u q _ _ _=>k b u q
 slot:=λb u q _ _ _=>⟨u.slots,k b u q⟩
 free:=λb u q n _=>by rw [Ah (um3 (uf2 (um2 q) hp))];exact n
 there:=λb u q _=>⟨u,k b u q⟩
 tups:=λb xs q=>by rw [Ah (AE q hn)];exact q
 frzs:=λb u xs q=>by rw [Ah (AE q hn)];exact q
 tbls:=λb ps q=>⟨#[],by rw [Ah (AE q hn),q];simp⟩
theorem Un.write (mu:Mut (H x))(he:e=x\/H e=some (.own x))(k:∀b u,b≠e->h.get? b=some u->h'.get? b=some u)(heo:∃u,h'.get? e=some u):Un fs ex H (upd H x o) h h':=by
 have hx:∀b,H b=none->b≠x:=λb n z=>by subst z;rw [n] at mu;exact mu
 have hb:∀b,H b=none->b≠e:=λb n z=>by
  subst z;rcases he with r | r
  ·exact hx b n r
  ·rw [n] at r;cases r
 have hm:∀b u,H b=some u->¬Mut (some u)->b≠x:=λb u q nm z=>by subst z;rw [q] at mu;exact nm mu
 refine ⟨λb u q n _ _=>k b u (hb b n) q,λb u q n _ _=>⟨u.slots,k b u (hb b n) q⟩,λb u q n _=>by rw [Ah (hx b n)];exact n,λb u q _=>?_,
  λb xs q=>by rw [Ah (hm b _ q λz=>z)];exact q,λb u xs q=>by rw [Ah (hm b _ q λz=>z)];exact q,λb ps q=>⟨#[],by rw [Ah (hm b _ q λz=>z),q];simp⟩⟩
 by_cases hbe:b=e
 ·subst hbe;exact heo
 ·exact ⟨u,k b u hbe q⟩
end
noncomputable def trk (h:Heap)(H:Hp):List Addr:=(List.range h.objs.size).filter λa=>(H a).isSome
def Gj (h:Heap)(H:Hp):Heap:=PySem.W.hideAll h (trk h H)
theorem Qa (h:Heap)(H:Hp):(Gj h H).objs.size=h.objs.size:=PySem.W.hideAll_size _ _
theorem SM {o:Obj}(e:h.get? b=some o)(n:H b=none):(Gj h H).get? b=some o:=
 PySem.W.hideAll_get _ e λhm=>by
  have q:(H b).isSome=true:=(List.mem_filter.mp hm).2;rw [n] at q;simp at q
theorem Vz {o:Obj}(e:(Gj h H).get? b=some o):h.get? b=some o/\H b=none:=by
 have e':h.get? b=some o:=PySem.W.of_hideAll (trk h H) e;refine ⟨e',?_⟩
 cases q:H b with
 | none=>rfl
 | some x=>
   have hm:b∈trk h H:=List.mem_filter.mpr ⟨uk6.mpr (um2 e'),by simp [q]⟩;have z:(Gj h H).get? b=none:=PySem.W.hideAll_none (trk h H) hm;rw [z] at e;cases e
noncomputable def UI (g h:Heap)(L:Addr):List (Addr×Obj):=(List.range h.objs.size).filterMap λa=>if a=L\/(g.get? a).isSome=true then none else (h.get? a).map λo=>(a,o)
def rest (g h:Heap)(L d:Addr):List (Addr×Obj):=(UI g h L).filter λp=>decide (p.1≠d)
structure Mod (K:PySem.W.Frag)(mg:Str->Option Value)(base:Heap):Prop where
 kin:K.In base
 glob:base.Ns mainGlobals mg
 blt:∃mb,base.Ns builtinsNs mb/\∀x:Str,x≠"__name__"->mb x=bootBuiltins x
 nolimit:base.NoLimit
structure Cx where
 prog:Program
 w:World
 K:PySem.W.Frag
 mg:Str->Option Value
 base:Heap
 A:Around
 N:List Str
 s₀:Shared
 H₀:Hp
 env:Env
 outer:List Env
 stack:List Env
 ex:List Addr
 fn:Str->Bool
 calm:Bool
 pn:List (Addr×Obj)
 xe:Value->Shared->Prop
noncomputable def frs (l:List Env):List Addr:=l.filterMap (·.frame)
abbrev Cx.fs (X:Cx):List Addr:=frs X.outer
def Vis (sc:Scope)(x:Str):Prop:=sc.names.lookup x=some .local\/sc.names.lookup x=some .cell\/sc.names.lookup x=some .free
def Loc (sc:Scope)(x:Str):Prop:=sc.names.lookup x=some .local\/sc.names.lookup x=some .cell
def aM (env:Env)(h:Heap)(m:Str->Option Value)(x:Str)(u:Value):Prop:=
 (env.kindOf x=some .local/\m x=some u)\/((env.kindOf x=some .cell\/env.kindOf x=some .free)/\∃c,env.cells.lookup x=some c/\h.IsCell c (some u))
structure Cx.Ok (X:Cx):Prop where
 mod:Mod X.K X.mg X.base
 kind:X.env.scope.kind = .function
 glob:X.env.globals=mainGlobals
 blt:X.env.builtins=builtinsNs
 above:X.s₀.heap.objs.size<=X.env.locals
 inj:∀x y c,X.env.cells.lookup x=some c->X.env.cells.lookup y=some c->x=y
 has:∀x,(X.env.kindOf x=some .cell\/X.env.kindOf x=some .free)->∃c,X.env.cells.lookup x=some c
 cab:∀x c,X.fn x=true->X.env.cells.lookup x=some c->X.s₀.heap.objs.size<=c
 hd:X.calm=true->X.A.handled=none
 frames:X.A.frames=some X.stack
 stk:X.stack=X.outer\/(X.stack=X.env :: X.outer/\X.env.frame=some X.env.locals)
 exf:∀b∈X.ex,b≠X.env.locals/\∀x c,X.env.cells.lookup x=some c->c≠b
 bs:∀b o,X.base.get? b=some o->X.s₀.heap.get? b=some o/\X.H₀ b=none
 bsz:X.base.objs.size<=X.s₀.heap.objs.size
 noex:∀b o,X.base.get? b=some o->b∉X.ex
 exfs:∀b∈X.ex,b∉X.fs
 funs:X.s₀.heap.FunFrames X.base X.outer
 frf:∀b∈X.fs,X.H₀ b=none
structure Inv (X:Cx)(pins:List (Addr×Obj))(σ:List (Option V))(H:Hp)(s:Shared):Prop where
 ok:X.Ok
 os:s.os=X.s₀.os
 bare:AllBare s.gens
 base:Un X.fs X.ex X.H₀ H X.s₀.heap s.heap
 loc:∃m,s.heap.Ns X.env.locals m/\∀(i:Nat) (x:Str) (v:V),X.N[i]?=some x->σ[i]?=some (some v)->Vis X.env.scope x->∃u,RelV v u/\aM X.env s.heap m x u
 cell:∀x c,X.env.cells.lookup x=some c->∃v,s.heap.IsCell c v
 free:H X.env.locals=none
 freeC:∀x c,X.env.cells.lookup x=some c->H c=none
 pin:∀p∈X.pn++pins,s.heap.get? p.1=some p.2/\H p.1=none/\p.1≠X.env.locals/\p.1∉X.fs/\∀v,p.2.data≠.cell v
 hok:HOk X.prog X.w H s.heap
 len:σ.length=X.N.length
variable {t' i:Nat}{ch:List Addr}{E:Value->Shared->Prop}{x:Str}{v:V}{u:Value}{Q:Unit->Shared->Prop}
section
variable {X:Cx}{pins:List (Addr×Obj)}{σ:List (Option V)}{H H':Hp}{s:Shared}{h':Heap}
theorem Cx.Ok.nofr (ok:X.Ok){b:Addr}{o:Obj}(e:X.base.get? b=some o):b∉X.fs:=λhb=>by
 have:=(ok.funs.mem hb).1;rw [e] at this;cases this
theorem Inv.bs (I:Inv X pins σ H s):∀b o,X.base.get? b=some o->s.heap.get? b=some o/\H b=none:=λb o e=>
 ⟨I.base.keep b o (I.ok.bs b o e).1 (I.ok.bs b o e).2 (I.ok.nofr e) (I.ok.noex b o e),I.base.free b o (I.ok.bs b o e).1 (I.ok.bs b o e).2 (I.ok.noex b o e)⟩
theorem Inv.bk (I:Inv X pins σ H s):∀b o,X.base.get? b=some o->s.heap.get? b=some o:=λb o e=>(I.bs b o e).1
theorem Inv.mod (I:Inv X pins σ H s):Mod X.K X.mg X.base:=I.ok.mod
theorem Inv.kIn (I:Inv X pins σ H s):X.K.In s.heap:=I.ok.mod.kin.keeps I.bk
theorem Inv.lt (I:Inv X pins σ H s):X.env.locals < s.heap.objs.size:=let ⟨_,hn,_⟩:=I.loc;hn.lt
theorem Inv.sz (I:Inv X pins σ H s):X.s₀.heap.objs.size<=s.heap.objs.size:=um4 I.ok.above (Nat.le_of_lt I.lt)
theorem Inv.nofs (I:Inv X pins σ H s){a:Addr}(h:s.heap.objs.size<=a):a∉X.fs:=λhb=>by
 obtain ⟨_,o,ho,_⟩:=I.ok.funs.mem hb;exact absurd (uf2 (um2 ho) (um4 I.sz h)) (ul2 _)
theorem Inv.cne (I:Inv X pins σ H s):∀x c,X.env.cells.lookup x=some c->c≠X.env.locals:=λx c e z=>by
 obtain ⟨v,o,ho,hd⟩:=I.cell x c e;obtain ⟨m,⟨o',es,ep,ho',hd',_⟩,_⟩:=I.loc;rw [z,ho'] at ho;cases ho;rw [hd'] at hd;cases hd
theorem Inv.funs (I:Inv X pins σ H s):s.heap.FunFrames X.base X.outer:=by
 have all:∀(l:List Env),(∀b∈frs l,b∈X.fs)->X.s₀.heap.FunFrames X.base l->s.heap.FunFrames X.base l:=by
  intro l
  induction l with
  | nil=>intro _ _;trivial
  | cons env r ih=>
    intro hs hl;obtain ⟨hk,⟨L,o,hf,hn,ho,hd⟩,hr⟩:=hl;have hL:L∈X.fs:=hs L (by unfold frs;rw [ue4,hf];exact uf3);obtain ⟨sl,e⟩:=I.base.slot L o ho (I.ok.frf L hL) hL λz=>I.ok.exfs L z hL;exact ⟨hk,⟨L,_,hf,hn,e,hd⟩,ih (λb hb=>hs b (by unfold frs;rw [ue4,hf];exact ud8 _ hb)) hr⟩
 exact all X.outer (λ_ hb=>hb) I.ok.funs
theorem Inv.stack (I:Inv X pins σ H s):s.heap.FunFrames X.base X.stack:=by
 rcases I.ok.stk with e | ⟨e,hf⟩
 ·rw [e];exact I.funs
 ·rw [e];obtain ⟨m,hn,_⟩:=I.loc;refine .cons (by rw [I.ok.kind];decide) hf hn ?_ I.funs;exact Heap.get?_none_of_le (um4 I.ok.bsz I.ok.above)
theorem Inv.stkSub (I:Inv X pins σ H s):∀b∈frs X.stack,b∈X.env.locals :: X.fs:=λb hb=>by
 rcases I.ok.stk with e | ⟨e,hf⟩
 ·rw [e] at hb;exact ud8 _ hb
 ·rw [e] at hb;unfold frs at hb;rw [ue4,hf] at hb;exact hb
theorem Inv.stkFree (I:Inv X pins σ H s):∀b∈frs X.stack,H b=none:=λb hb=>by
 rcases ul3.mp (I.stkSub b hb) with e | hb
 ·rw [e];exact I.free
 ·obtain ⟨_,o,ho,_⟩:=I.ok.funs.mem hb;exact I.base.free b o ho (I.ok.frf b hb) λz=>I.ok.exfs b z hb
theorem Inv.step {g':Array GenState}{d':Drawn}(I:Inv X pins σ H s)
 (hch:∀b∈ch,(b∈X.ex\/X.s₀.heap.objs.size<=b)/\b≠X.env.locals/\(∀x c,X.env.cells.lookup x=some c->c≠b)/\∀p∈X.pn++pins,p.1≠b)
 (keep:∀b o,b≠X.env.locals->b∉X.fs->b∉ch->s.heap.get? b=some o->H b=none->h'.get? b=some o)
 (slot:∀b o,b≠X.env.locals->b∈X.fs->b∉ch->s.heap.get? b=some o->H b=none->∃sl,h'.get? b=some { o with slots:=sl }) (free:∀b o,b∉ch->s.heap.get? b=some o->H b=none->H' b=none)
 (there:∀b o,b∉ch->s.heap.get? b=some o->∃o',h'.get? b=some o')
 (tups:∀b xs,H b=some (.tup xs)->H' b=some (.tup xs)) (frzs:∀b o u,H b=some (.frz o u)->H' b=some (.frz o u)) (tbls:∀b ps,H b=some (.tbl ps)->∃more,H' b=some (.tbl (ps++more)))
 (ns:∀m,s.heap.Ns X.env.locals m->h'.Ns X.env.locals m) (hok:HOk X.prog X.w H' h') (hg:AllBare g') :
 Inv X pins σ H' { s with heap:=h',gens:=g',drawn:=d',toks:=t' }:=by
 have neL:∀b o,X.s₀.heap.get? b=some o->b≠X.env.locals:=λb o e=>um3 (uf2 (um2 e) I.ok.above);have neC:∀b o,X.s₀.heap.get? b=some o->b∉X.ex->b∉ch:=λb o e hx hb=>by
  rcases (hch b hb).1 with z | z
  ·exact hx z
  ·exact absurd (uf2 (um2 e) z) (ul2 _)
 have cellK:∀x c,X.env.cells.lookup x=some c->∀v,s.heap.IsCell c v->h'.IsCell c v:=λx c e v z9=>by
  obtain ⟨o,ho,hd⟩:=z9;have nch:c∉ch:=λz=>(hch c z).2.2.1 x c e rfl
  by_cases hc:c∈X.fs
  ·obtain ⟨sl,q⟩:=slot c o (I.cne x c e) hc nch ho (I.freeC x c e);exact ⟨_,q,hd⟩
  ·exact ⟨o,keep c o (I.cne x c e) hc nch ho (I.freeC x c e),hd⟩
 refine ⟨I.ok,I.os,hg,⟨λb o e n hb hx=>?_,λb o e n hb hx=>?_,λb o e n hx=>?_,λb o e hx=>?_,λb xs e=>tups b xs (I.base.tups b xs e),λb o xs e=>frzs b o xs (I.base.frzs b o xs e),λb ps e=>?_⟩,?_,λx c e=>?_,?_,λx c e=>?_,λp hp=>?_,hok,I.len⟩
 ·exact keep b o (neL b o e) hb (neC b o e hx) (I.base.keep b o e n hb hx) (I.base.free b o e n hx)
 ·obtain ⟨sl,e1⟩:=I.base.slot b o e n hb hx;obtain ⟨sl',e2⟩:=slot b _ (neL b o e) hb (neC b o e hx) e1 (I.base.free b o e n hx);exact ⟨sl',e2⟩
 ·obtain ⟨o',e1⟩:=I.base.there b o e hx;exact free b o' (neC b o e hx) e1 (I.base.free b o e n hx)
 ·obtain ⟨o',e1⟩:=I.base.there b o e hx;exact there b o' (neC b o e hx) e1
 ·obtain ⟨m1,e1⟩:=I.base.tbls b ps e;obtain ⟨m2,e2⟩:=tbls b _ e1;exact ⟨m1++m2,by rw [e2,Array.append_assoc]⟩
 ·obtain ⟨m,hn,hl⟩:=I.loc;refine ⟨m,ns m hn,λi x v e1 e2 e3=>?_⟩;obtain ⟨u,r,l⟩:=hl i x v e1 e2 e3;refine ⟨u,r,?_⟩;rcases l with l | ⟨k,c,e,z⟩
  ·exact .inl l
  ·exact .inr ⟨k,c,e,cellK x c e _ z⟩
 ·obtain ⟨v,z⟩:=I.cell x c e;exact ⟨v,cellK x c e v z⟩
 ·obtain ⟨m,⟨o,_,_,ho,_⟩,_⟩:=I.loc;exact free _ o (λz=>(hch _ z).2.1 rfl) ho I.free
 ·obtain ⟨v,o,ho,hd⟩:=I.cell x c e;exact free c o (λz=>(hch c z).2.2.1 x c e rfl) ho (I.freeC x c e)
 ·obtain ⟨e,n,ne,nf,d⟩:=I.pin p hp;have nch:p.1∉ch:=λz=>(hch p.1 z).2.2.2 p hp rfl;exact ⟨keep p.1 p.2 ne nf nch e n,free p.1 p.2 nch e n,ne,nf,d⟩
theorem Inv.un (I:Inv X pins σ H s)(u:Un X.fs [] H H' s.heap h')(hok:HOk X.prog X.w H' h'):Inv X pins σ H' { s with heap:=h',toks:=t' }:=by
 obtain ⟨m,⟨o,es,ep,ho,r⟩,_⟩:=id I.loc;obtain ⟨sl,hL⟩:=u.any ho I.free (by simp);exact I.step (g':=s.gens) (d':=s.drawn) (ch:=[]) (λ_ z=>nomatch z) (λb o _ hb _ e n=>u.keep b o e n hb (by simp)) (λb o _ hb _ e n=>u.slot b o e n hb (by simp)) (λb o _ e n=>u.free b o e n (by simp)) (λb o _ e=>u.there b o e (by simp)) u.tups u.frzs u.tbls (λm' hm=>by
  obtain ⟨o',es',ep',ho',r'⟩:=hm;rw [ho] at ho';cases ho'
  exact ⟨_,es',ep',hL,r'⟩) hok I.bare
theorem Inv.call {g':Array GenState}{d':Drawn}(I:Inv X pins σ H s)(u:Un (frs X.stack) ch H H' s.heap h')(hok:HOk X.prog X.w H' h')(hg:AllBare g')
 (hch:∀b∈ch,(b∈X.ex\/X.s₀.heap.objs.size<=b)/\b≠X.env.locals/\(∀x c,X.env.cells.lookup x=some c->c≠b)/\∀p∈X.pn++pins,p.1≠b) :
 Inv X pins σ H' { s with heap:=h',gens:=g',drawn:=d',toks:=t' }:=by
 obtain ⟨m,⟨o,es,ep,ho,r⟩,_⟩:=id I.loc;obtain ⟨sl,hL⟩:=u.any ho I.free λz=>(hch _ z).2.1 rfl;exact I.step (ch:=ch) hch (λb o hL hb hc e n=>u.keep b o e n (λz=>(ul3.mp (I.stkSub b z)).elim hL hb) hc) (λb o _ _ hc e n=>u.any e n hc) (λb o hc e n=>u.free b o e n hc) (λb o hc e=>u.there b o e hc) u.tups u.frzs u.tbls (λm' hm=>by
  obtain ⟨o',es',ep',ho',r'⟩:=hm;rw [ho] at ho';cases ho'
  exact ⟨_,es',ep',hL,r'⟩) hok hg
theorem Inv.turned {it:Addr}(I:Inv X pins σ H s)(k:∀b o,b≠it->s.heap.get? b=some o->h'.get? b=some o)(hn:H it=none)(hL:it≠X.env.locals)
 (h1:it∈X.ex\/X.s₀.heap.objs.size<=it) (h2:∀x c,X.env.cells.lookup x=some c->c≠it) (h3:∀p∈X.pn++pins,p.1≠it):Inv X pins σ H { s with heap:=h',toks:=t' }:=by
 have nit:∀b u,H b=some u->b≠it:=λb u e z=>by rw [z,hn] at e;cases e
 refine I.step (g':=s.gens) (d':=s.drawn) (ch:=[it]) (λb hb=>?_) (λb o _ _ hc e _=>k b o (λz=>hc (by simp [z])) e) (λb o _ _ hc e _=>⟨o.slots,k b o (λz=>hc (by simp [z])) e⟩) (λ_ _ _ _ n=>n)
  (λb o hc e=>⟨o,k b o (λz=>hc (by simp [z])) e⟩) (λ_ _ e=>e) (λ_ _ _ e=>e) (λb ps e=>⟨#[],by rw [e];simp⟩) (λm hm=>?_) (λb u e=>?_) I.bare
 ·have e:b=it:=by simpa using hb
  subst e;exact ⟨h1,hL,h2,h3⟩
 ·obtain ⟨o,es,ep,ho,r⟩:=hm;exact ⟨o,es,ep,k _ o (Ne.symm hL) ho,r⟩
 ·refine (I.hok b u e).stay (λc v hc q=>k c v ?_ q) (λ_ q=>q) λ_ _ q=>q;rcases hc with z | z
  ·rw [z];exact nit b u e
  ·exact nit c _ z
theorem Inv.tok (I:Inv X pins σ H s)(t:Nat):Inv X pins σ H { s with toks:=t }:=I.un (h':=s.heap) (t':=t) Un.refl I.hok
theorem Inv.kept {t':Nat}(I:Inv X pins σ H s)(k:∀b u,s.heap.get? b=some u->h'.get? b=some u):Inv X pins σ H { s with heap:=h',toks:=t' }:=I.un (Un.kept k) (I.hok.kept k)
theorem Inv.laid {a:Addr}{o:HO}{t':Nat}(I:Inv X pins σ H s)(k:∀b u,s.heap.get? b=some u->h'.get? b=some u)(hp:s.heap.objs.size<=a)(new:ObjOk X.prog X.w (upd H a o) h' a o) :
 Inv X pins σ (upd H a o) { s with heap:=h',toks:=t' }:=I.un (Un.laid k hp (I.hok.fresh hp)) (I.hok.laid k hp new)
theorem Inv.write {x e:Addr}{o:HO}{t':Nat}(I:Inv X pins σ H s)(mu:Mut (H x))(he:e=x\/H e=some (.own x))(k:∀b u,b≠e->s.heap.get? b=some u->h'.get? b=some u)(heo:∃u,h'.get? e=some u)
 (new:ObjOk X.prog X.w (upd H x o) h' x o):Inv X pins σ (upd H x o) { s with heap:=h',toks:=t' }:=I.un (Un.write mu he k heo) (I.hok.write mu he k heo new)
theorem Inv.pins_of {pins':List (Addr×Obj)}(I:Inv X pins σ H s)(h:∀p∈pins',s.heap.get? p.1=some p.2/\H p.1=none/\p.1≠X.env.locals/\p.1∉X.fs/\∀v,p.2.data≠.cell v):Inv X pins' σ H s:=
 ⟨I.ok,I.os,I.bare,I.base,I.loc,I.cell,I.free,I.freeC,λp hp=>(ui8.mp hp).elim (λz=>I.pin p (ud9 _ z)) (h p),I.hok,I.len⟩
theorem Gp {N:List Str}(hN:N.Nodup){i j:Nat}{x:Str}(a:N[i]?=some x)(b:N[j]?=some x):i=j:=by
 obtain ⟨h1,e1⟩:=ub1.mp a;obtain ⟨h2,e2⟩:=ub1.mp b;exact (uh3 hN).mp (e1.trans e2.symm)
theorem KQ {M:Model}{A:Around}(I:Inv X pins σ H s)(hN:X.N.Nodup)(hi:X.N[i]?=some x)(hx:Loc X.env.scope x)(r:RelV v u)
 (h:∀s',Inv X pins (σ.set i (some v)) H s'->(∃a,Heap.SameBut a s.heap s'.heap/\(a=X.env.locals\/X.env.cells.lookup x=some a))->Q () s') (hf:X.fn x=true\/X.env.scope.names.lookup x=some .local:=by walk_at "h"):wpAny M A (storeName X.env x u) Q E s:=by
 obtain ⟨m,hn,hl⟩:=id I.loc;have hcls:(X.env.scope.kind == .class || (X.env.scope.kind == .module && X.env.locals != X.env.globals))=false:=by rw [I.ok.kind];rfl
 have hiσ:i < σ.length:=by rw [I.len];exact (ub1.mp hi).1
 have cne:=I.cne;have tracked:∀{a:Addr} {h':Heap},(∃o,s.heap.get? a=some o/\H a=none)->Heap.SameBut a s.heap h'->HOk X.prog X.w H h':=λ{a h'} ha hs b ob e=>by
  obtain ⟨_,_,hfree⟩:=ha;refine (I.hok b ob e).stay (λc w' hc q=>(hs.2 c ?_).trans q) (λ_ q=>q) λ_ _ q=>q;rintro rfl;rcases hc with rfl | hc
  ·rw [hfree] at e;cases e
  ·rw [hfree] at hc;cases hc
 rcases hx with hk | hk
 ·refine wpAny_storeName_local hk hn (λh' hn' hs=>?_) hcls;obtain ⟨oL,_,_,hoL,_⟩:=id hn;refine h _ ⟨I.ok,I.os,I.bare,⟨λb o e n hb hx=>?_,λb o e n hb hx=>?_,I.base.free,λb o e hx=>?_,I.base.tups,I.base.frzs,I.base.tbls⟩,⟨_,hn',λj y v' e1 e2 e3=>?_⟩,λy c e=>?_,I.free,I.freeC,λp hp=>?_,tracked ⟨oL,hoL,I.free⟩ hs,by simpa using I.len⟩ ⟨_,hs,.inl rfl⟩
  ·exact (hs.2 b (um3 (uf2 (um2 e) I.ok.above))).trans (I.base.keep b o e n hb hx)
  ·obtain ⟨sl,e1⟩:=I.base.slot b o e n hb hx;exact ⟨sl,(hs.2 b (um3 (uf2 (um2 e) I.ok.above))).trans e1⟩
  ·obtain ⟨o',e1⟩:=I.base.there b o e hx;exact ⟨o',(hs.2 b (um3 (uf2 (um2 e) I.ok.above))).trans e1⟩
  ·by_cases hj:j=i
   ·subst hj;rw [hi] at e1;cases e1
    rw [uc3 hiσ] at e2
    cases e2
    exact ⟨u,r,.inl ⟨hk,by simp⟩⟩
   ·rw [ue0 (Ne.symm hj)] at e2;obtain ⟨u',r',q⟩:=hl j y v' e1 e2 e3;refine ⟨u',r',?_⟩;rcases q with ⟨k,e⟩ | ⟨k,c,e,z⟩
    ·refine .inl ⟨k,?_⟩;have:y≠x:=λe=>hj (Gp hN e1 (e ▸ hi));simp [this,e]
    ·exact .inr ⟨k,c,e,z.sameBut hs (cne y c e)⟩
  ·obtain ⟨w',z⟩:=I.cell y c e;exact ⟨w',z.sameBut hs (cne y c e)⟩
  ·obtain ⟨e,n,ne,nf,d⟩:=I.pin p hp;exact ⟨(hs.2 p.1 ne).trans e,n,ne,nf,d⟩
 ·have hfn:X.fn x=true:=by
   rcases hf with z | z
   ·exact z
   ·rw [z] at hk;cases hk
  obtain ⟨c,hc⟩:=I.ok.has x (.inl hk);obtain ⟨w',z⟩:=I.cell x c hc;refine wpAny_storeName_cell I.ok.kind hk hc z (λh' hc' hs=>?_);obtain ⟨oc,hoc,hocd⟩:=id z;refine h { s with heap:=h' } ⟨I.ok,I.os,I.bare,⟨λb o e n hb hx=>?_,λb o e n hb hx=>?_,I.base.free,λb o e hx=>?_,I.base.tups,I.base.frzs,I.base.tbls⟩,⟨m,hn.sameBut hs (Ne.symm (cne x c hc)),λj y v' e1 e2 e3=>?_⟩,λy c' e=>?_,I.free,I.freeC,λp hp=>?_,tracked ⟨oc,hoc,I.freeC x c hc⟩ hs,by simpa using I.len⟩ ⟨c,hs,.inr hc⟩
  ·exact (hs.2 b (um3 (uf2 (um2 e) (I.ok.cab x c hfn hc)))).trans (I.base.keep b o e n hb hx)
  ·obtain ⟨sl,e1⟩:=I.base.slot b o e n hb hx;exact ⟨sl,(hs.2 b (um3 (uf2 (um2 e) (I.ok.cab x c hfn hc)))).trans e1⟩
  ·obtain ⟨o',e1⟩:=I.base.there b o e hx;exact ⟨o',(hs.2 b (um3 (uf2 (um2 e) (I.ok.cab x c hfn hc)))).trans e1⟩
  ·by_cases hj:j=i
   ·subst hj;rw [hi] at e1;cases e1
    rw [uc3 hiσ] at e2
    cases e2
    exact ⟨u,r,.inr ⟨.inl hk,c,hc,hc'⟩⟩
   ·rw [ue0 (Ne.symm hj)] at e2;obtain ⟨u',r',q⟩:=hl j y v' e1 e2 e3;refine ⟨u',r',?_⟩;rcases q with q | ⟨k,c',e,z'⟩
    ·exact .inl q
    ·refine .inr ⟨k,c',e,z'.sameBut hs ?_⟩;rintro rfl;exact hj (Gp hN e1 (I.ok.inj _ _ _ e hc ▸ hi))
  ·by_cases hcc:c'=c
   ·subst hcc;exact ⟨_,hc'⟩
   ·obtain ⟨w2,z2⟩:=I.cell y c' e;exact ⟨w2,z2.sameBut hs hcc⟩
  ·obtain ⟨e,n,ne,nf,d⟩:=I.pin p hp;refine ⟨(hs.2 p.1 ?_).trans e,n,ne,nf,d⟩;intro q;rw [q,hoc] at e;have q':oc=p.2:=ui9 e;exact d w' (by rw [<-q'];exact hocd)
theorem Fh {M:Model}{A:Around}(I:Inv X pins σ H s)(hN:X.N.Nodup)(hi:X.N[i]?=some x)(hx:Loc X.env.scope x)(r:RelV v u)
 (h:∀s',Inv X pins (σ.set i (some v)) H s'->Q () s') (hf:X.fn x=true\/X.env.scope.names.lookup x=some .local:=by walk_at "h"):wpAny M A (storeName X.env x u) Q E s:=
 KQ I hN hi hx r (λs' I' _=>h s' I') hf
theorem Inv.call' {s':Shared}(I:Inv X pins σ H s)(ho:s'.os=s.os)(u:Un (frs X.stack) ch H H' s.heap s'.heap)(hok:HOk X.prog X.w H' s'.heap)(hg:AllBare s'.gens)
 (hch:∀b∈ch,(b∈X.ex\/X.s₀.heap.objs.size<=b)/\b≠X.env.locals/\(∀x c,X.env.cells.lookup x=some c->c≠b)/\∀p∈X.pn++pins,p.1≠b):Inv X pins σ H' s':=by
 obtain ⟨h',g',d',t',o'⟩:=s';have e:o'=s.os:=ho;subst e;exact I.call (g':=g') (t':=t') (d':=d') u hok hg hch
end
abbrev XK:=Value->Option Addr->Hp->Prop
abbrev St:=List (Option V)
abbrev VK:=V->Hp->Prop
abbrev TE:=St->Hp->VK->Prop
abbrev TT:=St->Hp->(Bool->Hp->Prop)->Prop
abbrev TA:=St->Hp->(List V->Hp->Prop)->Prop
structure Ends where
 nx:St->Hp->Prop
 rt:VK
 bk:St->Hp->Prop:=λ_ _=>False
 ct:St->Hp->Prop:=λ_ _=>False
abbrev TS:=Ends->St->Hp->Prop
inductive EP (X:Cx)(pins:List (Addr×Obj))(σ:St)(Q:VK)(u:Value)(s':Shared):Prop where
 | mk (v:V) (H':Hp) (i:Inv X pins σ H' s') (r:RelV v u) (q:Q v H'):EP X pins σ Q u s'
inductive TP (X:Cx)(pins:List (Addr×Obj))(σ:St)(Q:Bool->Hp->Prop)(b:Bool)(s':Shared):Prop where
 | mk (H':Hp) (i:Inv X pins σ H' s') (q:Q b H'):TP X pins σ Q b s'
inductive AP (X:Cx)(pins:List (Addr×Obj))(σ:St)(Q:List V->Hp->Prop)(us:List Value)(s':Shared):Prop where
 | mk (vs:List V) (H':Hp) (i:Inv X pins σ H' s') (r:Vals vs us) (q:Q vs H'):AP X pins σ Q us s'
def SP (X:Cx)(pins:List (Addr×Obj))(D:Ends)(f:Flow)(s':Shared):Prop:=
 match f with
 | .next=>∃σ' H',Inv X pins σ' H' s'/\D.nx σ' H'
 | .brk=>∃σ' H',Inv X pins σ' H' s'/\D.bk σ' H'
 | .cont=>∃σ' H',Inv X pins σ' H' s'/\D.ct σ' H'
 | .ret u=>∃v σ' H',Inv X pins σ' H' s'/\RelV v u/\D.rt v H'
def PE (X:Cx)(e:Expr)(t:TE):Prop:=
 ∀(pins:List (Addr×Obj)) (s:Shared) (σ:St) (H:Hp) (Q:VK),Inv X pins σ H s->t σ H Q->wpAny (model X.prog X.w) X.A (eval e X.env) (EP X pins σ Q) X.xe s
def PT (X:Cx)(e:Expr)(t:TT):Prop:=
 ∀(pins:List (Addr×Obj)) (s:Shared) (σ:St) (H:Hp) (Q:Bool->Hp->Prop),Inv X pins σ H s->t σ H Q->wpAny (model X.prog X.w) X.A (isTrue e X.env (eval e X.env)) (TP X pins σ Q) X.xe s
def PW (X:Cx)(e:Expr)(t:TT):Prop:=
 ∀(whole:Sem Value) (pins:List (Addr×Obj)) (s:Shared) (σ:St) (H:Hp) (Q:Bool->Hp->Prop),Inv X pins σ H s->t σ H Q->wpAny (model X.prog X.w) X.A (isTrue e X.env whole) (TP X pins σ Q) X.xe s
variable {X:Cx}{e:Expr}
theorem PW.pt {t:TT}(h:PW X e t):PT X e t:=h _
def PA (X:Cx)(es:List Expr)(t:TA):Prop:=
 ∀(pos:Pos) (pins:List (Addr×Obj)) (s:Shared) (σ:St) (H:Hp) (Q:List V->Hp->Prop),Inv X pins σ H s->t σ H Q->wpAny (model X.prog X.w) X.A (spliced (backTo pos (starEach es X.env))) (AP X pins σ Q) X.xe s
def PS (X:Cx)(st:Stmt)(t:TS):Prop:=
 ∀(pins:List (Addr×Obj)) (s:Shared) (σ:St) (H:Hp) (D:Ends),Inv X pins σ H s->t D σ H->wpAny (model X.prog X.w) X.A (exec st X.env) (SP X pins D) X.xe s
def PSs (X:Cx)(st:List Stmt)(t:TS):Prop:=
 ∀(pins:List (Addr×Obj)) (s:Shared) (σ:St) (H:Hp) (D:Ends),Inv X pins σ H s->t D σ H->wpAny (model X.prog X.w) X.A (execs st X.env) (SP X pins D) X.xe s
variable {s:Shared}
theorem thn {α:Type}{t:Sem α}{Q Q':α->Shared->Prop}{M:Model}{A:Around}(h:wpAny M A t Q E s)(hQ:∀a s,Q a s->Q' a s):wpAny M A t Q' E s:=un8 h hQ λ_ _ x=>x
variable {pins:List (Addr×Obj)}{σ:St}{c:Expr}
section
variable {X:Cx}
def YY (i:Nat):TE:=λσ H Q=>∃v,σ[i]?=some (some v)/\Q v H
def tC (v:V):TE:=λ_ H Q=>Q v H
theorem Cq {pos:Pos}(hN:X.N[i]?=some x)(hv:Vis X.env.scope x)(hd:(x == ("__debug__" : Str))=false:=by decide)(hcd:(x == ("__classdict__" : Str))=false:=by decide):PE X (.Name x pos) (YY i):=by
 intro pins s σ H Q I h;obtain ⟨v,e,h⟩:=h;obtain ⟨m,hn,hl⟩:=I.loc;obtain ⟨u,r,l⟩:=hl i x v hN e hv;have fin:EP X pins σ Q u s:=⟨v,H,I,r,h⟩;rcases l with ⟨hk,hm⟩ | ⟨hk,c,hc,hcell⟩
 ·exact wpAny_Name (wpAny_loadName_local I.ok.kind hk hn hm fin) hd
 ·rcases hk with hk | hk
  ·exact wpAny_Name (wpAny_loadName_cell I.ok.kind hk hc hcell fin) hd
  ·exact wpAny_Name (wpAny_loadName_free I.ok.kind hk hc hcell fin hcd) hd
theorem X9 {i j pos}:PE X (.Constant (.int i) j pos) (tC (.int i)):=λ_ _ _ H _ I h=>wpAny_Constant_int ⟨.int i,H,I.tok _,⟨_,rfl⟩,h⟩
theorem ZG {b j pos}:PE X (.Constant (.bool b) j pos) (tC (.bl b)):=λ_ _ _ H _ I h=>Constant_bool ⟨.bl b,H,I,rfl,h⟩
theorem Yb {j pos}:PE X (.Constant .none j pos) (tC .non):=λ_ _ _ H _ I h=>Constant_none ⟨.non,H,I,rfl,h⟩
theorem QM {x j pos}:PE X (.Constant (.str x) j pos) (tC (.str x)):=λ_ _ _ H _ I h=>Calls.Constant_str ⟨.str x,H,I.tok _,⟨_,rfl⟩,h⟩
def Gl (X:Cx)(x:Str):Prop:=X.env.kindOf x=some .globalImplicit
theorem Co {pos:Pos}{Q:Value->Shared->Prop}(I:Inv X pins σ H s)(hg:Gl X x)(hm:X.mg x=some u)(h:Q u s)
 (hd:(x == ("__debug__" : Str))=false:=by decide):wpAny (model X.prog X.w) X.A (eval (.Name x pos) X.env) Q E s:=
 Calls.Name_function_global I.ok.kind hg (Calls.loadGlobal_global (by rw [I.ok.glob];exact I.mod.glob.keeps I.bk) hm h) hd
theorem G8 {pos:Pos}{Q:Value->Shared->Prop}(I:Inv X pins σ H s)(hg:Gl X x)(hm:X.mg x=none)(hv:bootBuiltins x=some u)(h:Q u s)
 (hn:x≠"__name__":=by decide) (hd:(x == ("__debug__" : Str))=false:=by decide):wpAny (model X.prog X.w) X.A (eval (.Name x pos) X.env) Q E s:=by
 obtain ⟨mb,h1,h2⟩:=I.mod.blt;exact Calls.Name_function_global I.ok.kind hg (Calls.loadGlobal_builtin (by rw [I.ok.glob];exact I.mod.glob.keeps I.bk) hm (by rw [I.ok.blt];exact h1.keeps I.bk) ((h2 x hn).trans hv) h) hd
theorem NL {pos:Pos}(hg:Gl X x)(hm:X.mg x=some u)(r:RelV v u)(hd:(x == ("__debug__" : Str))=false:=by decide):PE X (.Name x pos) (tC v):=
 λ_ _ _ H _ I h=>Co I hg hm ⟨v,H,I,r,h⟩ hd
theorem VM {pos:Pos}(hg:Gl X x)(hm:X.mg x=none)(hv:bootBuiltins x=some u)(r:RelV v u)(hn:x≠"__name__":=by decide)(hd:(x == ("__debug__" : Str))=false:=by decide):PE X (.Name x pos) (tC v):=
 λ_ _ _ H _ I h=>G8 I hg hm hv ⟨v,H,I,r,h⟩ hn hd
variable {a b:Expr}{ta tb:TE}{pos:Pos}
def tB (t:TE):TT:=λσ H Q=>t σ H λx H1=>∃c,x = .bl c/\Q c H1
theorem Yn {t:TE}(h:PE X e t)(he:∀whole,isTrue e X.env whole=(do let v <-whole;standAt e.pos;holding [v] (truthy v)):=by intro _;rfl):PT X e (tB t):=by
 intro pins s σ H Q I hw;refine isTrue_plain (thn (h pins s σ H _ I hw) λv s1 z9=>?_) (he _);obtain ⟨x,H1,I1,r1,q1⟩:=z9;obtain ⟨d,rfl,q⟩:=q1
 cases r1
 exact wpAny_truthy_bool ⟨H1,I1,q⟩
variable {tA tB':TT}{rest:List Expr}
def bA (t u:TT):TT:=λσ H Q=>t σ H λc H1=>if c=true then u σ H1 Q else Q false H1
def tOr (t u:TT):TT:=λσ H Q=>t σ H λc H1=>if c=true then Q true H1 else u σ H1 Q
def bI (t:TT):TT:=λσ H Q=>t σ H λc H1=>Q (!c) H1
theorem V3 (ha:PT X a tA):PW X (.BoolOp .And [a] pos) tA:=by
 intro wh pins s σ H Q I h;refine isTrue_and (thn (ha pins s σ H Q I h) λc s1 e=>?_)
 cases c with
 | true=>exact isTrue_and_nil e
 | false=>exact e
theorem Yq (ha:PT X a tA):PW X (.BoolOp .Or [a] pos) tA:=by
 intro wh pins s σ H Q I h;refine isTrue_or (thn (ha pins s σ H Q I h) λc s1 e=>?_)
 cases c with
 | false=>exact isTrue_or_nil e
 | true=>exact e
theorem Yp (ha:PT X a tA)(hb:PW X (.BoolOp .And (b :: rest) pos) tB'):PW X (.BoolOp .And (a :: b :: rest) pos) (bA tA tB'):=by
 intro wh pins s σ H Q I h;refine isTrue_and (thn (ha pins s σ H _ I h) λc s1 z9=>?_);obtain ⟨H1,I1,q1⟩:=z9
 cases c with
 | true=>exact hb wh pins s1 σ H1 Q I1 q1
 | false=>exact ⟨H1,I1,q1⟩
theorem ZN (ha:PT X a tA)(hb:PW X (.BoolOp .Or (b :: rest) pos) tB'):PW X (.BoolOp .Or (a :: b :: rest) pos) (tOr tA tB'):=by
 intro wh pins s σ H Q I h;refine isTrue_or (thn (ha pins s σ H _ I h) λc s1 z9=>?_);obtain ⟨H1,I1,q1⟩:=z9
 cases c with
 | true=>exact ⟨H1,I1,q1⟩
 | false=>exact hb wh pins s1 σ H1 Q I1 q1
theorem Ym (ha:PT X a tA):PT X (.UnaryOp .Not a pos) (bI tA):=by
 intro pins s σ H Q I h;refine isTrue_not (thn (ha pins s σ H (λc H1=>Q (!c) H1) I h) λc s1 z=>?_);obtain ⟨H1,I1,q1⟩:=z;exact ⟨H1,I1,q1⟩
def ZQ (ta tb:TE):TE:=λσ H Q=>ta σ H λx H1=>∃c,x = .bl c/\if c=true then tb σ H1 Q else Q (.bl false) H1
def ZX (ta:TE):TE:=λσ H Q=>ta σ H λx H1=>∃c,x = .bl c/\Q (.bl (!c)) H1
theorem Yd {op}{t:TE}(h:PE X a t):PE X (.BoolOp op [a] pos) t:=λpins s σ H Q I hw=>BoolOp_one (h pins s σ H Q I hw)
theorem X6 (ha:PE X a ta)(hb:PE X (.BoolOp .And (b :: rest) pos) tb):PE X (.BoolOp .And (a :: b :: rest) pos) (ZQ ta tb):=by
 intro pins s σ H Q I h;refine BoolOp_and (thn (ha pins s σ H _ I h) λv s1 z9=>?_);obtain ⟨x,H1,I1,r1,q1⟩:=z9;obtain ⟨c,rfl,q1⟩:=q1
 cases r1
 refine wpAny_truthy_bool ?_
 cases c with
 | true=>exact hb pins s1 σ H1 Q I1 q1
 | false=>exact ⟨.bl false,H1,I1,rfl,q1⟩
theorem Yc (ha:PE X a ta):PE X (.UnaryOp .Not a pos) (ZX ta):=by
 intro pins s σ H Q I h;refine UnaryOp_ (thn (ha pins s σ H _ I h) λv s1 z9=>?_);obtain ⟨x,H1,I1,r1,q1⟩:=z9;obtain ⟨c,rfl,q1⟩:=q1
 cases r1
 exact not_of (wpAny_truthy_bool ⟨.bl (!c),H1,I1,rfl,q1⟩)
def tIf (t:TT)(ta tb:TE):TE:=λσ H Q=>t σ H λc H1=>if c=true then ta σ H1 Q else tb σ H1 Q
theorem Tr (hc:PT X c tA)(ha:PE X a ta)(hb:PE X b tb):PE X (.IfExp c a b pos) (tIf tA ta tb):=by
 intro pins s σ H Q I h;refine wpAny_IfExp (thn (hc pins s σ H _ I h) λd s1 z9=>?_);obtain ⟨H1,I1,q1⟩:=z9
 cases d with
 | true=>exact ha pins s1 σ H1 Q I1 q1
 | false=>exact hb pins s1 σ H1 Q I1 q1
end
def SqL (K:PySem.W.Frag)(H:Hp)(a:Addr)(xs:List V):Prop:=
 Rd H a (.lst xs)\/
  ∃(o:Obj) (its:Array Value) (n:Nat),K.lookup a=some o/\o.cls = .type "list"/\o.dict=none/\o.data = .seq its n/\its.size<=sizeLine/\Vals xs its.toList
def SqT (K:PySem.W.Frag)(H:Hp)(a:Addr)(xs:List V):Prop:=
 Rd H a (.tup xs)\/
  ∃(o:Obj) (its:Array Value) (n:Nat),K.lookup a=some o/\o.cls = .type "tuple"/\o.data = .seq its n/\its.size<=sizeLine/\Vals xs its.toList
noncomputable def aV:Value->Option V
 | .none=>some .non
 | .bool b=>some (.bl b)
 | .int i _=>some (.int i)
 | .str x _=>some (.str x)
 | .bytes b _=>some (.byt b)
 | .float b _=>some (.flt b)
 | .ref a=>some (.ref a)
 | .type n=>some (.ty n)
 | _=>none
theorem RelV.abs {x:V}(r:RelV x u):aV u=some x:=by
 cases x with
 | non=>cases r;rfl
 | bl _=>cases r;rfl
 | int _=>obtain ⟨t,rfl⟩:=r;rfl
 | str _=>obtain ⟨t,rfl⟩:=r;rfl
 | byt _=>obtain ⟨t,rfl⟩:=r;rfl
 | flt _=>obtain ⟨t,rfl⟩:=r;rfl
 | ref _=>cases r;rfl
 | ty _=>cases r;rfl
theorem RelV.inj {x y:V}{u:Value}(r:RelV x u)(q:RelV y u):x=y:=ui9 (r.abs.symm.trans q.abs)
theorem Vals.inj {xs ys:List V}{us:List Value}(a:Vals xs us)(b:Vals ys us):xs=ys:=by
 cases a with
 | nil=>
   cases b
   rfl
 | cons r t=>
   cases b with
   | cons r' t'=>rw [r.inj r',Vals.inj t t']
variable {K:PySem.W.Frag}
section
variable {X:Cx}{pins:List (Addr×Obj)}{σ:St}{H:Hp}{s:Shared}{a:Addr}{xs ys:List V}
theorem SqL.of (h:H a=some (.lst xs)):SqL K H a xs:=.inl (.inl h)
theorem SqT.of (h:H a=some (.tup xs)):SqT K H a xs:=.inl (.inl h)
theorem Inv.list (I:Inv X pins σ H s)(h:SqL X.K H a xs):∃its:List Value,Vals xs its/\PlainL s.heap a its.toArray/\xs.length<=sizeLine:=by
 rcases h with h | ⟨o,its,n,hk,hc,hd,hs,hz,r⟩
 ·obtain ⟨z,its,n,r,e⟩:=h.ok I.hok;exact ⟨its,r,⟨_,n,e,rfl,rfl,rfl⟩,z⟩
 ·refine ⟨its.toList,r,⟨o,n,I.kIn a o hk,hc,hd,by simpa using hs⟩,?_⟩;have e:=r.length;simp only [ue5] at e;lia
theorem Inv.tuple (I:Inv X pins σ H s)(h:SqT X.K H a xs):∃its:List Value,Vals xs its/\IsTup s.heap a its.toArray/\xs.length<=sizeLine:=by
 rcases h with h | ⟨o,its,n,hk,hc,hs,hz,r⟩
 ·obtain ⟨z,its,r,p⟩:=h.ok I.hok;exact ⟨its,r,p,z⟩
 ·refine ⟨its.toList,r,⟨o,I.kIn a o hk,hc,n,by simpa using hs⟩,?_⟩;have e:=r.length;simp only [ue5] at e;lia
theorem Inv.list_inj (I:Inv X pins σ H s)(h:SqL X.K H a xs)(h':SqL X.K H a ys):xs=ys:=by
 obtain ⟨its,r,⟨o,n,e,_,_,d⟩,_⟩:=I.list h;obtain ⟨its',r',⟨o',n',e',_,_,d'⟩,_⟩:=I.list h';rw [e] at e';cases e'
 rw [d] at d';injection d' with d1 _
 have:its=its':=by simpa using congrArg Array.toList d1
 subst this;exact r.inj r'
theorem Inv.tuple_inj (I:Inv X pins σ H s)(h:SqT X.K H a xs)(h':SqT X.K H a ys):xs=ys:=by
 obtain ⟨its,r,⟨o,e,_,n,d⟩,_⟩:=I.tuple h;obtain ⟨its',r',⟨o',e',_,n',d'⟩,_⟩:=I.tuple h';rw [e] at e';cases e'
 rw [d] at d';injection d' with d1 _
 have:its=its':=by simpa using congrArg Array.toList d1
 subst this;exact r.inj r'
end
abbrev Cx.wish (X:Cx)(E:Value->Shared->Prop):Cx:={ X with xe:=E }
abbrev Cx.nox (X:Cx):Cx:=X.wish λ_ _=>False
theorem Cx.Ok.wish {X:Cx}(ok:X.Ok)(E:Value->Shared->Prop):(X.wish E).Ok:=
 ⟨ok.mod,ok.kind,ok.glob,ok.blt,ok.above,ok.inj,ok.has,ok.cab,ok.hd,ok.frames,ok.stk,ok.exf,ok.bs,ok.bsz,ok.noex,ok.exfs,ok.funs,ok.frf⟩
theorem Cx.Ok.unwish (ok:(X.wish E).Ok):X.Ok:=
 ⟨ok.mod,ok.kind,ok.glob,ok.blt,ok.above,ok.inj,ok.has,ok.cab,ok.hd,ok.frames,ok.stk,ok.exf,ok.bs,ok.bsz,ok.noex,ok.exfs,ok.funs,ok.frf⟩
section
variable {X:Cx}{pins:List (Addr×Obj)}{σ:St}{H:Hp}{s:Shared}{E:Value->Shared->Prop}
theorem Inv.wish (I:Inv X pins σ H s)(E:Value->Shared->Prop):Inv (X.wish E) pins σ H s:=⟨I.ok.wish E,I.os,I.bare,I.base,I.loc,I.cell,I.free,I.freeC,I.pin,I.hok,I.len⟩
theorem Inv.unwish (I:Inv (X.wish E) pins σ H s):Inv X pins σ H s:=⟨I.ok.unwish,I.os,I.bare,I.base,I.loc,I.cell,I.free,I.freeC,I.pin,I.hok,I.len⟩
theorem SP.unwish {D:Ends}{f:Flow}{s':Shared}(h:SP (X.wish E) pins D f s'):SP X pins D f s':=by
 cases f with
 | next=>obtain ⟨σ',H',I,q⟩:=h;exact ⟨σ',H',I.unwish,q⟩
 | brk=>obtain ⟨σ',H',I,q⟩:=h;exact ⟨σ',H',I.unwish,q⟩
 | cont=>obtain ⟨σ',H',I,q⟩:=h;exact ⟨σ',H',I.unwish,q⟩
 | ret u=>obtain ⟨v,σ',H',I,r,q⟩:=h;exact ⟨v,σ',H',I.unwish,r,q⟩
theorem PSs.nox {st:List Stmt}{t:TS}(h:PSs X.nox st t):PSs X st t:=λpins s σ H D I hw=>
 un8 (h pins s σ H D (I.wish _) hw) (λ_ _ q=>q.unwish) λ_ _ z=>False.elim z
end
section
variable {X:Cx}{st:Stmt}{rest:List Stmt}{t u:TS}{e:Expr}{te:TE}{pos:Pos}
def ZW:TS:=λD σ H=>D.nx σ H
def bK (t u:TS):TS:=λD σ H=>t { D with nx:=u D } σ H
theorem V1:PSs X [] ZW:=λ_ _ σ H _ I h=>wpAny_execs_nil ⟨σ,H,I,h⟩
theorem IP (h1:PS X st t)(h2:PSs X rest u):PSs X (st :: rest) (bK t u):=by
 intro pins s σ H D I h;refine wpAny_execs_cons (thn (h1 pins s σ H { D with nx:=u D } I h) λf s1 q=>?_)
 cases f with
 | next=>
   obtain ⟨σ',H',I',q⟩:=q;exact h2 pins s1 σ' H' D I' q
 | ret v=>exact q
 | brk=>exact q
 | cont=>exact q
theorem HZ (h1:PS X st t):PSs X [st] t:=by
 intro pins s σ H D I h;refine wpAny_execs_cons (thn (h1 pins s σ H D I h) λf s1 q=>?_)
 cases f with
 | next=>exact wpAny_execs_nil q
 | ret v=>exact q
 | brk=>exact q
 | cont=>exact q
def YT:TS:=λD σ H=>D.bk σ H
theorem Ty:PS X (.Break pos) YT:=λ_ _ σ H _ I h=>wpAny_Break ⟨σ,H,I,h⟩
theorem Inv.quiet (I:Inv X pins σ H s):interactive X.env=false:=by simp [interactive,I.ok.kind]
def UC (te:TE):TS:=λD σ H=>te σ H λ_ H1=>D.nx σ H1
theorem Kj (he:PE X e te)(hs:swapsWith e none pos.line X.env=pure false:=by rfl):PS X (.Expr e pos) (UC te):=by
 intro pins s σ H D I h;exact wpAny_Expr_any (thn (he pins s σ H _ I h) λv s1 z9=>by obtain ⟨x,H1,I1,r1,q1⟩:=z9;exact ⟨σ,H1,I1,q1⟩) I.quiet hs
def bJ (te:TE):TS:=λD σ H=>te σ H D.rt
theorem Hs (he:PE X e te):PS X (.Return (some e) pos) (bJ te):=by
 intro pins s σ H D I h;exact wpAny_Return_some (thn (he pins s σ H _ I h) λv s1 z9=>by obtain ⟨x,H1,I1,r1,q1⟩:=z9;exact ⟨x,σ,H1,I1,r1,q1⟩)
def bG (c:TT)(t u:TS):TS:=λD σ H=>c σ H λb H1=>if b=true then t D σ H1 else u D σ H1
theorem ZK {a b:List Stmt}{tc:TT}(hc:PT X c tc)(ha:PSs X a t)(hb:PSs X b u):PS X (.If c a b pos) (bG tc t u):=by
 intro pins s σ H D I h;refine wpAny_If (thn (hc pins s σ H _ I h) λd s1 z9=>?_);obtain ⟨H1,I1,q1⟩:=z9
 cases d with
 | true=>exact ha pins s1 σ H1 D I1 q1
 | false=>exact hb pins s1 σ H1 D I1 q1
end
abbrev TG:=V->St->Hp->(St->Hp->Prop)->Prop
abbrev TGs:=List V->St->Hp->(St->Hp->Prop)->Prop
def PG (X:Cx)(target:Expr)(t:TG):Prop:=
 ∀(pins:List (Addr×Obj)) (s:Shared) (σ:St) (H:Hp) (v:V) (u:Value) (Q:St->Hp->Prop),Inv X pins σ H s->RelV v u->t v σ H Q->
  wpAny (model X.prog X.w) X.A (assign target X.env u) (λ_ s'=>∃σ' H',Inv X pins σ' H' s'/\Q σ' H') X.xe s
def PGs (X:Cx)(ts:List Expr)(t:TGs):Prop:=
 ∀(pins:List (Addr×Obj)) (s:Shared) (σ:St) (H:Hp) (vs:List V) (us:List Value) (Q:St->Hp->Prop),Inv X pins σ H s->Vals vs us->t vs σ H Q->
  wpAny (model X.prog X.w) X.A (assignInOrder ((assignEach ts X.env).map (·.2)) us) (λ_ s'=>∃σ' H',Inv X pins σ' H' s'/\Q σ' H') X.xe s
abbrev RU:=V->V->V->Hp->(Hp->Prop)->Prop
def RM (X:Cx)(t:RU):Prop:=
 ∀(pins:List (Addr×Obj)) (s:Shared) (σ:St) (H:Hp) (o i v:V) (ov iv u:Value) (Q:Hp->Prop),Inv X pins σ H s->RelV o ov->RelV i iv->RelV v u->t o i v H Q->
  wpAny (model X.prog X.w) X.A (setItem ov iv u) (λ_ s'=>∃H',Inv X pins σ H' s'/\Q H') X.xe s
variable {tg:Expr}
section
variable {X:Cx}{pos:Pos}
def Lf (i:Nat):TG:=λv σ H Q=>Q (σ.set i (some v)) H
theorem VR (hN:X.N.Nodup)(hi:X.N[i]?=some x)(hx:Loc X.env.scope x)(hf:X.fn x=true\/X.env.scope.names.lookup x=some .local:=by walk_at "h"):PG X (.Name x pos) (Lf i):=by
 intro pins s σ H v u Q I r h;exact wpAny_assign_Name (Fh I hN hi hx r (λs' I'=>⟨_,H,I',h⟩) hf)
def bh:TGs:=λvs σ H Q=>vs=[]/\Q σ H
def Um (t:TG)(u:TGs):TGs:=λvs σ H Q=>∃v r,vs=v :: r/\t v σ H λσ' H'=>u r σ' H' Q
theorem VS:PGs X [] bh:=by
 intro pins s σ H vs us Q I r h;obtain ⟨e,h⟩:=h;subst e
 cases r
 exact assignInOrder_nil ⟨σ,H,I,h⟩
theorem Tu {es:List Expr}{t:TG}{u:TGs}(h1:PG X e t)(h2:PGs X es u)
 (hs:(assignEach (e :: es) X.env).map (·.2)=assign e X.env :: (assignEach es X.env).map (·.2):=by rfl):PGs X (e :: es) (Um t u):=by
 intro pins s σ H vs us Q I r h;obtain ⟨v,vr,e1,h⟩:=h;subst e1
 cases r with
 | cons r rr=>
   rw [hs];refine assignInOrder_cons (thn (h1 pins s σ H _ _ _ I r h) λ_ s1 z9=>?_);obtain ⟨σ1,H1,I1,q1⟩:=z9;exact h2 pins s1 σ1 H1 _ _ Q I1 rr q1
def bj (K:PySem.W.Frag)(n:Nat)(t:TGs):TG:=λv σ H Q=>∃a xs,v = .ref a/\SqT K H a xs/\xs.length=n/\t xs σ H Q
theorem Yf {es:List Expr}{k:Nat}{t:TGs}{n:Nat}(hc:X.calm=true)(h:PGs X es t)
 (hn:(assignEach es X.env).length=n:=by rfl) (hst:(assignEach es X.env).findIdx? (·.1)=none:=by rfl):PG X (.Tuple es k pos) (bj X.K n t):=by
 intro pins s σ H v u Q I r hw;obtain ⟨a,xs,e1,hq,hl,hw⟩:=hw;subst e1
 cases r
 obtain ⟨its,rv,ht,hz⟩:=I.tuple hq;refine assign_Tuple_tuple (I.ok.hd hc) ht (by simp [hn,<-hl,rv.length]) hst λh' hx=>?_;have I1:Inv X pins σ H { s with heap:=h' }:=I.kept (t':=s.toks) λb o e=>hx b o (um3 (um2 e)) e;exact h pins _ σ H xs _ Q I1 (by simpa using rv) hw
def bi (to ti:TE)(t:RU):TG:=λv σ H Q=>to σ H λo H1=>ti σ H1 λi H2=>t o i v H2 λH3=>Q σ H3
theorem QN {o i:Expr}{to ti:TE}{t:RU}(ho:PE X o to)(hi:PE X i ti)(hs:RM X t)
 (ha:∀v,assign (.Subscript o i pos) X.env v=(do
   let ov <-holding [v] (eval o X.env)
   let iv <-holding [v,ov] (eval i X.env)
   standAt pos
   holding [v,ov,iv] (setItem ov iv v)
   release [v,ov,iv] []):=by intro _;rfl):PG X (.Subscript o i pos) (bi to ti t):=by
 intro pins s σ H v u Q I r h;rw [ha];refine un6 (um1 (thn (ho pins s σ H _ I h) λov s1 z9=>?_));obtain ⟨x,H1,I1,r1,q1⟩:=z9;refine un6 (um1 (thn (hi pins s1 σ H1 _ I1 q1) λiv s2 z9=>?_));obtain ⟨y,H2,I2,r2,q2⟩:=z9;refine un6 (wpAny_standAt (un6 (um1 (thn (hs pins s2 σ H2 x y v ov iv u _ I2 r1 r2 r q2) λ_ s3 z9=>?_))));obtain ⟨H3,I3,q3⟩:=z9;exact wpAny_release ⟨σ,H3,I3,q3⟩
def Pa (te:TE)(g:TG):TS:=λD σ H=>te σ H λx H1=>g x σ H1 D.nx
theorem Jy {te:TE}{g:TG}(he:PE X e te)(hg:PG X tg g)(hs:swapsWithSole [tg] e pos.line X.env=pure false:=by rfl)(hw:swappedStores [tg] e X.env=pure none:=by rfl)
 (h1:(assignEach [tg] X.env).map (·.2)=[assign tg X.env]:=by rfl):PS X (.Assign [tg] e pos) (Pa te g):=by
 intro pins s σ H D I h;refine wpAny_Assign_stores (thn (he pins s σ H _ I h) λv s1 z9=>?_) hs hw;obtain ⟨x,H1,I1,r1,q1⟩:=z9;rw [h1];exact thn (hg pins s1 σ H1 x v _ I1 r1 q1) λ_ s2 q=>q
theorem MH {te:TE}{pos':Pos}(hN:X.N.Nodup)(hi:X.N[i]?=some x)(hx:Loc X.env.scope x)(he:PE X e te)(hs:swapsWith e (some (.Name x pos')) pos.line X.env=pure false:=by rfl)(hf:X.fn x=true\/X.env.scope.names.lookup x=some .local:=by walk_at "h") :
 PS X (.Assign [.Name x pos'] e pos) (Pa te (Lf i)):=by
 intro pins s σ H D I h;refine wpAny_Assign_Name (thn (he pins s σ H _ I h) λv s1 z9=>?_) hs;obtain ⟨y,H1,I1,r1,q1⟩:=z9;exact Fh I1 hN hi hx r1 (λs2 I2=>⟨_,H1,I2,q1⟩) hf
end
section
variable {X:Cx}{pos:Pos}
def Rp (c:TT)(tb:TS):TS:=λD σ H=>∃W:Nat->St->Hp->Prop,(∃m,W m σ H)/\∀m σ H,W m σ H->
 c σ H λb H1=>if b=true then ∃N:St->Hp->Prop,(∀σ' H',N σ' H'->∃m',m' < m/\W m' σ' H')/\tb { D with nx:=N,ct:=N,bk:=D.nx } σ H1 else D.nx σ H1
theorem Tz {body:List Stmt}{tc:TT}{tb:TS}(hp:PassesOwn (model X.prog X.w) X.A X.env X.xe)(hc:PT X c tc)(hb:PSs X body tb):PS X (.While c body [] pos) (Rp tc tb):=by
 intro pins s σ H D I h;obtain ⟨W,⟨m0,w0⟩,turn⟩:=h;refine wpAny_While (codeAny_whileLoop (λn s'=>∃σ' H',Inv X pins σ' H' s'/\W n σ' H') ?_ m0 ⟨σ,H,I,w0⟩);rintro n s1 ⟨σ1,H1,I1,w1⟩;refine wpAny_passesOwn hp (thn (hc pins s1 σ1 H1 _ I1 (turn n σ1 H1 w1)) λb s2 z9=>?_);obtain ⟨H2,I2,q2⟩:=z9
 cases b with
 | true=>
   obtain ⟨N,hN,q2⟩:=q2;rw [if_pos rfl];refine wpAny_passesOwn hp (thn (hb pins s2 σ1 H2 _ I2 q2) λf s3 q3=>?_)
   cases f with
   | next=>
     obtain ⟨σ3,H3,I3,n3⟩:=q3;obtain ⟨m',hm,w3⟩:=hN σ3 H3 n3;exact ⟨m',hm,σ3,H3,I3,w3⟩
   | cont=>
     obtain ⟨σ3,H3,I3,n3⟩:=q3;obtain ⟨m',hm,w3⟩:=hN σ3 H3 n3;exact ⟨m',hm,σ3,H3,I3,w3⟩
   | brk=>exact q3
   | ret v=>exact q3
 | false=>
   rw [if_neg uf4];exact wpAny_execs_nil ⟨σ1,H2,I2,q2⟩
end
structure It where
 go:Nat->Hp->Prop
 yld:Nat->Hp->V->Hp->Prop
 stop:Nat->Hp->Prop
def FpOk (X:Cx)(pins:List (Addr×Obj))(H:Hp)(b:Addr):Prop:=
 H b=none/\b≠X.env.locals/\b∉X.fs/\(b∈X.ex\/X.s₀.heap.objs.size<=b)/\(∀x c,X.env.cells.lookup x=some c->c≠b)/\∀p∈X.pn++pins,p.1≠b
theorem Inv.fpOk {H':Hp}(I:Inv X pins σ H s)(hb:s.heap.objs.size<=b)(hn:H' b=none):FpOk X pins H' b:=by
 refine ⟨hn,um5 (uf2 I.lt hb),I.nofs hb,.inr (um4 I.sz hb),λx c e z=>?_,λp hp z=>?_⟩
 ·obtain ⟨v,q⟩:=I.cell x c e;exact absurd (uf2 q.lt (by rw [z];exact hb)) (ul2 _)
 ·exact absurd (uf2 (um2 (I.pin p hp).1) (by rw [z];exact hb)) (ul2 _)
structure Turn (P:Program)(w:World)(K:PySem.W.Frag)(tg:Expr)(J:It)(fp:List Addr)(it:Addr)(tn:Nat->Heap->Prop):Prop where
 mem:it∈fp
 obj:∀i h,tn i h->∀b∈fp,∃o,h.get? b=some o/\∀v,o.data≠.cell v
 keep:∀i h h',tn i h->(∀b∈fp,∀o,h.get? b=some o->h'.get? b=some o)->tn i h'
 item:∀(X:Cx),X.prog=P->X.w=w->X.K=K->X.calm=true->∀(i:Nat) (pins:List (Addr×Obj)) (s:Shared) (σ:St) (H:Hp) (E:Value->Shared->Prop),Inv X pins σ H s->(∀b∈fp,FpOk X pins H b)->tn i s.heap->J.go i H->
  wpAny (model P w) X.A (pyNext (.ref it)) (λr s1=>∃u,r=some u/\
   wpAny (model P w) X.A (letOwnedTupleGo tg (.ref it) u) (λ_ s2=>∃x H',Inv X pins σ H' s2/\RelV x u/\J.yld i H x H'/\tn (i + 1) s2.heap/\∀b∈fp,H' b=none) E s1) E s
 done:∀(X:Cx),X.prog=P->X.w=w->X.K=K->X.calm=true->∀(i:Nat) (pins:List (Addr×Obj)) (s:Shared) (σ:St) (H:Hp) (E:Value->Shared->Prop),Inv X pins σ H s->(∀b∈fp,FpOk X pins H b)->tn i s.heap->J.stop i H->
  wpAny (model P w) X.A (pyNext (.ref it)) (λr s1=>r=none/\Inv X pins σ H s1) E s
 self:∀(A:Around) (i:Nat) (s:Shared) (Q:Value->Shared->Prop) (E:Value->Shared->Prop),tn i s.heap->Q (.ref it) s->wpAny (model P w) A (pyIter (.ref it)) Q E s
abbrev TI:=St->Hp->(It->Hp->Prop)->Prop
def PIE (X:Cx)(pins:List (Addr×Obj))(σ:St)(tg:Expr)(R:It->Hp->Prop)(itv:Value)(s2:Shared):Prop:=
 ∃(it:Addr) (fp:List Addr) (tn:Nat->Heap->Prop) (J:It) (H':Hp),itv = .ref it/\Inv X pins σ H' s2/\Turn X.prog X.w X.K tg J fp it tn/\tn 0 s2.heap/\(∀b∈fp,FpOk X pins H' b)/\R J H'
def PI (X:Cx)(tg iter:Expr)(wi:TI):Prop:=
 ∀(pins:List (Addr×Obj)) (s:Shared) (σ:St) (H:Hp) (R:It->Hp->Prop),Inv X pins σ H s->wi σ H R->
  wpAny (model X.prog X.w) X.A (eval iter X.env) (λv s1=>wpAny (model X.prog X.w) X.A (pyIter v) (PIE X pins σ tg R) X.xe s1) X.xe s
theorem Lg {M:Model}{A:Around}{it:Addr}{o:Obj}{n:String}{vs:Array Value}(ho:s.heap.get? it=some o)(hc:o.cls = .type n)(hd:o.data = .fields vs)
 (hn:["enumerate", "zip", "dict_itemiterator", "dict_reverseitemiterator", "odict_iterator", "itertools.zip_longest", "itertools.pairwise"].contains n=false) (hQ:Q () s):wpAny M A (letOwnedTupleGo tg (.ref it) u) Q E s:=by
 unfold letOwnedTupleGo
 cases tg <;> first
  | exact un7 hQ
  | (cases u <;> first
      | exact un7 hQ
      | (refine un6 (wpAny_load ho ?_)
         rw [hc,hd];show wpAny M A (if (["enumerate", "zip", "dict_itemiterator", "dict_reverseitemiterator", "odict_iterator", "itertools.zip_longest", "itertools.pairwise"].contains n && vs[0]? == some (rawInt _))=true then _ else _) Q E s;rw [if_neg (by intro h;rw [hn,uk7] at h;cases h)]
         exact un7 hQ))
def Itl (K:PySem.W.Frag)(a:Addr):It:=
 ⟨λi H=>∃xs x,SqL K H a xs/\xs[i]?=some x,λi H x H'=>H'=H/\∀xs,SqL K H a xs->xs[i]?=some x,λi H=>∃xs,SqL K H a xs/\xs.length<=i⟩
def Itt (K:PySem.W.Frag)(a:Addr):It:=
 ⟨λi H=>∃xs x,SqT K H a xs/\xs[i]?=some x,λi H x H'=>H'=H/\∀xs,SqT K H a xs->xs[i]?=some x,λi H=>∃xs,SqT K H a xs/\xs.length<=i⟩
noncomputable def Itr (lo:Int)(n:Nat):It:=⟨λi _=>i < n,λi H x H'=>H'=H/\x = .int (lo + i),λi _=>n<=i⟩
theorem Rt (a it:Addr):Turn P w K tg (Itl K a) [it] it (λi h=>h.IsListIter it a i) where
 mem:=by simp
 obj:=λi h st b hb=>by
  have e:b=it:=by simpa using hb
  subst e;obtain ⟨o,e,c,d⟩:=st;exact ⟨o,e,λv z=>by rw [d] at z;cases z⟩
 keep:=λi h h' st k=>st.at λo e=>k it (by simp) o e
 item:=by
  intro X hP hw hK hc i pins s σ H E I hf st hg;subst hP hw hK;obtain ⟨xs,x,hq,hx⟩:=hg;obtain ⟨its,rv,p,hz⟩:=I.list hq;obtain ⟨u,hu,ru⟩:=rv.get hx;obtain ⟨f0,f1,f2,f3,f4,f5⟩:=hf it (by simp);refine wpAny_pyNext_list_item st p.isList (x:=u) (by simpa using hu) λh' st' sb=>?_;have I1:Inv X pins σ H { s with heap:=h' }:=I.turned (t':=s.toks) (λb o hb e=>(sb.2 b hb).trans e) f0 f1 f3 f4 f5;obtain ⟨o,e,c,d⟩:=id st';exact ⟨u,rfl,Lg (s:={ s with heap:=h' }) e c d (by decide) ⟨x,H,I1,ru,⟨rfl,λys hy=>by rw [I.list_inj hy hq];exact hx⟩,st',λb hb=>(hf b hb).1⟩⟩
 done:=by
  intro X hP hw hK hc i pins s σ H E I hf st hg;subst hP hw hK;obtain ⟨xs,hq,hx⟩:=hg;obtain ⟨its,rv,p,hz⟩:=I.list hq;obtain ⟨f0,f1,f2,f3,f4,f5⟩:=hf it (by simp);have hl:=rv.length;exact wpAny_pyNext_list_end (I.ok.hd hc) st p.isList (by simp;lia) λh' eb=>⟨rfl,I.turned (t':=s.toks) (λb o hb e=>eb b o hb e) f0 f1 f3 f4 f5⟩
 self:=λ_ _ _ _ _ st h=>wpAny_pyIter_listiter st h
theorem Pd (a it:Addr):Turn P w K tg (Itt K a) [it] it (λi h=>h.IsTupleIter it a i) where
 mem:=by simp
 obj:=λi h st b hb=>by
  have e:b=it:=by simpa using hb
  subst e;obtain ⟨o,e,c,d⟩:=st;exact ⟨o,e,λv z=>by rw [d] at z;cases z⟩
 keep:=λi h h' st k=>st.at λo e=>k it (by simp) o e
 item:=by
  intro X hP hw hK hc i pins s σ H E I hf st hg;subst hP hw hK;obtain ⟨xs,x,hq,hx⟩:=hg;obtain ⟨its,rv,p,hz⟩:=I.tuple hq;obtain ⟨u,hu,ru⟩:=rv.get hx;obtain ⟨f0,f1,f2,f3,f4,f5⟩:=hf it (by simp);refine wpAny_pyNext_tuple_item st (show s.heap.IsTuple a its.toArray from p) (x:=u) (by simpa using hu) λh' st' sb=>?_;have I1:Inv X pins σ H { s with heap:=h' }:=I.turned (t':=s.toks) (λb o hb e=>(sb.2 b hb).trans e) f0 f1 f3 f4 f5;obtain ⟨o,e,c,d⟩:=id st';exact ⟨u,rfl,Lg (s:={ s with heap:=h' }) e c d (by decide) ⟨x,H,I1,ru,⟨rfl,λys hy=>by rw [I.tuple_inj hy hq];exact hx⟩,st',λb hb=>(hf b hb).1⟩⟩
 done:=by
  intro X hP hw hK hc i pins s σ H E I hf st hg;subst hP hw hK;obtain ⟨xs,hq,hx⟩:=hg;obtain ⟨its,rv,p,hz⟩:=I.tuple hq;obtain ⟨f0,f1,f2,f3,f4,f5⟩:=hf it (by simp);have hl:=rv.length;exact wpAny_pyNext_tuple_end (I.ok.hd hc) st (show s.heap.IsTuple a its.toArray from p) (by simp;lia) λh' eb=>⟨rfl,I.turned (t':=s.toks) (λb o hb e=>eb b o hb e) f0 f1 f3 f4 f5⟩
 self:=λ_ _ _ _ _ st h=>wpAny_pyIter_tupleiter st h
theorem Pc (it:Addr)(lo:Int)(n:Nat):Turn P w K tg (Itr lo n) [it] it (λi h=>IsRangeIter h it (lo + (i:Nat) * 1) ((n:Int) - (i:Nat)) 1) where
 mem:=by simp
 obj:=λi h st b hb=>by
  have e:b=it:=by simpa using hb
  subst e;exact ⟨_,st,λv z=>by
   have z':Data.fields _=Data.cell v:=z
   cases z'⟩
 keep:=λi h h' st k=>k it (by simp) _ st
 item:=by
  intro X hP hw hK hc i pins s σ H E I hf st hg;subst hP hw hK;obtain ⟨f0,f1,f2,f3,f4,f5⟩:=hf it (by simp);have W:=Walks.range (prog:=X.prog) (w:=X.w) (I.ok.hd hc) it lo 1 n;refine W.item i s _ _ hg st λv h' tk hv st' kk=>?_;obtain ⟨t,rfl⟩:=hv;have I1:Inv X pins σ H { s with heap:=h',toks:=tk }:=I.turned (λb o hb e=>kk b o (by simpa using hb) e) f0 f1 f3 f4 f5;refine ⟨_,rfl,Lg (s:={ s with heap:=h',toks:=tk }) (n:="range_iterator") st' rfl rfl (by decide) ⟨.int (lo + i),H,I1,⟨t,?_⟩,⟨rfl,rfl⟩,st',λb hb=>(hf b hb).1⟩⟩;rw [Int.mul_one]
 done:=by
  intro X hP hw hK hc i pins s σ H E I hf st hg;subst hP hw hK;obtain ⟨f0,f1,f2,f3,f4,f5⟩:=hf it (by simp);exact wpAny_pyNext_range_end (I.ok.hd hc) st (by have:n<=i:=hg;lia) λh' eb=>⟨rfl,I.turned (t':=s.toks) (λb o hb e=>eb b o hb e) f0 f1 f3 f4 f5⟩
 self:=λ_ _ _ _ _ st h=>wpAny_pyIter_rangeiter st h
section
variable {X:Cx}{tg:Expr}
theorem MK {R:It->Hp->Prop}{lo hi:Int}{t u v:Tok}{tk:Nat}(I:Inv X pins σ H s)(h1 : -(2 ^ 62)<=lo)(h2:lo < 2 ^ 62)(h3 : -(2 ^ 62)<=hi)(h4:hi < 2 ^ 62)
 (q:R (Itr lo (hi - lo).toNat) H):wpAny (model X.prog X.w) X.A (pyIter (.ref s.heap.objs.size)) (PIE X pins σ tg R) E { s with heap:=s.heap.push { cls:=.type "range",data:=.fields #[.int lo t,.int hi u,.int 1 v] },toks:=tk }:=by
 refine wpAny_pyIter_range (IsRange.new ..) (small_one h1 h2 h3 h4) ?_;have I1:Inv X pins σ H { s with heap:=s.heap.push { cls:=.type "range",data:=.fields #[.int lo t,.int hi u,.int 1 v] },toks:=tk }:=I.kept λb o e=>uc4 _ e;refine ⟨(s.heap.push { cls:=.type "range",data:=.fields #[.int lo t,.int hi u,.int 1 v] }).objs.size,[(s.heap.push { cls:=.type "range",data:=.fields #[.int lo t,.int hi u,.int 1 v] }).objs.size],_,_,H,rfl,
  I1.kept (t':=tk) λb o e=>uc4 _ e,Pc _ lo (hi - lo).toNat,?_,λb hb=>?_,q⟩
 ·have e1:lo + ((0:Nat):Int) * 1=lo:=by simp
  have e2:(((hi - lo).toNat:Nat):Int) - ((0:Nat):Int)=Builtin.Range.rangeSize lo hi 1:=by rw [rangeSize_one];split <;> lia
  show IsRangeIter _ _ (lo + ((0:Nat):Int) * 1) ((((hi - lo).toNat:Nat):Int) - ((0:Nat):Int)) 1;rw [e1,e2];exact ue6 _ rfl
 ·have e:b=(s.heap.push { cls:=.type "range",data:=.fields #[.int lo t,.int hi u,.int 1 v] }).objs.size:=by simpa using hb
  subst e;exact I1.fpOk (un2 _) (I1.hok.fresh (un2 _))
def ZA (ta:TA):TI:=λσ H R=>ta σ H λvs H1=>∃j:Int,vs=[.int j]/\-(2 ^ 62)<=j/\j < 2 ^ 62/\R (Itr 0 j.toNat) H1
def ZB (ta:TA):TI:=λσ H R=>ta σ H λvs H1=>∃i j:Int,vs=[.int i,.int j]/\(-(2 ^ 62)<=i/\i < 2 ^ 62/\-(2 ^ 62)<=j/\j < 2 ^ 62)/\R (Itr i (j - i).toNat) H1
theorem QQ {a:Expr}{ta:TA}{p pos:Pos}(hg:Gl X "range")(hm:X.mg "range" = none)(ha:PA X [a] ta)(hs:starEach [a] X.env=[(false,eval a X.env)]:=by rfl):PI X tg (.Call (.Name "range" p) [a] [] pos) (ZA ta):=by
 intro pins s σ H R I h;refine Call_ (G8 I hg hm boot_range (ua4 (thn (ha pos pins s σ H _ I h) λus s1 z9=>?_) hs rfl));obtain ⟨vs,H1,I1,r1,q1⟩:=z9;obtain ⟨j,e,q1,q2,q⟩:=q1;subst e
 cases r1 with
 | cons r rr=>
   cases rr
   obtain ⟨t,rfl⟩:=r;exact call_range_1 (MK I1 (by lia) (by lia) q1 q2 (by simpa using q))
theorem QR {a b:Expr}{ta:TA}{p pos:Pos}(hg:Gl X "range")(hm:X.mg "range" = none)(ha:PA X [a,b] ta)(hs:starEach [a,b] X.env=[(false,eval a X.env),(false,eval b X.env)]:=by rfl)(hs2:starEach [b] X.env=[(false,eval b X.env)]:=by rfl) :
 PI X tg (.Call (.Name "range" p) [a,b] [] pos) (ZB ta):=by
 intro pins s σ H R I h;refine Call_ (G8 I hg hm boot_range (ua4 (thn (ha pos pins s σ H _ I h) λus s1 z9=>?_) (by rw [hs,hs2]) (by rw [hs2];rfl)));obtain ⟨vs,H1,I1,r1,q1⟩:=z9;obtain ⟨i,j,e,⟨q1,q2,q3,q4⟩,q⟩:=q1;subst e
 cases r1 with
 | cons r rr=>
   cases rr with
   | cons r' rr=>
     cases rr
     obtain ⟨t,rfl⟩:=r;obtain ⟨t',rfl⟩:=r';exact call_range_2 (MK I1 q1 q2 q3 q4 q)
def YV (wi:TI)(g:TG)(tb:TS):TS:=λD σ H=>wi σ H λJ H1=>∃W:Nat->Nat->St->Hp->Prop,(∃m,W 0 m σ H1)/\∀i m σ H,W i m σ H->
 (J.stop i H/\D.nx σ H)\/(J.go i H/\∃N:St->Hp->Prop,(∀σ' H',N σ' H'->∃m',m' < m/\W (i + 1) m' σ' H')/\∀x H',J.yld i H x H'->g x σ H' λσ2 H2=>tb { D with nx:=N,ct:=N,bk:=D.nx } σ2 H2)
noncomputable def Hq (fp:List Addr)(h:Heap):List (Addr×Obj):=fp.filterMap λb=>(h.get? b).map λo=>(b,o)
theorem EC {fp:List Addr}{o:Obj}(hb:b∈fp)(e:h.get? b=some o):(b,o)∈Hq fp h:=List.mem_filterMap.mpr ⟨b,hb,by rw [e];rfl⟩
theorem QD {fp:List Addr}{p:Addr×Obj}(hp:p∈Hq fp h):p.1∈fp/\h.get? p.1=some p.2:=by
 obtain ⟨b,hb,e⟩:=List.mem_filterMap.mp hp
 cases q:h.get? b with
 | none=>rw [q] at e;cases e
 | some o=>
   rw [q] at e;have e':(b,o)=p:=ui9 e;subst e';exact ⟨hb,q⟩
theorem Inv.pinned {fp:List Addr}(I:Inv X pins σ H s)(hf:∀b∈fp,FpOk X pins H b)(ho:∀b∈fp,∃o,s.heap.get? b=some o/\∀v,o.data≠.cell v):Inv X (pins++Hq fp s.heap) σ H s:=
 I.pins_of λp hp=>(ui8.mp hp).elim (λz=>I.pin p (ud1 _ z)) λz=>by
  obtain ⟨hb,e⟩:=QD z;obtain ⟨f0,f1,f2,_⟩:=hf p.1 hb;obtain ⟨o,e',d⟩:=ho p.1 hb;rw [e] at e';cases e'
  exact ⟨e,f0,f1,f2,d⟩
theorem Inv.unpinned {pl:List (Addr×Obj)}(I:Inv X (pins++pl) σ H s):Inv X pins σ H s:=I.pins_of λp hp=>I.pin p (ud1 _ (ud9 _ hp))
theorem Yk {iter:Expr}{body:List Stmt}{wi:TI}{g:TG}{tb:TS}{pos:Pos}(hp:PassesOwn (model X.prog X.w) X.A X.env X.xe)(hc:X.calm=true)(hi:PI X tg iter wi)(hg:PG X tg g)(hb:PSs X body tb)
 (hs:∀x,foldedSetIterable iter X.env x=pure x:=by intro _;rfl):PS X (.For tg iter body [] pos) (YV wi g tb):=by
 intro pins s σ H D I h;refine wpAny_For (thn (hi pins s σ H _ I h) λv s1 h1=>thn h1 λitv s2 h2=>?_) hs;obtain ⟨it,fp,tn,J,H2,e,I2,T,st2,f2,W,⟨m0,w0⟩,turn⟩:=h2;subst e
 -- what stays true of the iterator's objects through the loop
 have stat:∀{H':Hp},(∀b∈fp,H' b=none)->∀b∈fp,FpOk X pins H' b:=λhn b hb=>⟨hn b hb,(f2 b hb).2⟩;refine codeAny_forLoop_any (λn s'=>∃i σ' H',Inv X pins σ' H' s'/\tn i s'.heap/\(∀b∈fp,H' b=none)/\W i n σ' H') ?_ m0 ⟨0,σ,H2,I2,st2,λb hb=>(f2 b hb).1,w0⟩;rintro n s3 ⟨i,σ3,H3,I3,st3,fr3,w3⟩;rcases turn i n σ3 H3 w3 with ⟨stop,qn⟩ | ⟨go,N,hN,step⟩
 ·refine wpAny_passesOwn hp (thn (T.done X rfl rfl rfl hc i pins s3 σ3 H3 X.xe I3 (stat fr3) st3 stop) λr s4 z9=>?_);obtain ⟨hr,I4⟩:=z9;subst hr;exact wpAny_execs_nil ⟨σ3,H3,I4,qn⟩
 ·refine wpAny_passesOwn hp (thn (T.item X rfl rfl rfl hc i pins s3 σ3 H3 X.xe I3 (stat fr3) st3 go) λr s4 z9=>?_);obtain ⟨u,hr,h4⟩:=z9;subst hr;refine wpAny_passesOwn hp (thn h4 λ_ s5 z9=>?_);obtain ⟨x,H5,I5,r5,y5,st5,fr5⟩:=z9;have I5':=I5.pinned (stat fr5) (T.obj _ _ st5);refine wpAny_passesOwn hp (thn (hg _ s5 σ3 H5 x u _ I5' r5 (step x H5 y5)) λ_ s6 z9=>?_);obtain ⟨σ6,H6,I6,q6⟩:=z9;refine wpAny_passesOwn hp (thn (hb _ s6 σ6 H6 _ I6 q6) λf s7 q7=>?_);have again:∀{σ7:St} {H7:Hp},Inv X (pins++Hq fp s5.heap) σ7 H7 s7->N σ7 H7->∃m,m < n/\∃i σ' H',Inv X pins σ' H' s7/\tn i s7.heap/\(∀b∈fp,H' b=none)/\W i m σ' H':=λ{σ7 H7} I7 n7=>by
   obtain ⟨m',hm,w7⟩:=hN σ7 H7 n7;refine ⟨m',hm,i + 1,σ7,H7,I7.unpinned,T.keep _ _ _ st5 λb hb o e=>(I7.pin (b,o) (ud1 _ (ud1 _ (EC hb e)))).1,λb hb=>?_,w7⟩;obtain ⟨o,e,d⟩:=T.obj _ _ st5 b hb;exact (I7.pin (b,o) (ud1 _ (ud1 _ (EC hb e)))).2.1
  cases f with
  | next=>obtain ⟨σ7,H7,I7,n7⟩:=q7;exact again I7 n7
  | cont=>obtain ⟨σ7,H7,I7,n7⟩:=q7;exact again I7 n7
  | brk=>obtain ⟨σ7,H7,I7,q7⟩:=q7;exact ⟨σ7,H7,I7.unpinned,q7⟩
  | ret v=>obtain ⟨x7,σ7,H7,I7,r7,q7⟩:=q7;exact ⟨x7,σ7,H7,I7.unpinned,r7,q7⟩
end
abbrev R2:=V->V->Hp->VK->Prop
def OpR (X:Cx)(f:Value->Value->Sem Value)(r:R2):Prop:=
 ∀(pins:List (Addr×Obj)) (s:Shared) (σ:St) (H:Hp) (x y:V) (v u:Value) (Q:VK),Inv X pins σ H s->RelV x v->RelV y u->r x y H Q->
  wpAny (model X.prog X.w) X.A (f v u) (EP X pins σ Q) X.xe s
def Cj (X:Cx)(f:Value)(r:List V->Hp->VK->Prop):Prop:=
 ∀(pins:List (Addr×Obj)) (s:Shared) (σ:St) (H:Hp) (xs:List V) (us:List Value) (Q:VK),Inv X pins σ H s->Vals xs us->r xs H Q->
  wpAny (model X.prog X.w) X.A (call f us) (EP X pins σ Q) X.xe s
def tOp (r:R2)(ta tb:TE):TE:=λσ H Q=>ta σ H λx H1=>tb σ H1 λy H2=>r x y H2 Q
def rI (C:Int->Int->Prop)(g:Int->Int->V):R2:=λx y H Q=>∃i j,x = .int i/\y = .int j/\C i j/\Q (g i j) H
def rI0 (g:Int->Int->V):R2:=λx y H Q=>∃i j,x = .int i/\y = .int j/\Q (g i j) H
variable {r:R2}{f:Value->Value->Sem Value}
section
variable {X:Cx}{a b c:Expr}{ta tb tc:TE}{pos:Pos}
theorem R0 (ha:PE X a ta)(hb:PE X b tb){pins:List (Addr×Obj)}{s:Shared}{σ:St}{H:Hp}{R:V->V->Hp->Prop}(I:Inv X pins σ H s)
 (h:ta σ H λx H1=>tb σ H1 λy H2=>R x y H2) {Q:Value->Shared->Prop} {f:Value->Value->Sem Value}
 (hf:∀v u s2 x y H2,Inv X pins σ H2 s2->RelV x v->RelV y u->R x y H2->wpAny (model X.prog X.w) X.A (f v u) Q X.xe s2) :
 wpAny (model X.prog X.w) X.A (eval a X.env) (λv s₁=>wpAny (model X.prog X.w) X.A (eval b X.env) (λu s₂=>wpAny (model X.prog X.w) X.A (f v u) Q X.xe s₂) X.xe s₁) X.xe s:=by
 refine thn (ha pins s σ H _ I h) λv s1 z9=>?_;obtain ⟨x,H1,I1,r1,q1⟩:=z9;refine thn (hb pins s1 σ H1 _ I1 q1) λu s2 z9=>?_;obtain ⟨y,H2,I2,r2,q2⟩:=z9;exact hf v u s2 x y H2 I2 r1 r2 q2
theorem OP {op:Operator}(ho:OpR X (binaryOp op) r)(ha:PE X a ta)(hb:PE X b tb):PE X (.BinOp a op b pos) (tOp r ta tb):=by
 intro pins s σ H Q I h;exact wpAny_BinOp (R0 ha hb I h λv u s2 x y H2 I2 rx ry q=>ho pins s2 σ H2 x y v u Q I2 rx ry q)
theorem opI {C:Int->Int->Prop}{g:Int->Int->Int}
 (rule:∀(i j:Int) (t u:Tok) (s:Shared) (Q:Value->Shared->Prop) (E:Value->Shared->Prop),C i j->Q (.int (g i j) s.toks) { s with toks:=s.toks + 1 }->wpAny (model X.prog X.w) X.A (f (.int i t) (.int j u)) Q E s) :
 OpR X f (rI C λi j=>.int (g i j)):=by
 intro pins s σ H x y v u Q I rx ry h;obtain ⟨i,j,rfl,rfl,hc,q⟩:=h;obtain ⟨t,rfl⟩:=rx;obtain ⟨t',rfl⟩:=ry;exact rule i j t t' s _ _ hc ⟨.int (g i j),H,I.tok _,⟨_,rfl⟩,q⟩
theorem XX {g:Int->Int->Int}
 (rule:∀(i j:Int) (t u:Tok) (s:Shared) (Q:Value->Shared->Prop) (E:Value->Shared->Prop),Q (.int (g i j) s.toks) { s with toks:=s.toks + 1 }->wpAny (model X.prog X.w) X.A (f (.int i t) (.int j u)) Q E s) :
 OpR X f (rI0 λi j=>.int (g i j)):=by
 intro pins s σ H x y v u Q I rx ry h;obtain ⟨i,j,rfl,rfl,q⟩:=h;obtain ⟨t,rfl⟩:=rx;obtain ⟨t',rfl⟩:=ry;exact rule i j t t' s _ _ ⟨.int (g i j),H,I.tok _,⟨_,rfl⟩,q⟩
theorem OO {g:Int->Int->Bool}
 (rule:∀(i j:Int) (t u:Tok) (s:Shared) (Q:Value->Shared->Prop) (E:Value->Shared->Prop),Q (.bool (g i j)) s->wpAny (model X.prog X.w) X.A (f (.int i t) (.int j u)) Q E s) :
 OpR X f (rI0 λi j=>.bl (g i j)):=by
 intro pins s σ H x y v u Q I rx ry h;obtain ⟨i,j,rfl,rfl,q⟩:=h;obtain ⟨t,rfl⟩:=rx;obtain ⟨t',rfl⟩:=ry;exact rule i j t t' s _ _ ⟨.bl (g i j),H,I,rfl,q⟩
def WR (i j:Int):Prop:=0 < j/\j < 1073741824
def WS (i j:Int):Prop:=0<=j/\j<=1000000/\i.natAbs < 2 ^ 64
def CMul (i j:Int):Prop:=(-(2 ^ 64) < i/\i < 2 ^ 64)\/(-(2 ^ 64) < j/\j < 2 ^ 64)
theorem CMul.ok {i j:Int}(h:CMul i j):IntMulOk i j:=by
 rcases h with ⟨h1,h2⟩ | ⟨h1,h2⟩
 ·exact .of_left (intBits_le_64 h1 h2)
 ·exact .of_right (intBits_le_64 h1 h2)
theorem two_pow_nn (k:Nat):(0:Int)<=2 ^ k:=by
 rw [two_pow_cast];exact Int.natCast_nonneg _
theorem op_add:OpR X (binaryOp .Add) (rI0 λi j=>.int (i + j)):=XX λ_ _ _ _ _ _ _ q=>add_int q
theorem X4:OpR X (binaryOp .Sub) (rI0 λi j=>.int (i - j)):=XX λ_ _ _ _ _ _ _ q=>sub_int q
theorem op_mul:OpR X (binaryOp .Mult) (rI CMul λi j=>.int (i * j)):=opI λ_ _ _ _ _ _ _ hc q=>mul_int q hc.ok
theorem VD:OpR X (binaryOp .FloorDiv) (rI WR λi j=>.int (i / j)):=opI λi j _ _ _ _ _ hc q=>by
 have h1:(0:Int) < j:=hc.1;have h2:j < 1073741824:=hc.2;exact floordiv_int (by lia) (by rw [ua6 i (by lia)];exact q) (.inl (PyProof.noPylong_small (by lia)))
theorem X0:OpR X (binaryOp .Mod) (rI (λ_ j=>0 < j) λi j=>.int (i % j)):=opI λi j _ _ _ _ _ hc q=>by
 have h1:(0:Int) < j:=hc;exact mod_int' (by lia) (by rw [Int.fmod_eq_emod_of_nonneg i (by lia)];exact q)
theorem X1:OpR X (binaryOp .Pow) (rI WS λi j=>.int (i ^ j.toNat)):=opI λ_ _ _ _ _ _ _ hc q=>pow_int_small hc.1 hc.2.1 hc.2.2 q
theorem X3:OpR X (binaryOp .RShift) (rI (λ_ j=>0<=j) λi j=>.int (i / 2 ^ j.toNat)):=opI λi j _ _ _ _ _ hc q=>
 rshift_int hc (by rw [ua6 i (two_pow_nn _)];exact q)
end
variable {op:CmpOp}{us:List Value}
section
variable {X:Cx}{a b c:Expr}{ta tb tc:TE}{pos:Pos}
theorem op_lt:OpR X (compareOp .Lt) (rI0 λi j=>.bl (decide (i < j))):=OO λ_ _ _ _ _ _ _ q=>lt_int q
theorem op_le:OpR X (compareOp .LtE) (rI0 λi j=>.bl (decide (i<=j))):=OO λ_ _ _ _ _ _ _ q=>le_int q
theorem op_gt:OpR X (compareOp .Gt) (rI0 λi j=>.bl (decide (j < i))):=OO λ_ _ _ _ _ _ _ q=>gt_int q
theorem op_ge:OpR X (compareOp .GtE) (rI0 λi j=>.bl (decide (j<=i))):=OO λ_ _ _ _ _ _ _ q=>ge_int q
theorem OpR.or {r':R2}(h:OpR X f r)(h':OpR X f r'):OpR X f (λx y H Q=>r x y H Q\/r' x y H Q):=by
 intro pins s σ H x y v u Q I rx ry q;rcases q with q | q
 ·exact h pins s σ H x y v u Q I rx ry q
 ·exact h' pins s σ H x y v u Q I rx ry q
theorem Cd (b:Expr){op:CmpOp}(h:op≠.In:=by decide)(h2:op≠.NotIn:=by decide):behindInMarks op b=false:=by
 have e1:(op == CmpOp.In)=false:=by cases op <;> first | rfl | exact absurd rfl h
 have e2:(op == CmpOp.NotIn)=false:=by cases op <;> first | rfl | exact absurd rfl h2
 cases b <;> simp [behindInMarks,e1,e2]
theorem VN (ho:OpR X (compareOp op) r)(ha:PE X a ta)(hb:PE X b tb)(hm:behindInMarks op b=false):PE X (.Compare a [op] [b] pos) (tOp r ta tb):=by
 intro pins s σ H Q I h;exact wpAny_Compare1 (R0 ha hb I h λv u s2 x y H2 I2 rx ry q=>ho pins s2 σ H2 x y v u Q I2 rx ry q) hm
def ZZ (t:TE):TT:=λσ H Q=>t σ H λx H'=>∃k,x = .bl k/\Q k H'
theorem V2 (ho:OpR X (compareOp op) r)(ha:PE X a ta)(hb:PE X b tb)(hm:behindInMarks op b=false):PT X (.Compare a [op] [b] pos) (ZZ (tOp r ta tb)):=by
 intro pins s σ H Q I h;refine wpAny_isTrue_Compare1 (thn (ha pins s σ H _ I h) λv s1 ⟨x,H1,I1,r1,q1⟩=>thn (hb pins s1 σ H1 _ I1 q1) λu s2 ⟨y,H2,I2,r2,q2⟩=>
  thn (ho pins s2 σ H2 x y v u _ I2 r1 r2 q2) λc s3 ⟨z,H3,I3,r3,k,e,q3⟩=>?_) hm
 subst e
 cases r3
 exact wpAny_truthy_bool ⟨H3,I3,q3⟩
def Ro (r r':R2)(ta tb tc:TE):TE:=λσ H Q=>ta σ H λx H1=>tb σ H1 λy H2=>r x y H2 λz H3=>∃k,z = .bl k/\
 (if k=true then tc σ H3 λw' H4=>r' y w' H4 Q else Q (.bl false) H3)
theorem Tp {op':CmpOp}{r':R2}(ho:OpR X (compareOp op) r)(ho':OpR X (compareOp op') r')(ha:PE X a ta)(hb:PE X b tb)(hc:PE X c tc)
 (hm:lastMarks [op,op'] [b,c]=false:=by with_unfolding_all rfl):PE X (.Compare a [op,op'] [b,c] pos) (Ro r r' ta tb tc):=by
 intro pins s σ H Q I h;refine Compare_chain (thn (ha pins s σ H _ I h) λv s1 ⟨x,H1,I1,r1,q1⟩=>chain_link (thn (hb pins s1 σ H1 _ I1 q1) λu s2 ⟨y,H2,I2,r2,q2⟩=>
  thn (ho pins s2 σ H2 x y v u _ I2 r1 r2 q2) λd s3 ⟨z,H3,I3,r3,k,e,q3⟩=>?_)) hm
 subst e
 cases r3
 refine wpAny_truthy_bool ?_
 cases k with
 | false=>exact ite_ff ⟨.bl false,H3,I3,rfl,q3⟩
 | true=>exact ite_tt (chain_last (thn (hc pins s3 σ H3 _ I3 q3) λw' s4 z9=>by obtain ⟨z',H4,I4,r4,q4⟩:=z9;exact ho' pins s4 σ H4 y z' u w' Q I4 r2 r4 q4))
theorem G9:(sizeLine:Nat) < 2 ^ 63:=by rw [sizeLine_eq];decide
theorem op_add_str:OpR X (binaryOp .Add) (λx y H Q=>∃i j,x = .str i/\y = .str j/\i.length + j.length<=sizeLine/\Q (.str (i++j)) H):=by
 intro pins s σ H x y v u Q I rx ry h;obtain ⟨i,j,rfl,rfl,hz,q⟩:=h;obtain ⟨t,rfl⟩:=rx;obtain ⟨t',rfl⟩:=ry;exact add_str (λt' tk=>⟨.str (i++j),H,I.tok _,⟨_,rfl⟩,q⟩) hz
theorem EE {x:V}(r:Vals [x] us):∃u,us=[u]/\RelV x u:=by
 cases r with
 | cons r1 r2=>cases r2;exact ⟨_,rfl,r1⟩
theorem UE {x y:V}(r:Vals [x,y] us):∃u w',us=[u,w']/\RelV x u/\RelV y w':=by
 cases r with
 | cons r1 r2=>
   cases r2 with
   | cons r3 r4=>cases r4;exact ⟨_,_,rfl,r1,r3⟩
theorem Pz (hc:X.calm=true):Cj X (.builtin "min") (λxs H Q=>∃i j,xs=[.int i,.int j]/\Q (.int (if j < i then j else i)) H):=by
 intro pins s σ H xs us Q I r h;obtain ⟨i,j,rfl,q⟩:=h;obtain ⟨u,w',rfl,⟨t,rfl⟩,⟨t',rfl⟩⟩:=UE r;refine min_two_ints (I.ok.hd hc) λh' tk k=>⟨_,H,I.kept k,?_,q⟩
 by_cases hj:j < i
 ·rw [if_pos hj,if_pos hj];exact ⟨_,rfl⟩
 ·rw [if_neg hj,if_neg hj];exact ⟨_,rfl⟩
theorem Py:Cj X (.type "int") (λxs H Q=>(∃i,xs=[.int i]/\Q (.int i) H)\/∃k,xs=[.bl k]/\Q (.int (if k then 1 else 0)) H):=by
 intro pins s σ H xs us Q I r h;rcases h with ⟨i,rfl,q⟩ | ⟨k,rfl,q⟩
 ·obtain ⟨u,rfl,t,rfl⟩:=EE r;exact call_int_int ⟨.int i,H,I,⟨_,rfl⟩,q⟩
 ·obtain ⟨u,rfl,r1⟩:=EE r
  cases r1
  exact call_int_bool ⟨.int (if k then 1 else 0),H,I.tok _,⟨_,rfl⟩,q⟩
theorem R9:Cj X (.builtin "ord") (λxs H Q=>∃x,xs=[.str x]/\x.length=1/\Q (.int (x.cps.getD 0 0:Nat)) H):=by
 intro pins s σ H xs us Q I r h;obtain ⟨x,rfl,hz,q⟩:=h;obtain ⟨u,rfl,t,rfl⟩:=EE r;exact ord_of_one hz ⟨.int _,H,I.tok _,⟨_,rfl⟩,q⟩
def WU (K:PySem.W.Frag)(x:V)(H:Hp)(n:Nat):Prop:=
 match x with
 | .str y=>y.length<=sizeLine/\n=y.length
 | .byt y=>y.size<=sizeLine/\n=y.size
 | .ref p=>(∃xs,SqL K H p xs/\n=xs.length)\/∃xs,SqT K H p xs/\n=xs.length
 | _=>False
theorem R6:Cj X (.builtin "len") (λxs H Q=>∃x n,xs=[x]/\WU X.K x H n/\Q (.int n) H):=by
 intro pins s σ H xs us Q I r h;obtain ⟨x,n,rfl,e,q⟩:=h;obtain ⟨u,rfl,rx⟩:=EE r;have hl:=G9;have hs:sizeLine=16777216:=sizeLine_eq
 cases x with
 | str y=>
   obtain ⟨t,rfl⟩:=rx;obtain ⟨hy,e'⟩:y.length<=sizeLine/\n=y.length:=e;subst e';exact len_str (by lia) ⟨.int _,H,I.tok _,⟨_,rfl⟩,q⟩
 | byt y=>
   obtain ⟨t,rfl⟩:=rx;obtain ⟨hy,e'⟩:y.size<=sizeLine/\n=y.size:=e;subst e';exact PySem.W.len_bytes (by lia) ⟨.int _,H,I.tok _,⟨_,rfl⟩,q⟩
 | ref p=>
   cases rx
   have e':(∃xs,SqL X.K H p xs/\n=xs.length)\/∃xs,SqT X.K H p xs/\n=xs.length:=e;rcases e' with ⟨xs,hx,e'⟩ | ⟨xs,hx,e'⟩
   ·subst e';obtain ⟨its,r',pl,hz⟩:=I.list hx;have hlen:=r'.length;exact Calls.call_len_list pl.isList (by simp only [ug2];lia) ⟨.int xs.length,H,I.tok _,⟨_,by simp only [ug2];rw [hlen]⟩,q⟩
   ·subst e';obtain ⟨its,r',pl,hz⟩:=I.tuple hx;have hlen:=r'.length;exact len_tuple pl (by simp only [ug2];lia) ⟨.int xs.length,H,I.tok _,⟨_,by simp only [ug2];rw [hlen]⟩,q⟩
 | _=>exact (show False from e).elim
end
structure ObjM (h:Heap)(x dx C:Addr)(mA:Str->Option Value):Prop where
 obj:h.get? x=some (PySem.W.instObj C dx)
 ns:h.Ns1 dx mA
 ne:dx≠x
theorem Hb {dx:Addr}{mA:Str->Option Value}(n:h.Ns1 dx mA):∃od,h.get? dx=some od/\∀name,PySem.W.lookIn name od=some (mA name):=by
 obtain ⟨o,es,ep,ho,hd,hk,_,hm⟩:=n;refine ⟨o,ho,λname=>?_⟩;have e:=hm name;unfold nsFind findBy at e;rw [<-uf5] at e;unfold PySem.W.lookIn;rw [hd];dsimp only
 split
 ·rename_i y q;rw [q] at e;exact congrArg some e
 ·rename_i q;rw [q] at e;have a:es.toList.any (·.refKey)=false:=by
   rw [List.any_eq_false];intro y hy;obtain ⟨z,t,hkey⟩:=hk y (Array.mem_toList_iff.mp hy);simp [DictEntry.refKey,hkey]
  have a':¬es.toList.any (·.refKey)=true:=by rw [a];exact uf4
  rw [if_neg a'];exact congrArg some e
variable {C:Addr}
theorem ObjM.look {x dx:Addr}{mA:Str->Option Value}(I:ObjM h x dx C mA):∃od,PySem.W.InstAt h x (PySem.W.instObj C dx) C (some od)/\∀name,PySem.W.lookIn name od=some (mA name):=
 let ⟨od,ho,hl⟩:=Hb I.ns
 ⟨od,⟨I.obj,rfl,rfl,ho⟩,hl⟩
variable {pl:Sem Bool}{kw:List (Str×Value)}
section
variable {prog:Program}{w:World}{A:Around}{E:Value->Shared->Prop}{s:Shared}{K:PySem.W.Frag}{x dx C f:Addr}{mA:Str->Option Value}{name:Str}{v:Value}
theorem Ve {expr:Bool}{Q:Value->Shared->Prop}(X:K.In s.heap)(I:ObjM s.heap x dx C mA)(hg:PySem.W.plainGet K C name=true)(hh:PySem.W.hasDictIn K C=true)
 (ha:PySem.W.findIn K (.ref C) name=some none) (hv:mA name=some v) (hv':PySem.W.handedIn v=true) (h:Q v { s with toks:=s.toks + 1 }) :
 wpAny (model prog w) A (getAttr (.ref x) name expr) Q E s:=by
 obtain ⟨od,J,hl⟩:=I.look;exact PySem.W.get_value X J (ue7 hg).1 (PySem.W.findObj_own hh ha rfl (by rw [hl,hv])) hv' h
theorem SH {Q:Value×List Value->Shared->Prop}(X:K.In s.heap)(I:ObjM s.heap x dx C mA)(hg:PySem.W.plainGet K C name=true)
 (hf:PySem.W.findIn K (.ref C) name=some (some (.ref f))) (ht:PySem.W.isFn K (.ref f)=true) (hv:mA name=none) (h:Q (.ref f,[.ref x]) s) :
 wpAny (model prog w) A (getMethod (.ref x) name pl) Q E s:=by
 obtain ⟨od,J,hl⟩:=I.look;exact PySem.W.method_fn X J (ue7 hg).1 (ue7 hg).2 hf (beq_iff_eq.mp ht) (by show (PySem.W.lookIn name od).map (·.isSome)=some false;rw [hl,hv];rfl) h
theorem Wv {ns:List Str}(X:K.In s.heap)(I:ObjM s.heap x dx C mA)
 (hs:PySem.W.findIn K (.ref C) "__setattr__" = some (some (.builtin "object.__setattr__"))) (hp:PySem.W.plainOver K C=true) (ht:PySem.W.takerIn K C name=some none) (hh:PySem.W.hasDictIn K C=true)
 (hw:PySem.Within mA ns) (hsz:ns.length<=sizeLine)
 (h:∀h',ObjM h' x dx C (λy=>if y=name then some v else mA y)->Heap.SameBut dx s.heap h'->Q () { s with heap:=h',toks:=s.toks + 2 }) :
 wpAny (model prog w) A (setAttr (.ref x) name v) Q E s:=by
 obtain ⟨od,J,hl⟩:=I.look;refine PySem.W.set_plain X J hs (PySem.W.osa_open (s:={ s with toks:=s.toks + 1 }) (r:=none) X J hp ht λb=>?_);obtain ⟨cd,hc,hd'⟩:=PySem.W.any_some hh;have hx:s.heap.get? x=some ⟨.ref C,some dx,.plain,#[]⟩:=I.obj;refine un6 (un7 (un6 (un6 (wpAny_loadPart hx (un6 (PySem.W.Looks.here (s:={ s with toks:=s.toks + 1 }) (PySem.W.looks_clsIn X hc) ?_))))));rw [hd'];refine un7 (a:=some dx) (un6 (un7 (un6 ?_)));refine wpAny_nsSet1 (s:={ s with toks:=s.toks + 1 }) I.ns λh' hn2 hs2=>?_;obtain ⟨oD,esD,epD,hoD,hdD,hcD⟩:=hn2.count (PySem.Within.cons name v hw);refine un6 (wpAny_lookBehind hoD (by rw [hdD];exact pastItsLine_dict (um4 hcD (by rw [uh4];lia))) ?_);exact un7 (h _ ⟨(hs2.2 _ (Ne.symm I.ne)).trans I.obj,hn2,I.ne⟩ hs2)
theorem Td {R:Result->Shared->Prop}{vs:List Value}(X:K.In s.heap)(hm:PySem.W.makesIn K C=true)
 (hi:PySem.W.findIn K (.ref C) "__init__" = some (some (.ref f))) (hf:PySem.W.typeIn K (.ref f)=some (.type "function"))
 (h:codeAny (model prog w) (A.under (.builtin "type.__call__" ⟨.ref C :: vs,kw⟩)) (.call (.ref f) ⟨.ref (s.heap.objs.size + 1) :: vs,kw⟩) (PySem.W.InitBack (s.heap.objs.size + 1) R)
   { s with heap:=(s.heap.push PySem.W.emptyDict).push (PySem.W.instObj C s.heap.objs.size) }) :
 codeAny (model prog w) A (.call (.ref C) ⟨vs,kw⟩) R s:=by
 obtain ⟨hh,g,d,t,os⟩:=s;exact PySem.W.make_core (PySem.W.makes_of X hm) (PySem.W.looks_findIn X hi) (λself=>PySem.W.bind_fn X self hf) (.inl rfl) h
end
def CG (f:Str)(v:V):List (Str×V)->List (Str×V)
 | []=>[(f,v)]
 | (g,x) :: r=>if g=f then (g,v) :: r else (g,x) :: CG f v r
theorem Ir (f g:Str)(v:V):∀fs:List (Str×V),(CG f v fs).lookup g=if g=f then some v else fs.lookup g
 | []=>by
   show List.lookup g [(f,v)]=_
   by_cases h:g=f
   ·have hb:(g == f)=true:=beq_iff_eq.mpr h;simp only [List.lookup,hb,if_pos h]
   ·have hb:(g == f)=false:=beq_eq_false_iff_ne.mpr h;simp only [List.lookup,hb,if_neg h]
 | (k,x) :: r=>by
   have ih:=Ir f g v r;rw [show CG f v ((k,x) :: r)=(if k=f then (k,v) :: r else (k,x) :: CG f v r) from rfl]
   by_cases hk:k=f
   ·rw [if_pos hk]
    by_cases h:g=k
    ·have hb:(g == k)=true:=beq_iff_eq.mpr h;simp only [List.lookup,hb,if_pos (h.trans hk)]
    ·have hb:(g == k)=false:=beq_eq_false_iff_ne.mpr h;simp only [List.lookup,hb,if_neg (λe:g=f=>h (e.trans hk.symm))]
   ·rw [if_neg hk]
    by_cases h:g=k
    ·have hb:(g == k)=true:=beq_iff_eq.mpr h;simp only [List.lookup,hb,if_neg (λe:g=f=>hk (h.symm.trans e))]
    ·have hb:(g == k)=false:=beq_eq_false_iff_ne.mpr h;simp only [List.lookup,hb];exact ih
theorem G1 (f:Str)(v:V):∀fs:List (Str×V),f∈(CG f v fs).map (·.1)/\∀g,g∈fs.map (·.1)->g∈(CG f v fs).map (·.1)
 | []=>⟨by simp [CG],λg h=>by simp at h⟩
 | (k,x) :: r=>by
   obtain ⟨i1,i2⟩:=G1 f v r;rw [show CG f v ((k,x) :: r)=(if k=f then (k,v) :: r else (k,x) :: CG f v r) from rfl]
   by_cases hk:k=f
   ·rw [if_pos hk];subst hk;exact ⟨by simp,λg h=>by simpa using h⟩
   ·rw [if_neg hk];refine ⟨?_,λg h=>?_⟩
    ·rw [ul4];exact ud8 _ i1
    ·rw [ul4] at h ⊢;rcases ul3.mp h with e | e
     ·exact ul3.mpr (.inl e)
     ·exact ud8 _ (i2 g e)
theorem Io (f:Str)(v:V):∀fs:List (Str×V),(CG f v fs).length<=fs.length + 1
 | []=>by simp [CG]
 | (k,x) :: r=>by
   have ih:=Io f v r;rw [show CG f v ((k,x) :: r)=(if k=f then (k,v) :: r else (k,x) :: CG f v r) from rfl]
   by_cases hk:k=f
   ·rw [if_pos hk,uh4,uh4];lia
   ·rw [if_neg hk,uh4,uh4];lia
theorem RelO.some_of {o:Option Value}(r:RelO (some v) o):∃u,o=some u/\RelV v u:=by
 cases o with
 | none=>exact (show False from r).elim
 | some u=>exact ⟨u,rfl,r⟩
theorem RelO.none_of {o:Option Value}(r:RelO none o):o=none:=by
 cases o with
 | none=>rfl
 | some u=>exact (show False from r).elim
theorem KI (r:RelV v u):PySem.W.handedIn u=true:=by
 cases v with
 | non=>cases (show u=Value.none from r);rfl
 | bl b=>cases (show u=Value.bool b from r);rfl
 | int i=>obtain ⟨t,e⟩:=(show ∃t,u=Value.int i t from r);cases e;rfl
 | str x=>obtain ⟨t,e⟩:=(show ∃t,u=Value.str x t from r);cases e;rfl
 | byt b=>obtain ⟨t,e⟩:=(show ∃t,u=Value.bytes b t from r);cases e;rfl
 | flt b=>obtain ⟨t,e⟩:=(show ∃t,u=Value.float b t from r);cases e;rfl
 | ref a=>cases (show u=Value.ref a from r);rfl
 | ty n=>cases (show u=Value.type n from r);rfl
section
variable {P:Program}{w:World}{H H':Hp}{h h':Heap}{a C dx:Addr}{fs fs':List (Str×V)}
theorem HQ (hok:HOk P w H h)(e:H a=some (.ins C dx fs)):∃mA,ObjM h a dx C mA/\(∀f,RelO (fs.lookup f) (mA f))/\PySem.Within mA (fs.map (·.1))/\fs.length<=1000/\H dx=some (.own a):=by
 obtain ⟨d,z,ne,ob,mA,n,r,q⟩:=(show ObjOk P w H h a (.ins C dx fs) from hok a _ e);exact ⟨mA,⟨ob,n,ne⟩,r,q,z,d⟩
end
structure Cls (K:PySem.W.Frag)(C:Addr):Prop where
 pg:PySem.W.plainGet K C Str.empty=true
 hd:PySem.W.hasDictIn K C=true
 po:PySem.W.plainOver K C=true
 sa:PySem.W.findIn K (.ref C) "__setattr__" = some (some (.builtin "object.__setattr__"))
theorem Cls.get {K:PySem.W.Frag}{C:Addr}(c:Cls K C)(f:Str):PySem.W.plainGet K C f=true:=c.pg
def NoAttr (K:PySem.W.Frag)(C:Addr)(f:Str):Prop:=PySem.W.findIn K (.ref C) f=some none
theorem NoAttr.taker {f:Str}(n:NoAttr K C f):PySem.W.takerIn K C f=some none:=by
 unfold PySem.W.takerIn;rw [show PySem.W.findIn K (.ref C) f=some none from n];rfl
structure Con (K:PySem.W.Frag)(C:Addr)(f:Str)(v:V)(u:Value):Prop where
 at_:PySem.W.findIn K (.ref C) f=some (some u)
 rel:RelV v u
 get:PySem.W.specialIn K u "__get__" = some none
 cp:PySem.W.copiedNames.contains f=false
structure Meth (K:PySem.W.Frag)(C:Addr)(m:Str)(f:Addr):Prop where
 at_:PySem.W.findIn K (.ref C) m=some (some (.ref f))
 fn:PySem.W.isFn K (.ref f)=true
 kp:PySem.W.keepIn K (.ref f)=true
section
variable {X:Cx}{pins:List (Addr×Obj)}{σ:St}{H:Hp}{s:Shared}{a C dx:Addr}{fs:List (Str×V)}{f:Str}{v:V}{A:Around}{E:Value->Shared->Prop}
theorem OC {b:Bool}{Q:Value->Shared->Prop}(I:Inv X pins σ H s)(e:H a=some (.ins C dx fs))(c:Cls X.K C)(n:NoAttr X.K C f)(l:fs.lookup f=some v)
 (h:∀u s',Inv X pins σ H s'->RelV v u->Q u s'):wpAny (model X.prog X.w) A (getAttr (.ref a) f b) Q E s:=by
 obtain ⟨mA,O,r,_,_,_⟩:=HQ I.hok e;obtain ⟨u,hu,ru⟩:=RelO.some_of (v:=v) (o:=mA f) (by rw [<-l];exact r f);exact Ve I.kIn O (c.get f) c.hd n hu (KI ru) (h u _ (I.tok _) ru)
theorem Gi {m:Str}{g:Addr}{Q:Value×List Value->Shared->Prop}(I:Inv X pins σ H s)(e:H a=some (.ins C dx fs))(c:Cls X.K C)(k:Meth X.K C m g)(l:fs.lookup m=none)
 (h:Q (.ref g,[.ref a]) s):wpAny (model X.prog X.w) A (getMethod (.ref a) m pl) Q E s:=by
 obtain ⟨mA,O,r,_,_,_⟩:=HQ I.hok e;have hn:mA m=none:=RelO.none_of (by rw [<-l];exact r m);exact SH I.kIn O (c.get m) k.at_ k.fn hn h
theorem O0 {y:V}(I:Inv X pins σ H s)(e:H a=some (.ins C dx fs))(c:Cls X.K C)(n:NoAttr X.K C f)(hl:fs.length < 1000)(ry:RelV y u)
 (h:∀s',Inv X pins σ (upd H a (.ins C dx (CG f y fs))) s'->Q () s'):wpAny (model X.prog X.w) A (setAttr (.ref a) f u) Q E s:=by
 obtain ⟨mA,O,r,wi,_,ho⟩:=HQ I.hok e;have hz:(fs.map (·.1)).length<=sizeLine:=by rw [uj0,sizeLine_eq];lia
 refine Wv I.kIn O c.sa c.po n.taker c.hd wi hz λh' O' sb=>h _ ?_;have hd:∃o,h'.get? dx=some o:=let ⟨o,_,_,e',_⟩:=O'.ns;⟨o,e'⟩;refine I.write (x:=a) (e:=dx) (by rw [e];exact True.intro) (.inr ho) (λb q hb z=>(sb.2 b hb).trans z) hd ?_;refine ⟨by rw [Ah O.ne];exact ho,?_,O.ne,O'.obj,_,O'.ns,λg=>?_,λg hg=>?_⟩
 ·have:=Io f y fs;lia
 ·show RelO ((CG f y fs).lookup g) (if g=f then some u else mA g);rw [Ir]
  by_cases q:g=f
  ·rw [if_pos q,if_pos q];exact ry
  ·rw [if_neg q,if_neg q];exact r g
 ·by_cases q:g=f
  ·rw [q];exact (G1 f y fs).1
  ·refine (G1 f y fs).2 g (wi g λz=>hg ?_);show (if g=f then some u else mA g)=none;rw [if_neg q];exact z
theorem Inv.made (I:Inv X pins σ H s):Inv X pins σ (upd (upd H s.heap.objs.size (.own (s.heap.objs.size + 1))) (s.heap.objs.size + 1) (.ins C s.heap.objs.size []))
 { s with heap:=(s.heap.push PySem.W.emptyDict).push (PySem.W.instObj C s.heap.objs.size) }:=by
 have e1:(s.heap.push PySem.W.emptyDict).get? s.heap.objs.size=some PySem.W.emptyDict:=ue6 s.heap rfl;have e2:((s.heap.push PySem.W.emptyDict).push (PySem.W.instObj C s.heap.objs.size)).get? (s.heap.objs.size + 1)=some (PySem.W.instObj C s.heap.objs.size):=by
  have:=ue6 (s.heap.push PySem.W.emptyDict) (o:=PySem.W.instObj C s.heap.objs.size) rfl
  rwa [Heap.size_push] at this
 have e3:(s.heap.push PySem.W.emptyDict).Ns s.heap.objs.size (λ_=>none):=⟨PySem.W.emptyDict,#[],_,e1,rfl,(λe he=>absurd he (by simp)),λ_=>rfl⟩;have I1:=I.laid (a:=s.heap.objs.size) (o:=.own (s.heap.objs.size + 1)) (h':=s.heap.push PySem.W.emptyDict) (t':=s.toks) (λb u q=>uc4 _ q) (un2 _) ⟨_,e1⟩;refine I1.laid (a:=s.heap.objs.size + 1) (o:=.ins C s.heap.objs.size []) (t':=s.toks) (λb u q=>uc4 _ q) (um6 (Heap.size_push _ _)) ?_;have ne:s.heap.objs.size≠s.heap.objs.size + 1:=um3 (uh5 _);refine ⟨by rw [Ah ne,Aj],un3 _,ne,e2,λ_=>none,(Heap.Ns1.of_empty e3).at λo q=>uc4 _ q,λ_=>True.intro,λy hy=>absurd rfl hy⟩
theorem Nj {prog:Program}{env:Env}{f:Str}{pos:Pos}{s:Shared}{Q:Value->Shared->Prop}(hb:attributeBase e f env (eval e env)=eval e env)
 (h:wpAny (model prog w) A (eval e env) (λo s₁=>wpAny (model prog w) A (getAttr o f true) Q E s₁) E s):wpAny (model prog w) A (eval (.Attribute e f pos) env) Q E s:=
 Attribute_any_ h (by rw [arm_eval_Attribute,hb])
end
def bC (K:PySem.W.Frag)(ta:TE)(f:Str):TE:=λσ H Q=>ta σ H λx H1=>∃a C dx fs v,x = .ref a/\H1 a=some (.ins C dx fs)/\Cls K C/\NoAttr K C f/\fs.lookup f=some v/\Q v H1
def bv (K:PySem.W.Frag)(ta tv:TE)(f:Str):TS:=λD σ H=>tv σ H λy H1=>ta σ H1 λx H2=>∃a C dx fs,x = .ref a/\H2 a=some (.ins C dx fs)/\Cls K C/\NoAttr K C f/\fs.length < 1000/\
 D.nx σ (upd H2 a (.ins C dx (CG f y fs)))
section
variable {X:Cx}{o e value:Expr}{f:Str}{pos pos' tpos:Pos}{ta tv:TE}
theorem X8 (he:PE X e ta)(hb:attributeBase e f X.env (eval e X.env)=eval e X.env):PE X (.Attribute e f pos) (bC X.K ta f):=by
 intro pins s σ H Q I h;refine Nj hb (thn (he pins s σ H _ I h) λu s1 z9=>?_);obtain ⟨x,H1,I1,rx,a,C,dx,fs,v,ex,ea,c,n,l,q⟩:=z9;subst ex;obtain rfl:u=Value.ref a:=rx;exact OC I1 ea c n l λu' s2 I2 ru=>⟨v,H1,I2,ru,q⟩
theorem Yj (ha:PE X o ta)(hv:PE X value tv)(hs:swapsWith value (some (.Attribute o f pos')) pos.line X.env=pure false):PS X (.Assign [.Attribute o f pos'] value pos) (bv X.K ta tv f):=by
 intro pins s σ H D I h;refine plainObj_wpAny_Assign_Attribute (thn (hv pins s σ H _ I h) λu s1 ⟨y,H1,I1,ry,q⟩=>thn (ha pins s1 σ H1 _ I1 q) λov s2 z9=>?_) hs;obtain ⟨x,H2,I2,rx,a,C,dx,fs,ex,ea,c,n,l,q2⟩:=z9;subst ex;obtain rfl:ov=Value.ref a:=rx;exact O0 I2 ea c n l ry λs3 I3=>⟨σ,_,I3,q2⟩
end
section
variable {X:Cx}{pins:List (Addr×Obj)}{σ:St}{H:Hp}{s:Shared}{A:Around}{E:Value->Shared->Prop}{Q:Value->Shared->Prop}{c:Value}{b:Bool}
inductive TyOf (K:PySem.W.Frag)(H:Hp):V->Value->Prop where
 | non:TyOf K H .non (.type "NoneType")
 | bl (x:Bool):TyOf K H (.bl x) (.type "bool")
 | int (i:Int):TyOf K H (.int i) (.type "int")
 | str (x:Str):TyOf K H (.str x) (.type "str")
 | flt (x:UInt64):TyOf K H (.flt x) (.type "float")
 | lst {a:Addr} {xs:List V} (e:H a=some (.lst xs)):TyOf K H (.ref a) (.type "list")
 | frz {a:Addr} {o:Obj} {xs:List V} (e:H a=some (.frz o (.lst xs))):TyOf K H (.ref a) (.type "list")
 | tup {a:Addr} {xs:List V} (e:H a=some (.tup xs)):TyOf K H (.ref a) (.type "tuple")
 | dK {a:Addr} {kvs:List (Key×V)} (e:H a=some (.dK kvs)):TyOf K H (.ref a) (.type "dict")
 | dT {a:Addr} {kvs:List (List Key×V)} (e:H a=some (.dT kvs)):TyOf K H (.ref a) (.type "dict")
 | ins {a C dx:Addr} {fs:List (Str×V)} (e:H a=some (.ins C dx fs)) (cl:Cls K C) (ha:PySem.W.findIn K (.ref C) "__class__" = some (some (.builtin "object.__class__")))
    (hn:PySem.W.specialIn K (.builtin "object.__class__") "__get__" = some (some (.builtin "getset_descriptor.__get__"))) (htk:PySem.W.takesIn K (.builtin "object.__class__")=some true)
    (hm:PySem.W.mroIn K C (.type "object")=some true):TyOf K H (.ref a) (.ref C)
theorem Qk {x:V}{t:Value}(I:Inv X pins σ H s)(rx:RelV x u)(ty:TyOf X.K H x t)(e:PySem.W.kitOne X.K t c=some b)(h:∀tk,Q (.bool b) { s with toks:=tk }) :
 wpAny (model X.prog X.w) A (call (.builtin "isinstance") [u,c]) Q E s:=by
 cases ty with
 | non=>cases (show u=Value.none from rx);exact uj1 PySem.W.kitx_none I.kIn True.intro e (λz=>nomatch z) h
 | bl y=>cases (show u=Value.bool y from rx);exact uj1 PySem.W.kitx_bool I.kIn True.intro e (λz=>nomatch z) h
 | int i=>obtain ⟨t,q⟩:=(show ∃t,u=Value.int i t from rx);cases q;exact uj1 PySem.W.kitx_int I.kIn True.intro e (λz=>nomatch z) h
 | str y=>obtain ⟨t,q⟩:=(show ∃t,u=Value.str y t from rx);cases q;exact uj1 PySem.W.kitx_str I.kIn True.intro e (λz=>nomatch z) h
 | flt y=>obtain ⟨t,q⟩:=(show ∃t,u=Value.float y t from rx);cases q;exact uj1 PySem.W.kitx_float I.kIn True.intro e (λz=>nomatch z) h
 | @lst a xs ea=>
   cases (show u=Value.ref a from rx)
   obtain ⟨_,_,n,_,h1⟩:=(show ObjOk X.prog X.w H s.heap a (.lst xs) from I.hok a _ ea);exact uj1 PySem.W.kitx_list I.kIn ⟨_,h1,rfl⟩ e (λz=>nomatch z) h
 | @frz a ob xs ea=>
   cases (show u=Value.ref a from rx)
   obtain ⟨_,_,_,n,_,h1⟩:=(show ObjOk X.prog X.w H s.heap a (.frz ob (.lst xs)) from I.hok a _ ea);exact uj1 PySem.W.kitx_list I.kIn ⟨_,h1,rfl⟩ e (λz=>nomatch z) h
 | @tup a xs ea=>
   cases (show u=Value.ref a from rx)
   obtain ⟨_,_,_,p⟩:=(show ObjOk X.prog X.w H s.heap a (.tup xs) from I.hok a _ ea);obtain ⟨o,h1,h2,_⟩:=p;exact uj1 PySem.W.kitx_tuple I.kIn ⟨o,h1,h2⟩ e (λz=>nomatch z) h
 | @dK a kvs ea=>
   cases (show u=Value.ref a from rx)
   obtain ⟨_,_,vs,_,p⟩:=(show ObjOk X.prog X.w H s.heap a (.dK kvs) from I.hok a _ ea);obtain ⟨o,es,ep,h1,h2,_⟩:=p;exact uj1 PySem.W.kitx_dict I.kIn ⟨o,h1,h2.1⟩ e (λz=>nomatch z) h
 | @dT a kvs ea=>
   cases (show u=Value.ref a from rx)
   obtain ⟨_,_,xs,_,o,es,ep,h1,h2,_⟩:=(show ObjOk X.prog X.w H s.heap a (.dT kvs) from I.hok a _ ea);exact uj1 PySem.W.kitx_dict I.kIn ⟨o,h1,h2.1⟩ e (λz=>nomatch z) h
 | @ins a C dx fs ea cl ha hn htk hm=>
   cases (show u=Value.ref a from rx)
   obtain ⟨mA,O,_⟩:=HQ I.hok ea;obtain ⟨od,J,_⟩:=O.look;exact uj1 (PySem.W.kitx_own (cl.get _) cl.hd ha hn htk hm) I.kIn J e (λz=>nomatch z) h
end
structure Room (k:Nat)(A:Around):Prop where
 hd:A.handled=none
 dp:A.depth + 3 * k + 5 < recursionLimit
 un:A.units + 16 * k + 200 < cLine
theorem Room.mono {j k:Nat}{A:Around}(r:Room k A)(h:j<=k):Room j A:=⟨r.hd,by have:=r.dp;lia,by have:=r.un;lia⟩
theorem Room.deeper {k:Nat}{A:Around}(r:Room (k + 1) A)(env:Env):Room k (A.deeper env):=
 ⟨r.hd,by have:=r.dp;show A.depth + 1 + 3 * k + 5 < _;lia,by have:=r.un;show A.units + 3 + 16 * k + 200 < _;lia⟩
theorem OH {A:Around}:(A.under (.builtin "type.__call__" ⟨.ref C :: us,kw⟩)).depth=A.depth + 1:=by
 first | rfl | simp [Around.under,Code.weight,Code.isCreation,Code.isGuard,Code.isCaller,Code.frames,Code.isFrame,guardIds]
theorem OI {A:Around}:(A.under (.builtin "type.__call__" ⟨.ref C :: us,kw⟩)).units=A.units + 1:=by
 first | rfl | simp [Around.under,Code.cUnits,Code.frames,Code.isFrame]
theorem Room.make {k:Nat}{A:Around}(r:Room (k + 1) A)(C:Addr)(us:List Value)(kw:List (Str×Value)):Room k (A.under (.builtin "type.__call__" ⟨.ref C :: us,kw⟩)):=
 ⟨r.hd,by have:=r.dp;rw [OH];lia,by have:=r.un;rw [OI];lia⟩
theorem Room.depth {k:Nat}{A:Around}(r:Room k A):A.depth < recursionLimit:=by have:=r.dp;lia
theorem Room.units {k:Nat}{A:Around}(r:Room k A):A.units + 64 < cLine:=by have:=r.un;lia
def YX:TA:=λ_ H Q=>Q [] H
def ZS (ta:TE)(tr:TA):TA:=λσ H Q=>ta σ H λx H1=>tr σ H1 λxs H2=>Q (x :: xs) H2
section
variable {X:Cx}{e:Expr}{es:List Expr}{te:TE}{t:TA}{pos:Pos}
theorem X5:PA X [] YX:=λ_ _ _ _ H Q I h=>Calls.spliced_nil ⟨[],H,I,.nil,h⟩
theorem VJ (ha:PE X e te)(hr:PA X es t)(hs:starEach (e :: es) X.env=(false,eval e X.env) :: starEach es X.env:=by rfl):PA X (e :: es) (ZS te t):=by
 intro pos pins s σ H Q I h;rw [hs];show wpAny _ _ (spliced ((false,eval e X.env) :: backTo pos (starEach es X.env))) _ _ s;refine Calls.spliced_cons (thn (ha pins s σ H _ I h) λu s1 z9=>?_);obtain ⟨x,H1,I1,r1,q1⟩:=z9;exact thn (hr pos pins s1 σ H1 _ I1 q1) λus s2 ⟨xs,H2,I2,r2,q2⟩=>⟨x :: xs,H2,I2,.cons r1 r2,q2⟩
def bL (t:TA):TE:=λσ H Q=>t σ H λxs H1=>xs.length<=sizeLine/\∀p,H1 p=none->Q (.ref p) (upd H1 p (.tup xs))
def bH (t:TA):TE:=λσ H Q=>t σ H λxs H1=>xs.length<=sizeLine/\∀p,H1 p=none->Q (.ref p) (upd H1 p (.lst xs))
theorem Ye {x1}(h:PA X es t):PE X (.Tuple es x1 pos) (bL t):=by
 intro pins s σ H Q I hq;refine wpAny_Tuple_spliced (thn (h pos pins s σ H _ I hq) λus s1 z9=>?_);obtain ⟨xs,H1,I1,r,z,q⟩:=z9;refine ⟨by rw [<-r.length];exact z,?_⟩;have hf:H1 s1.heap.objs.size=none:=I1.hok.fresh (un2 _);refine ⟨.ref s1.heap.objs.size,upd H1 s1.heap.objs.size (.tup xs),I1.laid (t':=s1.toks) (λb u e=>uc4 _ e) (un2 _) ?_,rfl,q _ hf⟩;exact ⟨z,us,r,⟨_,ue6 _ rfl,rfl,_,rfl⟩⟩
theorem Ya (h:PA X es t):PE X (.List es pos) (bH t):=by
 intro pins s σ H Q I hq;refine wpAny_List_spliced (thn (h pos pins s σ H _ I hq) λus s1 z9=>?_);obtain ⟨xs,H1,I1,r,z,q⟩:=z9;refine ⟨by rw [<-r.length];exact z,?_⟩;have hf:H1 s1.heap.objs.size=none:=I1.hok.fresh (un2 _);refine ⟨.ref s1.heap.objs.size,upd H1 s1.heap.objs.size (.lst xs),I1.laid (t':=s1.toks) (λb u e=>uc4 _ e) (un2 _) ?_,rfl,q _ hf⟩;exact ⟨z,us,0,r,ue6 _ rfl⟩
end
abbrev Sp:=List V->Hp->VK->XK->Prop
abbrev CXT:=List Env->Hp->Shared->XK->Value->Shared->Prop
structure Env0 (P:Program)(w:World)(K:PySem.W.Frag)(mg:Str->Option Value)(base:Heap)(A:Around)(outer:List Env)(s:Shared)(H:Hp):Prop where
 frames:A.frames=some outer
 mod:Mod K mg base
 bs:∀b o,base.get? b=some o->s.heap.get? b=some o/\H b=none
 bsz:base.objs.size<=s.heap.objs.size
 funs:s.heap.FunFrames base outer
 frf:∀b∈frs outer,H b=none
 hok:HOk P w H s.heap
 bare:AllBare s.gens
def CE (outer:List Env)(P:Program)(w:World)(H:Hp)(s:Shared)(Q:VK)(u:Value)(s':Shared):Prop:=
 ∃v H',s'.os=s.os/\AllBare s'.gens/\Un (frs outer) [] H H' s.heap s'.heap/\HOk P w H' s'.heap/\RelV v u/\Q v H'
def CR (CX:CXT)(outer:List Env)(P:Program)(w:World)(H:Hp)(s:Shared)(Q:VK)(E:XK)(r:Result)(s':Shared):Prop:=
 match r with
 | .ok (.ret u)=>CE outer P w H s Q u s'
 | .ok _=>False
 | .error e=>CX outer H s E e s'
structure FnOk (P:Program)(w:World)(K:PySem.W.Frag)(mg:Str->Option Value)(base:Heap)(CX:CXT)(k:Nat)(f:Addr)(fd:FuncData)(ps:List Str)(sp:Sp):Prop where
 len:∀vs H Q E,sp vs H Q E->vs.length=ps.length
 run:∀(A:Around) (outer:List Env) (s:Shared) (H:Hp) (args:Args) (us:List Value) (vs:List V) (Q:VK) (E:XK),Room k A->Env0 P w K mg base A outer s H->BindsTo s fd args (ps.zip us)->Vals vs us->sp vs H Q E->
  codeAny (model P w) A (.call (.ref f) args) (CR CX outer P w H s Q E) s
theorem FnOk.mono {P:Program}{w:World}{K:PySem.W.Frag}{mg:Str->Option Value}{base:Heap}{CX:CXT}{j k:Nat}{f:Addr}{fd:FuncData}{ps:List Str}{sp:Sp}(F:FnOk P w K mg base CX j f fd ps sp)(h:j<=k) :
 FnOk P w K mg base CX k f fd ps sp:=⟨F.len,λA outer s H args us vs Q E hr=>F.run A outer s H args us vs Q E (hr.mono h)⟩
variable {mg:Str->Option Value}{base:Heap}
theorem Env0.make {A:Around}{outer:List Env}(e:Env0 P w K mg base A outer s H)(C:Addr)(us:List Value)(kw:List (Str×Value)) :
 Env0 P w K mg base (A.under (.builtin "type.__call__" ⟨.ref C :: us,kw⟩)) outer s H:=⟨by first | exact e.frames | (simpa [Around.under,Code.envs,Code.isFrame,pushEnvs] using e.frames),e.mod,e.bs,e.bsz,e.funs,e.frf,e.hok,e.bare⟩
section
variable {X:Cx}{pins:List (Addr×Obj)}{σ:St}{H:Hp}{s s':Shared}
theorem Inv.env0 (I:Inv X pins σ H s):Env0 X.prog X.w X.K X.mg X.base X.A X.stack s H:=
 ⟨I.ok.frames,I.ok.mod,I.bs,um4 I.ok.bsz I.sz,I.stack,I.stkFree,I.hok,I.bare⟩
theorem Inv.after {Q:VK}(I:Inv X pins σ H s)(h:CE X.stack X.prog X.w H s Q u s'):EP X pins σ Q u s':=by
 obtain ⟨v,H',os,bare,un,hok,r,q⟩:=h;obtain ⟨hh,g,d,t,os'⟩:=s';obtain rfl:os'=s.os:=os;exact ⟨v,H',I.call (h':=hh) (g':=g) (d':=d) (t':=t) (ch:=[]) un hok bare (λb z=>absurd z (by simp)),r,q⟩
end
def ZR (sp:Sp)(dvs:List V)(E:XK)(t:TA):TE:=λσ H Q=>t σ H λvs H1=>sp (vs++dvs) H1 Q E
def UD (C:Addr)(m:Str)(sp:Sp)(dvs:List V)(E:XK)(ta:TE)(t:TA):TE:=λσ H Q=>ta σ H λx H1=>∃a dx fs,x = .ref a/\H1 a=some (.ins C dx fs)/\fs.lookup m=none/\
 t σ H1 λvs H2=>sp (x :: (vs++dvs)) H2 Q E
def ZV (C:Addr)(sp:Sp)(dvs:List V)(E:XK)(t:TA):TE:=λσ H Q=>t σ H λvs H1=>∀x dx,H1 x=none->H1 dx=none->dx≠x->
 sp (.ref x :: (vs++dvs)) (upd (upd H1 dx (.own x)) x (.ins C dx [])) (λv H2=>v = .non/\Q (.ref x) H2) E
def Binds (K:PySem.W.Frag)(fd:FuncData)(ps:List Str)(ds:List Value):Prop:=
 ∀(s:Shared) (us:List Value),K.In s.heap->(us++ds).length=ps.length->BindsTo s fd ⟨us,[]⟩ (ps.zip (us++ds))
theorem Binds.all {fd:FuncData}{ps:List Str}(h:∀us:List Value,us.length=ps.length->bindArgs fd ⟨us,[]⟩=pure (ps.zip us)):Binds K fd ps []:=λs us _ hl=>by
 rw [uj2] at hl ⊢;exact .of_eq (h us hl)
def EJ (CX:CXT)(X:Cx)(E:XK):Prop:=∀(pins:List (Addr×Obj)) (σ:St) (H:Hp) (s:Shared) (e:Value) (s':Shared),Inv X pins σ H s->CX X.stack H s E e s'->X.xe e s'
variable {vs:List V}
section
variable {X:Cx}{CX:CXT}{k:Nat}{f C:Addr}{fd:FuncData}{ps:List Str}{sp:Sp}{dvs:List V}{ds:List Value}{E:XK}{x m:Str}{p pos apos:Pos}{e o:Expr}{es:List Expr}{ta:TE}{t:TA}
theorem MP {Q:VK}(F:FnOk X.prog X.w X.K X.mg X.base CX k f fd ps sp)(hr:Room k X.A)(hb:Binds X.K fd ps ds)(hd:Vals dvs ds)(hx:EJ CX X E)
 (I:Inv X pins σ H s) (r:Vals vs us) (h:sp (vs++dvs) H Q E):wpAny (model X.prog X.w) X.A (call (.ref f) us) (EP X pins σ Q) X.xe s:=by
 have r2:Vals (vs++dvs) (us++ds):=r.append hd;have hl:(us++ds).length=ps.length:=by rw [<-r2.length];exact F.len _ _ _ _ h
 refine wpAny_call (codeAny_mono (F.run X.A X.stack s H ⟨us,[]⟩ (us++ds) (vs++dvs) Q E hr I.env0 (hb s us I.kIn hl) r2 h) λr s' hq=>?_)
 cases r with
 | error e=>exact hx pins σ H s e s' I hq
 | ok fl=>
   cases fl with
   | ret u=>exact I.after hq
   | next=>exact False.elim hq
   | brk=>exact False.elim hq
   | cont=>exact False.elim hq
theorem NJ (F:FnOk X.prog X.w X.K X.mg X.base CX k f fd ps sp)(hr:Room k X.A)(hg:Gl X x)(hm:X.mg x=some (.ref f))(hk:PySem.W.keepIn X.K (.ref f)=true)(hb:Binds X.K fd ps ds)(hd:Vals dvs ds)(hx:EJ CX X E)
 (ha:PA X (e :: es) t) (hdb:(x == ("__debug__" : Str))=false:=by decide) (he:starEach (e :: es) X.env=(false,eval e X.env) :: starEach es X.env:=by rfl) (hpl:(backTo pos (starEach es X.env)).any (·.1)=false:=by rfl) :
 PE X (.Call (.Name x p) (e :: es) [] pos) (ZR sp dvs E t):=by
 intro pins s σ H Q I h;refine wpAny_Call_Name_kw (Co I hg hm ?_ hdb);refine uf6 (h₀:=X.base) I.ok.mod.kin hk (thn (ha pos pins s σ H _ I h) λus s1 z9=>?_) he hpl;obtain ⟨vs,H1,I1,r,q⟩:=z9;refine ⟨I1.kIn,?_⟩;exact MP F hr hb hd hx I1 r q
theorem VQ (he:PE X o ta)(c:Cls X.K C)(hm:Meth X.K C m f)(F:FnOk X.prog X.w X.K X.mg X.base CX k f fd ps sp)(hr:Room k X.A)(hb:Binds X.K fd ps ds)(hd:Vals dvs ds)(hx:EJ CX X E)(ha:PA X (e :: es) t)
 (hst:starEach (e :: es) X.env=(false,eval e X.env) :: starEach es X.env:=by rfl) (hpl:(backTo pos (starEach es X.env)).any (·.1)=false:=by rfl)
 (ht:eval (.Call (.Attribute o m apos) (e :: es) [] pos) X.env=(do
   let ov <-eval o X.env
   standAt apos.atName
   let (f,first) <-holding [ov] (getMethod ov m pl)
   callWith pos f first (backTo pos (starEach (e :: es) X.env)) (backToKw pos (keywordEach [] X.env))):=by rfl) :
 PE X (.Call (.Attribute o m apos) (e :: es) [] pos) (UD C m sp dvs E ta t):=by
 intro pins s σ H Q I h;refine ud2 (pl:=pl) (thn (he pins s σ H _ I h) λu s1 z9=>?_) ht;obtain ⟨x,H1,I1,rx,a,dx,fs,ex,ea,l,q⟩:=z9;subst ex;obtain rfl:u=Value.ref a:=rx;refine Gi I1 ea c hm l ?_;refine uf6 (first:=[.ref a]) (h₀:=X.base) I.ok.mod.kin hm.kp (thn (ha pos pins s1 σ H1 _ I1 q) λus s2 z9=>?_) hst hpl;obtain ⟨vs,H2,I2,r,q2⟩:=z9;refine ⟨I2.kIn,?_⟩;exact MP (us:=.ref a :: us) (vs:=.ref a :: vs) F hr hb hd hx I2 (.cons rfl r) q2
theorem Ts (he:PE X o ta)(c:Cls X.K C)(hm:Meth X.K C m f)(F:FnOk X.prog X.w X.K X.mg X.base CX k f fd ps sp)(hr:Room k X.A)(hb:Binds X.K fd ps ds)(hd:Vals dvs ds)(hx:EJ CX X E)
 (ht:eval (.Call (.Attribute o m apos) [] [] pos) X.env=(do
   let ov <-eval o X.env
   standAt apos.atName
   let (f,first) <-holding [ov] (getMethod ov m pl)
   callWith pos f first (backTo pos (starEach [] X.env)) (backToKw pos (keywordEach [] X.env))):=by rfl) :
 PE X (.Call (.Attribute o m apos) [] [] pos) (UD C m sp dvs E ta YX):=by
 intro pins s σ H Q I h;refine ud2 (pl:=pl) (thn (he pins s σ H _ I h) λu s1 z9=>?_) ht;obtain ⟨x,H1,I1,rx,a,dx,fs,ex,ea,l,q⟩:=z9;subst ex;obtain rfl:u=Value.ref a:=rx;refine Gi I1 ea c hm l ?_;exact PySem.W.callWith_K0 (first:=[.ref a]) I1.kIn hm.kp (MP (us:=[.ref a]) (vs:=[.ref a]) F hr hb hd hx I1 (.cons rfl .nil) q)
structure Mk (K:PySem.W.Frag)(C f:Addr):Prop where
 makes:PySem.W.makesIn K C=true
 init:PySem.W.findIn K (.ref C) "__init__" = some (some (.ref f))
 fn:PySem.W.isFn K (.ref f)=true
 kp:PySem.W.keepIn K (.ref C)=true
theorem TJ {Q:VK}(M:Mk X.K C f)(F:FnOk X.prog X.w X.K X.mg X.base CX k f fd ps sp)(hr:Room (k + 1) X.A)(hb:Binds X.K fd ps ds)(hd:Vals dvs ds)
 (hx:EJ CX X E) (I:Inv X pins σ H s) (r:Vals vs us)
 (h:∀x dx,H x=none->H dx=none->dx≠x->sp (.ref x :: (vs++dvs)) (upd (upd H dx (.own x)) x (.ins C dx [])) (λv H2=>v = .non/\Q (.ref x) H2) E) :
 wpAny (model X.prog X.w) X.A (call (.ref C) us) (EP X pins σ Q) X.xe s:=by
 have hq:=h (s.heap.objs.size + 1) s.heap.objs.size (I.hok.fresh (un4 _)) (I.hok.fresh (un2 _)) (um3 (uh5 _));have I2:=Inv.made (C:=C) I;have r2:Vals (V.ref (s.heap.objs.size + 1) :: (vs++dvs)) (Value.ref (s.heap.objs.size + 1) :: (us++ds)):=.cons rfl (r.append hd);have hl:(Value.ref (s.heap.objs.size + 1) :: us++ds).length=ps.length:=by
  have e:=r2.length;rw [F.len _ _ _ _ hq] at e;exact e.symm
 refine wpAny_call (Td (f:=f) I.kIn M.makes M.init (beq_iff_eq.mp M.fn) (codeAny_mono (F.run _ X.stack _ _ ⟨Value.ref (s.heap.objs.size + 1) :: us,[]⟩ (Value.ref (s.heap.objs.size + 1) :: (us++ds)) _ _ E (hr.make C us [])
  (I2.env0.make C us []) (hb _ (Value.ref (s.heap.objs.size + 1) :: us) I2.kIn hl) r2 hq) λr s' hq'=>?_))
 cases r with
 | error e=>exact hx pins σ _ _ e s' I2 hq'
 | ok fl=>
   cases fl with
   | ret u=>
     obtain ⟨v,H',I3,rv,ev,q3⟩:=I2.after hq';subst ev;exact ⟨rv,⟨V.ref (s.heap.objs.size + 1),H',I3,rfl,q3⟩⟩
   | next=>exact False.elim hq'
   | brk=>exact False.elim hq'
   | cont=>exact False.elim hq'
theorem VP (M:Mk X.K C f)(F:FnOk X.prog X.w X.K X.mg X.base CX k f fd ps sp)(hr:Room (k + 1) X.A)(hg:Gl X x)(hm:X.mg x=some (.ref C))(hb:Binds X.K fd ps ds)(hd:Vals dvs ds)(hx:EJ CX X E)
 (ha:PA X (e :: es) t) (hdb:(x == ("__debug__" : Str))=false:=by decide) (he:starEach (e :: es) X.env=(false,eval e X.env) :: starEach es X.env:=by rfl) (hpl:(backTo pos (starEach es X.env)).any (·.1)=false:=by rfl) :
 PE X (.Call (.Name x p) (e :: es) [] pos) (ZV C sp dvs E t):=by
 intro pins s σ H Q I h;refine wpAny_Call_Name_kw (Co I hg hm ?_ hdb);refine uf6 (h₀:=X.base) I.ok.mod.kin M.kp (thn (ha pos pins s σ H _ I h) λus s1 z9=>?_) he hpl;obtain ⟨vs,H1,I1,r,q⟩:=z9;refine ⟨I1.kIn,?_⟩;exact TJ M F hr hb hd hx I1 r q
end
section
variable {X:Cx}{CX:CXT}{k:Nat}{f C:Addr}{fd:FuncData}{ps ks:List Str}{sp:Sp}{E:XK}{x m:Str}{p pos apos kpos:Pos}{e o:Expr}{es:List Expr}{kws:List Keyword}{te ta:TE}{t tk:TA}{nm:Option Str}
structure KBinds (K:PySem.W.Frag)(fd:FuncData)(ps ks:List Str)(g:List Value->List Value->List Value)(gV:List V->List V->List V):Prop where
 to:∀(s:Shared) (us ws:List Value),K.In s.heap->(g us ws).length=ps.length->BindsTo s fd ⟨us,ks.zip ws⟩ (ps.zip (g us ws))
 rel:∀{vs:List V} {us:List Value} {zs:List V} {ws:List Value},Vals vs us->Vals zs ws->Vals (gV vs zs) (g us ws)
variable {g:List Value->List Value->List Value}{gV:List V->List V->List V}
end
structure FnScope (N P:List Str)(sc:Scope):Prop where
 kind:sc.kind = .function
 co:sc.isCoroutine=false
 gen:sc.isGenerator=false
 nd:N.Nodup
 pre:N.take P.length=P
 par:∀x∈P,sc.names.lookup x=some .local\/sc.names.lookup x=some .cell
 nofree:∀y∈sc.names,y.2≠.free
theorem KB {kindOf:Str->Option NameKind}{x:Str}:∀{binds:List (Str×Value)} {m:Str->Option Value},(∀v,(x,v)∉binds)->bindL kindOf binds m x=m x
 | [],_,_=>rfl
 | (n,v) :: r,m,h=>by
   unfold bindL;rw [KB λw hw=>h w (ud8 _ hw)]
   split
   ·have:x≠n:=by rintro rfl;exact h v uf3
    simp [this]
   ·rfl
theorem Kz {kindOf:Str->Option NameKind}{x:Str}:∀{binds:List (Str×Value)} {m:Str->Option Value},(∀v,(x,v)∉binds)->bindC kindOf binds m x=m x
 | [],_,_=>rfl
 | (n,v) :: r,m,h=>by
   unfold bindC;rw [Kz λw hw=>h w (ud8 _ hw)]
   split
   ·rfl
   ·have:x≠n:=by rintro rfl;exact h v uf3
    simp [this]
theorem KA {kindOf:Str->Option NameKind}{x:Str}{v:Value}:∀{P:List Str} {vs:List Value} {i:Nat} {m:Str->Option Value},P.Nodup->P[i]?=some x->vs[i]?=some v->kindOf x=some .local->
 bindL kindOf (P.zip vs) m x=some v
 | [],_,_,_,_,h,_,_=>by simp at h
 | _ :: _,[],_,_,_,_,h,_=>by simp at h
 | p :: P,w :: vs,0,m,nd,h1,h2,hk=>by
   simp at h1 h2;subst h1;subst h2;show bindL kindOf ((p,w) :: P.zip vs) m p=_;unfold bindL;rw [KB λv hv=>(uj3.mp nd).1 (uj4 hv).1,if_pos hk];simp
 | p :: P,w :: vs,i + 1,m,nd,h1,h2,hk=>by
   show bindL kindOf ((p,w) :: P.zip vs) m x=_;unfold bindL;exact KA (i:=i) (uj3.mp nd).2 (by simpa using h1) (by simpa using h2) hk
theorem Ky {kindOf:Str->Option NameKind}{x:Str}{v:Value}:∀{P:List Str} {vs:List Value} {i:Nat} {m:Str->Option Value},P.Nodup->P[i]?=some x->vs[i]?=some v->kindOf x≠some .local->
 bindC kindOf (P.zip vs) m x=some v
 | [],_,_,_,_,h,_,_=>by simp at h
 | _ :: _,[],_,_,_,_,h,_=>by simp at h
 | p :: P,w :: vs,0,m,nd,h1,h2,hk=>by
   simp at h1 h2;subst h1;subst h2;show bindC kindOf ((p,w) :: P.zip vs) m p=_;unfold bindC;rw [Kz λv hv=>(uj3.mp nd).1 (uj4 hv).1,if_neg hk];simp
 | p :: P,w :: vs,i + 1,m,nd,h1,h2,hk=>by
   show bindC kindOf ((p,w) :: P.zip vs) m x=_;unfold bindC;exact Ky (i:=i) (uj3.mp nd).2 (by simpa using h1) (by simpa using h2) hk
noncomputable def start (N:List Str)(vs:List V):St:=vs.map some++List.replicate (N.length - vs.length) none
noncomputable def CY (CX:CXT)(P:Program)(w:World)(K:PySem.W.Frag)(mg:Str->Option Value)(base:Heap)(N:List Str)(qual:Str)(scope:Scope)(f:Addr)(cd:Value)(A:Around)(outer:List Env)(s:Shared)(H:Hp)(E:XK):Cx where
 prog:=P
 w:=w
 K:=K
 mg:=mg
 base:=base
 A:=A.deeper (envOfC qual scope s.heap.objs.size f cd)
 N:=N
 s₀:=s
 H₀:=H
 env:=envOfC qual scope s.heap.objs.size f cd
 outer:=outer
 stack:=envOfC qual scope s.heap.objs.size f cd :: outer
 ex:=[]
 calm:=true
 fn:=λ_=>true
 pn:=[]
 xe:=λe s'=>wpAny (model P w) (A.deeper (envOfC qual scope s.heap.objs.size f cd)) (leaving (envOfC qual scope s.heap.objs.size f cd) e) (λ_ s''=>CX outer H s E e s'') (λe' s''=>CX outer H s E e' s'') s'
theorem LU {sc:Scope}{n:Nat}(h:sc.names.lookup x=some .cell):∃c,(cellsFrom n sc.names []).lookup x=some c:=by
 have q:=uc5 sc.names n [] (.inl h);exact Option.isSome_iff_exists.mp q
theorem KJ {CX:CXT}{N ps:List Str}{qual:Str}{scope:Scope}{f:Addr}{cd:Value}{A:Around}{outer:List Env}{s1:Shared}{E:XK}
 (S:FnScope N ps scope) (hd:A.handled=none) (e0:Env0 P w K mg base A outer s H) (hl:vs.length=ps.length) (r:Vals vs us)
 (x:InCallC s s.heap.objs.size (bindL (envOfC qual scope s.heap.objs.size f cd).kindOf (ps.zip us) λ_=>none) (cellsFrom (s.heap.objs.size + 1) scope.names []) (bindC (envOfC qual scope s.heap.objs.size f cd).kindOf (ps.zip us) λ_=>none) s1) :
 Inv (CY CX P w K mg base N qual scope f cd A outer s H E) [] (start N vs) H s1:=by
 have hpl:ps.length<=N.length:=by have:=congrArg List.length S.pre;rw [uh6] at this;lia
 obtain ⟨h1,tk,rfl,hk⟩:=x.done;have noA:∀b:Addr,b∉(CY CX P w K mg base N qual scope f cd A outer s H E).ex:=λb z=>absurd (show b∈([]:List Addr) from z) (by simp);refine ⟨⟨e0.mod,S.kind,rfl,rfl,un2 _,λy z c h1 h2=>?_,λy hy=>?_,λy c _ h=>?_,λ_=>hd,Around.frames_deeper e0.frames,.inr ⟨rfl,rfl⟩,λb z=>absurd z (noA b),e0.bs,e0.bsz,λb _ _=>noA b,λb z=>absurd z (noA b),e0.funs,e0.frf⟩,
  rfl,e0.bare,Un.kept hk,⟨_,x.toInCall.ns,λi y v h1 h2 h3=>?_⟩,λy c h=>⟨_,x.cell y c h⟩,e0.hok.fresh (un2 _),λy c h=>?_,λp hp=>absurd (show p∈([]:List (Addr×Obj)) from hp) (by simp),e0.hok.kept hk,?_⟩
 ·exact name_of_addr x.apart (PySem.mem_of_lookup h1) (PySem.mem_of_lookup h2)
 ·have hy:scope.names.lookup y=some .cell\/scope.names.lookup y=some .free:=hy;rcases hy with hy | hy
  ·exact LU hy
  ·exact absurd rfl (S.nofree _ (PySem.mem_of_lookup hy))
 ·exact Nat.le_of_lt (x.above y c (PySem.mem_of_lookup h))
 ·have hi:i < vs.length:=by
   unfold start at h2
   by_cases hi:i < vs.length
   ·exact hi
   ·rw [ua7 (by simpa using hi)] at h2;rw [ub8] at h2
    split at h2 <;> cases h2
  have ha:vs[i]?=some v:=by
   unfold start at h2;rw [ub2 (by simpa using hi),ug3] at h2
   cases e:vs[i]? with
   | none=>rw [e] at h2;cases h2
   | some a=>rw [e] at h2;cases h2;rfl
  obtain ⟨u,hu,rv⟩:=r.get ha;have hp:ps[i]?=some y:=by
   rw [<-S.pre,List.getElem?_take_of_lt (by lia)];exact h1
  have ndP:ps.Nodup:=by rw [<-S.pre];exact S.nd.sublist (List.take_sublist _ _)
  refine ⟨u,rv,?_⟩;rcases S.par y (ue1 hp) with k | k
  ·exact .inl ⟨k,KA ndP hp hu k⟩
  ·obtain ⟨c,e⟩:=LU (n:=s.heap.objs.size + 1) k;refine .inr ⟨.inl k,c,e,?_⟩;have q:=x.cell y c e;rw [Ky ndP hp hu (by show scope.names.lookup y≠_;rw [k];decide)] at q;exact q
 ·exact e0.hok.fresh (Nat.le_of_lt (x.above y c (PySem.mem_of_lookup h)))
 ·unfold start;show _=N.length;rw [uf7,uj0,ud3];lia
theorem Ul {CX:CXT}{k:Nat}{f:Addr}{name qual:Str}{params:Arguments}{body:List Stmt}{scope:Scope}{dV kV doc pm cdv ct oc:Value}{an od:Option Addr}
 {osl:Array (Option Value)} {N ps:List Str} {sp:Sp} (lk:K.lookup f=some ⟨oc,od,.func (PySem.W.fnOf name qual params body scope dV kV doc pm an cdv ct),osl⟩) (hcd:PySem.W.codeIn K cdv qual=true) (S:FnScope N ps scope)
 (len:∀vs H Q E,sp vs H Q E->vs.length=ps.length)
 (hbody:∀(A:Around) (outer:List Env) (s:Shared) (H:Hp) (vs:List V) (Q:VK) (E:XK),Room k (A.deeper (envOfC qual scope s.heap.objs.size f cdv))->sp vs H Q E->
   ∃t,PSs (CY CX P w K mg base N qual scope f cdv A outer s H E) body t/\t { nx:=λ_ H'=>Q .non H',rt:=Q } (start N vs) H) :
 FnOk P w K mg base CX (k + 1) f (PySem.W.fnOf name qual params body scope dV kV doc pm an cdv ct) ps sp:=by
 refine ⟨len,λA outer s H args us vs Q E hr e0 hb r hsp=>?_⟩;have hl:=len _ _ _ _ hsp;have KX:K.In s.heap:=e0.mod.kin.keeps λb o e=>(e0.bs b o e).1;have lim:s.heap.NoLimit:=e0.mod.nolimit.keeps λb o e=>(e0.bs b o e).1;have hkind:∀y∈ps.zip us,scope.names.lookup y.1=some .local\/(scope.names.lookup y.1=some .cell/\((cellsFrom (s.heap.objs.size + 1) scope.names []).lookup y.1).isSome=true):=λz9 hy=>by
  obtain ⟨n,v⟩:=z9;rcases S.par n (uj4 hy).1 with q | q
  ·exact .inl q
  ·exact .inr ⟨q,uc5 _ _ _ (.inl q)⟩
 refine codeAny_call_function hr.depth (KX _ _ lk) rfl S.co S.gen rfl (PySem.W.codeRec_of KX hcd) (hb _ _ _ _ ?_);refine wpAny_newFunctionEnv_cells S.kind hkind λenv he s1 x=>?_;subst he;refine ⟨lim.keeps x.toInCall.keep,codeAny_func ?_⟩;obtain ⟨t,ht,hq⟩:=hbody A outer s H vs Q E (hr.deeper _) hsp;have I:Inv (CY CX P w K mg base N qual scope f cdv A outer s H E) [] (start N vs) H s1:=KJ S hr.hd e0 hl r x;refine un8 (ht [] s1 (start N vs) H _ I hq) (λfl s' hs=>?_) λe s' hs=>hs;have fin:∀{σ':St} {H':Hp} {v:V} {u:Value},Inv (CY CX P w K mg base N qual scope f cdv A outer s H E) [] σ' H' s'->RelV v u->Q v H'->CE outer P w H s Q u s':=
  λ{σ' H' v u} J rv q=>⟨v,H',J.os,J.bare,J.base,J.hok,rv,q⟩
 cases fl with
 | ret u=>
   obtain ⟨v,σ',H',J,rv,q⟩:=hs;exact fin J rv q
 | next=>
   obtain ⟨σ',H',J,q⟩:=hs;exact fin (v:=V.non) (u:=Value.none) J rfl q
 | brk=>
   obtain ⟨_,_,_,q⟩:=hs;exact False.elim q
 | cont=>
   obtain ⟨_,_,_,q⟩:=hs;exact False.elim q
section
variable {X:Cx}{x:Str}{p pos:Pos}{e:Expr}{es:List Expr}{t:TA}{id T:String}{r:List V->Hp->VK->Prop}
def tCB (r:List V->Hp->VK->Prop)(t:TA):TE:=λσ H Q=>t σ H λvs H1=>r vs H1 Q
theorem Tn (hc:Cj X (.builtin id) r)(hg:Gl X x)(hm:X.mg x=none)(hv:bootBuiltins x=some (.builtin id))(ha:PA X (e :: es) t)(hn:x≠"__name__":=by decide)(hdb:(x == ("__debug__" : Str))=false:=by decide)
 (he:starEach (e :: es) X.env=(false,eval e X.env) :: starEach es X.env:=by rfl) (hpl:(backTo pos (starEach es X.env)).any (·.1)=false:=by rfl):PE X (.Call (.Name x p) (e :: es) [] pos) (tCB r t):=by
 intro pins s σ H Q I h;refine wpAny_Call_Name_kw (G8 I hg hm hv ?_ hn hdb);exact PyProof.Rows.callWith_builtin1 (thn (ha pos pins s σ H _ I h) λus s1 z9=>by obtain ⟨vs,H1,I1,r1,q1⟩:=z9;exact hc pins s1 σ H1 vs us Q I1 r1 q1) he hpl
theorem Ho (hc:Cj X (.type T) r)(hg:Gl X x)(hm:X.mg x=none)(hv:bootBuiltins x=some (.type T))(ha:PA X (e :: es) t)(hn:x≠"__name__":=by decide)(hdb:(x == ("__debug__" : Str))=false:=by decide)
 (he:starEach (e :: es) X.env=(false,eval e X.env) :: starEach es X.env:=by rfl) (hpl:(backTo pos (starEach es X.env)).any (·.1)=false:=by rfl):PE X (.Call (.Name x p) (e :: es) [] pos) (tCB r t):=by
 intro pins s σ H Q I h;refine wpAny_Call_Name_kw (G8 I hg hm hv ?_ hn hdb);exact ua4 (thn (ha pos pins s σ H _ I h) λus s1 z9=>by obtain ⟨vs,H1,I1,r1,q1⟩:=z9;exact hc pins s1 σ H1 vs us Q I1 r1 q1) he hpl
end
end L2
namespace HT
open PySem PyProof.Rows
section
open PySem.SeqAt
open PySem.AutoSeq1 (wpAny_loadPart')
open PySem.MeetsSeq PySem.MeetsSeq2 PySem.MeetsSeq3
end
section
variable {prog:Program}{w:World}{A:Around}{E:Value->Shared->Prop}{s:Shared}
theorem UM {t b:Addr}{vs ws:List Value}{Q:Value->Shared->Prop}(ht:IsTup s.heap t vs.toArray)(hb:IsTup s.heap b ws.toArray)(hv:vs≠[])
 (h1:ws=[]->Q (.ref t) s) (h2:ws≠[]->Q (.ref s.heap.objs.size) { s with heap:=s.heap.push { cls:=.type "tuple",data:=.seq (vs++ws).toArray } })
 (hsz:vs.length + ws.length<=sizeLine):wpAny (model prog w) A (binaryOp .Add (.ref t) (.ref b)) Q E s:=by
 obtain ⟨⟨cls,dd,data,sl⟩,ho,hc,n,hd⟩:=id ht;obtain ⟨⟨cls2,dd2,data2,sl2⟩,ho2,hc2,n2,hd2⟩:=id hb;simp only at hc hd hc2 hd2;subst hc hd hc2 hd2;have e:vs.toArray++ws.toArray=(vs++ws).toArray:=by simp
 by_cases hw:ws=[]
 ·exact concat_meets ⟨_,ho,rfl⟩ ⟨_,ho2,rfl⟩ noFill_tuple_add seq_tuple_add uc6 ub9 (ub5 _ _)
   (tuple_addW1 t b vs.toArray ws.toArray n n2 dd dd2 sl sl2 (by simpa using hv) (by simp [hw])) ⟨ho,ho2,h1 hw⟩
 ·refine concat_meets ⟨_,ho,rfl⟩ ⟨_,ho2,rfl⟩ noFill_tuple_add seq_tuple_add uc6 ub9 (ub5 _ _)
   (tuple_addW2 t b vs.toArray ws.toArray n n2 dd dd2 sl sl2 (by simpa using hv) (by simpa using hw) (by rw [ug2,ug2];exact hsz)) ⟨ho,ho2,?_⟩
  rw [e];exact h2 hw
noncomputable def sIx (n d:Nat):Option Int->Nat
 | none=>d
 | some v=>if v < 0 then (v + (n:Int)).toNat else min v.toNat n
theorem IT (n d:Nat):sIx n d none=d:=rfl
theorem Kq (n d k:Nat):sIx n d (some (k:Int))=min k n:=by
 show (if (k:Int) < 0 then ((k:Int) + (n:Int)).toNat else min (k:Int).toNat n)=min k n;rw [if_neg (by lia),ug4]
theorem YJ (n d:Nat)(hd:d<=n)(o:Option Int):sIx n d o<=n:=by
 cases o with
 | none=>exact hd
 | some v=>
   show (if v < 0 then (v + (n:Int)).toNat else min v.toNat n)<=n
   by_cases hv:v < 0
   ·rw [if_pos hv];lia
   ·rw [if_neg hv];exact Nat.min_le_right _ _
theorem Nm (v:Int)(n d:Nat):(if v < 0 then max (v + (n:Int)) 0 else min v (n:Int))=((sIx n d (some v):Nat):Int):=by
 show (if v < 0 then max (v + (n:Int)) 0 else min v (n:Int))=(((if v < 0 then (v + (n:Int)).toNat else min v.toNat n):Nat):Int)
 by_cases hv:v < 0
 ·simp only [if_pos hv];lia
 ·simp only [if_neg hv];lia
theorem Oe (lo hi:Option Int)(n:Nat):Builtin.Slice.sliceAdjust lo hi 1 (n:Int)=(((sIx n 0 lo:Nat):Int),((sIx n n hi:Nat):Int)):=by
 have h1:¬((1:Int) < 0):=by lia
 unfold Builtin.Slice.sliceAdjust;simp only [h1,if_false];refine Prod.ext ?_ ?_
 ·cases lo with
  | none=>rfl
  | some v=>exact Nm v n 0
 ·cases hi with
  | none=>rfl
  | some v=>exact Nm v n n
theorem OQ (i j:Nat):Builtin.Slice.slicePlaces (i:Int) (j:Int) 1=j - i:=by
 unfold Builtin.Slice.slicePlaces;have h1:(1:Int) > 0:=by lia
 simp only [h1,if_true,Int.ediv_one]
 split <;> lia
theorem JC {v:Value}{o:Option Int}{Q:Option Int->Shared->Prop}(p:IsPart v o)(h:Q o s):wpAny (model prog w) A (Builtin.Slice.slicePartIndex v) Q E s:=by
 cases p with
 | none=>exact slicePart_none h
 | int i t=>exact slicePart_int h
theorem Fg {sl:Addr}{vl vu:Value}{lo hi:Option Int}{n:Nat}{Q:Int×Int×Nat->Shared->Prop}(hs:s.heap.IsSliceOf sl vl vu .none)(pl:IsPart vl lo)(pu:IsPart vu hi)
 (h:Q (((sIx n 0 lo:Nat):Int),1,sIx n n hi - sIx n 0 lo) s):wpAny (model prog w) A (Builtin.Slice.sliceApplied (.ref sl) (pure (n:Int))) Q E s:=by
 obtain ⟨os,hos,hcs,hds⟩:=id hs;unfold Builtin.Slice.sliceApplied Builtin.Slice.sliceFields;refine un6 (un6 (un5 hos hds (x:=vl) rfl (un6 (un5 hos hds (x:=vu) rfl (un6 (un5 hos hds (x:=.none) rfl (un7 ?_)))))));refine un6 (slicePart_none ?_);show wpAny _ _ (if ((1:Int) == 0)=true then _ else _) _ _ s;rw [if_neg (by decide)];refine un6 (JC pl (un6 (JC pu (un6 (un7 ?_)))));show wpAny _ _ (match Builtin.Slice.sliceAdjust lo hi 1 (n:Int) with | (lo,hi)=>pure (lo,(1:Int),Builtin.Slice.slicePlaces lo hi 1)) _ _ s;rw [Oe lo hi n];show wpAny _ _ (pure (((sIx n 0 lo:Nat):Int),(1:Int),Builtin.Slice.slicePlaces ((sIx n 0 lo:Nat):Int) ((sIx n n hi:Nat):Int) 1)) _ _ s;rw [OQ];exact un7 h
theorem Tv (xs:Array Value)(i k:Nat):((List.range k).filterMap λ(m:Nat)=>xs[((i:Int) + (m:Int) * 1).toNat]?).toArray=((xs.toList.drop i).take k).toArray:=by
 have e:(λ(m:Nat)=>xs[((i:Int) + (m:Int) * 1).toNat]?)=λm=>xs[i + m]?:=by
  funext m
  have:((i:Int) + (m:Int) * 1).toNat=i + m:=by lia
  rw [this]
 rw [e];have:=pick_run xs i k;rw [List.filterMap_map] at this;have e2:((λx=>xs[x]?) ∘ λx=>i + x)=λm=>xs[i + m]?:=rfl;rw [e2] at this;rw [this]
theorem Ik {t sl:Addr}{items:Array Value}{vl vu:Value}{lo hi:Option Int}{Q:Value->Shared->Prop}(ht:IsTup s.heap t items)(hs:s.heap.IsSliceOf sl vl vu .none)(pl:IsPart vl lo)(pu:IsPart vu hi)
 (hw:¬(sIx items.size 0 lo=0/\sIx items.size items.size hi=items.size))
 (h:Q (.ref s.heap.objs.size) { s with heap:=s.heap.push { cls:=.type "tuple",data:=.seq ((items.toList.drop (sIx items.size 0 lo)).take (sIx items.size items.size hi - sIx items.size 0 lo)).toArray } })
 (hsz:items.size<=sizeLine):wpAny (model prog w) A (getItem (.ref t) (.ref sl)) Q E s:=by
 have htake:sizeOk (.seq ((items.toList.drop (sIx items.size 0 lo)).take (sIx items.size items.size hi - sIx items.size 0 lo)).toArray):=by
  show ((items.toList.drop (sIx items.size 0 lo)).take (sIx items.size items.size hi - sIx items.size 0 lo)).toArray.size<=sizeLine;rw [ug2,uh6,uh7,ue5];lia
 have hj:sIx items.size items.size hi<=items.size:=YJ _ _ (un2 _) hi;obtain ⟨os,hos,hcs,hds⟩:=id hs;have hTs:s.TypeIs (.ref sl) "slice":=⟨os,hos,hcs⟩;unfold getItem
 try with_reducible refine um1 ?_
 first | refine un6 (un7 ?_) | skip
 refine un6 (wpAny_sequenceKey ht.typeIs (by decide) ?_);refine un6 (wpAny_callSpecial?_slot (name:=Str.ofString "__getitem__") ht.typeIs ua1
  (wpAny_call_entry ua1 ht.typeIs entry_tuple_getitem ?_ (args_tuple_getitem _ _)))
 show wpAny _ _ (Builtin.Tuple.tupleItemsOf (.ref t) >>= _) _ _ s;refine un6 (tupleItemsOf_ ht ?_);refine un6 (wpAny_typeOf hTs ?_);rw [if_pos (by decide)];refine un6 (Fg hs pl pu ?_);have hno:¬((((sIx items.size 0 lo:Nat):Int) == 0 && (1:Int) == 1 && (sIx items.size items.size hi - sIx items.size 0 lo) == items.size)=true):=by
  intro q;rw [uh8,uh8] at q;have q1:((sIx items.size 0 lo:Nat):Int)=0:=eq_of_beq q.1.1;have q2:sIx items.size items.size hi - sIx items.size 0 lo=items.size:=eq_of_beq q.2;exact hw ⟨by lia,by lia⟩
 show wpAny _ _ (if (((sIx items.size 0 lo:Nat):Int) == 0 && (1:Int) == 1 && (sIx items.size items.size hi - sIx items.size 0 lo) == items.size)=true then _ else _) _ _ s;rw [if_neg hno,Tv]
 first
  | exact un6 (m:=Builtin.Tuple.tupleExact _) (wpAny_newObj_type (un7 ⟨_,rfl,un7 h⟩) htake)
  | exact un6 (m:=Builtin.Tuple.tupleExact _) (wpAny_newObj_type (un6 (un7 (un7 ⟨_,rfl,un7 h⟩))) htake)
  | exact un6 (un6 (m:=Builtin.Tuple.tupleExact _) (wpAny_newObj_type (un7 (un7 ⟨_,rfl,un7 h⟩)) htake))
  | exact un6 (un6 (m:=Builtin.Tuple.tupleExact _) (wpAny_newObj_type (un7 ⟨_,rfl,un7 h⟩) htake))
end
end HT
namespace L2
open PySem PySem.Spec PyProof.Rows
abbrev TO:=St->Hp->(Option Int->Hp->Prop)->Prop
def PO (X:Cx)(e:Option Expr)(t:TO):Prop:=
 ∀(pins:List (Addr×Obj)) (s:Shared) (σ:St) (H:Hp) (Q:Option Int->Hp->Prop),Inv X pins σ H s->t σ H Q->
  wpAny (model X.prog X.w) X.A (evalPart e X.env) (λu s'=>∃o H',Inv X pins σ H' s'/\IsPart u o/\Q o H') X.xe s
def WB:TO:=λ_ H Q=>Q none H
def ZY (t:TE):TO:=λσ H Q=>t σ H λx H1=>∃i,x = .int i/\Q (some i) H1
section
variable {X:Cx}{e:Expr}{te:TE}{lo hi:Option Expr}{tl th:TO}{pos p2:Pos}
theorem VX:PO X none WB:=by
 intro pins s σ H Q I h;rw [evalPart_none];exact un7 ⟨none,H,I,.none,h⟩
theorem VY (h:PE X e te):PO X (some e) (ZY te):=by
 intro pins s σ H Q I hw;rw [evalPart_some];refine thn (h pins s σ H _ I hw) λu s1 z9=>?_;obtain ⟨x,H1,I1,r1,q1⟩:=z9;obtain ⟨i,rfl,q⟩:=q1;obtain ⟨t,rfl⟩:=r1;exact ⟨some i,H1,I1,.int i t,q⟩
def SlR (X:Cx)(r:V->Option Int->Option Int->Hp->VK->Prop):Prop:=
 ∀(pins:List (Addr×Obj)) (s:Shared) (σ:St) (H:Hp) (x:V) (v vl vu:Value) (lo hi:Option Int) (sl:Addr) (Q:VK),Inv X pins σ H s->RelV x v->s.heap.IsSliceOf sl vl vu .none->IsPart vl lo->IsPart vu hi->r x lo hi H Q->
  ∃T id,typeLookup (.type T) "__getitem__" = pure (some (.builtin id))/\s.TypeIs v T/\wpAny (model X.prog X.w) X.A (getItem v (.ref sl)) (EP X pins σ Q) X.xe s
theorem SlR.or {r r':V->Option Int->Option Int->Hp->VK->Prop}(h:SlR X r)(h':SlR X r'):SlR X (λx lo hi H Q=>r x lo hi H Q\/r' x lo hi H Q):=by
 intro pins s σ H x v vl vu lo hi sl Q I rx hs pl pu q;rcases q with q | q
 ·exact h pins s σ H x v vl vu lo hi sl Q I rx hs pl pu q
 ·exact h' pins s σ H x v vl vu lo hi sl Q I rx hs pl pu q
def tSl (r:V->Option Int->Option Int->Hp->VK->Prop)(te:TE)(tl th:TO):TE:=λσ H Q=>te σ H λx H1=>tl σ H1 λl H2=>th σ H2 λu H3=>r x l u H3 Q
theorem MC {r:V->Option Int->Option Int->Hp->VK->Prop}(hr:SlR X r)(he:PE X e te)(hl:PO X lo tl)(hu:PO X hi th):PE X (.Subscript e (.Slice lo hi none p2) pos) (tSl r te tl th):=by
 intro pins s σ H Q I h;refine Subscript_ (thn (he pins s σ H _ I h) λv s1 z9=>?_);obtain ⟨x,H1,I1,r1,q1⟩:=z9;refine wpAny_Slice (thn (hl pins s1 σ H1 _ I1 q1) λvl s2 ⟨l,H2,I2,pl,q2⟩=>thn (hu pins s2 σ H2 _ I2 q2) λvu s3 z9=>?_);obtain ⟨u,H3,I3,pu,q3⟩:=z9;rw [evalPart_none];refine un7 ?_;have I4:Inv X pins σ H3 { s3 with heap:=s3.heap.push { cls:=.type "slice",data:=.fields #[vl,vu,.none] } }:=I3.kept (t':=s3.toks) λb ob q=>uc4 _ q;obtain ⟨T,id,hT,ht,hg⟩:=hr pins { s3 with heap:=s3.heap.push { cls:=.type "slice",data:=.fields #[vl,vu,.none] } } σ H3 x v vl vu l u s3.heap.objs.size Q I4 r1 (Heap.IsSliceOf.new ..) pl pu q3;show wpAny (model X.prog X.w) X.A (subscriptTail e (.Slice lo hi none p2) v (.ref s3.heap.objs.size)) (EP X pins σ Q) X.xe { s3 with heap:=s3.heap.push { cls:=.type "slice",data:=.fields #[vl,vu,.none] } };exact tail_any (ops:=[.ref s3.heap.objs.size,v]) ht hT hg (by with_unfolding_all rfl)
def Gf (xs:List V)(lo hi:Option Int):List V:=(xs.drop (HT.sIx xs.length 0 lo)).take (HT.sIx xs.length xs.length hi - HT.sIx xs.length 0 lo)
theorem Il (xs:List V)(lo hi:Option Int):(Gf xs lo hi).length<=xs.length:=by
 unfold Gf;rw [uh6,uh7];lia
def YD (K:PySem.W.Frag):V->Option Int->Option Int->Hp->VK->Prop:=λx lo hi H Q=>∃a xs,x = .ref a/\SqT K H a xs/\
 ¬(HT.sIx xs.length 0 lo=0/\HT.sIx xs.length xs.length hi=xs.length)/\∀p,H p=none->Q (.ref p) (upd H p (.tup (Gf xs lo hi)))
theorem YO:SlR X (YD X.K):=by
 intro pins s σ H x v vl vu lo hi sl Q I rx hs pl pu h;obtain ⟨a,xs,rfl,hx,hw,q⟩:=h
 cases rx
 obtain ⟨its,r,ht,hz⟩:=I.tuple hx;have hlen:its.toArray.size=xs.length:=by rw [ug2];exact r.length.symm
 refine ⟨"tuple",_,ua1.lookup,ht.typeIs,?_⟩;refine HT.Ik ht hs pl pu (by rw [hlen];exact hw) ?_ (by rw [hlen];exact hz);rw [hlen];refine ⟨.ref s.heap.objs.size,_,I.laid (t':=s.toks) (o:=.tup (Gf xs lo hi)) (λb ob q=>uc4 _ q) (un2 _) ?_,rfl,q _ (I.hok.fresh (un2 _))⟩;exact ⟨um4 (Il xs lo hi) hz,_,(r.drop (HT.sIx xs.length 0 lo)).take (HT.sIx xs.length xs.length hi - HT.sIx xs.length 0 lo),IsTup.new _ _⟩
def Uu (K:PySem.W.Frag):R2:=λx y H Q=>∃a b xs ys,x = .ref a/\y = .ref b/\SqT K H a xs/\SqT K H b ys/\xs≠[]/\xs.length + ys.length<=sizeLine/\
 (ys=[]->Q (.ref a) H)/\(ys≠[]->∀p,H p=none->Q (.ref p) (upd H p (.tup (xs++ys))))
theorem Vals.nil_iff {xs:List V}{us:List Value}(r:Vals xs us):us=[]↔xs=[]:=by
 cases r with
 | nil=>simp
 | cons _ _=>simp
theorem VC:OpR X (binaryOp .Add) (Uu X.K):=by
 intro pins s σ H x y v u Q I rx ry h;obtain ⟨a,b,xs,ys,rfl,rfl,ha,hb,hx,hz,q1,q2⟩:=h
 cases rx
 cases ry
 obtain ⟨its,r1,p1,_⟩:=I.tuple ha;obtain ⟨its2,r2,p2,_⟩:=I.tuple hb;refine HT.UM p1 p2 (λz=>hx (r1.nil_iff.mp z)) (λz=>⟨.ref a,H,I,rfl,q1 (r2.nil_iff.mp z)⟩) (λz=>?_) (by rw [<-r1.length,<-r2.length];exact hz);refine ⟨.ref s.heap.objs.size,_,I.laid (t':=s.toks) (o:=.tup (xs++ys)) (λb ob q=>uc4 _ q) (un2 _) ?_,rfl,q2 (λw=>z (r2.nil_iff.mpr w)) _ (I.hok.fresh (un2 _))⟩;exact ⟨by rw [uf7];exact hz,_,r1.append r2,IsTup.new _ _⟩
end
noncomputable def ixN (n:Nat)(i:Int):Option Nat:=if 0<=i then (if i < n then some i.toNat else none) else if -(n:Int)<=i then some (i + n).toNat else none
def atI {α:Type}(xs:List α)(i:Int):Option α:=(ixN xs.length i).bind λj=>xs[j]?
variable {n:Nat}
theorem NC {i:Int}{j:Nat}(h:ixN n i=some j):seqIndex? i n=some j/\j < n/\-(n:Int)<=i/\i < n:=by
 unfold ixN at h
 by_cases h0:0<=i
 ·rw [if_pos h0] at h
  by_cases h1:i < n
  ·rw [if_pos h1] at h;have e:i.toNat=j:=ui9 h;exact ⟨by rw [seqIndex_of h0 h1,e],by lia,by lia,h1⟩
  ·rw [if_neg h1] at h;cases h
 ·rw [if_neg h0] at h
  by_cases h1 : -(n:Int)<=i
  ·rw [if_pos h1] at h;have e:(i + n).toNat=j:=ui9 h;exact ⟨by rw [seqIndex_neg (by lia) h1,e],by lia,h1,by lia⟩
  ·rw [if_neg h1] at h;cases h
variable {α:Type}
theorem JP {xs:List α}{i:Int}{v:α}(h:atI xs i=some v):∃j,seqIndex? i xs.length=some j/\xs[j]?=some v/\j < xs.length/\-(xs.length:Int)<=i/\i < xs.length:=by
 unfold atI at h
 cases e:ixN xs.length i with
 | none=>rw [e] at h;cases h
 | some j=>
   rw [e] at h;obtain ⟨h1,h2,h3,h4⟩:=NC e;exact ⟨j,h1,h,h2,h3,h4⟩
theorem HH {xs:List α}{j:Nat}{v:α}(h:xs[j]?=some v):atI xs (j:Int)=some v:=by
 have hj:j < xs.length:=(ub1.mp h).1;have e:ixN xs.length (j:Int)=some j:=by
  unfold ixN;rw [if_pos (by lia),if_pos (by lia)];simp
 unfold atI;rw [e];exact h
def JM (b:Expr):Prop:=∀o i,subscripted b false o i=operate [o,i] (getItem o i)
def IxR (X:Cx)(r:R2):Prop:=
 ∀(value slice:Expr) (pins:List (Addr×Obj)) (s:Shared) (σ:St) (H:Hp) (x y:V) (v u:Value) (Q:VK),Inv X pins σ H s->RelV x v->RelV y u->r x y H Q->
  subscripted slice false v u=operate [v,u] (getItem v u)->wpAny (model X.prog X.w) X.A (subscriptTail value slice v u) (EP X pins σ Q) X.xe s
def MtR (X:Cx)(id:String)(r:V->List V->Hp->VK->Prop):Prop:=
 ∀(pins:List (Addr×Obj)) (s:Shared) (σ:St) (H:Hp) (x:V) (xs:List V) (v:Value) (us:List Value) (Q:VK),Inv X pins σ H s->RelV x v->Vals xs us->r x xs H Q->
  wpAny (model X.prog X.w) X.A (call (.builtin id) (v :: us)) (EP X pins σ Q) X.xe s
variable {s:Shared}{its:List Value}{x:V}
section
variable {X:Cx}{a b:Expr}{ta tb:TE}{pos:Pos}
theorem IxR.or {r r':R2}(h:IxR X r)(h':IxR X r'):IxR X (λx y H Q=>r x y H Q\/r' x y H Q):=by
 intro value slice pins s σ H x y v u Q I rx ry q hs;rcases q with q | q
 ·exact h value slice pins s σ H x y v u Q I rx ry q hs
 ·exact h' value slice pins s σ H x y v u Q I rx ry q hs
theorem Up {r:R2}(hr:IxR X r)(ha:PE X a ta)(hb:PE X b tb)(hs:JM b):PE X (.Subscript a b pos) (tOp r ta tb):=by
 intro pins s σ H Q I h;exact Subscript_ (R0 ha hb I h λv u s2 x y H2 I2 rx ry q=>hr a b pins s2 σ H2 x y v u Q I2 rx ry q (hs _ _))
def Yw (K:PySem.W.Frag):R2:=λx y H Q=>∃p xs i v,x = .ref p/\y = .int i/\SqL K H p xs/\atI xs i=some v/\Q v H
def Yy (K:PySem.W.Frag):R2:=λx y H Q=>∃p xs i v,x = .ref p/\y = .int i/\SqT K H p xs/\atI xs i=some v/\Q v H
def Yx:R2:=λx y H Q=>∃z i c,x = .str z/\y = .int i/\z.length<=sizeLine/\atI z.cps.toList i=some c/\Q (.str ⟨#[c]⟩) H
theorem ix_list:IxR X (Yw X.K):=by
 intro value slice pins s σ H x y v u Q I rx ry h hs;obtain ⟨p,xs,i,z,rfl,rfl,hq,he,q⟩:=h
 cases rx
 obtain ⟨t,rfl⟩:=ry;obtain ⟨its,r,pl,hz⟩:=I.list hq;obtain ⟨j,h1,h2,h3,h4,h5⟩:=JP he;obtain ⟨w,ew,rw'⟩:=r.get h2;have hl:=r.length;have hn:=G9;have fin:EP X pins σ Q w s:=⟨z,H,I,rw',q⟩
 by_cases h0:0<=i
 ·have hj:i.toNat=j:=by
   rw [seqIndex_of h0 h5] at h1;exact ui9 h1
  exact item_listR pl.isList h0 (by lia) (by rw [hj];simpa using ew) fin hs
 ·have hj:(i + (its.toArray.size:Int)).toNat=j:=by
   rw [seqIndex_neg (by lia) h4] at h1;rw [ug2,<-hl];exact ui9 h1
  exact subscriptTail_builtinR (x:=w) pl.isList.typeIs slot_list_getitem.lookup
   (wpAny_getItem_list_neg (Q:=λr s'=>r=w/\EP X pins σ Q r s') pl.isList (by lia) (by rw [ug2] <;> lia) (by lia) (by rw [hj];simpa using ew) ⟨rfl,fin⟩) hs
theorem ix_tup:IxR X (Yy X.K):=by
 intro value slice pins s σ H x y v u Q I rx ry h hs;obtain ⟨p,xs,i,z,rfl,rfl,hq,he,q⟩:=h
 cases rx
 obtain ⟨t,rfl⟩:=ry;obtain ⟨its,r,pl,hz⟩:=I.tuple hq;obtain ⟨j,h1,h2,h3,h4,h5⟩:=JP he;obtain ⟨w,ew,rw'⟩:=r.get h2;have hl:=r.length;have hn:=G9;have fin:EP X pins σ Q w s:=⟨z,H,I,rw',q⟩;exact subscriptTail_builtinR (x:=w) pl.typeIs slot_tuple_getitem.lookup
  (getItem_tuple (j:=j) (Q:=λr s'=>r=w/\EP X pins σ Q r s') pl (by lia) (by lia) (by rw [ug2,<-hl];exact h1) (by simpa using ew) ⟨rfl,fin⟩) hs
theorem XI:IxR X Yx:=by
 intro value slice pins s σ H x y v u Q I rx ry h hs;obtain ⟨z,i,c,rfl,rfl,hz,he,q⟩:=h;obtain ⟨t,rfl⟩:=rx;obtain ⟨t',rfl⟩:=ry;obtain ⟨j,h1,h2,h3,h4,h5⟩:=JP he;have hl:z.cps.toList.length=z.length:=by simp [Str.length]
 rw [hl] at h1 h4 h5;have hn:=G9;exact tail_any (typeIs_str s z t) slot_str_getitem.lookup (getItem_str (c:=c) (by
  have e1:decide (i < -(2 ^ 63:Int))=false:=uk5 (by lia);have e2:decide (i ≥ 2 ^ 63)=false:=uk5 (by lia);rw [e1,e2,ul5]) (by rw [h1];simpa using h2) ⟨.str ⟨#[c]⟩,H,I.tok _,⟨_,rfl⟩,q⟩) hs
def rIx (K:PySem.W.Frag):R2:=λx y H Q=>Yw K x y H Q\/Yy K x y H Q\/Yx x y H Q
theorem XH:IxR X (rIx X.K):=ix_list.or (ix_tup.or XI)
theorem OJ (its:List Value)(n j:Nat)(u:Value):Obj.mapSeq (·.setIfInBounds j u) { cls:=.type "list",data:=.seq its.toArray n } = { cls:=.type "list",data:=.seq (its.set j u).toArray n }:=by
 simp [Obj.mapSeq]
theorem Inv.lst {pins:List (Addr×Obj)}{σ:St}{H:Hp}{s:Shared}{p:Addr}{xs:List V}(I:Inv X pins σ H s)(h:H p=some (.lst xs)) :
 ∃(its:List Value) (n:Nat),Vals xs its/\s.heap.get? p=some { cls:=.type "list",data:=.seq its.toArray n }/\xs.length<=sizeLine:=by
 obtain ⟨z,its,n,r,e⟩:=I.hok p _ h;exact ⟨its,n,r,e,z⟩
theorem Inv.lstUpd {pins:List (Addr×Obj)}{σ:St}{H:Hp}{p:Addr}{xs ys:List V}{its':List Value}{n':Nat}{f:Obj->Obj}(I:Inv X pins σ H s)(h:H p=some (.lst xs))
 (ho:s.heap.get? p=some { cls:=.type "list",data:=.seq its.toArray n }) (hf:f { cls:=.type "list",data:=.seq its.toArray n } = { cls:=.type "list",data:=.seq its'.toArray n' }) (r:Vals ys its') (hz:ys.length<=sizeLine) (t:Nat) :
 Inv X pins σ (upd H p (.lst ys)) { s with heap:=s.heap.update p f,toks:=t }:=by
 have e:(s.heap.update p f).get? p=some { cls:=.type "list",data:=.seq its'.toArray n' }:=by
  rw [ud4 f ho (by rw [hf] <;> rfl),hf]
 refine I.write (x:=p) (e:=p) (by rw [h];trivial) (.inl rfl) (λb u hb q=>(uc7 _ _ (Ne.symm hb)).trans q) ⟨_,e⟩ ?_;exact ⟨hz,its',n',r,e⟩
def ZO:V->V->V->Hp->(Hp->Prop)->Prop:=λo i v H Q=>∃p xs k j,o = .ref p/\i = .int k/\H p=some (.lst xs)/\ixN xs.length k=some j/\Q (upd H p (.lst (xs.set j v)))
theorem TU:RM X ZO:=by
 intro pins s σ H o i v ov iv u Q I ro ri rv h;obtain ⟨p,xs,k,j,rfl,rfl,hp,hj,q⟩:=h
 cases ro
 obtain ⟨t,rfl⟩:=ri;obtain ⟨its,n,r,ho,hz⟩:=I.lst hp;obtain ⟨h1,h2,h3,h4⟩:=NC hj;have hl:=r.length;have hn:=G9;have I':Inv X pins σ (upd H p (.lst (xs.set j v))) { s with heap:=s.heap.update p (Obj.mapSeq (·.setIfInBounds j u)) }:=
  I.lstUpd hp ho (OJ its n j u) (r.set rv j) (by rw [uj5];exact hz) s.toks
 by_cases h0:0<=k
 ·have hk:k.toNat=j:=by
   rw [seqIndex_of h0 h4] at h1;exact ui9 h1
  exact PySem.W.ki_setAt ho h0 (by lia) (by rw [ug2,<-hl];exact h4) (by rw [hk];exact ⟨_,I',q⟩)
 ·have hk:(k + (its.toArray.size:Int)).toNat=j:=by
   rw [seqIndex_neg (by lia) h3] at h1;rw [ug2,<-hl];exact ui9 h1
  exact PySem.W.ki_setBack ho (by lia) (by rw [ug2,<-hl];exact h3) (by lia) (by rw [hk];exact ⟨_,I',q⟩)
theorem MV (lo hi:Option Int)(n:Nat):(sliceBounds lo hi none n).1=((HT.sIx n 0 lo:Nat):Int)/\(sliceBounds lo hi none n).2.1=((HT.sIx n n hi:Nat):Int)/\(sliceBounds lo hi none n).2.2=1:=by
 refine ⟨?_,?_,rfl⟩
 ·cases lo with
  | none=>simp [sliceBounds,HT.sIx]
  | some i=>
    simp only [sliceBounds,HT.sIx,Option.getD_none,show (1:Int) > 0 by decide,if_true]
    by_cases h:i < 0
    ·simp only [h,if_true] <;> lia
    ·simp only [h,if_false] <;> lia
 ·cases hi with
  | none=>simp [sliceBounds,HT.sIx]
  | some i=>
    simp only [sliceBounds,HT.sIx,Option.getD_none,show (1:Int) > 0 by decide,if_true]
    by_cases h:i < 0
    ·simp only [h,if_true] <;> lia
    ·simp only [h,if_false] <;> lia
theorem K0 (its:List Value)(lo hi:Option Int):slicePick its.toArray lo hi none=((its.drop (HT.sIx its.length 0 lo)).take (HT.sIx its.length its.length hi - HT.sIx its.length 0 lo)).toArray:=by
 obtain ⟨h1,h2,h3⟩:=MV lo hi its.toArray.size;unfold slicePick;rw [h1,h2,h3];simp only [sliceRange_one,pick_run,ug2] <;> rfl
def YB (K:PySem.W.Frag):V->Option Int->Option Int->Hp->VK->Prop:=λx lo hi H Q=>∃a xs,x = .ref a/\SqL K H a xs/\∀p,H p=none->Q (.ref p) (upd H p (.lst (Gf xs lo hi)))
theorem sl_list:SlR X (YB X.K):=by
 intro pins s σ H x v vl vu lo hi sl Q I rx hs pl pu h;obtain ⟨a,xs,rfl,hx,q⟩:=h
 cases rx
 obtain ⟨its,r,ht,hz⟩:=I.list hx;have hlen:=r.length;refine ⟨"list",_,slot_list_getitem.lookup,ht.isList.typeIs,?_⟩;refine wpAny_getItem_list_slice ht.isList hs pl pu .none (by simp) ?_ (by rw [ug2] <;> lia);rw [K0,<-hlen];refine ⟨.ref s.heap.objs.size,_,I.laid (t':=s.toks) (o:=.lst (Gf xs lo hi)) (λb ob q=>uc4 _ q) (un2 _) ?_,rfl,q _ (I.hok.fresh (un2 _))⟩;exact ⟨um4 (Il xs lo hi) hz,_,0,(r.drop (HT.sIx xs.length 0 lo)).take (HT.sIx xs.length xs.length hi - HT.sIx xs.length 0 lo),ue6 _ rfl⟩
noncomputable def EB:V->Bool
 | .non=>true
 | .bl _=>true
 | .int _=>true
 | .str _=>true
 | _=>false
noncomputable def eqV:V->V->Bool
 | .non,.non=>true
 | .bl a,.bl b=>a == b
 | .bl a,.int b=>(if a then 1 else 0) == b
 | .int a,.bl b=>a == (if b then 1 else 0)
 | .int a,.int b=>a == b
 | .str a,.str b=>a == b
 | _,_=>false
theorem Xc {A:Around}{y:V}{u v:Value}(ry:RelV y u)(rx:RelV x v)(fy:EB y=true)(fx:EB x=true):SeqAt.EqAt A s u v (eqV y x):=by
 cases y with
 | non=>
   cases ry
   cases x with
   | non=>cases rx;exact SeqAt.EqAt.same _
   | bl b=>cases rx;exact SeqAt.EqAt.none_bool b
   | int b=>obtain ⟨t,rfl⟩:=rx;exact SeqAt.EqAt.none_int b t
   | str b=>obtain ⟨t,rfl⟩:=rx;exact SeqAt.EqAt.none_str b t
   | _=>exact absurd (show false=true from fx) uf4
 | bl a=>
   cases ry
   cases x with
   | non=>cases rx;exact SeqAt.EqAt.bool_none a
   | bl b=>cases rx;exact SeqAt.EqAt.bool_bool a b
   | int b=>obtain ⟨t,rfl⟩:=rx;exact SeqAt.EqAt.bool_int a b t
   | str b=>obtain ⟨t,rfl⟩:=rx;exact SeqAt.EqAt.bool_str a b t
   | _=>exact absurd (show false=true from fx) uf4
 | int a=>
   obtain ⟨t',rfl⟩:=ry
   cases x with
   | non=>cases rx;exact SeqAt.EqAt.int_none a t'
   | bl b=>cases rx;exact SeqAt.EqAt.int_bool a t' b
   | int b=>obtain ⟨t,rfl⟩:=rx;exact SeqAt.EqAt.int_int a t' b t
   | str b=>obtain ⟨t,rfl⟩:=rx;exact SeqAt.EqAt.int_str a t' b t
   | _=>exact absurd (show false=true from fx) uf4
 | str a=>
   obtain ⟨t',rfl⟩:=ry
   cases x with
   | non=>cases rx;exact SeqAt.EqAt.str_none a t'
   | bl b=>cases rx;exact SeqAt.EqAt.str_bool a t' b
   | int b=>obtain ⟨t,rfl⟩:=rx;exact SeqAt.EqAt.str_int a t' b t
   | str b=>obtain ⟨t,rfl⟩:=rx;exact SeqAt.EqAt.str_str a t' b t
   | _=>exact absurd (show false=true from fx) uf4
 | _=>exact absurd (show false=true from fy) uf4
def eqU (x:V)(u:Value):Bool:=match u with
 | .none=>eqV .non x
 | .bool b=>eqV (.bl b) x
 | .int i _=>eqV (.int i) x
 | .str z _=>eqV (.str z) x
 | _=>false
theorem PK {y:V}{u:Value}(r:RelV y u)(f:EB y=true):eqU x u=eqV y x:=by
 cases y with
 | non=>cases r;rfl
 | bl b=>cases r;rfl
 | int i=>obtain ⟨t,rfl⟩:=r;rfl
 | str z=>obtain ⟨t,rfl⟩:=r;rfl
 | _=>exact absurd (show false=true from f) uf4
theorem Mw {A:Around}{s:Shared}{x:V}{v:Value}(rx:RelV x v)(fx:EB x=true):∀{xs:List V} {us:List Value},Vals xs us->xs.all EB=true->∀u∈us,SeqAt.EqAt A s u v (eqU x u)
 | _,_,.nil,_=>λu hu=>by cases hu
 | y :: xs,u :: us,.cons r t,f=>λu' hu=>by
   rw [ul6,uh8] at f;rcases ul3.mp hu with rfl | hu
   ·rw [PK r f.1];exact Xc r rx f.1 fx
   ·exact Mw rx fx t f.2 u' hu
theorem LQ:Cj X (.type "list") (λxs H Q=>∃p ys,xs=[.ref p]/\(SqL X.K H p ys\/SqT X.K H p ys)/\∀l,H l=none->Q (.ref l) (upd H l (.lst ys))):=by
 intro pins s σ H xs us Q I r h;obtain ⟨p,ys,rfl,hq,q⟩:=h;obtain ⟨u,rfl,rx⟩:=EE r
 cases rx
 have fin:∀(its:List Value),Vals ys its->ys.length<=sizeLine->∀(h':Heap) (c':Nat),(∀b o',s.heap.get? b=some o'->h'.get? b=some o')->
  h'.get? s.heap.objs.size=some { cls:=.type "list",dict:=none,data:=.seq its.toArray c',slots:=#[] }->EP X pins σ Q (.ref s.heap.objs.size) { s with heap:=h' }:=λits r' hz h' c' kp e=>
  ⟨.ref s.heap.objs.size,_,I.laid (t':=s.toks) kp (un2 _) (show ObjOk X.prog X.w _ h' _ (.lst ys) from ⟨hz,its,c',r',e⟩),rfl,q _ (I.hok.fresh (un2 _))⟩
 rcases hq with hq | hq
 ·obtain ⟨its,r',pl,hz⟩:=I.list hq;have hlen:=r'.length;obtain ⟨o,ho,hc,n,hd⟩:=pl.isList;exact call_list_seq p (.inl rfl) ho hc hd (λh' c' kp e=>fin its r' hz h' c' kp e) (by simp only [ug2] <;> lia)
 ·obtain ⟨its,r',pl,hz⟩:=I.tuple hq;have hlen:=r'.length;obtain ⟨o,ho,hc,n,hd⟩:=pl;exact call_list_seq p (.inr rfl) ho hc hd (λh' c' kp e=>fin its r' hz h' c' kp e) (by simp only [ug2] <;> lia)
theorem KW:Cj X (.type "tuple") (λxs H Q=>∃p ys,xs=[.ref p]/\((SqL X.K H p ys/\∀l,H l=none->Q (.ref l) (upd H l (.tup ys)))\/(SqT X.K H p ys/\Q (.ref p) H))):=by
 intro pins s σ H xs us Q I r h;obtain ⟨p,ys,rfl,h⟩:=h;obtain ⟨u,rfl,rx⟩:=EE r
 cases rx
 rcases h with ⟨hq,q⟩ | ⟨hq,q⟩
 ·obtain ⟨its,r',pl,hz⟩:=I.list hq;have hlen:=r'.length;refine call_tuple_list pl.isList (λh' kp=>?_) (by simp only [ug2] <;> lia);have I1:Inv X pins σ H { s with heap:=h' }:=I.kept (t':=s.toks) kp;have I2:Inv X pins σ (upd H h'.objs.size (.tup ys)) { s with heap:=h'.push { cls:=.type "tuple",data:=.seq its.toArray } }:=
   I1.laid (t':=s.toks) (λb o e=>uc4 _ e) (un2 _) (show ObjOk X.prog X.w _ _ _ (.tup ys) from ⟨hz,its,r',IsTup.new _ _⟩)
  exact ⟨.ref h'.objs.size,_,I2,rfl,q _ (I1.hok.fresh (un2 _))⟩
 ·obtain ⟨its,r',pl,hz⟩:=I.tuple hq;exact call_tuple_same pl ⟨.ref p,H,I,rfl,q⟩
def tyV (K:PySem.W.Frag)(T:String)(x:V)(H:Hp):Prop:=match x with
 | .str _=>T = "str"
 | .int _=>T = "int"
 | .ref p=>(T = "list"/\∃xs,SqL K H p xs)\/(T = "tuple"/\∃o,K.lookup p=some o/\o.cls = .type "tuple"/\o.dict=none)\/
    (T = "dict"/\((∃kvs,H p=some (.dK kvs))\/∃kvs,H p=some (.dT kvs)))\/(T = "set"/\∃S n,H p=some (.set S n))
 | _=>False
theorem Rv {pins:List (Addr×Obj)}{σ:St}{H:Hp}{T:String}{v:Value}(I:Inv X pins σ H s)(r:RelV x v)(ty:tyV X.K T x H) :
 s.TypeIs v T/\∀a,v = .ref a->∃ob,s.heap.get? a=some ob/\ob.dict=none:=by
 cases x with
 | str z=>
   obtain ⟨t,rfl⟩:=r
   cases (show T = "str" from ty)
   exact ⟨typeIs_str s z t,λ_ e=>nomatch e⟩
 | int i=>
   obtain ⟨t,rfl⟩:=r
   cases (show T = "int" from ty)
   exact ⟨typeIs_int s i t,λ_ e=>nomatch e⟩
 | ref p=>
   cases r
   rcases ty with ⟨rfl,xs,hq⟩ | ⟨rfl,o,hk,hc,hd⟩ | ⟨rfl,hk⟩ | ⟨rfl,S,n,hk⟩
   ·obtain ⟨its,_,pl,_⟩:=I.list hq;refine ⟨pl.isList.typeIs,λa e=>?_⟩
    cases e
    obtain ⟨o,n,e,c,hd,_⟩:=pl;exact ⟨o,e,hd⟩
   ·refine ⟨⟨o,I.kIn p o hk,hc⟩,λa e=>?_⟩
    cases e
    exact ⟨o,I.kIn _ o hk,hd⟩
   ·have z:∃o,s.heap.get? p=some o/\o.ExactDict:=by
     rcases hk with ⟨kvs,hk⟩ | ⟨kvs,hk⟩
     ·obtain ⟨_,_,_,_,o,_,_,e,ex,_⟩:=I.hok p _ hk;exact ⟨o,e,ex⟩
     ·obtain ⟨_,_,_,_,o,_,_,e,ex,_⟩:=I.hok p _ hk;exact ⟨o,e,ex⟩
    obtain ⟨o,e,ex⟩:=z;refine ⟨⟨o,e,ex.1⟩,λa e2=>?_⟩
    cases e2
    exact ⟨o,e,ex.2.1⟩
   ·obtain ⟨o,_,_,_,e,ex,_⟩:=I.hok p _ hk;refine ⟨⟨o,e,ex.1⟩,λa e2=>?_⟩
    cases e2
    exact ⟨o,e,ex.2.1⟩
 | _=>exact False.elim ty
def bB (K:PySem.W.Frag)(T:String)(r:V->List V->Hp->VK->Prop)(to:TE):TE:=λσ H Q=>to σ H λx H1=>tyV K T x H1/\r x [] H1 Q
def tBM (K:PySem.W.Frag)(T:String)(r:V->List V->Hp->VK->Prop)(to:TE)(t:TA):TE:=λσ H Q=>to σ H λx H1=>tyV K T x H1/\t σ H1 λxs H2=>r x xs H2 Q
variable {o e:Expr}{es:List Expr}{to:TE}{t:TA}{name:Str}{apos cpos:Pos}{T id:String}{r:V->List V->Hp->VK->Prop}
theorem X7 (pa:PlainAttrs T)(slot:Slot T name id)(hty:typeOf (.builtin id)=pure (.type "method_descriptor"))(hm:MtR X id r)(ho:PE X o to)
 (hbase:attributeBase o name X.env (eval o X.env)=eval o X.env:=by rfl) (hline:(apos.endLine == cpos.line)=true:=by rfl):PE X (.Call (.Attribute o name apos) [] [] cpos) (bB X.K T r to):=by
 intro pins s σ H Q I h;refine wpAny_Call_method0_late hbase hline (thn (ho pins s σ H _ I h) λv s1 z9=>?_);obtain ⟨x,H1,I1,r1,ty,q1⟩:=z9;obtain ⟨h1,h2⟩:=Rv I1 r1 ty;exact ⟨T,id,pa,slot,hty,h1,h2,Calls.callWith_builtin rfl (PySem.evalArgs_none (hm pins s1 σ H1 x [] v [] Q I1 r1 .nil q1))⟩
theorem HY (pa:PlainAttrs T)(slot:Slot T name id)(hty:typeOf (.builtin id)=pure (.type "method_descriptor"))(hm:MtR X id r)(ho:PE X o to)(ha:PA X (e :: es) t)
 (hbase:attributeBase o name X.env (eval o X.env)=eval o X.env:=by rfl)
 (hfew:((backTo cpos (starEach (e :: es) X.env)).all (λx=>!x.1) && (backToKw cpos (keywordEach [] X.env)).all (λx=>x.1.isSome)
   && decide ((e :: es).length + ([]:List Keyword).length + (if ([]:List Keyword).isEmpty then 0 else 1) < 30))=true:=by rfl)
 (hline:(apos.endLine == cpos.line)=true:=by rfl) (hs:starEach (e :: es) X.env=(false,eval e X.env) :: starEach es X.env:=by rfl) (hplain:(backTo cpos (starEach es X.env)).any (·.1)=false:=by rfl) :
 PE X (.Call (.Attribute o name apos) (e :: es) [] cpos) (tBM X.K T r to t):=by
 intro pins s σ H Q I h;refine wpAny_Call_method_late hbase hfew hline rfl (thn (ho pins s σ H _ I h) λv s1 z9=>?_);obtain ⟨x,H1,I1,r1,ty,q1⟩:=z9;obtain ⟨h1,h2⟩:=Rv I1 r1 ty;refine ⟨T,id,pa,slot,hty,h1,h2,?_⟩;have hA:=ha cpos pins s1 σ H1 _ I1 q1;rw [hs] at hA ⊢;refine Calls.callWith_builtin (by show (false || (backTo cpos (starEach es X.env)).any (·.1))=false;rw [hplain] <;> rfl) (Calls.evalArgs_plain ?_);exact thn hA λus s2 ⟨vs,H2,I2,r2,q2⟩=>hm pins s2 σ H2 x vs v us Q I2 r1 r2 q2
/- xs.append(e),list.index on a module's tuple .. are MtR facts of 06m -/
end
def MtM (X:Cx)(id:String)(r:V->List V->Hp->VK->Prop):Prop:=
 ∀(pins:List (Addr×Obj)) (s:Shared) (σ:St) (H:Hp) (x:V) (xs:List V) (v:Value) (us:List Value) (Q:VK),Inv X pins σ H s->RelV x v->Vals xs us->r x xs H Q->
  wpAny (model X.prog X.w) X.A (call (.builtin id) (v :: us)) (EP X pins σ Q) X.xe s
theorem Vals.one {us:List Value}(h:Vals [x] us):∃u,us=[u]/\RelV x u:=by
 cases h with
 | cons r t=>
   cases t
   exact ⟨_,rfl,r⟩
theorem Vals.zero:∀{us:List Value},Vals [] us->us=[]
 | _,.nil=>rfl
theorem Vals.rep {xs:List V}{us:List Value}(h:Vals xs us):∀k:Nat,Vals (List.replicate k xs).flatten (List.replicate k us).flatten
 | 0=>.nil
 | k + 1=>by
   rw [ue8,ue8,ug5,ug5];exact Vals.append h (Vals.rep h k)
theorem GW (its:List Value):∀(k:Nat) (acc:List Value),
 List.foldl (λx1 x2=>x1++x2) acc.toArray (List.replicate k its.toArray)=(acc++(List.replicate k its).flatten).toArray
 | 0,acc=>by simp
 | k + 1,acc=>by
   have e:acc.toArray++its.toArray=(acc++its).toArray:=by simp
   have e2:(acc++its)++(List.replicate k its).flatten=acc++(List.replicate (k + 1) its).flatten:=by
    rw [ue8,ug5,ug6]
   rw [<-e2,<-GW its k (acc++its),<-e,ue8,uj6]
section
variable {X:Cx}{pins:List (Addr×Obj)}{σ:St}{H:Hp}{s:Shared}{l b:Addr}{xs ys zs:List V}
theorem Inv.lset {its':List Value}{f:Array Value->Array Value}{t':Nat}(I:Inv X pins σ H s)(hH:H l=some (.lst xs))
 (e:s.heap.get? l=some { cls:=.type "list",data:=.seq its.toArray n }) (hf:f its.toArray=its'.toArray) (hv:Vals ys its') (hz:ys.length<=sizeLine) :
 Inv X pins σ (upd H l (.lst ys)) { s with heap:=s.heap.update l (Obj.mapSeq f),toks:=t' }:=by
 have q:=PySem.IsL.update e f;rw [hf] at q;refine I.write (x:=l) (e:=l) (by rw [hH];exact trivial) (.inl rfl) (λb' u hb hu=>(uc7 s.heap (Obj.mapSeq f) (Ne.symm hb)).trans hu) ⟨_,q⟩ ?_;exact ⟨hz,its',_,hv,q⟩
theorem Inv.lnew {t':Nat}(I:Inv X pins σ H s)(hv:Vals ys its)(hz:ys.length<=sizeLine) :
 Inv X pins σ (upd H s.heap.objs.size (.lst ys)) { s with heap:=s.heap.push { cls:=.type "list",data:=.seq its.toArray },toks:=t' }:=
 I.laid (λ_ _ q=>uc4 _ q) (un2 _) ⟨hz,its,0,hv,ue6 _ rfl⟩
theorem Inv.fresh (I:Inv X pins σ H s):H s.heap.objs.size=none:=I.hok.fresh (un2 _)
theorem Inv.lstM (I:Inv X pins σ H s)(hH:H l=some (.lst xs)):xs.length<=sizeLine/\∃(its:List Value) (n:Nat),Vals xs its/\xs.length=its.length/\s.heap.get? l=some { cls:=.type "list",data:=.seq its.toArray n }:=by
 obtain ⟨z,its,n,r,e⟩:=I.hok l _ hH;exact ⟨z,its,n,r,r.length,e⟩
theorem IK (h:n<=sizeLine):Builtin.List.listTooLong n=false:=by
 unfold Builtin.List.listTooLong;exact uk5 (by lia)
end
section
variable {X:Cx}
def NP:V->List V->Hp->VK->Prop:=λx vs H Q=>∃l xs y,x = .ref l/\vs=[y]/\H l=some (.lst xs)/\xs.length < sizeLine/\Q .non (upd H l (.lst (xs++[y])))
theorem KM:MtM X "list.append" NP:=by
 intro pins s σ H x vs v us Q I rx rv h;obtain ⟨l,xs,y,rfl,rfl,hH,hz,q⟩:=h
 cases rx
 obtain ⟨u,rfl,ru⟩:=rv.one;obtain ⟨z,its,n,r,hl,e⟩:=I.lstM hH;refine call_meets F.slot_list_append ⟨_,e,rfl⟩ F.entry_list_append (F.args_list_append_2 _ _) (PySem.list_append l its.toArray n u (by rw [ug2];lia)) ⟨e,?_⟩;refine ⟨.non,_,I.lset (its':=its++[u]) hH e (by simp) (r.append (.cons ru .nil)) ?_,rfl,q⟩;rw [uf7,ud5];lia
def NQ:V->List V->Hp->VK->Prop:=λx vs H Q=>∃l b xs zs,x = .ref l/\vs=[.ref b]/\H l=some (.lst xs)/\H b=some (.lst zs)/\xs.length + zs.length<=sizeLine/\Q .non (upd H l (.lst (xs++zs)))
theorem mt_extend:MtM X "list.extend" NQ:=by
 intro pins s σ H x vs v us Q I rx rv h;obtain ⟨l,b,xs,zs,rfl,rfl,hH,hB,hz,q⟩:=h
 cases rx
 obtain ⟨u,rfl,ru⟩:=rv.one
 cases ru
 obtain ⟨z,its,n,r,hl,e⟩:=I.lstM hH;obtain ⟨z2,its2,n2,r2,hl2,e2⟩:=I.lstM hB;have hsz:its.toArray.size + its2.toArray.size<=sizeLine:=by rw [ug2,ug2];lia
 have hlong:¬(!its.toArray.isEmpty && Builtin.List.listTooLong (its.toArray.size + its2.toArray.size))=true:=by
  rw [IK hsz,uk8];exact uf4
 refine call_meets F.slot_list_extend ⟨_,e,rfl⟩ F.entry_list_extend (F.args_list_extend_2 _ _)
  (AutoSeq1.list_extend_list_list_0 l its.toArray n b its2.toArray n2 hlong (by rw [ug2];lia) (by lia)) ⟨e,e2,?_⟩
 refine ⟨.non,_,I.lset (its':=its++its2) hH e (by simp) (r.append r2) ?_,rfl,q⟩;rw [uf7];lia
def Yr:V->List V->Hp->VK->Prop:=λx vs H Q=>∃l xs,x = .ref l/\vs=[]/\H l=some (.lst xs)/\Q .non (upd H l (.lst []))
theorem Te:MtM X "list.clear" Yr:=by
 intro pins s σ H x vs v us Q I rx rv h;obtain ⟨l,xs,rfl,rfl,hH,q⟩:=h
 cases rx
 have hus:=rv.zero;subst hus;obtain ⟨z,its,n,r,hl,e⟩:=I.lstM hH;refine call_meets F.slot_list_clear ⟨_,e,rfl⟩ F.entry_list_clear (F.args_list_clear_1 _) (AutoSeq1.list_clear_list_0 l its.toArray n (by rw [ug2];lia)) ⟨e,?_⟩;exact ⟨.non,_,I.lset (its':=[]) (ys:=[]) hH e rfl .nil (un3 _),rfl,q⟩
def MI:R2:=λx y H Q=>∃l b xs zs,x = .ref l/\y = .ref b/\H l=some (.lst xs)/\H b=some (.lst zs)/\xs.length + zs.length<=sizeLine/\∀p,H p=none->Q (.ref p) (upd H p (.lst (xs++zs)))
theorem op_cat:OpR X (binaryOp .Add) MI:=by
 intro pins s σ H x y v u Q I rx ry h;obtain ⟨l,b,xs,zs,rfl,rfl,hH,hB,hz,q⟩:=h
 cases rx
 cases ry
 obtain ⟨z,its,n,r,hl,e⟩:=I.lstM hH;obtain ⟨z2,its2,n2,r2,hl2,e2⟩:=I.lstM hB;refine PySem.P.add_list e e2 ?_ (by rw [ug2,ug2];lia);have ea:its.toArray++its2.toArray=(its++its2).toArray:=by simp
 rw [ea];exact ⟨.ref _,_,I.lnew (t':=s.toks) (r.append r2) (by rw [uf7];lia),rfl,q _ I.fresh⟩
def Yz:R2:=λx y H Q=>∃l k xs,x = .ref l/\y = .int k/\H l=some (.lst xs)/\-(2 ^ 63)<=k/\k < 2 ^ 63/\xs.length * k.toNat<=sizeLine/\
 ∀p,H p=none->Q (.ref p) (upd H p (.lst (List.replicate k.toNat xs).flatten))
theorem Ke (xs:List α)(k:Nat):(List.replicate k xs).flatten.length=k * xs.length:=by
 induction k with
 | zero=>simp
 | succ k ih=>rw [ue8,ug5,uf7,ih,Nat.succ_mul,Nat.add_comm]
theorem X2:OpR X (binaryOp .Mult) Yz:=by
 intro pins s σ H x y v u Q I rx ry h;obtain ⟨l,k,xs,rfl,rfl,hH,h1,h2,hz,q⟩:=h
 cases rx
 obtain ⟨t,rfl⟩:=ry;obtain ⟨z,its,n,r,hl,e⟩:=I.lstM hH;have hlen:its.toArray.size * k.toNat<=sizeLine:=by rw [ug2,<-hl];exact hz
 have hcap:¬its.toArray.size * k.toNat > (2 ^ 63 - 1) / 8:=by
  have:(sizeLine:Nat)<=(2 ^ 63 - 1) / 8:=by decide
  lia
 have hfit:¬(!Builtin.List.listFitsIndex k)=true:=by
  rw [fitsIndex_both h1 h2];exact uf4
 have hlong:¬Builtin.List.listTooLong (its.toArray.size * k.toNat)=true:=by
  rw [IK hlen];exact uf4
 have hnew:List.foldl (λx1 x2=>x1++x2) #[] (List.replicate (if its.toArray.isEmpty=true then 0 else k.toNat) its.toArray)=(List.replicate k.toNat its).flatten.toArray:=by
  have f0:∀m:Nat,List.foldl (λx1 x2=>x1++x2) #[] (List.replicate m its.toArray)=(List.replicate m its).flatten.toArray:=λm=>by
   have:=GW its m [];rw [uj7] at this;exact this
  rw [f0]
  cases its with
  | nil=>simp
  | cons a r'=>rw [if_neg (by simp)]
 refine wpAny_binaryOp_repeat_ref (T:="list") (U:="int") (by decide) ⟨_,e,rfl⟩ (λs'=>typeIs_int s' k t) noFill_list_mul F.fills_int_mul F.slot_int_rmul repeat_list F.slot_int_index.lookup
  (call_meets F.slot_int_rmul (typeIs_int s k t) F.entry_int_rmul (F.args_int_rmul_2 _ _) (int___rmul___int_list k t l its.toArray n)
    ⟨e,rfl,⟨_,e,rfl⟩,call_meets F.slot_list_mul ⟨_,e,rfl⟩ F.entry_list_mul (F.args_list_mul_2 _ _) (AutoListH.list___mul___list_int_3 l its.toArray n k t hfit hcap hlong) ⟨e,?_⟩⟩)
 rw [hnew];exact ⟨.ref _,_,I.lnew (t':=s.toks) (r.rep k.toNat) (by rw [Ke,um7];exact hz),rfl,q _ I.fresh⟩
end
section
variable {prog:Program}{w:World}{A:Around}{E:Value->Shared->Prop}{s:Shared}
end
section
variable {X:Cx}
end
end L2
namespace Att
open PySem PySem.W PySem.Calls PyProof.Rows
theorem Jr {P:Params}{h:Heap}:∀(ns:List Int) (vs:List Value),WellAll P h vs (ns.map WData.int)->IntsAre vs ns:=by
 intro ns
 induction ns with
 | nil=>
   intro vs w;rw [um8] at w
   cases w
   exact .nil
 | cons n ns ih=>
   intro vs w;rw [ul4] at w
   cases w with
   | cons a b=>
     cases a
     exact .cons _ _ (ih _ b)
theorem Re {l:OpenLaw}{n:Nat}(hn:l.most=some n){P:Params}{h:Heap}{args:List WData}{vals:List Value}
 (hpre:l.row.toRowW.claim.pre args=true) (hwl:WellAll P h vals args) :
 ∃a vs ns,vals=[Value.ref a]/\args=[WData.list (ns.map WData.int)]/\h.get? a=some { cls:=.type "list",data:=.seq vs.toArray }/\IntsAre vs ns/\ns.length<=n:=by
 have hsh:WShape.hasAll [] args [.list .int]=true:=(pre_splitW hpre).1;have hc:l.pre.holds [] { args:=args }=true:=(pre_splitW hpre).2;obtain ⟨d,r,rfl,h1,h2⟩:=hasAllW_cons hsh;obtain rfl:=hasAllW_nil h2;obtain ⟨xs,rfl,h3⟩:=hasW_list h1;obtain ⟨ns,rfl⟩:=items_int h3;have hlen:ns.length<=n:=by
  unfold OpenLaw.pre at hc;have h4:(WTm.not (.lt (.lit (.int (n:Int))) (.len (.arg 0)))).holds [] { args:=[.list (ns.map .int)] }=true:=by
   have h4:=(holds_andW hc).1;rw [hn] at h4;exact h4
  have h5:=condW_of h4 (w_not (w_lt w_lit (w_len_list (w_arg rfl))));rw [uj0] at h5;refine Nat.le_of_not_lt λq=>?_;have q':(n:Int) < ((ns.length:Nat):Int):=by lia
  first
   | (rw [ul1 q'] at h5;exact absurd h5 (by decide))
   | (simp at h5;lia)
 cases hwl with
 | cons w1 w2=>
   cases w2
   cases w1 with
   | list ho hall=>exact ⟨_,_,ns,rfl,rfl,ho,Jr ns _ hall,hlen⟩
theorem QS (l:OpenLaw)(args:List WData):l.row.toRowW.claim.post args (.bool true) args=true:=
 postW_of (r:=l.row.toRowW) (X:=(true == true))
  (show WShape.has [] (.bool true) .bool=true by first | rfl | decide | simp [WShape.has,WShape.arms,WShape.armsAll])
  (show (WTm.eq .res (.lit (.bool true))).value [] { args:=args,res:=some (.bool true),after:=args }=some (.bool (true == true)) from w_eq_bool (w_res rfl) w_lit) rfl
theorem attach_call {l:OpenLaw}{n:Nat}{q:Program}{loose:List Str}{XP:(Str->Option Value)->Heap->Prop}{YP:World->Heap->Prop}{d:DefRec}
 (hn:l.most=some n) (hdf:d.params.defaults=[])
 (call:∀(w:World) (s₀ s₁:Shared) (mg mb:Str->Option Value) (fa:Addr) (o:Obj) (pm cd doc:Value) (a:Addr) (vs:List Value) (ns:List Int),
   Ground q loose [] XP w s₀ mg mb s₁.heap->YP w s₁.heap->
   s₁.heap.get? fa=some o->o.data = .func (docDef d.name d.params d.body d.scope pm cd doc)->s₁.heap.CodeRec cd d.name->mg d.name=some (.ref fa)->
   s₁.heap.get? a=some { cls:=.type "list",data:=.seq vs.toArray }->IntsAre vs ns->ns.length<=n->s₁.gens=#[]->
   codeAny (model l.prog w) callerA (.call (.ref fa) ⟨[.ref a],[]⟩) (λr s'=>r = .ok (.ret (.bool true))/\OldK s₁.heap s'.heap/\s'.os=s₁.os/\AllBare s'.gens) s₁) :
 WalkO q loose XP YP l.row.toRowW d [] (λf vs=>PySem.call f vs):=by
 intro w s₀ s₁ mg mb G Y fa o pm cd doc dV kV ho hd hcd hD hmg hg args vals as hpre hlay hrd hwl hlo;obtain rfl:dV = .none:=Dflts.none hD hdf;obtain rfl:kV = .none:=Dflts.noKw hD;obtain ⟨a,vs,ns,rfl,rfl,hobj,hints,hlen⟩:=Re hn hpre hwl;refine enter_call (codeAny_mono (call w s₀ s₁ mg mb fa o pm cd doc a vs ns G Y ho (fd_plain hd) hcd hmg hobj hints hlen hg) λr s' hq=>?_);obtain ⟨rfl,h2,h3,h4⟩:=hq;exact ⟨.inl ⟨.bool true,.bool true,[],rfl,λ_=>rfl,.bool true,QS l _,λ_=>⟨List.Pairwise.nil,λ_ hm=>(nomatch hm)⟩⟩,h2,h3,h4⟩
section
variable {prog:Program}{w:World}{A:Around}{E:Value->Shared->Prop}{s:Shared}{K:Frag}
noncomputable def db (h:Heap)(L d:Addr):List (Addr×Obj):=(List.range h.objs.size).filterMap λa=>if a=L\/a=d then none else (h.get? a).map λo=>(a,o)
end
end Att
namespace L2
open PySem PySem.Spec PyProof.Rows
theorem KR:∀{vs:List Value} {ns:List Int},IntsAre vs ns->Vals (ns.map V.int) vs
 | _,_,.nil=>.nil
 | _,_,.cons n t h=>.cons ⟨t,rfl⟩ (KR h)
def N9 (H:Hp):Prop:=∀b,H b=none\/∃o xs,H b=some (.frz o (.lst xs))
variable {P:Program}{w:World}{fd:FuncData}{x:Str}
theorem SS {K:PySem.W.Frag}{mg mb:Str->Option Value}{CX:CXT}{k:Nat}{fa a:Addr}{sp:Sp}{s₁:Shared}{vs:List Value}{ns:List Int}
 (KX:K.In s₁.heap) (hns:s₁.heap.Ns mainGlobals mg) (hb:s₁.heap.Ns builtinsNs mb) (hbb:∀x:Str,x≠"__name__"->mb x=bootBuiltins x) (hlim:s₁.heap.NoLimit) (hg:s₁.gens=#[])
 (ha:s₁.heap.get? a=some { cls:=.type "list",data:=.seq vs.toArray }) (hi:IntsAre vs ns) (hl:ns.length<=sizeLine) (hr:Room k callerA)
 (F:∀base:Heap,K.In base->base.Ns mainGlobals mg->FnOk P w K mg base CX k fa fd [x] sp) (hbind:∀(s:Shared) (u:Value),BindsTo s fd ⟨[u],[]⟩ [(x,u)])
 (hsp:∀H:Hp,N9 H->SqL K H a (ns.map V.int)->sp [.ref a] H (λv _=>v = .bl true) λ_ _ _=>False)
 (hCX:∀H e s',CX [] H s₁ (λ_ _ _=>False) e s'->False) :
 codeAny (model P w) callerA (.call (.ref fa) ⟨[.ref a],[]⟩) (λr s'=>r = .ok (.ret (.bool true))/\OldK s₁.heap s'.heap/\s'.os=s₁.os/\AllBare s'.gens) s₁:=by
 have rv:=KR hi;have lenV:=hi.length
 -- from an abstract heap in which nothing but the script may be tracked
 have core:∀H:Hp,N9 H->SqL K H a (ns.map V.int)->HOk P w H s₁.heap->(∀b,H b≠none->b=a)->(H a≠none->K.lookup a=none)->
  codeAny (model P w) callerA (.call (.ref fa) ⟨[.ref a],[]⟩) (λr s'=>r = .ok (.ret (.bool true))/\OldK s₁.heap s'.heap/\s'.os=s₁.os/\AllBare s'.gens) s₁:=by
  intro H hO hS hok hA hK;have base_of:∀{b:Addr} {o:Obj},s₁.heap.get? b=some o->H b=none->(Gj s₁.heap H).get? b=some o:=λe n=>SM e n;have noA:∀{b:Addr} {o:Obj} {es:Array DictEntry} {ep:Nat},s₁.heap.get? b=some o->o.data = .dict es ep->H b=none:=λ{b o es ep} e d=>by
   cases q:H b with
   | none=>rfl
   | some u=>
     have e':b=a:=hA b (by rw [q];simp);subst e';rw [ha] at e;cases e
     have d':Data.seq vs.toArray _=Data.dict es ep:=d
     cases d'
  have nsK:∀{b:Addr} {m:Str->Option Value},s₁.heap.Ns b m->(Gj s₁.heap H).Ns b m:=λ{b m} ⟨o,es,ep,e,d,r⟩=>⟨o,es,ep,base_of e (noA e d),d,r⟩;have hKb:K.In (Gj s₁.heap H):=λb o e=>base_of (KX b o e) (by
   cases q:H b with
   | none=>rfl
   | some u=>
     have e':b=a:=hA b (by rw [q];simp);subst e';rw [hK (by rw [q];simp)] at e;cases e)
  have hM:Mod K mg (Gj s₁.heap H):=⟨hKb,nsK hns,⟨mb,nsK hb,hbb⟩,let ⟨mc,h1,h2⟩:=hlim;⟨mc,nsK h1,h2⟩⟩;have e0:Env0 P w K mg (Gj s₁.heap H) callerA [] s₁ H:=⟨rfl,hM,λb o e=>Vz e,um6 (Qa _ _),trivial,λb hb=>absurd (show b∈([]:List Addr) from hb) (by simp),hok,.of_eq hg⟩;refine codeAny_mono ((F _ hKb (nsK hns)).run callerA [] s₁ H ⟨[.ref a],[]⟩ [.ref a] [.ref a] _ _ hr e0 (hbind s₁ (.ref a)) (.cons rfl .nil) (hsp H hO hS)) λr s' h=>?_
  cases r with
  | error e=>exact (hCX H e s' h).elim
  | ok fl=>
    cases fl with
    | next=>exact False.elim h
    | brk=>exact False.elim h
    | cont=>exact False.elim h
    | ret u=>
      obtain ⟨v,H',os,bare,un,hok',r',q⟩:=h;have q':v = .bl true:=q;subst q';obtain rfl:u=Value.bool true:=r';refine ⟨rfl,OldK.of_keep λb o e=>?_,os,bare⟩
      cases q:H b with
      | none=>exact un.keep b o e q (by intro z;exact absurd (show b∈([]:List Addr) from z) (by simp)) (by simp)
      | some u=>
        rcases hO b with z | ⟨ob,xs,z⟩
        ·rw [q] at z;cases z
        ·have z2:=un.frzs b ob _ z;obtain ⟨e1,_⟩:=hok b _ z;obtain ⟨e2,_⟩:=hok' b _ z2;rw [e] at e1;cases e1
         exact e2
 cases hk:K.lookup a with
 | some o=>
   -- the script is one of the module's own objects
   have e:=KX a o hk;rw [ha] at e
   cases e
   refine core (λ_=>none) (λ_=>.inl rfl) (.inr ⟨_,vs.toArray,_,hk,rfl,rfl,rfl,by rw [ug2,lenV];exact hl,by simpa using rv⟩) (λb u z=>by have z':(none:Option HO)=some u:=z;cases z') (λb z=>absurd rfl z) λz=>absurd rfl z
 | none=>
   refine core (λb=>if b=a then some (.frz { cls:=.type "list",data:=.seq vs.toArray } (.lst (ns.map V.int))) else none) (λb=>?_) (.inl (.inr ⟨{ cls:=.type "list",data:=.seq vs.toArray },if_pos rfl⟩)) (λb u z=>?_) (λb z=>?_) λ_=>hk
   ·by_cases hb:b=a
    ·exact .inr ⟨_,_,if_pos hb⟩
    ·exact .inl (if_neg hb)
   ·by_cases hb:b=a
    ·have z':=(if_pos hb).symm.trans z
     cases z'
     subst hb;exact ⟨ha,by rw [uj0];exact hl,vs,_,rv,ha⟩
    ·have z':=(if_neg hb).symm.trans z
     cases z'
   ·by_cases hb:b=a
    ·exact hb
    ·exact absurd (if_neg hb) z
theorem WN {l:PySem.W.OpenLaw}{n k:Nat}{q:Program}{loose:List Str}{XP:(Str->Option Value)->Heap->Prop}{YP:World->Heap->Prop}{d:DefRec}{K:Params->PySem.W.Frag}{CX:World->CXT}{sp:World->Sp}
 (hn:l.most=some n) (hn2:n<=sizeLine) (hdf:d.params.defaults=[]) (hr:Room k callerA)
 (hY:∀(w:World) (h:Heap),YP w h->(K w.params).In h)
 (F:∀(w:World) (mg:Str->Option Value) (fa:Addr) (h:Heap),(K w.params).In h->h.Ns mainGlobals mg->mg d.name=some (.ref fa)->
   ∃fd:FuncData,(∀(s:Shared) (u:Value),BindsTo s fd ⟨[u],[]⟩ [(x,u)])/\
    ∀base:Heap,(K w.params).In base->base.Ns mainGlobals mg->FnOk l.prog w (K w.params) mg base (CX w) k fa fd [x] (sp w))
 (hsp:∀(w:World) (H:Hp) (a:Addr) (ns:List Int),ns.length<=n->N9 H->SqL (K w.params) H a (ns.map V.int)->sp w [.ref a] H (λv _=>v = .bl true) λ_ _ _=>False)
 (hCX:∀(w:World) (H:Hp) (s:Shared) (e:Value) (s':Shared),CX w [] H s (λ_ _ _=>False) e s'->False) :
 PySem.W.WalkO q loose XP YP l.row.toRowW d [] (λf vs=>PySem.call f vs):=by
 refine Att.attach_call hn hdf λw s₀ s₁ mg mb fa o pm cd doc a vs ns G Y ho hd hcd hmg hobj hints hlen hg=>?_;have KX:=hY w _ Y;obtain ⟨fd,hb,hF⟩:=F w mg fa _ KX G.T.g hmg;exact SS KX G.T.g G.T.b G.T.builtins G.T.nolimit hg hobj hints (um4 hlen hn2) hr hF hb (λH hO hS=>hsp w H a ns hlen hO hS) λH e s'=>hCX w H s₁ e s'
noncomputable def DE (s:Stmt):Arguments:=match s with
 | .FunctionDef _ a _ _ _ _ _ _ _ _=>a
 | _=>{ posonlyargs:=[],args:=[],vararg:=none,kwonlyargs:=[],kw_defaults:=[],kwarg:=none,defaults:=[] }
noncomputable def Bd (s:Stmt):List Stmt:=match s with
 | .FunctionDef _ _ b _ _ _ _ _ _ _=>b
 | _=>[]
noncomputable def Al (s:Stmt):Scope:=match s with
 | .FunctionDef _ _ _ _ _ _ sc _ _ _=>sc
 | _=>{ kind:=.function,names:=[],isGenerator:=false,isCoroutine:=false }
abbrev CX0:CXT:=λ_ _ _ _ _ _=>False
abbrev E0:XK:=λ_ _ _=>False
variable {X:Cx}
theorem HX:EJ CX0 X E0:=λ_ _ _ _ _ _ _ h=>h.elim
structure Fun (K:PySem.W.Frag)(x qual:Str)(st:Stmt)(f:Addr)(fd:FuncData):Prop where
 ex:∃(oc:Value) (od:Option Addr) (kV doc pm:Value) (an:Option Addr) (cdv ct:Value) (osl:Array (Option Value)),
  fd=PySem.W.fnOf x qual (DE st) (Bd st) (Al st) .none kV doc pm an cdv ct/\K.lookup f=some ⟨oc,od,.func fd,osl⟩/\PySem.W.codeIn K cdv qual=true
 kp:PySem.W.keepIn K (.ref f)=true
variable {qual:Str}{f:Addr}
section
variable {P:Program}{w:World}{K:PySem.W.Frag}{mg:Str->Option Value}{base:Heap}
theorem Fun.ok {st:Stmt}{N ps:List Str}{k:Nat}{sp:Sp}(F:Fun K x qual st f fd)(S:FnScope N ps (Al st))(len:∀vs H Q E,sp vs H Q E->vs.length=ps.length)
 (hbody:∀(cdv:Value) (A:Around) (outer:List Env) (s:Shared) (H:Hp) (vs:List V) (Q:VK) (E:XK),Room k (A.deeper (envOfC qual (Al st) s.heap.objs.size f cdv))->sp vs H Q E->
   ∃t,PSs (CY CX0 P w K mg base N qual (Al st) f cdv A outer s H E).nox (Bd st) t/\t { nx:=λ_ H'=>Q .non H',rt:=Q } (start N vs) H):FnOk P w K mg base CX0 (k + 1) f fd ps sp:=by
 obtain ⟨oc,od,kV,doc,pm,an,cdv,ct,osl,rfl,lk,hcd⟩:=F.ex;refine Ul lk hcd S len λA outer s H vs Q E hr hsp=>?_;obtain ⟨t,h,q⟩:=hbody cdv A outer s H vs Q E hr hsp;exact ⟨t,h.nox,q⟩
theorem Fun.binds {st:Stmt}{ps:List Str}(F:Fun K x qual st f fd)
 (h:∀(kV doc pm:Value) (an:Option Addr) (cdv ct:Value) (us:List Value),us.length=ps.length->bindArgs (PySem.W.fnOf x qual (DE st) (Bd st) (Al st) .none kV doc pm an cdv ct) ⟨us,[]⟩=pure (ps.zip us)):Binds K fd ps []:=by
 obtain ⟨oc,od,kV,doc,pm,an,cdv,ct,osl,rfl,lk,hcd⟩:=F.ex;exact .all (h kV doc pm an cdv ct)
theorem FO {st:Stmt}{oc:Value}{od an:Option Addr}{osl:Array (Option Value)}{kV doc pm cdv ct:Value}(l:K.lookup f=some ⟨oc,od,.func (PySem.W.fnOf x qual (DE st) (Bd st) (Al st) .none kV doc pm an cdv ct),osl⟩)
 (c:PySem.W.codeIn K cdv qual=true) (k:PySem.W.keepIn K (.ref f)=true):Fun K x qual st f (PySem.W.fnOf x qual (DE st) (Bd st) (Al st) .none kV doc pm an cdv ct):=⟨⟨oc,od,kV,doc,pm,an,cdv,ct,osl,rfl,l,c⟩,k⟩
end
section
variable {X:Cx}
end
def dD (H H':Hp):Prop:=∀b o,H b=some o->H' b=some o
section
variable {κ:Type}[DecidableEq κ]
noncomputable def Do (kvs:List (κ×V))(k:κ):Option V:=(kvs.find? λkv=>decide (kv.1=k)).map (·.2)
noncomputable def Dl (kvs:List (κ×V))(k:κ)(v:V):List (κ×V):=
 if (kvs.any λkv=>decide (kv.1=k))=true then kvs.map (λkv=>if kv.1=k then (kv.1,v) else kv) else kvs++[(k,v)]
theorem Gz {p:κ×V}{r:List (κ×V)}{k:κ}(e:p.1=k):Do (p :: r) k=some p.2:=by simp [Do,uj8,e]
theorem Gy {p:κ×V}{r:List (κ×V)}{k:κ}(e:¬p.1=k):Do (p :: r) k=Do r k:=by simp [Do,uj8,e]
theorem Ip (kvs:List (κ×V))(k:κ)(v:V):(Dl kvs k v).length<=kvs.length + 1:=by
 unfold Dl
 split
 ·rw [uj0];lia
 ·rw [uf7,uh4,uj9];lia
theorem RelO.isSome_eq {o:Option V}{u:Option Value}(r:RelO o u):o.isSome=u.isSome:=by
 cases o with
 | none=>cases u with
   | none=>rfl
   | some _=>exact (show False from r).elim
 | some _=>cases u with
   | none=>exact (show False from r).elim
   | some _=>rfl
theorem KV.val {kvs:List (κ×V)}{vs:List (κ×Value)}(r:KV kvs vs)(k:κ):RelO (Do kvs k) (valueAt vs k):=by
 unfold KV at r
 induction r with
 | nil=>exact True.intro
 | @cons p q ps qs h t ih=>
   obtain ⟨h1,h2⟩:=h
   by_cases e:p.1=k
   ·have e':q.1=k:=h1.symm.trans e;have b:valueAt (q :: qs) k=some q.2:=by simp [valueAt,uj8,e']
    rw [Gz e,b];exact h2
   ·have e':¬q.1=k:=λz=>e (h1.trans z);have b:valueAt (q :: qs) k=valueAt qs k:=by simp [valueAt,uj8,e']
    rw [Gy e,b];exact ih
theorem KV.any {kvs:List (κ×V)}{vs:List (κ×Value)}(r:KV kvs vs)(k:κ):(kvs.any λkv=>decide (kv.1=k))=vs.any λkv=>decide (kv.1=k):=by
 unfold KV at r
 induction r with
 | nil=>rfl
 | cons h t ih=>rw [ul7,ul7,ih,h.1]
theorem KV.repl {kvs:List (κ×V)}{vs:List (κ×Value)}(r:KV kvs vs)(k:κ){y:V}{u:Value}(ry:RelV y u) :
 KV (kvs.map λkv=>if kv.1=k then (kv.1,y) else kv) (vs.map λkv=>if kv.1=k then (kv.1,u) else kv):=by
 unfold KV at r ⊢
 induction r with
 | nil=>exact .nil
 | @cons p q ps qs h t ih=>
   rw [ul4,ul4];refine .cons ?_ ih;obtain ⟨h1,h2⟩:=h
   by_cases e:p.1=k
   ·rw [if_pos e,if_pos (h1.symm.trans e)];exact ⟨h1,ry⟩
   ·rw [if_neg e,if_neg (λz=>e (h1.trans z))];exact ⟨h1,h2⟩
theorem KV.put {kvs:List (κ×V)}{vs:List (κ×Value)}(r:KV kvs vs)(k:κ){y:V}{u:Value}(ry:RelV y u):KV (Dl kvs k y) (stored vs k u):=by
 unfold Dl stored;rw [r.any k]
 by_cases e:(vs.any λkv=>decide (kv.1=k))=true
 ·rw [if_pos e,if_pos e];exact r.repl k ry
 ·rw [if_neg e,if_neg e];exact Paired.snoc r ⟨rfl,ry⟩
theorem KV.length {kvs:List (κ×V)}{vs:List (κ×Value)}(r:KV kvs vs):kvs.length=vs.length:=Paired.length r
end
theorem Jt {k:Key}{u:Value}(r:RelV (kV k) u):(BA P w).is k u=true:=by
 cases k with
 | inl i=>obtain ⟨t,e⟩:=(show ∃t,u=Value.int i t from r);subst e;exact M6 P w i t
 | inr x=>obtain ⟨t,e⟩:=(show ∃t,u=Value.str x t from r);subst e;exact M7 P w x t
theorem KK {P:Program}{w:World}:∀{ks:List Key} {us:List Value},Vals (ks.map kV) us->ItemsAre (BA P w) ks us
 | [],_,r=>by rw [um8] at r;cases r;exact .nil
 | k :: ks,_,r=>by
   rw [ul4] at r
   cases r with
   | cons h t=>exact .cons (Jt h) (KK t)
abbrev KT (H:Hp):List (List Key×V)->List (List Key×Addr×Value)->Prop:=Paired λp q=>p.1=q.1/\H q.2.1=some (.tup (p.1.map kV))/\RelV p.2 q.2.2
variable {H:Hp}
theorem KT.val {kvs:List (List Key×V)}{xs:List (List Key×Addr×Value)}(r:KT H kvs xs)(k:List Key):RelO (Do kvs k) ((atKey xs k).map (·.2)):=by
 induction r with
 | nil=>exact True.intro
 | @cons p q ps qs h t ih=>
   obtain ⟨h1,_,h2⟩:=h
   by_cases e:p.1=k
   ·have e':q.1=k:=h1.symm.trans e;have b:atKey (q :: qs) k=some q.2:=by simp [atKey,uj8,e']
    rw [Gz e,b];exact h2
   ·have e':¬q.1=k:=λz=>e (h1.trans z);have b:atKey (q :: qs) k=atKey qs k:=by simp [atKey,uj8,e']
    rw [Gy e,b];exact ih
variable {kvs:List (Key×V)}
section
variable {P:Program}{w:World}{H:Hp}{h:Heap}{a:Addr}
theorem Uz {u:HO}(ok:HOk P w H h)(e:Rd H a u):ObjOk P w H h a u:=e.ok ok
theorem Ui (ok:HOk P w H h)(e:Rd H a (.dK kvs)):kvs.length<=sizeLine/\(a == sysModules)=false/\∃vs,KV kvs vs/\h.DictOf (BA P w) a vs:=
 show ObjOk P w H h a (.dK kvs) from Uz ok e
theorem Lc (ok:HOk P w H h)(e:H a=some (.dK kvs)):kvs.length<=sizeLine/\(a == sysModules)=false/\∃vs,KV kvs vs/\h.DictOf (BA P w) a vs:=Ui ok (.inl e)
theorem Qn {ks:List Key}(ok:HOk P w H h)(e:H a=some (.tup (ks.map kV))):(tupleKind (BA P w)).is h ks a:=by
 obtain ⟨_,its,r,o,h1,h2,n,h3⟩:=(show ObjOk P w H h a (.tup (ks.map kV)) from ok a _ e);exact ⟨o,its.toArray,n,h1,h2,h3,by simpa using KK r⟩
theorem Zo {kvs:List (List Key×V)}(ok:HOk P w H h)(e:Rd H a (.dT kvs)):kvs.length<=sizeLine/\(a == sysModules)=false/\
 ∃xs,KT H kvs xs/\h.DictOfH (tupleKind (BA P w)) a xs:=by
 obtain ⟨z,y,xs,r,o,es,ep,h1,h2,h3,h4,h5⟩:=(show ObjOk P w H h a (.dT kvs) from Uz ok e);refine ⟨z,y,xs,r,o,es,ep,h1,h2,h3,h4,λx hx=>?_,h5⟩;have all:∀{l:List (List Key×V)} {m:List (List Key×Addr×Value)},KT H l m->∀x∈m,(tupleKind (BA P w)).is h x.1 x.2.1:=by
  intro l m q
  induction q with
  | nil=>intro x hx;exact nomatch hx
  | @cons p q ps qs hq t ih=>
    intro x hx;rcases ul3.mp hx with e | hx
    ·subst e;exact Qn ok (by rw [<-hq.1];exact hq.2.1)
    ·exact ih x hx
 exact all r x hx
end
def DGet (H:Hp)(a:Addr)(y:V)(r:Option V):Prop:=
 (∃kvs k,Rd H a (.dK kvs)/\y=kV k/\r=Do kvs k)\/∃kvs k b,Rd H a (.dT kvs)/\y = .ref b/\H b=some (.tup (k.map kV))/\r=Do kvs k
def dA (H:Hp)(a:Addr)(y v:V)(H':Hp):Prop:=
 (∃kvs k,H a=some (.dK kvs)/\y=kV k/\kvs.length < sizeLine/\H'=upd H a (.dK (Dl kvs k v)))\/
 ∃kvs k b,H a=some (.dT kvs)/\y = .ref b/\H b=some (.tup (k.map kV))/\kvs.length < sizeLine/\H'=upd H a (.dT (Dl kvs k v))
theorem DGet.k {a:Addr}{k:Key}(e:H a=some (.dK kvs)):DGet H a (kV k) (Do kvs k):=.inl ⟨kvs,k,.inl e,rfl,rfl⟩
section
variable {X:Cx}{pins:List (Addr×Obj)}{σ:St}{H:Hp}{s:Shared}{a:Addr}{y v:V}{u r:Value}{o:Option V}{A:Around}{E:Value->Shared->Prop}
theorem Inv.big (I:Inv X pins σ H s):sysModules < s.heap.objs.size:=by
 have h:mainGlobals < s.heap.objs.size:=(I.mod.glob.keeps I.bk).lt;exact Nat.lt_trans (by decide) h
theorem aY {Q:Value->Shared->Prop}(hu:A.units + 1 < cLine)(I:Inv X pins σ H s)(g:DGet H a y o)(ry:RelV y u)(h:∀s',Inv X pins σ H s'->Q (.bool o.isSome) s') :
 wpAny (model X.prog X.w) A (compareOp .In u (.ref a)) Q E s:=by
 rcases g with ⟨kvs,k,e,ey,l⟩ | ⟨kvs,k,b,e,ey,eb,l⟩
 ·subst ey;obtain ⟨z,hd,vs,rel,dd⟩:=Ui I.hok e;refine wpAny_in_of (Jt ry) hd dd.mapOf ?_;rw [<-(rel.val k).isSome_eq,<-l];exact h _ (I.tok _)
 ·subst ey
  cases (show u=Value.ref b from ry)
  obtain ⟨z,hd,xs,rel,dd⟩:=Zo I.hok e;refine wpAny_in_heap (tupleKind_room_in1 hu) (Qn I.hok eb) hd dd ?_;have q:=(rel.val k).isSome_eq;rw [Option.isSome_map] at q;rw [<-q,<-l];exact h _ (I.tok _)
theorem Nn {h':Heap}{t':Nat}{ob:HO}(I:Inv X pins σ H s)(mu:Mut (H a))(hs:Heap.SameBut a s.heap h')(he:∃q,h'.get? a=some q)(new:ObjOk X.prog X.w (upd H a ob) h' a ob) :
 Inv X pins σ (upd H a ob) { s with heap:=h',toks:=t' }:=
 I.write (x:=a) (e:=a) mu (.inl rfl) (λb q hb z=>(hs.2 b hb).trans z) he new
theorem L9 {H':Hp}{h':Heap}{vs:List (Key×Value)}(z:kvs.length<=sizeLine)(hd:(a == sysModules)=false)(rel:KV kvs vs)(dd:h'.DictOf (BA P w) a vs) :
 ObjOk P w H' h' a (.dK kvs):=⟨z,hd,vs,rel,dd⟩
end
section
variable {X:Cx}{pins:List (Addr×Obj)}{σ:St}{H:Hp}{s:Shared}{a:Addr}{kvs:List (Key×V)}{k:Key}{u:Value}{A:Around}{E:Value->Shared->Prop}
end
section
variable {X:Cx}{o i e value:Expr}{pos pos' tpos:Pos}{td ty tv:TE}
end
theorem L8 (h:Heap)(hb:sysModules < h.objs.size):ObjOk P w H (h.push { cls:=.type "dict",data:=.dict #[] }) h.objs.size (.dK []):=
 ⟨un3 _,beq_eq_false_iff_ne.mpr (Ne.symm (um3 hb)),[],.nil,Heap.DictOf.new h⟩
def YU:TE:=λ_ H Q=>∀p,H p=none->Q (.ref p) (upd H p (.dK []))
section
variable {X:Cx}{pos:Pos}
theorem Tq:PE X (.Dict [] [] pos) YU:=λpins s σ H Q I h=>
 wpAny_Dict_empty ⟨.ref s.heap.objs.size,_,I.laid (a:=s.heap.objs.size) (o:=.dK []) (t':=s.toks) (λ_ _ q=>uc4 _ q) (un2 _) (L8 s.heap I.big),rfl,h _ (I.hok.fresh (un2 _))⟩
end
def JD:List (TE×TE)->St->Hp->(List (V×V)->Hp->Prop)->Prop
 | [],_,H,Q=>Q [] H
 | (tk,tv) :: r,σ,H,Q=>tk σ H λx H1=>tv σ H1 λy H2=>JD r σ H2 λps H3=>Q ((x,y) :: ps) H3
abbrev VV:List (V×V)->List (Value×Value)->Prop:=Paired λp q=>RelV p.1 q.1/\RelV p.2 q.2
def PPs (X:Cx)(pos:Pos)(keys:List (Option Expr))(values:List Expr)(trs:List (TE×TE)):Prop:=
 ∀(pins:List (Addr×Obj)) (s:Shared) (σ:St) (H:Hp) (Q:List (V×V)->Hp->Prop),Inv X pins σ H s->JD trs σ H Q->
  wpAny (model X.prog X.w) X.A (evalPairs (pairTrees keys values X.env pos)) (λvs s'=>∃ps H',Inv X pins σ H' s'/\VV ps vs/\Q ps H') X.xe s
theorem V0 {pos:Pos}:PPs X pos [] [] []:=λpins s σ H Q I h=>pairTrees_nil_walk ⟨[],H,I,.nil,h⟩
theorem Tx {pos:Pos}{k v:Expr}{ks:List (Option Expr)}{vs:List Expr}{tk tv:TE}{trs:List (TE×TE)}(hk:PE X k tk)(hv:PE X v tv)(hr:PPs X pos ks vs trs) :
 PPs X pos (some k :: ks) (v :: vs) ((tk,tv) :: trs):=λpins s σ H Q I h=>
 pairTrees_cons_walk (thn (hk pins s σ H _ I h) λu s1 ⟨x,H1,I1,rx,q1⟩=>thn (hv pins s1 σ H1 _ I1 q1) λw2 s2 ⟨y,H2,I2,ry,q2⟩=>
  thn (hr pins s2 σ H2 _ I2 q2) λws s3 ⟨ps,H3,I3,rel,q3⟩=>⟨(x,y) :: ps,H3,I3,.cons ⟨rx,ry⟩ rel,q3⟩)
def Fb (kvs more:List (Key×V)):List (Key×V):=more.foldl (λacc kv=>Dl acc kv.1 kv.2) kvs
theorem KV.merge:∀{more:List (Key×V)} {rs:List (Key×Value)} {kvs:List (Key×V)} {vs:List (Key×Value)},KV more rs->KV kvs vs->KV (Fb kvs more) (merged vs rs):=by
 intro more rs kvs vs r;unfold KV at r
 induction r generalizing kvs vs with
 | nil=>intro q;exact q
 | @cons p q ps qs h t ih=>
   intro r0;have e:KV (Dl kvs p.1 p.2) (stored vs q.1 q.2):=by
    have:=r0.put p.1 h.2;rw [<-h.1];exact this
   exact ih e
theorem GC:∀(more kvs:List (Key×V)),(Fb kvs more).length<=kvs.length + more.length
 | [],kvs=>by show kvs.length<=kvs.length + 0;lia
 | p :: r,kvs=>by
   have h1:=GC r (Dl kvs p.1 p.2);have h2:=Ip kvs p.1 p.2;show (Fb (Dl kvs p.1 p.2) r).length<=_;rw [uh4];lia
theorem Jj {P:Program}{w:World}:∀{kvs:List (Key×V)} {ws:List (Value×Value)},VV (kvs.map λkv=>(kV kv.1,kv.2)) ws->∃rs,Carries (BA P w) ws rs/\KV kvs rs
 | [],_,r=>by rw [um8] at r;cases r;exact ⟨[],True.intro,.nil⟩
 | p :: kvs,_,r=>by
   rw [ul4] at r
   cases r with
   | @cons a b as bs h t=>
     obtain ⟨rs,c,q⟩:=Jj (P:=P) (w:=w) t;obtain ⟨b1,b2⟩:=b;exact ⟨(p.1,b2) :: rs,⟨Jt h.1,rfl,c⟩,.cons ⟨rfl,h.2⟩ q⟩
def ZU (trs:List (TE×TE)):TE:=λσ H Q=>∀p,H p=none->JD trs σ (upd H p (.dK [])) λps H2=>H2 p=some (.dK [])/\∃kvs:List (Key×V),ps=kvs.map (λkv=>(kV kv.1,kv.2))/\kvs.length<=15/\Q (.ref p) (upd H2 p (.dK (Fb [] kvs)))
theorem VO {pos:Pos}{keys:List (Option Expr)}{values:List Expr}{trs:List (TE×TE)}(h:PPs X pos keys values trs)(hall:keys.all (·.isSome)=true)(hl:keys.length=values.length)(h0:keys≠[])
 (h15:keys.length<=15):PE X (.Dict keys values pos) (ZU trs):=by
 intro pins s σ H Q I q;have hn:=I.hok.fresh (un2 s.heap.objs.size);have I1:=I.laid (a:=s.heap.objs.size) (o:=.dK []) (h':=s.heap.push { cls:=.type "dict",data:=.dict #[] }) (t':=s.toks) (λ_ _ q=>uc4 _ q) (un2 _) (L8 s.heap I.big);refine wpAny_Dict_walk (knd:=BA X.prog X.w) hall hl h0 h15 (thn (h pins _ σ _ _ I1 (q _ hn)) λws s2 z9=>?_);obtain ⟨ps,H2,I2,rel,e,kvs,ep,lk,q2⟩:=z9;subst ep;obtain ⟨rs,c,rk⟩:=Jj (P:=X.prog) (w:=X.w) rel;obtain ⟨z,hd,vs0,r0,dd⟩:=Lc I2.hok e
 cases r0
 refine ⟨rs,c,dd,λh' dd' hs=>⟨.ref s.heap.objs.size,_,?_,rfl,q2⟩⟩;have hz:(Fb [] kvs).length<=sizeLine:=by
  have h1:=GC kvs [];rw [uj9] at h1;rw [sizeLine_eq];lia
 have he:∃q,h'.get? s.heap.objs.size=some q:=let ⟨q,_,_,hq,_⟩:=dd';⟨q,hq⟩;exact Nn I2 (by rw [e];exact True.intro) hs he (L9 hz hd (rk.merge .nil) dd')
theorem EN {env:Env}:∀(l:List (Str×NameKind)) (cs:List (Str×Addr)),(∀x c,cs.lookup x=some c->env.cells.lookup x=some c)->(∀y∈l,y.2 = .free->∃c,env.cells.lookup y.1=some c)->
 ∃cl,(forIn l cs λ(x:Str×NameKind) r=>(match x with | (name,kind)=>if (kind == NameKind.free)=true then do let c <-cellOf env name;pure (ForInStep.yield ((name,c) :: r)) else pure (ForInStep.yield r):Sem (ForInStep (List (Str×Addr)))))=pure cl/\
  (∀x c,cl.lookup x=some c->env.cells.lookup x=some c)/\(∀x c,cs.lookup x=some c->∃c',cl.lookup x=some c')/\∀y∈l,y.2 = .free->∃c,cl.lookup y.1=some c
 | [],cs,h,_=>⟨cs,rfl,h,λ_ c e=>⟨c,e⟩,λ_ z=>nomatch z⟩
 | (n,k) :: l,cs,h,hf=>by
   by_cases hk:k = .free
   ·subst hk;obtain ⟨c,hc⟩:=hf (n,.free) uf3 rfl;have hc':env.cells.lookup n=some c:=hc;have e:cellOf env n=pure c:=by unfold cellOf;rw [hc']
    obtain ⟨cl,e1,e2,e3,e4⟩:=EN l ((n,c) :: cs) (λx c' q=>by
     rw [uh9] at q
     by_cases hx:(x == n)=true
     ·rw [hx] at q;cases q;rw [eq_of_beq hx];exact hc'
     ·rw [ug7.mpr hx] at q;exact h x c' q) (λy hy=>hf y (ud8 _ hy))
    have self:((n,c) :: cs).lookup n=some c:=by rw [uh9,ui7]
    refine ⟨cl,?_,e2,λx c' q=>?_,λy hy hyf=>?_⟩
    ·rw [List.forIn_cons];simp only [ui7,if_true,e];exact e1
    ·by_cases hx:(x == n)=true
     ·rw [eq_of_beq hx];exact e3 n c self
     ·exact e3 x c' (by rw [uh9,ug7.mpr hx];exact q)
    ·rcases ul3.mp hy with z | z
     ·subst z;exact e3 n c self
     ·exact e4 y z hyf
   ·have hb:(k == NameKind.free)=false:=by simpa using hk
    obtain ⟨cl,e1,e2,e3,e4⟩:=EN l cs h (λy hy=>hf y (ud8 _ hy));refine ⟨cl,?_,e2,e3,λy hy hyf=>?_⟩
    ·rw [List.forIn_cons];simp only [hb,uf8,if_false];exact e1
    ·rcases ul3.mp hy with z | z
     ·subst z;exact absurd hyf hk
     ·exact e4 y z hyf
theorem Om {scope:Scope}{env:Env}(h:∀y∈scope.names,y.2 = .free->∃c,env.cells.lookup y.1=some c) :
 ∃cl,closureFor scope env=pure cl/\(∀x c,cl.lookup x=some c->env.cells.lookup x=some c)/\∀y∈scope.names,y.2 = .free->∃c,cl.lookup y.1=some c:=by
 obtain ⟨cl,e1,e2,_,e4⟩:=EN (env:=env) scope.names [] (λ_ _ q=>nomatch q) h;refine ⟨cl,?_,e2,e4⟩;simp only [closureFor]
 first | (rw [e1];rfl) | (simp only [e1];rfl) | (trace_state;exact e1)
theorem LY {prog:Program}{A:Around}{R:Result->Shared->Prop}{s:Shared}{elt target iter:Expr}{ifs:List Expr}{scope:Scope}{pos:Pos}{it acc:Value}{env:Env}(I:Nat->Shared->Prop)
 (turn:∀n s,I n s->wpAny (model prog w) A (pyNext it) (λr s₁=>match r with
   | none=>R (.ok .next) s₁
   | some v=>wpAny (model prog w) A (letOwnedTupleGo target it v) (λ_ s₁'=>wpAny (model prog w) A (assign target env v) (λ_ s₂=>
      wpAny (model prog w) A (forIn ifs true λc r=>if r=true then do let ok <-isTrue c env (eval c env);pure (ForInStep.yield ok) else pure (ForInStep.yield r)) (λok s₃=>
       if ok=true then wpAny (model prog w) A (eval elt env) (λx s₄=>
        wpAny (model prog w) A (call (.builtin "list.append") [acc,x]) (λ_ s₅=>∃m,m < n/\I m s₅) (λ_ _=>False) s₄) (λ_ _=>False) s₃
       else ∃m,m < n/\I m s₃) (λ_ _=>False) s₂) (λ_ _=>False) s₁') (λ_ _=>False) s₁) (λ_ _=>False) s)
 (n:Nat) (h:I n s) :
 codeAny (model prog w) A (.compLoop (.ListComp elt [⟨target,iter,ifs,0⟩] scope pos) 0 it acc env) R s:=by
 refine codeAny_loop rfl I (λn s hI=>?_) n h;show wpAny _ A ((compTurn (.ListComp elt [⟨target,iter,ifs,0⟩] scope pos) 0 it acc env).onRaise (λx=>do noteFrame x env;theTreesLotGoes x)) _ _ s;refine wpAny_noted ?_;rw [compTurn_list];refine un6 (wpAny_standAt (un6 (un8 (turn n s hI) (λr s₁ h₁=>?_) λ_ _ h'=>h'.elim)))
 cases r with
 | none=>exact un7 h₁
 | some v=>
   refine un6 (un8 h₁ (λ_ s₁' h₁'=>?_) λ_ _ h'=>h'.elim);refine un6 (un8 h₁' (λ_ s₂ h₂=>un6 (un8 h₂ (λok s₃ h₃=>?_) λ_ _ h'=>h'.elim)) λ_ _ h'=>h'.elim)
   cases ok with
   | false=>exact un7 ⟨rfl,h₃⟩
   | true=>
     exact un6 (un6 (un8 h₃ (λx s₄ h₄=>un6 (un8 h₄ (λ_ s₅ h₅=>un7 (un7 ⟨rfl,h₅⟩)) λ_ _ h'=>h'.elim)) λ_ _ h'=>h'.elim))
end L2
set_option maxHeartbeats 2000000
namespace L2
open PySem PySem.Spec PyProof.Rows
noncomputable def Cv (X:Cx)(N':List Str)(scope:Scope)(cl:List (Str×Addr))(C:Addr)(s2:Shared)(H2:Hp)(fp:List Addr):Cx where
 prog:=X.prog
 w:=X.w
 K:=X.K
 mg:=X.mg
 base:=X.base
 A:=X.A
 N:=N'
 s₀:=s2
 H₀:=H2
 env:=compEnvC scope cl C X.env
 outer:=X.stack
 stack:=X.stack
 ex:=fp
 fn:=λ_=>false
 calm:=X.calm
 pn:=[]
 xe:=λ_ _=>False
theorem Iq (h:Str->NameKind->NameKind)(x:Str):∀l:List (Str×NameKind),(l.map λp=>(p.1,h p.1 p.2)).lookup x=(l.lookup x).map (h x)
 | []=>rfl
 | (n,k) :: l=>by
   show List.lookup x ((n,h n k) :: _)=_;rw [uh9,uh9]
   by_cases hx:(x == n)=true
   ·rw [hx,eq_of_beq hx];rfl
   ·rw [ug7.mpr hx];exact Iq h x l
theorem FR (scope:Scope)(env:Env)(x:Str):(relabel scope env).names.lookup x=(scope.names.lookup x).map λk=>if (k == .free && env.scope.kind == .function && env.kindOf x == some .cell)=true then .cell else k:=by
 rw [<-Iq (λn k=>if (k == NameKind.free && env.scope.kind == .function && env.kindOf n == some .cell)=true then .cell else k) x scope.names];unfold relabel;dsimp only
 congr 1
 apply ue9;intro p _;obtain ⟨n,k⟩:=p;dsimp only
 split <;> rfl
theorem Cp {x:Str}{k:NameKind}:∀{l:List (Str×NameKind)},l.lookup x=some k->(x,k)∈l
 | (n,k') :: l,h=>by
   rw [uh9] at h
   by_cases hx:(x == n)=true
   ·rw [hx] at h;cases h;rw [eq_of_beq hx];exact uf3
   ·rw [ug7.mpr hx] at h;exact ud8 _ (Cp h)
theorem ML {scope:Scope}{env:Env}{x:Str}(hcell:∀y∈scope.names,y.2≠.cell)(h:(relabel scope env).names.lookup x=some .cell\/(relabel scope env).names.lookup x=some .free):scope.names.lookup x=some .free:=by
 rw [FR] at h
 cases e:scope.names.lookup x with
 | none=>rw [e] at h;rcases h with h | h <;> cases h
 | some k=>
   by_cases hk:k = .free
   ·rw [hk]
   ·have hb:(k == NameKind.free)=false:=by simpa using hk
    rw [e] at h;simp only [uk0,hb,uk7,uf8,if_false] at h;rcases h with h | h
    ·cases h;exact absurd rfl (hcell _ (Cp e))
    ·cases h;exact absurd rfl hk
def PIf (X:Cx)(ifs:List Expr)(t:TT):Prop:=
 ∀(pins:List (Addr×Obj)) (s:Shared) (σ:St) (H:Hp) (Q:Bool->Hp->Prop),Inv X pins σ H s->t σ H Q->
  wpAny (model X.prog X.w) X.A (forIn ifs true λc r=>if r=true then do let ok <-isTrue c X.env (eval c X.env);pure (ForInStep.yield ok) else pure (ForInStep.yield r)) (TP X pins σ Q) X.xe s
def Z0:TT:=λ_ H Q=>Q true H
theorem VT {X:Cx}:PIf X [] Z0:=λ_ _ _ H _ I h=>wpAny_tests_nil ⟨H,I,h⟩
def Rm (J:It)(g:TG)(tt:TT)(te:TE)(σ₀:St)(H1:Hp)(Fin:List V->Hp->Prop):Prop:=
 ∃W:Nat->Nat->List V->St->Hp->Prop,(∃m,W 0 m [] σ₀ H1)/\∀i m acc σ' H',W i m acc σ' H'->acc.length<=sizeLine/\
  ((J.stop i H'/\Fin acc H')\/
    (J.go i H'/\∀x H2,J.yld i H' x H2->g x σ' H2 λσ3 H3=>tt σ3 H3 λb H4=>if b=true then te σ3 H4 λv H5=>∃m',m' < m/\W (i + 1) m' (acc++[v]) σ3 H5 else ∃m',m' < m/\W (i + 1) m' acc σ3 H4))
def Pb (wi:TI)(g:TG)(tt:TT)(te:TE)(σf:St->St):TE:=λσ H Q=>wi σ H λJ H1=>Rm J g tt te (σf σ) H1 λacc H'=>∀p,H' p=none->acc.length<=sizeLine->Q (.ref p) (upd H' p (.lst acc))
structure CmpOk (X:Cx)(scope:Scope)(N':List Str)(σf:St->St):Prop where
 kind:scope.kind = .function
 cell:∀y∈scope.names,y.2≠.cell
 loc:∀y∈scope.names,y.2 = .local->scope.names.lookup y.1=some .local
 free:∀y∈scope.names,y.2 = .free->X.env.kindOf y.1=some .cell\/X.env.kindOf y.1=some .free
 len:∀σ:St,σ.length=X.N.length->(σf σ).length=N'.length
 vals:∀(σ:St) (j:Nat) (x:Str) (v:V),N'[j]?=some x->(σf σ)[j]?=some (some v)->∃i:Nat,X.N[i]?=some x/\σ[i]?=some (some v)/\scope.names.lookup x=some .free
variable {pins:List (Addr×Obj)}{σ:St}{H2:Hp}{s2:Shared}
section
variable {X:Cx}{tg elt iter:Expr}{ifs:List Expr}{scope:Scope}{pos:Pos}{N':List Str}{wi:TI}{g:TG}{tt:TT}{te:TE}{σf:St->St}
theorem W6 {cl:List (Str×Addr)}{C:Addr}{fp:List Addr}(O:CmpOk X scope N' σf)(I2:Inv X pins σ H2 s2)(f2:∀b∈fp,FpOk X pins H2 b)(hC:s2.heap.objs.size<=C)
 (hlt:∀b∈fp,b < s2.heap.objs.size) (e2:∀x c,cl.lookup x=some c->X.env.cells.lookup x=some c) (e4:∀y∈scope.names,y.2 = .free->∃c,cl.lookup y.1=some c):(Cv X N' scope cl C s2 H2 fp).Ok where
 mod:=I2.ok.mod
 kind:=O.kind
 glob:=I2.ok.glob
 blt:=I2.ok.blt
 above:=hC
 inj:=λx y c h1 h2=>I2.ok.inj x y c (e2 x c h1) (e2 y c h2)
 has:=λx h=>by
  have q:=ML (env:=X.env) (x:=x) O.cell h;exact e4 _ (Cp q) rfl
 cab:=λx c h _=>nomatch h
 hd:=I2.ok.hd
 frames:=I2.ok.frames
 stk:=.inl rfl
 exf:=λb hb=>⟨um3 (uf2 (hlt b hb) hC),λx c e=>(f2 b hb).2.2.2.2.1 x c (e2 x c e)⟩
 bs:=I2.bs
 bsz:=um4 I2.ok.bsz I2.sz
 noex:=λb o e hb=>by
  rcases (f2 b hb).2.2.2.1 with z | z
  ·exact I2.ok.noex b o e z
  ·exact absurd (uf2 (um2 (I2.ok.bs b o e).1) z) (ul2 _)
 exfs:=λb hb z=>by
  rcases ul3.mp (I2.stkSub b z) with q | q
  ·exact (f2 b hb).2.1 q
  ·exact (f2 b hb).2.2.1 q
 funs:=I2.stack
 frf:=I2.stkFree
theorem YQ (I2:Inv X pins σ H2 s2){a:Addr}(h:s2.heap.objs.size<=a):a∉frs X.stack:=λhb=>by
 rcases ul3.mp (I2.stkSub a hb) with q | q
 ·exact absurd (uf2 I2.lt h) (by rw [q];exact ul2 _)
 ·exact I2.nofs h q
theorem R4 {cl:List (Str×Addr)}{fp:List Addr}{it:Addr}{tn:Nat->Heap->Prop}{J:It}{Fin:List V->Hp->Prop}{RR:Value->Addr->Result->Shared->Prop}{E:Value->Shared->Prop}(O:CmpOk X scope N' σf)(hc:X.calm=true)
 (I2:Inv X pins σ H2 s2) (T:Turn X.prog X.w X.K tg J fp it tn) (st2:tn 0 s2.heap) (f2:∀b∈fp,FpOk X pins H2 b)
 (e2:∀x c,cl.lookup x=some c->X.env.cells.lookup x=some c) (e4:∀y∈scope.names,y.2 = .free->∃c,cl.lookup y.1=some c)
 (hg:∀C,PG (Cv X N' scope cl C s2 H2 fp) tg g) (ht:∀C,PIf (Cv X N' scope cl C s2 H2 fp) ifs tt) (he:∀C,PE (Cv X N' scope cl C s2 H2 fp) elt te)
 (B:Rm J g tt te (σf σ) H2 Fin)
 (fin:∀C s' σ' H' acc m,s2.heap.objs.size<=C->C≠s2.heap.objs.size->Inv (Cv X N' scope cl C s2 H2 fp) [] σ' H' s'->H' s2.heap.objs.size=none->acc.length<=sizeLine->(∃its n,Vals acc its/\s'.heap.get? s2.heap.objs.size=some { cls:=.type "list",data:=.seq its.toArray n })->Fin acc H'->s'.heap.Ns C m->
   RR (.ref s2.heap.objs.size) C (.ok .next) s') :
 wpAny (model X.prog X.w) X.A (newList []) (λacc s₃=>wpAny (model X.prog X.w) X.A (newFunctionEnv scope X.env.globals cl [] X.env.qual none .none (some X.env)) (λcenv s₄=>
  codeAny (model X.prog X.w) X.A (.compStart (.ListComp elt [⟨tg,iter,ifs,0⟩] scope pos) 0 (.ref it) acc { cenv with scope:=relabel scope X.env }) (RR acc cenv.locals) s₄) E s₃) E s2:=by
 refine wpAny_newObj_type (wpAny_newFunctionEnv O.cell (by intro y hy;simp at hy) (λh₁ hns₁ hsb₁=>?_) O.kind);dsimp only at hns₁ hsb₁ ⊢;generalize hH2:s2.heap.push { cls:=.type "list",dict:=none,data:=.seq ([]:List Value).toArray }=HP at hns₁ hsb₁ ⊢;have hC:HP.objs.size=s2.heap.objs.size + 1:=by rw [<-hH2,Heap.size_push]
 generalize hDD:s2.heap.objs.size=DD at *;generalize hCC:HP.objs.size=CC at *;have hDC:DD≠CC:=by rw [hC];exact um3 (uh5 _)
 have hCle:s2.heap.objs.size<=CC:=by rw [hC,hDD];exact un4 _
 have hlt:∀b∈fp,b < s2.heap.objs.size:=λb hb=>by obtain ⟨o,e,_⟩:=T.obj _ _ st2 b hb;exact um2 e
 have hlt':∀b∈fp,b < DD:=λb hb=>by rw [<-hDD];exact hlt b hb
 have below:∀b,b < DD->b≠CC/\b≠DD:=λb hb=>⟨by rw [hC];exact um3 (Nat.lt_succ_of_lt hb),um3 hb⟩;have old:∀b o,s2.heap.get? b=some o->h₁.get? b=some o:=λb o e=>hsb₁.extBut b o (below b (by rw [<-hDD];exact um2 e)).1 (uc4 _ (hH2 ▸ uc4 _ e));have hacc:h₁.get? DD=some { cls:=.type "list",data:=.seq ([]:List Value).toArray }:=by
  refine hsb₁.extBut _ _ hDC (uc4 _ ?_);rw [<-hH2,<-hDD];exact ue6 _ rfl
 have ok:=W6 (cl:=cl) (C:=CC) O I2 f2 hCle hlt e2 e4;have hfs:DD∉frs X.stack:=YQ I2 (by rw [hDD];exact un2 _);obtain ⟨W,⟨m0,w0⟩,turn⟩:=B
 let X':Cx:=Cv X N' scope cl CC s2 H2 fp
 have I0:Inv X' [] (σf σ) H2 { s2 with heap:=h₁,toks:=s2.toks + ([]:List (Str×Value)).length }:=by
  refine ⟨ok,rfl,I2.bare,Un.kept old,⟨_,hns₁,λj x v q1 q2 q3=>?_⟩,λx c e=>?_,I2.hok.fresh hCle,λx c e=>I2.freeC x c (e2 x c e),(λp hp=>nomatch hp),I2.hok.kept old,O.len σ I2.len⟩
  ·obtain ⟨i,n1,n2,n3⟩:=O.vals σ j x v q1 q2;obtain ⟨m,_,hl⟩:=I2.loc;have hfr:=O.free _ (Cp n3) rfl;obtain ⟨u,r,l⟩:=hl i x v n1 n2 (.inr hfr);refine ⟨u,r,?_⟩;rcases l with ⟨k,_⟩ | ⟨_,c,ec,hcell⟩
   ·rcases hfr with z | z <;> (have z':=k.symm.trans z;cases z')
   ·obtain ⟨c',ec'⟩:=e4 _ (Cp n3) rfl;have z:=e2 _ _ ec';have ez:X.env.cells.lookup x=some c':=z;rw [ec] at ez
    cases ez
    refine .inr ⟨?_,c,ec',?_⟩
    ·show (relabel scope X.env).names.lookup x=some .cell\/(relabel scope X.env).names.lookup x=some .free;rw [FR,n3];simp only [uk0]
     split
     ·exact .inl rfl
     ·exact .inr rfl
    ·obtain ⟨o,ho,hd⟩:=hcell;exact ⟨o,old _ _ ho,hd⟩
  ·obtain ⟨v,o,ho,hd⟩:=I2.cell x c (e2 x c e);exact ⟨v,o,old _ _ ho,hd⟩
 have loop:∀s₃:Shared,s₃ = { s2 with heap:=h₁,toks:=s2.toks + ([]:List (Str×Value)).length }->
  codeAny (model X.prog X.w) X.A (.compLoop (.ListComp elt [⟨tg,iter,ifs,0⟩] scope pos) 0 (.ref it) (.ref DD) (compEnvC scope cl CC X.env)) (RR (.ref DD) CC) s₃:=by
  rintro s₃ rfl;refine LY (λn s'=>∃i acc its nn σ' H',Inv X' [] σ' H' s'/\tn i s'.heap/\(∀b∈fp,H' b=none)/\Vals acc its/\s'.heap.get? DD=some { cls:=.type "list",data:=.seq its.toArray nn }/\H' DD=none/\W i n acc σ' H') ?_ m0
   ⟨0,[],[],0,σf σ,H2,I0,T.keep _ _ _ st2 (λb _ o e=>old b o e),λb hb=>(f2 b hb).1,.nil,hacc,I2.hok.fresh (by rw [hDD];exact un2 _),w0⟩
  rintro n s' ⟨i,acc,its,nn,σ3,H3,I3,st3,fr3,hv,hD,hDn,w3⟩;have I3p:Inv X' [(DD,({ cls:=.type "list",data:=.seq its.toArray nn }:Obj))] σ3 H3 s':=I3.pins_of λp hp=>by
   have e:p=(DD,({ cls:=.type "list",data:=.seq its.toArray nn }:Obj)):=by simpa using hp
   subst e;exact ⟨hD,hDn,hDC,hfs,λv z=>nomatch z⟩
  have stat:∀{pins':List (Addr×Obj)} {H':Hp},(∀p∈pins',p.1=DD)->(∀b∈fp,H' b=none)->∀b∈fp,FpOk X' pins' H' b:=λ{pins' H'} hp hn b hb=>
   ⟨hn b hb,(ok.exf b hb).1,ok.exfs b hb,.inl hb,(ok.exf b hb).2,λp hp' z=>by
    have e:p.1=DD:=hp p (by simpa [X',Cv] using hp');exact absurd (hlt' b hb) (by rw [<-z,e];exact ul2 _)⟩
  have one:∀p∈[(DD,({ cls:=.type "list",data:=.seq its.toArray nn }:Obj))],p.1=DD:=λp hp=>by
   have e:p=(DD,({ cls:=.type "list",data:=.seq its.toArray nn }:Obj)):=by simpa using hp
   rw [e]
  obtain ⟨hz,tr⟩:=turn i n acc σ3 H3 w3;rcases tr with ⟨stop,qf⟩ | ⟨go,step⟩
  ·refine thn (T.done X' rfl rfl rfl hc i _ s' σ3 H3 (λ_ _=>False) I3p (stat one fr3) st3 stop) λr s4 z9=>?_;obtain ⟨hr,I4⟩:=z9;subst hr;obtain ⟨m4,hm4,_⟩:=I4.loc;have pD:=(I4.pin (DD,({ cls:=.type "list",data:=.seq its.toArray nn }:Obj)) (by simp [X',Cv])).1;have I4':Inv X' [] σ3 H3 s4:=I4.pins_of λp hp=>nomatch hp;exact fin CC s4 σ3 H3 acc m4 (by rw [hDD] at hCle;exact hCle) (Ne.symm hDC) I4' hDn hz ⟨its,nn,hv,pD⟩ qf hm4
  ·refine thn (T.item X' rfl rfl rfl hc i _ s' σ3 H3 (λ_ _=>False) I3p (stat one fr3) st3 go) λr s4 z9=>?_;obtain ⟨u,hr,h4⟩:=z9;subst hr;refine thn h4 λ_ s5 z9=>?_;obtain ⟨x,H5,I5,r5,y5,st5,fr5⟩:=z9;have I5':=I5.pinned (stat one fr5) (T.obj _ _ st5);refine thn (hg CC _ s5 σ3 H5 x u _ I5' r5 (step x H5 y5)) λ_ s6 z9=>?_;obtain ⟨σ6,H6,I6,q6⟩:=z9;refine thn (ht CC _ s6 σ6 H6 _ I6 q6) λb s7 z9=>?_;obtain ⟨H7,I7,q7⟩:=z9;have back:∀{H8:Hp} {s8:Shared},Inv X' ([(DD,({ cls:=.type "list",data:=.seq its.toArray nn }:Obj))]++Hq fp s5.heap) σ6 H8 s8->
    s8.heap.get? DD=some { cls:=.type "list",data:=.seq its.toArray nn }/\H8 DD=none/\tn (i + 1) s8.heap/\(∀b∈fp,H8 b=none)/\Inv X' [] σ6 H8 s8:=λ{H8 s8} I8=>by
    have p1:=I8.pin (DD,({ cls:=.type "list",data:=.seq its.toArray nn }:Obj)) (by simp [X',Cv]);refine ⟨p1.1,p1.2.1,T.keep _ _ _ st5 λb hb o e=>(I8.pin (b,o) (ud1 _ (ud1 _ (EC hb e)))).1,λb hb=>?_,I8.pins_of λp hp=>nomatch hp⟩;obtain ⟨o,e,_⟩:=T.obj _ _ st5 b hb;exact (I8.pin (b,o) (ud1 _ (ud1 _ (EC hb e)))).2.1
   cases b with
   | false=>
     rw [if_neg uf4] at q7 ⊢;obtain ⟨m',hm,w7⟩:=q7;obtain ⟨a1,a2,a3,a4,a5⟩:=back I7;exact ⟨m',hm,i + 1,acc,its,nn,σ6,H7,a5,a3,a4,hv,a1,a2,w7⟩
   | true=>
     rw [if_pos rfl] at q7 ⊢;refine thn (he CC _ s7 σ6 H7 _ I7 q7) λy s8 z9=>?_;obtain ⟨v8,H8,I8,r8,m',hm,w8⟩:=z9;obtain ⟨a1,a2,a3,a4,a5⟩:=back I8;have hsz:its.toArray.size<=sizeLine:=by
      have e:=hv.length;simpa [e] using hz
     refine wpAny_list_append_plain (hsz:=hsz) ⟨nn,a1⟩ λh9 hl9 hs9=>?_;obtain ⟨n9,e9⟩:=hl9;have e9':h9.get? DD=some { cls:=.type "list",data:=.seq (its++[y]).toArray n9 }:=by simpa using e9
     refine ⟨m',hm,i + 1,acc++[v8],its++[y],n9,σ6,H8,a5.turned (t':=s8.toks) (h':=h9) (it:=DD) (λb o hb e=>hs9.extBut b o hb e) a2 hDC (.inr (show s2.heap.objs.size<=DD by rw [hDD];exact un2 _)) (λx' c e z=>?_) (λp hp=>nomatch hp),T.keep _ _ _ a3 λb hb o e=>hs9.extBut b o (um3 (hlt' b hb)) e,a4,hv.append (.cons r8 .nil),e9',a2,w8⟩;obtain ⟨v,o,ho,hd⟩:=I2.cell x' c (e2 x' c e);have:=um2 ho;rw [hDD,z] at this;exact ul2 _ this
 exact codeAny_compStart_list (loop _ rfl) (T.self _ 0 _ _ _ (T.keep _ _ _ st2 λb _ o e=>old b o e) (loop _ rfl))
end
section
variable {X:Cx}{tg elt iter:Expr}{ifs:List Expr}{scope:Scope}{pos:Pos}{N':List Str}{wi:TI}{g:TG}{tt:TT}{te:TE}{σf:St->St}
theorem PC {σ':St}{H':Hp}{s':Shared}{cl:List (Str×Addr)}{fp:List Addr}{C:Addr}{acc:List V}{its:List Value}{n:Nat}{h':Heap}(I2:Inv X pins σ H2 s2)(f2:∀b∈fp,FpOk X pins H2 b)
 (hC:s2.heap.objs.size<=C) (hCD:C≠s2.heap.objs.size) (I':Inv (Cv X N' scope cl C s2 H2 fp) [] σ' H' s') (hDn:H' s2.heap.objs.size=none) (hz:acc.length<=sizeLine) (hv:Vals acc its)
 (hD:s'.heap.get? s2.heap.objs.size=some { cls:=.type "list",data:=.seq its.toArray n }) (hs:Heap.SameBut C s'.heap h') :
 Inv X pins σ (upd H' s2.heap.objs.size (.lst acc)) { s' with heap:=h' }:=by
 have U:=I'.base;have lt:∀b o,s2.heap.get? b=some o->b≠C/\b≠s2.heap.objs.size:=λb o e=>⟨um3 (uf2 (um2 e) hC),um3 (um2 e)⟩;have neD:∀b u,H' b=some u->b≠s2.heap.objs.size:=λb u e=>AE e hDn;have neC:∀b u,H' b=some u->b≠C:=λb u e=>AE e I'.free;refine I2.call' (s':={ s' with heap:=h' }) (ch:=fp) I'.os ⟨λb o e n hb hx=>?_,λb o e n hb hx=>?_,λb o e n hx=>?_,λb o e hx=>?_,λb xs e=>?_,λb o u e=>?_,λb ps e=>?_⟩ ?_ I'.bare λb hb=>⟨(f2 b hb).2.2.2.1,(f2 b hb).2.1,(f2 b hb).2.2.2.2.1,(f2 b hb).2.2.2.2.2⟩
 ·exact hs.extBut b o (lt b o e).1 (U.keep b o e n hb hx)
 ·obtain ⟨sl,q⟩:=U.slot b o e n hb hx;exact ⟨sl,hs.extBut b _ (lt b o e).1 q⟩
 ·rw [Ah (lt b o e).2];exact U.free b o e n hx
 ·obtain ⟨o',q⟩:=U.there b o e hx;exact ⟨o',hs.extBut b _ (lt b o e).1 q⟩
 ·have q:=U.tups b xs e;rw [Ah (neD b _ q)];exact q
 ·have q:=U.frzs b o u e;rw [Ah (neD b _ q)];exact q
 ·obtain ⟨m,q⟩:=U.tbls b ps e;exact ⟨m,by rw [Ah (neD b _ q)];exact q⟩
 ·intro b u e
  by_cases hb:b=s2.heap.objs.size
  ·subst hb;rw [Aj] at e
   cases e
   exact ⟨hz,its,n,hv,hs.extBut _ _ (Ne.symm hCD) hD⟩
  ·rw [Ah hb] at e;refine (I'.hok b u e).stay (λc v hc q=>hs.extBut c v ?_ q) (λc q=>by rw [Ah (neD c _ q)];exact q) λc xs q=>by rw [Ah (neD c _ q)];exact q
   rcases hc with z | z
   ·rw [z];exact neC b u e
   ·exact neC c _ z
theorem NK (O:CmpOk X scope N' σf)(hc:X.calm=true)(hi:PI X tg iter wi)
 (hg:∀cl C s2 H2 fp,PG (Cv X N' scope cl C s2 H2 fp) tg g) (ht:∀cl C s2 H2 fp,PIf (Cv X N' scope cl C s2 H2 fp) ifs tt) (he:∀cl C s2 H2 fp,PE (Cv X N' scope cl C s2 H2 fp) elt te)
 (hs:∀x,foldedSetIterable iter X.env x=pure x:=by intro _;rfl):PE X (.ListComp elt [⟨tg,iter,ifs,0⟩] scope pos) (Pb wi g tt te σf):=by
 intro pins s σ H Q I h;obtain ⟨cl,e1,e2,e4⟩:=Om (scope:=scope) (env:=X.env) λy hy hf=>I.ok.has y.1 (O.free y hy hf);rw [eval_ListComp];refine wpAny_comprehension_free (use:=none) rfl hs e1 O.kind O.loc (thn (hi pins s σ H _ I h) λv s1 h1=>thn h1 λitv s2 h2=>?_);obtain ⟨it,fp,tn,J,H2,rfl,I2,T,st2,f2,B⟩:=h2;refine R4 (RR:=λacc C=>compPost (model X.prog X.w) X.A X.xe none (EP X pins σ Q) acc C) O hc I2 T st2 f2 e2 e4 (λC=>hg cl C s2 H2 fp) (λC=>ht cl C s2 H2 fp) (λC=>he cl C s2 H2 fp) B ?_;intro C s' σ' H' acc m hC hCD I' hDn hz hL fin hn;obtain ⟨its,n,hv,hD⟩:=hL;refine ⟨m,hn,λh' hs'=>?_⟩;exact ⟨.ref s2.heap.objs.size,upd H' _ (.lst acc),PC I2 f2 hC hCD I' hDn hz hv hD hs',rfl,fin _ hDn hz⟩
end
end L2
set_option autoImplicit false
namespace F2
open PySem L2 PySem.Spec
inductive D where
 | non | bl (b:Bool) | int (i:Int) | str (x:Str) | tup (xs:List D) | lst (xs:List D) | scr (ns:List Int) | dic | obj (k:Nat) | ty (n:String) | exc (n:Str) (xs:List D)
structure Cf where
 ι:List Addr
 O:Addr->Prop
def Cf.A (c:Cf)(a:Addr):Prop:=a∈c.ι\/c.O a
def Scr (K:PySem.W.Frag)(c:Cf)(H:Hp)(a:Addr)(vs:List V):Prop:=
 ((∃o,H a=some (.frz o (.lst vs)))/\¬c.A a)\/
   ∃(o:Obj) (its:Array Value) (n:Nat),K.lookup a=some o/\o.cls = .type "list"/\o.dict=none/\o.data = .seq its n/\its.size<=sizeLine/\Vals vs its.toList
def XIs (qx:Bool)(x C:Addr)(dx:Option Addr)(h:Heap):Prop:=∃(o:Obj) (vs:Array Value),h.get? x=some o/\o.cls = .ref C/\o.dict=dx/\o.data = .fields vs/\(qx=true->vs[2]?=some .none/\4 < vs.size)
noncomputable def IB (n:Str):List Str:=if n = "NoTalk" then ["at"] else if n = "Broken" then ["at", "side"] else []
def XFld (c:Cf)(H:Hp)(dx:Option Addr)(ns:List Str)(vs:List V):Prop:=match dx with
 | none=>vs=[]
 | some d=>H d=some (.xd (ns.zip vs))/\¬c.A d
mutual
inductive Rep (K:PySem.W.Frag)(c:Cf)(H:Hp):V->D->Prop where
 | non:Rep K c H .non .non
 | bl (b:Bool):Rep K c H (.bl b) (.bl b)
 | int (i:Int):Rep K c H (.int i) (.int i)
 | str (x:Str):Rep K c H (.str x) (.str x)
 | ty (n:String):Rep K c H (.ty n) (.ty n)
 | tup {a:Addr} {vs:List V} {ds:List D}:H a=some (.tup vs)->¬c.A a->Reps K c H vs ds->Rep K c H (.ref a) (.tup ds)
 | lst {a:Addr} {vs:List V} {ds:List D}:H a=some (.lst vs)->¬c.A a->Reps K c H vs ds->Rep K c H (.ref a) (.lst ds)
 | scr {a:Addr} {ns:List Int}:Scr K c H a (ns.map V.int)->Rep K c H (.ref a) (.scr ns)
 | dic {a:Addr}:H a=some (.dK [])->¬c.A a->Rep K c H (.ref a) .dic
 | obj {a:Addr} {k:Nat}:c.ι[k]?=some a->Rep K c H (.ref a) (.obj k)
 | exc {qx:Bool} {x C:Addr} {dx:Option Addr} {n:Str} {vs:List V} {ds:List D}:PySem.W.nsIn K mainGlobals n=some (some (.ref C))->H x=some (.ext (XIs qx x C dx))->¬c.A x->XFld c H dx (IB n) vs->Reps K c H vs ds->Rep K c H (.ref x) (.exc n ds)
inductive Reps (K:PySem.W.Frag)(c:Cf)(H:Hp):List V->List D->Prop where
 | nil:Reps K c H [] []
 | cons {v:V} {d:D} {vs:List V} {ds:List D}:Rep K c H v d->Reps K c H vs ds->Reps K c H (v :: vs) (d :: ds)
end
structure Ext (c:Cf)(H:Hp)(c':Cf)(H':Hp):Prop where
 keep:∀b o,H b=some o->¬c.A b->H' b=some o
 av:∀b o,H b=some o->c'.A b->c.A b
 io:∀(k:Nat) (a:Addr),c.ι[k]?=some a->c'.ι[k]?=some a
variable {c:Cf}{H:Hp}
theorem Ext.refl:Ext c H c H:=⟨λ_ _ h _=>h,λ_ _ _ h=>h,λ_ _ h=>h⟩
theorem Ext.trans {c1 c2:Cf}{H1 H2:Hp}(a:Ext c H c1 H1)(b:Ext c1 H1 c2 H2):Ext c H c2 H2:=by
 refine ⟨λx o h n=>?_,λx o h n=>?_,λk x h=>b.io k x (a.io k x h)⟩
 ·exact b.keep x o (a.keep x o h n) λz=>n (a.av x o h z)
 ·by_cases q:c.A x
  ·exact q
  ·exact a.av x o h (b.av x o (a.keep x o h q) n)
variable {K:PySem.W.Frag}{a:Addr}{vs:List V}
theorem Scr.mono {c':Cf}{H':Hp}(e:Ext c H c' H')(h:Scr K c H a vs):Scr K c' H' a vs:=by
 rcases h with ⟨⟨o,h⟩,n⟩ | h
 ·exact .inl ⟨⟨o,e.keep _ _ h n⟩,λz=>n (e.av _ _ h z)⟩
 ·exact .inr h
theorem Scr.sq (h:Scr K c H a vs):SqL K H a vs:=by
 rcases h with ⟨h,_⟩ | h
 ·exact .inl (.inr h)
 ·exact .inr h
theorem XFld.mono {c':Cf}{H':Hp}{dx:Option Addr}{ns:List Str}(e:Ext c H c' H')(h:XFld c H dx ns vs):XFld c' H' dx ns vs:=by
 cases dx with
 | none=>exact h
 | some d=>exact ⟨e.keep _ _ h.1 h.2,λz=>h.2 (e.av _ _ h.1 z)⟩
mutual
theorem Rep.mono {K:PySem.W.Frag}{c c':Cf}{H H':Hp}(e:Ext c H c' H'){v:V}{d:D}(r:Rep K c H v d):Rep K c' H' v d:=by
 cases r with
 | non=>exact .non
 | bl b=>exact .bl b
 | int i=>exact .int i
 | str x=>exact .str x
 | ty n=>exact .ty n
 | tup h n r=>exact .tup (e.keep _ _ h n) (λz=>n (e.av _ _ h z)) (Reps.mono e r)
 | lst h n r=>exact .lst (e.keep _ _ h n) (λz=>n (e.av _ _ h z)) (Reps.mono e r)
 | scr h=>exact .scr (h.mono e)
 | dic h n=>exact .dic (e.keep _ _ h n) (λz=>n (e.av _ _ h z))
 | obj h=>exact .obj (e.io _ _ h)
 | exc g h n f r=>exact .exc g (e.keep _ _ h n) (λz=>n (e.av _ _ h z)) (f.mono e) (Reps.mono e r)
theorem Reps.mono {K:PySem.W.Frag}{c c':Cf}{H H':Hp}(e:Ext c H c' H'){vs:List V}{ds:List D}(r:Reps K c H vs ds):Reps K c' H' vs ds:=by
 cases r with
 | nil=>exact .nil
 | cons h t=>exact .cons (Rep.mono e h) (Reps.mono e t)
end
section
variable {K:PySem.W.Frag}{c:Cf}{H:Hp}
theorem Reps.length:∀{vs:List V} {ds:List D},Reps K c H vs ds->vs.length=ds.length
 | _,_,.nil=>rfl
 | _,_,.cons _ t=>by simp [Reps.length t]
theorem Reps.get:∀{vs:List V} {ds:List D} {i:Nat} {v:V} {d:D},Reps K c H vs ds->vs[i]?=some v->ds[i]?=some d->Rep K c H v d
 | _,_,_,_,_,.nil,e,_=>by simp at e
 | _,_,0,_,_,.cons r _,e,e'=>by simp at e e';subst e e';exact r
 | _,_,i + 1,_,_,.cons _ t,e,e'=>Reps.get (i:=i) t (by simpa using e) (by simpa using e')
theorem Reps.at:∀{vs:List V} {ds:List D} {i:Nat} {d:D},Reps K c H vs ds->ds[i]?=some d->∃v,vs[i]?=some v/\Rep K c H v d
 | _,_,_,_,.nil,e=>by simp at e
 | _,_,0,_,.cons r _,e=>by simp at e;subst e;exact ⟨_,rfl,r⟩
 | _,_,i + 1,_,.cons _ t,e=>by
   obtain ⟨v,h1,h2⟩:=Reps.at (i:=i) t (by simpa using e);exact ⟨v,by simpa using h1,h2⟩
theorem Reps.append {vs ws:List V}{ds es:List D}(r:Reps K c H vs ds)(s:Reps K c H ws es):Reps K c H (vs++ws) (ds++es):=by
 cases r with
 | nil=>exact s
 | cons r t=>exact .cons r (Reps.append t s)
theorem Reps.take:∀{vs:List V} {ds:List D} (n:Nat),Reps K c H vs ds->Reps K c H (vs.take n) (ds.take n)
 | _,_,0,_=>.nil
 | _,_,_ + 1,.nil=>.nil
 | _,_,n + 1,.cons r t=>.cons r (Reps.take n t)
theorem Reps.drop:∀{vs:List V} {ds:List D} (n:Nat),Reps K c H vs ds->Reps K c H (vs.drop n) (ds.drop n)
 | _,_,0,r=>r
 | _,_,_ + 1,.nil=>.nil
 | _,_,n + 1,.cons _ t=>Reps.drop n t
theorem Reps.set {v:V}{d:D}(r:Rep K c H v d):∀{vs:List V} {ds:List D} (i:Nat),Reps K c H vs ds->Reps K c H (vs.set i v) (ds.set i d)
 | _,_,_,.nil=>.nil
 | _,_,0,.cons _ t=>.cons r t
 | _,_,i + 1,.cons q t=>.cons q (Reps.set r i t)
theorem Reps.ints:∀ns:List Int,Reps K c H (ns.map V.int) (ns.map D.int)
 | []=>.nil
 | n :: r=>.cons (.int n) (Reps.ints r)
theorem Reps.rep {vs:List V}{ds:List D}(h:Reps K c H vs ds):∀k:Nat,Reps K c H (List.replicate k vs).flatten (List.replicate k ds).flatten
 | 0=>.nil
 | k + 1=>by
   rw [ue8,ue8,ug5,ug5];exact h.append (Reps.rep h k)
end
inductive Ob where
 | lst (xs:List D)
 | dct (kvs:List (Key×D))
 | ins (n:Str) (fs:List (Str×D))
inductive Sl where
 | val (d:D)
 | own (xs:List D)
structure T where
 env:List (Option Sl)
 S:List Ob
def KVR (K:PySem.W.Frag)(c:Cf)(H:Hp):List (Key×V)->List (Key×D)->Prop:=Paired λp q=>p.1=q.1/\Rep K c H p.2 q.2
def JY:List Str:=["Reader", "Side", "Lasting", "Parley", "Listener", "Relay", "Desk"]
def atN:List Str:=["grammar", "standing", "wires", "places", "side", "said", "taken", "handed", "left", "right", "under_way", "grammars", "standings", "heard", "left_grammar", "right_grammar", "rows", "pair", "broken", "parley"]
def FldR (K:PySem.W.Frag)(c:Cf)(H:Hp):List (Str×V)->List (Str×D)->Prop:=Paired λp q=>p.1=q.1/\Rep K c H p.2 q.2
def ObR (K:PySem.W.Frag)(c:Cf)(H:Hp)(a:Addr):Ob->Prop
 | .lst ds=>∃vs,H a=some (.lst vs)/\Reps K c H vs ds
 | .dct kvs=>∃us,H a=some (.dK us)/\KVR K c H us kvs
 | .ins n fs=>(n∈JY/\∀p∈fs,p.1∈atN)/\∃C dx us,PySem.W.nsIn K mainGlobals n=some (some (.ref C))/\H a=some (.ins C dx us)/\FldR K c H us fs
theorem ObR.mono {K:PySem.W.Frag}{c c':Cf}{H H':Hp}{a:Addr}{o:Ob}(e:Ext c H c' H')(h:ObR K c H a o)(ha:H' a=H a):ObR K c' H' a o:=by
 cases o with
 | lst ds=>obtain ⟨vs,h1,h2⟩:=h;exact ⟨vs,ha.trans h1,h2.mono e⟩
 | dct kvs=>obtain ⟨us,h1,h2⟩:=h;exact ⟨us,ha.trans h1,Paired.mapP h2 λ_ _ z=>⟨z.1,z.2.mono e⟩⟩
 | ins n fs=>obtain ⟨h0,C,dx,us,g,h1,h2⟩:=h;exact ⟨h0,C,dx,us,g,ha.trans h1,Paired.mapP h2 λ_ _ z=>⟨z.1,z.2.mono e⟩⟩
theorem ObR.some {o:Ob}(h:ObR K c H a o):∃u,H a=some u:=by
 cases o with
 | lst ds=>obtain ⟨vs,h1,_⟩:=h;exact ⟨_,h1⟩
 | dct kvs=>obtain ⟨us,h1,_⟩:=h;exact ⟨_,h1⟩
 | ins n fs=>obtain ⟨_,_,_,_,_,h1,_⟩:=h;exact ⟨_,h1⟩
structure SInv (K:PySem.W.Frag)(c:Cf)(S:List Ob)(H:Hp):Prop where
 len:c.ι.length=S.length
 nd:c.ι.Nodup
 obs:∀(k:Nat) (a:Addr) (o:Ob),c.ι[k]?=some a->S[k]?=some o->ObR K c H a o
 trk:∀b,c.O b->∃o,H b=some o
 dis:∀b,c.O b->b∉c.ι
variable {S:List Ob}
theorem SInv.trkA (s:SInv K c S H){b:Addr}(h:c.A b):∃o,H b=some o:=by
 rcases h with h | h
 ·obtain ⟨k,hk,e⟩:=List.mem_iff_getElem.mp h;have e1:c.ι[k]?=some b:=by rw [ub6 hk,e]
  have hk':k < S.length:=by rw [<-s.len];exact hk
  exact (s.obs k b _ e1 (ub6 hk')).some
 ·exact s.trk b h
theorem SInv.free (s:SInv K c S H){b:Addr}(h:H b=none):¬c.A b:=λz=>by
 obtain ⟨o,e⟩:=s.trkA z;rw [h] at e;cases e
structure FInv (K:PySem.W.Frag)(Oo:Addr->Prop)(c:Cf)(t:T)(σ:St)(H:Hp):Prop where
 s:SInv K c t.S H
 len:t.env.length=σ.length
 sub:∀b,Oo b->c.O b
 val:∀(i:Nat) (d:D),t.env[i]?=some (some (.val d))->∃v,σ[i]?=some (some v)/\Rep K c H v d
 own:∀(i:Nat) (ds:List D),t.env[i]?=some (some (.own ds))->∃a vs,σ[i]?=some (some (.ref a))/\c.O a/\¬Oo a/\H a=some (.lst vs)/\Reps K c H vs ds
 inj:∀(i j:Nat) (ds es:List D) (a:Addr),t.env[i]?=some (some (.own ds))->t.env[j]?=some (some (.own es))->σ[i]?=some (some (.ref a))->σ[j]?=some (some (.ref a))->i=j
structure Stp (Oo:Addr->Prop)(c:Cf)(H:Hp)(c':Cf)(H':Hp):Prop where
 ext:Ext c H c' H'
 oo:∀b,Oo b->H' b=H b
theorem Stp.refl {Oo:Addr->Prop}{c:Cf}{H:Hp}:Stp Oo c H c H:=⟨.refl,λ_ _=>rfl⟩
theorem Stp.trans {Oo:Addr->Prop}{c c1 c2:Cf}{H H1 H2:Hp}(a:Stp Oo c H c1 H1)(b:Stp Oo c1 H1 c2 H2):Stp Oo c H c2 H2:=
 ⟨a.ext.trans b.ext,λx h=>(b.oo x h).trans (a.oo x h)⟩
section
variable {K:PySem.W.Frag}{Oo:Addr->Prop}{c:Cf}{t:T}{σ:St}{H:Hp}
theorem Ext.laid (s:SInv K c S H){p:Addr}{o:HO}(h:H p=none):Ext c H c (upd H p o):=
 ⟨λb u e _=>by rw [Ah (AE e h)];exact e,λ_ _ _ z=>z,λ_ _ e=>e⟩
theorem SInv.laid {S:List Ob}(s:SInv K c S H){p:Addr}{o:HO}(h:H p=none):SInv K c S (upd H p o):=
 ⟨s.len,s.nd,λk a u e1 e2=>by
  have q:=s.obs k a u e1 e2;obtain ⟨w,hw⟩:=q.some;exact q.mono (Ext.laid s h) (Ah (AE hw h)),
  λb z=>by obtain ⟨u,e⟩:=s.trk b z;exact ⟨u,by rw [Ah (AE e h)];exact e⟩,s.dis⟩
theorem FInv.laid (f:FInv K Oo c t σ H){p:Addr}{o:HO}(h:H p=none):FInv K Oo c t σ (upd H p o):=by
 have e:=Ext.laid (o:=o) f.s h;refine ⟨f.s.laid h,f.len,f.sub,λi d q=>?_,λi ds q=>?_,f.inj⟩
 ·obtain ⟨v,h1,h2⟩:=f.val i d q;exact ⟨v,h1,h2.mono e⟩
 ·obtain ⟨a,vs,h1,h2,h3,h4,h5⟩:=f.own i ds q;exact ⟨a,vs,h1,h2,h3,by rw [Ah (AE h4 h)];exact h4,h5.mono e⟩
theorem FInv.stp_laid (f:FInv K Oo c t σ H){p:Addr}{o:HO}(h:H p=none):Stp Oo c H c (upd H p o):=
 ⟨Ext.laid f.s h,λb z=>by obtain ⟨u,e⟩:=f.s.trk b (f.sub b z);exact Ah (AE e h)⟩
theorem FInv.set (f:FInv K Oo c t σ H){i:Nat}{v:V}{d:D}(r:Rep K c H v d):FInv K Oo c { t with env:=t.env.set i (some (.val d)) } (σ.set i (some v)) H:=by
 have neq:∀{j:Nat} {x:Sl},(t.env.set i (some (.val d)))[j]?=some (some x)->(j=i/\x = .val d/\j < t.env.length)\/(j≠i/\t.env[j]?=some (some x)):=λ{j x} q=>by
  by_cases h:j=i
  ·subst h;rw [ug8] at q
   split at q
   ·split at q
    ·next h1=>injection q with q;injection q with q;exact .inl ⟨rfl,q.symm,h1⟩
    ·cases q
   ·next h1=>exact absurd rfl h1
  ·rw [ue0 (Ne.symm h)] at q;exact .inr ⟨h,q⟩
 refine ⟨f.s,by simp [f.len],f.sub,λj e q=>?_,λj ds q=>?_,λj k ds es a q1 q2 q3 q4=>?_⟩
 ·rcases neq q with ⟨rfl,z,hl⟩ | ⟨h,q⟩
  ·cases z
   exact ⟨v,by rw [uc3 (by rw [<-f.len];exact hl)],r⟩
  ·obtain ⟨u,h1,h2⟩:=f.val j e q;exact ⟨u,by rw [ue0 (Ne.symm h)];exact h1,h2⟩
 ·rcases neq q with ⟨rfl,z,_⟩ | ⟨h,q⟩
  ·cases z
  ·obtain ⟨a,vs,h1,h2⟩:=f.own j ds q;exact ⟨a,vs,by rw [ue0 (Ne.symm h)];exact h1,h2⟩
 ·rcases neq q1 with ⟨_,z,_⟩ | ⟨h,q1⟩
  ·cases z
  rcases neq q2 with ⟨_,z,_⟩ | ⟨h',q2⟩
  ·cases z
  rw [ue0 (Ne.symm h)] at q3;rw [ue0 (Ne.symm h')] at q4;exact f.inj j k ds es a q1 q2 q3 q4
theorem FInv.setOwn (f:FInv K Oo c t σ H){i:Nat}{p:Addr}{vs:List V}{ds:List D}(h:H p=none)(r:Reps K c H vs ds) :
 ∃c',FInv K Oo c' { t with env:=t.env.set i (some (.own ds)) } (σ.set i (some (.ref p))) (upd H p (.lst vs))/\Stp Oo c H c' (upd H p (.lst vs)):=by
 let c':Cf:=⟨c.ι,λb=>c.O b\/b=p⟩
 have nA:¬c.A p:=f.s.free h;have ext:Ext c H c' (upd H p (.lst vs)):=by
  refine ⟨λb u e _=>by rw [Ah (AE e h)];exact e,λb u e z=>?_,λ_ _ e=>e⟩;rcases z with z | z | z
  ·exact .inl z
  ·exact .inr z
  ·subst z;rw [h] at e;cases e
 have stp:Stp Oo c H c' (upd H p (.lst vs)):=⟨ext,λb z=>by obtain ⟨u,e⟩:=f.s.trk b (f.sub b z);exact Ah (AE e h)⟩;have sinv:SInv K c' t.S (upd H p (.lst vs)):=by
  refine ⟨f.s.len,f.s.nd,λk a u e1 e2=>?_,λb z=>?_,λb z hb=>?_⟩
  ·have q:=f.s.obs k a u e1 e2;obtain ⟨w,hw⟩:=q.some;exact q.mono ext (Ah (AE hw h))
  ·rcases z with z | z
   ·obtain ⟨u,e⟩:=f.s.trk b z;exact ⟨u,by rw [Ah (AE e h)];exact e⟩
   ·subst z;exact ⟨_,Aj⟩
  ·rcases z with z | z
   ·exact f.s.dis b z hb
   ·subst z;exact nA (.inl hb)
 have neq:∀{j:Nat} {x:Sl},(t.env.set i (some (.own ds)))[j]?=some (some x)->(j=i/\x = .own ds/\j < t.env.length)\/(j≠i/\t.env[j]?=some (some x)):=λ{j x} q=>by
  by_cases h:j=i
  ·subst h;rw [ug8] at q
   split at q
   ·split at q
    ·next h1=>injection q with q;injection q with q;exact .inl ⟨rfl,q.symm,h1⟩
    ·cases q
   ·next h1=>exact absurd rfl h1
  ·rw [ue0 (Ne.symm h)] at q;exact .inr ⟨h,q⟩
 have fresh:∀(j:Nat) (es:List D),t.env[j]?=some (some (.own es))->σ[j]?≠some (some (.ref p)):=λj es q z=>by
  obtain ⟨a,vs',h1,_,_,h4,_⟩:=f.own j es q;rw [h1] at z;injection z with z;injection z with z;injection z with z;subst z;rw [h] at h4;cases h4
 refine ⟨c',⟨sinv,by simp [f.len],λb z=>.inl (f.sub b z),λj e q=>?_,λj es q=>?_,λj k ds' es a q1 q2 q3 q4=>?_⟩,stp⟩
 ·rcases neq q with ⟨_,z,_⟩ | ⟨hn,q⟩
  ·cases z
  ·obtain ⟨u,h1,h2⟩:=f.val j e q;exact ⟨u,by rw [ue0 (Ne.symm hn)];exact h1,h2.mono ext⟩
 ·rcases neq q with ⟨rfl,z,hl⟩ | ⟨hn,q⟩
  ·cases z
   refine ⟨p,vs,by rw [uc3 (by rw [<-f.len];exact hl)],.inr rfl,λz=>?_,Aj,r.mono ext⟩;obtain ⟨u,e⟩:=f.s.trk p (f.sub p z);rw [h] at e;cases e
  ·obtain ⟨a,ws,h1,h2,h3,h4,h5⟩:=f.own j es q;exact ⟨a,ws,by rw [ue0 (Ne.symm hn)];exact h1,.inl h2,h3,by rw [Ah (AE h4 h)];exact h4,h5.mono ext⟩
 ·rcases neq q1 with ⟨z1,z2,l1⟩ | ⟨n1,r1⟩
  ·rcases neq q2 with ⟨y1,_,_⟩ | ⟨n2,r2⟩
   ·rw [z1,y1]
   ·subst z1;rw [uc3 (by rw [<-f.len];exact l1)] at q3;injection q3 with q3;injection q3 with q3;injection q3 with q3;subst q3
    rw [ue0 (Ne.symm n2)] at q4;exact absurd q4 (fresh k es r2)
  ·rcases neq q2 with ⟨y1,y2,l2⟩ | ⟨n2,r2⟩
   ·subst y1;rw [uc3 (by rw [<-f.len];exact l2)] at q4;injection q4 with q4;injection q4 with q4;injection q4 with q4;subst q4
    rw [ue0 (Ne.symm n1)] at q3;exact absurd q3 (fresh j ds' r1)
   ·rw [ue0 (Ne.symm n1)] at q3;rw [ue0 (Ne.symm n2)] at q4;exact f.inj j k ds' es a r1 r2 q3 q4
theorem FInv.frz (f:FInv K Oo c t σ H){i:Nat}{ds:List D}(q:t.env[i]?=some (some (.own ds))) :
 ∃c' v,FInv K Oo c' { t with env:=t.env.set i (some (.val (.lst ds))) } σ H/\Stp Oo c H c' H/\σ[i]?=some (some v)/\Rep K c' H v (.lst ds):=by
 obtain ⟨a,vs,h1,h2,h3,h4,h5⟩:=f.own i ds q
 let c':Cf:=⟨c.ι,λb=>c.O b/\b≠a⟩
 have ext:Ext c H c' H:=⟨λ_ _ e _=>e,λb u e z=>z.elim .inl λw=>.inr w.1,λ_ _ e=>e⟩;have sinv:SInv K c' t.S H:=⟨f.s.len,f.s.nd,λk b u e1 e2=>(f.s.obs k b u e1 e2).mono ext rfl,λb z=>f.s.trk b z.1,λb z=>f.s.dis b z.1⟩;have nA:¬c'.A a:=λz=>z.elim (λw=>f.s.dis a h2 w) λw=>w.2 rfl;have hσ:σ.set i (some (.ref a))=σ:=by
  apply List.ext_getElem?;intro j
  by_cases hj:j=i
  ·subst hj;rw [uc3 (by have:=(ub1.mp h1).1;exact this),h1]
  ·rw [ue0 (Ne.symm hj)]
 have r:Rep K c' H (.ref a) (.lst ds):=.lst h4 nA (h5.mono ext);have f0:FInv K Oo c' { t with env:=t.env.set i (some (.val (.lst ds))) } σ H:=by
  have neq:∀{j:Nat} {x:Sl},(t.env.set i (some (.val (.lst ds))))[j]?=some (some x)->(j=i/\x = .val (.lst ds))\/(j≠i/\t.env[j]?=some (some x)):=λ{j x} q=>by
   by_cases h:j=i
   ·subst h;rw [ug8] at q
    split at q
    ·split at q
     ·injection q with q;injection q with q;exact .inl ⟨rfl,q.symm⟩
     ·cases q
    ·next h1=>exact absurd rfl h1
   ·rw [ue0 (Ne.symm h)] at q;exact .inr ⟨h,q⟩
  refine ⟨sinv,by simp [f.len],λb z=>⟨f.sub b z,λw=>h3 (w ▸ z)⟩,λj e q'=>?_,λj es q'=>?_,λj k ds' es b q1 q2 q3 q4=>?_⟩
  ·rcases neq q' with ⟨rfl,z⟩ | ⟨hn,q'⟩
   ·cases z;exact ⟨_,h1,r⟩
   ·obtain ⟨u,w1,w2⟩:=f.val j e q';exact ⟨u,w1,w2.mono ext⟩
  ·rcases neq q' with ⟨_,z⟩ | ⟨hn,q'⟩
   ·cases z
   ·obtain ⟨b,ws,w1,w2,w3,w4,w5⟩:=f.own j es q';refine ⟨b,ws,w1,⟨w2,λz=>?_⟩,w3,w4,w5.mono ext⟩;subst z;exact hn (f.inj j i es ds b q' q w1 h1)
  ·rcases neq q1 with ⟨_,z⟩ | ⟨_,q1⟩
   ·cases z
   rcases neq q2 with ⟨_,z⟩ | ⟨_,q2⟩
   ·cases z
   exact f.inj j k ds' es b q1 q2 q3 q4
 exact ⟨c',_,f0,⟨ext,λ_ _=>rfl⟩,h1,r⟩
theorem FInv.wrOwn (f:FInv K Oo c t σ H){i:Nat}{ds ds':List D}{vs':List V}{a:Addr}(q:t.env[i]?=some (some (.own ds)))(h1:σ[i]?=some (some (.ref a)))(r:Reps K c H vs' ds') :
 FInv K Oo c { t with env:=t.env.set i (some (.own ds')) } σ (upd H a (.lst vs'))/\Stp Oo c H c (upd H a (.lst vs')):=by
 obtain ⟨a',vs,g1,h2,h3,h4,h5⟩:=f.own i ds q;rw [h1] at g1;injection g1 with g1;injection g1 with g1;injection g1 with g1;subst g1
 have ext:Ext c H c (upd H a (.lst vs')):=⟨λb u e n=>by rw [Ah (λ(z:b=a)=>n (.inr (by rw [z];exact h2)))];exact e,λ_ _ _ z=>z,λ_ _ e=>e⟩;have stp:Stp Oo c H c (upd H a (.lst vs')):=⟨ext,λb z=>Ah λw=>h3 (w ▸ z)⟩;have sinv:SInv K c t.S (upd H a (.lst vs')):=by
  refine ⟨f.s.len,f.s.nd,λk b u e1 e2=>(f.s.obs k b u e1 e2).mono ext (Ah λz=>f.s.dis a h2 (z ▸ ue1 e1)),λb z=>?_,f.s.dis⟩
  by_cases hb:b=a
  ·subst hb;exact ⟨_,Aj⟩
  ·obtain ⟨u,e⟩:=f.s.trk b z;exact ⟨u,by rw [Ah hb];exact e⟩
 have neq:∀{j:Nat} {x:Sl},(t.env.set i (some (.own ds')))[j]?=some (some x)->(j=i/\x = .own ds')\/(j≠i/\t.env[j]?=some (some x)):=λ{j x} q=>by
  by_cases h:j=i
  ·subst h;rw [ug8] at q
   split at q
   ·split at q
    ·injection q with q;injection q with q;exact .inl ⟨rfl,q.symm⟩
    ·cases q
   ·next h1=>exact absurd rfl h1
  ·rw [ue0 (Ne.symm h)] at q;exact .inr ⟨h,q⟩
 refine ⟨⟨sinv,by simp [f.len],f.sub,λj e q'=>?_,λj es q'=>?_,λj k es es' b q1 q2 q3 q4=>?_⟩,stp⟩
 ·rcases neq q' with ⟨_,z⟩ | ⟨_,q'⟩
  ·cases z
  ·obtain ⟨u,w1,w2⟩:=f.val j e q';exact ⟨u,w1,w2.mono ext⟩
 ·rcases neq q' with ⟨rfl,z⟩ | ⟨hn,q'⟩
  ·cases z;exact ⟨a,vs',h1,h2,h3,Aj,r.mono ext⟩
  ·obtain ⟨b,ws,w1,w2,w3,w4,w5⟩:=f.own j es q';have hb:b≠a:=λz=>by subst z;exact hn (f.inj j i es ds b q' q w1 h1)
   exact ⟨b,ws,w1,w2,w3,by rw [Ah hb];exact w4,w5.mono ext⟩
 ·have old:∀{j:Nat} {x:List D},(t.env.set i (some (.own ds')))[j]?=some (some (.own x))->∃y,t.env[j]?=some (some (.own y)):=λ{j x} q'=>by
   rcases neq q' with ⟨rfl,_⟩ | ⟨_,q'⟩
   ·exact ⟨ds,q⟩
   ·exact ⟨x,q'⟩
  obtain ⟨y1,z1⟩:=old q1;obtain ⟨y2,z2⟩:=old q2;exact f.inj j k y1 y2 b z1 z2 q3 q4
theorem FInv.wrObj (f:FInv K Oo c t σ H){k:Nat}{a:Addr}{o:Ob}{u:HO}(e:c.ι[k]?=some a)(r:∀c' H',Ext c H c' H'->H' a=some u->ObR K c' H' a o) :
 FInv K Oo c { t with S:=t.S.set k o } σ (upd H a u)/\Stp Oo c H c (upd H a u):=by
 have hA:a∈c.ι:=ue1 e;have ext:Ext c H c (upd H a u):=⟨λb w h n=>by rw [Ah (λ(z:b=a)=>n (.inl (by rw [z];exact hA)))];exact h,λ_ _ _ z=>z,λ_ _ e=>e⟩;have neO:∀b,c.O b->b≠a:=λb z w=>f.s.dis b z (w ▸ hA);have stp:Stp Oo c H c (upd H a u):=⟨ext,λb z=>Ah (neO b (f.sub b z))⟩;have sinv:SInv K c (t.S.set k o) (upd H a u):=by
  refine ⟨by simp [f.s.len],f.s.nd,λj b o' e1 e2=>?_,λb z=>?_,f.s.dis⟩
  ·by_cases hj:j=k
   ·subst hj;rw [e] at e1;cases e1
    have hl:j < t.S.length:=by rw [<-f.s.len];exact (ub1.mp e).1
    rw [uc3 hl] at e2;cases e2
    exact r c _ ext Aj
   ·rw [ue0 (Ne.symm hj)] at e2;refine (f.s.obs j b o' e1 e2).mono ext (Ah λz=>?_);subst z;obtain ⟨l1,g1⟩:=ub1.mp e1;obtain ⟨l2,g2⟩:=ub1.mp e;exact hj ((uh3 f.s.nd).mp (g1.trans g2.symm))
  ·obtain ⟨w,h⟩:=f.s.trk b z;exact ⟨w,by rw [Ah (neO b z)];exact h⟩
 refine ⟨⟨sinv,f.len,f.sub,λi d q=>?_,λi ds q=>?_,f.inj⟩,stp⟩
 ·obtain ⟨v,h1,h2⟩:=f.val i d q;exact ⟨v,h1,h2.mono ext⟩
 ·obtain ⟨b,vs,h1,h2,h3,h4,h5⟩:=f.own i ds q;exact ⟨b,vs,h1,h2,h3,by rw [Ah (neO b h2)];exact h4,h5.mono ext⟩
theorem FInv.newObj (f:FInv K Oo c t σ H){p:Addr}{o:Ob}{u:HO}(h:H p=none)(r:∀c' H',Ext c H c' H'->H' p=some u->ObR K c' H' p o) :
 ∃c',FInv K Oo c' { t with S:=t.S++[o] } σ (upd H p u)/\Stp Oo c H c' (upd H p u)/\c'.ι[t.S.length]?=some p:=by
 let c':Cf:=⟨c.ι++[p],c.O⟩
 have nA:¬c.A p:=f.s.free h;have ext:Ext c H c' (upd H p u):=by
  refine ⟨λb w e _=>by rw [Ah (AE e h)];exact e,λb w e z=>?_,λk a e=>?_⟩
  ·rcases z with z | z
   ·rcases ui8.mp z with z | z
    ·exact .inl z
    ·rw [uf9] at z;subst z;rw [h] at e;cases e
   ·exact .inr z
  ·show (c.ι++[p])[k]?=some a;rw [ub2 (ub1.mp e).1];exact e
 have stp:Stp Oo c H c' (upd H p u):=⟨ext,λb z=>by obtain ⟨w,e⟩:=f.s.trk b (f.sub b z);exact Ah (AE e h)⟩;have at_:(c.ι++[p])[t.S.length]?=some p:=by rw [<-f.s.len,ua7 (un2 _)];simp
 have sinv:SInv K c' (t.S++[o]) (upd H p u):=by
  refine ⟨by simp [c',f.s.len],?_,λj b o' e1 e2=>?_,λb z=>?_,λb z hb=>?_⟩
  ·show (c.ι++[p]).Nodup;exact List.nodup_append.mpr ⟨f.s.nd,by simp,λx hx y hy z=>by rw [uf9] at hy;subst z;subst hy;exact nA (.inl hx)⟩
  ·have hlt:j < (t.S++[o]).length:=(ub1.mp e2).1
   by_cases hj:j < t.S.length
   ·have e1':c.ι[j]?=some b:=by
     have q:(c.ι++[p])[j]?=some b:=e1;rw [ub2 (by rw [f.s.len];exact hj)] at q;exact q
    rw [ub2 hj] at e2;have q:=f.s.obs j b o' e1' e2;obtain ⟨w,hw⟩:=q.some;exact q.mono ext (Ah (AE hw h))
   ·have hj':j=t.S.length:=by simp at hlt;lia
    subst hj';rw [at_] at e1;cases e1
    rw [ua7 (un2 _)] at e2;simp at e2;subst e2;exact r c' _ ext Aj
  ·obtain ⟨w,e⟩:=f.s.trk b z;exact ⟨w,by rw [Ah (AE e h)];exact e⟩
  ·rcases ui8.mp hb with w | w
   ·exact f.s.dis b z w
   ·rw [uf9] at w;subst w;exact nA (.inr z)
 refine ⟨c',⟨sinv,f.len,f.sub,λi d q=>?_,λi ds q=>?_,f.inj⟩,stp,at_⟩
 ·obtain ⟨v,h1,h2⟩:=f.val i d q;exact ⟨v,h1,h2.mono ext⟩
 ·obtain ⟨b,vs,h1,h2,h3,h4,h5⟩:=f.own i ds q;exact ⟨b,vs,h1,h2,h3,by rw [Ah (AE h4 h)];exact h4,h5.mono ext⟩
theorem FInv.after (f:FInv K Oo c t σ H){c':Cf}{S':List Ob}{H':Hp}(s:SInv K c' S' H')(st:Stp c.O c H c' H')(ho:∀b,c'.O b↔c.O b):FInv K Oo c' { t with S:=S' } σ H'/\Stp Oo c H c' H':=by
 refine ⟨⟨s,f.len,λb z=>(ho b).mpr (f.sub b z),λi d q=>?_,λi ds q=>?_,f.inj⟩,st.ext,λb z=>st.oo b (f.sub b z)⟩
 ·obtain ⟨v,h1,h2⟩:=f.val i d q;exact ⟨v,h1,h2.mono st.ext⟩
 ·obtain ⟨b,vs,h1,h2,h3,h4,h5⟩:=f.own i ds q;exact ⟨b,vs,h1,(ho b).mpr h2,h3,(st.oo b h2).trans h4,h5.mono st.ext⟩
end
abbrev M (α:Type):=T->Option (α×T)
inductive Out where
 | next | brk | cont | ret (d:D)
noncomputable def ret {α:Type}(a:α):M α:=λt=>some (a,t)
noncomputable def fail {α:Type}:M α:=λ_=>none
noncomputable def bnd {α β:Type}(f:M α)(g:α->M β):M β:=λt=>match f t with
 | some (a,t1)=>g a t1
 | none=>none
variable {t:T}
theorem Ae {α β:Type}{f:M α}{g:α->M β}{z:β×T}(h:bnd f g t=some z):∃a t1,f t=some (a,t1)/\g a t1=some z:=by
 unfold bnd at h
 cases e:f t with
 | none=>rw [e] at h;cases h
 | some p=>obtain ⟨a,t1⟩:=p;rw [e] at h;exact ⟨a,t1,rfl,h⟩
noncomputable def LIM:Nat:=100000
theorem Bf:LIM<=sizeLine:=by unfold LIM;decide
theorem WT:LIM < sizeLine:=by unfold LIM;decide
section
variable (K:PySem.W.Frag)
inductive RE (f:M D)(σ:L2.St)(H:Hp)(Q:VK):Prop where
 | mk (Oo:Addr->Prop) (c:Cf) (t:T) (fi:FInv K Oo c t σ H) (r:D) (t':T) (e:f t=some (r,t')) (k:∀v H' c',FInv K Oo c' t' σ H'->Stp Oo c H c' H'->Rep K c' H' v r->Q v H'):RE f σ H Q
inductive RT (f:M Bool)(σ:L2.St)(H:Hp)(Q:Bool->Hp->Prop):Prop where
 | mk (Oo:Addr->Prop) (c:Cf) (t:T) (fi:FInv K Oo c t σ H) (r:Bool) (t':T) (e:f t=some (r,t')) (k:∀H' c',FInv K Oo c' t' σ H'->Stp Oo c H c' H'->Q r H'):RT f σ H Q
inductive RA (f:M (List D))(σ:L2.St)(H:Hp)(Q:List V->Hp->Prop):Prop where
 | mk (Oo:Addr->Prop) (c:Cf) (t:T) (fi:FInv K Oo c t σ H) (r:List D) (t':T) (e:f t=some (r,t')) (k:∀vs H' c',FInv K Oo c' t' σ H'->Stp Oo c H c' H'->Reps K c' H' vs r->Q vs H'):RA f σ H Q
inductive RF (f:M (List D))(σ:L2.St)(H:Hp)(Q:VK):Prop where
 | mk (Oo:Addr->Prop) (c:Cf) (t:T) (fi:FInv K Oo c t σ H) (ds:List D) (t':T) (e:f t=some (ds,t')) (k:∀p vs H' c',FInv K Oo c' t' σ H'->Stp Oo c H c' H'->Reps K c' H' vs ds->H' p=none->Q (.ref p) (upd H' p (.lst vs))):RF f σ H Q
inductive RSg (μ:Cf->Hp->D->(V->Hp->Prop)->Prop)(f:M Out)(E:Ends)(σ:L2.St)(H:Hp):Prop where
 | mk (Oo:Addr->Prop) (c:Cf) (t:T) (fi:FInv K Oo c t σ H) (o:Out) (t':T) (e:f t=some (o,t')) (k:∀σ' H' c',FInv K Oo c' t' σ' H'->Stp Oo c H c' H'->
 match (generalizing:=false) o with
 | .next=>E.nx σ' H'
 | .brk=>E.bk σ' H'
 | .cont=>E.ct σ' H'
 | .ret r=>μ c' H' r E.rt):RSg μ f E σ H
def μR:Cf->Hp->D->(V->Hp->Prop)->Prop:=λc H r rt=>∀v,Rep K c H v r->rt v H
def μF:Cf->Hp->D->(V->Hp->Prop)->Prop:=λc H r rt=>match r with
 | .lst ds=>∀p us,H p=none->Reps K c H us ds->rt (.ref p) (upd H p (.lst us))
 | _=>False
abbrev RS (f:M Out):TS:=RSg K (μR K) f
inductive RG (f:D->M Unit)(v:V)(σ:L2.St)(H:Hp)(Q:L2.St->Hp->Prop):Prop where
 | mk (Oo:Addr->Prop) (c:Cf) (t:T) (d:D) (fi:FInv K Oo c t σ H) (r:Rep K c H v d) (t':T) (e:f d t=some ((),t')) (k:∀σ' H' c',FInv K Oo c' t' σ' H'->Stp Oo c H c' H'->Q σ' H'):RG f v σ H Q
structure ItOk (J:It)(c:Cf)(H:Hp)(ds:List D):Prop where
 go:∀c' H' (i:Nat),Ext c H c' H'->i < ds.length->J.go i H'
 yld:∀c' H' (i:Nat) x H'' d,Ext c H c' H'->ds[i]?=some d->J.yld i H' x H''->H''=H'/\Rep K c' H' x d
 stop:∀c' H',Ext c H c' H'->J.stop ds.length H'
inductive RI (f:M (List D))(σ:L2.St)(H:Hp)(R:It->Hp->Prop):Prop where
 | mk (Oo:Addr->Prop) (c:Cf) (t:T) (fi:FInv K Oo c t σ H) (ds:List D) (t':T) (e:f t=some (ds,t')) (k:∀J H' c',FInv K Oo c' t' σ H'->Stp Oo c H c' H'->ItOk K J c' H' ds->R J H'):RI f σ H R
def AZ (R:R2)(h:D->D->M D):Prop:=∀{Oo:Addr->Prop} {c:Cf} {t:T} {σ:L2.St} {H:Hp} {x y:V} {dx dy r:D} {t':T} {Q:VK},FInv K Oo c t σ H->Rep K c H x dx->Rep K c H y dy->h dx dy t=some (r,t')->
 (∀v H' c',FInv K Oo c' t' σ H'->Stp Oo c H c' H'->Rep K c' H' v r->Q v H')->R x y H Q
def EK (R:List V->Hp->VK->Prop)(h:List D->M D):Prop:=∀{Oo:Addr->Prop} {c:Cf} {t:T} {σ:L2.St} {H:Hp} {xs:List V} {ds:List D} {r:D} {t':T} {Q:VK},FInv K Oo c t σ H->Reps K c H xs ds->h ds t=some (r,t')->
 (∀v H' c',FInv K Oo c' t' σ H'->Stp Oo c H c' H'->Rep K c' H' v r->Q v H')->R xs H Q
def Ja (R:R2)(h:D->D->M (List D)):Prop:=∀{Oo:Addr->Prop} {c:Cf} {t:T} {σ:L2.St} {H:Hp} {x y:V} {dx dy:D} {r:List D} {t':T} {Q:VK},FInv K Oo c t σ H->Rep K c H x dx->Rep K c H y dy->h dx dy t=some (r,t')->
 (∀p vs H' c',FInv K Oo c' t' σ H'->Stp Oo c H c' H'->Reps K c' H' vs r->H' p=none->Q (.ref p) (upd H' p (.lst vs)))->R x y H Q
def K6 (R:List V->Hp->VK->Prop)(h:List D->M (List D)):Prop:=∀{Oo:Addr->Prop} {c:Cf} {t:T} {σ:L2.St} {H:Hp} {xs:List V} {ds r:List D} {t':T} {Q:VK},FInv K Oo c t σ H->Reps K c H xs ds->h ds t=some (r,t')->
 (∀p vs H' c',FInv K Oo c' t' σ H'->Stp Oo c H c' H'->Reps K c' H' vs r->H' p=none->Q (.ref p) (upd H' p (.lst vs)))->R xs H Q
end
variable {tg:Expr}{j i:Nat}{x:Str}{f g:M D}{h:D->D->M D}{R:R2}{op:CmpOp}{σ:L2.St}
section
variable {X:Cx}{e a b:Expr}{pos:Pos}
theorem AA {t t':TE}(h:PE X e t)(i:∀σ H Q,t' σ H Q->t σ H Q):PE X e t':=λpins s σ H Q I q=>h pins s σ H Q I (i σ H Q q)
theorem Lw {t t':TT}(h:PT X e t)(i:∀σ H Q,t' σ H Q->t σ H Q):PT X e t':=λpins s σ H Q I q=>h pins s σ H Q I (i σ H Q q)
theorem Pt {t t':TT}(h:PW X e t)(i:∀σ H Q,t' σ H Q->t σ H Q):PW X e t':=λw pins s σ H Q I q=>h w pins s σ H Q I (i σ H Q q)
theorem Pq {es:List Expr}{t t':TA}(h:PA X es t)(i:∀σ H Q,t' σ H Q->t σ H Q):PA X es t':=λpos pins s σ H Q I q=>h pos pins s σ H Q I (i σ H Q q)
theorem A8 {st:Stmt}{t t':TS}(h:PS X st t)(i:∀E σ H,t' E σ H->t E σ H):PS X st t':=λpins s σ H E I q=>h pins s σ H E I (i E σ H q)
theorem Nh {st:List Stmt}{t t':TS}(h:PSs X st t)(i:∀E σ H,t' E σ H->t E σ H):PSs X st t':=λpins s σ H E I q=>h pins s σ H E I (i E σ H q)
theorem GH {t t':TG}(h:PG X e t)(i:∀v σ H Q,t' v σ H Q->t v σ H Q):PG X e t':=λpins s σ H v u Q I r q=>h pins s σ H v u Q I r (i v σ H Q q)
theorem I9 {t t':TI}(h:PI X tg e t)(i:∀σ H R,t' σ H R->t σ H R):PI X tg e t':=λpins s σ H R I q=>h pins s σ H R I (i σ H R q)
def fC (d:D):M D:=ret d
theorem Iz {v:V}{d:D}(h:PE X e (tC v))(r:∀c H,Rep X.K c H v d):PE X e (RE X.K (fC d)):=
 AA h λσ H Q z9=>by
  obtain ⟨Oo,c,t,f,r',t',eq,k⟩:=z9
  cases eq
  exact k v H c f .refl (r c H)
theorem Xh {i:Int}:PE X (.Constant (.int i) j pos) (RE X.K (fC (.int i))):=Iz X9 λ_ _=>.int i
theorem Zp {i:Bool}:PE X (.Constant (.bool i) j pos) (RE X.K (fC (.bl i))):=Iz ZG λ_ _=>.bl i
theorem Xm {i:Str}:PE X (.Constant (.str i) j pos) (RE X.K (fC (.str i))):=Iz QM λ_ _=>.str i
theorem Xi:PE X (.Constant .none j pos) (RE X.K (fC .non)):=Iz Yb λ_ _=>.non
theorem J0 {i:Int}{tk:Tok}(hg:Gl X x)(hm:X.mg x=some (.int i tk))(hd:(x == ("__debug__" : Str))=false:=by decide):PE X (.Name x pos) (RE X.K (fC (.int i))):=
 Iz (NL hg hm (v:=.int i) ⟨tk,rfl⟩ hd) λ_ _=>.int i
theorem Sj {y:Str}{tk:Tok}(hg:Gl X x)(hm:X.mg x=some (.str y tk))(hd:(x == ("__debug__" : Str))=false:=by decide):PE X (.Name x pos) (RE X.K (fC (.str y))):=
 Iz (NL hg hm (v:=.str y) ⟨tk,rfl⟩ hd) λ_ _=>.str y
theorem Jn {n:String}(hg:Gl X x)(hm:X.mg x=none)(hv:bootBuiltins x=some (.type n))(hn:x≠"__name__":=by decide)(hd:(x == ("__debug__" : Str))=false:=by decide):PE X (.Name x pos) (RE X.K (fC (.ty n))):=
 Iz (VM hg hm hv (v:=.ty n) rfl hn hd) λ_ _=>.ty n
noncomputable def Ab (i:Nat):M D:=λt=>match t.env[i]? with
 | some (some (.val d))=>some (d,t)
 | some (some (.own ds))=>some (.lst ds,{ t with env:=t.env.set i (some (.val (.lst ds))) })
 | _=>none
theorem Ot {t':T}{r:D}(h:Ab i t=some (r,t')):(t.env[i]?=some (some (.val r))/\t'=t)\/∃ds,t.env[i]?=some (some (.own ds))/\r = .lst ds/\t' = { t with env:=t.env.set i (some (.val (.lst ds))) }:=by
 unfold Ab at h
 cases e:t.env[i]? with
 | none=>rw [e] at h;cases h
 | some o=>
   cases o with
   | none=>rw [e] at h;cases h
   | some sl=>
     cases sl with
     | val d=>rw [e] at h;cases h;exact .inl ⟨rfl,rfl⟩
     | own ds=>rw [e] at h;cases h;exact .inr ⟨ds,rfl,rfl,rfl⟩
theorem Xo (i:Nat){x:Str}(hN:X.N[i]?=some x:=by rfl)(hv:Vis X.env.scope x:=by walk_at "h")(hd:(x == ("__debug__" : Str))=false:=by decide)
 (hcd:(x == ("__classdict__" : Str))=false:=by decide):PE X (.Name x pos) (RE X.K (Ab i)):=
 AA (Cq hN hv hd hcd) λσ H Q z9=>by
  obtain ⟨Oo,c,t,f,r,t',eq,k⟩:=z9;rcases Ot eq with ⟨q,rfl⟩ | ⟨ds,q,rfl,rfl⟩
  ·obtain ⟨v,h1,h2⟩:=f.val i r q;exact ⟨v,h1,k v H c f .refl h2⟩
  ·obtain ⟨c',v,f',st,h1,h2⟩:=f.frz q;exact ⟨v,h1,k v H c' f' st h2⟩
def Ac (f g:M D)(h:D->D->M D):M D:=bnd f λx=>bnd g λy=>h x y
theorem RE.two (s:AZ K R h){σ:L2.St}{H:Hp}{Q:VK}(q:RE K (Ac f g h) σ H Q):tOp R (RE K f) (RE K g) σ H Q:=by
 obtain ⟨Oo,c,t,fi,r,t',eq,k⟩:=q;obtain ⟨dx,t1,e1,eq⟩:=Ae eq;obtain ⟨dy,t2,e2,eq⟩:=Ae eq;exact ⟨Oo,c,t,fi,dx,t1,e1,λx H1 c1 f1 s1 rx=>⟨Oo,c1,t1,f1,dy,t2,e2,λy H2 c2 f2 s2 ry=>s f2 (rx.mono s2.ext) ry eq λv H' c' f' s' rv=>k v H' c' f' ((s1.trans s2).trans s') rv⟩⟩
theorem EA {op:Operator}(ho:OpR X (binaryOp op) R)(s:AZ X.K R h)(ha:PE X a (RE X.K f))(hb:PE X b (RE X.K g)):PE X (.BinOp a op b pos) (RE X.K (Ac f g h)):=
 AA (OP ho ha hb) λ_ _ _ q=>RE.two s q
theorem FN (ho:OpR X (compareOp op) R)(s:AZ X.K R h)(ha:PE X a (RE X.K f))(hb:PE X b (RE X.K g))(hm:behindInMarks op b=false):PE X (.Compare a [op] [b] pos) (RE X.K (Ac f g h)):=
 AA (VN ho ha hb hm) λ_ _ _ q=>RE.two s q
theorem Uk (hr:IxR X R)(s:AZ X.K R h)(ha:PE X a (RE X.K f))(hb:PE X b (RE X.K g))(hs:JM b):PE X (.Subscript a b pos) (RE X.K (Ac f g h)):=
 AA (Up hr ha hb hs) λ_ _ _ q=>RE.two s q
def fUn (f:M D)(h:D->M D):M D:=bnd f h
def toB:D->M Bool
 | .bl b=>ret b
 | _=>fail
def Ap (f:M D):M Bool:=bnd f toB
theorem IU {d:D}{z:Bool×T}(h:toB d t=some z):∃b,d = .bl b/\z=(b,t):=by
 cases d with
 | bl b=>cases h;exact ⟨b,rfl,rfl⟩
 | _=>cases h
theorem RT.val {Q:Bool->Hp->Prop}(q:RT K (Ap f) σ H Q):RE K f σ H λx H1=>∃k,x = .bl k/\Q k H1:=by
 obtain ⟨Oo,c,t,fi,r,t',eq,k⟩:=q;obtain ⟨d,t1,e1,eq⟩:=Ae eq;obtain ⟨b,rfl,z⟩:=IU eq
 cases z
 refine ⟨Oo,c,t,fi,_,t',e1,λv H1 c1 f1 s1 rv=>?_⟩
 cases rv
 exact ⟨r,rfl,k H1 c1 f1 s1⟩
theorem XA (h:PE X e (RE X.K f))(he:∀whole,isTrue e X.env whole=(do let v <-whole;standAt e.pos;holding [v] (truthy v)):=by intro _;rfl):PT X e (RT X.K (Ap f)):=
 Lw (Yn h he) λ_ _ _ q=>RT.val q
theorem DU (ho:OpR X (compareOp op) R)(s:AZ X.K R h)(ha:PE X a (RE X.K f))(hb:PE X b (RE X.K g))(hm:behindInMarks op b=false):PT X (.Compare a [op] [b] pos) (RT X.K (Ap (Ac f g h))):=
 Lw (V2 ho ha hb hm) λσ H Q q=>RE.two s (RT.val q)
def El (f g w:M D)(h h':D->D->M D):M D:=bnd f λx=>bnd g λy=>bnd (Ap (h x y)) λk=>if k=true then bnd w λz=>h' y z else ret (.bl false)
theorem RE.chain {w:M D}{h':D->D->M D}{R':R2}(s:AZ K R h)(s':AZ K R' h'){σ:L2.St}{H:Hp}{Q:VK}(q:RE K (El f g w h h') σ H Q):Ro R R' (RE K f) (RE K g) (RE K w) σ H Q:=by
 obtain ⟨Oo,c,t,fi,r,t',eq,k⟩:=q;obtain ⟨dx,t1,e1,eq⟩:=Ae eq;obtain ⟨dy,t2,e2,eq⟩:=Ae eq;obtain ⟨kb,t3,e3,eq⟩:=Ae eq;obtain ⟨d3,t3',e3',e3⟩:=Ae e3;obtain ⟨b3,rfl,z⟩:=IU e3
 cases z
 refine ⟨Oo,c,t,fi,dx,t1,e1,λx H1 c1 f1 s1 rx=>⟨Oo,c1,t1,f1,dy,t2,e2,λy H2 c2 f2 s2 ry=>s f2 (rx.mono s2.ext) ry e3' λv H3 c3 f3 s3 rv=>?_⟩⟩
 cases rv
 refine ⟨kb,rfl,?_⟩
 cases kb with
 | false=>
   rw [if_neg uf4] at eq ⊢
   cases eq
   exact k _ H3 c3 f3 ((s1.trans s2).trans s3) (.bl false)
 | true=>
   rw [if_pos rfl] at eq ⊢;obtain ⟨dz,t4,e4,eq⟩:=Ae eq;exact ⟨Oo,c3,t3,f3,dz,t4,e4,λw' H4 c4 f4 s4 rw'=>s' f4 (ry.mono (s3.trans s4).ext) rw' eq λv H' c' f' s' rv=>k v H' c' f' ((((s1.trans s2).trans s3).trans s4).trans s') rv⟩
theorem Sg {d:Expr}{op':CmpOp}{R':R2}{w:M D}{h':D->D->M D}(ho:OpR X (compareOp op) R)(ho':OpR X (compareOp op') R')(s:AZ X.K R h)(s':AZ X.K R' h')(ha:PE X a (RE X.K f))(hb:PE X b (RE X.K g))(hd:PE X d (RE X.K w))
 (hm:lastMarks [op,op'] [b,d]=false:=by with_unfolding_all rfl):PE X (.Compare a [op,op'] [b,d] pos) (RE X.K (El f g w h h')):=
 AA (Tp ho ho' ha hb hd hm) λ_ _ _ q=>RE.chain s s' q
def JZ (f g:M Bool):M Bool:=bnd f λk=>if k=true then g else ret false
def fOr (f g:M Bool):M Bool:=bnd f λk=>if k=true then ret true else g
def Dh (f:M Bool):M Bool:=bnd f λk=>ret (!k)
def Ey (f g:M D):M D:=bnd (Ap f) λk=>if k=true then g else ret (.bl false)
def Xd (f g:M D):M D:=bnd (Ap f) λk=>if k=true then ret (.bl true) else g
def Jm (f:M D):M D:=bnd (Ap f) λk=>ret (.bl (!k))
def fIf (f:M Bool)(g h:M D):M D:=bnd f λk=>if k=true then g else h
variable {f g:M Bool}{u v w:M D}{rest:List Expr}
theorem Zx (h:PW X e (RT X.K f)):PT X e (RT X.K f):=h.pt
theorem Vd (ha:PT X a (RT X.K f)):PW X (.BoolOp .And [a] pos) (RT X.K f):=V3 ha
theorem XC (ha:PT X a (RT X.K f)):PW X (.BoolOp .Or [a] pos) (RT X.K f):=Yq ha
theorem XB (ha:PT X a (RT X.K f))(hb:PW X (.BoolOp .And (b :: rest) pos) (RT X.K g)):PW X (.BoolOp .And (a :: b :: rest) pos) (RT X.K (JZ f g)):=
 Pt (Yp ha hb) λσ H Q z9=>by
  obtain ⟨Oo,c,t,fi,r,t',eq,k⟩:=z9;obtain ⟨kb,t1,e1,eq⟩:=Ae eq;refine ⟨Oo,c,t,fi,kb,t1,e1,λH1 c1 f1 s1=>?_⟩
  cases kb with
  | false=>rw [if_neg uf4] at eq ⊢;cases eq;exact k H1 c1 f1 s1
  | true=>rw [if_pos rfl] at eq ⊢;exact ⟨Oo,c1,t1,f1,r,t',eq,λH2 c2 f2 s2=>k H2 c2 f2 (s1.trans s2)⟩
theorem Zy (ha:PT X a (RT X.K f))(hb:PW X (.BoolOp .Or (b :: rest) pos) (RT X.K g)):PW X (.BoolOp .Or (a :: b :: rest) pos) (RT X.K (fOr f g)):=
 Pt (ZN ha hb) λσ H Q z9=>by
  obtain ⟨Oo,c,t,fi,r,t',eq,k⟩:=z9;obtain ⟨kb,t1,e1,eq⟩:=Ae eq;refine ⟨Oo,c,t,fi,kb,t1,e1,λH1 c1 f1 s1=>?_⟩
  cases kb with
  | true=>rw [if_pos rfl] at eq ⊢;cases eq;exact k H1 c1 f1 s1
  | false=>rw [if_neg uf4] at eq ⊢;exact ⟨Oo,c1,t1,f1,r,t',eq,λH2 c2 f2 s2=>k H2 c2 f2 (s1.trans s2)⟩
theorem Xz (ha:PT X a (RT X.K f)):PT X (.UnaryOp .Not a pos) (RT X.K (Dh f)):=
 Lw (Ym ha) λσ H Q z9=>by
  obtain ⟨Oo,c,t,fi,r,t',eq,k⟩:=z9;obtain ⟨kb,t1,e1,eq⟩:=Ae eq
  cases eq
  exact ⟨Oo,c,t,fi,kb,_,e1,λH1 c1 f1 s1=>k H1 c1 f1 s1⟩
theorem MY {f:M D}{kb:Bool}{t1:T}(h:Ap f t=some (kb,t1)):f t=some (.bl kb,t1):=by
 obtain ⟨d,t2,e1,e2⟩:=Ae h;obtain ⟨b,rfl,z⟩:=IU e2
 cases z
 exact e1
theorem Xl {op:PySem.BoolOp}(h:PE X a (RE X.K u)):PE X (.BoolOp op [a] pos) (RE X.K u):=Yd h
theorem Xf (ha:PE X a (RE X.K u))(hb:PE X (.BoolOp .And (b :: rest) pos) (RE X.K v)):PE X (.BoolOp .And (a :: b :: rest) pos) (RE X.K (Ey u v)):=
 AA (X6 ha hb) λσ H Q z9=>by
  obtain ⟨Oo,c,t,fi,r,t',eq,k⟩:=z9;obtain ⟨kb,t1,e1,eq⟩:=Ae eq;refine ⟨Oo,c,t,fi,_,t1,MY e1,λx H1 c1 f1 s1 rx=>?_⟩
  cases rx
  refine ⟨kb,rfl,?_⟩
  cases kb with
  | false=>rw [if_neg uf4] at eq ⊢;cases eq;exact k _ H1 c1 f1 s1 (.bl false)
  | true=>rw [if_pos rfl] at eq ⊢;exact ⟨Oo,c1,t1,f1,r,t',eq,λy H2 c2 f2 s2 ry=>k y H2 c2 f2 (s1.trans s2) ry⟩
theorem Xj (ha:PE X a (RE X.K u)):PE X (.UnaryOp .Not a pos) (RE X.K (Jm u)):=
 AA (Yc ha) λσ H Q z9=>by
  obtain ⟨Oo,c,t,fi,r,t',eq,k⟩:=z9;obtain ⟨kb,t1,e1,eq⟩:=Ae eq
  cases eq
  refine ⟨Oo,c,t,fi,_,_,MY e1,λx H1 c1 f1 s1 rx=>?_⟩
  cases rx
  exact ⟨kb,rfl,k _ H1 c1 f1 s1 (.bl (!kb))⟩
theorem Sk {d:Expr}(hc:PT X d (RT X.K f))(ha:PE X a (RE X.K u))(hb:PE X b (RE X.K v)):PE X (.IfExp d a b pos) (RE X.K (fIf f u v)):=
 AA (Tr hc ha hb) λσ H Q z9=>by
  obtain ⟨Oo,c,t,fi,r,t',eq,k⟩:=z9;obtain ⟨kb,t1,e1,eq⟩:=Ae eq;refine ⟨Oo,c,t,fi,kb,t1,e1,λH1 c1 f1 s1=>?_⟩
  cases kb with
  | false=>rw [if_neg uf4] at eq ⊢;exact ⟨Oo,c1,t1,f1,r,t',eq,λy H2 c2 f2 s2 ry=>k y H2 c2 f2 (s1.trans s2) ry⟩
  | true=>rw [if_pos rfl] at eq ⊢;exact ⟨Oo,c1,t1,f1,r,t',eq,λy H2 c2 f2 s2 ry=>k y H2 c2 f2 (s1.trans s2) ry⟩
end
variable {n:Nat}{p:Pos}
section
variable {X:Cx}{e a b:Expr}{es:List Expr}{pos:Pos}
def Ad:M (List D):=ret []
def Aa (f:M D)(g:M (List D)):M (List D):=bnd f λd=>bnd g λds=>ret (d :: ds)
theorem Xe:PA X [] (RA X.K Ad):=Pq X5 λσ H Q z9=>by
 obtain ⟨Oo,c,t,fi,r,t',eq,k⟩:=z9
 cases eq
 exact k [] H c fi .refl .nil
theorem UR {g:M (List D)}(ha:PE X e (RE X.K f))(hr:PA X es (RA X.K g))(hs:starEach (e :: es) X.env=(false,eval e X.env) :: starEach es X.env:=by rfl):PA X (e :: es) (RA X.K (Aa f g)):=
 Pq (VJ ha hr hs) λσ H Q z9=>by
  obtain ⟨Oo,c,t,fi,r,t',eq,k⟩:=z9;obtain ⟨d,t1,e1,eq⟩:=Ae eq;obtain ⟨ds,t2,e2,eq⟩:=Ae eq
  cases eq
  exact ⟨Oo,c,t,fi,d,t1,e1,λx H1 c1 f1 s1 rx=>⟨Oo,c1,t1,f1,ds,_,e2,λxs H2 c2 f2 s2 rxs=>k _ H2 c2 f2 (s1.trans s2) (.cons (rx.mono s2.ext) rxs)⟩⟩
def lim {α:Type}(n:Nat)(a:α):M α:=λt=>if n<=LIM then some (a,t) else none
theorem CB {α:Type}{a:α}{z:α×T}(h:lim n a t=some z):n<=LIM/\z=(a,t):=by
 unfold lim at h
 split at h
 ·next h1=>cases h;exact ⟨h1,rfl⟩
 ·cases h
def AR (f:M (List D)):M D:=bnd f λds=>lim ds.length (.tup ds)
theorem Xn {x1:Nat}{f:M (List D)}(h:PA X es (RA X.K f)):PE X (.Tuple es x1 pos) (RE X.K (AR f)):=
 AA (Ye h) λσ H Q z9=>by
  obtain ⟨Oo,c,t,fi,r,t',eq,k⟩:=z9;obtain ⟨ds,t1,e1,eq⟩:=Ae eq;obtain ⟨hl,z⟩:=CB eq
  cases z
  refine ⟨Oo,c,t,fi,ds,_,e1,λxs H1 c1 f1 s1 rxs=>⟨by rw [rxs.length];exact um4 hl Bf,λp hp=>?_⟩⟩;exact k _ _ c1 (f1.laid hp) (s1.trans (f1.stp_laid hp)) (.tup Aj (f1.s.free hp) (rxs.mono (Ext.laid f1.s hp)))
def AI (f:M (List D)):M (List D):=bnd f λds=>lim ds.length ds
theorem Xp {f:M (List D)}(h:PA X es (RA X.K f)):PE X (.List es pos) (RF X.K (AI f)):=
 AA (Ya h) λσ H Q z9=>by
  obtain ⟨Oo,c,t,fi,r,t',eq,k⟩:=z9;obtain ⟨ds,t1,e1,eq⟩:=Ae eq;obtain ⟨hl,z⟩:=CB eq
  cases z
  exact ⟨Oo,c,t,fi,_,_,e1,λxs H1 c1 f1 s1 rxs=>⟨by rw [rxs.length];exact um4 hl Bf,λp hp=>k p xs H1 c1 f1 s1 rxs hp⟩⟩
def Av (f:M (List D)):M D:=bnd f λds=>ret (.lst ds)
theorem UX {f:M (List D)}(h:PE X e (RF X.K f)):PE X e (RE X.K (Av f)):=
 AA h λσ H Q z9=>by
  obtain ⟨Oo,c,t,fi,r,t',eq,k⟩:=z9;obtain ⟨ds,t1,e1,eq⟩:=Ae eq
  cases eq
  exact ⟨Oo,c,t,fi,ds,_,e1,λp xs H1 c1 f1 s1 rxs hp=>k _ _ c1 (f1.laid hp) (s1.trans (f1.stp_laid hp)) (.lst Aj (f1.s.free hp) (rxs.mono (Ext.laid f1.s hp)))⟩
noncomputable def OL (o:Ob):M D:=λt=>some (.obj t.S.length,{ t with S:=t.S++[o] })
def EO (f:M (List D)):M D:=bnd f λds=>OL (.lst ds)
theorem Xk {f:M (List D)}(h:PE X e (RF X.K f)):PE X e (RE X.K (EO f)):=
 AA h λσ H Q z9=>by
  obtain ⟨Oo,c,t,fi,r,t',eq,k⟩:=z9;obtain ⟨ds,t1,e1,eq⟩:=Ae eq
  cases eq
  refine ⟨Oo,c,t,fi,ds,_,e1,λp xs H1 c1 f1 s1 rxs hp=>?_⟩;obtain ⟨c2,f2,s2,e2⟩:=f1.newObj (o:=.lst ds) (u:=.lst xs) hp λc' H' ex hu=>⟨xs,hu,rxs.mono ex⟩;exact k _ _ c2 f2 (s1.trans s2) (.obj e2)
abbrev Fn:=List D->List Ob->Option (D×List Ob)
inductive spF (K:PySem.W.Frag)(f:Fn)(vs:List V)(H:Hp)(Q:VK)(E:XK):Prop where
 | mk (c:Cf) (ds:List D) (S:List Ob) (si:SInv K c S H) (rs:Reps K c H vs ds) (r:D) (S':List Ob) (e:f ds S=some (r,S')) (k:∀v H' c',SInv K c' S' H'->Stp c.O c H c' H'->(∀b,c'.O b↔c.O b)->Rep K c' H' v r->Q v H'):spF K f vs H Q E
def Ai (g:Fn)(f:M (List D)):M D:=bnd f λds t=>match g ds t.S with
 | some (r,S')=>some (r,{ t with S:=S' })
 | none=>none
theorem Fm {g:Fn}{ds:List D}{r:D}{t':T}(h:(match g ds t.S with | some (r,S')=>some (r,{ t with S:=S' }) | none=>none:Option (D×T))=some (r,t')):∃S',g ds t.S=some (r,S')/\t' = { t with S:=S' }:=by
 cases e:g ds t.S with
 | none=>rw [e] at h;cases h
 | some p=>obtain ⟨r',S'⟩:=p;rw [e] at h;cases h;exact ⟨S',rfl,rfl⟩
theorem US {k:Nat}{fa:Addr}{fd:FuncData}{ps:List Str}{g:Fn}{f:M (List D)}(F:FnOk X.prog X.w X.K X.mg X.base CX0 k fa fd ps (spF X.K g))(hr:Room k X.A)(hg:Gl X x)(hm:X.mg x=some (.ref fa))(hk:PySem.W.keepIn X.K (.ref fa)=true)(hb:Binds X.K fd ps [])
 (ha:PA X (e :: es) (RA X.K f)) (hdb:(x == ("__debug__" : Str))=false:=by decide) (he:starEach (e :: es) X.env=(false,eval e X.env) :: starEach es X.env:=by rfl) (hpl:(backTo pos (starEach es X.env)).any (·.1)=false:=by rfl) :
 PE X (.Call (.Name x p) (e :: es) [] pos) (RE X.K (Ai g f)):=
 AA (NJ F hr hg hm hk hb .nil HX ha hdb he hpl) λσ H Q z9=>by
  obtain ⟨Oo,c,t,fi,r,t',eq,kk⟩:=z9;obtain ⟨ds,t1,e1,eq⟩:=Ae eq;obtain ⟨S',e2,rfl⟩:=Fm eq;refine ⟨Oo,c,t,fi,ds,t1,e1,λvs H1 c1 f1 s1 rvs=>?_⟩;show spF X.K g (vs++[]) H1 Q E0;rw [uj2];refine ⟨c1,ds,t1.S,f1.s,rvs,r,S',e2,λv H' c' si st ho rv=>?_⟩;obtain ⟨f2,s2⟩:=f1.after si st ho;exact kk v H' c' f2 (s1.trans s2) rv
def fB (f:M (List D))(h:List D->M D):M D:=bnd f h
theorem RE.callB {f:M (List D)}{h:List D->M D}{R:List V->Hp->VK->Prop}(s:EK K R h){σ:L2.St}{H:Hp}{Q:VK}(q:RE K (fB f h) σ H Q):tCB R (RA K f) σ H Q:=by
 obtain ⟨Oo,c,t,fi,r,t',eq,k⟩:=q;obtain ⟨ds,t1,e1,eq⟩:=Ae eq;exact ⟨Oo,c,t,fi,ds,t1,e1,λxs H1 c1 f1 s1 rxs=>s f1 rxs eq λv H' c' f' s' rv=>k v H' c' f' (s1.trans s') rv⟩
def fBF (f:M (List D))(h:List D->M (List D)):M (List D):=bnd f h
theorem RF.callB {f:M (List D)}{h:List D->M (List D)}{R:List V->Hp->VK->Prop}(s:K6 K R h){σ:L2.St}{H:Hp}{Q:VK}(q:RF K (fBF f h) σ H Q):tCB R (RA K f) σ H Q:=by
 obtain ⟨Oo,c,t,fi,r,t',eq,k⟩:=q;obtain ⟨ds,t1,e1,eq⟩:=Ae eq;exact ⟨Oo,c,t,fi,ds,t1,e1,λxs H1 c1 f1 s1 rxs=>s f1 rxs eq λp vs H' c' f' s' rv hp=>k p vs H' c' f' (s1.trans s') rv hp⟩
theorem RF.two {h:D->D->M (List D)}(s:Ja K R h){σ:L2.St}{H:Hp}{Q:VK}(q:RF K (bnd f λx=>bnd g λy=>h x y) σ H Q):tOp R (RE K f) (RE K g) σ H Q:=by
 obtain ⟨Oo,c,t,fi,r,t',eq,k⟩:=q;obtain ⟨dx,t1,e1,eq⟩:=Ae eq;obtain ⟨dy,t2,e2,eq⟩:=Ae eq;exact ⟨Oo,c,t,fi,dx,t1,e1,λx H1 c1 f1 s1 rx=>⟨Oo,c1,t1,f1,dy,t2,e2,λy H2 c2 f2 s2 ry=>s f2 (rx.mono s2.ext) ry eq λp vs H' c' f' s' rv hp=>k p vs H' c' f' ((s1.trans s2).trans s') rv hp⟩⟩
end
variable {μ:Cf->Hp->D->(V->Hp->Prop)->Prop}
section
variable {X:Cx}{e a b:Expr}{pos:Pos}{st:Stmt}{sts:List Stmt}
noncomputable def Af (f g:M Out):M Out:=λt=>match f t with
 | some (.next,t1)=>g t1
 | z=>z
def Au:M Out:=ret .next
theorem Vb:PSs X [] (RSg X.K μ Au):=Nh V1 λE σ H z9=>by
 obtain ⟨Oo,c,t,fi,o,t',eq,k⟩:=z9
 cases eq
 exact k σ H c fi .refl
theorem SC {μ:Cf->Hp->D->(V->Hp->Prop)->Prop}{f g:M Out}(h1:PS X st (RSg X.K μ f))(h2:PSs X sts (RSg X.K μ g)):PSs X (st :: sts) (RSg X.K μ (Af f g)):=
 Nh (IP h1 h2) λE σ H z9=>by
  obtain ⟨Oo,c,t,fi,o,t',eq,k⟩:=z9;unfold Af at eq
  cases e1:f t with
  | none=>rw [e1] at eq;cases eq
  | some p=>
    obtain ⟨o1,t1⟩:=p;rw [e1] at eq;refine ⟨Oo,c,t,fi,o1,t1,e1,λσ1 H1 c1 f1 s1=>?_⟩
    cases o1 with
    | next=>exact ⟨Oo,c1,t1,f1,o,t',eq,λσ2 H2 c2 f2 s2=>k σ2 H2 c2 f2 (s1.trans s2)⟩
    | brk=>cases eq;exact k σ1 H1 c1 f1 s1
    | cont=>cases eq;exact k σ1 H1 c1 f1 s1
    | ret d=>cases eq;exact k σ1 H1 c1 f1 s1
theorem Vc {μ:Cf->Hp->D->(V->Hp->Prop)->Prop}{f:M Out}(h1:PS X st (RSg X.K μ f)):PSs X [st] (RSg X.K μ f):=HZ h1
def Ao (f:M D):M Out:=bnd f λd=>ret (.ret d)
theorem P5 (h:PE X e (RE X.K f)):PS X (.Return (some e) pos) (RS X.K (Ao f)):=
 A8 (Hs h) λE σ H z9=>by
  obtain ⟨Oo,c,t,fi,o,t',eq,k⟩:=z9;obtain ⟨d,t1,e1,eq⟩:=Ae eq
  cases eq
  exact ⟨Oo,c,t,fi,d,_,e1,λv H1 c1 f1 s1 rv=>k σ H1 c1 f1 s1 v rv⟩
theorem SA:PS X (.Break pos) (RSg X.K μ (ret .brk)):=A8 Ty λE σ H z9=>by
 obtain ⟨Oo,c,t,fi,o,t',eq,k⟩:=z9
 cases eq
 exact k σ H c fi .refl
def Db (f:M D):M Out:=bnd f λ_=>ret .next
theorem Nr (h:PE X e (RE X.K f))(hs:swapsWith e none pos.line X.env=pure false:=by rfl):PS X (.Expr e pos) (RSg X.K μ (Db f)):=
 A8 (Kj h hs) λE σ H z9=>by
  obtain ⟨Oo,c,t,fi,o,t',eq,k⟩:=z9;obtain ⟨d,t1,e1,eq⟩:=Ae eq
  cases eq
  exact ⟨Oo,c,t,fi,d,_,e1,λv H1 c1 f1 s1 rv=>k σ H1 c1 f1 s1⟩
def ifS (f:M Bool)(g h:M Out):M Out:=bnd f λk=>if k=true then g else h
theorem Zw {f:M Bool}{g h:M Out}{sa sb:List Stmt}(hc:PT X e (RT X.K f))(ha:PSs X sa (RSg X.K μ g))(hb:PSs X sb (RSg X.K μ h)):PS X (.If e sa sb pos) (RSg X.K μ (ifS f g h)):=
 A8 (ZK hc ha hb) λE σ H z9=>by
  obtain ⟨Oo,c,t,fi,o,t',eq,k⟩:=z9;obtain ⟨kb,t1,e1,eq⟩:=Ae eq;refine ⟨Oo,c,t,fi,kb,t1,e1,λH1 c1 f1 s1=>?_⟩
  cases kb with
  | true=>rw [if_pos rfl] at eq ⊢;exact ⟨Oo,c1,t1,f1,o,t',eq,λσ2 H2 c2 f2 s2=>k σ2 H2 c2 f2 (s1.trans s2)⟩
  | false=>rw [if_neg uf4] at eq ⊢;exact ⟨Oo,c1,t1,f1,o,t',eq,λσ2 H2 c2 f2 s2=>k σ2 H2 c2 f2 (s1.trans s2)⟩
noncomputable def Ay (i:Nat)(d:D):M Unit:=λt=>some ((),{ t with env:=t.env.set i (some (.val d)) })
def Aw (i:Nat)(f:M D):M Out:=bnd f λd=>bnd (Ay i d) λ_=>ret .next
theorem RS.set {μ:Cf->Hp->D->(V->Hp->Prop)->Prop}{K:PySem.W.Frag}{i:Nat}{f:M D}{E:Ends}{σ:L2.St}{H:Hp}(q:RSg K μ (Aw i f) E σ H):Pa (RE K f) (Lf i) E σ H:=by
 obtain ⟨Oo,c,t,fi,o,t',eq,k⟩:=q;obtain ⟨d,t1,e1,eq⟩:=Ae eq
 cases eq
 exact ⟨Oo,c,t,fi,d,t1,e1,λv H1 c1 f1 s1 rv=>k _ H1 c1 (f1.set rv) s1⟩
theorem P7 {pos':Pos}(hN:X.N.Nodup)(hi:X.N[i]?=some x)(hx:Loc X.env.scope x)(he:PE X e (RE X.K f))(hs:swapsWith e (some (.Name x pos')) pos.line X.env=pure false:=by rfl)(hf:X.fn x=true\/X.env.scope.names.lookup x=some .local:=by walk_at "h") :
 PS X (.Assign [.Name x pos'] e pos) (RSg X.K μ (Aw i f)):=A8 (MH hN hi hx he hs hf) λ_ _ _ q=>RS.set q
def Dk (i:Nat)(f:M (List D)):M Out:=bnd f λds t=>some (.next,{ t with env:=t.env.set i (some (.own ds)) })
theorem RS.own {f:M (List D)}{E:Ends}(q:RSg K μ (Dk i f) E σ H):Pa (RF K f) (Lf i) E σ H:=by
 obtain ⟨Oo,c,t,fi,o,t',eq,k⟩:=q;obtain ⟨ds,t1,e1,eq⟩:=Ae eq
 cases eq
 refine ⟨Oo,c,t,fi,ds,t1,e1,λp vs H1 c1 f1 s1 rv hp=>?_⟩;obtain ⟨c2,f2,s2⟩:=f1.setOwn (i:=i) hp rv;exact k _ _ c2 f2 (s1.trans s2)
theorem Xy {f:M (List D)}{pos':Pos}(hN:X.N.Nodup)(hi:X.N[i]?=some x)(hx:Loc X.env.scope x)(he:PE X e (RF X.K f))(hs:swapsWith e (some (.Name x pos')) pos.line X.env=pure false:=by rfl)(hf:X.fn x=true\/X.env.scope.names.lookup x=some .local:=by walk_at "h") :
 PS X (.Assign [.Name x pos'] e pos) (RSg X.K μ (Dk i f)):=A8 (MH hN hi hx he hs hf) λ_ _ _ q=>RS.own q
theorem DF (hN:X.N.Nodup)(hi:X.N[i]?=some x)(hx:Loc X.env.scope x)(hf:X.fn x=true\/X.env.scope.names.lookup x=some .local:=by walk_at "h"):PG X (.Name x pos) (RG X.K (Ay i)):=
 GH (VR hN hi hx hf) λv σ H Q z9=>by
  obtain ⟨Oo,c,t,d,fi,rv,t',eq,k⟩:=z9
  cases eq
  exact k _ H c (fi.set rv) .refl
def By (f:M D)(g:D->M Unit):M Out:=bnd f λd=>bnd (g d) λ_=>ret .next
theorem Xw {g:D->M Unit}(he:PE X e (RE X.K f))(hg:PG X tg (RG X.K g))(hs:swapsWithSole [tg] e pos.line X.env=pure false:=by rfl)(hw:swappedStores [tg] e X.env=pure none:=by rfl)(hp:(assignEach [tg] X.env).map (·.2)=[assign tg X.env]:=by rfl) :
 PS X (.Assign [tg] e pos) (RSg X.K μ (By f g)):=
 A8 (by first | exact Jy he hg hs hw | exact Jy he hg hs hw hp) λE σ H z9=>by
  obtain ⟨Oo,c,t,fi,o,t',eq,k⟩:=z9;obtain ⟨d,t1,e1,eq⟩:=Ae eq;obtain ⟨u,t2,e2,eq⟩:=Ae eq
  cases eq
  exact ⟨Oo,c,t,fi,d,t1,e1,λv H1 c1 f1 s1 rv=>⟨Oo,c1,t1,d,f1,rv,_,e2,λσ2 H2 c2 f2 s2=>k σ2 H2 c2 f2 (s1.trans s2)⟩⟩
inductive RGs (K:PySem.W.Frag)(f:List D->M Unit)(vs:List V)(σ:L2.St)(H:Hp)(Q:L2.St->Hp->Prop):Prop where
 | mk (Oo:Addr->Prop) (c:Cf) (t:T) (ds:List D) (fi:FInv K Oo c t σ H) (r:Reps K c H vs ds) (t':T) (e:f ds t=some ((),t')) (k:∀σ' H' c',FInv K Oo c' t' σ' H'->Stp Oo c H c' H'->Q σ' H'):RGs K f vs σ H Q
theorem Ng {ts:List Expr}{t t':TGs}(h:PGs X ts t)(i:∀v σ H Q,t' v σ H Q->t v σ H Q):PGs X ts t':=λpins s σ H vs us Q I r q=>h pins s σ H vs us Q I r (i vs σ H Q q)
def CP:List D->M Unit
 | []=>ret ()
 | _=>fail
def AF (f:D->M Unit)(g:List D->M Unit):List D->M Unit
 | d :: ds=>bnd (f d) λ_=>g ds
 | []=>fail
theorem UZ:PGs X [] (RGs X.K CP):=Ng VS λvs σ H Q z9=>by
 obtain ⟨Oo,c,t,ds,fi,rv,t',eq,k⟩:=z9
 cases rv with
 | nil=>cases eq;exact ⟨rfl,k σ H c fi .refl⟩
 | cons _ _=>cases eq
theorem RGs.cons {K:PySem.W.Frag}{f:D->M Unit}{g:List D->M Unit}{vs:List V}{σ:L2.St}{H:Hp}{Q:L2.St->Hp->Prop}(q:RGs K (AF f g) vs σ H Q):Um (RG K f) (RGs K g) vs σ H Q:=by
 obtain ⟨Oo,c,t,ds,fi,rv,t',eq,k⟩:=q
 cases rv with
 | nil=>cases eq
 | cons r rs=>
   obtain ⟨u,t1,e1,eq⟩:=Ae eq;exact ⟨_,_,rfl,Oo,c,t,_,fi,r,t1,e1,λσ1 H1 c1 f1 s1=>⟨Oo,c1,t1,_,f1,rs.mono s1.ext,t',eq,λσ2 H2 c2 f2 s2=>k σ2 H2 c2 f2 (s1.trans s2)⟩⟩
def unT (n:Nat)(g:List D->M Unit):D->M Unit
 | .tup ds=>if ds.length=n then g ds else fail
 | _=>fail
def Cn (st:D->M Unit)(b:M Out):List D->M Out
 | []=>ret .next
 | d :: r=>λt=>match st d t with
   | none=>none
   | some (_,t1)=>match b t1 with
     | some (.next,t2)=>Cn st b r t2
     | some (.cont,t2)=>Cn st b r t2
     | some (.brk,t2)=>some (.next,t2)
     | some (.ret x,t2)=>some (.ret x,t2)
     | none=>none
def BY (f:M (List D))(st:D->M Unit)(b:M Out):M Out:=bnd f λds=>Cn st b ds
theorem RS.for {f:M (List D)}{g:D->M Unit}{b:M Out}{E:Ends}(q:RSg K μ (BY f g b) E σ H):YV (RI K f) (RG K g) (RSg K μ b) E σ H:=by
 obtain ⟨Oo,c,t,fi,o,t',eq,k⟩:=q;obtain ⟨ds,t1,e1,eq⟩:=Ae eq;refine ⟨Oo,c,t,fi,ds,t1,e1,λJ H1 c1 f1 s1 it=>?_⟩;refine ⟨λi m σ' H'=>m=ds.length - i/\i<=ds.length/\∃c' t2,FInv K Oo c' t2 σ' H'/\Stp Oo c1 H1 c' H'/\Cn g b (ds.drop i) t2=some (o,t'),⟨_,rfl,un3 _,c1,t1,f1,.refl,by rw [uk9];exact eq⟩,?_⟩;rintro i m σ' H' ⟨rfl,hi,c',t2,f2,s2,e2⟩
 by_cases hlt:i < ds.length
 ·refine .inr ⟨it.go c' H' i s2.ext hlt,λσ3 H3=>∃c3 t3,FInv K Oo c3 t3 σ3 H3/\Stp Oo c1 H1 c3 H3/\Cn g b (ds.drop (i + 1)) t3=some (o,t'),λσ3 H3 h=>⟨ds.length - (i + 1),by lia,rfl,hlt,h⟩,λx H'' hy=>?_⟩;obtain ⟨rfl,rx⟩:=it.yld c' H' i x H'' _ s2.ext (ub6 hlt) hy;rw [ub3 hlt] at e2;unfold Cn at e2
  cases e3:g ds[i] t2 with
  | none=>rw [e3] at e2;cases e2
  | some p=>
    obtain ⟨u,t3⟩:=p;rw [e3] at e2
    try dsimp only at e2
    refine ⟨Oo,c',t2,_,f2,rx,t3,e3,λσ3 H3 c3 f3 s3=>?_⟩
    cases e4:b t3 with
    | none=>rw [e4] at e2;cases e2
    | some p=>
      obtain ⟨o4,t4⟩:=p;rw [e4] at e2
      try dsimp only at e2
      refine ⟨Oo,c3,t3,f3,o4,t4,e4,λσ5 H5 c5 f5 s5=>?_⟩;have s':=(s2.trans s3).trans s5
      cases o4 with
      | next=>exact ⟨c5,t4,f5,s',e2⟩
      | cont=>exact ⟨c5,t4,f5,s',e2⟩
      | brk=>cases e2;exact k σ5 H5 c5 f5 (s1.trans s')
      | ret r=>cases e2;exact k σ5 H5 c5 f5 (s1.trans s')
 ·have hi':i=ds.length:=by lia
  subst hi';rw [ui0] at e2
  cases e2
  exact .inl ⟨it.stop c' H' s2.ext,k σ' H' c' f2 (s1.trans s2)⟩
theorem P3 {iter:Expr}{body:List Stmt}{f:M (List D)}{g:D->M Unit}{b:M Out}(hp:PassesOwn (model X.prog X.w) X.A X.env X.xe)(hc:X.calm=true)(hi:PI X tg iter (RI X.K f))(hg:PG X tg (RG X.K g))(hb:PSs X body (RSg X.K μ b))
 (hs:∀x,foldedSetIterable iter X.env x=pure x:=by intro _;rfl):PS X (.For tg iter body [] pos) (RSg X.K μ (BY f g b)):=
 A8 (Yk hp hc hi hg hb hs) λ_ _ _ q=>RS.for q
theorem ItOk.lst {K:PySem.W.Frag}{c:Cf}{H:Hp}{p:Addr}{ds:List D}(r:∀c' H',Ext c H c' H'->∃vs,SqL K H' p vs/\Reps K c' H' vs ds):ItOk K (Itl K p) c H ds:=by
 refine ⟨λc' H' i ex hi=>?_,λc' H' i x H'' d ex hd hy=>?_,λc' H' ex=>?_⟩
 ·obtain ⟨vs,h1,h2⟩:=r c' H' ex;obtain ⟨v,e,_⟩:=h2.at (ub6 hi);exact ⟨vs,v,h1,e⟩
 ·obtain ⟨vs,h1,h2⟩:=r c' H' ex;obtain ⟨rfl,h⟩:=hy;exact ⟨rfl,h2.get (h vs h1) hd⟩
 ·obtain ⟨vs,h1,h2⟩:=r c' H' ex;exact ⟨vs,h1,by rw [h2.length];exact un2 _⟩
theorem ItOk.tup {K:PySem.W.Frag}{c:Cf}{H:Hp}{p:Addr}{ds:List D}(r:∀c' H',Ext c H c' H'->∃vs,SqT K H' p vs/\Reps K c' H' vs ds):ItOk K (Itt K p) c H ds:=by
 refine ⟨λc' H' i ex hi=>?_,λc' H' i x H'' d ex hd hy=>?_,λc' H' ex=>?_⟩
 ·obtain ⟨vs,h1,h2⟩:=r c' H' ex;obtain ⟨v,e,_⟩:=h2.at (ub6 hi);exact ⟨vs,v,h1,e⟩
 ·obtain ⟨vs,h1,h2⟩:=r c' H' ex;obtain ⟨rfl,h⟩:=hy;exact ⟨rfl,h2.get (h vs h1) hd⟩
 ·obtain ⟨vs,h1,h2⟩:=r c' H' ex;exact ⟨vs,h1,by rw [h2.length];exact un2 _⟩
end
theorem FInv.leave {Oo:Addr->Prop}(f:FInv K Oo c t σ H):SInv K ⟨c.ι,Oo⟩ t.S H/\Ext c H ⟨c.ι,Oo⟩ H:=by
 have ext:Ext c H ⟨c.ι,Oo⟩ H:=⟨λ_ _ e _=>e,λb o _ z=>z.elim .inl λw=>.inr (f.sub b w),λ_ _ e=>e⟩;exact ⟨⟨f.s.len,f.s.nd,λk a o e1 e2=>(f.s.obs k a o e1 e2).mono ext rfl,λb z=>f.s.trk b (f.sub b z),λb z=>f.s.dis b (f.sub b z)⟩,ext⟩
noncomputable def env0 (m:Nat)(ds:List D):List (Option Sl):=ds.map (λd=>some (.val d))++List.replicate (m - ds.length) none
def fnOf (n m:Nat)(g:M Out):Fn:=λds S=>if ds.length=n then (match g ⟨env0 m ds,S⟩ with
 | some (.ret r,t)=>some (r,t.S)
 | some (.next,t)=>some (.non,t.S)
 | _=>none) else none
theorem Gg {ds:List D}{N:List Str}(s:SInv K c S H)(r:Reps K c H vs ds):FInv K c.O c ⟨env0 N.length ds,S⟩ (L2.start N vs) H:=by
 have hlen:vs.length=ds.length:=r.length;have none_:∀{i:Nat} {x:Sl},(env0 N.length ds)[i]?=some (some x)->∃d,ds[i]?=some d/\x = .val d:=λ{i x} q=>by
  unfold env0 at q
  by_cases hi:i < ds.length
  ·rw [ub2 (by simpa using hi),ug3,ub6 hi] at q;simp at q;exact ⟨ds[i],ub6 hi,q.symm⟩
  ·rw [ua7 (by simpa using hi),ub8] at q
   split at q <;> simp at q
 refine ⟨s,by simp [env0,L2.start,hlen],λ_ z=>z,λi d q=>?_,λi es q=>?_,λi j es _ a q _ _ _=>?_⟩
 ·obtain ⟨d',h1,h2⟩:=none_ q
  cases h2
  obtain ⟨v,h3,h4⟩:=r.at h1;refine ⟨v,?_,h4⟩;unfold L2.start;have hi:=(ub1.mp h3).1;rw [ub2 (by simpa using hi),ug3,h3];rfl
 ·obtain ⟨_,_,h2⟩:=none_ q;cases h2
 ·obtain ⟨_,_,h2⟩:=none_ q;cases h2
theorem Zv {P:Program}{w:World}{mg:Str->Option Value}{base:Heap}{qual:Str}{st:Stmt}{fa:Addr}{fd:FuncData}{N ps:List Str}{k:Nat}{g:M Out}(F:Fun K x qual st fa fd)(S:FnScope N ps (Al st))
 (hb:∀(cdv:Value) (A:Around) (outer:List Env) (s:Shared) (H:Hp) (E:XK),Room k (A.deeper (PyProof.Rows.envOfC qual (Al st) s.heap.objs.size fa cdv))->
   PSs (CY CX0 P w K mg base N qual (Al st) fa cdv A outer s H E).nox (Bd st) (RS K g)):FnOk P w K mg base CX0 (k + 1) fa fd ps (spF K (fnOf ps.length N.length g)):=by
 have hlen:∀{ds:List D} {S:List Ob} {z:D×List Ob},fnOf ps.length N.length g ds S=some z->ds.length=ps.length:=λ{ds S z} h=>by
  unfold fnOf at h
  split at h
  ·next h1=>exact h1
  ·cases h
 refine F.ok S (λvs H Q E h=>?_) (λcdv A outer s H vs Q E hr h=>?_)
 ·obtain ⟨c,ds,S,si,rs,r,S',e,_⟩:=h;rw [rs.length];exact hlen e
 obtain ⟨c,ds,S0,si,rs,r,S',e,kk⟩:=h;refine ⟨RS K g,hb cdv A outer s H E hr,?_⟩;have hl:=hlen e;unfold fnOf at e;rw [if_pos hl] at e
 cases eg:g ⟨env0 N.length ds,S0⟩ with
 | none=>rw [eg] at e;cases e
 | some p=>
   obtain ⟨o,t⟩:=p;rw [eg] at e;refine ⟨c.O,c,_,Gg si rs,o,t,eg,λσ' H' c' f' s'=>?_⟩;obtain ⟨si',ext'⟩:=f'.leave;have st':Stp c.O c H ⟨c'.ι,c.O⟩ H':=⟨s'.ext.trans ext',s'.oo⟩
   cases o with
   | next=>cases e;exact kk .non H' _ si' st' (λ_=>Iff.rfl) .non
   | ret d=>cases e;exact λv rv=>kk v H' _ si' st' (λ_=>Iff.rfl) (rv.mono ext')
   | brk=>cases e
   | cont=>cases e
variable {fr:List Nat}
section
variable {X:Cx}{e a b:Expr}{pos:Pos}
def items:D->M (List D)
 | .lst ds=>ret ds
 | .tup ds=>ret ds
 | .scr ns=>ret (ns.map .int)
 | _=>fail
noncomputable def rngL (lo:Int)(n:Nat):List D:=(List.range n).map λi=>.int (lo + (i:Nat))
theorem ItOk.rng {lo:Int}:ItOk K (Itr lo n) c H (rngL lo n):=by
 refine ⟨λc' H' i ex hi=>?_,λc' H' i x H'' d ex hd hy=>?_,λc' H' ex=>?_⟩
 ·have:i < n:=by simpa [rngL] using hi
  exact this
 ·obtain ⟨rfl,rfl⟩:=hy;refine ⟨rfl,?_⟩;have hi:i < n:=by
   have:=(ub1.mp hd).1;simpa [rngL] using this
  have:d = .int (lo + (i:Nat)):=by
   rw [rngL,ug3,List.getElem?_range hi] at hd;simpa using hd.symm
  rw [this];exact .int _
 ·show n<=(rngL lo n).length;simp [rngL]
noncomputable def BI (i:Int):Bool:=decide (-(2 ^ 62)<=i) && decide (i < 2 ^ 62)
def Kn:List D->M (List D)
 | [.int j]=>λt=>if BI j=true then some (rngL 0 j.toNat,t) else none
 | _=>fail
def Ko:List D->M (List D)
 | [.int i,.int j]=>λt=>if (BI i && BI j)=true then some (rngL i (j - i).toNat,t) else none
 | _=>fail
def B4 (f:M (List D)):M (List D):=bnd f Kn
def Ez (f:M (List D)):M (List D):=bnd f Ko
theorem DN {i:Int}(h:BI i=true) : -(2 ^ 62)<=i/\i < 2 ^ 62:=by
 unfold BI at h;rw [uh8] at h;exact ⟨uh2 h.1,uh2 h.2⟩
theorem PZ {f:M (List D)}(hg:Gl X "range")(hm:X.mg "range" = none)(ha:PA X [a] (RA X.K f))(hs:starEach [a] X.env=[(false,eval a X.env)]:=by rfl):PI X tg (.Call (.Name "range" p) [a] [] pos) (RI X.K (B4 f)):=
 I9 (QQ hg hm ha hs) λσ H R z9=>by
  obtain ⟨Oo,c,t,fi,ds,t',eq,k⟩:=z9;obtain ⟨xs,t1,e1,eq⟩:=Ae eq;refine ⟨Oo,c,t,fi,xs,t1,e1,λvs H1 c1 f1 s1 rv=>?_⟩;unfold Kn at eq
  split at eq
  ·next j=>
   split at eq
   ·next hs=>
    cases eq
    cases rv with
    | cons r rs=>
      cases rs
      cases r
      obtain ⟨h1,h2⟩:=DN hs;exact ⟨j,rfl,h1,h2,k _ H1 c1 f1 s1 ItOk.rng⟩
   ·cases eq
  ·cases eq
theorem P0 {f:M (List D)}(hg:Gl X "range")(hm:X.mg "range" = none)(ha:PA X [a,b] (RA X.K f))(hs:starEach [a,b] X.env=[(false,eval a X.env),(false,eval b X.env)]:=by rfl)(hs2:starEach [b] X.env=[(false,eval b X.env)]:=by rfl):PI X tg (.Call (.Name "range" p) [a,b] [] pos) (RI X.K (Ez f)):=
 I9 (QR hg hm ha hs hs2) λσ H R z9=>by
  obtain ⟨Oo,c,t,fi,ds,t',eq,k⟩:=z9;obtain ⟨xs,t1,e1,eq⟩:=Ae eq;refine ⟨Oo,c,t,fi,xs,t1,e1,λvs H1 c1 f1 s1 rv=>?_⟩;unfold Ko at eq
  split at eq
  ·next i j=>
   split at eq
   ·next hs=>
    cases eq
    rw [uh8] at hs
    cases rv with
    | cons r rs=>
      cases r
      cases rs with
      | cons r rs=>
        cases rs
        cases r
        obtain ⟨h1,h2⟩:=DN hs.1;obtain ⟨h3,h4⟩:=DN hs.2;exact ⟨i,j,rfl,⟨h1,h2,h3,h4⟩,k _ H1 c1 f1 s1 ItOk.rng⟩
   ·cases eq
  ·cases eq
def B3 (st:D->M Unit)(tst:M Bool)(elt:M D):List D->M (List D)
 | []=>ret []
 | d :: r=>bnd (st d) λ_=>bnd tst λk=>if k=true then bnd elt λx=>bnd (B3 st tst elt r) λxs=>ret (x :: xs) else B3 st tst elt r
noncomputable def Z1:Option (Option Sl)->Option Sl
 | some (some (.val d))=>some (.val d)
 | _=>none
def cenv (n:Nat)(fr:List Nat)(env:List (Option Sl)):List (Option Sl):=List.replicate n none++fr.map λi=>Z1 env[i]?
noncomputable def Fy (n:Nat)(fr:List Nat)(σ:L2.St):L2.St:=List.replicate n none++fr.map λi=>(σ[i]?).join
def BL (n:Nat)(fr:List Nat)(f:M (List D))(st:D->M Unit)(tst:M Bool)(elt:M D):M (List D):=bnd f λds t=>match B3 st tst elt ds ⟨cenv n fr t.env,t.S⟩ with
 | some (xs,t')=>if xs.length<=LIM then some (xs,{ t with S:=t'.S }) else none
 | none=>none
theorem Iy {env:List (Option Sl)}{x:Sl}(h:(cenv n fr env)[j]?=some (some x)):∃i d,n<=j/\fr[j - n]?=some i/\env[i]?=some (some (.val d))/\x = .val d:=by
 unfold cenv at h
 by_cases hj:j < n
 ·rw [ub2 (by simpa using hj),ub8] at h
  split at h <;> simp at h
 ·rw [ua7 (by simpa using hj),ud3,ug3] at h
  cases e:fr[j - n]? with
  | none=>rw [e] at h;simp at h
  | some i=>
    rw [e] at h;simp only [uk0,ug9] at h
    cases e2:env[i]? with
    | none=>rw [e2] at h;cases h
    | some o=>
      cases o with
      | none=>rw [e2] at h;cases h
      | some sl=>
        cases sl with
        | own _=>rw [e2] at h;cases h
        | val d=>rw [e2] at h;cases h;exact ⟨i,d,by lia,rfl,e2,rfl⟩
theorem Jo {Oo:Addr->Prop}(f:FInv K Oo c t σ H):FInv K c.O c ⟨cenv n fr t.env,t.S⟩ (Fy n fr σ) H:=by
 refine ⟨f.s,by simp [cenv,Fy],λ_ z=>z,λj d q=>?_,λj es q=>?_,λj _ es _ _ q _ _ _=>?_⟩
 ·obtain ⟨i,d',h0,h1,h2,h3⟩:=Iy q
  cases h3
  obtain ⟨v,h4,h5⟩:=f.val i d h2;refine ⟨v,?_,h5⟩;unfold Fy;rw [ua7 (by simpa using h0),ud3,ug3,h1];simp [h4]
 ·obtain ⟨_,_,_,_,_,h⟩:=Iy q;cases h
 ·obtain ⟨_,_,_,_,_,h⟩:=Iy q;cases h
theorem RF.comp {f:M (List D)}{st:D->M Unit}{tst:M Bool}{elt:M D}{Q:VK}(q:RF K (BL n fr f st tst elt) σ H Q):Pb (RI K f) (RG K st) (RT K tst) (RE K elt) (Fy n fr) σ H Q:=by
 obtain ⟨Oo,c,t,fi,xs,t',eq,k⟩:=q;obtain ⟨ds,t1,e1,eq⟩:=Ae eq;refine ⟨Oo,c,t,fi,ds,t1,e1,λJ H1 c1 f1 s1 it=>?_⟩
 cases e3:B3 st tst elt ds ⟨cenv n fr t1.env,t1.S⟩ with
 | none=>rw [e3] at eq;cases eq
 | some p=>
   obtain ⟨ys,t3⟩:=p;rw [e3] at eq;dsimp only at eq
   split at eq
   case isFalse=>cases eq
   next hl=>
   cases eq
   refine ⟨λi m acc σ' H'=>m=ds.length - i/\i<=ds.length/\∃c' t2 zs rest,FInv K c1.O c' t2 σ' H'/\Stp c1.O c1 H1 c' H'/\Reps K c' H' acc zs/\B3 st tst elt (ds.drop i) t2=some (rest,t3)/\xs=zs++rest,
    ⟨_,rfl,un3 _,c1,_,[],xs,Jo f1,.refl,.nil,by rw [uk9];exact e3,rfl⟩,?_⟩
   rintro i m acc σ' H' ⟨rfl,hi,c',t2,zs,rest,f2,s2,ra,e2,ez⟩;have hacc:acc.length<=sizeLine:=by
    have:zs.length<=xs.length:=by rw [ez,uf7];exact ui1 _ _
    rw [ra.length];exact um4 this (um4 hl Bf)
   refine ⟨hacc,?_⟩
   by_cases hlt:i < ds.length
   ·refine .inr ⟨it.go c' H' i s2.ext hlt,λx H'' hy=>?_⟩;obtain ⟨rfl,rx⟩:=it.yld c' H' i x H'' _ s2.ext (ub6 hlt) hy;rw [ub3 hlt] at e2;unfold B3 at e2;obtain ⟨u,t4,e4,e2⟩:=Ae e2;obtain ⟨kb,t5,e5,e2⟩:=Ae e2;refine ⟨c1.O,c',t2,_,f2,rx,t4,e4,λσ3 H3 c3 f3 s3=>⟨c1.O,c3,t4,f3,kb,t5,e5,λH4 c4 f4 s4=>?_⟩⟩
    cases kb with
    | false=>
      rw [if_neg uf4] at e2 ⊢;exact ⟨ds.length - (i + 1),by lia,rfl,hlt,c4,t5,zs,rest,f4,(s2.trans s3).trans s4,ra.mono (s3.trans s4).ext,e2,ez⟩
    | true=>
      rw [if_pos rfl] at e2 ⊢;obtain ⟨x6,t6,e6,e2⟩:=Ae e2;obtain ⟨r7,t7,e7,e2⟩:=Ae e2
      cases e2
      refine ⟨c1.O,c4,t5,f4,x6,t6,e6,λv H5 c5 f5 s5 rv=>?_⟩;exact ⟨ds.length - (i + 1),by lia,rfl,hlt,c5,t6,zs++[x6],r7,f5,((s2.trans s3).trans s4).trans s5,(ra.mono ((s3.trans s4).trans s5).ext).append (.cons rv .nil),e7,by rw [ez,ug6];rfl⟩
   ·have hi':i=ds.length:=by lia
    subst hi';rw [ui0] at e2
    cases e2
    refine .inl ⟨it.stop c' H' s2.ext,λp hp _=>?_⟩;obtain ⟨si,ext⟩:=f2.leave;obtain ⟨f6,s6⟩:=f1.after si ⟨s2.ext.trans ext,s2.oo⟩ (λ_=>Iff.rfl);rw [uj2] at ez;subst ez;exact k p acc H' _ f6 (s1.trans s6) (ra.mono ext) hp
end
end F2
namespace F2
open PySem L2 PySem.Spec PySem.SeqAt
noncomputable def eq0:D->D->Option Bool
 | .int a,.int b=>some (a == b)
 | .str a,.str b=>some (a == b)
 | .bl a,.bl b=>some (a == b)
 | .non,.non=>some true
 | .int _,.str _=>some false
 | .str _,.int _=>some false
 | _,_=>none
noncomputable def CZ (f:D->D->Option Bool):List D->List D->Option Bool
 | x :: xs,y :: ys=>match f x y,CZ f xs ys with
   | some a,some b=>some (a && b)
   | _,_=>none
 | _,_=>some true
def eqN:Nat->D->D->Option Bool
 | 0,x,y=>eq0 x y
 | n + 1,.tup xs,.tup ys=>(CZ (eqN n) xs ys).map λb=>b && xs.length == ys.length
 | n + 1,.lst xs,.lst ys=>if xs.length=ys.length then CZ (eqN n) xs ys else some false
 | _ + 1,x,y=>eq0 x y
noncomputable def ej (f:D->D->Option Bool)(xs ys:List D)(j:Nat):Bool:=match xs[j]?,ys[j]? with
 | some d,some e=>(f d e).getD true
 | _,_=>true
theorem C1 {f:D->D->Option Bool}:∀{xs ys:List D} {b:Bool},CZ f xs ys=some b->b=(List.range (min xs.length ys.length)).all (ej f xs ys)/\∀(j:Nat) d e,xs[j]?=some d->ys[j]?=some e->∃k,f d e=some k
 | [],ys,b,h=>by
   have h:some true=some b:=by simpa [CZ] using h
   cases h
   refine ⟨by simp,λj d e q _=>by simp at q⟩
 | x :: xs,[],b,h=>by
   have h:some true=some b:=by simpa [CZ] using h
   cases h
   refine ⟨by simp,λj d e _ q=>by simp at q⟩
 | x :: xs,y :: ys,b,h=>by
   unfold CZ at h
   cases e1:f x y with
   | none=>rw [e1] at h;cases h
   | some a=>
     cases e2:CZ f xs ys with
     | none=>rw [e1,e2] at h;cases h
     | some c=>
       rw [e1,e2] at h
       cases h
       obtain ⟨h1,h2⟩:=C1 e2;refine ⟨?_,λj d e q1 q2=>?_⟩
       ·have hm:min (x :: xs).length (y :: ys).length=min xs.length ys.length + 1:=by simp [Nat.succ_min_succ]
        rw [hm,List.range_succ_eq_map,ul6,List.all_map,h1];have:ej f (x :: xs) (y :: ys) 0=a:=by simp [ej,e1]
        rw [this];rfl
       ·cases j with
        | zero=>simp at q1 q2;subst q1 q2;exact ⟨a,e1⟩
        | succ j=>exact h2 j d e (by simpa using q1) (by simpa using q2)
variable {P:Program}{w:World}{H:Hp}{vs:List V}
theorem Gk {h:Heap}{a:Addr}(o:HOk P w H h)(e:H a=some (.lst vs)):∃its:List Value,Vals vs its/\h.IsList a its.toArray:=by
 obtain ⟨_,its,n,r,q⟩:=o a _ e;exact ⟨its,r,_,q,rfl,n,rfl⟩
theorem HN {h:Heap}{a:Addr}(o:HOk P w H h)(e:H a=some (.tup vs)):∃its:List Value,Vals vs its/\h.IsTuple a its.toArray:=by
 obtain ⟨_,its,r,q⟩:=o a _ e;exact ⟨its,r,q⟩
theorem JE {its:List Value}{j:Nat}(r:Vals vs its)(h:j < its.toArray.size):∃v,vs[j]?=some v/\RelV v its.toArray[j]:=by
 have h':j < its.length:=by simpa using h
 have hl:j < vs.length:=by rw [r.length];exact h'
 obtain ⟨u,e1,e2⟩:=r.get (ub6 hl);refine ⟨vs[j],ub6 hl,?_⟩;rw [ub6 h'] at e1
 cases e1
 simpa using e2
variable {b:Bool}
theorem PJ {f:D->D->Option Bool}{xs ys:List D}(h:CZ f xs ys=some b)(ht:∀(j:Nat) d e k,xs[j]?=some d->ys[j]?=some e->f d e=some k->k=true):b=true:=by
 obtain ⟨h1,h2⟩:=C1 h;rw [h1,ui2];intro j hj;have hj':=uk6.mp hj;have l1:j < xs.length:=by lia
 have l2:j < ys.length:=by lia
 obtain ⟨k,ek⟩:=h2 j _ _ (ub6 l1) (ub6 l2);have:=ht j _ _ k (ub6 l1) (ub6 l2) ek;unfold ej;rw [ub6 l1,ub6 l2];simp [ek,this]
theorem GP {x y:D}(e:eq0 x y=some b):(∃i j,x = .int i/\y = .int j/\(i == j)=b)\/(∃i j,x = .str i/\y = .str j/\(i == j)=b)\/(∃i j,x = .bl i/\y = .bl j/\(i == j)=b)\/(x = .non/\y = .non/\true=b)\/(∃i j,x = .int i/\y = .str j/\false=b)\/(∃i j,x = .str i/\y = .int j/\false=b):=by
 unfold eq0 at e
 split at e
 ·cases e;exact .inl ⟨_,_,rfl,rfl,rfl⟩
 ·cases e;exact .inr (.inl ⟨_,_,rfl,rfl,rfl⟩)
 ·cases e;exact .inr (.inr (.inl ⟨_,_,rfl,rfl,rfl⟩))
 ·cases e;exact .inr (.inr (.inr (.inl ⟨rfl,rfl,rfl⟩)))
 ·cases e;exact .inr (.inr (.inr (.inr (.inl ⟨_,_,rfl,rfl,rfl⟩))))
 ·cases e;exact .inr (.inr (.inr (.inr (.inr ⟨_,_,rfl,rfl,rfl⟩))))
 ·cases e
theorem GR {n:Nat}{x y:D}(e:eqN n x y=some b):eq0 x y=some b\/(∃m xs ys,n=m + 1/\x = .lst xs/\y = .lst ys/\(if xs.length=ys.length then CZ (eqN m) xs ys else some false)=some b)\/∃m xs ys b',n=m + 1/\x = .tup xs/\y = .tup ys/\CZ (eqN m) xs ys=some b'/\(b' && xs.length == ys.length)=b:=by
 unfold eqN at e
 split at e
 ·exact .inl e
 ·obtain ⟨b',e1,e2⟩:=uc8.mp e;exact .inr (.inr ⟨_,_,_,b',rfl,rfl,rfl,e1,e2⟩)
 ·exact .inr (.inl ⟨_,_,_,rfl,rfl,rfl,e⟩)
 ·exact .inl e
variable {K:PySem.W.Frag}{c:Cf}
theorem Np:∀(n:Nat) {v:V} {d e:D} {b:Bool},Rep K c H v d->Rep K c H v e->eqN n d e=some b->b=true
 :=by
  intro n
  induction n using Nat.strongRecOn with
  | ind n ih=>
  intro v d e b rd re q;have items:∀{m:Nat} {vs:List V} {ds es:List D} {b':Bool},n=m + 1->Reps K c H vs ds->Reps K c H vs es->CZ (eqN m) ds es=some b'->b'=true:=λ{m vs ds es b'} hm r1 r2 e'=>
   PJ e' λj d e k q1 q2 ek=>by
    obtain ⟨v,g1,g2⟩:=r1.at q1;exact ih m (by lia) g2 (r2.get g1 q2) ek
  rcases GR q with q0 | ⟨m,ds,es,hm,rfl,rfl,q0⟩ | ⟨m,ds,es,b',hm,rfl,rfl,q1,q2⟩
  ·rcases GP q0 with ⟨i,j,rfl,rfl,rfl⟩ | ⟨i,j,rfl,rfl,rfl⟩ | ⟨i,j,rfl,rfl,rfl⟩ | ⟨rfl,rfl,rfl⟩ | ⟨i,j,rfl,rfl,rfl⟩ | ⟨i,j,rfl,rfl,rfl⟩
   ·cases rd;cases re;simp
   ·cases rd;cases re;simp
   ·cases rd;cases re;simp
   ·cases rd;cases re;rfl
   ·cases rd;cases re
   ·cases rd;cases re
  ·cases rd with
   | lst h1 h2 h3=>
     cases re with
     | lst g1 g2 g3=>
       rw [h1] at g1;cases g1
       rw [if_pos (h3.length.symm.trans g3.length)] at q0;exact items hm h3 g3 q0
  ·cases rd with
   | tup h1 h2 h3=>
     cases re with
     | tup g1 g2 g3=>
       rw [h1] at g1;cases g1
       rw [<-q2,items hm h3 g3 q1,h3.length.symm.trans g3.length];simp
theorem No {s:Shared}(hok:HOk P w H s.heap):∀(n:Nat) {A:Around} {x y:V} {u v:Value} {dx dy:D} {b:Bool},RelV x u->RelV y v->Rep K c H x dx->Rep K c H y dy->eqN n dx dy=some b->A.units + n < cLine->
 RcAt A s u v b/\(EqAt A s u v b)
 :=by
  intro n
  induction n using Nat.strongRecOn with
  | ind n ih=>
  intro A x y u v dx dy b ru rv rx ry e hu;have items:∀{m:Nat} {vs ws:List V} {is js:List Value} {ds es:List D} {b':Bool},n=m + 1->Vals vs is->Vals ws js->Reps K c H vs ds->Reps K c H ws es->CZ (eqN m) ds es=some b'->
   ∀j (h1:j < is.toArray.size) (h2:j < js.toArray.size),EqAt A.in1 s is.toArray[j] js.toArray[j] (ej (eqN m) ds es j):=λ{m vs ws is js ds es b'} hm r1 r2 q1 q2 e' j h1 h2=>by
   obtain ⟨v1,a1,a2⟩:=JE r1 h1;obtain ⟨v2,b1,b2⟩:=JE r2 h2;obtain ⟨l1,g1⟩:=ub1.mp a1;obtain ⟨l2,g2⟩:=ub1.mp b1;have k1:ds[j]?=some (ds[j]'(by rw [<-q1.length];exact l1)):=ub6 _;have k2:es[j]?=some (es[j]'(by rw [<-q2.length];exact l2)):=ub6 _;obtain ⟨kk,ek⟩:=(C1 e').2 j _ _ k1 k2;have:ej (eqN m) ds es j=kk:=by unfold ej;rw [k1,k2];simp [ek]
   rw [this];have hu':A.in1.units + m < cLine:=by
    have:A.in1.units=A.units + 1:=by first | rfl | exact Around.units_in1 _ | simp [Around.in1,Around.units]
    lia
   exact (ih m (by lia) a2 b2 (q1.get a1 k1) (q2.get b1 k2) ek hu').2
  have hu0:A.units < cLine:=by lia
  have conc:∀{p q:Addr} {k:Bool},p≠q->RcAt A s (.ref p) (.ref q) k->RcAt A s (.ref p) (.ref q) k/\EqAt A s (.ref p) (.ref q) k:=λhn h=>⟨h,EqAt.of_refs hn h⟩;rcases GR e with e0 | ⟨m,ds,es,hm,rfl,rfl,e0⟩ | ⟨m,ds,es,b',hm,rfl,rfl,e1,e2⟩
  ·rcases GP e0 with ⟨i,j,rfl,rfl,rfl⟩ | ⟨i,j,rfl,rfl,rfl⟩ | ⟨i,j,rfl,rfl,rfl⟩ | ⟨rfl,rfl,rfl⟩ | ⟨i,j,rfl,rfl,rfl⟩ | ⟨i,j,rfl,rfl,rfl⟩
   ·cases rx;cases ry;obtain ⟨t',rfl⟩:=ru;obtain ⟨t,rfl⟩:=rv;exact ⟨RcAt.int_int _ _ _ _,EqAt.int_int _ _ _ _⟩
   ·cases rx;cases ry;obtain ⟨t',rfl⟩:=ru;obtain ⟨t,rfl⟩:=rv;exact ⟨RcAt.str_str _ _ _ _,EqAt.str_str _ _ _ _⟩
   ·cases rx;cases ry;cases ru;cases rv;exact ⟨RcAt.bool_bool _ _,EqAt.bool_bool _ _⟩
   ·cases rx;cases ry;cases ru;cases rv;exact ⟨RcAt.none_none,EqAt.same _⟩
   ·cases rx;cases ry;obtain ⟨t',rfl⟩:=ru;obtain ⟨t,rfl⟩:=rv;exact ⟨RcAt.int_str _ _ _ _,EqAt.int_str _ _ _ _⟩
   ·cases rx;cases ry;obtain ⟨t',rfl⟩:=ru;obtain ⟨t,rfl⟩:=rv;exact ⟨RcAt.str_int _ _ _ _,EqAt.str_int _ _ _ _⟩
  ·cases rx with
   | @lst p vs _ g1 g2 g3=>
   cases ry with
   | @lst q ws _ h1 h2 h3=>
     cases ru
     cases rv
     obtain ⟨is,r1,l1⟩:=Gk hok g1;obtain ⟨js,r2,l2⟩:=Gk hok h1;have hs1:is.toArray.size=ds.length:=by rw [<-g3.length,r1.length];simp
     have hs2:js.toArray.size=es.length:=by rw [<-h3.length,r2.length];simp
     by_cases hl:ds.length=es.length
     ·rw [if_pos hl] at e0;have hsz:is.toArray.size=js.toArray.size:=by rw [hs1,hs2,hl]
      have rc:=RcAt.lists l1 l2 hsz hu0 (items hm r1 r2 g3 h3 e0);have eb:(List.range is.toArray.size).all (ej (eqN m) ds es)=b:=by rw [(C1 e0).1,hs1,<-hl,Nat.min_self]
      rw [eb] at rc
      by_cases hpq:p=q
      ·refine ⟨rc,?_⟩;subst hpq;rw [Np n (Rep.lst g1 g2 g3) (Rep.lst h1 h2 h3) e];exact EqAt.same _
      ·exact conc hpq rc
     ·rw [if_neg hl] at e0
      cases e0
      have hsz:(is.toArray.size != js.toArray.size)=true:=by rw [hs1,hs2];simpa using hl
      refine conc (λz=>hl ?_) (RcAt.lists_lengths l1 l2 hsz hu0);subst z;rw [g1] at h1;cases h1
      rw [<-g3.length,<-h3.length]
  ·cases rx with
   | @tup p vs _ g1 g2 g3=>
   cases ry with
   | @tup q ws _ h1 h2 h3=>
     cases ru
     cases rv
     obtain ⟨is,r1,l1⟩:=HN hok g1;obtain ⟨js,r2,l2⟩:=HN hok h1;have hs1:is.toArray.size=ds.length:=by rw [<-g3.length,r1.length];simp
     have hs2:js.toArray.size=es.length:=by rw [<-h3.length,r2.length];simp
     have rc:=RcAt.tuples l1 l2 hu0 (items hm r1 r2 g3 h3 e1);have eb:((List.range (min is.toArray.size js.toArray.size)).all (ej (eqN m) ds es) && is.toArray.size == js.toArray.size)=b:=by rw [hs1,hs2,<-(C1 e1).1];exact e2
     rw [eb] at rc
     by_cases hpq:p=q
     ·refine ⟨rc,?_⟩;subst hpq;rw [Np n (Rep.tup g1 g2 g3) (Rep.tup h1 h2 h3) e];exact EqAt.same _
     ·exact conc hpq rc
theorem Vu {s:Shared}(hok:HOk P w H s.heap)(n:Nat){A:Around}{x y:V}{u v:Value}{dx dy:D}{b:Bool}(ru:RelV x u)(rv:RelV y v)(rx:Rep K c H x dx)(ry:Rep K c H y dy)(e:eqN n dx dy=some b)(hu:A.units + n < cLine) :
 RcNeAt A s u v (!b):=by
 have items:∀{m:Nat} {vs ws:List V} {is js:List Value} {ds es:List D} {b':Bool},n=m + 1->Vals vs is->Vals ws js->Reps K c H vs ds->Reps K c H ws es->CZ (eqN m) ds es=some b'->
  ∀j (h1:j < is.toArray.size) (h2:j < js.toArray.size),EqAt A.in1 s is.toArray[j] js.toArray[j] (ej (eqN m) ds es j):=λ{m vs ws is js ds es b'} hm r1 r2 q1 q2 e' j h1 h2=>by
  obtain ⟨v1,a1,a2⟩:=JE r1 h1;obtain ⟨v2,b1,b2⟩:=JE r2 h2;obtain ⟨l1,g1⟩:=ub1.mp a1;obtain ⟨l2,g2⟩:=ub1.mp b1;have k1:ds[j]?=some (ds[j]'(by rw [<-q1.length];exact l1)):=ub6 _;have k2:es[j]?=some (es[j]'(by rw [<-q2.length];exact l2)):=ub6 _;obtain ⟨kk,ek⟩:=(C1 e').2 j _ _ k1 k2;have:ej (eqN m) ds es j=kk:=by unfold ej;rw [k1,k2];simp [ek]
  rw [this];have hu':A.in1.units + m < cLine:=by
   have:A.in1.units=A.units + 1:=rfl;lia
  exact (No hok m a2 b2 (q1.get a1 k1) (q2.get b1 k2) ek hu').2
 have hu0:A.units < cLine:=by lia
 rcases GR e with e0 | ⟨m,ds,es,hm,rfl,rfl,e0⟩ | ⟨m,ds,es,b',hm,rfl,rfl,e1,e2⟩
 ·rcases GP e0 with ⟨i,j,rfl,rfl,rfl⟩ | ⟨i,j,rfl,rfl,rfl⟩ | ⟨i,j,rfl,rfl,rfl⟩ | ⟨rfl,rfl,rfl⟩ | ⟨i,j,rfl,rfl,rfl⟩ | ⟨i,j,rfl,rfl,rfl⟩
  ·cases rx;cases ry;obtain ⟨t',rfl⟩:=ru;obtain ⟨t,rfl⟩:=rv;exact RcNeAt.int_int _ _ _ _
  ·cases rx;cases ry;obtain ⟨t',rfl⟩:=ru;obtain ⟨t,rfl⟩:=rv;exact RcNeAt.str_str _ _ _ _
  ·cases rx;cases ry;cases ru;cases rv;exact RcNeAt.bool_bool _ _
  ·cases rx;cases ry;cases ru;cases rv;exact RcNeAt.none_none
  ·cases rx;cases ry;obtain ⟨t',rfl⟩:=ru;obtain ⟨t,rfl⟩:=rv;exact RcNeAt.int_str _ _ _ _
  ·cases rx;cases ry;obtain ⟨t',rfl⟩:=ru;obtain ⟨t,rfl⟩:=rv;exact RcNeAt.str_int _ _ _ _
 ·cases rx with
  | @lst p vs _ g1 g2 g3=>
  cases ry with
  | @lst q ws _ h1 h2 h3=>
    cases ru
    cases rv
    obtain ⟨is,r1,l1⟩:=Gk hok g1;obtain ⟨js,r2,l2⟩:=Gk hok h1;have hs1:is.toArray.size=ds.length:=by rw [<-g3.length,r1.length];simp
    have hs2:js.toArray.size=es.length:=by rw [<-h3.length,r2.length];simp
    by_cases hl:ds.length=es.length
    ·rw [if_pos hl] at e0;have hsz:is.toArray.size=js.toArray.size:=by rw [hs1,hs2,hl]
     have rc:=RcNeAt.lists l1 l2 hsz hu0 (items hm r1 r2 g3 h3 e0);rw [show (List.range is.toArray.size).all (ej (eqN m) ds es)=b by rw [(C1 e0).1,hs1,<-hl,Nat.min_self]] at rc;exact rc
    ·rw [if_neg hl] at e0
     cases e0
     exact RcNeAt.lists_lengths l1 l2 (by rw [hs1,hs2];simpa using hl) hu0
 ·cases rx with
  | @tup p vs _ g1 g2 g3=>
  cases ry with
  | @tup q ws _ h1 h2 h3=>
    cases ru
    cases rv
    obtain ⟨is,r1,l1⟩:=HN hok g1;obtain ⟨js,r2,l2⟩:=HN hok h1;have hs1:is.toArray.size=ds.length:=by rw [<-g3.length,r1.length];simp
    have hs2:js.toArray.size=es.length:=by rw [<-h3.length,r2.length];simp
    have rc:=RcNeAt.tuples l1 l2 hu0 (items hm r1 r2 g3 h3 e1);have eb:((List.range (min is.toArray.size js.toArray.size)).all (ej (eqN m) ds es) && is.toArray.size == js.toArray.size)=b:=by rw [hs1,hs2,<-(C1 e1).1];exact e2
    rw [eb] at rc;exact rc
def EQD:Nat:=40
def neD (x y:D):M D:=λt=>(eqN EQD x y).map λb=>(.bl (!b),t)
def OT (K:PySem.W.Frag)(g:Bool->Bool):R2:=λx y H Q=>∃c dx dy b,Rep K c H x dx/\Rep K c H y dy/\eqN EQD dx dy=some b/\Q (.bl (g b)) H
theorem MA {X:Cx}(hu:X.A.units + 64 < cLine):OpR X (compareOp .Eq) (OT X.K id):=by
 intro pins s σ H x y v u Q I rx ry h;obtain ⟨c,dx,dy,b,q1,q2,e,q⟩:=h;have hu':X.A.units + EQD < cLine:=by unfold EQD;lia
 exact (No I.hok EQD rx ry q1 q2 e hu').1 X.prog X.w _ _ ⟨.bl b,H,I,rfl,q⟩
theorem MB {X:Cx}(hu:X.A.units + 64 < cLine):OpR X (compareOp .NotEq) (OT X.K (!·)):=by
 intro pins s σ H x y v u Q I rx ry h;obtain ⟨c,dx,dy,b,q1,q2,e,q⟩:=h;have hu':X.A.units + EQD < cLine:=by unfold EQD;lia
 exact Vu I.hok EQD rx ry q1 q2 e hu' X.prog X.w _ _ ⟨.bl (!b),H,I,rfl,q⟩
end F2
set_option maxHeartbeats 4000000
namespace F2
open PySem L2 PySem.Spec
variable {g:Int->Int->D}{t:T}{z:D×T}{X:Cx}{c:Cf}{H:Hp}
section
variable {K:PySem.W.Frag}
def i2 (g:Int->Int->D):D->D->M D
 | .int i,.int j=>ret (g i j)
 | _,_=>fail
theorem XD {x y:D}(h:i2 g x y t=some z):∃i j,x = .int i/\y = .int j/\z=(g i j,t):=by
 cases x with
 | int i=>cases y with
   | int j=>cases h;exact ⟨i,j,rfl,rfl,rfl⟩
   | _=>cases h
 | _=>cases h
theorem YK {gV:Int->Int->V}(hr:∀i j c H,Rep K c H (gV i j) (g i j)):AZ K (rI0 gV) (i2 g):=λ{Oo c t σ H x y dx dy r t' Q} f rx ry eq k=>by
 obtain ⟨i,j,rfl,rfl,z⟩:=XD eq
 cases z
 cases rx
 cases ry
 exact ⟨i,j,rfl,rfl,k _ H c f .refl (hr i j c H)⟩
def i2C (C:Int->Int->Bool)(g:Int->Int->D):D->D->M D
 | .int i,.int j=>λt=>if C i j=true then some (g i j,t) else none
 | _,_=>fail
theorem Vj {C:Int->Int->Bool}{x y:D}(h:i2C C g x y t=some z):∃i j,x = .int i/\y = .int j/\C i j=true/\z=(g i j,t):=by
 cases x with
 | int i=>cases y with
   | int j=>
     unfold i2C at h;dsimp only at h
     by_cases hc:C i j=true
     ·rw [if_pos hc] at h;cases h;exact ⟨i,j,rfl,rfl,hc,rfl⟩
     ·rw [if_neg hc] at h;cases h
   | _=>cases h
 | _=>cases h
theorem EG {P:Int->Int->Prop}{C:Int->Int->Bool}{gV:Int->Int->V}(hP:∀i j,C i j=true->P i j)(hr:∀i j c H,Rep K c H (gV i j) (g i j)):AZ K (rI P gV) (i2C C g):=λ{Oo c t σ H x y dx dy r t' Q} f rx ry eq k=>by
 obtain ⟨i,j,rfl,rfl,hc,z⟩:=Vj eq
 cases z
 cases rx
 cases ry
 exact ⟨i,j,rfl,rfl,hP i j hc,k _ H c f .refl (hr i j c H)⟩
def BB:=i2 λi j=>.int (i - j)
noncomputable def Lb (_ j:Int):Bool:=decide (0 < j) && decide (j < 1073741824)
def Fq:=i2C Lb λi j=>.int (i / j)
def Ev:=i2C (λ_ j=>decide (0 < j)) λi j=>.int (i % j)
noncomputable def Li (i j:Int):Bool:=decide (0<=j) && decide (j<=1000000) && decide (i.natAbs < 2 ^ 64)
def Hr:=i2C Li λi j=>.int (i ^ j.toNat)
noncomputable def ED (i j:Int):Bool:=(decide (-(2 ^ 64) < i) && decide (i < 2 ^ 64)) || (decide (-(2 ^ 64) < j) && decide (j < 2 ^ 64))
def MT:=i2C (λ_ j=>decide (0<=j)) λi j=>.int (i / 2 ^ j.toNat)
theorem Wq:AZ K (rI0 λi j=>.int (i - j)) BB:=YK λi j _ _=>.int _
theorem TM:AZ K (rI WR λi j=>.int (i / j)) Fq:=EG (λi j h=>by
 unfold Lb at h;rw [uh8] at h;exact ⟨uh2 h.1,uh2 h.2⟩) λi j _ _=>.int _
theorem Wk:AZ K (rI (λ_ j=>0 < j) λi j=>.int (i % j)) Ev:=EG (λi j h=>uh2 h) λi j _ _=>.int _
theorem Wn:AZ K (rI WS λi j=>.int (i ^ j.toNat)) Hr:=EG (λi j h=>by
 unfold Li at h;rw [uh8,uh8] at h;exact ⟨uh2 h.1.1,uh2 h.1.2,uh2 h.2⟩) λi j _ _=>.int _
theorem Wo:AZ K (rI (λ_ j=>0<=j) λi j=>.int (i / 2 ^ j.toNat)) MT:=EG (λi j h=>uh2 h) λi j _ _=>.int _
theorem Qx {i j:Int}(h:ED i j=true):CMul i j:=by
 unfold ED at h;rw [uk1,uh8,uh8] at h;rcases h with h | h
 ·exact .inl ⟨uh2 h.1,uh2 h.2⟩
 ·exact .inr ⟨uh2 h.1,uh2 h.2⟩
def br:D->M D
 | .int i=>ret (.int (-i))
 | _=>fail
def RY:D->D->M D
 | .int i,.int j=>ret (.int (i + j))
 | .str x,.str y=>lim (x.length + y.length) (.str (x++y))
 | .lst xs,.lst ys=>lim (xs.length + ys.length) (.lst (xs++ys))
 | .tup xs,.tup ys=>λt=>if xs.isEmpty=false/\xs.length + ys.length<=LIM then some (.tup (xs++ys),t) else none
 | _,_=>fail
def V4:R2:=λx y H Q=>∃i j,x = .str i/\y = .str j/\i.length + j.length<=sizeLine/\Q (.str (i++j)) H
def OS (K:PySem.W.Frag):R2:=λx y H Q=>rI0 (λi j=>.int (i + j)) x y H Q\/(V4 x y H Q\/(MI x y H Q\/Uu K x y H Q))
theorem op_add4:OpR X (binaryOp .Add) (OS X.K):=op_add.or (op_add_str.or (op_cat.or VC))
theorem Wa:AZ K (OS K) RY:=λ{Oo c t σ H x y dx dy r t' Q} f rx ry eq k=>by
 cases rx with
 | int i=>
   cases ry with
   | int j=>cases eq;exact .inl ⟨i,j,rfl,rfl,k _ H c f .refl (.int _)⟩
   | _=>cases eq
 | str i=>
   cases ry with
   | str j=>
     obtain ⟨h,z⟩:=CB eq
     cases z
     exact .inr (.inl ⟨i,j,rfl,rfl,um4 h Bf,k _ H c f .refl (.str _)⟩)
   | _=>cases eq
 | @lst a vs ds h1 h2 h3=>
   cases ry with
   | @lst b ws es g1 g2 g3=>
     obtain ⟨h,z⟩:=CB eq
     cases z
     refine .inr (.inr (.inl ⟨a,b,vs,ws,rfl,rfl,h1,g1,?_,λp hp=>?_⟩))
     ·rw [h3.length,g3.length];exact um4 h Bf
     ·exact k _ _ c (f.laid hp) (f.stp_laid hp) (.lst Aj (f.s.free hp) ((h3.append g3).mono (Ext.laid f.s hp)))
   | _=>cases eq
 | @tup a vs ds h1 h2 h3=>
   cases ry with
   | @tup b ws es g1 g2 g3=>
     unfold RY at eq;dsimp only at eq
     split at eq
     ·next h=>
      cases eq
      have hne:vs≠[]:=λz=>by
       have:=h3.length;rw [z] at this;have h0:ds.length=0:=this.symm;have:ds=[]:=uc0.mp h0;rw [this] at h;simp at h
      refine .inr (.inr (.inr ⟨a,b,vs,ws,rfl,rfl,SqT.of h1,SqT.of g1,hne,?_,λz=>?_,λz p hp=>?_⟩))
      ·rw [h3.length,g3.length];exact um4 h.2 Bf
      ·subst z;have:es=[]:=uc0.mp g3.length.symm;subst this;rw [uj2] at k;exact k _ H c f .refl (.tup h1 h2 h3)
      ·exact k _ _ c (f.laid hp) (f.stp_laid hp) (.tup Aj (f.s.free hp) ((h3.append g3).mono (Ext.laid f.s hp)))
     ·cases eq
   | _=>cases eq
 | _=>cases eq
def Ix:D->D->M (List D)
 | .lst xs,.lst ys=>lim (xs.length + ys.length) (xs++ys)
 | _,_=>fail
theorem TK:Ja K MI Ix:=λ{Oo c t σ H x y dx dy r t' Q} f rx ry eq k=>by
 cases rx with
 | @lst a vs ds h1 h2 h3=>
   cases ry with
   | @lst b ws es g1 g2 g3=>
     obtain ⟨h,z⟩:=CB eq
     cases z
     refine ⟨a,b,vs,ws,rfl,rfl,h1,g1,?_,λp hp=>k p _ H c f .refl (h3.append g3) hp⟩;rw [h3.length,g3.length];exact um4 h Bf
   | _=>cases eq
 | _=>cases eq
def isC:D->D->M D
 | x,.non=>λt=>some (.bl (match x with | .non=>true | _=>false),t)
 | x,.bl b=>λt=>some (.bl (match x with | .bl c=>c == b | _=>false),t)
 | _,_=>fail
def ET (x y:D):M D:=bnd (isC x y) λd=>match d with | .bl b=>ret (.bl (!b)) | _=>fail
def rIs (g:Bool->Bool):R2:=λx y H Q=>(y = .non\/∃b,y = .bl b)/\Q (.bl (g (decide (x=y)))) H
theorem Nk {x y:V}{v u:Value}(rx:RelV x v)(ry:RelV y u)(hy:y = .non\/∃b,y = .bl b):plainIs v u=true/\(v == u)=decide (x=y):=by
 rcases hy with rfl | ⟨b,rfl⟩
 ·cases ry
  cases x with
  | non=>cases rx;exact ⟨rfl,by simp⟩
  | bl _=>cases rx;exact ⟨rfl,by simp⟩
  | int _=>obtain ⟨t,rfl⟩:=rx;exact ⟨rfl,by simp⟩
  | str _=>obtain ⟨t,rfl⟩:=rx;exact ⟨rfl,by simp⟩
  | byt _=>obtain ⟨t,rfl⟩:=rx;exact ⟨rfl,by simp⟩
  | flt _=>obtain ⟨t,rfl⟩:=rx;exact ⟨rfl,by simp⟩
  | ref _=>cases rx;exact ⟨rfl,by simp⟩
  | ty _=>cases rx;exact ⟨rfl,by simp⟩
 ·cases ry
  cases x with
  | non=>cases rx;exact ⟨rfl,by simp⟩
  | bl c=>cases rx;exact ⟨rfl,by simp;cases c <;> cases b <;> rfl⟩
  | int _=>obtain ⟨t,rfl⟩:=rx;exact ⟨rfl,by simp⟩
  | str _=>obtain ⟨t,rfl⟩:=rx;exact ⟨rfl,by simp⟩
  | byt _=>obtain ⟨t,rfl⟩:=rx;exact ⟨rfl,by simp⟩
  | flt _=>obtain ⟨t,rfl⟩:=rx;exact ⟨rfl,by simp⟩
  | ref _=>cases rx;exact ⟨rfl,by simp⟩
  | ty _=>cases rx;exact ⟨rfl,by simp⟩
theorem QH:OpR X (compareOp .Is) (rIs id):=by
 intro pins s σ H x y v u Q I rx ry h;obtain ⟨hy,q⟩:=h;obtain ⟨h1,h2⟩:=Nk rx ry hy;exact wpAny_is_plain h1 ⟨.bl _,H,I,by rw [h2];rfl,q⟩
theorem QI:OpR X (compareOp .IsNot) (rIs (!·)):=by
 intro pins s σ H x y v u Q I rx ry h;obtain ⟨hy,q⟩:=h;obtain ⟨h1,h2⟩:=Nk rx ry hy;exact wpAny_isNot_plain h1 ⟨.bl _,H,I,by rw [h2];rfl,q⟩
theorem NB {x y:V}{dx dy:D}(rx:Rep K c H x dx)(ry:Rep K c H y dy)(eq:isC dx dy t=some z):(y = .non\/∃b,y = .bl b)/\z=(.bl (decide (x=y)),t):=by
 cases ry with
 | non=>
   refine ⟨.inl rfl,?_⟩
   cases rx <;> (cases eq;first | rfl | simp)
 | bl b=>
   refine ⟨.inr ⟨b,rfl⟩,?_⟩
   cases rx <;> (cases eq;first | rfl | simp)
   next a=>cases a <;> cases b <;> rfl
 | _=>cases eq
theorem Ri:AZ K (rIs id) isC:=λ{Oo c t σ H x y dx dy r t' Q} f rx ry eq k=>by
 obtain ⟨h,z⟩:=NB rx ry eq
 cases z
 exact ⟨h,k _ H c f .refl (.bl _)⟩
theorem Rj:AZ K (rIs (!·)) ET:=λ{Oo c t σ H x y dx dy r t' Q} f rx ry eq k=>by
 obtain ⟨d,t1,e1,eq⟩:=Ae eq;obtain ⟨h,z⟩:=NB rx ry e1
 cases z
 cases eq
 exact ⟨h,k _ H c f .refl (.bl _)⟩
noncomputable def Gh:D->Bool
 | .non=>true | .bl _=>true | .int _=>true | .str _=>true | _=>false
noncomputable def toV:D->V
 | .bl b=>.bl b | .int i=>.int i | .str x=>.str x | _=>.non
theorem Kl {v:V}{d:D}(r:Rep K c H v d)(h:Gh d=true):v=toV d:=by cases r <;> first | rfl | cases h
theorem IS {c:Cf}{H:Hp}:∀{vs:List V} {ds:List D},Reps K c H vs ds->ds.all Gh=true->vs=ds.map toV
 | _,_,.nil,_=>rfl
 | _,_,.cons r t,h=>by
   rw [ul6,uh8] at h;rw [ul4,Kl r h.1,IS t h.2]
theorem Mj:∀d:D,EB (toV d)=true:=λd=>by cases d <;> rfl
def ixD:D->D->M D
 | .lst ds,.int i=>λt=>(atI ds i).map λd=>(d,t)
 | .tup ds,.int i=>λt=>(atI ds i).map λd=>(d,t)
 | .scr ns,.int i=>λt=>(atI ns i).map λn=>(.int n,t)
 | .str x,.int i=>λt=>if x.length<=LIM then (atI x.cps.toList i).map λn=>(.str ⟨#[n]⟩,t) else none
 | .obj k,.int i=>λt=>match t.S[k]? with
   | some (.lst ds)=>(atI ds i).map λd=>(d,t)
   | _=>none
 | _,_=>fail
theorem Gb {vs:List V}{ds:List D}{i:Int}{d:D}(r:Reps K c H vs ds)(h:atI ds i=some d):∃v,atI vs i=some v/\Rep K c H v d:=by
 unfold atI at h ⊢;obtain ⟨j,h1,h2⟩:=Option.bind_eq_some_iff.mp h;obtain ⟨v,h3,h4⟩:=r.at h2;exact ⟨v,by rw [r.length,h1];exact h3,h4⟩
theorem UJ {α β:Type}(g:α->β)(xs:List α)(i:Int):atI (xs.map g) i=(atI xs i).map g:=by
 unfold atI;rw [uj0]
 cases ixN xs.length i with
 | none=>rfl
 | some j=>simp
theorem XG {dx dy r:D}{t':T}(eq:ixD dx dy t=some (r,t')):∃i,dy = .int i/\((∃ds,dx = .lst ds)\/(∃ds,dx = .tup ds)\/(∃ns,dx = .scr ns)\/(∃z,dx = .str z)\/∃k,dx = .obj k):=by
 unfold ixD at eq
 split at eq
 ·exact ⟨_,rfl,.inl ⟨_,rfl⟩⟩
 ·exact ⟨_,rfl,.inr (.inl ⟨_,rfl⟩)⟩
 ·exact ⟨_,rfl,.inr (.inr (.inl ⟨_,rfl⟩))⟩
 ·exact ⟨_,rfl,.inr (.inr (.inr (.inl ⟨_,rfl⟩)))⟩
 ·exact ⟨_,rfl,.inr (.inr (.inr (.inr ⟨_,rfl⟩)))⟩
 ·cases eq
theorem YL:AZ K (rIx K) ixD:=λ{Oo c t σ H x y dx dy r t' Q} f rx ry eq k=>by
 obtain ⟨i,rfl,hd⟩:=XG eq
 cases ry
 rcases hd with ⟨ds,rfl⟩ | ⟨ds,rfl⟩ | ⟨ns,rfl⟩ | ⟨z,rfl⟩ | ⟨kk,rfl⟩
 ·cases rx with
  | @lst a vs _ h1 h2 h3=>
    obtain ⟨d,e1,e2⟩:=uc8.mp eq
    cases e2
    obtain ⟨v,e3,e4⟩:=Gb h3 e1;exact .inl ⟨a,vs,i,v,rfl,rfl,SqL.of h1,e3,k _ H c f .refl e4⟩
 ·cases rx with
  | @tup a vs _ h1 h2 h3=>
    obtain ⟨d,e1,e2⟩:=uc8.mp eq
    cases e2
    obtain ⟨v,e3,e4⟩:=Gb h3 e1;exact .inr (.inl ⟨a,vs,i,v,rfl,rfl,SqT.of h1,e3,k _ H c f .refl e4⟩)
 ·cases rx with
  | @scr a _ h1=>
    obtain ⟨n,e1,e2⟩:=uc8.mp eq
    cases e2
    exact .inl ⟨a,_,i,.int n,rfl,rfl,h1.sq,by rw [UJ,e1];rfl,k _ H c f .refl (.int n)⟩
 ·cases rx
  unfold ixD at eq;dsimp only at eq
  split at eq
  ·next hl=>
   obtain ⟨n,e1,e2⟩:=uc8.mp eq
   cases e2
   exact .inr (.inr ⟨z,i,n,rfl,rfl,um4 hl Bf,e1,k _ H c f .refl (.str _)⟩)
  ·cases eq
 ·cases rx with
  | @obj a _ h1=>
    unfold ixD at eq;dsimp only at eq
    cases es:t.S[kk]? with
    | none=>rw [es] at eq;cases eq
    | some o=>
      rw [es] at eq
      cases o with
      | dct _ | ins _ _=>cases eq
      | lst ds=>
        obtain ⟨d,e1,e2⟩:=uc8.mp eq
        cases e2
        obtain ⟨vs,g1,g2⟩:=f.s.obs kk a _ h1 es;obtain ⟨v,e3,e4⟩:=Gb g2 e1;exact .inl ⟨a,vs,i,v,rfl,rfl,SqL.of g1,e3,k _ H c f .refl e4⟩
end
variable {f:M D}{id:String}{R:List V->Hp->VK->Prop}{x:Str}{p:Pos}
section
variable {X:Cx}{e a b:Expr}{es:List Expr}{pos:Pos}
inductive RO (K:PySem.W.Frag)(f:M (Option Int))(σ:L2.St)(H:Hp)(Q:Option Int->Hp->Prop):Prop where
 | mk (Oo:Addr->Prop) (c:Cf) (t:T) (fi:FInv K Oo c t σ H) (r:Option Int) (t':T) (e:f t=some (r,t')) (k:∀H' c',FInv K Oo c' t' σ H'->Stp Oo c H c' H'->Q r H'):RO K f σ H Q
theorem Ps {oe:Option Expr}{t t':TO}(h:PO X oe t)(i:∀σ H Q,t' σ H Q->t σ H Q):PO X oe t':=λpins s σ H Q I q=>h pins s σ H Q I (i σ H Q q)
def fNo:M (Option Int):=ret none
def asI:D->M (Option Int)
 | .int i=>ret (some i)
 | _=>fail
def DS (f:M D):M (Option Int):=bnd f asI
theorem U7:PO X none (RO X.K fNo):=Ps VX λσ H Q z9=>by
 obtain ⟨Oo,c,t,fi,r,t',eq,k⟩:=z9
 cases eq
 exact k H c fi .refl
theorem U8 (h:PE X e (RE X.K f)):PO X (some e) (RO X.K (DS f)):=Ps (VY h) λσ H Q z9=>by
 obtain ⟨Oo,c,t,fi,r,t',eq,k⟩:=z9;obtain ⟨d,t1,e1,eq⟩:=Ae eq;refine ⟨Oo,c,t,fi,d,t1,e1,λv H1 c1 f1 s1 rv=>?_⟩
 cases rv with
 | int i=>cases eq;exact ⟨i,rfl,k H1 c1 f1 s1⟩
 | _=>cases eq
def RQ (K:PySem.W.Frag)(R:V->Option Int->Option Int->Hp->VK->Prop)(h:D->Option Int->Option Int->M D):Prop:=∀{Oo:Addr->Prop} {c:Cf} {t:T} {σ:L2.St} {H:Hp} {x:V} {dx r:D} {lo hi:Option Int} {t':T} {Q:VK},FInv K Oo c t σ H->Rep K c H x dx->h dx lo hi t=some (r,t')->
 (∀v H' c',FInv K Oo c' t' σ H'->Stp Oo c H c' H'->Rep K c' H' v r->Q v H')->R x lo hi H Q
def fSl (f:M D)(l u:M (Option Int))(h:D->Option Int->Option Int->M D):M D:=bnd f λx=>bnd l λlo=>bnd u λhi=>h x lo hi
theorem So {R:V->Option Int->Option Int->Hp->VK->Prop}{h:D->Option Int->Option Int->M D}{l u:M (Option Int)}{lo hi:Option Expr}{p2:Pos}(hr:SlR X R)(s:RQ X.K R h)(he:PE X e (RE X.K f))(hl:PO X lo (RO X.K l))(hu:PO X hi (RO X.K u)):PE X (.Subscript e (.Slice lo hi none p2) pos) (RE X.K (fSl f l u h)):=
 AA (MC hr he hl hu) λσ H Q z9=>by
  obtain ⟨Oo,c,t,fi,r,t',eq,k⟩:=z9;obtain ⟨d,t1,e1,eq⟩:=Ae eq;obtain ⟨ol,t2,e2,eq⟩:=Ae eq;obtain ⟨oh,t3,e3,eq⟩:=Ae eq;exact ⟨Oo,c,t,fi,d,t1,e1,λv H1 c1 f1 s1 rv=>⟨Oo,c1,t1,f1,ol,t2,e2,λH2 c2 f2 s2=>⟨Oo,c2,t2,f2,oh,t3,e3,λH3 c3 f3 s3=>
   s f3 (rv.mono (s2.trans s3).ext) eq λv H' c' f' s' rv'=>k v H' c' f' (((s1.trans s2).trans s3).trans s') rv'⟩⟩⟩
def Bn {α:Type}(xs:List α)(lo hi:Option Int):List α:=(xs.drop (HT.sIx xs.length 0 lo)).take (HT.sIx xs.length xs.length hi - HT.sIx xs.length 0 lo)
def slD:D->Option Int->Option Int->M D
 | .lst ds,lo,hi=>ret (.lst (Bn ds lo hi))
 | .scr ns,lo,hi=>ret (.lst ((Bn ns lo hi).map .int))
 | .tup ds,lo,hi=>λt=>if HT.sIx ds.length 0 lo=0/\HT.sIx ds.length ds.length hi=ds.length then none else some (.tup (Bn ds lo hi),t)
 | _,_,_=>fail
theorem Ff {K:PySem.W.Frag}{vs:List V}{ds:List D}(r:Reps K c H vs ds)(lo hi:Option Int):Reps K c H (Gf vs lo hi) (Bn ds lo hi):=by
 unfold Gf Bn;rw [r.length];exact (r.drop _).take _
theorem Sb {α β:Type}(g:α->β)(xs:List α)(lo hi:Option Int):Bn (xs.map g) lo hi=(Bn xs lo hi).map g:=by
 unfold Bn;rw [uj0,List.map_take,List.map_drop]
theorem KD (ns:List Int)(lo hi:Option Int):Gf (ns.map V.int) lo hi=(Bn ns lo hi).map V.int:=Sb V.int ns lo hi
def TC (K:PySem.W.Frag):V->Option Int->Option Int->Hp->VK->Prop:=λx lo hi H Q=>YB K x lo hi H Q\/YD K x lo hi H Q
theorem sl2:SlR X (TC X.K):=sl_list.or YO
theorem YM {K:PySem.W.Frag}:RQ K (TC K) slD:=λ{Oo c t σ H x dx r lo hi t' Q} f rx eq k=>by
 cases rx with
 | @lst p vs ds h1 h2 h3=>
   cases eq
   exact .inl ⟨p,vs,rfl,SqL.of h1,λq hq=>k _ _ c (f.laid hq) (f.stp_laid hq) (.lst Aj (f.s.free hq) ((Ff h3 lo hi).mono (Ext.laid f.s hq)))⟩
 | @scr p ns h1=>
   cases eq
   refine .inl ⟨p,_,rfl,h1.sq,λq hq=>k _ _ c (f.laid hq) (f.stp_laid hq) (.lst Aj (f.s.free hq) ?_)⟩;rw [KD];exact Reps.ints _
 | @tup p vs ds h1 h2 h3=>
   unfold slD at eq;dsimp only at eq
   split at eq
   ·cases eq
   ·next hn=>
    cases eq
    exact .inr ⟨p,vs,rfl,SqT.of h1,by rw [h3.length];exact hn,λq hq=>k _ _ c (f.laid hq) (f.stp_laid hq) (.tup Aj (f.s.free hq) ((Ff h3 lo hi).mono (Ext.laid f.s hq)))⟩
 | _=>cases eq
theorem bb {h:List D->M D}{f:M (List D)}(hc:Cj X (.builtin id) R)(s:EK X.K R h)(hg:Gl X x)(hm:X.mg x=none)(hv:bootBuiltins x=some (.builtin id))(ha:PA X (e :: es) (RA X.K f))(hn:x≠"__name__":=by decide)(hdb:(x == ("__debug__" : Str))=false:=by decide)
 (he:starEach (e :: es) X.env=(false,eval e X.env) :: starEach es X.env:=by rfl) (hpl:(backTo pos (starEach es X.env)).any (·.1)=false:=by rfl):PE X (.Call (.Name x p) (e :: es) [] pos) (RE X.K (fB f h)):=
 AA (Tn hc hg hm hv ha hn hdb he hpl) λ_ _ _ q=>RE.callB s q
theorem bf {h:List D->M D}{f:M (List D)}(hc:Cj X (.type id) R)(s:EK X.K R h)(hg:Gl X x)(hm:X.mg x=none)(hv:bootBuiltins x=some (.type id))(ha:PA X (e :: es) (RA X.K f))(hn:x≠"__name__":=by decide)(hdb:(x == ("__debug__" : Str))=false:=by decide)
 (he:starEach (e :: es) X.env=(false,eval e X.env) :: starEach es X.env:=by rfl) (hpl:(backTo pos (starEach es X.env)).any (·.1)=false:=by rfl):PE X (.Call (.Name x p) (e :: es) [] pos) (RE X.K (fB f h)):=
 AA (Ho hc hg hm hv ha hn hdb he hpl) λ_ _ _ q=>RE.callB s q
theorem bg {h:List D->M (List D)}{f:M (List D)}(hc:Cj X (.type id) R)(s:K6 X.K R h)(hg:Gl X x)(hm:X.mg x=none)(hv:bootBuiltins x=some (.type id))(ha:PA X (e :: es) (RA X.K f))(hn:x≠"__name__":=by decide)(hdb:(x == ("__debug__" : Str))=false:=by decide)
 (he:starEach (e :: es) X.env=(false,eval e X.env) :: starEach es X.env:=by rfl) (hpl:(backTo pos (starEach es X.env)).any (·.1)=false:=by rfl):PE X (.Call (.Name x p) (e :: es) [] pos) (RF X.K (fBF f h)):=
 AA (Ho hc hg hm hv ha hn hdb he hpl) λ_ _ _ q=>RF.callB s q
theorem Ov {op:Operator}{R:R2}{g:M D}{h:D->D->M (List D)}(ho:OpR X (binaryOp op) R)(s:Ja X.K R h)(ha:PE X a (RE X.K f))(hb:PE X b (RE X.K g)):PE X (.BinOp a op b pos) (RF X.K (bnd f λx=>bnd g λy=>h x y)):=
 AA (OP ho ha hb) λ_ _ _ q=>RF.two s q
end
section
variable {K:PySem.W.Frag}
theorem Df {xs:List V}{d:D}(r:Reps K c H xs [d]):∃v,xs=[v]/\Rep K c H v d:=by
 cases r with
 | cons r rs=>cases rs;exact ⟨_,rfl,r⟩
theorem UA {xs:List V}{d e:D}(r:Reps K c H xs [d,e]):∃v u,xs=[v,u]/\Rep K c H v d/\Rep K c H u e:=by
 cases r with
 | cons r rs=>
   obtain ⟨u,rfl,q⟩:=Df rs;exact ⟨_,u,rfl,r,q⟩
def AQ:List D->M D
 | [.lst ds]=>ret (.int ds.length)
 | [.tup ds]=>ret (.int ds.length)
 | [.scr ns]=>ret (.int ns.length)
 | [.str x]=>lim x.length (.int x.length)
 | [.obj k]=>λt=>match t.S[k]? with
   | some (.lst ds)=>some (.int ds.length,t)
   | _=>none
 | _=>fail
theorem Wh:EK K (λxs H Q=>∃x n,xs=[x]/\WU K x H n/\Q (.int n) H) AQ:=λ{Oo c t σ H xs ds r t' Q} f rx eq k=>by
 match ds,rx,eq with
 | [],_,eq=>cases eq
 | d0 :: _ :: _,_,eq=>cases d0 <;> cases eq
 | [d],rx,eq=>
   obtain ⟨v,rfl,rv⟩:=Df rx
   cases rv with
   | @lst a vs ds h1 h2 h3=>cases eq;exact ⟨_,ds.length,rfl,.inl ⟨vs,SqL.of h1,h3.length.symm⟩,k _ H c f .refl (.int _)⟩
   | @tup a vs ds h1 h2 h3=>cases eq;exact ⟨_,ds.length,rfl,.inr ⟨vs,SqT.of h1,h3.length.symm⟩,k _ H c f .refl (.int _)⟩
   | @scr a ns h1=>cases eq;exact ⟨_,ns.length,rfl,.inl ⟨_,h1.sq,by simp⟩,k _ H c f .refl (.int _)⟩
   | str x=>
     obtain ⟨hl,z⟩:=CB eq
     cases z
     exact ⟨_,x.length,rfl,⟨um4 hl Bf,rfl⟩,k _ H c f .refl (.int _)⟩
   | @obj a kk h1=>
     unfold AQ at eq;dsimp only at eq
     cases es:t.S[kk]? with
     | none=>rw [es] at eq;cases eq
     | some o=>
       rw [es] at eq
       cases o with
       | dct _ | ins _ _=>cases eq
       | lst ds=>
         cases eq
         obtain ⟨vs,g1,g2⟩:=f.s.obs kk a _ h1 es;exact ⟨_,ds.length,rfl,.inl ⟨vs,SqL.of g1,g2.length.symm⟩,k _ H c f .refl (.int _)⟩
   | _=>cases eq
noncomputable def tyD:D->Option String
 | .non=>some "NoneType"
 | .bl _=>some "bool"
 | .int _=>some "int"
 | .str _=>some "str"
 | .lst _=>some "list"
 | .tup _=>some "tuple"
 | .dic=>some "dict"
 | _=>none
noncomputable def Kc (n m:String):Option Bool:=match m with
 | "int"=>some (n == "int" || n == "bool")
 | "bool"=>some (n == "bool")
 | "str"=>some (n == "str")
 | "list"=>some (n == "list")
 | "tuple"=>some (n == "tuple")
 | "dict"=>some (n == "dict")
 | _=>none
def Dv:List D->M D
 | [d,.ty m]=>λt=>match tyD d with
   | some n=>(Kc n m).map λb=>(.bl b,t)
   | none=>none
 | _=>fail
theorem Vk {d:D}{n m:String}{b:Bool}(h1:tyD d=some n)(h2:Kc n m=some b):PySem.W.kitOne K (.type n) (.type m)=some b:=by
 have hm:m = "int"\/m = "bool"\/m = "str"\/m = "list"\/m = "tuple"\/m = "dict":=by
  unfold Kc at h2
  split at h2 <;> simp_all
 have hn:n = "NoneType"\/n = "bool"\/n = "int"\/n = "str"\/n = "list"\/n = "tuple"\/n = "dict":=by
  cases d <;> simp [tyD] at h1 <;> simp [<-h1]
 rcases hm with rfl | rfl | rfl | rfl | rfl | rfl <;> rcases hn with rfl | rfl | rfl | rfl | rfl | rfl | rfl <;> (cases h2;rfl)
def Yv (K:PySem.W.Frag):List V->Hp->VK->Prop:=λxs H Q=>∃x n t b,xs=[x,.ty n]/\TyOf K H x t/\PySem.W.kitOne K t (.type n)=some b/\Q (.bl b) H
theorem R5:Cj X (.builtin "isinstance") (Yv X.K):=by
 intro pins s σ H xs us Q I r h;obtain ⟨x,n,t,b,rfl,ty,e,q⟩:=h;obtain ⟨u,w',rfl,rx,rt⟩:=UE r
 cases rt
 exact Qk I rx ty e λtk=>⟨.bl b,H,I.tok tk,rfl,q⟩
theorem Wg:EK K (Yv K) Dv:=λ{Oo c t σ H xs ds r t' Q} f rx eq k=>by
 unfold Dv at eq
 split at eq
 ·next d m=>
  obtain ⟨v,u,rfl,rv,ru⟩:=UA rx
  cases ru
  cases et:tyD d with
  | none=>rw [et] at eq;cases eq
  | some n=>
    rw [et] at eq;obtain ⟨b,e1,e2⟩:=uc8.mp eq
    cases e2
    refine ⟨v,m,.type n,b,rfl,?_,Vk et e1,k _ H c f .refl (.bl b)⟩
    cases rv <;> first | (cases et;first | exact .non | exact .bl _ | exact .int _ | exact .str _ | exact .lst ‹_› | exact .tup ‹_› | exact .dK ‹_›) | cases et
 ·cases eq
def Kt:List D->M D
 | [.lst ds]=>ret (.tup ds)
 | [.tup ds]=>ret (.tup ds)
 | [.obj k]=>λt=>match t.S[k]? with
   | some (.lst ds)=>some (.tup ds,t)
   | _=>none
 | _=>fail
theorem Ws:EK K (λxs H Q=>∃p ys,xs=[.ref p]/\((SqL K H p ys/\∀l,H l=none->Q (.ref l) (upd H l (.tup ys)))\/(SqT K H p ys/\Q (.ref p) H))) Kt:=λ{Oo c t σ H xs ds r t' Q} f rx eq k=>by
 match ds,rx,eq with
 | [],_,eq=>cases eq
 | d0 :: _ :: _,_,eq=>cases d0 <;> cases eq
 | [d],rx,eq=>
   obtain ⟨v,rfl,rv⟩:=Df rx
   cases rv with
   | @lst a vs ds h1 h2 h3=>cases eq;exact ⟨a,vs,rfl,.inl ⟨SqL.of h1,λq hq=>k _ _ c (f.laid hq) (f.stp_laid hq) (.tup Aj (f.s.free hq) (h3.mono (Ext.laid f.s hq)))⟩⟩
   | @tup a vs ds h1 h2 h3=>cases eq;exact ⟨a,vs,rfl,.inr ⟨SqT.of h1,k _ H c f .refl (.tup h1 h2 h3)⟩⟩
   | @obj a kk h1=>
     unfold Kt at eq;dsimp only at eq
     cases es:t.S[kk]? with
     | none=>rw [es] at eq;cases eq
     | some o=>
       rw [es] at eq
       cases o with
       | dct _ | ins _ _=>cases eq
       | lst ds=>
         cases eq
         obtain ⟨vs,g1,g2⟩:=f.s.obs kk a _ h1 es;exact ⟨a,vs,rfl,.inl ⟨SqL.of g1,λq hq=>k _ _ c (f.laid hq) (f.stp_laid hq) (.tup Aj (f.s.free hq) (g2.mono (Ext.laid f.s hq)))⟩⟩
   | _=>cases eq
def Go:List D->M (List D)
 | [.lst ds]=>ret ds
 | [.tup ds]=>ret ds
 | [.scr ns]=>ret (ns.map .int)
 | [.obj k]=>λt=>match t.S[k]? with
   | some (.lst ds)=>some (ds,t)
   | _=>none
 | _=>fail
theorem Wi:K6 K (λxs H Q=>∃p ys,xs=[.ref p]/\(SqL K H p ys\/SqT K H p ys)/\∀l,H l=none->Q (.ref l) (upd H l (.lst ys))) Go:=λ{Oo c t σ H xs ds r t' Q} f rx eq k=>by
 match ds,rx,eq with
 | [],_,eq=>cases eq
 | d0 :: _ :: _,_,eq=>cases d0 <;> cases eq
 | [d],rx,eq=>
   obtain ⟨v,rfl,rv⟩:=Df rx
   cases rv with
   | @lst a vs ds h1 h2 h3=>cases eq;exact ⟨a,vs,rfl,.inl (SqL.of h1),λq hq=>k q vs H c f .refl h3 hq⟩
   | @tup a vs ds h1 h2 h3=>cases eq;exact ⟨a,vs,rfl,.inr (SqT.of h1),λq hq=>k q vs H c f .refl h3 hq⟩
   | @scr a ns h1=>cases eq;exact ⟨a,_,rfl,.inl h1.sq,λq hq=>k q _ H c f .refl (Reps.ints ns) hq⟩
   | @obj a kk h1=>
     unfold Go at eq;dsimp only at eq
     cases es:t.S[kk]? with
     | none=>rw [es] at eq;cases eq
     | some o=>
       rw [es] at eq
       cases o with
       | dct _ | ins _ _=>cases eq
       | lst ds=>
         cases eq
         obtain ⟨vs,g1,g2⟩:=f.s.obs kk a _ h1 es;exact ⟨a,vs,rfl,.inl (SqL.of g1),λq hq=>k q vs H c f .refl g2 hq⟩
   | _=>cases eq
def Ka:List D->M D
 | [.int i]=>ret (.int i)
 | [.bl b]=>ret (.int (if b then 1 else 0))
 | _=>fail
theorem We:EK K (λxs H Q=>(∃i,xs=[.int i]/\Q (.int i) H)\/∃k,xs=[.bl k]/\Q (.int (if k then 1 else 0)) H) Ka:=λ{Oo c t σ H xs ds r t' Q} f rx eq k=>by
 match ds,rx,eq with
 | [],_,eq=>cases eq
 | d0 :: _ :: _,_,eq=>cases d0 <;> cases eq
 | [d],rx,eq=>
   obtain ⟨v,rfl,rv⟩:=Df rx
   cases rv with
   | int i=>cases eq;exact .inl ⟨i,rfl,k _ H c f .refl (.int _)⟩
   | bl b=>cases eq;exact .inr ⟨b,rfl,k _ H c f .refl (.int _)⟩
   | _=>cases eq
def aU:List D->M D
 | [.int i]=>ret (.int (if i < 0 then -i else i))
 | _=>fail
def FF:List D->M D
 | [.int i,.int j]=>ret (.int (if j < i then j else i))
 | _=>fail
def bq:List D->M D
 | [.int i,.int j]=>ret (.int (if j > i then j else i))
 | _=>fail
theorem Wj:EK K (λxs H Q=>∃i j,xs=[.int i,.int j]/\Q (.int (if j < i then j else i)) H) FF:=λ{Oo c t σ H xs ds r t' Q} f rx eq k=>by
 unfold FF at eq
 split at eq
 ·next i j=>
  obtain ⟨v,u,rfl,rv,ru⟩:=UA rx
  cases rv;cases ru;cases eq
  exact ⟨i,j,rfl,k _ H c f .refl (.int _)⟩
 ·cases eq
def IM:List D->M D
 | [.str x]=>λt=>if x.length=1 then some (.int (x.cps.getD 0 0:Nat),t) else none
 | _=>fail
theorem Wm:EK K (λxs H Q=>∃x,xs=[.str x]/\x.length=1/\Q (.int (x.cps.getD 0 0:Nat)) H) IM:=λ{Oo c t σ H xs ds r t' Q} f rx eq k=>by
 match ds,rx,eq with
 | [],_,eq=>cases eq
 | d0 :: _ :: _,_,eq=>cases d0 <;> cases eq
 | [d],rx,eq=>
   obtain ⟨v,rfl,rv⟩:=Df rx
   cases rv with
   | str x=>
     unfold IM at eq;dsimp only at eq
     split at eq
     ·next h=>cases eq;exact ⟨x,rfl,h,k _ H c f .refl (.int _)⟩
     ·cases eq
   | _=>cases eq
end
end F2
namespace L2
open PySem PySem.Spec PyProof.Rows
open AutoSeq1 (wpAny_loadPart')
def Ut (K:PySem.W.Frag):R2:=λx y H Q=>∃a b ys,x = .ref a/\y = .ref b/\SqT K H a []/\SqT K H b ys/\Q (.ref b) H
theorem VB {X:Cx}:OpR X (binaryOp .Add) (Ut X.K):=by
 intro pins s σ H x y v u Q I rx ry h;obtain ⟨a,b,ys,rfl,rfl,h1,h2,q⟩:=h
 cases rx
 cases ry
 obtain ⟨its,r,⟨⟨cls,dd,data,sl⟩,ho,hc,n,hd⟩,z⟩:=I.tuple h1;obtain ⟨its2,r2,⟨⟨cls2,dd2,data2,sl2⟩,ho2,hc2,n2,hd2⟩,z2⟩:=I.tuple h2;simp only at hc hd hc2 hd2;subst hc hd hc2 hd2
 cases r
 exact concat_meets ⟨_,ho,rfl⟩ ⟨_,ho2,rfl⟩ noFill_tuple_add seq_tuple_add uc6 ub9 (ub5 _ _)
  (tuple_addW0 a b #[] its2.toArray n n2 dd dd2 sl sl2 rfl) ⟨ho,ho2,.ref b,H,I,rfl,q⟩
theorem IJ:fillsNumberSlot (.type "tuple") "mul" = pure false:=
 PySem.fillsNumberSlot_seq (id:="tuple.__mul__") (r:=some (.builtin "tuple.__rmul__")) F.slot_tuple_mul.lookup (by decide +kernel) F.slot_tuple_rmul.lookup (by decide +kernel)
theorem MN:seqRepeat? (.type "tuple")=pure (some (.builtin "tuple.__mul__")):=by
 unfold seqRepeat?;rw [PySem.seqSlot_of (T:="tuple") (name:="__mul__") (id:="tuple.__mul__") F.slot_tuple_mul.lookup (by decide +kernel),PySem.seqSlot_of (T:="tuple") (name:="__rmul__") (id:="tuple.__rmul__") F.slot_tuple_rmul.lookup (by decide +kernel)];rfl
theorem Km (a:Int)(t:Tok)(l:Addr)(items:Array Value)(n:Nat)(dd:Option Addr)(sl:Array (Option Value)) :
 Meets (Builtin.«int.__rmul__» ⟨[.int a t,.ref l],[]⟩) (λ_ R s=>s.heap.get? l=some { cls:=.type "tuple",dict:=dd,data:=.seq items n,slots:=sl }/\R (.ok (.ret Value.notImplemented)) s):=
 .of_wp λprog w A R s h=>by obtain ⟨hp,g,d,tk,os⟩:=s;obtain ⟨hl,h⟩:=h;wp_walk;exact ⟨_,rfl,h⟩
theorem Nb (l:Addr)(items:Array Value)(n:Nat)(dd:Option Addr)(sl:Array (Option Value))(x:Int)(u:Tok)(hc0:(decide (x < -(2 ^ 63)) || decide (x ≥ 2 ^ 63))=false)(hc1:(items.isEmpty || x == 1)=true) :
 Meets (Builtin.«tuple.__mul__» ⟨[.ref l,.int x u],[]⟩) (λ_ R s=>s.heap.get? l=some { cls:=.type "tuple",dict:=dd,data:=.seq items n,slots:=sl }/\R (.ok (.ret (Value.ref l))) s):=
 .of_wp λprog w A R s h=>by
  obtain ⟨hp,g,d,tk,os⟩:=s;obtain ⟨hl,h⟩:=h;have f1:=AutoSeq1.idx_int;have f2:=AutoSeq1.sub_tuple_tuple;have f3:=AutoSeq1.sub_list_list;have f4:=AutoSeq1.sub_tuple_list;have f5:=AutoSeq1.sub_list_tuple
  wp_walk using wpAny_loadPart' hl
  refine wpAny_ite_split (λz=>absurd z (by rw [hc0];decide)) λ_=>?_
  wp_walk using wpAny_loadPart' hl
  exact ⟨_,rfl,h⟩
theorem Nc (l:Addr)(items:Array Value)(n:Nat)(dd:Option Addr)(sl:Array (Option Value))(x:Int)(u:Tok)(hc0:(decide (x < -(2 ^ 63)) || decide (x ≥ 2 ^ 63))=false)(hc1:(items.isEmpty || x == 1)=false)(hc2:(decide (x<=0) || items.isEmpty)=true) :
 Meets (Builtin.«tuple.__mul__» ⟨[.ref l,.int x u],[]⟩) (λ_ R s=>s.heap.get? l=some { cls:=.type "tuple",dict:=dd,data:=.seq items n,slots:=sl }/\R (.ok (.ret (Value.ref s.heap.objs.size))) { s with heap:=s.heap.push { cls:=Value.type "tuple",data:=Data.seq #[] },toks:=s.toks }):=
 .of_wp λprog w A R s h=>by
  obtain ⟨hp,g,d,tk,os⟩:=s;obtain ⟨hl,h⟩:=h;have f1:=AutoSeq1.idx_int;have f2:=AutoSeq1.sub_tuple_tuple;have f3:=AutoSeq1.sub_list_list;have f4:=AutoSeq1.sub_tuple_list;have f5:=AutoSeq1.sub_list_tuple
  wp_walk using wpAny_loadPart' hl
  refine wpAny_ite_split (λz=>absurd z (by rw [hc0];decide)) λ_=>?_
  wp_walk using wpAny_loadPart' hl
  exact ⟨_,rfl,h⟩
theorem Nd (l:Addr)(items:Array Value)(n:Nat)(dd:Option Addr)(sl:Array (Option Value))(x:Int)(u:Tok)(hc0:(decide (x < -(2 ^ 63)) || decide (x ≥ 2 ^ 63))=false)(hc1:(items.isEmpty || x == 1)=false)(hc2:(decide (x<=0) || items.isEmpty)=false)
 (hc3:¬(items.size:Int) * x > (2 ^ 63 - 1) / 8) (hc4:Builtin.Tuple.tupleTooMany ((items.size:Int) * x)=false) (hsz:(List.foldl (λx1 x2=>x1++x2) #[] (List.replicate x.toNat items)).size<=sizeLine) :
 Meets (Builtin.«tuple.__mul__» ⟨[.ref l,.int x u],[]⟩) (λ_ R s=>s.heap.get? l=some { cls:=.type "tuple",dict:=dd,data:=.seq items n,slots:=sl }/\R (.ok (.ret (Value.ref s.heap.objs.size))) { s with heap:=s.heap.push { cls:=Value.type "tuple",data:=Data.seq (List.foldl (λx1 x2=>x1++x2) #[] (List.replicate x.toNat items)) },toks:=s.toks }):=
 .of_wp λprog w A R s h=>by
  obtain ⟨hp,g,d,tk,os⟩:=s;obtain ⟨hl,h⟩:=h;have f1:=AutoSeq1.idx_int;have f2:=AutoSeq1.sub_tuple_tuple;have f3:=AutoSeq1.sub_list_list;have f4:=AutoSeq1.sub_tuple_list;have f5:=AutoSeq1.sub_list_tuple
  wp_walk using wpAny_loadPart' hl
  refine wpAny_ite_split (λz=>absurd z (by rw [hc0];decide)) λ_=>?_
  wp_walk using wpAny_loadPart' hl
  refine wpAny_ite_split (λz=>absurd z hc3) λ_=>?_
  wp_walk using wpAny_loadPart' hl
  exact ⟨_,rfl,h⟩
end L2
namespace L2
open PySem PySem.Spec PyProof.Rows
open AutoSeq1 (wpAny_loadPart')
def Uy (K:PySem.W.Frag):R2:=λx y H Q=>∃a k xs,x = .ref a/\y = .int k/\SqT K H a xs/\-(2 ^ 62)<=k/\k < 2 ^ 62/\xs.length * k.toNat<=sizeLine/\
 ((xs=[]\/k=1)->Q (.ref a) H)/\(¬(xs=[]\/k=1)->∀p,H p=none->Q (.ref p) (upd H p (.tup (List.replicate k.toNat xs).flatten)))
theorem Inv.tnew {X:Cx}{pins:List (Addr×Obj)}{σ:L2.St}{H:Hp}{s:Shared}{ys:List V}{its:List Value}{t':Nat}(I:Inv X pins σ H s)(hv:Vals ys its)(hz:ys.length<=sizeLine) :
 Inv X pins σ (upd H s.heap.objs.size (.tup ys)) { s with heap:=s.heap.push { cls:=.type "tuple",data:=.seq its.toArray },toks:=t' }:=
 I.laid (λb u e=>uc4 _ e) (un2 _) ⟨hz,its,hv,⟨_,ue6 _ rfl,rfl,_,rfl⟩⟩
theorem op_mulT {X:Cx}:OpR X (binaryOp .Mult) (Uy X.K):=by
 intro pins s σ H x y v u Q I rx ry h;obtain ⟨a,k,xs,rfl,rfl,hq,h1,h2,hz,q1,q2⟩:=h
 cases rx
 obtain ⟨t,rfl⟩:=ry;obtain ⟨its,r,⟨⟨cls,dd,data,sl⟩,ho,hc,n,hd⟩,z⟩:=I.tuple hq;simp only at hc hd;subst hc hd;have hl:=r.length;have hc0:(decide (k < -(2 ^ 63)) || decide (k ≥ 2 ^ 63))=false:=by
  rw [Bool.or_eq_false_iff];exact ⟨uk5 (by lia),uk5 (by lia)⟩
 refine wpAny_binaryOp_repeat_ref (T:="tuple") (U:="int") (by decide) ⟨_,ho,rfl⟩ (λs'=>typeIs_int s' k t) IJ F.fills_int_mul F.slot_int_rmul MN F.slot_int_index.lookup
  (call_meets F.slot_int_rmul (typeIs_int s k t) F.entry_int_rmul (F.args_int_rmul_2 _ _) (Km k t a its.toArray n dd sl) ⟨ho,rfl,⟨_,ho,rfl⟩,?_⟩)
 by_cases hs:xs=[]\/k=1
 ·have hc1:(its.toArray.isEmpty || k == 1)=true:=by
   rw [uk1];rcases hs with z | z
   ·subst z;cases r;exact .inl rfl
   ·exact .inr (by simp [z])
  exact call_meets F.slot_tuple_mul ⟨_,ho,rfl⟩ F.entry_tuple_mul (F.args_tuple_mul_2 _ _) (Nb a its.toArray n dd sl k t hc0 hc1) ⟨ho,.ref a,H,I,rfl,q1 hs⟩
 ·have hne:its≠[]:=λz=>hs (.inl (by subst z;cases r;rfl))
  have hk1:k≠1:=λz=>hs (.inr z);have hem:its.toArray.isEmpty=false:=by cases its with | nil=>exact absurd rfl hne | cons _ _=>rfl
  have hc1:(its.toArray.isEmpty || k == 1)=false:=by rw [hem];simpa using hk1
  by_cases hk:k<=0
  ·have hc2:(decide (k<=0) || its.toArray.isEmpty)=true:=by rw [ul1 hk];rfl
   refine call_meets F.slot_tuple_mul ⟨_,ho,rfl⟩ F.entry_tuple_mul (F.args_tuple_mul_2 _ _) (Nc a its.toArray n dd sl k t hc0 hc1 hc2) ⟨ho,?_⟩;have hk0:k.toNat=0:=by lia
   refine ⟨.ref _,_,I.tnew (t':=s.toks) (ys:=[]) (its:=[]) .nil (un3 _),rfl,?_⟩;have:=q2 hs _ I.fresh;rw [hk0] at this;exact this
  ·have hc2:(decide (k<=0) || its.toArray.isEmpty)=false:=by rw [uk5 hk,hem];rfl
   have hsz:its.length * k.toNat<=sizeLine:=by rw [<-hl];exact hz
   have hmul:((its.toArray.size:Nat):Int) * k=((its.length * k.toNat:Nat):Int):=by
    rw [ug2,Int.natCast_mul,uf0 (by lia)]
   have hline:(sizeLine:Nat)<=(2 ^ 63 - 1) / 8:=by decide
   have hc3:¬(its.toArray.size:Int) * k > (2 ^ 63 - 1) / 8:=by rw [hmul];lia
   have hc4:Builtin.Tuple.tupleTooMany ((its.toArray.size:Int) * k)=false:=by
    unfold Builtin.Tuple.tupleTooMany;rw [hmul];exact uk5 (by lia)
   have f0:List.foldl (λx1 x2=>x1++x2) #[] (List.replicate k.toNat its.toArray)=(List.replicate k.toNat its).flatten.toArray:=by
    have:=GW its k.toNat [];rw [uj7] at this;exact this
   have hfz:(List.foldl (λx1 x2=>x1++x2) #[] (List.replicate k.toNat its.toArray)).size<=sizeLine:=by
    rw [f0,ug2,Ke,um7];exact hsz
   refine call_meets F.slot_tuple_mul ⟨_,ho,rfl⟩ F.entry_tuple_mul (F.args_tuple_mul_2 _ _) (Nd a its.toArray n dd sl k t hc0 hc1 hc2 hc3 hc4 hfz) ⟨ho,?_⟩;rw [f0];exact ⟨.ref _,_,I.tnew (t':=s.toks) (r.rep k.toNat) (by rw [Ke,um7];exact hz),rfl,q2 hs _ I.fresh⟩
theorem Ha (l:Addr)(items:Array Value)(n:Nat)(b:Addr)(items2:Array Value)(n2:Nat)(dd:Option Addr)(sl:Array (Option Value))(hs0:¬(!items.isEmpty && Builtin.List.listTooLong (items.size + items2.size))=true)(hs1:items.size<=sizeLine)(hs2:items.size + items2.size<=sizeLine + 1) :
 Meets (Builtin.«list.extend» ⟨[.ref l,.ref b],[]⟩) (λ_ R s=>s.heap.get? l=some { cls:=.type "list",dict:=none,data:=.seq items n,slots:=#[] }/\s.heap.get? b=some { cls:=.type "tuple",dict:=dd,data:=.seq items2 n2,slots:=sl }/\R (.ok (.ret Value.none)) { s with heap:=s.heap.update l (Obj.mapSeq λx=>x++items2),toks:=s.toks }):=
 .of_wp λprog w A R s h=>by
  obtain ⟨hp,g,d,tk,os⟩:=s;obtain ⟨hl,hb,h⟩:=h;have f1:=AutoSeq1.idx_int;have f2:=AutoSeq1.sub_tuple_tuple;have f3:=AutoSeq1.sub_list_list;have f4:=AutoSeq1.sub_tuple_list;have f5:=AutoSeq1.sub_list_tuple;have hz':(items++items2).size<=sizeLine + 1:=by rw [Array.size_append];exact hs2
  wp_walk using (wpAny_updateSeq hl rfl (hz:=hs1) (_hz':=hz')),wpAny_loadPart' hl,wpAny_loadPart' hb;exact ⟨_,rfl,h⟩
def MJ (K:PySem.W.Frag):V->List V->Hp->VK->Prop:=λx vs H Q=>∃l b xs zs,x = .ref l/\vs=[.ref b]/\H l=some (.lst xs)/\SqT K H b zs/\xs.length + zs.length<=sizeLine/\Q .non (upd H l (.lst (xs++zs)))
theorem OK {X:Cx}:MtM X "list.extend" (MJ X.K):=by
 intro pins s σ H x vs v us Q I rx rv h;obtain ⟨l,b,xs,zs,rfl,rfl,hH,hB,hz,q⟩:=h
 cases rx
 obtain ⟨u,rfl,ru⟩:=rv.one
 cases ru
 obtain ⟨z,its,n,r,hl,e⟩:=I.lstM hH;obtain ⟨its2,r2,⟨⟨cls,dd,data,sl⟩,ho,hc,n2,hd⟩,z2⟩:=I.tuple hB;simp only at hc hd;subst hc hd;have hl2:=r2.length;have hsz:its.toArray.size + its2.toArray.size<=sizeLine:=by rw [ug2,ug2];lia
 have hlong:¬(!its.toArray.isEmpty && Builtin.List.listTooLong (its.toArray.size + its2.toArray.size))=true:=by
  rw [IK hsz,uk8];exact uf4
 refine call_meets F.slot_list_extend ⟨_,e,rfl⟩ F.entry_list_extend (F.args_list_extend_2 _ _)
  (Ha l its.toArray n b its2.toArray n2 dd sl hlong (by rw [ug2];lia) (by lia)) ⟨e,ho,?_⟩
 refine ⟨.non,_,I.lset (its':=its++its2) hH e (by simp) (r.append r2) ?_,rfl,q⟩;rw [uf7];lia
theorem MtM.or {X:Cx}{id:String}{r r':V->List V->Hp->VK->Prop}(h:MtM X id r)(h':MtM X id r'):MtM X id (λx xs H Q=>r x xs H Q\/r' x xs H Q):=by
 intro pins s σ H x xs v us Q I rx rv q;rcases q with q | q
 ·exact h pins s σ H x xs v us Q I rx rv q
 ·exact h' pins s σ H x xs v us Q I rx rv q
section
variable {X:Cx}{a b c d:Expr}{ta tb tc td:TE}{pos:Pos}
end
end L2
namespace F2
open PySem L2 PySem.Spec
section
variable {K:PySem.W.Frag}
def AJ (x y:D):M D:=match x,y with
 | .tup [],.tup ys=>ret (.tup ys)
 | x,y=>RY x y
def Us (K:PySem.W.Frag):R2:=λx y H Q=>OS K x y H Q\/Ut K x y H Q
theorem NI {X:Cx}:OpR X (binaryOp .Add) (Us X.K):=op_add4.or VB
theorem MQ:AZ K (Us K) AJ:=λ{Oo c t σ H x y dx dy r t' Q} f rx ry eq k=>by
 unfold AJ at eq
 split at eq
 ·next ys=>
  cases eq
  cases rx with
  | tup h1 h2 h3=>
    cases h3
    cases ry with
    | tup g1 g2 g3=>exact .inr ⟨_,_,_,rfl,rfl,SqT.of h1,SqT.of g1,k _ H c f .refl (.tup g1 g2 g3)⟩
 ·exact .inl (Wa f rx ry eq k)
def IH:D->D->M D
 | .int i,.int j=>λt=>if ED i j=true then some (.int (i * j),t) else none
 | .tup xs,.int k=>λt=>if BI k=true/\xs.length * k.toNat<=LIM then some (.tup (List.replicate k.toNat xs).flatten,t) else none
 | .lst xs,.int k=>λt=>if BI k=true/\xs.length * k.toNat<=LIM then some (.lst (List.replicate k.toNat xs).flatten,t) else none
 | _,_=>fail
def OV (K:PySem.W.Frag):R2:=λx y H Q=>rI CMul (λi j=>.int (i * j)) x y H Q\/(Uy K x y H Q\/Yz x y H Q)
theorem op_mul3 {X:Cx}:OpR X (binaryOp .Mult) (OV X.K):=op_mul.or (op_mulT.or X2)
theorem Vt {dx dy r:D}{t t':T}(eq:IH dx dy t=some (r,t')):∃j,dy = .int j/\((∃i,dx = .int i)\/(∃ds,dx = .tup ds)\/∃ds,dx = .lst ds):=by
 unfold IH at eq
 split at eq
 ·exact ⟨_,rfl,.inl ⟨_,rfl⟩⟩
 ·exact ⟨_,rfl,.inr (.inl ⟨_,rfl⟩)⟩
 ·exact ⟨_,rfl,.inr (.inr ⟨_,rfl⟩)⟩
 ·cases eq
theorem Wl:AZ K (OV K) IH:=λ{Oo c t σ H x y dx dy r t' Q} f rx ry eq k=>by
 obtain ⟨j,rfl,hd⟩:=Vt eq
 cases ry
 rcases hd with ⟨i,rfl⟩ | ⟨ds,rfl⟩ | ⟨ds,rfl⟩
 ·cases rx
  unfold IH at eq;dsimp only at eq
  split at eq
  ·next h=>cases eq;exact .inl ⟨i,j,rfl,rfl,Qx h,k _ H c f .refl (.int _)⟩
  ·cases eq
 ·cases rx with
  | @tup a vs _ h1 h2 h3=>
    unfold IH at eq;dsimp only at eq
    split at eq
    ·next h=>
     cases eq
     obtain ⟨g1,g2⟩:=DN h.1;refine .inr (.inl ⟨a,j,vs,rfl,rfl,SqT.of h1,g1,g2,by rw [h3.length];exact um4 h.2 Bf,λhs=>?_,λhs p hp=>?_⟩)
     ·rcases hs with z | z
      ·subst z;have:ds=[]:=uc0.mp h3.length.symm;subst this;have e:(List.replicate j.toNat ([]:List D)).flatten=[]:=by simp
       rw [e] at k;exact k _ H c f .refl (.tup h1 h2 h3)
      ·subst z;have e:(List.replicate (1:Int).toNat ds).flatten=ds:=by simp
       rw [e] at k;exact k _ H c f .refl (.tup h1 h2 h3)
     ·exact k _ _ c (f.laid hp) (f.stp_laid hp) (.tup Aj (f.s.free hp) ((h3.rep j.toNat).mono (Ext.laid f.s hp)))
    ·cases eq
 ·cases rx with
  | @lst a vs _ h1 h2 h3=>
    unfold IH at eq;dsimp only at eq
    split at eq
    ·next h=>
     cases eq
     obtain ⟨g1,g2⟩:=DN h.1;refine .inr (.inr ⟨a,j,vs,rfl,rfl,h1,by lia,by lia,by rw [h3.length];exact um4 h.2 Bf,λp hp=>?_⟩);exact k _ _ c (f.laid hp) (f.stp_laid hp) (.lst Aj (f.s.free hp) ((h3.rep j.toNat).mono (Ext.laid f.s hp)))
    ·cases eq
end
variable {K:PySem.W.Frag}
section
variable {X:Cx}{e a b:Expr}{pos:Pos}
def Bx (xs:List D):List D->Option (List D)
 | [d]=>if xs.length < LIM then some (xs++[d]) else none
 | _=>none
def GU (xs:List D):List D->Option (List D)
 | [.lst ys]=>if xs.length + ys.length<=LIM then some (xs++ys) else none
 | [.tup ys]=>if xs.length + ys.length<=LIM then some (xs++ys) else none
 | _=>none
def ownM (i:Nat)(h:List D->List D->Option (List D))(g:M (List D)):M Out:=λt=>match t.env[i]? with
 | some (some (.own _))=>bnd g (λds t1=>match t1.env[i]? with
   | some (some (.own xs))=>(h xs ds).map λys=>(.next,{ t1 with env:=t1.env.set i (some (.own ys)) })
   | _=>none) t
 | _=>none
def Oa (K:PySem.W.Frag)(R:V->List V->Hp->VK->Prop)(h:List D->List D->Option (List D)):Prop:=∀{c:Cf} {S:List Ob} {H:Hp} {a:Addr} {vs us:List V} {xs ds ys:List D} {Q:VK},SInv K c S H->H a=some (.lst vs)->Reps K c H vs xs->Reps K c H us ds->h xs ds=some ys->
 (∀ws,Reps K c H ws ys->Q .non (upd H a (.lst ws)))->R (.ref a) us H Q
theorem NU:Oa K NP Bx:=λ{c S H a vs us xs ds ys Q} s h r rs e k=>by
 unfold Bx at e
 split at e
 ·next d=>
  split at e
  ·next hl=>
   cases e
   obtain ⟨v,rfl,rv⟩:=Df rs;exact ⟨a,vs,v,rfl,rfl,h,by rw [r.length];exact uf2 hl Bf,k _ (r.append (.cons rv .nil))⟩
  ·cases e
 ·cases e
def OU (K:PySem.W.Frag):V->List V->Hp->VK->Prop:=λx xs H Q=>NQ x xs H Q\/MJ K x xs H Q
theorem NF {X:Cx}:MtM X "list.extend" (OU X.K):=mt_extend.or OK
theorem Wb:Oa K (OU K) GU:=λ{c S H a vs us xs ds ys Q} s h r rs e k=>by
 unfold GU at e
 split at e
 ·split at e
  ·next hl=>
   cases e
   obtain ⟨v,rfl,rv⟩:=Df rs
   cases rv with
   | lst h1 h2 h3=>exact .inl ⟨a,_,vs,_,rfl,rfl,h,h1,by rw [r.length,h3.length];exact um4 hl Bf,k _ (r.append h3)⟩
  ·cases e
 ·split at e
  ·next hl=>
   cases e
   obtain ⟨v,rfl,rv⟩:=Df rs
   cases rv with
   | tup h1 h2 h3=>exact .inr ⟨a,_,vs,_,rfl,rfl,h,SqT.of h1,by rw [r.length,h3.length];exact um4 hl Bf,k _ (r.append h3)⟩
  ·cases e
 ·cases e
theorem RS.ownM {μ:Cf->Hp->D->(V->Hp->Prop)->Prop}{K:PySem.W.Frag}{i:Nat}{h:List D->List D->Option (List D)}{g:M (List D)}{R:V->List V->Hp->VK->Prop}(s:Oa K R h){E:Ends}{σ:L2.St}{H:Hp}(q:RSg K μ (F2.ownM i h g) E σ H):UC (tBM K "list" R (YY i) (RA K g)) E σ H:=by
 obtain ⟨Oo,c,t,fi,o,t',eq,k⟩:=q;unfold F2.ownM at eq
 split at eq
 ·next xs0 e0=>
  obtain ⟨ds,t1,e1,eq⟩:=Ae eq;obtain ⟨a,vs0,h1,h2,h3,h4,h5⟩:=fi.own i xs0 e0;refine ⟨.ref a,h1,.inl ⟨rfl,vs0,SqL.of h4⟩,Oo,c,t,fi,ds,t1,e1,λus H1 c1 f1 s1 rus=>?_⟩
  split at eq
  ·next xs ex=>
   obtain ⟨ys,ey,ez⟩:=uc8.mp eq
   cases ez
   obtain ⟨a',vs,g1,g2,g3,g4,g5⟩:=f1.own i xs ex;rw [h1] at g1;injection g1 with g1;injection g1 with g1;injection g1 with g1;subst g1
   refine s f1.s g4 g5 rus ey λws rws=>?_;obtain ⟨f2,s2⟩:=f1.wrOwn ex h1 rws;exact k σ _ c1 f2 (s1.trans s2)
  ·cases eq
 ·cases eq
theorem P1 {μ:Cf->Hp->D->(V->Hp->Prop)->Prop}(i:Nat){x:Str}{es:List Expr}{g:M (List D)}{px apos cpos:Pos}(ha:PA X (e :: es) (RA X.K g))(hN:X.N[i]?=some x:=by rfl)(hv:Vis X.env.scope x:=by walk_at "h")(hd:(x == ("__debug__" : Str))=false:=by decide)
 (hcd:(x == ("__classdict__" : Str))=false:=by decide)
 (hbase:attributeBase (.Name x px) "append" X.env (eval (.Name x px) X.env)=eval (.Name x px) X.env:=by rfl)
 (hfew:((backTo cpos (starEach (e :: es) X.env)).all (λx=>!x.1) && (backToKw cpos (keywordEach [] X.env)).all (λx=>x.1.isSome) && decide ((e :: es).length + ([]:List Keyword).length + (if ([]:List Keyword).isEmpty then 0 else 1) < 30))=true:=by rfl)
 (hline:(apos.endLine == cpos.line)=true:=by rfl) (hs:starEach (e :: es) X.env=(false,eval e X.env) :: starEach es X.env:=by rfl) (hplain:(backTo cpos (starEach es X.env)).any (·.1)=false:=by rfl) :
 PS X (.Expr (.Call (.Attribute (.Name x px) "append" apos) (e :: es) [] cpos) pos) (RSg X.K μ (ownM i Bx g)):=
 A8 (Kj (HY uc1 PySem.F.slot_list_append PySem.F.type_list_append KM (Cq hN hv hd hcd) ha hbase hfew hline hs hplain)) λ_ _ _ q=>RS.ownM NU q
theorem P2 {μ:Cf->Hp->D->(V->Hp->Prop)->Prop}(i:Nat){x:Str}{es:List Expr}{g:M (List D)}{px apos cpos:Pos}(ha:PA X (e :: es) (RA X.K g))(hN:X.N[i]?=some x:=by rfl)(hv:Vis X.env.scope x:=by walk_at "h")(hd:(x == ("__debug__" : Str))=false:=by decide)
 (hcd:(x == ("__classdict__" : Str))=false:=by decide)
 (hbase:attributeBase (.Name x px) "extend" X.env (eval (.Name x px) X.env)=eval (.Name x px) X.env:=by rfl)
 (hfew:((backTo cpos (starEach (e :: es) X.env)).all (λx=>!x.1) && (backToKw cpos (keywordEach [] X.env)).all (λx=>x.1.isSome) && decide ((e :: es).length + ([]:List Keyword).length + (if ([]:List Keyword).isEmpty then 0 else 1) < 30))=true:=by rfl)
 (hline:(apos.endLine == cpos.line)=true:=by rfl) (hs:starEach (e :: es) X.env=(false,eval e X.env) :: starEach es X.env:=by rfl) (hplain:(backTo cpos (starEach es X.env)).any (·.1)=false:=by rfl) :
 PS X (.Expr (.Call (.Attribute (.Name x px) "extend" apos) (e :: es) [] cpos) pos) (RSg X.K μ (ownM i GU g)):=
 A8 (Kj (HY uc1 PySem.F.slot_list_extend PySem.F.type_list_extend NF (Cq hN hv hd hcd) ha hbase hfew hline hs hplain)) λ_ _ _ q=>RS.ownM Wb q
def objM (h:List D->List D->Option (List D))(f:M D)(g:M (List D)):M D:=bnd f λo=>match o with
 | .obj k=>λt=>match t.S[k]? with
   | some (.lst _)=>bnd g (λds t1=>match t1.S[k]? with
     | some (.lst xs)=>(h xs ds).map λys=>(.non,{ t1 with S:=t1.S.set k (.lst ys) })
     | _=>none) t
   | _=>none
 | _=>fail
theorem RE.objM {K:PySem.W.Frag}{h:List D->List D->Option (List D)}{f:M D}{g:M (List D)}{R:V->List V->Hp->VK->Prop}(s:Oa K R h){σ:L2.St}{H:Hp}{Q:VK}(q:RE K (F2.objM h f g) σ H Q):tBM K "list" R (RE K f) (RA K g) σ H Q:=by
 obtain ⟨Oo,c,t,fi,r,t',eq,k⟩:=q;obtain ⟨o,t0,e0,eq⟩:=Ae eq;refine ⟨Oo,c,t,fi,o,t0,e0,λx H0 c0 f0 s0 rx=>?_⟩
 cases rx with
 | @obj a kk hk=>
   dsimp only at eq
   split at eq
   ·next xs0 ex0=>
    obtain ⟨ds,t1,e1,eq⟩:=Ae eq;obtain ⟨vs0,g0,g0'⟩:=f0.s.obs kk a _ hk ex0;refine ⟨.inl ⟨rfl,vs0,SqL.of g0⟩,Oo,c0,t0,f0,ds,t1,e1,λus H1 c1 f1 s1 rus=>?_⟩
    split at eq
    ·next xs ex=>
     obtain ⟨ys,ey,ez⟩:=uc8.mp eq
     cases ez
     have hk1:=s1.ext.io _ _ hk;obtain ⟨vs,g1,g2⟩:=f1.s.obs kk a _ hk1 ex;refine s f1.s g1 g2 rus ey λws rws=>?_;obtain ⟨f2,s2⟩:=f1.wrObj (o:=.lst ys) (u:=.lst ws) hk1 λc' H' ext hu=>⟨ws,hu,rws.mono ext⟩;exact k _ _ c1 f2 ((s0.trans s1).trans s2) .non
    ·cases eq
   ·cases eq
 | _=>cases eq
theorem PP {o:Expr}{es:List Expr}{f:M D}{g:M (List D)}{apos cpos:Pos}(ho:PE X o (RE X.K f))(ha:PA X (e :: es) (RA X.K g))
 (hbase:attributeBase o "append" X.env (eval o X.env)=eval o X.env:=by rfl)
 (hfew:((backTo cpos (starEach (e :: es) X.env)).all (λx=>!x.1) && (backToKw cpos (keywordEach [] X.env)).all (λx=>x.1.isSome) && decide ((e :: es).length + ([]:List Keyword).length + (if ([]:List Keyword).isEmpty then 0 else 1) < 30))=true:=by rfl)
 (hline:(apos.endLine == cpos.line)=true:=by rfl) (hs:starEach (e :: es) X.env=(false,eval e X.env) :: starEach es X.env:=by rfl) (hplain:(backTo cpos (starEach es X.env)).any (·.1)=false:=by rfl) :
 PE X (.Call (.Attribute o "append" apos) (e :: es) [] cpos) (RE X.K (objM Bx f g)):=
 AA (HY uc1 PySem.F.slot_list_append PySem.F.type_list_append KM ho ha hbase hfew hline hs hplain) λ_ _ _ q=>RE.objM NU q
def Ks (o i d:D):M Unit:=match o,i with
 | .obj k,.int j=>λt=>match t.S[k]? with
   | some (.lst xs)=>(ixN xs.length j).map λn=>((),{ t with S:=t.S.set k (.lst (xs.set n d)) })
   | _=>none
 | _,_=>fail
def stD (f g:M D)(d:D):M Unit:=bnd f λo=>bnd g λi=>Ks o i d
theorem Xq {o i:Expr}{f g:M D}(ho:PE X o (RE X.K f))(hi:PE X i (RE X.K g))
 (ha:∀v,assign (.Subscript o i pos) X.env v=(do
   let ov <-holding [v] (eval o X.env)
   let iv <-holding [v,ov] (eval i X.env)
   standAt pos
   holding [v,ov,iv] (setItem ov iv v)
   release [v,ov,iv] []):=by intro _;rfl):PG X (.Subscript o i pos) (RG X.K (stD f g)):=
 GH (QN ho hi TU ha) λv σ H Q z9=>by
  obtain ⟨Oo,c,t,d,fi,rv,t',eq,k⟩:=z9;obtain ⟨d0,t1,e1,eq⟩:=Ae eq;obtain ⟨di,t2,e2,eq⟩:=Ae eq;refine ⟨Oo,c,t,fi,_,t1,e1,λx H1 c1 f1 s1 rx=>⟨Oo,c1,t1,f1,di,t2,e2,λy H2 c2 f2 s2 ry=>?_⟩⟩;unfold Ks at eq
  split at eq
  ·cases ry with
   | int j=>
   cases rx with
   | @obj a kk hk=>
     split at eq
     ·next xs ex=>
      obtain ⟨n,en,ez⟩:=uc8.mp eq
      cases ez
      have hk2:=s2.ext.io _ _ hk;obtain ⟨vs,g1,g2⟩:=f2.s.obs _ a _ hk2 ex;refine ⟨a,vs,_,n,rfl,rfl,g1,by rw [g2.length];exact en,?_⟩;have rv2:=rv.mono (s1.trans s2).ext;obtain ⟨f3,s3⟩:=f2.wrObj (o:=.lst (xs.set n d)) (u:=.lst (vs.set n v)) hk2 λc' H' ext hu=>⟨_,hu,(Reps.set rv2 n g2).mono ext⟩;exact k σ _ c2 f3 ((s1.trans s2).trans s3)
     ·cases eq
  ·cases eq
end
section
variable {X:Cx}{e a b tg iter elt:Expr}{ifs:List Expr}{pos:Pos}{scope:Scope}{N':List Str}{n:Nat}{fr:List Nat}{f:M (List D)}{st:D->M Unit}{tst:M Bool}{el:M D}
def D4:M Bool:=ret true
theorem U1:PIf X [] (RT X.K D4):=λpins s σ H Q I z9=>by
 obtain ⟨Oo,c,t,fi,r,t',eq,k⟩:=z9;exact VT pins s σ H Q I (by cases eq;exact k H c fi .refl)
theorem Ea (O:CmpOk X scope N' (Fy n fr))(hc:X.calm=true)(hi:PI X tg iter (RI X.K f))
 (hg:∀cl C s2 H2 fp,PG (Cv X N' scope cl C s2 H2 fp) tg (RG X.K st)) (ht:∀cl C s2 H2 fp,PIf (Cv X N' scope cl C s2 H2 fp) ifs (RT X.K tst)) (he:∀cl C s2 H2 fp,PE (Cv X N' scope cl C s2 H2 fp) elt (RE X.K el))
 (hs:∀x,foldedSetIterable iter X.env x=pure x:=by intro _;rfl):PE X (.ListComp elt [⟨tg,iter,ifs,0⟩] scope pos) (RF X.K (BL n fr f st tst el)):=
 AA (NK O hc hi hg ht he hs) λ_ _ _ q=>RF.comp q
theorem Ek (tgs:List Str)(frn:List (Nat×Str))(hk:scope.kind = .function)(hcell:(scope.names.all λy=>y.2 != .cell)=true)(hloc:(scope.names.all λy=>y.2 != .local || scope.names.lookup y.1 == some .local)=true)
 (hfree:(scope.names.all λy=>y.2 != .free || X.env.kindOf y.1 == some .cell || X.env.kindOf y.1 == some .free)=true)
 (hf:(frn.all λp=>X.N[p.1]? == some p.2 && scope.names.lookup p.2 == some .free)=true):CmpOk X scope (tgs++frn.map (·.2)) (Fy tgs.length (frn.map (·.1))):=by
 rw [ui2] at hcell hloc hfree hf;refine ⟨hk,λy hy=>by simpa using hcell y hy,λy hy hl=>?_,λy hy hl=>?_,λσ _=>by simp [Fy],λσ j x v h1 h2=>?_⟩
 ·have:=hloc y hy;simpa [hl] using this
 ·have:=hfree y hy;simpa [hl] using this
 ·unfold Fy at h2
  by_cases hj:j < tgs.length
  ·rw [ub2 (by simpa using hj),ub8] at h2
   split at h2 <;> simp at h2
  ·rw [ua7 (by simpa using hj),ud3,ug3,ug3] at h2;rw [ua7 (by simpa using hj),ug3] at h1
   cases e:frn[j - tgs.length]? with
   | none=>rw [e] at h1;cases h1
   | some p=>
     rw [e] at h1 h2;simp only [uk0,ug9] at h1 h2;have hp:=hf p (ue1 e);rw [uh8] at hp;refine ⟨p.1,by rw [<-h1];simpa using hp.1,?_,by rw [<-h1];simpa using hp.2⟩
     cases e2:σ[p.1]? with
     | none=>rw [e2] at h2;cases h2
     | some o=>rw [e2] at h2;simpa using h2
end
mutual
noncomputable def Bi:D->Bool
 | .tup xs=>Gu xs
 | .lst xs=>Gu xs
 | .obj _=>false
 | .scr _=>false
 | .exc _ _=>false
 | _=>true
noncomputable def Gu:List D->Bool
 | []=>true
 | d :: r=>Bi d && Gu r
end
def c0:Cf:=⟨[],λ_=>False⟩
theorem GK (a:Addr):¬c0.A a:=λh=>h.elim (λz=>nomatch z) λz=>z
mutual
theorem Dq {K:PySem.W.Frag}{c:Cf}{H:Hp}{v:V}{d:D}(r:Rep K c H v d)(p:Bi d=true):Rep K c0 H v d:=by
 cases r with
 | non=>exact .non
 | bl b=>exact .bl b
 | int i=>exact .int i
 | str x=>exact .str x
 | ty n=>exact .ty n
 | tup h n r=>exact .tup h (GK _) (H9 r (by simpa [Bi] using p))
 | lst h n r=>exact .lst h (GK _) (H9 r (by simpa [Bi] using p))
 | scr h=>simp [Bi] at p
 | dic h n=>exact .dic h (GK _)
 | obj h=>simp [Bi] at p
 | exc _ _ _ _ _=>simp [Bi] at p
theorem H9 {K:PySem.W.Frag}{c:Cf}{H:Hp}{vs:List V}{ds:List D}(r:Reps K c H vs ds)(p:Gu ds=true):Reps K c0 H vs ds:=by
 cases r with
 | nil=>exact .nil
 | cons h t=>
   simp only [Gu,uh8] at p;exact .cons (Dq h p.1) (H9 t p.2)
end
noncomputable def CK (S:List Ob):D->D
 | .obj k=>match S[k]? with
   | some (.lst ds)=>.lst ds
   | _=>.obj k
 | d=>d
noncomputable def SR:D->Bool
 | .obj _=>true
 | _=>false
def eqS (g:Bool->Bool)(x y:D):M D:=λt=>
 if (SR x || SR y)=true then (if (Bi (CK t.S x) && Bi (CK t.S y))=true then (eqN EQD (CK t.S x) (CK t.S y)).map λb=>(.bl (g b),t) else none)
 else (eqN EQD x y).map λb=>(.bl (g b),t)
theorem MM {c:Cf}{S:List Ob}{H:Hp}{v:V}{d:D}(s:SInv K c S H)(r:Rep K c H v d)(p:Bi (CK S d)=true):Rep K c0 H v (CK S d):=by
 cases r with
 | @obj a k hk=>
   unfold CK at p ⊢;dsimp only at p ⊢
   split
   ·next ds e=>
    rw [e] at p;obtain ⟨vs,h1,h2⟩:=s.obs k a _ hk e;exact .lst h1 (GK _) (H9 h2 (by simpa [Bi] using p))
   ·next h=>
    split at p
    ·next ds e=>exact absurd e (h ds)
    ·simp [Bi] at p
 | non=>exact .non
 | bl b=>exact .bl b
 | int b=>exact .int b
 | str b=>exact .str b
 | ty b=>exact .ty b
 | tup h n q=>exact Dq (.tup h n q) p
 | lst h n q=>exact Dq (.lst h n q) p
 | scr h=>exact Dq (c:=c) (.scr h) p
 | dic h n=>exact Dq (.dic h n) p
 | exc a b n f q=>exact Dq (.exc a b n f q) p
theorem Ig {g:Bool->Bool}:AZ K (OT K g) (eqS g):=λ{Oo c t σ H x y dx dy r t' Q} f rx ry eq k=>by
 unfold eqS at eq
 split at eq
 ·split at eq
  ·next hp=>
   rw [uh8] at hp;obtain ⟨b,e1,e2⟩:=uc8.mp eq
   cases e2
   exact ⟨c0,_,_,b,MM f.s rx hp.1,MM f.s ry hp.2,e1,k _ H c f .refl (.bl (g b))⟩
  ·cases eq
 ·obtain ⟨b,e1,e2⟩:=uc8.mp eq
  cases e2
  exact ⟨c,dx,dy,b,rx,ry,e1,k _ H c f .refl (.bl (g b))⟩
theorem Qo {H:Hp}{a:Addr}{ns:List Int}{f:Fn}{S':List Ob}(hO:N9 H)(hS:SqL K H a (ns.map V.int))(e:f [.scr ns] []=some (.bl true,S')):spF K f [.ref a] H (λv _=>v = .bl true) λ_ _ _=>False:=by
 refine ⟨c0,[.scr ns],[],⟨rfl,List.Pairwise.nil,λk a o h=>by simp [c0] at h,λb z=>z.elim,λb z=>z.elim⟩,.cons (.scr ?_) .nil,.bl true,S',e,λv H' c' _ _ _ rv=>by cases rv;rfl⟩;rcases hS with (h | h) | h
 ·rcases hO a with z | ⟨o,xs,z⟩
  ·rw [z] at h;cases h
  ·rw [z] at h;cases h
 ·exact .inl ⟨h,GK _⟩
 ·exact .inr h
end F2
namespace L2
open PySem PySem.Spec PyProof.Rows
section
variable {prog:Program}{w:World}{A:Around}{E:Value->Shared->Prop}{s:Shared}
theorem Jk {it l:Addr}{items:Array Value}(hne:l≠it):∀(n i:Nat) (s:Shared) (Q:List Value->Shared->Prop),s.heap.IsListIter it l i->s.heap.IsList l items->i + n<=items.size->
 (∀h',h'.IsListIter it l (i + n)->Heap.SameBut it s.heap h'->Q ((items.toList.drop i).take n) { s with heap:=h' })->wpAny (model prog w) A (draw (.ref it) n) Q E s
 | 0,i,s,Q,hit,_,_,hQ=>un7 (by simpa using hQ s.heap hit (Heap.SameBut.refl ..))
 | n + 1,i,s,Q,hit,ht,hle,hQ=>by
   have hlt:i < items.size:=by lia
   refine un6 (wpAny_pyNext_list_item hit ht (x:=items[i]) (by simp [hlt]) λh1 hit1 hs1=>?_);refine un6 (um1 (Jk hne n (i + 1) _ _ hit1 (ht.extBut hs1.extBut hne) (by lia) λh2 hit2 hs2=>un7 ?_));have hd:items.toList.drop i=items[i] :: items.toList.drop (i + 1):=by simp [ub3,hlt]
   have:=hQ h2 (by rw [show i + (n + 1)=i + 1 + n by lia];exact hit2) (hs1.trans hs2);rw [hd,List.take_succ_cons] at this;exact this
theorem M0 {l:Addr}{items:Array Value}{targets:List (Bool×(Value->Sem Unit))}{Q:Unit->Shared->Prop}(hh:A.handled=none)(ht:s.heap.IsList l items)(hn:targets.length=items.size)(hstar:targets.findIdx? (·.1)=none)
 (h:∀h',Heap.ExtBut s.heap.objs.size s.heap h'->wpAny (model prog w) A (assignInOrder (targets.map (·.2)) items.toList) Q E { s with heap:=h' }):wpAny (model prog w) A (unpack (.ref l) targets) Q E s:=by
 have hlt:l≠s.heap.objs.size:=by obtain ⟨o,ho,_⟩:=ht;exact um3 (um2 ho)
 unfold unpack;rw [hn,hstar];refine un6 (um1 ?_);unfold unpackItems;refine un6 ?_;unfold notIterableAtAll;refine un6 (wpAny_specialOf ht.typeIs PySem.F.slot_list_iter.lookup ?_);refine un7 ?_;simp only [uf8,if_false];refine un6 (um1 (wpAny_pyIter_list ht ?_));have hp:Heap.IsList (s.heap.push { cls:=.type "list_iterator",data:=.fields #[.ref l,.int 0 0] }) l items:=by
  obtain ⟨o,ho,r⟩:=ht;exact ⟨o,uc4 _ ho,r⟩
 refine un6 (um1 (Jk hlt items.size 0 _ _ ⟨_,ue6 _ rfl,rfl,rfl⟩ hp (by lia) λh1 hit1 hs1=>?_));have hall:List.take items.size (List.drop 0 items.toList)=items.toList:=by
  rw [uk9];exact uc9 (by simp)
 rw [hall];rw [if_neg (by simp)];have ht1:Heap.IsList h1 l items:=hp.extBut hs1.extBut hlt;refine un6 (um1 (wpAny_pyNext_list_end hh hit1 ht1 (by simp) λh2 he2=>?_));simp only [Option.isSome_none,uf8,if_false];exact un7 (h h2 λb o hb e=>he2 b o hb (hs1.extBut b o hb (uc4 _ e)))
end
section
variable {X:Cx}{pos:Pos}
def gUn (K:PySem.W.Frag)(n:Nat)(t:TGs):TG:=λv σ H Q=>∃a xs,v = .ref a/\(SqT K H a xs\/SqL K H a xs)/\xs.length=n/\t xs σ H Q
theorem Uq {es:List Expr}{k:Nat}{t:TGs}{n:Nat}(hc:X.calm=true)(h:PGs X es t)
 (hn:(assignEach es X.env).length=n:=by rfl) (hst:(assignEach es X.env).findIdx? (·.1)=none:=by rfl):PG X (.Tuple es k pos) (gUn X.K n t):=by
 intro pins s σ H v u Q I r hw;obtain ⟨a,xs,e1,hq | hq,hl,hw⟩:=hw
 ·exact Yf hc h hn hst pins s σ H v u Q I r ⟨a,xs,e1,hq,hl,hw⟩
 ·subst e1
  cases r
  obtain ⟨its,rv,ht,hz⟩:=I.list hq;rw [assign_Tuple];refine un6 (wpAny_standAt (M0 (I.ok.hd hc) ht.isList (by simp [hn,<-hl,rv.length]) hst λh' hx=>?_));have I1:Inv X pins σ H { s with heap:=h' }:=I.kept (t':=s.toks) λb o e=>hx b o (um3 (um2 e)) e;exact h pins _ σ H xs _ Q I1 (by simpa using rv) hw
end
section
open HT
variable {prog:Program}{w:World}{A:Around}{E:Value->Shared->Prop}{s:Shared}
theorem GF {t sl:Addr}{items:Array Value}{vl vu:Value}{lo hi:Option Int}{Q:Value->Shared->Prop}(ht:IsTup s.heap t items)(hs:s.heap.IsSliceOf sl vl vu .none)(pl:IsPart vl lo)(pu:IsPart vu hi)
 (hw:sIx items.size 0 lo=0/\sIx items.size items.size hi=items.size) (h:Q (.ref t) s):wpAny (model prog w) A (getItem (.ref t) (.ref sl)) Q E s:=by
 obtain ⟨os,hos,hcs,hds⟩:=id hs;have hTs:s.TypeIs (.ref sl) "slice":=⟨os,hos,hcs⟩;unfold getItem
 try with_reducible refine um1 ?_
 first | refine un6 (un7 ?_) | skip
 refine un6 (wpAny_sequenceKey ht.typeIs (by decide) ?_);refine un6 (wpAny_callSpecial?_slot (name:=Str.ofString "__getitem__") ht.typeIs ua1
  (wpAny_call_entry ua1 ht.typeIs entry_tuple_getitem ?_ (args_tuple_getitem _ _)))
 show wpAny _ _ (Builtin.Tuple.tupleItemsOf (.ref t) >>= _) _ _ s;refine un6 (tupleItemsOf_ ht ?_);refine un6 (wpAny_typeOf hTs ?_);rw [if_pos (by decide)];refine un6 (Fg hs pl pu ?_);have hyes:(((sIx items.size 0 lo:Nat):Int) == 0 && (1:Int) == 1 && (sIx items.size items.size hi - sIx items.size 0 lo) == items.size)=true:=by
  rw [hw.1,hw.2];simp
 show wpAny _ _ (if (((sIx items.size 0 lo:Nat):Int) == 0 && (1:Int) == 1 && (sIx items.size items.size hi - sIx items.size 0 lo) == items.size)=true then _ else _) _ _ s;rw [if_pos hyes];refine un6 (m:=Builtin.Tuple.tupleIsExact _) ?_;unfold Builtin.Tuple.tupleIsExact;refine un6 (wpAny_typeOf ht.typeIs (un7 ?_));rw [if_pos (by decide)]
 first
  | exact un6 (wpAny_rule (un7 ⟨_,rfl,un7 h⟩))
  | exact un6 (wpAny_rule (un6 (un7 (un7 ⟨_,rfl,un7 h⟩))))
end
section
variable {X:Cx}
def YE (K:PySem.W.Frag):V->Option Int->Option Int->Hp->VK->Prop:=λx lo hi H Q=>∃a xs,x = .ref a/\SqT K H a xs/\(HT.sIx xs.length 0 lo=0/\HT.sIx xs.length xs.length hi=xs.length)/\Q (.ref a) H
theorem Wy:SlR X (YE X.K):=by
 intro pins s σ H x v vl vu lo hi sl Q I rx hs pl pu h;obtain ⟨a,xs,rfl,hx,hw,q⟩:=h
 cases rx
 obtain ⟨its,r,ht,hz⟩:=I.tuple hx;have hlen:its.toArray.size=xs.length:=by rw [ug2];exact r.length.symm
 exact ⟨"tuple",_,ua1.lookup,ht.typeIs,GF ht hs pl pu (by rw [hlen];exact hw) ⟨.ref a,H,I,rfl,q⟩⟩
end
noncomputable def Its (z:Str):It:=⟨λi _=>i < z.cps.size,λi H x H'=>H'=H/\∃c,z.cps[i]?=some c/\x = .str ⟨#[c]⟩,λi _=>i=z.cps.size⟩
theorem MZ {P:Program}{w:World}{K:PySem.W.Frag}{tg:Expr}{T:String}{x:Str}{t:Tok}(it:Addr)(hT:["enumerate", "zip", "dict_itemiterator", "dict_reverseitemiterator", "odict_iterator", "itertools.zip_longest", "itertools.pairwise"].contains T=false)
 (W:∀A:Around,A.handled=none->Walks P w A it [it] [it] x.cps.size (SignAt x) (λi h=>h.IsStrIter it T x t i))
 (self:∀(A:Around) (i:Nat) (s:Shared) (Q:Value->Shared->Prop) (E:Value->Shared->Prop),s.heap.IsStrIter it T x t i->Q (.ref it) s->wpAny (model P w) A (pyIter (.ref it)) Q E s) :
 Turn P w K tg (Its x) [it] it (λi h=>h.IsStrIter it T x t i) where
 mem:=by simp
 obj:=λi h st b hb=>by
  have e:b=it:=by simpa using hb
  subst e;obtain ⟨o,e,c,d⟩:=st;exact ⟨o,e,λv z=>by rw [d] at z;cases z⟩
 keep:=λi h h' st k=>by
  obtain ⟨o,e,r⟩:=st;exact ⟨o,k it (by simp) o e,r⟩
 item:=by
  intro X hP hw hK hc i pins s σ H E I hf st hg;subst hP hw hK;obtain ⟨f0,f1,f2,f3,f4,f5⟩:=hf it (by simp);refine (W X.A (I.ok.hd hc)).item i s _ _ hg st λv h' tk hv st' kk=>?_;obtain ⟨c,u,hcc,rfl⟩:=hv;have I1:Inv X pins σ H { s with heap:=h',toks:=tk }:=I.turned (λb o hb e=>kk b o (by simpa using hb) e) f0 f1 f3 f4 f5;obtain ⟨o,e,ec,ed⟩:=id st';exact ⟨_,rfl,Lg (s:={ s with heap:=h',toks:=tk }) e ec ed hT ⟨.str ⟨#[c]⟩,H,I1,⟨u,rfl⟩,⟨rfl,c,hcc,rfl⟩,st',λb hb=>(hf b hb).1⟩⟩
 done:=by
  intro X hP hw hK hc i pins s σ H E I hf st hg;subst hP hw hK;obtain ⟨f0,f1,f2,f3,f4,f5⟩:=hf it (by simp);have hg':i=x.cps.size:=hg;subst hg';exact (W X.A (I.ok.hd hc)).done s _ _ st λh' tk kk=>⟨rfl,I.turned (λb o hb e=>kk b o (by simpa using hb) e) f0 f1 f3 f4 f5⟩
 self:=λA i s Q E st h=>self A i s Q E st h
section
variable {X:Cx}{tg:Expr}{pos:Pos}
def bn (K:PySem.W.Frag)(tl:TE):TI:=λσ H R=>tl σ H λx H1=>(∃a,x = .ref a/\(∃xs,SqL K H1 a xs)/\R (Itl K a) H1)\/(∃a,x = .ref a/\(∃xs,SqT K H1 a xs)/\R (Itt K a) H1)\/∃z,x = .str z/\R (Its z) H1
theorem QP {l:Expr}{tl:TE}(hl:PE X l tl):PI X tg l (bn X.K tl):=by
 intro pins s σ H R I h;refine thn (hl pins s σ H _ I h) λv s1 z9=>?_;obtain ⟨x,H1,I1,r1,q1⟩:=z9;have fp:∀b∈[s1.heap.objs.size],FpOk X pins H1 b:=λb hb=>by
  have e:b=s1.heap.objs.size:=by simpa using hb
  subst e;exact I1.fpOk (un2 _) (I1.hok.fresh (un2 _))
 rcases q1 with ⟨a,rfl,⟨xs,hq⟩,q⟩ | ⟨a,rfl,⟨xs,hq⟩,q⟩ | ⟨z,rfl,q⟩
 ·cases r1
  obtain ⟨its,rv,p,hz⟩:=I1.list hq;refine wpAny_pyIter_list p.isList ?_;exact ⟨s1.heap.objs.size,[s1.heap.objs.size],_,_,H1,rfl,I1.kept (t':=s1.toks) λb o e=>uc4 _ e,Rt a _,⟨_,ue6 _ rfl,rfl,rfl⟩,fp,q⟩
 ·cases r1
  obtain ⟨its,rv,p,hz⟩:=I1.tuple hq;refine wpAny_pyIter_tuple (show s1.heap.IsTuple a its.toArray from p) ?_;exact ⟨s1.heap.objs.size,[s1.heap.objs.size],_,_,H1,rfl,I1.kept (t':=s1.toks) λb o e=>uc4 _ e,Pd a _,⟨_,ue6 _ rfl,rfl,rfl⟩,fp,q⟩
 ·obtain ⟨t,rfl⟩:=r1
  cases ha:z.cps.all (· < 128)
  ·refine wpAny_pyIter_wide ha ?_;exact ⟨s1.heap.objs.size,[s1.heap.objs.size],_,_,H1,rfl,I1.kept (t':=s1.toks) λb o e=>uc4 _ e,MZ (T:="str_iterator") (x:=z) (t:=t) _ (by decide) (λA hA=>Walks.strWide hA _ z t) (λ_ _ _ _ _ st h=>wpAny_pyIter_striter_wide st h),⟨_,ue6 _ rfl,rfl,rfl⟩,fp,q⟩
  ·refine wpAny_pyIter_ascii ha ?_;exact ⟨s1.heap.objs.size,[s1.heap.objs.size],_,_,H1,rfl,I1.kept (t':=s1.toks) λb o e=>uc4 _ e,MZ (T:="str_ascii_iterator") (x:=z) (t:=t) _ (by decide) (λA hA=>Walks.strAscii hA _ z t) (λ_ _ _ _ _ st h=>wpAny_pyIter_striter_ascii st h),⟨_,ue6 _ rfl,rfl,rfl⟩,fp,q⟩
def Ux:R2:=λx y H Q=>∃z k,x = .str z/\y = .int k/\MulOk z k/\Q (.str (Txt.mul z k)) H
theorem VG:OpR X (binaryOp .Mult) Ux:=by
 intro pins s σ H x y v u Q I rx ry h;obtain ⟨z,k,rfl,rfl,hk,q⟩:=h;obtain ⟨t,rfl⟩:=rx;obtain ⟨t',rfl⟩:=ry;exact SB.mul hk λt2 tk=>⟨.str _,H,I.tok tk,⟨t2,rfl⟩,q⟩
def YC:V->Option Int->Option Int->Hp->VK->Prop:=λx lo hi H Q=>∃z,x = .str z/\z.length<=sizeLine/\Q (.str (Txt.slice z lo hi)) H
theorem sl_str:SlR X YC:=by
 intro pins s σ H x v vl vu lo hi sl Q I rx hs pl pu h;obtain ⟨z,rfl,hz,q⟩:=h;obtain ⟨t,rfl⟩:=rx;refine ⟨"str",_,PySem.F.slot_str_getitem.lookup,typeIs_str _ _ _,?_⟩;have part:∀{v:Value} {o:Option Int},IsPart v o->∃l:Option (Int×Tok),v=partValue l/\l.map (·.1)=o:=λ{v o} p=>by
  cases p with
  | none=>exact ⟨none,rfl,rfl⟩
  | int i t=>exact ⟨some (i,t),rfl,rfl⟩
 obtain ⟨l,rfl,el⟩:=part pl;obtain ⟨u,rfl,eu⟩:=part pu;refine wpAny_getItem_str_slice (l:=l) (u:=u) (st:=none) (by obtain ⟨o,h1,h2,h3⟩:=hs;exact ⟨o,h1,h2,h3⟩) rfl ?_;unfold sliceMade slicePicked;rw [el,eu];show (if ((1:Int) == 1 && (Builtin.Str.strSliceIndices lo hi 1 z.length).length == z.length)=true then Made.val (.str z t) else Made.str ⟨((Builtin.Str.strSliceIndices lo hi 1 z.length).filterMap (z.cps[·]?)).toArray⟩).post _ s;have hle:=Txt.slice_le z lo hi;unfold Txt.slice at q hle
 by_cases hc:((1:Int) == 1 && (Builtin.Str.strSliceIndices lo hi 1 z.length).length == z.length)=true
 ·rw [if_pos hc] at q ⊢;exact ⟨.str z,H,I,⟨t,rfl⟩,q⟩
 ·rw [if_neg hc] at q hle ⊢;exact ⟨um4 hle hz,.str _,H,I.tok _,⟨_,rfl⟩,q⟩
def Gv (g:Int->Int->Bool)(h:List Nat->List Nat->Bool):R2:=λx y H Q=>(∃i j,x = .int i/\y = .int j/\Q (.bl (g i j)) H)\/∃i j,x = .str i/\y = .str j/\Q (.bl (h i.cps.toList j.cps.toList)) H
theorem QK:OpR X (compareOp .Lt) (Gv (λi j=>decide (i < j)) λi j=>decide (i < j)):=op_lt.or λpins s σ H x y v u Q I rx ry h=>by
 obtain ⟨i,j,rfl,rfl,q⟩:=h;obtain ⟨t,rfl⟩:=rx;obtain ⟨t',rfl⟩:=ry;exact P.lt_str ⟨.bl _,H,I,rfl,q⟩
theorem QJ:OpR X (compareOp .LtE) (Gv (λi j=>decide (i<=j)) λi j=>!(decide (j < i))):=op_le.or λpins s σ H x y v u Q I rx ry h=>by
 obtain ⟨i,j,rfl,rfl,q⟩:=h;obtain ⟨t,rfl⟩:=rx;obtain ⟨t',rfl⟩:=ry;exact P.le_str ⟨.bl _,H,I,rfl,q⟩
theorem QG:OpR X (compareOp .Gt) (Gv (λi j=>decide (j < i)) λi j=>decide (j < i)):=op_gt.or λpins s σ H x y v u Q I rx ry h=>by
 obtain ⟨i,j,rfl,rfl,q⟩:=h;obtain ⟨t,rfl⟩:=rx;obtain ⟨t',rfl⟩:=ry;exact P.gt_str ⟨.bl _,H,I,rfl,q⟩
theorem XY:OpR X (compareOp .GtE) (Gv (λi j=>decide (j<=i)) λi j=>!(decide (i < j))):=op_ge.or λpins s σ H x y v u Q I rx ry h=>by
 obtain ⟨i,j,rfl,rfl,q⟩:=h;obtain ⟨t,rfl⟩:=rx;obtain ⟨t',rfl⟩:=ry;exact P.ge_str ⟨.bl _,H,I,rfl,q⟩
end
end L2
namespace F2
open PySem L2 PySem.Spec
def C4:D->M (List D)
 | .lst ds=>ret ds
 | .scr ns=>ret (ns.map .int)
 | .tup ds=>ret ds
 | .str x=>ret (x.cps.toList.map λc=>.str ⟨#[c]⟩)
 | _=>fail
def D9 (f:M D):M (List D):=bnd f C4
def D1:D->D->M D
 | .str x,.int k=>λt=>if BI k=true/\x.length * k.toNat<=LIM/\k<=LIM/\x.length<=LIM then some (.str (Txt.mul x k),t) else none
 | x,y=>IH x y
def Dn:D->Option Int->Option Int->M D
 | .str x,lo,hi=>lim x.length (.str (Txt.slice x lo hi))
 | .tup ds,lo,hi=>ret (.tup (Bn ds lo hi))
 | x,lo,hi=>slD x lo hi
def LX (g:Int->Int->Bool)(h:List Nat->List Nat->Bool):D->D->M D
 | .int i,.int j=>ret (.bl (g i j))
 | .str x,.str y=>ret (.bl (h x.cps.toList y.cps.toList))
 | _,_=>fail
def ltA:=LX (λi j=>decide (i < j)) (λi j=>decide (i < j))
def leA:=LX (λi j=>decide (i<=j)) (λi j=>!(decide (j < i)))
def gtA:=LX (λi j=>decide (j < i)) (λi j=>decide (j < i))
def geA:=LX (λi j=>decide (j<=i)) (λi j=>!(decide (i < j)))
def unS (n:Nat)(g:List D->M Unit):D->M Unit
 | .tup ds=>if ds.length=n then g ds else fail
 | .lst ds=>if ds.length=n then g ds else fail
 | _=>fail
def ba:M D:=fC .dic
variable {tg:Expr}{K:PySem.W.Frag}{n:Nat}{g:List D->M Unit}{es:List Expr}
section
variable {X:Cx}{e a b:Expr}{pos:Pos}{st:Stmt}
theorem ItOk.str {K:PySem.W.Frag}{c:Cf}{H:Hp}{x:Str}:ItOk K (Its x) c H (x.cps.toList.map λc=>.str ⟨#[c]⟩):=by
 refine ⟨λc' H' i ex hi=>?_,λc' H' i y H'' d ex hd hy=>?_,λc' H' ex=>?_⟩
 ·show i < x.cps.size;simpa using hi
 ·obtain ⟨rfl,n,hn,rfl⟩:=hy;refine ⟨rfl,?_⟩;have:d = .str ⟨#[n]⟩:=by
   rw [ug3] at hd;have hn':x.cps.toList[i]?=some n:=by simpa using hn
   rw [hn'] at hd;simpa using hd.symm
  rw [this];exact .str _
 ·show _=x.cps.size;simp
theorem Xt {f:M D}(h:PE X e (RE X.K f)):PI X tg e (RI X.K (D9 f)):=
 I9 (QP h) λσ H R z9=>by
  obtain ⟨Oo,c,t,fi,ds,t',eq,k⟩:=z9;obtain ⟨d,t1,e1,eq⟩:=Ae eq;refine ⟨Oo,c,t,fi,d,t1,e1,λv H1 c1 f1 s1 rv=>?_⟩
  cases rv with
  | @lst p vs ds' h1 h2 h3=>
    cases eq
    exact .inl ⟨p,rfl,⟨vs,SqL.of h1⟩,k _ H1 c1 f1 s1 (ItOk.lst λc' H' ex=>⟨vs,SqL.of (ex.keep _ _ h1 h2),h3.mono ex⟩)⟩
  | @scr p ns h1=>
    cases eq
    exact .inl ⟨p,rfl,⟨_,h1.sq⟩,k _ H1 c1 f1 s1 (ItOk.lst λc' H' ex=>⟨_,(h1.mono ex).sq,Reps.ints ns⟩)⟩
  | @tup p vs ds' h1 h2 h3=>
    cases eq
    exact .inr (.inl ⟨p,rfl,⟨vs,SqT.of h1⟩,k _ H1 c1 f1 s1 (ItOk.tup λc' H' ex=>⟨vs,SqT.of (ex.keep _ _ h1 h2),h3.mono ex⟩)⟩)
  | str x=>
    cases eq
    exact .inr (.inr ⟨x,rfl,k _ H1 c1 f1 s1 ItOk.str⟩)
  | _=>cases eq
theorem RG.un {v:V}{σ:L2.St}{H:Hp}{Q:L2.St->Hp->Prop}(q:RG K (unS n g) v σ H Q):gUn K n (RGs K g) v σ H Q:=by
 obtain ⟨Oo,c,t,d,fi,rv,t',eq,k⟩:=q
 cases rv with
 | @tup a vs ds h1 h2 h3=>
   unfold unS at eq
   by_cases hn:ds.length=n
   ·dsimp only at eq;rw [if_pos hn] at eq;exact ⟨a,vs,rfl,.inl (SqT.of h1),by rw [h3.length];exact hn,Oo,c,t,ds,fi,h3,t',eq,k⟩
   ·dsimp only at eq;rw [if_neg hn] at eq;cases eq
 | @lst a vs ds h1 h2 h3=>
   unfold unS at eq
   by_cases hn:ds.length=n
   ·dsimp only at eq;rw [if_pos hn] at eq;exact ⟨a,vs,rfl,.inr (SqL.of h1),by rw [h3.length];exact hn,Oo,c,t,ds,fi,h3,t',eq,k⟩
   ·dsimp only at eq;rw [if_neg hn] at eq;cases eq
 | _=>cases eq
theorem Zr {k:Nat}(hc:X.calm=true)(h:PGs X es (RGs X.K g))(hn:(assignEach es X.env).length=n:=by rfl)(hst:(assignEach es X.env).findIdx? (·.1)=none:=by rfl):PG X (.Tuple es k pos) (RG X.K (unS n g)):=
 GH (Uq hc h hn hst) λ_ _ _ _ q=>RG.un q
theorem Sx {f:D->M Unit}(h1:PG X e (RG X.K f))(h2:PGs X es (RGs X.K g))(hs:(assignEach (e :: es) X.env).map (·.2)=assign e X.env :: (assignEach es X.env).map (·.2):=by rfl):PGs X (e :: es) (RGs X.K (AF f g)):=
 Ng (Tu h1 h2 hs) λ_ _ _ _ q=>RGs.cons q
end
variable {x:Str}
section
variable {K:PySem.W.Frag}
def Uw (K:PySem.W.Frag):R2:=λx y H Q=>OV K x y H Q\/Ux x y H Q
theorem VF {X:Cx}:OpR X (binaryOp .Mult) (Uw X.K):=op_mul3.or VG
theorem M8 {k:Int}(h:BI k=true/\x.length * k.toNat<=LIM/\k<=LIM/\x.length<=LIM):MulOk x k:=by
 obtain ⟨g1,g2⟩:=DN h.1;have hL:LIM=100000:=rfl;refine ⟨?_,λh1 _=>?_,λh1 _=>?_⟩
 ·rw [Bool.or_eq_false_iff];exact ⟨uk5 (by lia),uk5 (by lia)⟩
 ·have h2:k<=100000:=by have:=h.2.2.1;rw [hL] at this;exact this
  have h3:x.length<=100000:=by have:=h.2.2.2;rw [hL] at this;exact this
  have h4:(92233720368547:Int)<=(2 ^ 63 - 1) / k:=by
   rw [Int.le_ediv_iff_mul_le (by lia)];lia
  lia
 ·have h5:=h.2.1;rw [hL] at h5;unfold Builtin.Str.tooLong
  first | exact uk5 (by unfold sizeLine;lia) | (unfold sizeLine;exact uk5 (by lia))
theorem TN:AZ K (Uw K) D1:=λ{Oo c t σ H x y dx dy r t' Q} f rx ry eq k=>by
 unfold D1 at eq
 split at eq
 ·next z kk=>
  split at eq
  ·next h=>
   cases eq
   cases rx
   cases ry
   exact .inr ⟨z,kk,rfl,rfl,M8 h,k _ H c f .refl (.str _)⟩
  ·cases eq
 ·exact .inl (Wl f rx ry eq k)
def YA (K:PySem.W.Frag):V->Option Int->Option Int->Hp->VK->Prop:=λx lo hi H Q=>TC K x lo hi H Q\/(YC x lo hi H Q\/YE K x lo hi H Q)
theorem sl3 {X:Cx}:SlR X (YA X.K):=sl2.or (sl_str.or Wy)
theorem Op {α:Type}{xs:List α}{lo hi:Option Int}(h:HT.sIx xs.length 0 lo=0/\HT.sIx xs.length xs.length hi=xs.length):Bn xs lo hi=xs:=by
 unfold Bn;rw [h.1,h.2];simp
theorem Wp:RQ K (YA K) Dn:=λ{Oo c t σ H x dx r lo hi t' Q} f rx eq k=>by
 unfold Dn at eq
 split at eq
 ·next z=>
  obtain ⟨h,e⟩:=CB eq
  cases e
  cases rx
  exact .inr (.inl ⟨z,rfl,um4 h Bf,k _ H c f .refl (.str _)⟩)
 ·next ds=>
  cases eq
  cases rx with
  | @tup p vs ds h1 h2 h3=>
    by_cases hw:HT.sIx ds.length 0 lo=0/\HT.sIx ds.length ds.length hi=ds.length
    ·rw [Op hw] at k;exact .inr (.inr ⟨p,vs,rfl,SqT.of h1,by rw [h3.length];exact hw,k _ H c f .refl (.tup h1 h2 h3)⟩)
    ·exact .inl (.inr ⟨p,vs,rfl,SqT.of h1,by rw [h3.length];exact hw,λq hq=>k _ _ c (f.laid hq) (f.stp_laid hq) (.tup Aj (f.s.free hq) ((Ff h3 lo hi).mono (Ext.laid f.s hq)))⟩)
 ·exact .inl (YM f rx eq k)
theorem Ie {g:Int->Int->Bool}{h:List Nat->List Nat->Bool}:AZ K (Gv g h) (LX g h):=λ{Oo c t σ H x y dx dy r t' Q} f rx ry eq k=>by
 cases rx with
 | int i=>cases ry with
   | int j=>cases eq;exact .inl ⟨i,j,rfl,rfl,k _ H c f .refl (.bl _)⟩
   | _=>cases eq
 | str i=>cases ry with
   | str j=>cases eq;exact .inr ⟨i,j,rfl,rfl,k _ H c f .refl (.bl _)⟩
   | _=>cases eq
 | _=>cases eq
theorem NY:AZ K (Gv (λi j=>decide (i < j)) λi j=>decide (i < j)) ltA:=Ie
theorem NX:AZ K (Gv (λi j=>decide (i<=j)) λi j=>!(decide (j < i))) leA:=Ie
theorem NW:AZ K (Gv (λi j=>decide (j < i)) λi j=>decide (j < i)) gtA:=Ie
theorem Wc:AZ K (Gv (λi j=>decide (j<=i)) λi j=>!(decide (i < j))) geA:=Ie
end
variable {fa:Addr}{fd:FuncData}
theorem Xv {P:Program}{w:World}{mg:Str->Option Value}{base:Heap}{qual:Str}{st:Stmt}{N ps:List Str}{k m:Nat}{g:M Out}(e1:ps.length=n)(e2:N.length=m)(F:Fun K x qual st fa fd)(S:FnScope N ps (Al st))
 (hb:∀(cdv:Value) (A:Around) (outer:List Env) (s:Shared) (H:Hp) (E:XK),Room k (A.deeper (PyProof.Rows.envOfC qual (Al st) s.heap.objs.size fa cdv))->
   PSs (CY CX0 P w K mg base N qual (Al st) fa cdv A outer s H E).nox (Bd st) (RS K g)):FnOk P w K mg base CX0 (k + 1) fa fd ps (spF K (fnOf n m g)):=by
 subst e1 e2;exact Zv F S hb
theorem YI {P:Program}{w:World}{mg:Str->Option Value}{base:Heap}{ps:List Str}{k:Nat}{f g:Fn}(e:f=g)(h:FnOk P w K mg base CX0 k fa fd ps (spF K g)):FnOk P w K mg base CX0 k fa fd ps (spF K f):=by rw [e];exact h
theorem W1:bootBuiltins "len" = some (.builtin "len"):=by decide +kernel
theorem KS:bootBuiltins "isinstance" = some (.builtin "isinstance"):=by decide +kernel
theorem W3:bootBuiltins "ord" = some (.builtin "ord"):=by decide +kernel
theorem W2:bootBuiltins "min" = some (.builtin "min"):=by decide +kernel
theorem Pw:bootBuiltins "int" = some (.type "int"):=by decide +kernel
theorem W4:bootBuiltins "str" = some (.type "str"):=by decide +kernel
theorem UL:bootBuiltins "bool" = some (.type "bool"):=by decide +kernel
theorem Nl:bootBuiltins "list" = some (.type "list"):=by decide +kernel
theorem LC:bootBuiltins "tuple" = some (.type "tuple"):=by decide +kernel
noncomputable def AO:Expr->Bool
 | .Starred _ _=>true
 | _=>false
theorem AV {e:Expr}{env:Env}(h:AO e=false):starEach (e :: es) env=(false,eval e env) :: starEach es env:=by
 cases e <;> first | rfl | cases h
def AM (es:List Expr):Bool:=es.all λe=>!AO e
theorem AK:∀{es:List Expr} {env:Env} {p:Pos},AM es=true->(backTo p (starEach es env)).any (·.1)=false/\(backTo p (starEach es env)).all (λx=>!x.1)=true
 | [],env,p,_=>⟨rfl,rfl⟩
 | e :: es,env,p,h=>by
   have h':AO e=false/\AM es=true:=by
    rw [AM,ul6,uh8] at h;exact ⟨by simpa using h.1,h.2⟩
   obtain ⟨h1,h2⟩:=AK (es:=es) (env:=env) (p:=p) h'.2;rw [AV h'.1];refine ⟨?_,?_⟩
   ·show (false || (backTo p (starEach es env)).any (·.1))=false;rw [h1];rfl
   ·show (!false && (backTo p (starEach es env)).all (λx=>!x.1))=true;rw [h2];rfl
variable {f:M (List D)}{p:Pos}{id:String}{R:List V->Hp->VK->Prop}
section
variable {X:Cx}{e a b:Expr}{es:List Expr}{pos:Pos}
theorem Se {f:M D}{g:M (List D)}(ha:PE X e (RE X.K f))(hr:PA X es (RA X.K g))(hs:AO e=false:=by rfl):PA X (e :: es) (RA X.K (Aa f g)):=UR ha hr (AV hs)
theorem Ma {k:Nat}{ps:List Str}{g:Fn}(F:FnOk X.prog X.w X.K X.mg X.base CX0 k fa fd ps (spF X.K g))(hr:Room k X.A)(hg:Gl X x)(hm:X.mg x=some (.ref fa))(hk:PySem.W.keepIn X.K (.ref fa)=true)(hb:Binds X.K fd ps [])
 (ha:PA X (e :: es) (RA X.K f)) (hdb:(x == ("__debug__" : Str))=false:=by decide) (h1:AO e=false:=by rfl) (h2:AM es=true:=by rfl) :
 PE X (.Call (.Name x p) (e :: es) [] pos) (RE X.K (Ai g f)):=US F hr hg hm hk hb ha hdb (AV h1) (AK h2).1
theorem Le {h:List D->M D}(hc:Cj X (.builtin id) R)(s:EK X.K R h)(hg:Gl X x)(hm:X.mg x=none)(hv:bootBuiltins x=some (.builtin id))(ha:PA X (e :: es) (RA X.K f))(hn:x≠"__name__":=by decide)(hdb:(x == ("__debug__" : Str))=false:=by decide)
 (h1:AO e=false:=by rfl) (h2:AM es=true:=by rfl):PE X (.Call (.Name x p) (e :: es) [] pos) (RE X.K (fB f h)):=bb hc s hg hm hv ha hn hdb (AV h1) (AK h2).1
theorem Uj {h:List D->M D}(hc:Cj X (.type id) R)(s:EK X.K R h)(hg:Gl X x)(hm:X.mg x=none)(hv:bootBuiltins x=some (.type id))(ha:PA X (e :: es) (RA X.K f))(hn:x≠"__name__":=by decide)(hdb:(x == ("__debug__" : Str))=false:=by decide)
 (h1:AO e=false:=by rfl) (h2:AM es=true:=by rfl):PE X (.Call (.Name x p) (e :: es) [] pos) (RE X.K (fB f h)):=bf hc s hg hm hv ha hn hdb (AV h1) (AK h2).1
theorem Zq {h:List D->M (List D)}(hc:Cj X (.type id) R)(s:K6 X.K R h)(hg:Gl X x)(hm:X.mg x=none)(hv:bootBuiltins x=some (.type id))(ha:PA X (e :: es) (RA X.K f))(hn:x≠"__name__":=by decide)(hdb:(x == ("__debug__" : Str))=false:=by decide)
 (h1:AO e=false:=by rfl) (h2:AM es=true:=by rfl):PE X (.Call (.Name x p) (e :: es) [] pos) (RF X.K (fBF f h)):=bg hc s hg hm hv ha hn hdb (AV h1) (AK h2).1
theorem Ow (hg:Gl X "range")(hm:X.mg "range" = none)(ha:PA X [a] (RA X.K f))(h1:AO a=false:=by rfl):PI X tg (.Call (.Name "range" p) [a] [] pos) (RI X.K (B4 f)):=PZ hg hm ha (AV h1)
theorem Ox (hg:Gl X "range")(hm:X.mg "range" = none)(ha:PA X [a,b] (RA X.K f))(h1:AO a=false:=by rfl)(h2:AO b=false:=by rfl):PI X tg (.Call (.Name "range" p) [a,b] [] pos) (RI X.K (Ez f)):=
 P0 hg hm ha (by rw [AV h1,AV h2];rfl) (AV h2)
theorem PX {cpos:Pos}(h1:AO e=false)(h2:AM es=true)(h3:es.length < 20):((backTo cpos (starEach (e :: es) X.env)).all (λx=>!x.1) && (backToKw cpos (keywordEach [] X.env)).all (λx=>x.1.isSome) && decide ((e :: es).length + ([]:List Keyword).length + (if ([]:List Keyword).isEmpty then 0 else 1) < 30))=true:=by
 rw [(AK (es:=e :: es) (env:=X.env) (p:=cpos) (by rw [AM,ul6,h1];exact h2)).2];show (true && true && decide (es.length + 1 + 0 + 0 < 30))=true;simp;lia
theorem OA {μ:Cf->Hp->D->(V->Hp->Prop)->Prop}(i:Nat){x:Str}{g:M (List D)}{px apos cpos:Pos}(ha:PA X (e :: es) (RA X.K g))(hN:X.N[i]?=some x:=by rfl)(hv:Vis X.env.scope x:=by walk_at "h")(hd:(x == ("__debug__" : Str))=false:=by decide)
 (hcd:(x == ("__classdict__" : Str))=false:=by decide) (hline:(apos.endLine == cpos.line)=true:=by rfl) (h1:AO e=false:=by rfl) (h2:AM es=true:=by rfl) (h3:es.length < 20:=by decide) :
 PS X (.Expr (.Call (.Attribute (.Name x px) "append" apos) (e :: es) [] cpos) pos) (RSg X.K μ (ownM i Bx g)):=P1 i ha hN hv hd hcd rfl (PX h1 h2 h3) hline (AV h1) (AK h2).1
theorem OB {μ:Cf->Hp->D->(V->Hp->Prop)->Prop}(i:Nat){x:Str}{g:M (List D)}{px apos cpos:Pos}(ha:PA X (e :: es) (RA X.K g))(hN:X.N[i]?=some x:=by rfl)(hv:Vis X.env.scope x:=by walk_at "h")(hd:(x == ("__debug__" : Str))=false:=by decide)
 (hcd:(x == ("__classdict__" : Str))=false:=by decide) (hline:(apos.endLine == cpos.line)=true:=by rfl) (h1:AO e=false:=by rfl) (h2:AM es=true:=by rfl) (h3:es.length < 20:=by decide) :
 PS X (.Expr (.Call (.Attribute (.Name x px) "extend" apos) (e :: es) [] cpos) pos) (RSg X.K μ (ownM i GU g)):=P2 i ha hN hv hd hcd rfl (PX h1 h2 h3) hline (AV h1) (AK h2).1
end
end F2
namespace HT
open PySem PySem.Spec L2 PyProof.Rows
section
variable {prog:Program}{w:World}{A:Around}{E:Value->Shared->Prop}{s:Shared}
end
end HT
namespace L2
open PySem PySem.Spec PyProof.Rows
section
variable {X:Cx}{e ek:Expr}{p2 pos:Pos}{te:TE}{tk:TO}
end
section
variable {X:Cx}
theorem GN:∀{ys:List Str} {us:List Value},Vals (ys.map V.str) us->CarriedAll us (ys.map PyData.str)
 | [],_,r=>by cases r;exact .nil
 | _ :: _,_,r=>by
   cases r with
   | cons r1 r2=>obtain ⟨t,rfl⟩:=r1;exact .cons (.str _ _) (GN r2)
def Uv (K:PySem.W.Frag):V->List V->Hp->VK->Prop:=λx xs H Q=>∃z a ys,x = .str z/\xs=[.ref a]/\SqL K H a (ys.map V.str)/\(∀y∈ys,y.length<=8)/\z.length<=8/\ys.length<=1048576/\Q (.str (Txt.join z ys)) H
theorem Vr:MtR X "str.join" (Uv X.K):=by
 intro pins s σ H x xs v us Q I rx rs h;obtain ⟨z,a,ys,rfl,rfl,ha,h1,h2,h3,q⟩:=h;obtain ⟨t,rfl⟩:=rx;obtain ⟨u,rfl,ru⟩:=EE rs
 cases ru
 obtain ⟨its,r,pl,_⟩:=I.list ha;refine join_madeW (l:=ys) (g:=id) 8 pl.isList (by rw [List.map_id];exact GN r) h1 h3 (by lia) λt' k=>?_;rw [List.map_id];exact ⟨.str _,H,I.tok _,⟨_,rfl⟩,q⟩
end
section
variable {X:Cx}
end
section
variable {X:Cx}
end
end L2
namespace F2
open PySem L2 PySem.Spec
section
variable {X:Cx}{K:PySem.W.Frag}
noncomputable def Fi:List D->Option (List Str)
 | []=>some []
 | .str x :: r=>if x.length<=8 then (Fi r).map (x :: ·) else none
 | _=>none
def joinM (f:M D)(g:M (List D)):M D:=bnd f λo=>bnd g λas=>match o,as with
 | .str z,[.lst ds]=>λt=>match Fi ds with
   | some ys=>if z.length<=8/\ys.length<=1048576 then some (.str (Txt.join z ys),t) else none
   | none=>none
 | _,_=>fail
theorem MW {c:Cf}{H:Hp}:∀{ds:List D} {vs:List V} {ys:List Str},Reps K c H vs ds->Fi ds=some ys->vs=ys.map V.str/\∀y∈ys,y.length<=8
 | [],_,ys,r,e=>by
   cases r
   cases e
   exact ⟨rfl,λ_ h=>nomatch h⟩
 | d :: ds,_,ys,r,e=>by
   cases r with
   | cons r1 r2=>
     cases r1 with
     | str x=>
       unfold Fi at e
       split at e
       ·next hx=>
        obtain ⟨zs,e1,rfl⟩:=uc8.mp e;obtain ⟨h1,h2⟩:=MW r2 e1;refine ⟨by rw [h1];rfl,λy hy=>?_⟩;rcases ul3.mp hy with rfl | hy
        ·exact hx
        ·exact h2 y hy
       ·cases e
     | _=>cases e
theorem RE.joinM {f:M D}{g:M (List D)}{σ:L2.St}{H:Hp}{Q:VK}(q:RE K (F2.joinM f g) σ H Q):tBM K "str" (Uv K) (RE K f) (RA K g) σ H Q:=by
 obtain ⟨Oo,c,t,fi,r,t',eq,k⟩:=q;obtain ⟨d,t1,e1,eq⟩:=Ae eq;obtain ⟨as,t2,e2,eq⟩:=Ae eq;refine ⟨Oo,c,t,fi,d,t1,e1,λv H1 c1 f1 s1 rv=>?_⟩
 split at eq
 ·next z ds=>
  cases rv
  refine ⟨rfl,Oo,c1,t1,f1,_,t2,e2,λus H2 c2 f2 s2 rus=>?_⟩;obtain ⟨w,rfl,rw'⟩:=Df rus
  split at eq
  ·next ys ey=>
   split at eq
   ·next hz=>
    cases eq
    cases rw' with
    | @lst p vs ds h1 h2 h3=>
      obtain ⟨h4,h5⟩:=MW h3 ey;subst h4;exact ⟨_,p,ys,rfl,rfl,SqL.of h1,h5,hz.1,hz.2,k _ _ c2 f2 (s1.trans s2) (.str _)⟩
   ·cases eq
  ·cases eq
 ·cases eq
theorem UU {o e:Expr}{es:List Expr}{f:M D}{g:M (List D)}{apos cpos:Pos}(ho:PE X o (RE X.K f))(ha:PA X (e :: es) (RA X.K g))
 (hbase:attributeBase o "join" X.env (eval o X.env)=eval o X.env:=by rfl)
 (hfew:((backTo cpos (starEach (e :: es) X.env)).all (λx=>!x.1) && (backToKw cpos (keywordEach [] X.env)).all (λx=>x.1.isSome) && decide ((e :: es).length + ([]:List Keyword).length + (if ([]:List Keyword).isEmpty then 0 else 1) < 30))=true:=by rfl)
 (hline:(apos.endLine == cpos.line)=true:=by rfl) (hs:starEach (e :: es) X.env=(false,eval e X.env) :: starEach es X.env:=by rfl) (hplain:(backTo cpos (starEach es X.env)).any (·.1)=false:=by rfl) :
 PE X (.Call (.Attribute o "join" apos) (e :: es) [] cpos) (RE X.K (joinM f g)):=
 AA (HY PySem.F.plainAttrs_str PySem.F.slot_str_join PySem.F.type_str_join Vr ho ha hbase hfew hline hs hplain) λ_ _ _ q=>RE.joinM q
end
end F2
namespace L2
open PySem PySem.Spec PyProof.Rows
def QW:R2:=λx y H Q=>∃a kvs k v,x = .ref a/\y = .str k/\H a=some (.dK kvs)/\Do kvs (Sum.inr k:Key)=some v/\Q v H
def Ys:V->V->V->Hp->(Hp->Prop)->Prop:=λo i v H Q=>∃a kvs k,o = .ref a/\i = .str k/\H a=some (.dK kvs)/\kvs.length < sizeLine/\Q (upd H a (.dK (Dl kvs (Sum.inr k:Key) v)))
section
variable {X:Cx}
theorem XF:IxR X QW:=by
 intro value slice pins s σ H x y v u Q I rx ry h hs;obtain ⟨a,kvs,k,z,rfl,rfl,e,l,q⟩:=h
 cases rx
 obtain ⟨_,_,vs,rel,dd⟩:=Lc I.hok e;have g:DGet H a (kV (Sum.inr k:Key)) (some z):=by rw [<-l];exact DGet.k e
 have hT:=dd.typeIs;unfold subscriptTail;refine un6 ?_;rw [getitemInPython_of_ne hT.not_modules];refine un6 (wpAny_specialOf hT PySem.F.slot_dict_getitem.lookup ?_);have get:wpAny (model X.prog X.w) X.A (getItem (.ref a) u) (EP X pins σ Q) X.xe s:=by
  obtain ⟨w',hw,rw'⟩:=RelO.some_of (v:=z) (o:=valueAt vs (Sum.inr k:Key)) (by rw [<-l];exact rel.val _);exact wpAny_getItem_of (Jt (k:=(Sum.inr k:Key)) ry) dd.mapOf hw ⟨z,H,I.tok _,rw',q⟩
 have fin:wpAny (model X.prog X.w) X.A (subscripted slice false (.ref a) u) (λr s₃=>wpAny (model X.prog X.w) X.A (letTemporaryGo value (.ref a) r >>= λ_=>pure r) (EP X pins σ Q) X.xe s₃) X.xe s:=by
  rw [hs];exact wpAny_operating (un8 get (λr s₃ h₃=>un6 (wpAny_letTemporaryGo (un7 h₃))) λ_ _ x=>x)
 first
  | exact un7 (un6 fin)
  | exact un6 (un7 (un6 fin))
  | exact un6 fin
theorem Wt:RM X Ys:=by
 intro pins s σ H o i v ov iv u Q I ro ri rv h;obtain ⟨a,kvs,k,rfl,rfl,e,l,q⟩:=h
 cases ro
 obtain ⟨z,hd,vs,rel,dd⟩:=Lc I.hok e;have hz:vs.length<=sizeLine:=by rw [<-rel.length];exact z
 have hl:(Dl kvs (Sum.inr k:Key) v).length<=sizeLine:=by have:=Ip kvs (Sum.inr k:Key) v;lia
 refine wpAny_setItem_pairs (hsz:=hz) (Jt (k:=(Sum.inr k:Key)) ri) dd λh' dd' hs=>⟨_,?_,q⟩;have he:∃q,h'.get? a=some q:=let ⟨q,_,_,hq,_⟩:=dd';⟨q,hq⟩;exact Nn I (by rw [e];exact True.intro) hs he (L9 hl hd (rel.put _ rv) dd')
end
end L2
namespace F2
open PySem L2 PySem.Spec
noncomputable def AU (kvs:List (Key×D))(k:Key):Option D:=(kvs.find? λkv=>decide (kv.1=k)).map (·.2)
noncomputable def A7 (kvs:List (Key×D))(k:Key)(d:D):List (Key×D):=
 if (kvs.any λkv=>decide (kv.1=k))=true then kvs.map (λkv=>if kv.1=k then (kv.1,d) else kv) else kvs++[(k,d)]
def AN:D->D->M D
 | .obj n,.str x=>λt=>match t.S[n]? with
   | some (.dct kvs)=>(AU kvs (.inr x)).map λd=>(d,t)
   | _=>none
 | _,_=>fail
def FV:D->D->D->M Unit
 | .obj n,.str x,d=>λt=>match t.S[n]? with
   | some (.dct kvs)=>if kvs.length < LIM then some ((),{ t with S:=t.S.set n (.dct (A7 kvs (.inr x) d)) }) else none
   | _=>none
 | _,_,_=>fail
def Ck (f g:M D)(d:D):M Unit:=bnd f λo=>bnd g λi=>FV o i d
def Dp:List (Str×M D)->M (List (Key×D))
 | []=>ret []
 | (k,f) :: r=>bnd f λd=>bnd (Dp r) λps=>ret ((.inr k,d) :: ps)
def Bh (ps:List (Key×D)):List (Key×D):=ps.foldl (λacc kv=>A7 acc kv.1 kv.2) []
def EF (n:Nat)(ps:List (Key×D)):M D:=λt=>match t.S[n]? with
 | some (.dct [])=>if ps.length<=15 then some (.obj n,{ t with S:=t.S.set n (.dct (Bh ps)) }) else none
 | _=>none
def Fp (l:List (Str×M D)):M D:=λt=>bnd (Dp l) (EF t.S.length) { t with S:=t.S++[.dct []] }
def FM (i:Nat)(g:M D):M D:=λt=>match t.env[i]? with
 | some (some (.own _))=>bnd g (λj t1=>match j,t1.env[i]? with
   | .int j,some (some (.own xs))=>(atI xs j).map λd=>(d,t1)
   | _,_=>none) t
 | _=>none
section
variable {K:PySem.W.Frag}{c:Cf}{H:Hp}
theorem KVR.get {us:List (Key×V)}{kvs:List (Key×D)}(r:KVR K c H us kvs)(k:Key){d:D}(e:AU kvs k=some d):∃v,Do us k=some v/\Rep K c H v d:=by
 unfold KVR at r
 induction r with
 | nil=>simp [AU] at e
 | @cons p q ps qs h t ih=>
   by_cases hk:p.1=k
   ·have hq:q.1=k:=h.1.symm.trans hk;have:AU (q :: qs) k=some q.2:=by simp [AU,uj8,hq]
    rw [this] at e;cases e
    exact ⟨p.2,Gz hk,h.2⟩
   ·have hq:¬q.1=k:=λz=>hk (h.1.trans z);have:AU (q :: qs) k=AU qs k:=by simp [AU,uj8,hq]
    rw [this] at e;rw [Gy hk];exact ih e
theorem KVR.any {us:List (Key×V)}{kvs:List (Key×D)}(r:KVR K c H us kvs)(k:Key):(us.any λkv=>decide (kv.1=k))=(kvs.any λkv=>decide (kv.1=k)):=by
 unfold KVR at r
 induction r with
 | nil=>rfl
 | @cons p q ps qs h t ih=>rw [ul7,ul7,ih,h.1]
theorem KVR.put {us:List (Key×V)}{kvs:List (Key×D)}(r:KVR K c H us kvs)(k:Key){v:V}{d:D}(rv:Rep K c H v d):KVR K c H (Dl us k v) (A7 kvs k d):=by
 unfold Dl A7;rw [r.any k]
 by_cases q:(kvs.any λkv=>decide (kv.1=k))=true
 ·rw [if_pos q,if_pos q];clear q;unfold KVR at r ⊢
  induction r with
  | nil=>exact .nil
  | @cons p q ps qs h t ih=>
    rw [ul4,ul4];refine .cons ?_ ih
    by_cases e:p.1=k
    ·rw [if_pos e,if_pos (h.1.symm.trans e)];exact ⟨h.1,rv⟩
    ·rw [if_neg e,if_neg (λz=>e (h.1.trans z))];exact h
 ·rw [if_neg q,if_neg q];exact Paired.snoc r ⟨rfl,rv⟩
theorem KVR.length {us:List (Key×V)}{kvs:List (Key×D)}(r:KVR K c H us kvs):us.length=kvs.length:=Paired.length r
theorem KVR.mono {c':Cf}{H':Hp}{us:List (Key×V)}{kvs:List (Key×D)}(e:Ext c H c' H')(r:KVR K c H us kvs):KVR K c' H' us kvs:=Paired.mapP r λ_ _ z=>⟨z.1,z.2.mono e⟩
theorem KVR.merge:∀{ps:List (Key×D)} {us:List (Key×V)} {acc:List (Key×D)} {ua:List (Key×V)},KVR K c H us ps->KVR K c H ua acc->KVR K c H (Fb ua us) (ps.foldl (λacc kv=>A7 acc kv.1 kv.2) acc):=by
 intro ps us acc ua r;unfold KVR at r
 induction r generalizing acc ua with
 | nil=>intro q;exact q
 | @cons p q ps qs h t ih=>
   intro r0;refine ih ?_;show KVR K c H (Dl ua p.1 p.2) (A7 acc q.1 q.2);have:=KVR.put r0 p.1 h.2;rw [<-h.1];exact this
theorem Rg:AZ K QW AN:=λ{Oo c t σ H x y dx dy r t' Q} f rx ry eq k=>by
 unfold AN at eq
 split at eq
 ·next n z=>
  cases ry
  cases rx with
  | @obj a kk hk=>
    split at eq
    ·next kvs es=>
     obtain ⟨d,e1,e2⟩:=uc8.mp eq
     cases e2
     obtain ⟨us,g1,g2⟩:=f.s.obs _ a _ hk es;obtain ⟨v,e3,e4⟩:=g2.get _ e1;exact ⟨a,us,z,v,rfl,rfl,g1,e3,k _ H c f .refl e4⟩
    ·cases eq
 ·cases eq
end
section
variable {X:Cx}{pos:Pos}{e:Expr}
theorem PY {o i:Expr}{f g:M D}(ho:PE X o (RE X.K f))(hi:PE X i (RE X.K g))
 (ha:∀v,assign (.Subscript o i pos) X.env v=(do
   let ov <-holding [v] (eval o X.env)
   let iv <-holding [v,ov] (eval i X.env)
   standAt pos
   holding [v,ov,iv] (setItem ov iv v)
   release [v,ov,iv] []):=by intro _;rfl):PG X (.Subscript o i pos) (RG X.K (Ck f g)):=
 GH (QN ho hi Wt ha) λv σ H Q z9=>by
  obtain ⟨Oo,c,t,d,fi,rv,t',eq,k⟩:=z9;obtain ⟨d0,t1,e1,eq⟩:=Ae eq;obtain ⟨di,t2,e2,eq⟩:=Ae eq;refine ⟨Oo,c,t,fi,_,t1,e1,λx H1 c1 f1 s1 rx=>⟨Oo,c1,t1,f1,di,t2,e2,λy H2 c2 f2 s2 ry=>?_⟩⟩;unfold FV at eq
  split at eq
  ·next n z dd=>
   cases ry
   cases rx with
   | @obj a kk hk=>
     split at eq
     ·next kvs es=>
      split at eq
      ·next hl=>
       cases eq
       have hk2:=s2.ext.io _ _ hk;obtain ⟨us,g1,g2⟩:=f2.s.obs _ a _ hk2 es;refine ⟨a,us,z,rfl,rfl,g1,by rw [g2.length];exact Nat.lt_trans hl WT,?_⟩;have rv2:=rv.mono (s1.trans s2).ext;obtain ⟨f3,s3⟩:=f2.wrObj (o:=.dct (A7 kvs (.inr z) d)) (u:=.dK (Dl us (.inr z) v)) hk2 λc' H' ext hu=>⟨_,hu,(g2.put _ rv2).mono ext⟩;exact k σ _ c2 f3 ((s1.trans s2).trans s3)
      ·cases eq
     ·cases eq
  ·cases eq
def RP (K:PySem.W.Frag)(f:M (List (Key×D)))(σ:St)(H:Hp)(Q:List (V×V)->Hp->Prop):Prop:=
 ∃Oo c t,FInv K Oo c t σ H/\∃ps t',f t=some (ps,t')/\∀us H' c',FInv K Oo c' t' σ H'->Stp Oo c H c' H'->KVR K c' H' us ps->Q (us.map λkv=>(kV kv.1,kv.2)) H'
def PPf (X:Cx)(pos:Pos)(keys:List (Option Expr))(values:List Expr)(f:M (List (Key×D))):Prop:=
 ∃trs,PPs X pos keys values trs/\∀σ H Q,RP X.K f σ H Q->JD trs σ H Q
theorem U9:PPf X pos [] [] (Dp []):=⟨[],V0,λσ H Q z9=>by
 obtain ⟨Oo,c,t,fi,ps,t',eq,k⟩:=z9
 cases eq
 exact k [] H c fi .refl .nil⟩
theorem Sz {k:Str}{j:Nat}{kp:Pos}{v:Expr}{ks:List (Option Expr)}{vs:List Expr}{f:M D}{r:List (Str×M D)}(hv:PE X v (RE X.K f))(hr:PPf X pos ks vs (Dp r)) :
 PPf X pos (some (.Constant (.str k) j kp) :: ks) (v :: vs) (Dp ((k,f) :: r)):=by
 obtain ⟨trs,h1,h2⟩:=hr;refine ⟨_,Tx QM hv h1,λσ H Q z9=>?_⟩;obtain ⟨Oo,c,t,fi,ps,t',eq,kk⟩:=z9;obtain ⟨d,t1,e1,eq⟩:=Ae eq;obtain ⟨qs,t2,e2,eq⟩:=Ae eq
 cases eq
 refine ⟨Oo,c,t,fi,d,t1,e1,λy H1 c1 f1 s1 ry=>?_⟩;refine h2 σ H1 _ ⟨Oo,c1,t1,f1,qs,_,e2,λus H2 c2 f2 s2 ru=>?_⟩;exact kk ((.inr k,y) :: us) H2 c2 f2 (s1.trans s2) (.cons ⟨rfl,ry.mono s2.ext⟩ ru)
theorem UT {keys:List (Option Expr)}{values:List Expr}{l:List (Str×M D)}(h:PPf X pos keys values (Dp l))(hall:keys.all (·.isSome)=true:=by rfl)(hl:keys.length=values.length:=by rfl)(h0:keys≠[]:=by exact List.cons_ne_nil _ _)
 (h15:keys.length<=15:=by exact ud6 rfl):PE X (.Dict keys values pos) (RE X.K (Fp l)):=by
 obtain ⟨trs,h1,h2⟩:=h;refine AA (VO h1 hall hl h0 h15) λσ H Q z9=>?_;obtain ⟨Oo,c,t,fi,r,t',eq,k⟩:=z9;intro p hp;obtain ⟨c1,f1,s1,e1⟩:=fi.newObj (o:=.dct []) (u:=.dK []) hp λc' H' ex hu=>⟨[],hu,.nil⟩;obtain ⟨ps,t2,e2,eq⟩:=Ae eq;refine h2 σ _ _ ⟨Oo,c1,_,f1,ps,t2,e2,λus H2 c2 f2 s2 ru=>?_⟩;unfold EF at eq
 split at eq
 ·next es=>
  split at eq
  ·next hl15=>
   cases eq
   have hk2:=s2.ext.io _ _ e1;obtain ⟨u0,g1,g2⟩:=f2.s.obs _ p _ hk2 es
   cases g2
   refine ⟨g1,us,rfl,by rw [ru.length];exact hl15,?_⟩;obtain ⟨f3,s3⟩:=f2.wrObj (o:=.dct (Bh ps)) (u:=.dK (Fb [] us)) hk2 λc' H' ext hu=>⟨_,hu,(KVR.merge ru .nil).mono ext⟩;exact k _ _ c2 f3 (s1.trans (s2.trans s3)) (.obj hk2)
  ·cases eq
 ·cases eq
theorem Sn (i:Nat){x:Str}{ix:Expr}{g:M D}{px:Pos}(hi:PE X ix (RE X.K g))(hs:JM ix)(hN:X.N[i]?=some x:=by rfl)(hv:Vis X.env.scope x:=by walk_at "h")(hd:(x == ("__debug__" : Str))=false:=by decide)
 (hcd:(x == ("__classdict__" : Str))=false:=by decide):PE X (.Subscript (.Name x px) ix pos) (RE X.K (FM i g)):=
 AA (Up ix_list (Cq hN hv hd hcd) hi hs) λσ H Q z9=>by
  obtain ⟨Oo,c,t,fi,r,t',eq,k⟩:=z9;unfold FM at eq
  split at eq
  ·next xs0 e0=>
   obtain ⟨j,t1,e1,eq⟩:=Ae eq;obtain ⟨a,vs0,h1,h2,h3,h4,h5⟩:=fi.own i xs0 e0;refine ⟨.ref a,h1,Oo,c,t,fi,j,t1,e1,λy H1 c1 f1 s1 ry=>?_⟩
   split at eq
   ·next j' xs ex=>
    obtain ⟨d,en,ez⟩:=uc8.mp eq
    cases ez
    cases ry
    obtain ⟨a',vs,g1,g2,g3,g4,g5⟩:=f1.own i xs ex;rw [h1] at g1;injection g1 with g1;injection g1 with g1;injection g1 with g1;subst g1
    obtain ⟨v,e3,e4⟩:=Gb g5 en;exact ⟨a,vs,j',v,rfl,rfl,SqL.of g4,e3,k _ H1 c1 f1 s1 e4⟩
   ·cases eq
  ·cases eq
end
end F2
namespace L2
open PySem PySem.Spec PyProof.Rows
section
variable {X:Cx}
end
end L2
namespace F2
open PySem L2 PySem.Spec
section
variable {X:Cx}{pos:Pos}{e:Expr}{es:List Expr}
end
end F2
namespace L2
open PySem PySem.Spec PyProof.Rows
section
variable {prog:Program}{w:World}{A:Around}{I:Addr}{fp wr:List Addr}{G:Array GenState->Array GenState->Prop}{n:Nat}{P:Nat->Value->Prop}{St:Nat->Shared->Prop}
end
section
variable {X:Cx}
end
end L2
namespace F2
open PySem L2 PySem.Spec PyProof.Rows
section
variable {X:Cx}{pos:Pos}{e:Expr}
end
end F2
namespace F2
open PySem L2 PySem.Spec
noncomputable def CQ (f:M Bool)(b:M Out):Nat->M Out
 | 0=>λ_=>none
 | n + 1=>λt=>match f t with
   | none=>none
   | some (false,t1)=>some (.next,t1)
   | some (true,t1)=>match b t1 with
     | some (.next,t2)=>CQ f b n t2
     | some (.cont,t2)=>CQ f b n t2
     | some (.brk,t2)=>some (.next,t2)
     | some (.ret x,t2)=>some (.ret x,t2)
     | none=>none
def K9:Nat:=1000000
def FY (f:M Bool)(b:M Out):M Out:=CQ f b K9
theorem RS.while {μ:Cf->Hp->D->(V->Hp->Prop)->Prop}{K:PySem.W.Frag}{f:M Bool}{b:M Out}{E:Ends}{σ:L2.St}{H:Hp}(q:RSg K μ (FY f b) E σ H):Rp (RT K f) (RSg K μ b) E σ H:=by
 obtain ⟨Oo,c,t,fi,o,t',eq,k⟩:=q;refine ⟨λm σ' H'=>∃c' t2,FInv K Oo c' t2 σ' H'/\Stp Oo c H c' H'/\CQ f b m t2=some (o,t'),⟨K9,c,t,fi,.refl,eq⟩,?_⟩;rintro m σ' H' ⟨c',t2,f2,s2,e2⟩
 cases m with
 | zero=>cases e2
 | succ m=>
 rw [CQ] at e2;dsimp only at e2
 cases ef:f t2 with
 | none=>rw [ef] at e2;cases e2
 | some p=>
 obtain ⟨r,t3⟩:=p;rw [ef] at e2;refine ⟨Oo,c',t2,f2,r,t3,ef,λH3 c3 f3 s3=>?_⟩
 cases r with
 | false=>
   cases e2
   exact k σ' H3 c3 f3 (s2.trans s3)
 | true=>
   rw [if_pos rfl];dsimp only at e2;refine ⟨λσ4 H4=>∃c4 t4,FInv K Oo c4 t4 σ4 H4/\Stp Oo c H c4 H4/\CQ f b m t4=some (o,t'),λσ4 H4 h=>⟨m,uh5 m,h⟩,?_⟩
   cases eb:b t3 with
   | none=>rw [eb] at e2;cases e2
   | some p=>
   obtain ⟨ob,t4⟩:=p;rw [eb] at e2;refine ⟨Oo,c3,t3,f3,ob,t4,eb,λσ4 H4 c4 f4 s4=>?_⟩
   cases ob with
   | next=>exact ⟨c4,t4,f4,(s2.trans s3).trans s4,e2⟩
   | cont=>exact ⟨c4,t4,f4,(s2.trans s3).trans s4,e2⟩
   | brk=>
     cases e2
     exact k σ4 H4 c4 f4 ((s2.trans s3).trans s4)
   | ret x=>
     cases e2
     exact k σ4 H4 c4 f4 ((s2.trans s3).trans s4)
section
variable {X:Cx}{pos:Pos}
theorem Mm {μ:Cf->Hp->D->(V->Hp->Prop)->Prop}{e:Expr}{body:List Stmt}{f:M Bool}{b:M Out}(hp:PassesOwn (model X.prog X.w) X.A X.env X.xe)(hc:PT X e (RT X.K f))(hb:PSs X body (RSg X.K μ b)):PS X (.While e body [] pos) (RSg X.K μ (FY f b)):=
 A8 (Tz hp hc hb) λ_ _ _ q=>RS.while q
end
end F2
namespace L2
open PySem PySem.Spec PyProof.Rows
end L2
namespace F2
open PySem L2 PySem.Spec
end F2
namespace L2
open PySem PySem.Spec PyProof.Rows
section
variable {X:Cx}{tg:Expr}
end
end L2
namespace F2
open PySem L2 PySem.Spec
section
variable {X:Cx}{pos:Pos}{e:Expr}{es:List Expr}
end
noncomputable def Ef (H:Hp)(a:Addr):Hp:=λb=>if b=a then none else H b
theorem Tl {H:Hp}{a:Addr}{o:HO}(h:H a=some o):upd (Ef H a) a o=H:=by
 funext b
 by_cases e:b=a
 ·subst e;rw [Aj];exact h.symm
 ·rw [Ah e];unfold Ef;rw [if_neg e]
section
variable {K:PySem.W.Frag}{Oo:Addr->Prop}{c:Cf}{t:T}{σ:L2.St}{H:Hp}
theorem FInv.out (f:FInv K Oo c t σ H){i:Nat}{ds:List D}(e:t.env[i]?=some (some (.own ds))){a:Addr}(ha:σ[i]?=some (some (.ref a))) :
 FInv K Oo ⟨c.ι,λb=>c.O b/\b≠a⟩ { t with env:=t.env.set i none } σ (Ef H a)/\Stp Oo c H ⟨c.ι,λb=>c.O b/\b≠a⟩ (Ef H a):=by
 obtain ⟨a',vs,g1,g2,g3,g4,g5⟩:=f.own i ds e;rw [ha] at g1;injection g1 with g1;injection g1 with g1;injection g1 with g1;subst g1
 have ni:a∉c.ι:=f.s.dis a g2;have ext:Ext c H ⟨c.ι,λb=>c.O b/\b≠a⟩ (Ef H a):=by
  refine ⟨λb o hb hn=>?_,λb o hb z=>?_,λk b h=>h⟩
  ·unfold Ef;rw [if_neg λz=>hn (by rw [z];exact .inr g2)];exact hb
  ·rcases z with z | z
   ·exact .inl z
   ·exact .inr z.1
 have stp:Stp Oo c H ⟨c.ι,λb=>c.O b/\b≠a⟩ (Ef H a):=⟨ext,λb hb=>by unfold Ef;rw [if_neg λz=>g3 (by rw [<-z];exact hb)]⟩;have old:∀{j:Nat} {x:Sl},(t.env.set i none)[j]?=some (some x)->j≠i/\t.env[j]?=some (some x):=λ{j x} q=>by
  by_cases h:j=i
  ·subst h;rw [ug8] at q
   split at q
   ·split at q <;> simp at q
   ·contradiction
  ·exact ⟨h,by rw [ue0 (Ne.symm h)] at q;exact q⟩
 refine ⟨⟨⟨f.s.len,f.s.nd,λk b o e1 e2=>?_,λb hb=>?_,λb hb=>f.s.dis b hb.1⟩,by simpa using f.len,λb hb=>⟨f.sub b hb,λz=>g3 (by rw [<-z];exact hb)⟩,λj d q=>?_,λj es q=>?_,λj k es fs b q1 q2 q3 q4=>?_⟩,stp⟩
 ·refine (f.s.obs k b o e1 e2).mono ext ?_;unfold Ef;rw [if_neg λz=>ni (by rw [<-z];exact ue1 e1)]
 ·obtain ⟨o,ho⟩:=f.s.trk b hb.1;exact ⟨o,by unfold Ef;rw [if_neg hb.2];exact ho⟩
 ·obtain ⟨v,h1,h2⟩:=f.val j d (old q).2;exact ⟨v,h1,h2.mono ext⟩
 ·obtain ⟨nj,q'⟩:=old q;obtain ⟨b,us,k1,k2,k3,k4,k5⟩:=f.own j es q';have nb:b≠a:=λz=>nj (f.inj j i es ds a q' e (by rw [k1,z]) ha);exact ⟨b,us,k1,⟨k2,nb⟩,k3,by unfold Ef;rw [if_neg nb];exact k4,k5.mono ext⟩
 ·exact f.inj j k es fs b (old q1).2 (old q2).2 q3 q4
end
noncomputable def FT (i:Nat):M Out:=λt=>match t.env[i]? with
 | some (some (.own xs))=>some (.ret (.lst xs),{ t with env:=t.env.set i none })
 | _=>none
def FG (f:M (List D)):M Out:=bnd f λds=>ret (.ret (.lst ds))
variable {g:Fn}{fa:Addr}{fd:FuncData}
section
variable {X:Cx}{pos:Pos}{e:Expr}{es:List Expr}
theorem Nt {f:M (List D)}(h:PE X e (RF X.K f)):PS X (.Return (some e) pos) (RSg X.K (μF X.K) (FG f)):=
 A8 (Hs h) λE σ H z9=>by
  obtain ⟨Oo,c,t,fi,o,t',eq,k⟩:=z9;obtain ⟨ds,t1,e1,eq⟩:=Ae eq
  cases eq
  exact ⟨Oo,c,t,fi,ds,_,e1,λp us H1 c1 f1 s1 ru hp=>k σ H1 c1 f1 s1 p us hp ru⟩
theorem P6 (i:Nat){x:Str}{px:Pos}(hN:X.N[i]?=some x:=by rfl)(hv:Vis X.env.scope x:=by walk_at "h")(hd:(x == ("__debug__" : Str))=false:=by decide)
 (hcd:(x == ("__classdict__" : Str))=false:=by decide):PS X (.Return (some (.Name x px)) pos) (RSg X.K (μF X.K) (FT i)):=
 A8 (Hs (Cq hN hv hd hcd)) λE σ H z9=>by
  obtain ⟨Oo,c,t,fi,o,t',eq,k⟩:=z9;unfold FT at eq
  split at eq
  ·next xs ex=>
   cases eq
   obtain ⟨a,vs,h1,h2,h3,h4,h5⟩:=fi.own i xs ex;refine ⟨.ref a,h1,?_⟩;obtain ⟨f2,s2⟩:=fi.out ex h1;have:=k σ (Ef H a) _ f2 s2 a vs (by unfold Ef;rw [if_pos rfl]) (h5.mono s2.ext);rw [Tl h4] at this;exact this
  ·cases eq
inductive spFF (K:PySem.W.Frag)(f:Fn)(vs:List V)(H:Hp)(Q:VK)(E:XK):Prop where
 | mk (c:Cf) (ds:List D) (S:List Ob) (si:SInv K c S H) (rp:Reps K c H vs ds) (rs:List D) (S':List Ob) (e:f ds S=some (.lst rs,S')) (k:∀p us H' c',SInv K c' S' H'->Stp c.O c H c' H'->(∀b,c'.O b↔c.O b)->Reps K c' H' us rs->H' p=none->Q (.ref p) (upd H' p (.lst us))):spFF K f vs H Q E
def C3 (g:Fn)(f:M (List D)):M (List D):=bnd f λds t=>match g ds t.S with
 | some (.lst rs,S')=>some (rs,{ t with S:=S' })
 | _=>none
theorem Oj {ds:List D}{t:T}{rs:List D}{t':T}(h:(match g ds t.S with | some (.lst rs,S')=>some (rs,{ t with S:=S' }) | _=>none:Option (List D×T))=some (rs,t')):∃S',g ds t.S=some (.lst rs,S')/\t' = { t with S:=S' }:=by
 split at h
 ·next rs' S' e=>cases h;exact ⟨S',e,rfl⟩
 ·cases h
theorem Su {k:Nat}{ps:List Str}{f:M (List D)}{x:Str}{p:Pos}(F:FnOk X.prog X.w X.K X.mg X.base CX0 k fa fd ps (spFF X.K g))(hr:Room k X.A)(hg:Gl X x)(hm:X.mg x=some (.ref fa))(hk:PySem.W.keepIn X.K (.ref fa)=true)(hb:Binds X.K fd ps [])
 (ha:PA X (e :: es) (RA X.K f)) (hdb:(x == ("__debug__" : Str))=false:=by decide) (h1:AO e=false:=by rfl) (h2:AM es=true:=by rfl) :
 PE X (.Call (.Name x p) (e :: es) [] pos) (RF X.K (C3 g f)):=
 AA (NJ F hr hg hm hk hb .nil HX ha hdb (AV h1) (AK h2).1) λσ H Q z9=>by
  obtain ⟨Oo,c,t,fi,rs,t',eq,kk⟩:=z9;obtain ⟨ds,t1,e1,eq⟩:=Ae eq;obtain ⟨S',e2,rfl⟩:=Oj eq;refine ⟨Oo,c,t,fi,ds,t1,e1,λvs H1 c1 f1 s1 rvs=>?_⟩;show spFF X.K g (vs++[]) H1 Q E0;rw [uj2];refine ⟨c1,ds,t1.S,f1.s,rvs,rs,S',e2,λp us H' c' si st ho ru hp=>?_⟩;obtain ⟨f2,s2⟩:=f1.after si st ho;exact kk p us H' c' f2 (s1.trans s2) ru hp
end
theorem U5 {P:Program}{w:World}{K:PySem.W.Frag}{mg:Str->Option Value}{base:Heap}{x qual:Str}{st:Stmt}{N ps:List Str}{k n m:Nat}{g:M Out}(e1:ps.length=n)(e2:N.length=m)(F:Fun K x qual st fa fd)(S:FnScope N ps (Al st))
 (hb:∀(cdv:Value) (A:Around) (outer:List Env) (s:Shared) (H:Hp) (E:XK),Room k (A.deeper (PyProof.Rows.envOfC qual (Al st) s.heap.objs.size fa cdv))->
   PSs (CY CX0 P w K mg base N qual (Al st) fa cdv A outer s H E).nox (Bd st) (RSg K (μF K) g)):FnOk P w K mg base CX0 (k + 1) fa fd ps (spFF K (fnOf n m g)):=by
 subst e1 e2;have hlen:∀{ds:List D} {S:List Ob} {z:D×List Ob},fnOf ps.length N.length g ds S=some z->ds.length=ps.length:=λ{ds S z} h=>by
  unfold fnOf at h
  split at h
  ·next h1=>exact h1
  ·cases h
 refine F.ok S (λvs H Q E h=>?_) (λcdv A outer s H vs Q E hr h=>?_)
 ·obtain ⟨c,ds,S,si,rs,r,S',e,_⟩:=h;rw [rs.length];exact hlen e
 obtain ⟨c,ds,S0,si,rs,r,S',e,kk⟩:=h;refine ⟨RSg K (μF K) g,hb cdv A outer s H E hr,?_⟩;have hl:=hlen e;unfold fnOf at e;rw [if_pos hl] at e
 cases eg:g ⟨env0 N.length ds,S0⟩ with
 | none=>rw [eg] at e;cases e
 | some p=>
   obtain ⟨o,t⟩:=p;rw [eg] at e;refine ⟨c.O,c,_,Gg si rs,o,t,eg,λσ' H' c' f' s'=>?_⟩;obtain ⟨si',ext'⟩:=f'.leave;have st':Stp c.O c H ⟨c'.ι,c.O⟩ H':=⟨s'.ext.trans ext',s'.oo⟩
   cases o with
   | next=>cases e
   | ret d=>
     cases e
     exact λp us hp ru=>kk p us H' _ si' st' (λ_=>Iff.rfl) (ru.mono ext') hp
   | brk=>cases e
   | cont=>cases e
theorem V9 {P:Program}{w:World}{K:PySem.W.Frag}{mg:Str->Option Value}{base:Heap}{ps:List Str}{k:Nat}{f:Fn}(e:f=g)(h:FnOk P w K mg base CX0 k fa fd ps (spFF K g)):FnOk P w K mg base CX0 k fa fd ps (spFF K f):=by rw [e];exact h
end F2
namespace L2
open PySem PySem.Spec PyProof.Rows
section
variable {X:Cx}
theorem VL {o:Expr}{to:TE}{apos cpos:Pos}(ho:PE X o to)(hbase:attributeBase o "bit_length" X.env (eval o X.env)=eval o X.env:=by rfl)(hline:(apos.endLine == cpos.line)=true:=by rfl) :
 PE X (.Call (.Attribute o "bit_length" apos) [] [] cpos) (λσ H Q=>to σ H λv H1=>∃i,v = .int i/\Q (.int (Builtin.Int.intBits i:Nat)) H1):=by
 intro pins s σ H Q I h;refine Call_method0 hbase hline (thn (ho pins s σ H _ I h) λu s1 z9=>?_);obtain ⟨v,H1,I1,rv,i,ex,q⟩:=z9;subst ex;obtain ⟨t,rfl⟩:=rv;exact ⟨"int", "int.bit_length",PySem.F.plainAttrs_int,ua5,PySem.F.type_int_bit_length,typeIs_int _ _ _,(λ_ e=>nomatch e),
  method0_gives ua5 PySem.F.entry_int_bit_length (typeIs_int _ _ _) (PySem.F.args_int_bit_length_1 _) (PySem.AutoIntG2.int_bit_length_int_0 i t) ⟨.int (Builtin.Int.intBits i:Nat),H1,I1.tok _,⟨_,rfl⟩,q⟩⟩
end
end L2
namespace F2
open PySem L2 PySem.Spec
def Jd:D->M D
 | .int i=>ret (.int (Builtin.Int.intBits i:Nat))
 | _=>fail
section
variable {X:Cx}{pos:Pos}{e:Expr}{es:List Expr}
theorem PR {o:Expr}{f:M D}{apos cpos:Pos}(ho:PE X o (RE X.K f))(hbase:attributeBase o "bit_length" X.env (eval o X.env)=eval o X.env:=by rfl)(hline:(apos.endLine == cpos.line)=true:=by rfl) :
 PE X (.Call (.Attribute o "bit_length" apos) [] [] cpos) (RE X.K (fUn f Jd)):=
 AA (VL ho hbase hline) λσ H Q z9=>by
  obtain ⟨Oo,c,t,fi,r,t',eq,k⟩:=z9;obtain ⟨d,t1,e1,eq⟩:=Ae eq;refine ⟨Oo,c,t,fi,d,t1,e1,λx H1 c1 f1 s1 rx=>?_⟩;unfold Jd at eq
  split at eq
  ·next i=>
   cases eq
   cases rx
   exact ⟨i,rfl,k _ H1 c1 f1 s1 (.int _)⟩
  ·cases eq
end
section
variable {X:Cx}{b elt:Expr}{pos:Pos}
end
end F2
namespace L2
open PySem PySem.Spec PyProof.Rows
end L2
namespace F2
open PySem L2 PySem.Spec
structure ItOk2 (K:PySem.W.Frag)(J:It)(c:Cf)(H:Hp)(ds:List D):Prop where
 go:∀c' H' (i:Nat),Ext c H c' H'->i < ds.length->J.go i H'
 yld:∀c' H' (i:Nat) x H'' d,Ext c H c' H'->ds[i]?=some d->J.yld i H' x H''->∃p vs es,x = .ref p/\H' p=none/\H''=upd H' p (.tup vs)/\d = .tup es/\Reps K c' H' vs es
 stop:∀c' H',Ext c H c' H'->J.stop ds.length H'
inductive RI2 (K:PySem.W.Frag)(f:M (List D))(σ:L2.St)(H:Hp)(R:It->Hp->Prop):Prop where
 | mk (Oo:Addr->Prop) (c:Cf) (t:T) (fi:FInv K Oo c t σ H) (ds:List D) (t':T) (e:f t=some (ds,t')) (k:∀J H' c',FInv K Oo c' t' σ H'->Stp Oo c H c' H'->ItOk2 K J c' H' ds->R J H'):RI2 K f σ H R
section
variable {X:Cx}{pos:Pos}{e:Expr}
end
end F2
namespace L2
open PySem PySem.Spec PyProof.Rows
section
variable {X:Cx}
end
end L2
namespace F2
open PySem L2 PySem.Spec
section
variable {X:Cx}{pos:Pos}{e:Expr}{es:List Expr}
end
end F2
namespace L2
open PySem PySem.Spec PyProof.Rows
section
variable {X:Cx}{e ek:Expr}{p2 pos:Pos}{te:TE}{tk:TO}
end
end L2
namespace F2
open PySem L2 PySem.Spec
section
variable {X:Cx}
end
end F2
namespace L2
open PySem PySem.Spec PyProof.Rows
section
variable {X:Cx}
end
end L2
namespace F2
open PySem L2 PySem.Spec
section
variable {X:Cx}{pos:Pos}
end
end F2
namespace L2
open PySem PySem.Spec PyProof.Rows
theorem KZ {x y:Int}(h0:0 < y)(h1:y < 18446744073709551616):Builtin.divisionGoesByPylong x y=false:=by
 unfold Builtin.divisionGoesByPylong;have hl:y.natAbs.log2 < 64:=(Nat.log2_lt (by lia)).mpr (by show y.natAbs < 2 ^ 64;lia);have e:(y == 0)=false:=by rw [beq_eq_false_iff_ne];lia
 simp only [e,uf8,if_false];rw [Bool.and_eq_false_iff];left;rw [decide_eq_false_iff_not];lia
def Uc (i j:Int):Prop:=0 < j/\j < 18446744073709551616
section
variable {X:Cx}
theorem KC {i:Int}(h:i.natAbs < 2 ^ 512):Builtin.Int.intBits i<=2 ^ 20:=by
 unfold Builtin.Int.intBits
 split
 ·exact un3 _
 ·next z=>
  have hz:i.natAbs≠0:=by
   intro e;have:i=0:=by lia
   subst this;exact z rfl
  have:=(Nat.log2_lt hz).mpr h;lia
def Ud (i j:Int):Prop:=i.natAbs < 2 ^ 512/\j.natAbs < 2 ^ 512
theorem VH:OpR X (binaryOp .Mult) (rI Ud λi j=>.int (i * j)):=opI λ_ _ _ _ _ _ _ hc q=>mul_int q (IntMulOk.of_bits (KC hc.1) (KC hc.2))
theorem Tj:OpR X (binaryOp .FloorDiv) (rI Uc λi j=>.int (i / j)):=opI λi j _ _ _ _ _ hc q=>by
 have h1:(0:Int) < j:=hc.1;exact floordiv_int (by lia) (by rw [ua6 i (by lia)];exact q) (.inl (KZ hc.1 hc.2))
end
end L2
namespace F2
open PySem L2 PySem.Spec
noncomputable def LZ (i j:Int):Bool:=decide (0 < j) && decide (j < 18446744073709551616)
def HM:=i2C LZ λi j=>.int (i / j)
theorem Rh {K:PySem.W.Frag}:AZ K (rI Uc λi j=>.int (i / j)) HM:=EG (λi j h=>by
 unfold LZ at h;rw [uh8,uh1,uh1] at h;exact h) λ_ _ _ _=>.int _
noncomputable def Mx (i j:Int):Bool:=decide (i.natAbs < 2 ^ 512) && decide (j.natAbs < 2 ^ 512)
def II:=i2C Mx λi j=>.int (i * j)
theorem TQ {K:PySem.W.Frag}:AZ K (rI Ud λi j=>.int (i * j)) II:=EG (λi j h=>by
 unfold Mx at h;rw [uh8] at h;exact ⟨uh2 h.1,uh2 h.2⟩) λ_ _ _ _=>.int _
end F2
namespace L2
open PySem PySem.Spec PyProof.Rows
section
variable {X:Cx}
end
section
variable {X:Cx}
def Mn (y:V)(xs:List V):Option Nat:=xs.findIdx? λz=>eqV z y
theorem NE {x:V}:∀{xs:List V} {us:List Value},Vals xs us->xs.all EB=true->us.map (eqU x)=xs.map λy=>eqV y x
 | _,_,.nil,_=>rfl
 | y :: xs,u :: us,.cons r t,f=>by
   rw [ul6,uh8] at f;rw [ul4,ul4,PK r f.1,NE t f.2]
def Yt (K:PySem.W.Frag):V->List V->Hp->VK->Prop:=λx vs H Q=>∃p xs y j,x = .ref p/\vs=[y]/\SqL K H p xs/\EB y=true/\xs.all EB=true/\Mn y xs=some j/\Q (.int (j:Nat)) H
theorem XQ:MtR X "list.index" (Yt X.K):=by
 intro pins s σ H x vs v us Q I rx rv h;obtain ⟨p,xs,y,j,rfl,rfl,hq,fy,fs,hj,q⟩:=h
 cases rx
 obtain ⟨u,rfl,ru⟩:=EE rv;obtain ⟨its,r,pl,hz⟩:=I.list hq;obtain ⟨⟨cl1,dd,dt1,sl⟩,ho,h1,n,h2⟩:=pl.isList;simp only at h1 h2;subst h1 h2;obtain ⟨jl,jt,jn⟩:=ua0.mp hj;have hl:=r.length;have hm:=NE (x:=y) r fs;have at_:∀m (h1:m < its.length) (h2:m < xs.length),eqU y its[m]=eqV xs[m] y:=λm h1 h2=>by
  have e1:(its.map (eqU y))[m]?=some (eqU y its[m]):=by rw [ug3,ub6 h1];rfl
  have e2:(xs.map λz=>eqV z y)[m]?=some (eqV xs[m] y):=by rw [ug3,ub6 h2];rfl
  rw [hm,e2] at e1;exact (ui9 e1).symm
 have hs:its.toArray.size=its.length:=by simp
 refine call_meets PySem.F.slot_list_index ⟨_,ho,rfl⟩ PySem.F.entry_list_index (PySem.F.args_list_index_2 _ _) (SeqAt.list_indexAt p its.toArray n dd sl u (eqU y) j (by lia) ?_ ?_ ?_) ⟨ho,λw hw=>Mw ru fy r fs w (by simpa using hw),⟨.int (j:Nat),H,I.tok _,⟨_,rfl⟩,q⟩⟩
 ·have:sizeLine < 2 ^ 62:=by decide
  lia
 ·rw [List.getElem_toArray,at_ j (by lia) jl];exact jt
 ·intro m hm' hlt;rw [List.getElem_toArray,at_ m (by lia) (by lia)];simpa using jn m hlt
end
section
variable {X:Cx}
end
end L2
namespace F2
open PySem L2 PySem.Spec
def idxM (f:M D)(g:M (List D)):M D:=bnd f λo=>bnd g λas=>match o,as with
 | .lst ds,[y]=>λt=>if Gh y=true/\ds.all Gh=true then (match Mn (toV y) (ds.map toV) with
   | some j=>some (.int (j:Nat),t)
   | none=>none) else none
 | _,_=>fail
theorem RE.idxM {K:PySem.W.Frag}{f:M D}{g:M (List D)}{σ:L2.St}{H:Hp}{Q:VK}(q:RE K (F2.idxM f g) σ H Q):tBM K "list" (Yt K) (RE K f) (RA K g) σ H Q:=by
 obtain ⟨Oo,c,t,fi,r,t',eq,k⟩:=q;obtain ⟨d,t1,e1,eq⟩:=Ae eq;obtain ⟨as,t2,e2,eq⟩:=Ae eq;refine ⟨Oo,c,t,fi,d,t1,e1,λv H1 c1 f1 s1 rv=>?_⟩
 split at eq
 ·next ds y=>
  cases rv with
  | @lst p vs ds h1 h2 h3=>
  refine ⟨.inl ⟨rfl,vs,SqL.of h1⟩,Oo,c1,t1,f1,_,t2,e2,λus H2 c2 f2 s2 rus=>?_⟩;obtain ⟨w,rfl,rw'⟩:=Df rus;have rv2:=(Rep.lst h1 h2 h3).mono s2.ext
  cases rv2 with
  | @lst _ ws _ h1 h2 h3=>
  split at eq
  ·next hf=>
   split at eq
   ·next j ej=>
    cases eq
    refine ⟨p,ws,w,j,rfl,rfl,SqL.of h1,?_,?_,?_,k _ _ c2 f2 (s1.trans s2) (.int _)⟩
    ·rw [Kl rw' hf.1];exact Mj _
    ·rw [IS h3 hf.2,List.all_map,ui2];exact λd _=>Mj d
    ·rw [Kl rw' hf.1,IS h3 hf.2];exact ej
   ·cases eq
  ·cases eq
 ·cases eq
section
variable {X:Cx}{pos:Pos}{e:Expr}{es:List Expr}
theorem Sm {o e:Expr}{es:List Expr}{f:M D}{g:M (List D)}{apos cpos:Pos}(ho:PE X o (RE X.K f))(ha:PA X (e :: es) (RA X.K g))
 (hbase:attributeBase o "index" X.env (eval o X.env)=eval o X.env:=by rfl)
 (hfew:((backTo cpos (starEach (e :: es) X.env)).all (λx=>!x.1) && (backToKw cpos (keywordEach [] X.env)).all (λx=>x.1.isSome) && decide ((e :: es).length + ([]:List Keyword).length + (if ([]:List Keyword).isEmpty then 0 else 1) < 30))=true:=by rfl)
 (hline:(apos.endLine == cpos.line)=true:=by rfl) (hs:starEach (e :: es) X.env=(false,eval e X.env) :: starEach es X.env:=by rfl) (hplain:(backTo cpos (starEach es X.env)).any (·.1)=false:=by rfl) :
 PE X (.Call (.Attribute o "index" apos) (e :: es) [] cpos) (RE X.K (F2.idxM f g)):=
 AA (HY uc1 PySem.F.slot_list_index PySem.F.type_list_index XQ ho ha hbase hfew hline hs hplain) λ_ _ _ q=>RE.idxM q
end
end F2
namespace L2
open PySem PySem.Spec PyProof.Rows
section
variable {X:Cx}
end
end L2
namespace F2
open PySem L2 PySem.Spec
def HL:List (Int×M D)->M (List (Key×D))
 | []=>ret []
 | (k,f) :: r=>bnd f λd=>bnd (HL r) λps=>ret ((.inl k,d) :: ps)
def Em (l:List (Int×M D)):M D:=λt=>bnd (HL l) (EF t.S.length) { t with S:=t.S++[.dct []] }
noncomputable def OF:List (Key×D)->Option (List Int)
 | []=>some []
 | (.inl k,_) :: r=>(OF r).map (k :: ·)
 | _=>none
section
variable {K:PySem.W.Frag}{c:Cf}{H:Hp}
theorem KVR.has {us:List (Key×V)}{kvs:List (Key×D)}(r:KVR K c H us kvs)(k:Key):(Do us k).isSome=(AU kvs k).isSome:=by
 unfold KVR at r
 induction r with
 | nil=>rfl
 | @cons p q ps qs h t ih=>
   by_cases hk:p.1=k
   ·have hq:q.1=k:=h.1.symm.trans hk;rw [Gz hk];simp [AU,uj8,hq]
   ·have hq:¬q.1=k:=λz=>hk (h.1.trans z);have:AU (q :: qs) k=AU qs k:=by simp [AU,uj8,hq]
    rw [this,Gy hk];exact ih
end
section
variable {X:Cx}{pos:Pos}{e b:Expr}
theorem PV:PE X (.Dict [] [] pos) (RE X.K (Em [])):=
 AA Tq λσ H Q z9=>by
  obtain ⟨Oo,c,t,fi,r,t',eq,k⟩:=z9;intro p hp;obtain ⟨c1,f1,s1,e1⟩:=fi.newObj (o:=.dct []) (u:=.dK []) hp λc' H' ex hu=>⟨[],hu,.nil⟩;have e2:Em [] t=some (.obj t.S.length,{ t with S:=t.S++[.dct []] }):=by
   simp [Em,HL,bnd,F2.ret,EF,Bh]
  rw [e2] at eq
  cases eq
  exact k _ _ c1 f1 s1 (.obj e1)
end
end F2
namespace L2
open PySem PySem.Spec PyProof.Rows
noncomputable def tb (led:Bool)(pl:List Nat):SetTable:={ mask:=7,place:=pl.toArray,dummies:=#[],finger:=0,led:=led,moves:=0,plain:=true }
noncomputable def pls:Nat->List (List Nat)
 | 0=>[[]]
 | k + 1=>(pls k).flatMap λl=>(List.range 8).filterMap λj=>if l.all (· < j) then some (l++[j]) else none
section
variable {P:Program}{w:World}{A:Around}{E:Value->Shared->Prop}{s:Shared}
end
section
variable {P:Program}{w:World}{A:Around}{I:Addr}{fp wr:List Addr}{G:Array GenState->Array GenState->Prop}{n:Nat}{Pr:Nat->Value->Prop}{St:Nat->Shared->Prop}
end
section
variable {P:Program}{w:World}{A:Around}{E:Value->Shared->Prop}{s:Shared}
end
section
variable {prog:Program}{w:World}{A:Around}
end
section
variable {X:Cx}
end
end L2
namespace F2
open PySem L2 PySem.Spec PyProof.Rows
section
variable {X:Cx}{pos:Pos}{e:Expr}
end
end F2
namespace L2
open PySem PySem.Spec PyProof.Rows
section
variable {P:Program}{w:World}{A:Around}{E:Value->Shared->Prop}{s:Shared}
structure ZT (h:Heap)(z TI TO i1 i2 t1 t2:Addr)(n:Nat):Prop where
 zz:IsZip h z TI TO .none
 ti:IsPair h TI (.ref i1) (.ref i2)
 ot:∃a b,IsPair h TO a b
 p1:h.IsTupleIter i1 t1 n
 p2:h.IsTupleIter i2 t2 n
end
section
variable {P:Program}{w:World}{A:Around}{E:Value->Shared->Prop}{s:Shared}
end
def Itz (K:PySem.W.Frag)(a b:Addr):It:=
 ⟨λi H=>∃xs ys x y,SqT K H a xs/\SqT K H b ys/\xs[i]?=some x/\ys[i]?=some y,λi H v H'=>∃p x y,v = .ref p/\H p=none/\(∀xs,SqT K H a xs->xs[i]?=some x)/\(∀ys,SqT K H b ys->ys[i]?=some y)/\H'=upd H p (.tup [x,y]),λi H=>∃xs ys,SqT K H a xs/\SqT K H b ys/\(xs.length<=i\/ys.length<=i)⟩
end L2
namespace F2
open PySem L2 PySem.Spec
noncomputable def cW:List D->List D->List D
 | x :: xs,y :: ys=>.tup [x,y] :: cW xs ys
 | _,_=>[]
section
variable {X:Cx}{e a b tg iter elt:Expr}{ifs:List Expr}{pos:Pos}{scope:Scope}{N':List Str}{n:Nat}{fr:List Nat}{f:M (List D)}{st:D->M Unit}{tst:M Bool}{el:M D}
end
section
variable {X:Cx}{elt:Expr}{pos:Pos}{e:Expr}{es:List Expr}
end
end F2
namespace L2
open PySem PySem.Spec PyProof.Rows
section
variable {X:Cx}{pins:List (Addr×Obj)}{σ:St}{H:Hp}{s:Shared}{a:Addr}{kvs:List (Key×V)}{o:Obj}
end
section
variable {X:Cx}
end
section
variable {X:Cx}
end
end L2
namespace F2
open PySem L2 PySem.Spec SeqAt
def Po (K:PySem.W.Frag)(H:Hp)(v w:V):Prop:=∃c dv dw,Rep K c H v dv/\Rep K c H w dw/\eqN EQD dv dw=some true
def WQ (K:PySem.W.Frag)(H:Hp)(v w:V):Prop:=Po K H v w\/∃a b us ts,v = .ref a/\w = .ref b/\H a=some (.dK us)/\H b=some (.dK ts)/\us.length=ts.length/\(∀kv∈us,∃n:Int,kv.1=Sum.inl n)/\(∀kv∈ts,∃n:Int,kv.1=Sum.inl n)/\∀kv∈us,∃z,Do ts kv.1=some z/\Po K H kv.2 z
def dF (K:PySem.W.Frag)(b:Bool):R2:=λx y H Q=>∃p q vs ws,x = .ref p/\y = .ref q/\H p=some (.lst vs)/\H q=some (.lst ws)/\vs.length=ws.length/\(∀(j:Nat) v w,vs[j]?=some v->ws[j]?=some w->WQ K H v w)/\Q (.bl b) H
def LB (S:List Ob)(x y:D):Bool:=Bi (CK S x) && Bi (CK S y) && decide (eqN EQD (CK S x) (CK S y)=some true)
def c9 (S:List Ob)(x y:D):Bool:=match x,y with
 | .obj m,.obj n=>match S[m]?,S[n]? with
   | some (.dct kvs),some (.dct lvs)=>kvs.length == lvs.length && (OF kvs).isSome && (OF lvs).isSome && kvs.all (λkv=>match AU lvs kv.1 with | some e=>LB S kv.2 e | none=>false)
   | _,_=>LB S x y
 | _,_=>LB S x y
def LR (x y:D):M (List D):=λt=>match CK t.S x,y with
 | .lst xs,.lst ys=>lim (xs.length + ys.length) (xs++ys) t
 | _,_=>none
theorem TL {K:PySem.W.Frag}:Ja K MI LR:=λ{Oo c t σ H x y dx dy r t' Q} f rx ry eq k=>by
 unfold LR at eq
 split at eq
 ·next xs ys e1=>
  obtain ⟨h,z⟩:=CB eq
  cases z
  cases ry with
  | @lst b ws es g1 g2 g3=>
  cases rx with
  | @lst a vs ds h1 h2 h3=>
    cases e1
    refine ⟨a,b,vs,ws,rfl,rfl,h1,g1,?_,λp hp=>k p _ H c f .refl (h3.append g3) hp⟩;rw [h3.length,g3.length];exact um4 h Bf
  | @obj a kk hk=>
    unfold CK at e1;dsimp only at e1
    split at e1
    ·next es=>
     cases e1
     obtain ⟨vs,q1,q2⟩:=f.s.obs _ a _ hk es;refine ⟨a,b,vs,ws,rfl,rfl,q1,g1,?_,λp hp=>k p _ H c f .refl (q2.append g3) hp⟩;rw [q2.length,g3.length];exact um4 h Bf
    ·cases e1
  | _=>cases e1
 ·cases eq
end F2
namespace F2
open PySem L2 PySem.Spec
section
variable {X:Cx}{pos:Pos}
end
end F2
namespace L2
open PySem PySem.Spec PyProof.Rows
structure ZL (h:Heap)(z TI TO i1 i2 t1 t2:Addr)(n:Nat):Prop where
 zz:IsZip h z TI TO .none
 ti:IsPair h TI (.ref i1) (.ref i2)
 ot:∃a b,IsPair h TO a b
 p1:h.IsListIter i1 t1 n
 p2:h.IsListIter i2 t2 n
end L2
namespace F2
open PySem L2 PySem.Spec
section
variable {X:Cx}{a b:Expr}{pos:Pos}
end
end F2
namespace L2
open PySem PySem.Spec PyProof.Rows PySem.W
section
variable {prog:Program}{w:World}{A:Around}{h:Heap}{g:Array GenState}{d:Drawn}{t:Nat}{os:OsState}{R:Result->Shared->Prop}
variable {nm q:Str}{C N fI:Addr}{bs bm bmB:List Value}{hdct:Bool}{sn:List Str}{sub:List Value}{ab:Bool}{col:Option Bool}{dd:Option Addr}{k0 k1 k2 k3 k5:Option Value}{B newId initId:String}{mN:Str->Option Value}
abbrev excObj (C tp:Addr):Obj:={ cls:=.ref C,data:=.fields #[.ref tp,.none,.none,.none,.bool false,.none] }
abbrev Dr (h:Heap)(C:Addr)(us:List Value):Heap:=(h.push { cls:=.type "tuple",data:=.seq us.toArray }).push (excObj C h.objs.size)
theorem Mu (F:ExcBaseFacts B newId initId bmB)(T:OwnTail h bmB bm){us:List Value}(hC:h.get? C=some (excClassObj nm q C N bs bm hdct sn sub ab col dd k0 k1 k2 k3 k5 newId))(hn:h.Ns N mN)(hni:mN "__init__" = some (.ref fI))
 (hb:Looks (model prog w) h (bindSpecial (.ref fI) (.ref (h.objs.size + 1))) (.ref fI,[.ref (h.objs.size + 1)])) (hus:us.length<=sizeLine)
 (hq:codeAny (model prog w) (A.under (.builtin "type.__call__" ⟨.ref C :: us,[]⟩)) (.call (.ref fI) ⟨.ref (h.objs.size + 1) :: us,[]⟩) (InitBack (h.objs.size + 1) R) ⟨Dr h C us,g,d,t,os⟩) :
 codeAny (model prog w) A (.call (.ref C) ⟨us,[]⟩) R ⟨h,g,d,t,os⟩:=by
 have c1:=tc_lookup;have c2:=tc_bind (.ref C);have ty:(⟨h,g,d,t,os⟩:Shared).TypeIs (.ref C) "type":=⟨_,hC,rfl⟩;refine codeAny_of_tree ?_;show wpAny _ _ (callAny (.ref C) _) _ _ _
 repeat (any_goals (first
  | assumption
  | with_reducible refine wpAny_loadPart_at hC ?_
  | wp_step))
 refine ⟨rfl,codeAny_call_builtin_at (Code.quiet_builtin _ (by decide +kernel)) entry_typeCall (wpAny_check_type_call_sub hC ?_)⟩
 repeat (first
  | with_reducible refine wpAny_loadPart_at hC ?_
  | with_reducible refine wpAny_madeBy_exc hC ?_
  | wp_step)
 refine codeAny_call_builtin_code (Code.quiet_builtin _ F.quiet) (wpAny_check_new_subT F T hC (codeAny_exc_new_subT F T hC ?_ hus))
 change wpAny _ _ _ _ _ (Shared.mk (Dr h C us) g d t os)
 have kp:∀b o,h.get? b=some o->(Dr h C us).get? b=some o:=λb o e=>uc4 _ (uc4 _ e);have he:(Dr h C us).get? (h.objs.size + 1)=some { cls:=.ref C,data:=.fields #[.ref h.objs.size,.none,.none,.none,.bool false,.none] }:=by heap_get
 have n1:(Dr h C us).Ns N mN:=hn.keeps kp;have cC:(Value.ref C :: bm).contains (.ref C)=true:=by simp
 unfold isInstance
 repeat (first
  | with_reducible refine wpAny_loadPart_at he ?_
  | (with_reducible refine wpAny_isSubtype_exc (kp _ _ hC) ?_;rw [cC])
  | wp_step)
 show wpAny _ _ (typeLookup (.ref C) _) _ _ _;refine wpAny_typeLookup_tail (kp _ _ hC) n1 (T.keeps kp) F.mroIs F.init.lookup ?_;rw [hni];refine um1 (un6 ((hb.keeps kp).at ?_));refine un6 (wpAny_call (codeAny_mono hq λr s' z=>?_))
 cases r with
 | error e=>exact z
 | ok f=>
   cases f with
   | ret v=>
     obtain ⟨rfl,z⟩:=z;exact un7 (un7 z)
   | _=>exact z.elim
end
end L2
namespace L2
open PySem PySem.Spec PyProof.Rows PySem.W PySem.Builtin PySem.Builtin.ObjectAttr
theorem Q0 (self:Value):refuseLoop self "__setattr__" [.type "ValueError",.type "Exception",.type "BaseException",.type "object"]=pure ():=by
 kernel_rfl
abbrev Fo (C P:Addr):List Value:=[.ref C,.ref P,.type "ValueError",.type "Exception",.type "BaseException",.type "object"]
theorem Jz (self:Value)(C P:Addr):refuseLoop self "__setattr__" (Fo C P)=pure ():=by
 rw [Fo,refuseLoop_ref,refuseLoop_ref];exact Q0 self
section
variable {prog:Program}{w:World}{A:Around}{s:Shared}{K:PySem.W.Frag}{x C P tp:Addr}{R:Result->Shared->Prop}{name:Str}{v:Value}{tk:Tok}{cd:ClassData}
theorem VI (X:K.In s.heap)(hx:s.heap.get? x=some (excObj C tp))(hc:clsIn K C=some cd)(hmr:cd.mro=Fo C P)(ha:findIn K (.ref C) name=some none)
 (h:wpAny (model prog w) A.in1 (storeInOwnDict (.ref x) (.ref C) (.str name tk) name v false) (λfin s'=>match fin with | .done f=>R (.ok f) s' | .again c'=>c'.quiet=true/\codeAny (model prog w) A c' R s') (λe s'=>R (.error e) s') s) :
 codeAny (model prog w) A (.call (.builtin "object.__setattr__") ⟨[.ref x,.str name tk,v],[]⟩) R s:=by
 have SF:=PySem.F.store_object;have I:InstAt s.heap x (excObj C tp) C none:=⟨hx,rfl,rfl,trivial⟩;have ob:Looks (model prog w) s.heap (isInstance (.ref x) (.type "object")) true:=I.type.andThen (looks_mroIn X (by unfold mroIn;rw [hc,Option.bind_some,hmr];rfl));refine codeAny_call_builtin SF.slot.plain SF.entry (@check_slot (model prog w) _ _ s "object.__setattr__" "object" "__setattr__" (.ref x) [.str name tk,v] [] _ SF.kind SF.split ob (SF.args (.ref x) (.str name tk) v) ?_);have mr:Looks (model prog w) s.heap (mroOf (.ref C)) (Fo C P):=by rw [<-hmr];exact (looks_clsIn X hc).andThen .now
 rw [osa_eq,refuse_eq];refine un6 (un6 (I.type.here (un6 (mr.here ?_))));rw [Jz];refine un7 (un6 (I.type.here (un6 ((looks_findIn X ha).here ?_))));exact un6 (un7 h)
theorem Wu {E:Value->Shared->Prop}{Q:Unit->Shared->Prop}(X:K.In s.heap)(hx:s.heap.get? x=some (excObj C tp))(hs:findIn K (.ref C) "__setattr__" = some (some (.builtin "object.__setattr__")))(hc:clsIn K C=some cd)(hmr:cd.mro=Fo C P)(hd:cd.hasDict=true)(ha:findIn K (.ref C) name=some none)
 (h:∀h',(∀b o,b≠x->s.heap.get? b=some o->h'.get? b=some o)->h'.get? x=some { excObj C tp with dict:=some s.heap.objs.size }->h'.Ns1 s.heap.objs.size (λy=>if y=name then some v else none)->Q () { s with heap:=h',toks:=s.toks + 2 }) :
 wpAny (model prog w) A (setAttr (.ref x) name v) Q E s:=by
 have I:InstAt s.heap x (excObj C tp) C none:=⟨hx,rfl,rfl,trivial⟩;refine set_plain X I hs (VI (s:={ s with toks:=s.toks + 1 }) X hx hc hmr ha ?_);refine un6 (un7 (un6 (un6 (wpAny_loadPart (s:={ s with toks:=s.toks + 1 }) hx (un6 (Looks.here (s:={ s with toks:=s.toks + 1 }) (looks_clsIn X hc) ?_))))));rw [hd,if_neg (by decide)];show wpAny _ _ (alloc _ >>= λdx=>update x _ >>= λ_=>pure (some dx)) _ _ _;have hx1:(s.heap.push emptyDict).get? x=some (excObj C tp):=uc4 _ hx;have hne:s.heap.objs.size≠x:=um5 (um2 hx);refine un6 (wpAny_alloc (s:={ s with toks:=s.toks + 1 }) (un6 (wpAny_update hx1 (un7 ?_))));have hx2:((s.heap.push emptyDict).update x λo=>{ o with dict:=some s.heap.objs.size }).get? x=some { excObj C tp with dict:=some s.heap.objs.size }:=ud4 _ hx1 rfl;have hk:∀b o,b≠x->s.heap.get? b=some o->((s.heap.push emptyDict).update x λo=>{ o with dict:=some s.heap.objs.size }).get? b=some o:=λb o hb e=>(uc7 _ _ (Ne.symm hb)).trans (uc4 _ e);have hdx:((s.heap.push emptyDict).update x λo=>{ o with dict:=some s.heap.objs.size }).get? s.heap.objs.size=some emptyDict:=(uc7 _ _ (Ne.symm hne)).trans (ue6 _ rfl);have n1:((s.heap.push emptyDict).update x λo=>{ o with dict:=some s.heap.objs.size }).Ns1 s.heap.objs.size λ_=>none:=⟨_,#[],_,hdx,rfl,(λe he=>by simp at he),(by simp [UniqKeys]),λ_=>rfl⟩;refine un6 (un7 (un6 ?_));refine wpAny_nsSet1 n1 λh' n2 sb=>?_;obtain ⟨oD,esD,epD,hoD,hdD,hcD⟩:=n2.count (PySem.Within.cons name v (ns:=[]) (λy u=>absurd rfl u));refine un6 (wpAny_lookBehind hoD (by rw [hdD];exact pastItsLine_dict (um4 hcD (by show 1<=_;decide))) ?_);exact un7 (h h' (λb o hb e=>by
  by_cases hb2:b=s.heap.objs.size
  ·subst hb2;exact absurd (um2 e) (ul2 _)
  ·exact (sb.2 b hb2).trans (hk b o hb e)) ((sb.2 x (Ne.symm hne)).trans hx2) n2)
end
end L2
namespace L2
open PySem PySem.Spec PyProof.Rows PySem.W
variable {qx:Bool}
def XRec (qx:Bool)(h:Heap)(x C:Addr)(dx:Option Addr)(tb:Value):Prop:=∃(o:Obj) (vs:Array Value),h.get? x=some o/\o.cls = .ref C/\o.dict=dx/\o.data = .fields vs/\vs[1]?=some tb/\(qx=true->vs[2]?=some .none/\4 < vs.size)
theorem Xa {qx:Bool}{vs:Array Value}{v:Value}(h:qx=true->vs[2]?=some .none/\4 < vs.size):qx=true->(vs.setIfInBounds 1 v)[2]?=some .none/\4 < (vs.setIfInBounds 1 v).size:=λz=>by
 rw [ua2 (by decide),ub7];exact h z
theorem XRec.to {qx:Bool}{h:Heap}{x C:Addr}{dx:Option Addr}{tb:Value}(r:XRec true h x C dx tb):XRec qx h x C dx tb:=by
 obtain ⟨o,vs,h1,h2,h3,h4,h5,h6⟩:=r;exact ⟨o,vs,h1,h2,h3,h4,h5,λ_=>h6 rfl⟩
def XTb (h:Heap)(T:Addr):Prop:=∃(o:Obj) (ts:Array Value),h.get? T=some o/\o.data = .fields ts/\ts[3]?=some .none
structure XKeep (fs ch:List Addr)(h h':Heap):Prop where
 keep:∀b o,b∉ch->b∉fs->h.get? b=some o->h'.get? b=some o
 slot:∀b o,b∉ch->h.get? b=some o->∃sl,h'.get? b=some { o with slots:=sl }
section
variable {M:Model}{A:Around}{E:Value->Shared->Prop}{s:Shared}{env:Env}{outer:List Env}{base:Heap}{L x C:Addr}{dx:Option Addr}{tb:Value}{Q:Unit->Shared->Prop}
theorem Fa {o:Obj}{vs:Array Value}(hd:o.data = .fields vs)(f:Array Value->Array Value):(o.mapFields f).data = .fields (f vs)/\(o.mapFields f).cls=o.cls/\(o.mapFields f).dict=o.dict:=by
 obtain ⟨c,d,dt,sl⟩:=o
 cases hd
 exact ⟨rfl,rfl,rfl⟩
end
end L2
namespace L2
open PySem PySem.Spec PyProof.Rows PySem.W
variable {qx:Bool}
abbrev VE:List Value:=[.type "ValueError",.type "Exception",.type "BaseException",.type "object"]
structure XCl (K:PySem.W.Frag)(C:Addr)(bm:List Value):Prop where
 ex:∃cd dd k0 k1 k2 k3 k5,K.lookup C=some { cls:=.type "type",dict:=dd,data:=.cls cd,slots:=#[k0,k1,k2,k3,some (.builtin "ValueError.__new__"),k5] }/\cd.mro = .ref C :: bm/\cd.hasDel=false/\cd.hasDict=true/\nsOkIn K cd.ns=true
 tl:tailIn K VE bm=true
noncomputable def Lm (K:PySem.W.Frag)(C:Addr)(bm:List Value):Bool:=tailIn K VE bm && match K.lookup C with
 | some ⟨.type "type",_,.cls cd,sl⟩=>(match sl.toList with
   | [_,_,_,_,some (.builtin n),_]=>n == "ValueError.__new__" && cd.mro == .ref C :: bm && !cd.hasDel && cd.hasDict && nsOkIn K cd.ns
   | _=>false)
 | _=>false
variable {K:PySem.W.Frag}{C:Addr}{bm:List Value}
theorem XCl.of_in (q:Lm K C bm=true):XCl K C bm:=by
 unfold Lm at q;rw [uh8] at q;refine ⟨?_,q.1⟩;have q:=q.2
 split at q
 ·rename_i dd cd sl ho
  split at q
  ·rename_i k0 k1 k2 k3 n k5 hs;simp only [uh8,beq_iff_eq,Bool.not_eq_true'] at q;obtain ⟨⟨⟨⟨rfl,h1⟩,h2⟩,h3⟩,h4⟩:=q;have hsl:sl=#[k0,k1,k2,k3,some (.builtin "ValueError.__new__"),k5]:=by
    cases sl
    exact congrArg Array.mk hs
   exact ⟨cd,dd,k0,k1,k2,k3,k5,by rw [ho,hsl],h1,h2,h3,h4⟩
  ·cases q
 ·cases q
theorem XCl.obj {K:PySem.W.Frag}{C:Addr}{bm:List Value}{h:Heap}(c:XCl K C bm)(X:K.In h):∃nm q N bs sn sub ab col dd k0 k1 k2 k3 k5,h.get? C=some (excClassObj nm q C N bs bm true sn sub ab col dd k0 k1 k2 k3 k5 "ValueError.__new__")/\h.Ns N (h.nsMap N):=by
 obtain ⟨⟨nm,bs,mro,ns,qn,hd,sn,sub,ab,col,del⟩,dd,k0,k1,k2,k3,k5,h1,h2,h3,h4,h5⟩:=c.ex;dsimp only at h2 h3 h4 h5;subst h2 h3 h4;exact ⟨nm,qn,ns,bs,sn,sub,ab,col,dd,k0,k1,k2,k3,k5,X _ _ h1,.of_isNs (isNs_of_in X h5)⟩
variable {h:Heap}
theorem XCl.tail (c:XCl K C bm)(X:K.In h):OwnTail h VE bm:=tail_of_in X c.tl
theorem XCl.has (c:XCl K C bm)(X:K.In h):(Value.ref C :: bm).contains (.type "BaseException")=true:=by
 rw [List.contains_cons,(c.tail X).hasType (b:=true) (by decide +kernel),Bool.or_true]
section
variable {M:Model}{A:Around}{E:Value->Shared->Prop}{env:Env}{K:PySem.W.Frag}{C:Addr}{bm:List Value}{s:Shared}
theorem TD {t:Sem Value}{Q:Flow->Shared->Prop}(c:XCl K C bm)(hh:A.handled=none)
 (h:wpAny M A t (λv s1=>∃x dx,v = .ref x/\K.In s1.heap/\XRec qx s1.heap x C dx .none/\E v s1) E s):wpAny M A (raiseStmt env (some t) none) Q E s:=by
 unfold raiseStmt;refine un6 (un8 h (λv s1 q=>?_) λ_ _ z=>z);obtain ⟨x,dx,rfl,X,⟨o,vs,hx,hc,hd,hdt,h1,_⟩,hE⟩:=q;obtain ⟨nm,q,N,bs,sn,sub,ab,col,dd,k0,k1,k2,k3,k5,hC,_⟩:=c.obj X;have hb:=c.has X;obtain ⟨hp,g,d,tk,os⟩:=s1
 repeat (first
  | (with_reducible refine wpAny_loadPart_at hx ?_;rw [hc])
  | with_reducible refine wpAny_loadPart_at hC ?_
  | (with_reducible refine wpAny_isSubtype_exc hC ?_;rw [hb])
  | with_reducible refine un5 hx hdt h1 ?_
  | wp_step)
 exact wpAny_raiseNew_none hh hE
end
def CX1 (qx:Bool)(P:Program)(w:World):CXT:=λouter H s E e s'=>∃(x C:Addr) (dx:Option Addr) (T:Addr) (H':Hp),e = .ref x/\s'.os=s.os/\AllBare s'.gens/\Un (frs outer) [] H H' s.heap s'.heap/\HOk P w H' s'.heap/\
 H' x=some (.ext (F2.XIs qx x C dx))/\s.heap.objs.size<=x/\s.heap.objs.size<=T/\T≠x/\H' T=none/\XRec qx s'.heap x C dx (.ref T)/\XTb s'.heap T/\E (.ref x) dx H'
variable {x:Addr}{dx:Option Addr}
theorem XRec.is {tb:Value}(r:XRec qx h x C dx tb):F2.XIs qx x C dx h:=by
 obtain ⟨o,vs,h1,h2,h3,h4,_,h5⟩:=r;exact ⟨o,vs,h1,h2,h3,h4,h5⟩
theorem XIs.stay {h1 h2:Heap}(r:F2.XIs qx x C dx h1)(k:∀o,h1.get? x=some o->h2.get? x=some o):F2.XIs qx x C dx h2:=by
 obtain ⟨o,vs,e,q⟩:=r;exact ⟨o,vs,k o e,q⟩
theorem Jl {P:Program}{w:World}{H:Hp}(r:F2.XIs qx x C dx h):ObjOk P w H h x (.ext (F2.XIs qx x C dx)):=
 ⟨r,let ⟨o,_,e,_⟩:=r;⟨o,e⟩,λ_ _ q k=>XIs.stay q k⟩
section
variable {X:Cx}{pins:List (Addr×Obj)}{σ:St}{H H':Hp}{s s':Shared}{h':Heap}{x C T:Addr}{dx:Option Addr}{ch:List Addr}
theorem T2 (k:XKeep (frs X.stack) ch s.heap h')(hT:∀b∈ch,b=x\/b=T):Un (frs X.stack) (x :: T :: []) H H s.heap h':=by
 have nch:∀b:Addr,b∉(x :: T :: [])->b∉ch:=λb hb z=>hb (by rcases hT b z with rfl | rfl <;> simp);refine ⟨λb o e n hb hx=>k.keep b o (nch b hx) hb e,λb o e n hb hx=>k.slot b o (nch b hx) e,λb o e n _=>n,λb o e hx=>?_,λ_ _ e=>e,λ_ _ _ e=>e,λb ps e=>⟨#[],by rw [e];simp⟩⟩;obtain ⟨sl,q⟩:=k.slot b o (nch b hx) e;exact ⟨_,q⟩
theorem Inv.left (I:Inv X pins σ H s)(hx:H x=some (.ext (F2.XIs qx x C dx)))(hT:H T=none)(nx:X.s₀.heap.objs.size<=x)(nT:X.s₀.heap.objs.size<=T)(k:XKeep (frs X.stack) ch s.heap h')(hc:∀b∈ch,b=x\/b=T)(r:F2.XIs qx x C dx h')
 (oT:∀y c,X.env.cells.lookup y=some c->c≠T) (lT:T≠X.env.locals) (pT:∀p∈X.pn++pins,p.1≠T):Inv X pins σ H { s with heap:=h' }:=by
 have nfr:∀b u,H b=some u->b∉frs X.stack:=λb u e z=>by rw [I.stkFree b z] at e;cases e
 refine I.call (g':=s.gens) (t':=s.toks) (d':=s.drawn) (ch:=[x,T]) (T2 k hc) (λb u e=>?_) I.bare λb hb=>?_
 ·by_cases hb:b=x
  ·subst hb;rw [hx] at e;cases e;exact Jl r
  ·refine (I.hok b u e).stay (λc v hcc q=>k.keep c v ?_ ?_ q) (λ_ q=>q) λ_ _ q=>q
   ·intro z;rcases hcc with rfl | hcc
    ·rcases hc c z with q | q
     ·exact hb q
     ·rw [q,hT] at e;cases e
    ·rcases hc c z with q | q
     ·rw [q,hx] at hcc;cases hcc
     ·rw [q,hT] at hcc;cases hcc
   ·rcases hcc with rfl | hcc
    ·exact nfr _ _ e
    ·exact nfr _ _ hcc
 ·have q:b=x\/b=T:=by simpa using hb
  rcases q with rfl | rfl
  ·exact ⟨.inr nx,(λz=>by rw [z,I.free] at hx;cases hx),(λy c e z=>by subst z;rw [I.freeC y c e] at hx;cases hx),λp hp z=>by rw [<-z,(I.pin p hp).2.1] at hx;cases hx⟩
  ·exact ⟨.inr nT,lT,oT,pT⟩
theorem Inv.raised (I:Inv X pins σ H s){E:XK}{e:Value}(q:CX1 qx X.prog X.w X.stack H s E e s'):∃(x C:Addr) (dx:Option Addr) (T:Addr) (H':Hp),e = .ref x/\Inv X pins σ H' s'/\H' x=some (.ext (F2.XIs qx x C dx))/\s.heap.objs.size<=x/\s.heap.objs.size<=T/\T≠x/\H' T=none/\XRec qx s'.heap x C dx (.ref T)/\XTb s'.heap T/\E (.ref x) dx H':=by
 obtain ⟨x,C,dx,T,H',he,os,bare,un,hok,hx,nx,nT,ne,hT,r,tb,q⟩:=q;obtain ⟨hh,g,d,t,os'⟩:=s';obtain rfl:os'=s.os:=os;exact ⟨x,C,dx,T,H',he,I.call (h':=hh) (g':=g) (d':=d) (t':=t) (ch:=[]) un hok bare (λb z=>absurd z (by simp)),hx,nx,nT,ne,hT,r,tb,q⟩
theorem Inv.newT (I:Inv X pins σ H s)(h:s.heap.objs.size<=T):T≠X.env.locals/\(∀y c,X.env.cells.lookup y=some c->c≠T)/\∀p∈X.pn++pins,p.1≠T:=by
 have far:∀b o,s.heap.get? b=some o->b≠T:=λb o e z=>absurd (uf2 (um2 e) h) (by rw [z];exact ul2 _);refine ⟨λz=>absurd I.lt (by rw [<-z];exact Nat.not_lt.mpr h),λy c e=>?_,λp hp=>far _ _ (I.pin p hp).1⟩;obtain ⟨v,o,ho,_⟩:=I.cell y c e;exact far c o ho
end
section
variable {P:Program}{w:World}{K:PySem.W.Frag}{mg:Str->Option Value}{base:Heap}{N:List Str}{qual:Str}{scope:Scope}{f:Addr}{cd:Value}{A:Around}{outer:List Env}{s₀:Shared}{H₀:Hp}{E:XK}
end
end L2
namespace L2
open PySem PySem.Spec PyProof.Rows PySem.W
noncomputable def exO (x C tp:Addr):HO:=.ext λh=>h.get? x=some (excObj C tp)
noncomputable def Fz (x C tp dx:Addr):HO:=.ext λh=>h.get? x=some { excObj C tp with dict:=some dx }
theorem PL {P:Program}{w:World}{H:Hp}{h:Heap}{x C tp:Addr}(e:h.get? x=some (excObj C tp)):ObjOk P w H h x (exO x C tp):=⟨e,⟨_,e⟩,λ_ _ p k=>k _ p⟩
theorem UQ {P:Program}{w:World}{H:Hp}{h:Heap}{x C tp dx:Addr}(e:h.get? x=some { excObj C tp with dict:=some dx }):ObjOk P w H h x (Fz x C tp dx):=⟨e,⟨_,e⟩,λ_ _ p k=>k _ p⟩
structure XAt (K:PySem.W.Frag)(C P:Addr)(f:Str):Prop where
 cl:XCl K C (.ref P :: VE)
 set:findIn K (.ref C) "__setattr__" = some (some (.builtin "object.__setattr__"))
 no:findIn K (.ref C) f=some none
theorem XCl.cls {K:PySem.W.Frag}{C:Addr}{bm:List Value}(c:XCl K C bm):∃cd,clsIn K C=some cd/\cd.mro = .ref C :: bm/\cd.hasDict=true:=by
 obtain ⟨cd,dd,k0,k1,k2,k3,k5,h1,h2,_,h4,_⟩:=c.ex;exact ⟨cd,by unfold clsIn;rw [h1],h2,h4⟩
def sXF (K:PySem.W.Frag)(P:Addr)(ta tv:TE)(f:Str):TS:=λD σ H=>tv σ H λy H1=>ta σ H1 λx H2=>∃a C tp,x = .ref a/\H2 a=some (exO a C tp)/\XAt K C P f/\
 ∀dx,H2 dx=none->dx≠a->D.nx σ (upd (upd H2 dx (.xd [(f,y)])) a (Fz a C tp dx))
theorem Ur {X:Cx}{P:Addr}{o value:Expr}{ta tv:TE}{f:Str}{pos' pos:Pos}(ha:PE X o ta)(hv:PE X value tv)(hs:swapsWith value (some (.Attribute o f pos')) pos.line X.env=pure false):PS X (.Assign [.Attribute o f pos'] value pos) (sXF X.K P ta tv f):=by
 intro pins s σ H D I h;refine plainObj_wpAny_Assign_Attribute (thn (hv pins s σ H _ I h) λu s1 ⟨y,H1,I1,ry,q⟩=>thn (ha pins s1 σ H1 _ I1 q) λov s2 z9=>?_) hs;obtain ⟨x,H2,I2,rx,a,C,tp,ex,ea,c,q2⟩:=z9;subst ex;obtain rfl:ov=Value.ref a:=rx;obtain ⟨cd,c1,c2,c3⟩:=c.cl.cls;have hx:s2.heap.get? a=some (excObj C tp):=(I2.hok a _ ea).1;refine Wu I2.kIn hx c.set c1 c2 c3 c.no λh' k e n=>?_;have fr:=I2.hok.fresh (un2 s2.heap.objs.size);have ne:s2.heap.objs.size≠a:=(λz=>by rw [z,ea] at fr;cases fr)
 have nn:∀b u,H2 b=some u->b≠s2.heap.objs.size:=λb u z=>AE z fr;have na:∀b u,s2.heap.get? b=some u->H2 b=none->b≠a:=λb u _ z w'=>by rw [w',ea] at z;cases z
 refine ⟨σ,_,I2.un (h':=h') (t':=s2.toks + 2) ⟨λb u e1 e2 _ _=>k b u (na b u e1 e2) e1,λb u e1 e2 _ _=>⟨u.slots,k b u (na b u e1 e2) e1⟩,λb u e1 e2 _=>?_,λb u e1 _=>?_,λb xs e1=>?_,λb o' u e1=>?_,λb ps e1=>⟨#[],?_⟩⟩ λb u e1=>?_,q2 s2.heap.objs.size fr ne⟩
 ·rw [Ah (na b u e1 e2),Ah (um3 (um2 e1))];exact e2
 ·by_cases hb:b=a
  ·subst hb;exact ⟨_,e⟩
  ·exact ⟨_,k b u hb e1⟩
 ·rw [Ah (λz=>by rw [z,ea] at e1;cases e1),Ah (nn _ _ e1)];exact e1
 ·rw [Ah (λz=>by rw [z,ea] at e1;cases e1),Ah (nn _ _ e1)];exact e1
 ·rw [Ah (λz=>by rw [z,ea] at e1;cases e1),Ah (nn _ _ e1),e1];simp
 ·by_cases hb:b=a
  ·subst hb;rw [Aj] at e1;cases e1;exact UQ e
  ·rw [Ah hb] at e1
   by_cases hb2:b=s2.heap.objs.size
   ·subst hb2;rw [Aj] at e1;cases e1
    refine ⟨_,n,λg=>?_⟩
    by_cases hg:g=f
    ·subst hg;simp only [List.lookup,ui7,if_true];exact ry
    ·have hgb:(g == f)=false:=beq_eq_false_iff_ne.mpr hg;simp only [List.lookup,hgb,if_neg hg];trivial
   ·rw [Ah hb2] at e1;refine (I2.hok b u e1).stay (λz v hz q=>k z v ?_ q) (λz q=>?_) λz xs q=>?_
    ·rcases hz with rfl | hz
     ·exact hb
     ·intro w';rw [w',ea] at hz;cases hz
    ·rw [Ah (λz=>by rw [z,ea] at q;cases q),Ah (nn _ _ q)];exact q
    ·rw [Ah (λz=>by rw [z,ea] at q;cases q),Ah (nn _ _ q)];exact q
variable {qx:Bool}
theorem Jw {K:PySem.W.Frag}{h:Heap}{N:Addr}{m:Str->Option Value}{n:Str}{v:Value}(X:K.In h)(G:h.Ns N m)(e:nsIn K N n=some (some v)):m n=some v:=by
 obtain ⟨o,es,ep,ho,hd,_,hf⟩:=G;unfold nsIn at e
 split at e
 ·next c d es' n' sl q=>
  have z:=X _ _ q;rw [ho] at z
  cases z
  cases hd
  split at e
  ·next en he=>
   rw [<-hf];unfold nsFind findBy;rw [<-uf5,he];simpa using e
  ·split at e <;> cases e
 ·cases e
structure XMk (K:PySem.W.Frag)(C P f:Addr):Prop where
 cl:XCl K C (.ref P :: VE)
 init:∃cd,clsIn K C=some cd/\nsIn K cd.ns "__init__" = some (some (.ref f))
 fn:isFn K (.ref f)=true
 kp:keepIn K (.ref C)=true
section
variable {X:Cx}{k:Nat}{f C P:Addr}{fd:FuncData}{pins:List (Addr×Obj)}{σ:St}{H:Hp}{s:Shared}{Q:Value->Shared->Prop}{us:List Value}{vs:List V}{a:Str}{ps:List Str}{v:V}{u:Value}
end
end L2
namespace L2
open PySem PySem.Spec PyProof.Rows PySem.W
variable {qx:Bool}
section
variable {M:Model}{A:Around}{E:Value->Shared->Prop}{K:PySem.W.Frag}{s:Shared}{x C C':Addr}{bm bm':List Value}{dx:Option Addr}{tb:Value}
theorem IF {Q:Bool->Shared->Prop}(c:XCl K C bm)(c':XCl K C' bm')(X:K.In s.heap)(hx:XRec qx s.heap x C dx tb)(h:Q ((Value.ref C :: bm).contains (.ref C')) s):wpAny M A (excMatches (.ref x) (.ref C')) Q E s:=by
 obtain ⟨nm,q,N,bs,sn,sub,ab,col,dd,k0,k1,k2,k3,k5,hC,_⟩:=c.obj X;obtain ⟨nm',q',N',bs',sn',sub',ab',col',dd',k0',k1',k2',k3',k5',hC',_⟩:=c'.obj X;have hb:=c'.has X;obtain ⟨o,vs,ho,hc,hd,hdt,h1⟩:=hx;obtain ⟨hp,g,d,tk,os⟩:=s;have ty:(⟨hp,g,d,tk,os⟩:Shared).TypeIs (.ref C') "type":=⟨_,hC',rfl⟩;have nt:=tc_notTuple
 cases hbb:(Value.ref C :: bm).contains (.ref C') <;> (
  rw [hbb] at h;unfold excMatches
  repeat (first
   | (with_reducible refine wpAny_loadPart_at ho ?_;rw [hc])
   | with_reducible refine wpAny_loadPart_at hC' ?_
   | (with_reducible refine wpAny_isSubtype_exc hC' ?_;rw [hb])
   | (with_reducible refine wpAny_isSubtype_exc hC ?_;rw [hbb])
   | wp_step)
  exact h)
end
end L2
namespace L2
open PySem PySem.Spec PyProof.Rows PySem.W
variable {qx:Bool}
def RW (h:Heap)(T:Addr)(fl:Value):Prop:=∃(o:Obj) (ts:Array Value),h.get? T=some o/\o.data = .fields ts/\ts[3]?=some fl
section
variable {M:Model}{A:Around}{E:Value->Shared->Prop}{s:Shared}{env:Env}{outer:List Env}{base:Heap}{L x C:Addr}{dx:Option Addr}{tb:Value}{Q:Unit->Shared->Prop}
theorem KF {hadNext:Bool}{hd:Value}(hfr:A.frames=some (env :: outer))(hl:s.heap.FunFrames base (env :: outer))(hf:env.frame=some L)(hx:XRec qx s.heap x C dx tb)
 (h:∀h' T,s.heap.objs.size<=T->T≠x->XRec qx h' x C dx (.ref T)->RW h' T (rawInt L)->XKeep (frs (env :: outer)) [x] s.heap h'->Q () { s with heap:=h' }) :
 wpAny M A (do let fo <-frameOf env;let at' <-entryPlaceOf L hadNext;let en <-EntryCells.newEntry hd fo .none (rawInt L) .none at';setField (.ref x) 1 en) Q E s:=by
 obtain ⟨ox,vs,gx,cx,dxe,dtx,tbx,xc⟩:=hx;have v1:1 < vs.size:=(ua8.mp tbx).1;have nfr:x∉frs (env :: outer):=λz=>by
  obtain ⟨_,o2,g2,n2⟩:=hl.mem z;rw [gx] at g2;cases g2
  exact n2 vs dtx
 refine un6 (wpAny_frameOf_fun hfr hl hf λh1 so=>?_);refine un6 (wpAny_entryPlaceOf λat' ip=>?_);unfold EntryCells.newEntry newFields;refine un6 (wpAny_newObj_type ?_ (ip.sizeOk5 _ _ _ _ _));generalize hne:(Obj.mk (Value.type "traceback") none (Data.fields ([hd,Value.ref L,Value.none,rawInt L,Value.none]++if at'.isEmpty=true then List.replicate 6 Value.none else at').toArray) #[])=nob;have dn:nob.data = .fields ([hd,Value.ref L,Value.none,rawInt L,Value.none]++if at'.isEmpty=true then List.replicate 6 Value.none else at').toArray:=by rw [<-hne]
 have gx1:h1.get? x=some ox:=(so.2.1 x nfr).trans gx;have gx2:(h1.push nob).get? x=some ox:=uc4 _ gx1;have nex:h1.objs.size≠x:=um5 (um2 gx1);refine wpAny_setField gx2 dtx v1 ?_;obtain ⟨m1,m2,m3⟩:=Fa dtx (·.setIfInBounds 1 (Value.ref h1.objs.size));have gx3:=ud4 (Obj.mapFields (·.setIfInBounds 1 (Value.ref h1.objs.size))) gx2 (Obj.isFreed_of_fields m1);have gT2:(h1.push nob).get? h1.objs.size=some nob:=ue6 h1 (Obj.isFreed_of_fields dn);have gT3:=(uc7 (h1.push nob) (Obj.mapFields (·.setIfInBounds 1 (Value.ref h1.objs.size))) (Ne.symm nex)).trans gT2;have vx:(vs.setIfInBounds 1 (Value.ref h1.objs.size))[1]?=some (.ref h1.objs.size):=by simp [v1]
 have old:∀b o,b≠x->h1.get? b=some o->((h1.push nob).update x (Obj.mapFields (·.setIfInBounds 1 (Value.ref h1.objs.size)))).get? b=some o:=λb o hb e=>by
  rw [uc7 _ _ (Ne.symm hb)];exact uc4 _ e
 refine h _ h1.objs.size (um6 so.1.symm) nex ⟨_,_,gx3,m2.trans cx,m3.trans dxe,m1,vx,Xa xc⟩ ⟨_,_,gT3,dn,?_⟩ ⟨λb o hb hbf e=>old b o (λz=>hb (by simp [z])) ((so.2.1 b hbf).trans e),λb o hb e=>?_⟩
 ·rw [List.getElem?_toArray];rfl
 ·obtain ⟨sl,e1⟩:=so.2.2 b o e;exact ⟨sl,old b _ (λz=>hb (by simp [z])) e1⟩
end
structure XOn (qx:Bool)(X:Cx)(pins:List (Addr×Obj))(H:Hp)(s:Shared)(x C:Addr)(dx:Option Addr)(T:Option Addr)(fl:Value):Prop where
 hx:H x=some (.ext (F2.XIs qx x C dx))
 nx:X.s₀.heap.objs.size<=x
 rc:XRec qx s.heap x C dx (match T with | some a=>.ref a | none=>.none)
 tb:∀a,T=some a->a≠x/\H a=none/\X.s₀.heap.objs.size<=a/\(a≠X.env.locals/\(∀y c,X.env.cells.lookup y=some c->c≠a)/\∀p∈X.pn++pins,p.1≠a)/\RW s.heap a fl
 fo:fl = .none\/fl=rawInt X.env.locals
section
variable {M:Model}{A:Around}{Er:Value->Shared->Prop}{X:Cx}{pins:List (Addr×Obj)}{σ:St}{H:Hp}{s:Shared}{x C:Addr}{dx T:Option Addr}{fl:Value}{Q:Unit->Shared->Prop}
theorem DK (fr:Option Addr)(I:Inv X pins σ H s){a:Addr}(o:XOn qx X pins H s x C dx (some a) fl)(hfr:fr=none\/fr=some X.env.locals)
 (k:∀h',Inv X pins σ H { s with heap:=h' }->XOn qx X pins H { s with heap:=h' } x C dx (some a) (fr.elim Value.none λf=>rawInt f)->Q () { s with heap:=h' }):wpAny M A (setFlight (.ref x) fr) Q Er s:=by
 obtain ⟨ox,vs,gx,cx,dxe,dtx,tbx,xc⟩:=id o.rc;obtain ⟨ne,hT,nT,oT,ot,ts,gT,dT,t3⟩:=o.tb a rfl;unfold setFlight;refine un6 (un5 gx dtx tbx ?_);rw [if_pos (show (Value.ref a != Value.none)=true from rfl)];refine wpAny_setField gT dT (ua8.mp t3).1 ?_;obtain ⟨m1,m2,m3⟩:=Fa dT (·.setIfInBounds 3 (fr.elim Value.none λf=>rawInt f));have gT2:=ud4 (Obj.mapFields (·.setIfInBounds 3 (fr.elim Value.none λf=>rawInt f))) gT (Obj.isFreed_of_fields m1);have oth:∀b,b≠a->(s.heap.update a (Obj.mapFields (·.setIfInBounds 3 (fr.elim Value.none λf=>rawInt f)))).get? b=s.heap.get? b:=λb z=>uc7 _ _ (Ne.symm z);have rc':XRec qx (s.heap.update a (Obj.mapFields (·.setIfInBounds 3 (fr.elim Value.none λf=>rawInt f)))) x C dx (.ref a):=⟨ox,vs,(oth x (Ne.symm ne)).trans gx,cx,dxe,dtx,tbx,xc⟩;refine k _ (I.left o.hx hT o.nx nT (ch:=[a]) ⟨λb u hb _ e=>(oth b (by simpa using hb)).trans e,λb u hb e=>⟨u.slots,(oth b (by simpa using hb)).trans e⟩⟩ (λb hb=>.inr (by simpa using hb)) rc'.is oT.2.1 oT.1 oT.2.2) ⟨o.hx,o.nx,rc',λa' e=>?_,?_⟩
 ·cases e
  exact ⟨ne,hT,nT,oT,_,_,gT2,m1,by rw [Array.getElem?_setIfInBounds_self,if_pos (ua8.mp t3).1]⟩
 ·rcases hfr with rfl | rfl
  ·exact .inl rfl
  ·exact .inr rfl
theorem Fc (hA:A.frames=some X.stack)(I:Inv X pins σ H s)(hs:X.stack=X.env :: X.outer)(hf:X.env.frame=some X.env.locals)(o:XOn qx X pins H s x C dx T fl)
 (k:∀h' a,Inv X pins σ H { s with heap:=h' }->XOn qx X pins H { s with heap:=h' } x C dx (some a) (rawInt X.env.locals)->Q () { s with heap:=h' }):wpAny M A (noteFrame (.ref x) X.env) Q Er s:=by
 obtain ⟨ox,vs,gx,cx,dxe,dtx,tbx,xc⟩:=id o.rc;have fin:∀(s1:Shared) (hh:∃h1,s1 = { s with heap:=h1 }) (ch:List Addr) (h':Heap) (a:Addr),Inv X pins σ H s1->s1.heap.objs.size<=a->a≠x->XRec qx h' x C dx (.ref a)->RW h' a (rawInt X.env.locals)->XKeep (frs (X.env :: X.outer)) [x] s1.heap h'->Q () { s1 with heap:=h' }:=by
  rintro s1 ⟨h1,rfl⟩ ch h' a I1 l1 l2 l3 l4 l5;obtain ⟨o1,o2,o3⟩:=I1.newT l1;have J:=I1.left o.hx (I1.hok.fresh l1) o.nx (um4 I1.sz l1) (ch:=[x]) (hs ▸ l5) (λb hb=>.inl (by simpa using hb)) l3.is o2 o1 o3;exact k h' a J ⟨o.hx,o.nx,l3,λa' e=>by cases e;exact ⟨l2,I1.hok.fresh l1,um4 I1.sz l1,⟨o1,o2,o3⟩,l4⟩,.inr rfl⟩
 unfold noteFrame;simp only [hf];refine un6 (un5 gx dtx tbx ?_)
 cases T with
 | none=>
   rw [if_neg (by decide)];exact KF (hA.trans (congrArg some hs)) (hs ▸ I.stack) hf o.rc λh' a l1 l2 l3 l4 l5=>fin s ⟨s.heap,rfl⟩ [] h' a I l1 l2 l3 l4 l5
 | some T₀=>
   obtain ⟨ne,hT,nT,oT,ot,ts,gT,dT,t3⟩:=o.tb T₀ rfl;rw [if_pos (show (Value.ref T₀ != Value.none)=true from rfl)];refine un6 (un5 gT dT t3 ?_);rcases o.fo with rfl | rfl
   ·rw [if_neg (show ¬((Value.none == rawInt X.env.locals)=true) from by simp [rawInt])];refine un6 (wpAny_setField gT dT (ua8.mp t3).1 ?_);have oth:∀b,b≠T₀->(s.heap.update T₀ (Obj.mapFields (·.setIfInBounds 3 Value.none))).get? b=s.heap.get? b:=λb z=>uc7 _ _ (Ne.symm z);have rc':XRec qx (s.heap.update T₀ (Obj.mapFields (·.setIfInBounds 3 Value.none))) x C dx (.ref T₀):=⟨ox,vs,(oth x (Ne.symm ne)).trans gx,cx,dxe,dtx,tbx,xc⟩;have J:=I.left o.hx hT o.nx nT (ch:=[T₀]) ⟨λb u hb _ e=>(oth b (by simpa using hb)).trans e,λb u hb e=>⟨u.slots,(oth b (by simpa using hb)).trans e⟩⟩ (λb hb=>.inr (by simpa using hb)) rc'.is oT.2.1 oT.1 oT.2.2;exact KF (s:={ s with heap:=s.heap.update T₀ (Obj.mapFields (·.setIfInBounds 3 Value.none)) }) (hA.trans (congrArg some hs)) (hs ▸ J.stack) hf rc' λh' a l1 l2 l3 l4 l5=>fin _ ⟨_,rfl⟩ [] h' a J l1 l2 l3 l4 l5
   ·rw [if_pos (show (rawInt X.env.locals == rawInt X.env.locals)=true from by first | (simp;done) | exact ui7 _)];exact un7 (k s.heap T₀ I ⟨o.hx,o.nx,o.rc,o.tb,.inr rfl⟩)
end
def XE (qx:Bool)(X:Cx)(E:St->XK):Value->Shared->Prop:=λe s=>∃pins σ H x C dx T fl,e = .ref x/\Inv X pins σ H s/\XOn qx X pins H s x C dx T fl/\E σ (.ref x) dx H
def BZ (CX:CXT)(X:Cx)(E:St->XK):Prop:=∀(pins:List (Addr×Obj)) (σ:St) (H:Hp) (s:Shared) (e:Value) (s':Shared),Inv X pins σ H s->CX X.stack H s (E σ) e s'->X.xe e s'
section
variable {M:Model}{X:Cx}{E:St->XK}
theorem XE.own (hs:X.stack=X.env :: X.outer)(hf:X.env.frame=some X.env.locals):PassesOwn M X.A X.env (XE qx X E):=by
 rintro e s ⟨pins,σ,H,x,C,dx,T,fl,rfl,I,o,q⟩;refine Fc I.ok.frames I hs hf o λh' a I' o'=>?_;obtain ⟨ox,vs,gx,cx,dxe,dtx,tbx,xc⟩:=id o'.rc;unfold cameBackBy;refine un6 (un5 gx dtx tbx ?_);rw [if_neg (show ¬((Value.ref a == Value.none)=true) from by intro z;cases z)]
 rw [hf];exact DK _ I' o' (.inr rfl) λh'' I'' o''=>⟨pins,σ,H,x,C,dx,some a,_,rfl,I'',o'',q⟩
theorem XE.pass:BZ (CX1 qx X.prog X.w) (X.wish (XE qx X E)) E:=by
 intro pins σ H s e s' I q;obtain ⟨x,C,dx,T,H',rfl,J,hx,nx,nT,ne,hT,r,tb,q⟩:=I.unwish.raised q;exact ⟨pins,σ,H',x,C,dx,some T,.none,rfl,J,⟨hx,um4 I.sz nx,r,λa e=>by cases e;exact ⟨ne,hT,um4 I.sz nT,I.unwish.newT nT,tb⟩,.inl rfl⟩,q⟩
end
section
variable {P:Program}{w:World}{K:PySem.W.Frag}{mg:Str->Option Value}{base:Heap}
abbrev cxX (qx:Bool)(P:Program)(w:World)(K:PySem.W.Frag)(mg:Str->Option Value)(base:Heap)(N:List Str)(qual:Str)(scope:Scope)(f:Addr)(cd:Value)(A:Around)(outer:List Env)(s:Shared)(H:Hp)(E:XK):Cx:=
 (CY (CX1 qx P w) P w K mg base N qual scope f cd A outer s H E).wish (XE qx (CY (CX1 qx P w) P w K mg base N qual scope f cd A outer s H E) λ_=>E)
theorem XE.leaves {N:List Str}{qual:Str}{scope:Scope}{f:Addr}{cd:Value}{A:Around}{outer:List Env}{s₀:Shared}{H₀:Hp}{E:XK}{e:Value}{s:Shared}
 (h:XE qx (CY (CX1 qx P w) P w K mg base N qual scope f cd A outer s₀ H₀ E) (λ_=>E) e s):(CY (CX1 qx P w) P w K mg base N qual scope f cd A outer s₀ H₀ E).xe e s:=by
 obtain ⟨pins,σ,H,x,C,dx,T,fl,rfl,I,o,q⟩:=h;refine un6 (Fc I.ok.frames I rfl rfl o λh' a I' o'=>?_);refine DK none I' o' (.inl rfl) λh'' I'' o''=>?_;obtain ⟨ne,hT,nT,oT,tb⟩:=o''.tb a rfl;exact ⟨x,C,dx,a,H,rfl,I''.os,I''.bare,I''.base,I''.hok,o''.hx,o''.nx,nT,ne,hT,o''.rc,tb,q⟩
theorem Fun.okX {x qual:Str}{st:Stmt}{f:Addr}{fd:FuncData}{N ps:List Str}{k:Nat}{sp:Sp}(F:Fun K x qual st f fd)(S:FnScope N ps (Al st))(len:∀vs H Q E,sp vs H Q E->vs.length=ps.length)
 (hbody:∀(cdv:Value) (A:Around) (outer:List Env) (s:Shared) (H:Hp) (vs:List V) (Q:VK) (E:XK),Room k (A.deeper (envOfC qual (Al st) s.heap.objs.size f cdv))->sp vs H Q E->
   ∃t,PSs (cxX qx P w K mg base N qual (Al st) f cdv A outer s H E) (Bd st) t/\t { nx:=λ_ H'=>Q .non H',rt:=Q } (start N vs) H):FnOk P w K mg base (CX1 qx P w) (k + 1) f fd ps sp:=by
 obtain ⟨oc,od,kV,doc,pm,an,cdv,ct,osl,rfl,lk,hcd⟩:=F.ex;refine Ul lk hcd S len λA outer s H vs Q E hr hsp=>?_;obtain ⟨t,h,q⟩:=hbody cdv A outer s H vs Q E hr hsp;exact ⟨t,λpins s1 σ H1 D I hw=>un8 (h pins s1 σ H1 D (I.wish _) hw) (λ_ _ q=>q.unwish) λ_ _ z=>z.leaves,q⟩
theorem FnOk.calm {k:Nat}{f:Addr}{fd:FuncData}{ps:List Str}{sp sp':Sp}(F:FnOk P w K mg base (CX1 qx P w) k f fd ps sp)(h:∀vs H Q E,sp' vs H Q E->sp vs H Q E0):FnOk P w K mg base CX0 k f fd ps sp':=by
 refine ⟨λvs H Q E q=>F.len vs H Q E0 (h _ _ _ _ q),λA outer s H args us vs Q E hr he hb hv hs=>codeAny_mono (F.run A outer s H args us vs Q E0 hr he hb hv (h _ _ _ _ hs)) λr s' q=>?_⟩
 cases r with
 | error e=>obtain ⟨_,_,_,_,_,_,_,_,_,_,_,_,_,_,_,_,_,z⟩:=q;exact z.elim
 | ok fl=>cases fl <;> exact q
end
section
variable {X:Cx}{CX:CXT}{k:Nat}{f:Addr}{fd:FuncData}{ps:List Str}{sp:Sp}{E:St->XK}{x:Str}{p pos:Pos}{e:Expr}{es:List Expr}{t:TA}
def Rn (sp:Sp)(E:St->XK)(t:TA):TE:=λσ H Q=>t σ H λvs H1=>sp vs H1 Q (E σ)
theorem To (F:FnOk X.prog X.w X.K X.mg X.base CX k f fd ps sp)(hr:Room k X.A)(hg:Gl X x)(hm:X.mg x=some (.ref f))(hk:PySem.W.keepIn X.K (.ref f)=true)(hb:Binds X.K fd ps [])(hx:BZ CX X E)
 (ha:PA X (e :: es) t) (hdb:(x == ("__debug__" : Str))=false:=by decide) (he:starEach (e :: es) X.env=(false,eval e X.env) :: starEach es X.env:=by rfl) (hpl:(backTo pos (starEach es X.env)).any (·.1)=false:=by rfl) :
 PE X (.Call (.Name x p) (e :: es) [] pos) (Rn sp E t):=by
 intro pins s σ H Q I h;refine wpAny_Call_Name_kw (Co I hg hm ?_ hdb);refine uf6 (h₀:=X.base) I.ok.mod.kin hk (thn (ha pos pins s σ H _ I h) λus s1 z9=>?_) he hpl;obtain ⟨vs,H1,I1,r,q⟩:=z9;refine ⟨I1.kIn,?_⟩;have hl:(us++[]).length=ps.length:=by rw [uj2,<-r.length];exact F.len _ _ _ _ q
 refine wpAny_call (codeAny_mono (F.run X.A X.stack s1 H1 ⟨us,[]⟩ us vs Q (E σ) hr I1.env0 (by have:=hb s1 us I1.kIn hl;rwa [uj2] at this) r q) λr s' hq=>?_)
 cases r with
 | error e=>exact hx pins σ H1 s1 e s' I1 hq
 | ok fl=>
   cases fl with
   | ret u=>exact I1.after hq
   | next=>exact False.elim hq
   | brk=>exact False.elim hq
   | cont=>exact False.elim hq
end
end L2
namespace L2
open PySem PySem.Spec PyProof.Rows PySem.W
variable {qx:Bool}
def PM (qx:Bool)(X:Cx)(e:Expr)(C:Addr)(t:St->Hp->(Addr->Option Addr->Hp->Prop)->Prop):Prop:=
 ∀(pins:List (Addr×Obj)) (s:Shared) (σ:St) (H:Hp) (Q:Addr->Option Addr->Hp->Prop),Inv X pins σ H s->t σ H Q->
  wpAny (model X.prog X.w) X.A (eval e X.env) (λv s1=>∃x dx H1,v = .ref x/\Inv X pins σ H1 s1/\H1 x=some (.ext (F2.XIs qx x C dx))/\X.s₀.heap.objs.size<=x/\XRec true s1.heap x C dx .none/\Q x dx H1) X.xe s
def FJ (qx:Bool)(X:Cx)(E:St->XK):Prop:=∀(pins:List (Addr×Obj)) (σ:St) (H:Hp) (s:Shared) (x C:Addr) (dx:Option Addr),Inv X pins σ H s->XOn qx X pins H s x C dx none .none->E σ (.ref x) dx H->X.xe (.ref x) s
theorem XE.raises {X:Cx}{E:St->XK}:FJ qx (X.wish (XE qx X E)) E:=λpins σ H s x C dx I o q=>⟨pins,σ,H,x,C,dx,none,.none,rfl,I.unwish,⟨o.hx,o.nx,o.rc,o.tb,o.fo⟩,q⟩
theorem MG {X:Cx}{e:Expr}{C:Addr}{bm:List Value}{t:St->Hp->(Addr->Option Addr->Hp->Prop)->Prop}{E:St->XK}{pos:Pos}(hc:X.calm=true)(c:XCl X.K C bm)(hx:FJ qx X E)(h:PM qx X e C t)
 (ho:evalOpt (some e) X.env=some (eval e X.env):=by rfl):PS X (.Raise (some e) none pos) (λ_ σ H=>t σ H λx dx H1=>E σ (.ref x) dx H1):=by
 intro pins s σ H D I q;rw [arm_exec_Raise,ho];refine un6 (wpAny_standAt ?_);refine TD (qx:=true) c (I.ok.hd hc) ?_;refine un6 (un8 (h pins s σ H _ I q) (λv s1 z9=>?_) λ_ _ z=>z);obtain ⟨x,dx,H1,e1,I1,hx1,nx,r,q1⟩:=z9;subst e1;refine un6 (wpAny_standAt (un7 ⟨x,dx,rfl,I1.kIn,r,hx pins σ H1 s1 x C dx I1 ⟨hx1,nx,r.to,(λa e=>by cases e),.inl rfl⟩ q1⟩))
theorem OM {K:PySem.W.Frag}{h:Heap}{N:Addr}{m:Str->Option Value}{n:Str}(X:K.In h)(G:h.Ns N m)(e:nsIn K N n=some none):m n=none:=by
 obtain ⟨o,es,ep,ho,hd,_,hf⟩:=G;unfold nsIn at e
 split at e
 ·next c d es' n' sl q=>
  have z:=X _ _ q;rw [ho] at z
  cases z
  cases hd
  split at e
  ·cases e
  ·next he=>rw [<-hf];unfold nsFind findBy;rw [<-uf5,he];rfl
 ·cases e
section
variable {prog:Program}{w:World}{A:Around}{E:Value->Shared->Prop}{h:Heap}{g:Array GenState}{d:Drawn}{t:Nat}{os:OsState}{Q:Value->Shared->Prop}
variable {nm q:Str}{C N:Addr}{bs bm bmB:List Value}{hdct:Bool}{sn:List Str}{sub:List Value}{ab:Bool}{col:Option Bool}{dd:Option Addr}{k0 k1 k2 k3 k5:Option Value}{B newId initId:String}{mN:Str->Option Value}
theorem Qt (F:ExcBaseFacts B newId initId bmB)(T:OwnTail h bmB bm){us:List Value}(hC:h.get? C=some (excClassObj nm q C N bs bm hdct sn sub ab col dd k0 k1 k2 k3 k5 newId))(hn:h.Ns N mN)(hni:mN "__init__" = none)(hus:us.length<=sizeLine)
 (hq:∀h' tp,(∀b o,h.get? b=some o->h'.get? b=some o)->h'.get? (h.objs.size + 1)=some (excObj C tp)->Q (.ref (h.objs.size + 1)) ⟨h',g,d,t,os⟩) :
 wpAny (model prog w) A (call (.ref C) us) Q E ⟨h,g,d,t,os⟩:=by
 have c1:=tc_lookup;have c2:=tc_bind (.ref C);have ty:(⟨h,g,d,t,os⟩:Shared).TypeIs (.ref C) "type":=⟨_,hC,rfl⟩;refine wpAny_call (codeAny_of_tree ?_);show wpAny _ _ (callAny (.ref C) _) _ _ _
 repeat (any_goals (first
  | assumption
  | with_reducible refine wpAny_loadPart_at hC ?_
  | wp_step))
 refine ⟨rfl,codeAny_call_builtin_at (Code.quiet_builtin _ (by decide +kernel)) entry_typeCall (wpAny_check_type_call_sub hC ?_)⟩
 repeat (first
  | with_reducible refine wpAny_loadPart_at hC ?_
  | with_reducible refine wpAny_madeBy_exc hC ?_
  | wp_step)
 refine codeAny_call_builtin_code (Code.quiet_builtin _ F.quiet) (wpAny_check_new_subT F T hC (codeAny_exc_new_subT F T hC ?_ hus))
 change wpAny _ _ _ _ _ (Shared.mk (Dr h C us) g d t os)
 have kp:∀b o,h.get? b=some o->(Dr h C us).get? b=some o:=λb o e=>uc4 _ (uc4 _ e);have he:(Dr h C us).get? (h.objs.size + 1)=some { cls:=.ref C,data:=.fields #[.ref h.objs.size,.none,.none,.none,.bool false,.none] }:=by heap_get
 have n1:(Dr h C us).Ns N mN:=hn.keeps kp;have cC:(Value.ref C :: bm).contains (.ref C)=true:=by simp
 unfold isInstance
 repeat (first
  | with_reducible refine wpAny_loadPart_at he ?_
  | (with_reducible refine wpAny_isSubtype_exc (kp _ _ hC) ?_;rw [cC])
  | wp_step)
 show wpAny _ _ (typeLookup (.ref C) _) _ _ _;refine wpAny_typeLookup_tail (kp _ _ hC) n1 (T.keeps kp) F.mroIs F.init.lookup ?_;rw [hni];refine um1 (un6 (wpAny_of_eq (F.init.bind _) (un6 (wpAny_call (codeAny_call_builtin F.init.plain F.initEntry (wpAny_check_init_subT F (T.keeps kp) (kp _ _ hC) he rfl ?_))))))
 wp_walk
 refine hq _ ((Dr h C us).objs.size) (λb o hb=>?_) ?_
 ·rw [uc7 _ _ (um5 (Nat.lt_succ_of_lt (um2 hb)))];exact uc4 _ (kp b o hb)
 ·rw [ud4 _ (uc4 _ he) rfl];rfl
end
section
variable {X:Cx}{k:Nat}{f C P:Addr}{fd:FuncData}{a:Str}{ps:List Str}{n:Str}{p pos:Pos}{e:Expr}{es:List Expr}
theorem VU {t:TA}{bm:List Value}{cd:ClassData}(c:XCl X.K C bm)(hk:keepIn X.K (.ref C)=true)(hcd:clsIn X.K C=some cd)(hni:nsIn X.K cd.ns "__init__" = some none)(hg:Gl X n)(hm:X.mg n=some (.ref C))(ha:PA X (e :: es) t)
 (hdb:(n == ("__debug__" : Str))=false:=by decide) (h1:starEach (e :: es) X.env=(false,eval e X.env) :: starEach es X.env:=by rfl) (hpl:(backTo pos (starEach es X.env)).any (·.1)=false:=by rfl) :
 PM qx X (.Call (.Name n p) (e :: es) [] pos) C (λσ H Q=>t σ H λvs H1=>vs.length<=1000/\∀x,H1 x=none->Q x none (upd H1 x (.ext (F2.XIs qx x C none)))):=by
 intro pins s σ H Q I h;refine wpAny_Call_Name_kw (Co I hg hm ?_ hdb);refine uf6 (h₀:=X.base) I.ok.mod.kin hk (thn (ha pos pins s σ H _ I h) λus s1 z9=>?_) h1 hpl;obtain ⟨vs,H1,I1,r,hl,q⟩:=z9;refine ⟨I1.kIn,?_⟩;obtain ⟨nm,q',N,bs,sn,sub,ab,col,dd,k0,k1,k2,k3,k5,hC,hN⟩:=c.obj I1.kIn;have hni':s1.heap.nsMap N "__init__" = none:=by
  unfold clsIn at hcd
  split at hcd
  ·next l=>
   cases hcd
   have z:=I1.kIn _ _ l;rw [hC] at z
   cases z
   exact OM I1.kIn hN hni
  ·cases hcd
 obtain ⟨hh,g,d,tk,os⟩:=s1;refine Qt ua9 (c.tail I1.kIn) hC hN hni' (by show us.length<=sizeLine;rw [<-r.length];exact um4 hl (by decide)) λh' tp kp ht=>?_;have xr:XRec true h' (hh.objs.size + 1) C none .none:=⟨_,_,ht,rfl,rfl,rfl,rfl,λ_=>⟨rfl,by show 4 < 6;decide⟩⟩;exact ⟨_,none,_,rfl,I1.laid (h':=h') (t':=tk) kp (un4 _) (Jl xr.to.is),Aj,um4 I1.sz (un4 _),xr,q _ (I1.hok.fresh (un4 _))⟩
end
end L2
namespace L2
open PySem PySem.Spec PyProof.Rows PySem.W
variable {qx:Bool}
abbrev Cx.mark (X:Cx)(x:Addr):Cx:={ X with A:=X.A.mark (some (.ref x)),calm:=false,xe:=λ_ _=>False }
section
variable {X:Cx}{pins:List (Addr×Obj)}{σ:St}{H:Hp}{s:Shared}{D:Ends}
theorem Inv.mark (I:Inv X pins σ H s)(x:Addr):Inv (X.mark x) pins σ H s:=
 ⟨⟨I.ok.mod,I.ok.kind,I.ok.glob,I.ok.blt,I.ok.above,I.ok.inj,I.ok.has,I.ok.cab,(λz=>by cases z),I.ok.frames,I.ok.stk,I.ok.exf,I.ok.bs,I.ok.bsz,I.ok.noex,I.ok.exfs,I.ok.funs,I.ok.frf⟩,I.os,I.bare,I.base,I.loc,I.cell,I.free,I.freeC,I.pin,I.hok,I.len⟩
theorem Inv.unmark {x:Addr}(J:X.Ok)(I:Inv (X.mark x) pins σ H s):Inv X pins σ H s:=⟨J,I.os,I.bare,I.base,I.loc,I.cell,I.free,I.freeC,I.pin,I.hok,I.len⟩
theorem Inv.repin {pn' pins':List (Addr×Obj)}{xe:Value->Shared->Prop}(I:Inv X pins σ H s)(h:∀p∈pn'++pins',p∈X.pn++pins):Inv { X with pn:=pn',xe:=xe } pins' σ H s:=
 ⟨⟨I.ok.mod,I.ok.kind,I.ok.glob,I.ok.blt,I.ok.above,I.ok.inj,I.ok.has,I.ok.cab,I.ok.hd,I.ok.frames,I.ok.stk,I.ok.exf,I.ok.bs,I.ok.bsz,I.ok.noex,I.ok.exfs,I.ok.funs,I.ok.frf⟩,I.os,I.bare,I.base,I.loc,I.cell,I.free,I.freeC,λp hp=>I.pin p (h p hp),I.hok,I.len⟩
theorem SP.unmark {x:Addr}(J:X.Ok){f:Flow}(h:SP (X.mark x) pins D f s):SP X pins D f s:=by
 cases f with
 | next=>obtain ⟨σ',H',I,q⟩:=h;exact ⟨σ',H',I.unmark J,q⟩
 | brk=>obtain ⟨σ',H',I,q⟩:=h;exact ⟨σ',H',I.unmark J,q⟩
 | cont=>obtain ⟨σ',H',I,q⟩:=h;exact ⟨σ',H',I.unmark J,q⟩
 | ret u=>obtain ⟨v,σ',H',I,r,q⟩:=h;exact ⟨v,σ',H',I.unmark J,r,q⟩
theorem Gx {M:Model}{A:Around}{E:Value->Shared->Prop}{i:Nat}{n:Str}{pos:Pos}{Q:Unit->Shared->Prop}(I:Inv X pins σ H s)(hN:X.N.Nodup)(hi:X.N[i]?=some n)(hk:X.env.scope.names.lookup n=some .local)
 (h:∀s',Inv X pins (σ.set i none) H s'->Q () s'):wpAny M A (do bindName X.env n .none;unbindBehindTheSuite X.env n pos) Q E s:=by
 refine un6 (wpAny_bindName (Fh (v:=.non) I hN hi (.inl hk) rfl (λs1 I1=>?_) (.inr hk)));unfold unbindBehindTheSuite;have hiσ:i < σ.length:=by rw [I.len];exact (ub1.mp hi).1
 obtain ⟨m,hn,hl⟩:=id I1.loc;have hcls:(X.env.scope.kind == .class || (X.env.scope.kind == .module && X.env.locals != X.env.globals))=false:=by rw [I.ok.kind];rfl
 obtain ⟨u0,_,lk⟩:=hl i n .non hi (by rw [uc3 hiσ]) (.inl hk);have hv:m n=some u0:=by
  rcases lk with ⟨_,e⟩ | ⟨k,_⟩
  ·exact e
  ·have k:X.env.scope.names.lookup n=some .cell\/X.env.scope.names.lookup n=some .free:=k;rw [hk] at k;rcases k with k | k <;> cases k
 refine wpAny_onRaise (wpAny_unbindName_local hk hn hv hcls λh' u hn' hs=>?_);have cne:=I1.cne;have tracked:HOk X.prog X.w H h':=λb ob e=>by
  refine (I1.hok b ob e).stay (λc w' hc q=>(hs.2 c ?_).trans q) (λ_ q=>q) λ_ _ q=>q;rintro rfl;rcases hc with rfl | hc
  ·rw [I1.free] at e;cases e
  ·rw [I1.free] at hc;cases hc
 have far:∀b o,X.s₀.heap.get? b=some o->b≠X.env.locals:=λb o e=>um3 (uf2 (um2 e) I1.ok.above);refine h _ ⟨I1.ok,I1.os,I1.bare,⟨λb o e n hb hx=>?_,λb o e n hb hx=>?_,I1.base.free,λb o e hx=>?_,I1.base.tups,I1.base.frzs,I1.base.tbls⟩,⟨_,hn',λj y v' e1 e2 e3=>?_⟩,λy c e=>?_,I1.free,I1.freeC,λp hp=>?_,tracked,by simpa using I.len⟩
 ·exact (hs.2 b (far b o e)).trans (I1.base.keep b o e n hb hx)
 ·obtain ⟨sl,e1⟩:=I1.base.slot b o e n hb hx;exact ⟨sl,(hs.2 b (far b o e)).trans e1⟩
 ·obtain ⟨o',e1⟩:=I1.base.there b o e hx;exact ⟨o',(hs.2 b (far b o e)).trans e1⟩
 ·by_cases hj:j=i
  ·subst hj;rw [uc3 hiσ] at e2
   cases e2
  ·rw [ue0 (Ne.symm hj)] at e2;obtain ⟨u',r',q⟩:=hl j y v' e1 (by rw [ue0 (Ne.symm hj)];exact e2) e3;refine ⟨u',r',?_⟩;rcases q with ⟨k,e⟩ | ⟨k,c,e,z⟩
   ·refine .inl ⟨k,?_⟩;have:y≠n:=λe=>hj (Gp hN e1 (e ▸ hi));simp [this,e]
   ·exact .inr ⟨k,c,e,z.sameBut hs (cne y c e)⟩
 ·obtain ⟨w',z⟩:=I1.cell y c e;exact ⟨w',z.sameBut hs (cne y c e)⟩
 ·obtain ⟨e,n,ne,nf,d⟩:=I1.pin p hp;exact ⟨(hs.2 p.1 ne).trans e,n,ne,nf,d⟩
end
def PH (qx:Bool)(X:Cx)(hs:List ExceptHandler)(th:Addr->Addr->Option Addr->TS):Prop:=∀(pins:List (Addr×Obj)) (s:Shared) (σ:St) (H:Hp) (x C:Addr) (dx:Option Addr) (T:Addr) (D:Ends),Inv X pins σ H s->XOn qx X pins H s x C dx (some T) .none->th x C dx D σ H->
 wpAny (model X.prog X.w) X.A (handleBy (.ref x) X.env hs) (SP X pins D) X.xe s
noncomputable def Ends.unset (D:Ends)(i:Nat):Ends:={ nx:=λσ H=>D.nx (σ.set i none) H,rt:=D.rt,bk:=λσ H=>D.bk (σ.set i none) H,ct:=λσ H=>D.ct (σ.set i none) H }
section
variable {X:Cx}{n v:Str}{C':Addr}{bm':List Value}{p pos:Pos}{b₀:Stmt}{suite:List Stmt}{rest:List ExceptHandler}{ts:Addr->TS}{tr:Addr->Addr->Option Addr->TS}{i:Nat}
def bD (K:PySem.W.Frag)(C':Addr)(i:Nat)(ts:Addr->TS)(tr:Addr->Addr->Option Addr->TS):Addr->Addr->Option Addr->TS:=λx C dx D σ H=>∃bm,XCl K C bm/\
 if (Value.ref C :: bm).contains (.ref C')=true then ts x (D.unset i) (σ.set i (some (.ref x))) H else tr x C dx D σ H
theorem ZH (hg:Gl X n)(hm:X.mg n=some (.ref C'))(c':XCl X.K C' bm')(hN:X.N.Nodup)(hi:X.N[i]?=some v)(hl:X.env.scope.names.lookup v=some .local)(hb:∀x,PSs (X.mark x) (b₀ :: suite) (ts x))(hr:PH qx X rest tr)
 (hdb:(n == ("__debug__" : Str))=false:=by decide):PH qx X (.ExceptHandler (some (.Name n p)) (some v) (b₀ :: suite) pos :: rest) (bD X.K C' i ts tr):=by
 intro pins s σ H x C dx T D I o ⟨bm,c,q⟩;have Im:=I.mark x;refine wpAny_handleBy_cons (codeAny_handlers_test (Co Im hg hm ?_ hdb)) (by intro z;cases z)
 refine IF c c' I.kIn o.rc ?_
 cases hc:(Value.ref C :: bm).contains (.ref C') with
 | false=>
   rw [hc,if_neg (by decide)] at q;exact hr pins s σ H x C dx T D I o q
 | true=>
   rw [hc,if_pos rfl] at q;refine codeAny_handlers_suite_as ?_;refine DK none I o (.inl rfl) λh1 I1 o1=>?_;refine Fh (v:=.ref x) I1 hN hi (.inl hl) rfl (λs2 I2=>?_) (.inr hl);refine un8 (hb x pins s2 _ H _ (I2.mark x) q) (λf s3 z=>?_) λ_ _ z=>z.elim;show wpAny _ _ _ _ _ _;have J:=I.ok
   cases f with
   | next=>obtain ⟨σ',H',I',q'⟩:=z;exact Gx (I'.unmark J) hN hi hl λs4 I4=>⟨_,H',I4,q'⟩
   | brk=>obtain ⟨σ',H',I',q'⟩:=z;exact Gx (I'.unmark J) hN hi hl λs4 I4=>⟨_,H',I4,q'⟩
   | cont=>obtain ⟨σ',H',I',q'⟩:=z;exact Gx (I'.unmark J) hN hi hl λs4 I4=>⟨_,H',I4,q'⟩
   | ret u=>obtain ⟨w,σ',H',I',r,q'⟩:=z;exact Gx (I'.unmark J) hN hi hl λs4 I4=>⟨w,_,H',I4,r,q'⟩
def bE (K:PySem.W.Frag)(C':Addr)(ts:TS)(tr:Addr->Addr->Option Addr->TS):Addr->Addr->Option Addr->TS:=λx C dx D σ H=>∃bm,XCl K C bm/\
 if (Value.ref C :: bm).contains (.ref C')=true then ts D σ H else tr x C dx D σ H
theorem ZI {ts:TS}(hg:Gl X n)(hm:X.mg n=some (.ref C'))(c':XCl X.K C' bm')(hb:∀x,PSs (X.mark x) (b₀ :: suite) ts)(hr:PH qx X rest tr)
 (hdb:(n == ("__debug__" : Str))=false:=by decide):PH qx X (.ExceptHandler (some (.Name n p)) none (b₀ :: suite) pos :: rest) (bE X.K C' ts tr):=by
 intro pins s σ H x C dx T D I o ⟨bm,c,q⟩;have Im:=I.mark x;refine wpAny_handleBy_cons (codeAny_handlers_test (Co Im hg hm ?_ hdb)) (by intro z;cases z)
 refine IF c c' I.kIn o.rc ?_
 cases hc:(Value.ref C :: bm).contains (.ref C') with
 | false=>
   rw [hc,if_neg (by decide)] at q;exact hr pins s σ H x C dx T D I o q
 | true=>
   rw [hc,if_pos rfl] at q;refine codeAny_handlers_suite ?_;refine DK none I o (.inl rfl) λh1 I1 o1=>?_;exact un8 (hb x pins _ _ H _ (I1.mark x) q) (λf s3 z=>z.unmark I.ok) λ_ _ z=>z.elim
theorem Yl {body:List Stmt}{h₀:ExceptHandler}{hs:List ExceptHandler}{tb:(St->XK)->TS}{th:Addr->Addr->Option Addr->TS}(h1:X.stack=X.env :: X.outer)(h2:X.env.frame=some X.env.locals)
 (hb:∀(pn:List (Addr×Obj)) (E:St->XK),PSs { X with pn:=pn,xe:=XE qx { X with pn:=pn } E } body (tb E)) (hh:PH qx X (h₀ :: hs) th) :
 PS X (.Try body (h₀ :: hs) [] [] pos) (λD σ H=>tb (λσ' v dx H'=>∀x C,v = .ref x->H' x=some (.ext (F2.XIs qx x C dx))->(∃h,F2.XIs qx x C dx h)->th x C dx D σ' H') D σ H):=by
 intro pins s σ H D I q;refine wpAny_Try_except ?_;refine un8 (hb (X.pn++pins) _ [] s σ H D (I.repin λp hp=>by simpa using hp) q) (λf s1 z=>?_) λe s1 z=>?_
 ·have back:∀{σ':St} {H':Hp},Inv { X with pn:=X.pn++pins,xe:=XE qx { X with pn:=X.pn++pins } (λσ' v dx H'=>∀x C,v = .ref x->H' x=some (.ext (F2.XIs qx x C dx))->(∃h,F2.XIs qx x C dx h)->th x C dx D σ' H') } [] σ' H' s1->Inv X pins σ' H' s1:=λJ=>J.repin (X:={ X with pn:=X.pn++pins,xe:=_ }) (pn':=X.pn) (pins':=pins) (xe:=X.xe) λp hp=>by simpa using hp
  cases f with
  | next=>obtain ⟨σ',H',J,q'⟩:=z;exact wpAny_execs_nil ⟨σ',H',back J,q'⟩
  | brk=>obtain ⟨σ',H',J,q'⟩:=z;exact ⟨σ',H',back J,q'⟩
  | cont=>obtain ⟨σ',H',J,q'⟩:=z;exact ⟨σ',H',back J,q'⟩
  | ret u=>obtain ⟨w,σ',H',J,r,q'⟩:=z;exact ⟨w,σ',H',back J,r,q'⟩
 ·obtain ⟨pins',σ',H',x,C,dx,T,fl,rfl,J,o,q'⟩:=z;have J1:Inv X pins σ' H' s1:=J.repin (X:={ X with pn:=X.pn++pins }) (pn':=X.pn) (pins':=pins) (xe:=X.xe) λp hp=>by
   simp only [ui8] at hp ⊢;exact .inl hp
  have o1:XOn qx X pins H' s1 x C dx T fl:=⟨o.hx,o.nx,o.rc,λa e=>by
   obtain ⟨z1,z2,z3,⟨y1,y2,y3⟩,z5⟩:=o.tb a e;exact ⟨z1,z2,z3,⟨y1,y2,λp hp=>y3 p (by simp only [ui8] at hp ⊢;exact .inl hp)⟩,z5⟩,o.fo⟩
  refine Fc J1.ok.frames J1 h1 h2 o1 λh' a I' o'=>DK none I' o' (.inl rfl) λh'' I'' o''=>?_;exact hh pins _ σ' H' x C dx a D I'' o'' (q' x C rfl o.hx ⟨_,o.rc.is⟩)
end
end L2
namespace F2
open PySem L2 PySem.Spec
variable {qx:Bool}
noncomputable def AW:D->Bool
 | .exc _ _=>true
 | _=>false
def exE (E:XK)(v:V)(H:Hp):Prop:=∀x dx,v = .ref x->E (.ref x) dx H
section
variable (K:PySem.W.Frag)
inductive RX (E:L2.St->XK)(f:M D)(σ:L2.St)(H:Hp)(Q:VK):Prop where
 | mk (Oo:Addr->Prop) (c:Cf) (t:T) (fi:FInv K Oo c t σ H) (r:D) (t':T) (e:f t=some (r,t')) (k:∀v H' c',FInv K Oo c' t' σ H'->Stp Oo c H c' H'->Rep K c' H' v r->if AW r=true then exE (E σ) v H' else Q v H'):RX E f σ H Q
def μX (E:XK):Cf->Hp->D->(V->Hp->Prop)->Prop:=λc H r rt=>∀v,Rep K c H v r->if AW r=true then exE E v H else rt v H
inductive RSX (E:L2.St->XK)(f:M Out)(D:Ends)(σ:L2.St)(H:Hp):Prop where
 | mk (Oo:Addr->Prop) (c:Cf) (t:T) (fi:FInv K Oo c t σ H) (o:Out) (t':T) (e:f t=some (o,t')) (k:∀σ' H' c',FInv K Oo c' t' σ' H'->Stp Oo c H c' H'->
 match (generalizing:=false) o with
 | .next=>D.nx σ' H'
 | .brk=>D.bk σ' H'
 | .cont=>D.ct σ' H'
 | .ret r=>∀v,Rep K c' H' v r->if AW r=true then exE (E σ') v H' else D.rt v H'):RSX E f D σ H
inductive spX (f:Fn)(vs:List V)(H:Hp)(Q:VK)(E:XK):Prop where
 | mk (c:Cf) (ds:List D) (S:List Ob) (si:SInv K c S H) (rs:Reps K c H vs ds) (r:D) (S':List Ob) (e:f ds S=some (r,S')) (k:∀v H' c',SInv K c' S' H'->Stp c.O c H c' H'->(∀b,c'.O b↔c.O b)->Rep K c' H' v r->if AW r=true then exE E v H' else Q v H'):spX f vs H Q E
end
def Hk (g:Fn):Fn:=λds S=>match g ds S with
 | some (r,S')=>if AW r=true then none else some (r,S')
 | none=>none
variable {g:Fn}{r:D}
theorem QE {ds:List D}{S S':List Ob}(h:Hk g ds S=some (r,S')):g ds S=some (r,S')/\AW r=false:=by
 unfold Hk at h
 split at h
 ·next r' S1 e=>
  by_cases hx:AW r'=true
  ·rw [if_pos hx] at h;cases h
  ·rw [if_neg hx] at h;cases h;exact ⟨e,by simpa using hx⟩
 ·cases h
variable {fa:Addr}{fd:FuncData}{x:Str}
section
variable {P:Program}{w:World}{K:PySem.W.Frag}{mg:Str->Option Value}{base:Heap}
theorem Zl {k:Nat}{ps:List Str}(F:FnOk P w K mg base (CX1 qx P w) k fa fd ps (spX K g)):FnOk P w K mg base CX0 k fa fd ps (spF K (Hk g)):=
 F.calm λvs H Q E z9=>by
  obtain ⟨c,ds,S,si,rs,r,S',e,kk⟩:=z9;obtain ⟨e1,e2⟩:=QE e;exact ⟨c,ds,S,si,rs,r,S',e1,λv H' c' a1 a2 a3 a4=>by rw [if_neg (by rw [e2];decide)];exact kk v H' c' a1 a2 a3 a4⟩
theorem Nq {qual:Str}{st:Stmt}{N ps:List Str}{k n m:Nat}{g:M Out}(e1:ps.length=n)(e2:N.length=m)(F:Fun K x qual st fa fd)(S:FnScope N ps (Al st))
 (hb:∀(cdv:Value) (A:Around) (outer:List Env) (s:Shared) (H:Hp) (E:XK),Room k (A.deeper (PyProof.Rows.envOfC qual (Al st) s.heap.objs.size fa cdv))->
   BZ (CX1 qx P w) (cxX qx P w K mg base N qual (Al st) fa cdv A outer s H E) (λ_=>E)->FJ qx (cxX qx P w K mg base N qual (Al st) fa cdv A outer s H E) (λ_=>E)->
   PassesOwn (model P w) (cxX qx P w K mg base N qual (Al st) fa cdv A outer s H E).A (cxX qx P w K mg base N qual (Al st) fa cdv A outer s H E).env (cxX qx P w K mg base N qual (Al st) fa cdv A outer s H E).xe->
   PSs (cxX qx P w K mg base N qual (Al st) fa cdv A outer s H E) (Bd st) (RSg K (μX K E) g)):FnOk P w K mg base (CX1 qx P w) (k + 1) fa fd ps (spX K (fnOf n m g)):=by
 subst e1 e2;have hlen:∀{ds:List D} {S:List Ob} {z:D×List Ob},fnOf ps.length N.length g ds S=some z->ds.length=ps.length:=λ{ds S z} h=>by
  unfold fnOf at h
  split at h
  ·next h1=>exact h1
  ·cases h
 refine F.okX S (λvs H Q E h=>?_) (λcdv A outer s H vs Q E hr h=>?_)
 ·obtain ⟨c,ds,S,si,rs,r,S',e,_⟩:=h;rw [rs.length];exact hlen e
 obtain ⟨c,ds,S0,si,rs,r,S',e,kk⟩:=h;refine ⟨RSg K (μX K E) g,hb cdv A outer s H E hr XE.pass XE.raises (XE.own rfl rfl),?_⟩;have hl:=hlen e;unfold fnOf at e;rw [if_pos hl] at e
 cases eg:g ⟨env0 N.length ds,S0⟩ with
 | none=>rw [eg] at e;cases e
 | some p=>
   obtain ⟨o,t⟩:=p;rw [eg] at e;refine ⟨c.O,c,_,Gg si rs,o,t,eg,λσ' H' c' f' s'=>?_⟩;obtain ⟨si',ext'⟩:=f'.leave;have st':Stp c.O c H ⟨c'.ι,c.O⟩ H':=⟨s'.ext.trans ext',s'.oo⟩
   cases o with
   | next=>cases e;exact kk .non H' _ si' st' (λ_=>Iff.rfl) .non
   | ret d=>cases e;exact λv rv=>kk v H' _ si' st' (λ_=>Iff.rfl) (rv.mono ext')
   | brk=>cases e
   | cont=>cases e
theorem NS {ps:List Str}{k:Nat}{f:Fn}(e:f=g)(h:FnOk P w K mg base (CX1 qx P w) k fa fd ps (spX K g)):FnOk P w K mg base (CX1 qx P w) k fa fd ps (spX K f):=by rw [e];exact h
end
variable {f:M D}
section
variable {X:Cx}{e a b:Expr}{es:List Expr}{pos:Pos}{E:L2.St->XK}{st:Stmt}
theorem Ib {E:XK}{f:M Out}(h:PS X st (RSX X.K (λ_=>E) f)):PS X st (RSg X.K (μX X.K E) f):=A8 h λD σ H z9=>by
 obtain ⟨Oo,c,t,fi,o,t',eq,k⟩:=z9;refine ⟨Oo,c,t,fi,o,t',eq,λσ' H' c' f' s'=>?_⟩;have q:=k σ' H' c' f' s'
 cases o <;> exact q
theorem Ny {k:Nat}{ps:List Str}{f:M (List D)}{p:Pos}(F:FnOk X.prog X.w X.K X.mg X.base (CX1 qx X.prog X.w) k fa fd ps (spX X.K g))(hr:Room k X.A)(hg:Gl X x)(hm:X.mg x=some (.ref fa))(hk:PySem.W.keepIn X.K (.ref fa)=true)(hb:Binds X.K fd ps [])
 (hx:BZ (CX1 qx X.prog X.w) X E) (ha:PA X (e :: es) (RA X.K f)) (hdb:(x == ("__debug__" : Str))=false:=by decide) (h1:AO e=false:=by rfl) (h2:AM es=true:=by rfl) :
 PE X (.Call (.Name x p) (e :: es) [] pos) (RX X.K E (Ai g f)):=
 AA (To F hr hg hm hk hb hx ha hdb (AV h1) (AK h2).1) λσ H Q z9=>by
  obtain ⟨Oo,c,t,fi,r,t',eq,kk⟩:=z9;obtain ⟨ds,t1,e1,eq⟩:=Ae eq;obtain ⟨S',e2,rfl⟩:=Fm eq;refine ⟨Oo,c,t,fi,ds,t1,e1,λvs H1 c1 f1 s1 rvs=>?_⟩;refine ⟨c1,ds,t1.S,f1.s,rvs,r,S',e2,λv H' c' si st ho rv=>?_⟩;obtain ⟨f2,s2⟩:=f1.after si st ho;exact kk v H' c' f2 (s1.trans s2) rv
def nxD (f:M D):M D:=bnd f λd=>if AW d=true then fail else ret d
theorem Mz {t t':T}(h:nxD f t=some (r,t')):f t=some (r,t')/\AW r=false:=by
 obtain ⟨d,t1,e1,h⟩:=Ae h
 by_cases hx:AW d=true
 ·rw [if_pos hx] at h;cases h
 ·rw [if_neg hx] at h;cases h;exact ⟨e1,by simpa using hx⟩
theorem Qe {A B:Prop}(h:AW r=false)(q:if AW r=true then A else B):B:=by rw [if_neg (by rw [h];decide)] at q;exact q
def JQ (g:M D)(h:D->M D):M D:=bnd g λy=>if AW y=true then ret y else nxD (h y)
theorem RX.bind {K:PySem.W.Frag}{g:M D}{h:D->M D}{σ:L2.St}{H:Hp}{Q:VK}{Oo:Addr->Prop}{c:Cf}{t t':T}(fi:FInv K Oo c t σ H)(eq:JQ g h t=some (r,t'))
 (k:∀v H' c',FInv K Oo c' t' σ H'->Stp Oo c H c' H'->Rep K c' H' v r->if AW r=true then exE (E σ) v H' else Q v H') {R:V->Hp->Prop}
 (s:∀y dy t1 H1 c1,FInv K Oo c1 t1 σ H1->Stp Oo c H c1 H1->Rep K c1 H1 y dy->h dy t1=some (r,t')->(∀v H' c',FInv K Oo c' t' σ H'->Stp Oo c1 H1 c' H'->Rep K c' H' v r->Q v H')->R y H1):RX K E g σ H R:=by
 obtain ⟨dy,t1,e1,eq⟩:=Ae eq;refine ⟨Oo,c,t,fi,dy,t1,e1,λy H1 c1 f1 s1 ry=>?_⟩
 by_cases hx:AW dy=true
 ·rw [if_pos hx] at eq ⊢
  cases eq
  have:=k y H1 c1 f1 s1 ry;rw [if_pos hx] at this;exact this
 ·rw [if_neg hx] at eq ⊢;obtain ⟨e2,e3⟩:=Mz eq;exact s y dy t1 H1 c1 f1 s1 ry e2 λv H' c' f' s' rv=>Qe e3 (k v H' c' f' (s1.trans s') rv)
def HK (f g:M D)(h:D->D->M D):M D:=bnd f λx=>JQ g λy=>h x y
theorem RX.two {K:PySem.W.Frag}{g:M D}{h:D->D->M D}{R:R2}(s:AZ K R h){σ:L2.St}{H:Hp}{Q:VK}(q:RX K E (HK f g h) σ H Q):tOp R (RE K f) (RX K E g) σ H Q:=by
 obtain ⟨Oo,c,t,fi,r,t',eq,k⟩:=q;obtain ⟨dx,t1,e1,eq⟩:=Ae eq;refine ⟨Oo,c,t,fi,dx,t1,e1,λx H1 c1 f1 s1 rx=>?_⟩;exact RX.bind f1 eq (λv H' c' f' s' rv=>k v H' c' f' (s1.trans s') rv) λy dy t2 H2 c2 f2 s2 ry e2 kk=>s f2 (rx.mono s2.ext) ry e2 kk
theorem Zz {op:Operator}{R:R2}{g:M D}{h:D->D->M D}(ho:OpR X (binaryOp op) R)(s:AZ X.K R h)(ha:PE X a (RE X.K f))(hb:PE X b (RX X.K E g)):PE X (.BinOp a op b pos) (RX X.K E (HK f g h)):=
 AA (OP ho ha hb) λ_ _ _ q=>RX.two s q
def dm (f g:M D)(h:D->D->M D):M D:=JQ f λx=>bnd g λy=>h x y
def da (g:Fn)(f:M D):M D:=JQ f λd t=>match g [d] t.S with
 | some (r,S')=>some (r,{ t with S:=S' })
 | none=>none
theorem Nw (h:PE X e (RX X.K E f)):PS X (.Return (some e) pos) (RSX X.K E (Ao f)):=
 A8 (Hs h) λD σ H z9=>by
  obtain ⟨Oo,c,t,fi,o,t',eq,k⟩:=z9;obtain ⟨d,t1,e1,eq⟩:=Ae eq
  cases eq
  exact ⟨Oo,c,t,fi,d,_,e1,λv H1 c1 f1 s1 rv=>k σ H1 c1 f1 s1 v rv⟩
def Cr (i:Nat)(f:M D):M Out:=bnd f λd=>if AW d=true then ret (.ret d) else bnd (Ay i d) λ_=>ret .next
theorem Nx {i:Nat}{pos':Pos}(hN:X.N.Nodup)(hi:X.N[i]?=some x)(hx:Loc X.env.scope x)(he:PE X e (RX X.K E f))(hs:swapsWith e (some (.Name x pos')) pos.line X.env=pure false:=by rfl)(hf:X.fn x=true\/X.env.scope.names.lookup x=some .local:=by walk_at "h") :
 PS X (.Assign [.Name x pos'] e pos) (RSX X.K E (Cr i f)):=A8 (MH hN hi hx he hs hf) λD σ H z9=>by
 obtain ⟨Oo,c,t,fi,o,t',eq,k⟩:=z9;obtain ⟨d,t1,e1,eq⟩:=Ae eq;refine ⟨Oo,c,t,fi,d,t1,e1,λv H1 c1 f1 s1 rv=>?_⟩
 by_cases hx:AW d=true
 ·rw [if_pos hx] at eq ⊢
  cases eq
  have:=k σ H1 c1 f1 s1 v rv;rw [if_pos hx] at this;exact this
 ·rw [if_neg hx] at eq ⊢
  cases eq
  exact k _ H1 c1 (f1.set rv) s1
def dk (f:M D):M Out:=bnd f λd=>if AW d=true then ret (.ret d) else ret .next
def Of (f:M D)(g:D->M Unit):M Out:=bnd f λd=>if AW d=true then ret (.ret d) else bnd (g d) λ_=>ret .next
theorem Va {tg:Expr}{g:D->M Unit}(he:PE X e (RX X.K E f))(hg:PG X tg (RG X.K g))(hs:swapsWithSole [tg] e pos.line X.env=pure false:=by rfl)(hw:swappedStores [tg] e X.env=pure none:=by rfl)(hp:(assignEach [tg] X.env).map (·.2)=[assign tg X.env]:=by rfl) :
 PS X (.Assign [tg] e pos) (RSX X.K E (Of f g)):=
 A8 (by first | exact Jy he hg hs hw | exact Jy he hg hs hw hp) λD σ H z9=>by
  obtain ⟨Oo,c,t,fi,o,t',eq,k⟩:=z9;obtain ⟨d,t1,e1,eq⟩:=Ae eq;refine ⟨Oo,c,t,fi,d,t1,e1,λv H1 c1 f1 s1 rv=>?_⟩
  by_cases hx:AW d=true
  ·rw [if_pos hx] at eq ⊢
   cases eq
   have:=k σ H1 c1 f1 s1 v rv;rw [if_pos hx] at this;exact this
  ·rw [if_neg hx] at eq ⊢;obtain ⟨u,t2,e2,eq⟩:=Ae eq
   cases eq
   exact ⟨Oo,c1,t1,d,f1,rv,_,e2,λσ2 H2 c2 f2 s2=>k σ2 H2 c2 f2 (s1.trans s2)⟩
theorem SD {f:M Out}(h:PS X st (RSX X.K E f)):PSs X [st] (RSX X.K E f):=HZ h
end
end F2
namespace L2
open PySem PySem.Spec PyProof.Rows PySem.W PySem.Builtin PySem.Builtin.ObjectAttr
structure XGet (K:PySem.W.Frag)(C:Addr):Prop where
 ga:findIn K (.ref C) "__getattribute__" = some (some (.builtin "BaseException.__getattribute__"))
 gt:findIn K (.ref C) "__getattr__" = some none
 mb:mroIn K C (.type "BaseException")=some true
 mo:mroIn K C (.type "object")=some true
 hd:hasDictIn K C=true
section
variable {prog:Program}{w:World}{A:Around}{E:Value->Shared->Prop}{s:Shared}{K:PySem.W.Frag}{x C:Addr}{ox:Obj}{od:Option Obj}{name:Str}{tk:Tok}{Q:Value->Shared->Prop}{R:Result->Shared->Prop}
theorem PN {fill expr:Bool}(X:K.In s.heap)(I:InstAt s.heap x ox C od)(g:XGet K C)
 (h:codeAny (model prog w) A (.call (.builtin "BaseException.__getattribute__") ⟨[.ref x,.str name tk],[]⟩) (λr s'=>match r with | .ok (.ret v)=>wpAny (model prog w) A (handedOut v) Q E s' | _=>False) s) :
 wpAny (model prog w) A (getAttrBy (.ref x) (.str name tk) fill expr) Q E s:=by
 have L0:=I.type (M:=model prog w);have L1:=looks_findIn (M:=model prog w) X g.ga;have L2:=looks_findIn (M:=model prog w) X g.gt;have ne:(onTheHeap (Value.ref C) && Value.builtin "BaseException.__getattribute__" == Value.builtin "object.__getattribute__")=false:=by
  rw [show (Value.builtin "BaseException.__getattribute__" == Value.builtin "object.__getattribute__")=false from by decide +kernel];rfl
 unfold getAttrBy;refine um1 (un6 (L0.here (un6 (L1.here ?_))));show wpAny _ _ (if (onTheHeap (Value.ref C) && Value.builtin "BaseException.__getattribute__" == Value.builtin "object.__getattribute__")=true then _ else _) _ _ _;rw [if_neg (by rw [ne];decide)];unfold getAttrByItsOwn hookBefore;rw [if_pos (show onTheHeap (Value.ref C)=true from rfl)];refine un6 (L2.here (un6 (wpAny_attempt (um1 ?_))));unfold callGetattribute;rw [if_neg (show ¬((expr && onTheHeap (Value.builtin "BaseException.__getattribute__"))=true) from by cases expr <;> decide)];unfold boundAndCalled;refine un6 (wpAny_of_eq (PySem.F.excAttr_ValueError.ga.bind _) (wpAny_call (codeAny_mono h λr s' z=>?_)))
 cases r with
 | error e=>exact z.elim
 | ok f=>cases f <;> first | exact z | exact z.elim
theorem SE (X:K.In s.heap)(I:InstAt s.heap x ox C od)(g:XGet K C)
 (h:wpAny (model prog w) A.in1 («object.__getattribute__» ⟨[.ref x,.str name tk],[]⟩) (λfin s'=>match fin with | .done f=>R (.ok f) s' | .again c'=>c'.quiet=true/\codeAny (model prog w) A c' R s') (λe s'=>R (.error e) s') s) :
 codeAny (model prog w) A (.call (.builtin "BaseException.__getattribute__") ⟨[.ref x,.str name tk],[]⟩) R s:=by
 have ob:Looks (model prog w) s.heap (isInstance (.ref x) (.type "BaseException")) true:=I.type.andThen (looks_mroIn X g.mb);refine codeAny_call_builtin PySem.F.excAttr_ValueError.ga.plain PySem.F.entry_bexc_ga (@check_slot (model prog w) _ _ s "BaseException.__getattribute__" "BaseException" "__getattribute__" (.ref x) [.str name tk] [] _ (by decide +kernel) (by decide +kernel) ob (PySem.F.args_bexc_ga (.ref x) (.str name tk)) h)
theorem SG {v:Value}(X:K.In s.heap)(I:InstAt s.heap x ox C od)(g:XGet K C)(hf:findObj K C od name=some (.value v))(h:R (.ok (.ret v)) s) :
 codeAny (model prog w) A (.call (.builtin "BaseException.__getattribute__") ⟨[.ref x,.str name tk],[]⟩) R s:=by
 refine SE X I g ?_;have L0:=I.type (M:=model prog w);have L1:=looks_find (M:=model prog w) X I hf;refine un6 (un7 (un6 (un7 (un6 (L0.here (un6 (L1.here ?_)))))));exact un7 h
end
end L2
namespace L2
open PySem PySem.Spec PyProof.Rows PySem.W
end L2
namespace F2
open PySem L2 PySem.Spec PySem.W
variable {qx:Bool}
abbrev A9:List Str:=["NoValue", "Short", "Broken"]
structure XM (K:PySem.W.Frag)(mg:Str->Option Value)(P:Addr)(ca:Str->Addr):Prop where
 pm:mg "ParleyError" = some (.ref P)
 pc:XCl K P VE
 ns:∀n∈A9,nsIn K mainGlobals n=some (some (.ref (ca n)))
 ms:∀n∈A9,mg n=some (.ref (ca n))
 cl:∀n∈A9,XCl K (ca n) (.ref P :: VE)
 inj:∀n∈A9,∀m∈A9,ca n=ca m->n=m
 np:∀n∈A9,ca n≠P
 kp:∀n∈A9,keepIn K (.ref (ca n))=true
 gt:∀n∈A9,XGet K (ca n)
 gc:∀n∈A9,findIn K (.ref (ca n)) "__class__" = some (some (.builtin "object.__class__"))
 na:∀n∈A9,findIn K (.ref (ca n)) "at" = some none
 nd:∀n∈A9,findIn K (.ref (ca n)) "side" = some none
noncomputable def D3 (n m:Str):Bool:=m == "ParleyError" || m == "ValueError" || n == m
theorem GO {a b:Addr}{r:List Value}:(Value.ref a :: r).contains (.ref b)=(a == b || r.contains (.ref b)):=by
 rw [List.contains_cons]
 congr 1
 by_cases h:a=b
 ·subst h;simp
 ·rw [beq_eq_false_iff_ne.mpr h,beq_eq_false_iff_ne.mpr (λz:Value.ref b=Value.ref a=>h (Value.ref.inj z).symm)]
theorem WV {b:Addr}:VE.contains (.ref b)=false:=rfl
section
variable {K:PySem.W.Frag}{mg:Str->Option Value}{P:Addr}{ca:Str->Addr}
theorem XM.subE (x:XM K mg P ca){n m:Str}(hn:n∈A9)(hm:m∈A9):(Value.ref (ca n) :: .ref P :: VE).contains (.ref (ca m))=D3 n m:=by
 rw [GO,GO,WV,beq_eq_false_iff_ne.mpr (Ne.symm (x.np m hm)),ul5,ul5];have h1:(m == ("ParleyError" : Str))=false/\(m == ("ValueError" : Str))=false:=by
  simp only [A9,ul3,ui3,or_false] at hm;rcases hm with rfl | rfl | rfl <;> exact ⟨by decide,by decide⟩
 unfold D3;rw [h1.1,h1.2,Bool.false_or,Bool.false_or]
 by_cases h:n=m
 ·subst h;rw [ui7,ui7]
 ·rw [beq_eq_false_iff_ne.mpr h,beq_eq_false_iff_ne.mpr λz=>h (x.inj n hn m hm z)]
theorem XM.of (x:XM K mg P ca){n:Str}{C:Addr}(hn:n∈A9)(h:nsIn K mainGlobals n=some (some (.ref C))):C=ca n:=by
 rw [x.ns n hn] at h;injection h with h;injection h with h;injection h with h
 exact h.symm
end
theorem WO {q1 q2:Bool}{x C C':Addr}{dx dx':Option Addr}(h:XIs q1 x C dx=XIs q2 x C' dx')(e:∃h,XIs q1 x C dx h):C=C'/\dx=dx':=by
 obtain ⟨hh,o,vs,e1,e2,e3,e4⟩:=e;have q:XIs q2 x C' dx' hh:=by rw [<-h];exact ⟨o,vs,e1,e2,e3,e4⟩
 obtain ⟨o',vs',q1,q2,q3,q4⟩:=q;rw [e1] at q1;cases q1
 rw [e2] at q2;cases q2
 exact ⟨rfl,e3.symm.trans q3⟩
section
variable {X:Cx}{e:Expr}{es:List Expr}{pos p pos2:Pos}{E:L2.St->XK}{P:Addr}{ca:Str->Addr}
def de (n:Str)(f:M (List D)):M Out:=bnd f λds=>match ds with
 | [d]=>ret (.ret (.exc n [d]))
 | _=>fail
def XN0 (K:PySem.W.Frag)(C:Addr):Prop:=∃cd,clsIn K C=some cd/\nsIn K cd.ns "__init__" = some none
def Fe (n:Str)(f:M (List D)):M Out:=bnd f λds=>if ds.length<=1000 then ret (.ret (.exc n [])) else fail
theorem KH {n:Str}{f:M (List D)}(x:XM X.K X.mg P ca)(hn:n∈A9)(hf:IB n=[])(xn:XN0 X.K (ca n))(hc:X.calm=true)(hx:FJ qx X E)(hg:Gl X n)(ha:PA X (e :: es) (RA X.K f))
 (hdb:(n == ("__debug__" : Str))=false:=by decide) (h1:AO e=false:=by rfl) (h2:AM es=true:=by rfl):PS X (.Raise (some (.Call (.Name n p) (e :: es) [] pos)) none pos2) (RSX X.K E (Fe n f)):=by
 obtain ⟨cd,hcd,hni⟩:=xn;refine A8 (MG hc (x.cl n hn) hx (VU (x.cl n hn) (x.kp n hn) hcd hni hg (x.ms _ hn) ha hdb (AV h1) (AK h2).1)) λD σ H z9=>?_;obtain ⟨Oo,c,t,fi,o,t',eq,k⟩:=z9;obtain ⟨ds,t1,e1,eq⟩:=Ae eq;refine ⟨Oo,c,t,fi,ds,t1,e1,λvs H1 c1 f1 s1 rvs=>?_⟩
 split at eq
 ·next hl=>
  cases eq
  refine ⟨by rw [rvs.length];exact hl,λy hy=>?_⟩;have f3:=f1.laid (o:=.ext (XIs qx y (ca n) none)) hy;exact k σ _ c1 f3 (s1.trans (f1.stp_laid hy)) (.ref y) (.exc (x.ns _ hn) Aj (f1.s.free hy) (vs:=[]) rfl .nil) y none rfl
 ·cases eq
end
section
variable {X:Cx}{pos p:Pos}{P:Addr}{ca:Str->Addr}{μ:Cf->Hp->D->(V->Hp->Prop)->Prop}
inductive RH (K:PySem.W.Frag)(ca:Str->Addr)(μ:Cf->Hp->D->(V->Hp->Prop)->Prop)(h:D->M Out)(x C:Addr)(dx:Option Addr)(E:Ends)(σ:L2.St)(H:Hp):Prop where
 | mk (Oo:Addr->Prop) (c:Cf) (t:T) (n:Str) (ds:List D) (fi:FInv K Oo c t σ H) (hn:n∈A9) (hC:C=ca n) (rp:Rep K c H (.ref x) (.exc n ds)) (o:Out) (t':T) (e:h (.exc n ds) t=some (o,t')) (k:∀σ' H' c',FInv K Oo c' t' σ' H'->Stp Oo c H c' H'->
   match (generalizing:=false) o with
   | .next=>E.nx σ' H'
   | .brk=>E.bk σ' H'
   | .cont=>E.ct σ' H'
   | .ret r=>μ c' H' r E.rt):RH K ca μ h x C dx E σ H
noncomputable def unE (i:Nat)(t:T):T:={ t with env:=t.env.set i none }
theorem FInv.unset {K:PySem.W.Frag}{Oo:Addr->Prop}{c:Cf}{t:T}{σ:L2.St}{H:Hp}(f:FInv K Oo c t σ H)(i:Nat):FInv K Oo c (unE i t) (σ.set i none) H:=by
 have neq:∀{j:Nat} {x:Sl},(t.env.set i none)[j]?=some (some x)->j≠i/\t.env[j]?=some (some x):=λ{j x} q=>by
  by_cases h:j=i
  ·subst h;rw [ug8] at q
   split at q
   ·split at q
    ·injection q with q;cases q
    ·cases q
   ·next h1=>exact absurd rfl h1
  ·rw [ue0 (Ne.symm h)] at q;exact ⟨h,q⟩
 refine ⟨f.s,by simp [unE,f.len],f.sub,λj e q=>?_,λj ds q=>?_,λj k ds es a q1 q2 q3 q4=>?_⟩
 ·obtain ⟨h,q⟩:=neq q;obtain ⟨u,h1,h2⟩:=f.val j e q;exact ⟨u,by rw [ue0 (Ne.symm h)];exact h1,h2⟩
 ·obtain ⟨h,q⟩:=neq q;obtain ⟨a,vs,h1,h2⟩:=f.own j ds q;exact ⟨a,vs,by rw [ue0 (Ne.symm h)];exact h1,h2⟩
 ·obtain ⟨h,q1⟩:=neq q1;obtain ⟨h',q2⟩:=neq q2;rw [ue0 (Ne.symm h)] at q3;rw [ue0 (Ne.symm h')] at q4;exact f.inj j k ds es a q1 q2 q3 q4
def hAs (n':Str)(i:Nat)(s:M Out)(r:D->M Out):D->M Out:=λe t=>match e with
 | .exc n ds=>if D3 n n'=true then (match s { t with env:=t.env.set i (some (.val (.exc n ds))) } with
   | some (o,t2)=>some (o,unE i t2)
   | none=>none) else r (.exc n ds) t
 | _=>none
def hNo (n':Str)(s:M Out)(r:D->M Out):D->M Out:=λe t=>match e with
 | .exc n ds=>if D3 n n'=true then s t else r (.exc n ds) t
 | _=>none
noncomputable def OD:D->M Out:=λ_ _=>none
theorem Xs:PH qx X [] (RH X.K ca μ OD):=by
 rintro _ _ _ _ _ _ _ _ _ _ _ ⟨_,_,_,_,_,_,_,_,_,_,_,e,_⟩
 cases e
theorem Zs {n' v:Str}{C':Addr}{bm':List Value}{i:Nat}{b₀:Stmt}{suite:List Stmt}{rest:List ExceptHandler}{s:M Out}{r:D->M Out}(x:XM X.K X.mg P ca)(hg:Gl X n')(hm:X.mg n'=some (.ref C'))(c':XCl X.K C' bm')(hs:∀n∈A9,(Value.ref (ca n) :: .ref P :: VE).contains (.ref C')=D3 n n')
 (hN:X.N.Nodup) (hi:X.N[i]?=some v) (hl:X.env.scope.names.lookup v=some .local) (hb:∀x,PSs (X.mark x) (b₀ :: suite) (RSg X.K μ s)) (hr:PH qx X rest (RH X.K ca μ r)) (hdb:(n' == ("__debug__" : Str))=false:=by decide) :
 PH qx X (.ExceptHandler (some (.Name n' p)) (some v) (b₀ :: suite) pos :: rest) (RH X.K ca μ (hAs n' i s r)):=by
 intro pins s0 σ H y C dx T D I o q;refine ZH hg hm c' hN hi hl hb hr hdb pins s0 σ H y C dx T D I o ?_;obtain ⟨Oo,c,t,n,ds,fi,hn,rfl,rv,o1,t',eq,k⟩:=q;refine ⟨_,x.cl n hn,?_⟩;rw [hs n hn];unfold hAs at eq;dsimp only at eq
 by_cases hb':D3 n n'=true
 ·rw [if_pos hb'] at eq ⊢
  cases e1:s { t with env:=t.env.set i (some (.val (.exc n ds))) } with
  | none=>rw [e1] at eq;cases eq
  | some z=>
    obtain ⟨o2,t2⟩:=z;rw [e1] at eq
    cases eq
    refine ⟨Oo,c,_,fi.set rv,o1,t2,e1,λσ' H' c2 f2 s2=>?_⟩;have:=k _ H' c2 (f2.unset i) s2
    cases o1 <;> exact this
 ·rw [if_neg hb'] at eq ⊢;exact ⟨Oo,c,t,n,ds,fi,hn,rfl,rv,o1,t',eq,k⟩
theorem Zt {n':Str}{C':Addr}{bm':List Value}{b₀:Stmt}{suite:List Stmt}{rest:List ExceptHandler}{s:M Out}{r:D->M Out}(x:XM X.K X.mg P ca)(hg:Gl X n')(hm:X.mg n'=some (.ref C'))(c':XCl X.K C' bm')(hs:∀n∈A9,(Value.ref (ca n) :: .ref P :: VE).contains (.ref C')=D3 n n')
 (hb:∀x,PSs (X.mark x) (b₀ :: suite) (RSg X.K μ s)) (hr:PH qx X rest (RH X.K ca μ r)) (hdb:(n' == ("__debug__" : Str))=false:=by decide) :
 PH qx X (.ExceptHandler (some (.Name n' p)) none (b₀ :: suite) pos :: rest) (RH X.K ca μ (hNo n' s r)):=by
 intro pins s0 σ H y C dx T D I o q;refine ZI hg hm c' hb hr hdb pins s0 σ H y C dx T D I o ?_;obtain ⟨Oo,c,t,n,ds,fi,hn,rfl,rv,o1,t',eq,k⟩:=q;refine ⟨_,x.cl n hn,?_⟩;rw [hs n hn];unfold hNo at eq;dsimp only at eq
 by_cases hb':D3 n n'=true
 ·rw [if_pos hb'] at eq ⊢;exact ⟨Oo,c,t,fi,o1,t',eq,λσ' H' c2 f2 s2=>by
   have:=k _ H' c2 f2 s2
   cases o1 <;> exact this⟩
 ·rw [if_neg hb'] at eq ⊢;exact ⟨Oo,c,t,n,ds,fi,hn,rfl,rv,o1,t',eq,k⟩
noncomputable def DB (b:M Out)(h:D->M Out):M Out:=λt=>match b t with
 | some (.ret (.exc n ds),t1)=>if n∈A9 then h (.exc n ds) t1 else none
 | z=>z
theorem Ml {body:List Stmt}{h₀:ExceptHandler}{hs:List ExceptHandler}{b:M Out}{h:D->M Out}(x:XM X.K X.mg P ca)(hμ:∀c H r rt,AW r=false->(∀v,Rep X.K c H v r->rt v H)=μ c H r rt)(h1:X.stack=X.env :: X.outer)(h2:X.env.frame=some X.env.locals)
 (hb:∀(pn:List (Addr×Obj)) (E:L2.St->XK),BZ (CX1 qx X.prog X.w) { X with pn:=pn,xe:=XE qx { X with pn:=pn } E } E->PSs { X with pn:=pn,xe:=XE qx { X with pn:=pn } E } body (RSX X.K E b)) (hh:PH qx X (h₀ :: hs) (RH X.K ca μ h)):PS X (.Try body (h₀ :: hs) [] [] pos) (RSg X.K μ (DB b h)):=
 A8 (Yl h1 h2 (λpn E=>hb pn E (XE.pass (X:={ X with pn:=pn }))) hh) λD σ H z9=>by
  obtain ⟨Oo,c,t,fi,o,t',eq,k⟩:=z9;unfold DB at eq
  cases e1:b t with
  | none=>rw [e1] at eq;cases eq
  | some z=>
    obtain ⟨o1,t1⟩:=z;rw [e1] at eq;refine ⟨Oo,c,t,fi,o1,t1,e1,λσ1 H1 c1 f1 s1=>?_⟩
    cases o1 with
    | next=>cases eq;exact k σ1 H1 c1 f1 s1
    | brk=>cases eq;exact k σ1 H1 c1 f1 s1
    | cont=>cases eq;exact k σ1 H1 c1 f1 s1
    | ret r=>
      intro v rv
      cases hx:AW r with
      | false=>
        rw [if_neg (by decide)];have eq':some (Out.ret r,t1)=some (o,t'):=by cases r <;> first | exact eq | cases hx
        cases eq'
        have q:=k σ1 H1 c1 f1 s1;have q:μ c1 H1 r D.rt:=q;rw [<-hμ _ _ _ _ hx] at q;exact q v rv
      | true=>
        rw [if_pos rfl];intro y dx hv y' C hy' hC hex
        cases rv with
        | @exc q0 x0 C0 dx0 n vs ds g hx0 hA fl rs=>
          cases hv
          cases hy'
          dsimp only at eq
          split at eq
          ·next hn=>
           rw [hx0] at hC;injection hC with hC;injection hC with hC
           obtain ⟨e2,e3⟩:=WO hC.symm hex;have:=x.of hn g;exact ⟨Oo,c1,t1,n,ds,f1,hn,e2.trans this,.exc g hx0 hA fl rs,o,t',eq,λσ' H' c' f' s'=>k σ' H' c' f' (s1.trans s')⟩
          ·cases eq
        | _=>cases hx
end
end F2
namespace F2
open PySem L2 PySem.Spec PySem.W
variable {qx:Bool}
def dE (n:Str):D->M D
 | .exc m _=>if m∈A9 then ret (.bl (D3 m n)) else fail
 | .non=>ret (.bl false)
 | .bl _=>ret (.bl false)
 | .int _=>ret (.bl false)
 | .str _=>ret (.bl false)
 | .lst _=>ret (.bl false)
 | .tup _=>ret (.bl false)
 | .dic=>ret (.bl false)
 | _=>fail
section
variable {X:Cx}{P:Addr}{ca:Str->Addr}{a:Expr}{f:M D}{p pos q:Pos}
def Fv (nm:Str):D->M D
 | .exc n ds=>if n∈A9 then (match ((IB n).zip ds).lookup nm with
   | some d=>ret d
   | none=>fail) else fail
 | _=>fail
theorem Iu {K:PySem.W.Frag}{c:Cf}{H:Hp}{nm:Str}{d:D}:∀{ns:List Str} {vs:List V} {ds:List D},Reps K c H vs ds->(ns.zip ds).lookup nm=some d->∃v,(ns.zip vs).lookup nm=some v/\Rep K c H v d
 | [],_,_,_,e=>by cases e
 | _ :: _,_,_,.nil,e=>by cases e
 | n :: ns,_,_,.cons (v:=v0) (d:=d0) r rs,e=>by
   by_cases h:nm=n
   ·subst h;simp only [List.zip_cons_cons,List.lookup,ui7,ug9] at e ⊢;subst e;exact ⟨v0,rfl,r⟩
   ·have hb:(nm == n)=false:=beq_eq_false_iff_ne.mpr h;simp only [List.zip_cons_cons,List.lookup,hb] at e ⊢;exact Iu rs e
theorem PQ {nm:Str}(x:XM X.K X.mg P ca)(hno:∀n∈A9,findIn X.K (.ref (ca n)) nm=some none)(ha:PE X a (RE X.K f))(hb:attributeBase a nm X.env (eval a X.env)=eval a X.env):PE X (.Attribute a nm pos) (RE X.K (bnd f (Fv nm))):=by
 intro pins s σ H Q I h;obtain ⟨Oo,c0,t,fi,r,t',eq,k⟩:=h;obtain ⟨d,t1,e1,eq⟩:=Ae eq;refine Nj hb (thn (ha pins s σ H (λv H1=>∃c1,FInv X.K Oo c1 t1 σ H1/\Stp Oo c0 H c1 H1/\Rep X.K c1 H1 v d) I ⟨Oo,c0,t,fi,d,t1,e1,λv H1 c1 f1 s1 rv=>⟨c1,f1,s1,rv⟩⟩) λu s1 z9=>?_);obtain ⟨v,H1,I1,rx,c1,f1,st1,rv⟩:=z9
 cases rv with
 | @exc q0 x0 C0 dx0 m vs ds g hx0 hA fl rs=>
   cases (show u=Value.ref x0 from rx)
   unfold Fv at eq;dsimp only at eq
   split at eq
   ·next hm=>
    have hc:=x.of hm g;subst hc
    cases el:((IB m).zip ds).lookup nm with
    | none=>rw [el] at eq;cases eq
    | some d'=>
      rw [el] at eq
      cases eq
      obtain ⟨v',l1,r1⟩:=Iu rs el
      cases dx0 with
      | none=>
        have fl:vs=[]:=fl;subst fl;simp at l1
      | some dd=>
        have hdd:H1 dd=some (.xd ((IB m).zip vs)):=fl.1;obtain ⟨o,vs0,q1,q2,q3,q4,_⟩:=(I1.hok x0 _ hx0).1;have nc:notCls o=true:=by unfold notCls;rw [q4]
        obtain ⟨mA,nA,rA⟩:=(show ObjOk X.prog X.w H1 s1.heap dd (.xd ((IB m).zip vs)) from I1.hok dd _ hdd);obtain ⟨od,ho,hl⟩:=Hb nA;obtain ⟨u',hu,ru⟩:=RelO.some_of (v:=v') (o:=mA nm) (by rw [<-l1];exact rA nm);have IA:InstAt s1.heap x0 o (ca m) (some od):=⟨q1,q2,nc,by rw [q3];exact ho⟩;unfold getAttr;refine un6 (wpAny_mkText ?_);refine PN (s:={ s1 with toks:=s1.toks + 1 }) I1.kIn IA (x.gt m hm) (SG I1.kIn IA (x.gt m hm) (findObj_own (x.gt m hm).hd (hno m hm) rfl (by rw [hl,hu])) ?_);exact handed_on (KI ru) ⟨v',H1,I1.tok _,ru,k v' H1 c1 f1 st1 r1⟩
   ·cases eq
 | _=>cases eq
end
end F2
namespace F2
open PySem L2 PySem.Spec PySem.W
variable {qx:Bool}
def Pn (K:PySem.W.Frag)(P c:Addr):Bool:=Lm K c (.ref P :: VE) && keepIn K (.ref c) && findIn K (.ref c) "__getattribute__" == some (some (.builtin "BaseException.__getattribute__")) && findIn K (.ref c) "__getattr__" == some none && mroIn K c (.type "BaseException") == some true
 && mroIn K c (.type "object") == some true && hasDictIn K c && findIn K (.ref c) "__class__" == some (some (.builtin "object.__class__")) && findIn K (.ref c) "at" == some none && findIn K (.ref c) "side" == some none
structure XOne (K:PySem.W.Frag)(P c:Addr):Prop where
 cl:XCl K c (.ref P :: VE)
 kp:keepIn K (.ref c)=true
 gt:XGet K c
 gc:findIn K (.ref c) "__class__" = some (some (.builtin "object.__class__"))
 na:findIn K (.ref c) "at" = some none
 nd:findIn K (.ref c) "side" = some none
variable {K:PySem.W.Frag}
theorem Kx {P c:Addr}(h:Pn K P c=true):XOne K P c:=by
 unfold Pn at h;simp only [uh8,beq_iff_eq] at h;obtain ⟨⟨⟨⟨⟨⟨⟨⟨⟨h1,h2⟩,h3⟩,h4⟩,h5⟩,h6⟩,h7⟩,h8⟩,h9⟩,h10⟩:=h;exact ⟨.of_in h1,h2,⟨h3,h4,h5,h6,h7⟩,h8,h9,h10⟩
noncomputable def JX (c1 c2 c3:Addr):Str->Addr:=λn=>if n = "NoValue" then c1 else if n = "Short" then c2 else c3
theorem Cl {Q:Str->Prop}(h1:Q "NoValue")(h2:Q "Short")(h3:Q "Broken"):∀n∈A9,Q n:=by
 intro n hn;simp only [A9,ul3,ui3,or_false] at hn;rcases hn with rfl | rfl | rfl <;> assumption
def Pm (K:PySem.W.Frag)(P:Addr)(cs:List Addr):Bool:=Lm K P VE && cs.all (Pn K P)
theorem aI {h:Heap}{mg:Str->Option Value}{P c1 c2 c3:Addr}(X:K.In h)(G:h.Ns mainGlobals mg)(p:nsIn K mainGlobals "ParleyError" = some (some (.ref P)))(a1:nsIn K mainGlobals "NoValue" = some (some (.ref c1)))(a2:nsIn K mainGlobals "Short" = some (some (.ref c2)))(a3:nsIn K mainGlobals "Broken" = some (some (.ref c3)))(q:Pm K P [c1,c2,c3]=true)(nd:[P,c1,c2,c3].Nodup):XM K mg P (JX c1 c2 c3):=by
 unfold Pm at q;simp only [ul6,List.all_nil,Bool.and_true,uh8] at q;obtain ⟨q0,q1,q2,q3⟩:=q;have o1:=Kx q1;have o2:=Kx q2;have o3:=Kx q3;have inj:∀n∈A9,∀m∈A9,JX c1 c2 c3 n=JX c1 c2 c3 m->n=m:=by
  simp only [uj3,ul3,ui3,or_false,not_or,ul0,and_true] at nd;obtain ⟨⟨n1,n2,n3⟩,⟨m12,m13⟩,m23,_⟩:=nd;have h1:JX c1 c2 c3 "NoValue" = c1:=rfl;have h2:JX c1 c2 c3 "Short" = c2:=rfl;have h3:JX c1 c2 c3 "Broken" = c3:=rfl;refine Cl ?_ ?_ ?_ <;> refine Cl ?_ ?_ ?_ <;> intro e <;> first | rfl | (exfalso;rw [h1] at e) | (exfalso;rw [h2] at e) | (exfalso;rw [h3] at e)
  all_goals (first | rw [h1] at e | rw [h2] at e | rw [h3] at e)
  all_goals (first | contradiction | (have e:=e.symm;contradiction))
 refine ⟨mg_of X G p,.of_in q0,Cl a1 a2 a3,Cl (mg_of X G a1) (mg_of X G a2) (mg_of X G a3),Cl o1.cl o2.cl o3.cl,inj,?_,
  Cl o1.kp o2.kp o3.kp,Cl o1.gt o2.gt o3.gt,Cl o1.gc o2.gc o3.gc,Cl o1.na o2.na o3.na,Cl o1.nd o2.nd o3.nd⟩
 simp only [uj3,ul3,ui3,or_false,not_or] at nd;obtain ⟨⟨n1,n2,n3⟩,_⟩:=nd;exact Cl (Ne.symm n1) (Ne.symm n2) (Ne.symm n3)
noncomputable def BP (s:Stmt)(k:Nat):Stmt:=match s with
 | .ClassDef _ _ _ body _ _ _ _ _ _ _=>body.getD k (.Pass ⟨0,0,0,0⟩)
 | _=>.Pass ⟨0,0,0,0⟩
noncomputable def Mo (K:PySem.W.Frag)(C f:Addr):Bool:=match clsIn K C with
 | some cd=>nsIn K cd.ns "__init__" == some (some (.ref f))
 | none=>false
noncomputable def Jv (K:PySem.W.Frag)(C:Addr):Bool:=match clsIn K C with
 | some cd=>nsIn K cd.ns "__init__" == some none
 | none=>false
theorem RJ {C:Addr}(h:Jv K C=true):XN0 K C:=by
 unfold Jv at h
 split at h
 ·next cd e=>exact ⟨cd,e,beq_iff_eq.mp h⟩
 ·cases h
end F2
namespace F2
open PySem L2 PySem.Spec PySem.W
inductive Kd where
 | pl | fr | ex | er
abbrev okK (k:Kd)(P:Program)(w:World)(K:PySem.W.Frag)(mg:Str->Option Value)(base:Heap)(n:Nat)(fa:Addr)(fd:FuncData)(ps:List Str)(f:Fn):Prop:=match k with
 | .pl=>FnOk P w K mg base CX0 n fa fd ps (spF K f)
 | .fr=>FnOk P w K mg base CX0 n fa fd ps (spFF K f)
 | .ex=>FnOk P w K mg base (CX1 true P w) n fa fd ps (spX K f)
 | .er=>FnOk P w K mg base (CX1 false P w) n fa fd ps (spX K f)
section
variable {X:Cx}{e a b:Expr}{pos:Pos}{f g:M D}
theorem Nu {E:XK}(h:PE X e (RE X.K f)):PS X (.Return (some e) pos) (RSg X.K (μX X.K E) (Ao (nxD f))):=
 A8 (Hs h) λD σ H z9=>by
  obtain ⟨Oo,c,t,fi,o,t',eq,k⟩:=z9;obtain ⟨d,t1,e1,eq⟩:=Ae eq
  cases eq
  obtain ⟨e2,e3⟩:=Mz e1;exact ⟨Oo,c,t,fi,d,_,e2,λv H1 c1 f1 s1 rv=>Qe e3 (k σ H1 c1 f1 s1 v rv)⟩
end
theorem Qw {K:PySem.W.Frag}:∀(c:Cf) (H:Hp) (r:D) (rt:V->Hp->Prop),AW r=false->(∀v,Rep K c H v r->rt v H)=μR K c H r rt:=λ_ _ _ _ _=>rfl
theorem XR {K:PySem.W.Frag}{E:XK}:∀(c:Cf) (H:Hp) (r:D) (rt:V->Hp->Prop),AW r=false->(∀v,Rep K c H v r->rt v H)=μX K E c H r rt:=λc H r rt h=>by
 unfold μX;rw [h];rfl
variable {qx:Bool}
section
variable {X:Cx}{P:Addr}{ca:Str->Addr}{a:Expr}{es:List Expr}{f:M D}{p pos q:Pos}{i:Nat}{ns:List Str}
end
end F2
namespace F2
open PySem L2 PySem.Spec SeqAt
end F2
namespace L2
open PySem PySem.Spec PyProof.Rows PySem.W PySem.Builtin PySem.Builtin.ObjectAttr
variable {qx:Bool}
section
variable {prog:Program}{w:World}{A:Around}{s:Shared}{K:PySem.W.Frag}{x C P dx:Addr}{ox:Obj}{od:Option Obj}{R:Result->Shared->Prop}{name:Str}{v:Value}{tk:Tok}{cd:ClassData}
theorem Tk (X:K.In s.heap)(I:InstAt s.heap x ox C od)(hc:clsIn K C=some cd)(hmr:cd.mro=Fo C P)(ha:findIn K (.ref C) name=some none)
 (h:wpAny (model prog w) A.in1 (storeInOwnDict (.ref x) (.ref C) (.str name tk) name v false) (λfin s'=>match fin with | .done f=>R (.ok f) s' | .again c'=>c'.quiet=true/\codeAny (model prog w) A c' R s') (λe s'=>R (.error e) s') s) :
 codeAny (model prog w) A (.call (.builtin "object.__setattr__") ⟨[.ref x,.str name tk,v],[]⟩) R s:=by
 have SF:=PySem.F.store_object;have ob:Looks (model prog w) s.heap (isInstance (.ref x) (.type "object")) true:=I.type.andThen (looks_mroIn X (by unfold mroIn;rw [hc,Option.bind_some,hmr];rfl));refine codeAny_call_builtin SF.slot.plain SF.entry (@check_slot (model prog w) _ _ s "object.__setattr__" "object" "__setattr__" (.ref x) [.str name tk,v] [] _ SF.kind SF.split ob (SF.args (.ref x) (.str name tk) v) ?_);have mr:Looks (model prog w) s.heap (mroOf (.ref C)) (Fo C P):=by rw [<-hmr];exact (looks_clsIn X hc).andThen .now
 rw [osa_eq,refuse_eq];refine un6 (un6 (I.type.here (un6 (mr.here ?_))));rw [Jz];refine un7 (un6 (I.type.here (un6 ((looks_findIn X ha).here ?_))));exact un6 (un7 h)
theorem TR {E:Value->Shared->Prop}{Q:Unit->Shared->Prop}{m:Str->Option Value}{a:Str}{oD:Obj}(X:K.In s.heap)(hx:s.heap.get? x=some ox)(hcl:ox.cls = .ref C)(hno:notCls ox=true)(hod:ox.dict=some dx)(hdx:s.heap.get? dx=some oD)(n1:s.heap.Ns1 dx m)(hm:PySem.Within m [a])(hs:findIn K (.ref C) "__setattr__" = some (some (.builtin "object.__setattr__")))(hc:clsIn K C=some cd)(hmr:cd.mro=Fo C P)(hd:cd.hasDict=true)(ha:findIn K (.ref C) name=some none)
 (h:∀h',(∀b o,b≠dx->s.heap.get? b=some o->h'.get? b=some o)->h'.Ns1 dx (λy=>if y=name then some v else m y)->Q () { s with heap:=h',toks:=s.toks + 2 }) :
 wpAny (model prog w) A (setAttr (.ref x) name v) Q E s:=by
 have I:InstAt s.heap x ox C (some oD):=⟨hx,hcl,hno,by rw [hod];exact hdx⟩;refine set_plain X I hs (Tk (s:={ s with toks:=s.toks + 1 }) X I hc hmr ha ?_);refine un6 (un7 (un6 (un6 (wpAny_loadPart (s:={ s with toks:=s.toks + 1 }) hx ?_))));rw [hod,hcl];refine un6 (Looks.here (s:={ s with toks:=s.toks + 1 }) (looks_clsIn X hc) ?_);rw [hd,if_neg (by decide)];refine un7 ?_;refine un6 (un7 (un6 ?_));refine wpAny_nsSet1 n1 λh' n2 sb=>?_;obtain ⟨oD,esD,epD,hoD,hdD,hcD⟩:=n2.count (PySem.Within.cons name v hm);refine un6 (wpAny_lookBehind hoD (by rw [hdD];exact pastItsLine_dict (um4 hcD (by show 2<=_;decide))) ?_);exact un7 (h h' (λb o hb e=>(sb.2 b hb).trans e) n2)
end
def bw (K:PySem.W.Frag)(P:Addr)(ta tv:TE)(f1 f:Str):TS:=λD σ H=>tv σ H λy H1=>ta σ H1 λx H2=>∃a C tp dx y1,x = .ref a/\H2 a=some (Fz a C tp dx)/\H2 dx=some (.xd [(f1,y1)])/\dx≠a/\XAt K C P f/\D.nx σ (upd H2 dx (.xd [(f1,y1),(f,y)]))
theorem QU {X:Cx}{P:Addr}{o value:Expr}{ta tv:TE}{f1 f:Str}{pos' pos:Pos}(hf:f1≠f)(ha:PE X o ta)(hv:PE X value tv)(hs:swapsWith value (some (.Attribute o f pos')) pos.line X.env=pure false):PS X (.Assign [.Attribute o f pos'] value pos) (bw X.K P ta tv f1 f):=by
 intro pins s σ H D I h;refine plainObj_wpAny_Assign_Attribute (thn (hv pins s σ H _ I h) λu s1 ⟨y,H1,I1,ry,q⟩=>thn (ha pins s1 σ H1 _ I1 q) λov s2 z9=>?_) hs;obtain ⟨x,H2,I2,rx,a,C,tp,dx,y1,ex,ea,ed,ne,c,q2⟩:=z9;subst ex;obtain rfl:ov=Value.ref a:=rx;obtain ⟨cd,c1,c2,c3⟩:=c.cl.cls;have hx:s2.heap.get? a=some { excObj C tp with dict:=some dx }:=(I2.hok a _ ea).1;obtain ⟨m,n1,rm⟩:=(show ObjOk X.prog X.w H2 s2.heap dx (.xd [(f1,y1)]) from I2.hok dx _ ed);obtain ⟨oD,ho,_⟩:=Hb n1;have hw:PySem.Within m [f1]:=λg hg=>by
  by_cases e:g=f1
  ·simp [e]
  ·exfalso;have z:=rm g;have hgb:(g == f1)=false:=beq_eq_false_iff_ne.mpr e;simp only [List.lookup,hgb] at z
   cases hm:m g with
   | none=>exact hg hm
   | some u=>rw [hm] at z;exact z
 refine TR I2.kIn hx rfl rfl rfl ho n1 hw c.set c1 c2 c3 c.no λh' k n=>?_;have na:∀b u,s2.heap.get? b=some u->H2 b=none->b≠dx:=λb u _ z w'=>by rw [w',ed] at z;cases z
 refine ⟨σ,_,I2.un (h':=h') (t':=s2.toks + 2) ⟨λb u e1 e2 _ _=>k b u (na b u e1 e2) e1,λb u e1 e2 _ _=>⟨u.slots,k b u (na b u e1 e2) e1⟩,λb u e1 e2 _=>?_,λb u e1 _=>?_,λb xs e1=>?_,λb o' u e1=>?_,λb ps e1=>⟨#[],?_⟩⟩ λb u e1=>?_,q2⟩
 ·rw [Ah (na b u e1 e2)];exact e2
 ·by_cases hb:b=dx
  ·subst hb;obtain ⟨od',es,ep,e,_⟩:=n;exact ⟨_,e⟩
  ·exact ⟨_,k b u hb e1⟩
 ·rw [Ah (λz=>by rw [z,ed] at e1;cases e1)];exact e1
 ·rw [Ah (λz=>by rw [z,ed] at e1;cases e1)];exact e1
 ·rw [Ah (λz=>by rw [z,ed] at e1;cases e1),e1];simp
 ·by_cases hb:b=dx
  ·subst hb;rw [Aj] at e1;cases e1
   refine ⟨_,n,λg=>?_⟩
   by_cases hg:g=f
   ·subst hg;have hgb:(g == f1)=false:=beq_eq_false_iff_ne.mpr (Ne.symm hf);simp only [List.lookup,hgb,ui7,if_true];exact ry
   ·have hgb:(g == f)=false:=beq_eq_false_iff_ne.mpr hg;have z:=rm g
    by_cases hg1:g=f1
    ·subst hg1;simp only [List.lookup,ui7] at z;simp only [List.lookup,ui7,if_neg hg];exact z
    ·have hgb1:(g == f1)=false:=beq_eq_false_iff_ne.mpr hg1;simp only [List.lookup,hgb1] at z;simp only [List.lookup,hgb,hgb1,if_neg hg];exact z
  ·rw [Ah hb] at e1;refine (I2.hok b u e1).stay (λz v hz q=>k z v ?_ q) (λz q=>?_) λz xs q=>?_
   ·rcases hz with rfl | hz
    ·exact hb
    ·intro w';rw [w',ed] at hz;cases hz
   ·rw [Ah (λz=>by rw [z,ed] at q;cases q)];exact q
   ·rw [Ah (λz=>by rw [z,ed] at q;cases q)];exact q
def Hv (K:PySem.W.Frag)(P:Addr)(a b:Str):Sp:=λvs H Q _=>∃x C tp v u,vs=[.ref x,v,u]/\H x=some (exO x C tp)/\XAt K C P a/\XAt K C P b/\∀dx,H dx=none->dx≠x->Q .non (upd (upd H dx (.xd [(a,v),(b,u)])) x (Fz x C tp dx))
section
variable {X:Cx}{k:Nat}{f C P:Addr}{fd:FuncData}{pins:List (Addr×Obj)}{σ:St}{H:Hp}{s:Shared}{Q:Value->Shared->Prop}{us:List Value}{vs:List V}{a b:Str}{ps:List Str}{v v2:V}{u u2:Value}
theorem OZ (M:XMk X.K C P f)(ha:XAt X.K C P a)(hab:XAt X.K C P b)(F:FnOk X.prog X.w X.K X.mg X.base CX0 k f fd ps (Hv X.K P a b))(hr:Room (k + 1) X.A)(hb:Binds X.K fd ps [])(I:Inv X pins σ H s)(r:RelV v u)(rr:RelV v2 u2)
 (h:∀s' x dx,Inv X pins σ (upd (upd H dx (.xd [(a,v),(b,v2)])) x (.ext (F2.XIs qx x C (some dx)))) s'->H x=none->H dx=none->dx≠x->s.heap.objs.size<=x->XRec true s'.heap x C (some dx) .none->Q (.ref x) s'):wpAny (model X.prog X.w) X.A (call (.ref C) [u,u2]) Q X.xe s:=by
 obtain ⟨nm,q,N,bs,sn,sub,ab,col,dd,k0,k1,k2,k3,k5,hC,hN⟩:=M.cl.obj I.kIn;have hni:s.heap.nsMap N "__init__" = some (.ref f):=by
  obtain ⟨cd,c1,c2⟩:=M.init;refine Jw I.kIn hN ?_;unfold clsIn at c1
  split at c1
  ·next l=>
   cases c1
   have z:=I.kIn _ _ l;rw [hC] at z
   cases z
   exact c2
  ·cases c1
 have I1:Inv X pins σ (upd H (s.heap.objs.size + 1) (exO (s.heap.objs.size + 1) C s.heap.objs.size)) { s with heap:=Dr s.heap C [u,u2] }:=by
  refine I.laid (t':=s.toks) (λb o e=>uc4 _ (uc4 _ e)) (un4 _) (PL ?_);show ((s.heap.push _).push _).get? _=_
  heap_get
 have hx0:=I.hok.fresh (un4 s.heap.objs.size);have r2:Vals [V.ref (s.heap.objs.size + 1),v,v2] [Value.ref (s.heap.objs.size + 1),u,u2]:=.cons rfl (.cons r (.cons rr .nil));have hsp:Hv X.K P a b [V.ref (s.heap.objs.size + 1),v,v2] (upd H (s.heap.objs.size + 1) (exO (s.heap.objs.size + 1) C s.heap.objs.size))
  (λw' H'=>w' = .non/\∃dx,H dx=none/\dx≠s.heap.objs.size + 1/\H'=upd (upd H dx (.xd [(a,v),(b,v2)])) (s.heap.objs.size + 1) (Fz (s.heap.objs.size + 1) C s.heap.objs.size dx)) E0:=by
  refine ⟨_,C,s.heap.objs.size,v,v2,rfl,Aj,ha,hab,λdx h1 h2=>⟨rfl,dx,by rw [Ah h2] at h1;exact h1,h2,?_⟩⟩
  funext b
  by_cases e1:b=s.heap.objs.size + 1
  ·subst e1;rw [Aj,Aj]
  ·by_cases e2:b=dx
   ·subst e2;rw [Ah e1,Ah e1,Aj,Aj]
   ·rw [Ah e1,Ah e1,Ah e2,Ah e2,Ah e1]
 have hl:([Value.ref (s.heap.objs.size + 1),u,u2]++[]).length=ps.length:=by
  have e:=F.len _ _ _ _ hsp;simpa using e
 obtain ⟨hh,g,d,t,os⟩:=s;refine wpAny_call (Mu ua9 (M.cl.tail I.kIn) hC hN hni ((bind_fn I.kIn _ (beq_iff_eq.mp M.fn))) (by show 2<=sizeLine;decide) ?_);refine codeAny_mono (F.run _ X.stack _ _ ⟨[Value.ref (hh.objs.size + 1),u,u2],[]⟩ [Value.ref (hh.objs.size + 1),u,u2] _ _ E0 (hr.make C [u,u2] []) (I1.env0.make C [u,u2] []) (by have:=hb _ [Value.ref (hh.objs.size + 1),u,u2] I1.kIn hl;simpa using this) r2 hsp) λr s' hq'=>?_
 cases r with
 | error e=>exact hq'.elim
 | ok fl=>
   cases fl with
   | ret w'=>
     obtain ⟨v',H',I3,rv,rfl,dx,d1,d2,rfl⟩:=I1.after hq';refine ⟨rv,?_⟩;have hx:=(I3.hok (hh.objs.size + 1) _ Aj).1;have hx:s'.heap.get? (hh.objs.size + 1)=some { excObj C hh.objs.size with dict:=some dx }:=hx;have xr:XRec true s'.heap (hh.objs.size + 1) C (some dx) .none:=⟨_,_,hx,rfl,rfl,rfl,rfl,λ_=>⟨rfl,by show 4 < 6;decide⟩⟩;have I4:=I3.write (x:=hh.objs.size + 1) (e:=hh.objs.size + 1) (o:=.ext (F2.XIs qx (hh.objs.size + 1) C (some dx))) (h':=s'.heap) (t':=s'.toks) (by rw [Aj];trivial) (.inl rfl) (λ_ _ _ z=>z) ⟨_,hx⟩ (Jl xr.to.is);rw [N3] at I4;exact h s' (hh.objs.size + 1) dx I4 hx0 d1 d2 (un4 _) xr
   | next=>exact False.elim hq'
   | brk=>exact False.elim hq'
   | cont=>exact False.elim hq'
end
section
variable {X:Cx}{k:Nat}{f C P:Addr}{fd:FuncData}{a b:Str}{ps:List Str}{n:Str}{p pos:Pos}{e e':Expr}
theorem Yi {t:TA}(M:XMk X.K C P f)(ha:XAt X.K C P a)(hab:XAt X.K C P b)(F:FnOk X.prog X.w X.K X.mg X.base CX0 k f fd ps (Hv X.K P a b))(hr:Room (k + 1) X.A)(hb:Binds X.K fd ps [])(hg:Gl X n)(hm:X.mg n=some (.ref C))(hA:PA X [e,e'] t)
 (hdb:(n == ("__debug__" : Str))=false:=by decide) (h1:starEach [e,e'] X.env=(false,eval e X.env) :: starEach [e'] X.env:=by rfl) (hpl:(backTo pos (starEach [e'] X.env)).any (·.1)=false:=by rfl) :
 PM qx X (.Call (.Name n p) [e,e'] [] pos) C (λσ H Q=>t σ H λvs H1=>∃v u,vs=[v,u]/\∀x dx,H1 x=none->H1 dx=none->dx≠x->Q x (some dx) (upd (upd H1 dx (.xd [(a,v),(b,u)])) x (.ext (F2.XIs qx x C (some dx))))):=by
 intro pins s σ H Q I h;refine wpAny_Call_Name_kw (Co I hg hm ?_ hdb);refine uf6 (h₀:=X.base) I.ok.mod.kin M.kp (thn (hA pos pins s σ H _ I h) λus s1 z9=>?_) h1 hpl;obtain ⟨vs,H1,I1,r,v,u,ev,q⟩:=z9;refine ⟨I1.kIn,?_⟩;subst ev
 cases r with
 | cons r0 rs=>
   cases rs with
   | cons r1 rs=>
     cases rs
     exact OZ M ha hab F hr hb I1 r0 r1 λs' x dx I' hx hdx ne nx rc=>⟨x,some dx,_,rfl,I',Aj,um4 I1.sz nx,rc,q x dx hx hdx ne⟩
end
end L2
namespace F2
open PySem L2 PySem.Spec PySem.W
variable {qx:Bool}
section
variable {X:Cx}{e e':Expr}{pos p pos2:Pos}{E:L2.St->XK}{P:Addr}{ca:Str->Addr}
def XN2 (prog:Program)(w:World)(K:PySem.W.Frag)(mg:Str->Option Value)(base:Heap)(C P:Addr):Prop:=
 ∃(f:Addr) (fd:FuncData) (ps:List Str),XMk K C P f/\XAt K C P "at"/\XAt K C P "side"/\Binds K fd ps []/\FnOk prog w K mg base CX0 1 f fd ps (Hv K P "at" "side")
def C8 (n:Str)(f:M (List D)):M Out:=bnd f λds=>match ds with
 | [d,d']=>ret (.ret (.exc n [d,d']))
 | _=>fail
theorem P4 {f:M (List D)}(x:XM X.K X.mg P ca)(xn:XN2 X.prog X.w X.K X.mg X.base (ca "Broken") P)(hr:L2.Room 2 X.A)(hc:X.calm=true)(hx:FJ qx X E)(hg:Gl X "Broken")(ha:PA X [e,e'] (RA X.K f))
 (h1:AO e=false:=by rfl) (h2:AM [e']=true:=by rfl):PS X (.Raise (some (.Call (.Name "Broken" p) [e,e'] [] pos)) none pos2) (RSX X.K E (C8 "Broken" f)):=by
 obtain ⟨fa,fd,ps,M,A,A2,B,F⟩:=xn;have hn:("Broken" : Str)∈A9:=by decide
 refine A8 (MG hc M.cl hx (Yi M A A2 F hr B hg (x.ms _ hn) ha (by decide) (AV h1) (AK h2).1)) λD σ H z9=>?_;obtain ⟨Oo,c,t,fi,o,t',eq,k⟩:=z9;obtain ⟨ds,t1,e1,eq⟩:=Ae eq;refine ⟨Oo,c,t,fi,ds,t1,e1,λvs H1 c1 f1 s1 rvs=>?_⟩;rcases ds with _ | ⟨d,_ | ⟨d',_ | ⟨_,_⟩⟩⟩
 ·cases eq
 ·cases eq
 ·cases rvs with
  | @cons v0 _ _ _ rv r=>
  cases r with
  | @cons v1 _ _ _ rv1 r=>
  cases r
  cases eq
  refine ⟨_,_,rfl,λy dx hy hdx ne=>?_⟩;have f2:=f1.laid (o:=.xd [("at",v0),("side",v1)]) hdx;have hy2:upd H1 dx (.xd [("at",v0),("side",v1)]) y=none:=by rw [Ah (Ne.symm ne)];exact hy
  have f3:=f2.laid (o:=.ext (XIs qx y (ca "Broken") (some dx))) hy2;have ex:=(f1.stp_laid (o:=.xd [("at",v0),("side",v1)]) hdx).ext.trans (f2.stp_laid (o:=.ext (XIs qx y (ca "Broken") (some dx))) hy2).ext;have s3:=s1.trans ((f1.stp_laid (o:=.xd [("at",v0),("side",v1)]) hdx).trans (f2.stp_laid (o:=.ext (XIs qx y (ca "Broken") (some dx))) hy2));refine k σ _ c1 f3 s3 (.ref y) (.exc (x.ns _ hn) Aj (f2.s.free hy2) ?_ (.cons (rv.mono ex) (.cons (rv1.mono ex) .nil))) y (some dx) rfl;exact ⟨by rw [Ah ne,Aj];rfl,f1.s.free hdx⟩
 ·cases eq
end
def XF2 (K:PySem.W.Frag)(C P:Addr)(qual:Str)(st:Stmt):Prop:=∃(f:Addr) (fd:FuncData),XMk K C P f/\XAt K C P "at"/\XAt K C P "side"/\Binds K fd ["self", "at", "side"] []/\Fun K "__init__" qual st f fd
theorem Zh {K:PySem.W.Frag}{C P f:Addr}{qual:Str}{st:Stmt}{od an:Option Addr}{sl:Array (Option Value)}{oc kV dc pm cd ct:Value}(o:XOne K P C)(i:Mo K C f=true)(hf:isFn K (.ref f)=true)(hs:findIn K (.ref C) "__setattr__" = some (some (.builtin "object.__setattr__")))
 (l:K.lookup f=some ⟨oc,od,.func (PySem.W.fnOf "__init__" qual (DE st) (Bd st) (Al st) .none kV dc pm an cd ct),sl⟩) (c:codeIn K cd qual=true) (k:keepIn K (.ref f)=true)
 (hb:∀(kV doc pm:Value) (an:Option Addr) (cdv ct:Value) (us:List Value),us.length=3->bindArgs (PySem.W.fnOf "__init__" qual (DE st) (Bd st) (Al st) .none kV doc pm an cdv ct) ⟨us,[]⟩=pure ((["self", "at", "side"]:List Str).zip us)):XF2 K C P qual st:=by
 refine ⟨f,_,⟨o.cl,?_,hf,o.kp⟩,⟨o.cl,hs,o.na⟩,⟨o.cl,hs,o.nd⟩,(FO (st:=st) l c k).binds (ps:=["self", "at", "side"]) hb,FO (st:=st) l c k⟩;unfold Mo at i
 split at i
 ·next cd' e=>exact ⟨cd',e,beq_iff_eq.mp i⟩
 ·cases i
theorem SN {prog:Program}{w:World}{K:PySem.W.Frag}{mg:Str->Option Value}{base:Heap}{C P:Addr}{qual:Str}{st:Stmt}{p1 p2 p3 p4 p5 p6 p7 p8:Pos}(hbd:Bd st=[.Assign [.Attribute (.Name "self" p1) "at" p2] (.Name "at" p3) p4,.Assign [.Attribute (.Name "self" p5) "side" p6] (.Name "side" p7) p8])(S:FnScope ["self", "at", "side"] ["self", "at", "side"] (Al st))
 (s1:(Al st).names.lookup ("self" : Str)=some NameKind.local) (s2:(Al st).names.lookup ("at" : Str)=some NameKind.local) (s3:(Al st).names.lookup ("side" : Str)=some NameKind.local) (x:XF2 K C P qual st):XN2 prog w K mg base C P:=by
 obtain ⟨f,fd,M,A,A2,B,F⟩:=x;refine ⟨f,fd,_,M,A,A2,B,F.ok (k:=0) S (λvs H Q E h=>?_) λcdv A' outer s H vs Q E hr h=>?_⟩
 ·obtain ⟨y,C',tp,v,u,rfl,_⟩:=h;rfl
 ·rw [hbd];refine ⟨_,IP (Ur (P:=P) (Cq (i:=0) rfl (.inl s1) (by decide) (by decide)) (Cq (i:=1) rfl (.inl s2) (by decide) (by decide)) rfl) (HZ (QU (P:=P) (f1:="at") (by decide) (Cq (i:=0) rfl (.inl s1) (by decide) (by decide)) (Cq (i:=2) rfl (.inl s3) (by decide) (by decide)) rfl)),?_⟩;obtain ⟨y,C',tp,v,u,rfl,hy,ha,ha2,k⟩:=h;refine ⟨v,rfl,.ref y,rfl,y,C',tp,rfl,hy,ha,λdx h1 h2=>⟨u,rfl,.ref y,rfl,y,C',tp,dx,v,rfl,Aj,by rw [Ah h2,Aj],h2,ha2,?_⟩⟩;have z:=k dx h1 h2;have e:upd (upd (upd H dx (.xd [("at",v)])) y (Fz y C' tp dx)) dx (.xd [("at",v),("side",u)])=upd (upd H dx (.xd [("at",v),("side",u)])) y (Fz y C' tp dx):=by
   funext b
   by_cases e1:b=dx
   ·subst e1;rw [Aj,Ah h2,Aj]
   ·by_cases e2:b=y
    ·subst e2;rw [Ah e1,Aj,Aj]
    ·rw [Ah e1,Ah e2,Ah e1,Ah e2,Ah e1]
  rw [e];exact z
end F2
namespace L2
open PySem PySem.Spec PyProof.Rows PySem.W
end L2
namespace F2
open PySem L2 PySem.Spec
section
variable {X:Cx}{a b:Expr}{pos:Pos}
end
end F2
namespace L2
open PySem PySem.Spec PyProof.Rows PySem.W
theorem KY:entryFor table "proto.unchain" = some Builtin.«proto.unchain»:=entryFor_of_tree (by kernel_rfl)
section
variable {prog:Program}{w:World}{A:Around}{E:Value->Shared->Prop}{env:Env}{K:PySem.W.Frag}{C:Addr}{bm:List Value}{s:Shared}
theorem Pe {x y:Addr}{ox:Obj}{vx:Array Value}{Q:Value->Shared->Prop}(gx:s.heap.get? x=some ox)(dx:ox.data = .fields vx)(x2:vx[2]?=some .none)(h:Q .none s) :
 wpAny (model prog w) A (runValue (.builtin "proto.unchain" ⟨[.ref y,.ref x,.ref x,.bool false],[]⟩)) Q E s:=by
 refine runValue_entry KY ?_;unfold Builtin.«proto.unchain»;refine un6 (un5 gx dx x2 ?_);rw [if_pos (by decide)];refine un6 (un7 (un7 ⟨_,rfl,h⟩))
theorem TF {t c0:Sem Value}{x:Addr}{Q:Flow->Shared->Prop}(c:XCl K C bm)(hh:A.handled=some (.ref x))
 (hc0:∀(s:Shared) (Q:Value->Shared->Prop) (E:Value->Shared->Prop),Q Value.none s->wpAny (model prog w) A c0 Q E s)
 (h:wpAny (model prog w) A t (λv s1=>∃y dy ox vx,v = .ref y/\y≠x/\K.In s1.heap/\XRec true s1.heap y C dy .none/\s1.heap.get? x=some ox/\ox.data = .fields vx/\vx[2]?=some .none/\
   ∀h',XRec false h' y C dy .none->(∀b,b≠y->h'.get? b=s1.heap.get? b)->E v { s1 with heap:=h' }) E s):wpAny (model prog w) A (raiseStmt env (some t) (some c0)) Q E s:=by
 unfold raiseStmt;refine un6 (un8 h (λv s1 q=>?_) λ_ _ z=>z);obtain ⟨y,dy,ox,vx,rfl,ne,X,⟨o,vs,hx,hc,hd,hdt,h1,h2⟩,gx,dx,x2,hE⟩:=q;obtain ⟨h2,h4⟩:=h2 rfl;obtain ⟨nm,q,N,bs,sn,sub,ab,col,dd,k0,k1,k2,k3,k5,hC,_⟩:=c.obj X;have hb:=c.has X;obtain ⟨hp,g,d,tk,os⟩:=s1;refine un6 (um1 (hc0 _ _ _ (un6 (un7 ?_))))
 repeat (first
  | (with_reducible refine wpAny_loadPart_at hx ?_;rw [hc])
  | with_reducible refine wpAny_loadPart_at hC ?_
  | (with_reducible refine wpAny_isSubtype_exc hC ?_;rw [hb])
  | with_reducible refine un5 hx hdt h1 ?_
  | wp_step)
 have nC:C≠y:=by
  rintro rfl;rw [hC] at hx
  cases hx
  cases hdt
 rw [hdt];show wpAny _ _ (if 3 < vs.size then _ else _) _ _ _;rw [if_pos (Nat.lt_of_succ_lt h4)];refine wpAny_update hx ?_;obtain ⟨m1,m2,m3⟩:=Fa hdt (·.setIfInBounds 3 Value.none);have hx1:=ud4 (Obj.mapFields (·.setIfInBounds 3 Value.none)) hx (Obj.isFreed_of_fields m1);refine un6 (wpAny_setField hx1 m1 (by rw [ub7];exact h4) ?_);obtain ⟨n1,n2,n3⟩:=Fa m1 (·.setIfInBounds 4 (Value.bool true));have hx2:=ud4 (Obj.mapFields (·.setIfInBounds 4 (Value.bool true))) hx1 (Obj.isFreed_of_fields n1);have oth:∀b,b≠y->((hp.update y (Obj.mapFields (·.setIfInBounds 3 Value.none))).update y (Obj.mapFields (·.setIfInBounds 4 (Value.bool true)))).get? b=hp.get? b:=λb z=>by
  rw [uc7 _ _ (Ne.symm z),uc7 _ _ (Ne.symm z)]
 have hC2:=(oth C nC).trans hC;have gx2:=(oth x (Ne.symm ne)).trans gx;have hc2:=n2.trans (m2.trans hc);have hd2:=n3.trans (m3.trans hd);have t1:((vs.setIfInBounds 3 Value.none).setIfInBounds 4 (Value.bool true))[1]?=some .none:=by
  rw [ua2 (by decide),ua2 (by decide)];exact h1
 have t4:2 < ((vs.setIfInBounds 3 Value.none).setIfInBounds 4 (Value.bool true)).size:=by
  rw [ub7,ub7];lia
 show wpAny (model prog w) A _ Q E ⟨(hp.update y (Obj.mapFields (·.setIfInBounds 3 Value.none))).update y (Obj.mapFields (·.setIfInBounds 4 (Value.bool true))),g,d,tk,os⟩;generalize (hp.update y (Obj.mapFields (·.setIfInBounds 3 Value.none))).update y (Obj.mapFields (·.setIfInBounds 4 (Value.bool true)))=h3 at hx2 oth hC2 gx2;generalize ((o.mapFields (·.setIfInBounds 3 Value.none)).mapFields (·.setIfInBounds 4 (Value.bool true)))=o2 at hx2 hc2 hd2 n1;generalize ((vs.setIfInBounds 3 Value.none).setIfInBounds 4 (Value.bool true))=vs2 at n1 t1 t4;clear hx1 m1 m2 m3 n2 n3
 repeat (first
  | (with_reducible refine wpAny_loadPart_at hx2 ?_;rw [hc2])
  | with_reducible refine wpAny_loadPart_at hC2 ?_
  | (with_reducible refine wpAny_isSubtype_exc hC2 ?_;rw [hb])
  | with_reducible refine un5 hx2 n1 t1 ?_
  | wp_step)
 unfold raiseNew;refine un6 (wpAny_handled ?_);rw [hh];dsimp only;rw [if_pos (by simpa using Ne.symm ne)];refine un6 (um1 (Pe gx2 dx x2 (un6 ?_)));obtain ⟨z1,z2,z3⟩:=Fa n1 (·.setIfInBounds 2 (Value.ref x));refine wpAny_setField hx2 n1 t4 ?_;have hx3:=ud4 (Obj.mapFields (·.setIfInBounds 2 (Value.ref x))) hx2 (Obj.isFreed_of_fields z1);refine wpAny_throw (hE _ ⟨_,_,hx3,z2.trans hc2,z3.trans hd2,z1,?_,λz=>by cases z⟩ λb hb'=>?_)
 ·rw [ua2 (by decide)];exact t1
 ·rw [uc7 _ _ (Ne.symm hb')];exact oth b hb'
end
section
variable {X:Cx}{pins:List (Addr×Obj)}{σ:St}{H:Hp}{s s':Shared}{qx:Bool}{x C:Addr}{dx T:Option Addr}{fl:Value}
theorem XOn.keep (I:Inv X pins σ H s)(o:XOn qx X pins H s x C dx T fl)(k:∀b,b≠X.env.locals->(∀z c,X.env.cells.lookup z=some c->c≠b)->s'.heap.get? b=s.heap.get? b):XOn qx X pins H s' x C dx T fl:=by
 obtain ⟨ox,vs,gx,cx,dxe,dtx,tbx,xc⟩:=id o.rc;have nl:x≠X.env.locals:=λz=>by have:=o.hx;rw [z,I.free] at this;cases this
 have nc:∀z c,X.env.cells.lookup z=some c->c≠x:=λz c e w=>by
  have:=o.hx;rw [<-w,I.freeC z c e] at this
  cases this
 refine ⟨o.hx,o.nx,⟨ox,vs,(k x nl nc).trans gx,cx,dxe,dtx,tbx,xc⟩,λa e=>?_,o.fo⟩;obtain ⟨z1,z2,z3,⟨y1,y2,y3⟩,ot,ts,gT,dT,t3⟩:=o.tb a e;exact ⟨z1,z2,z3,⟨y1,y2,y3⟩,ot,ts,(k a y1 y2).trans gT,dT,t3⟩
theorem Rx {M:Model}{A:Around}{E:Value->Shared->Prop}{i:Nat}{n:Str}{pos:Pos}{Q:Unit->Shared->Prop}(I:Inv X pins σ H s)(hN:X.N.Nodup)(hi:X.N[i]?=some n)(hk:X.env.scope.names.lookup n=some .local)
 (h:∀s',Inv X pins (σ.set i none) H s'->(∀b,b≠X.env.locals->(∀z c,X.env.cells.lookup z=some c->c≠b)->s'.heap.get? b=s.heap.get? b)->Q () s'):wpAny M A (do bindName X.env n .none;unbindBehindTheSuite X.env n pos) Q E s:=by
 refine un6 (wpAny_bindName (KQ (v:=.non) I hN hi (.inl hk) rfl (λs1 I1 sb1=>?_) (.inr hk)));obtain ⟨a1,sb1,ha1⟩:=sb1;unfold unbindBehindTheSuite;have hiσ:i < σ.length:=by rw [I.len];exact (ub1.mp hi).1
 obtain ⟨m,hn,hl⟩:=id I1.loc;have hcls:(X.env.scope.kind == .class || (X.env.scope.kind == .module && X.env.locals != X.env.globals))=false:=by rw [I.ok.kind];rfl
 obtain ⟨u0,_,lk⟩:=hl i n .non hi (by rw [uc3 hiσ]) (.inl hk);have hv:m n=some u0:=by
  rcases lk with ⟨_,e⟩ | ⟨k,_⟩
  ·exact e
  ·have k:X.env.scope.names.lookup n=some .cell\/X.env.scope.names.lookup n=some .free:=k;rw [hk] at k;rcases k with k | k <;> cases k
 refine wpAny_onRaise (wpAny_unbindName_local hk hn hv hcls λh' u hn' hs=>?_);have cne:=I1.cne;have tracked:HOk X.prog X.w H h':=λb ob e=>by
  refine (I1.hok b ob e).stay (λc w' hc q=>(hs.2 c ?_).trans q) (λ_ q=>q) λ_ _ q=>q;rintro rfl;rcases hc with rfl | hc
  ·rw [I1.free] at e;cases e
  ·rw [I1.free] at hc;cases hc
 have far:∀b o,X.s₀.heap.get? b=some o->b≠X.env.locals:=λb o e=>um3 (uf2 (um2 e) I1.ok.above);refine h _ ⟨I1.ok,I1.os,I1.bare,⟨λb o e n hb hx=>?_,λb o e n hb hx=>?_,I1.base.free,λb o e hx=>?_,I1.base.tups,I1.base.frzs,I1.base.tbls⟩,⟨_,hn',λj y v' e1 e2 e3=>?_⟩,λy c e=>?_,I1.free,I1.freeC,λp hp=>?_,tracked,by simpa using I.len⟩ λb hb hc=>?_
 ·exact (hs.2 b (far b o e)).trans (I1.base.keep b o e n hb hx)
 ·obtain ⟨sl,e1⟩:=I1.base.slot b o e n hb hx;exact ⟨sl,(hs.2 b (far b o e)).trans e1⟩
 ·obtain ⟨o',e1⟩:=I1.base.there b o e hx;exact ⟨o',(hs.2 b (far b o e)).trans e1⟩
 ·by_cases hj:j=i
  ·subst hj;rw [uc3 hiσ] at e2
   cases e2
  ·rw [ue0 (Ne.symm hj)] at e2;obtain ⟨u',r',q⟩:=hl j y v' e1 (by rw [ue0 (Ne.symm hj)];exact e2) e3;refine ⟨u',r',?_⟩;rcases q with ⟨k,e⟩ | ⟨k,c,e,z⟩
   ·refine .inl ⟨k,?_⟩;have:y≠n:=λe=>hj (Gp hN e1 (e ▸ hi));simp [this,e]
   ·exact .inr ⟨k,c,e,z.sameBut hs (cne y c e)⟩
 ·obtain ⟨w',z⟩:=I1.cell y c e;exact ⟨w',z.sameBut hs (cne y c e)⟩
 ·obtain ⟨e,n,ne,nf,d⟩:=I1.pin p hp;exact ⟨(hs.2 p.1 ne).trans e,n,ne,nf,d⟩
 ·rw [hs.2 b hb];refine sb1.2 b ?_;rintro rfl;rcases ha1 with z | z
  ·exact hb z
  ·exact hc _ _ z rfl
end
def HF (X:Cx)(E:St->XK):Prop:=∀(pins:List (Addr×Obj)) (σ:St) (H:Hp) (s:Shared) (x C:Addr) (dx T:Option Addr) (fl:Value),Inv X pins σ H s->XOn false X pins H s x C dx T fl->E σ (.ref x) dx H->X.xe (.ref x) s
theorem XE.raisesT {X:Cx}{E:St->XK}:HF (X.wish (XE false X E)) E:=λpins σ H s x C dx T fl I o q=>⟨pins,σ,H,x,C,dx,T,fl,rfl,I.unwish,⟨o.hx,o.nx,o.rc,o.tb,o.fo⟩,q⟩
section
variable {X:Cx}{n v:Str}{C' C2:Addr}{bm' bm2:List Value}{p pos p2:Pos}{e cN:Expr}{rest:List ExceptHandler}{t:St->Hp->(Addr->Option Addr->Hp->Prop)->Prop}{tr:Addr->Addr->Option Addr->TS}{i:Nat}{E:St->XK}
def bF (K:PySem.W.Frag)(C':Addr)(i:Nat)(t:St->Hp->(Addr->Option Addr->Hp->Prop)->Prop)(E:St->XK)(tr:Addr->Addr->Option Addr->TS):Addr->Addr->Option Addr->TS:=λx C dx D σ H=>∃bm,XCl K C bm/\
 if (Value.ref C :: bm).contains (.ref C')=true then t (σ.set i (some (.ref x))) H (λy dy H1=>y≠x/\H1 x=some (.ext (F2.XIs true x C dx))/\E ((σ.set i (some (.ref x))).set i none) (.ref y) dy H1) else tr x C dx D σ H
theorem ZJ (h1:X.stack=X.env :: X.outer)(h2:X.env.frame=some X.env.locals)(hg:Gl X n)(hm:X.mg n=some (.ref C'))(c':XCl X.K C' bm')(hN:X.N.Nodup)(hi:X.N[i]?=some v)(hl:X.env.scope.names.lookup v=some .local)
 (c2:XCl X.K C2 bm2) (hp:∀x,PM false (X.mark x) e C2 t) (hx:HF X E)
 (hz:∀(A:Around) (s:Shared) (Q:Value->Shared->Prop) (E:Value->Shared->Prop),Q Value.none s->wpAny (model X.prog X.w) A (eval cN X.env) Q E s)
 (hr:PH true X rest tr) (hdb:(n == ("__debug__" : Str))=false:=by decide):PH true X (.ExceptHandler (some (.Name n p)) (some v) [.Raise (some e) (some cN) p2] pos :: rest) (bF X.K C' i t E tr):=by
 intro pins s σ H x C dx T D I o ⟨bm,c,q⟩;have Im:=I.mark x;refine wpAny_handleBy_cons (codeAny_handlers_test (Co Im hg hm ?_ hdb)) (by intro z;cases z)
 refine IF c c' I.kIn o.rc ?_
 cases hc:(Value.ref C :: bm).contains (.ref C') with
 | false=>
   rw [hc,if_neg (by decide)] at q;exact hr pins s σ H x C dx T D I o q
 | true=>
   rw [hc,if_pos rfl] at q;refine codeAny_handlers_suite_as ?_;refine DK none I o (.inl rfl) λh1' I1 o1=>?_;refine Fh (v:=.ref x) I1 hN hi (.inl hl) rfl (λs2 I2=>?_) (.inr hl);refine wpAny_execs_cons ?_;rw [arm_exec_Raise];refine un6 (wpAny_standAt ?_);refine TF (x:=x) c2 rfl (λs Q E h=>un6 (hz _ _ _ _ (un6 (wpAny_standAt (un7 h))))) ?_;refine un6 (un8 (hp x pins s2 _ H _ (I2.mark x) q) (λw' s3 z9=>?_) λ_ _ z=>z.elim);obtain ⟨y,dy,H1,e1,I3,hy,ny,r,ne,hxx,q1⟩:=z9;subst e1;have J3:=I3.unmark I.ok;obtain ⟨ox,vx,gx,_,_,dtx,xc⟩:=(I3.hok x _ hxx).1;refine un6 (wpAny_standAt (un7 ⟨y,dy,ox,vx,rfl,ne,I3.kIn,r,gx,dtx,(xc rfl).1,λh' r' kp=>?_⟩));obtain ⟨o1',o2',o3'⟩:=J3.newT (un2 _);have J4:=J3.left hy (J3.hok.fresh (un2 _)) ny (um4 J3.sz (un2 _)) (ch:=[y]) (h':=h') ⟨λb u hb _ e=>(kp b (by simpa using hb)).trans e,λb u hb e=>⟨u.slots,(kp b (by simpa using hb)).trans e⟩⟩ (λb hb=>.inl (by simpa using hb)) r'.is o2' o1' o3';have o4:XOn false X pins H1 { s3 with heap:=h' } y C2 dy none .none:=⟨hy,ny,r',(λa e=>by cases e),.inl rfl⟩;refine Fc I3.ok.frames J4 h1 h2 o4 λh5 a J5 o5=>?_;refine Rx J5 hN hi hl λs6 J6 k6=>?_;have o6:=o5.keep J5 k6;obtain ⟨oy,vy,gy,_,_,dty,tby,_⟩:=id o6.rc;unfold PySem.passOn;refine un6 (un5 gy dty tby ?_);rw [if_neg (show ¬((Value.ref a == Value.none)=true) from by intro z;cases z)]
   rw [h2];refine un6 (DK (some X.env.locals) J6 o6 (.inr rfl) λh7 J7 o7=>wpAny_throw ?_);refine Fc I3.ok.frames J7 h1 h2 o7 λh8 a8 J8 o8=>?_;obtain ⟨oz,vz,gz,_,_,dtz,tbz,_⟩:=id o8.rc;show cameBackBy _ _ _ _ _ _;unfold cameBackBy;refine un6 (un5 gz dtz tbz ?_);rw [if_neg (show ¬((Value.ref a8 == Value.none)=true) from by intro z;cases z)]
   rw [h2];exact DK (some X.env.locals) J8 o8 (.inr rfl) λh9 J9 o9=>hx pins _ H1 _ y C2 dy _ _ J9 o9 q1
end
structure FnOkH (P:Program)(w:World)(K:PySem.W.Frag)(mg:Str->Option Value)(base:Heap)(CX:CXT)(k:Nat)(f:Addr)(fd:FuncData)(ps:List Str)(sp:Sp):Prop where
 len:∀vs H Q E,sp vs H Q E->vs.length=ps.length
 run:∀(z:Addr) (A:Around) (outer:List Env) (s:Shared) (H:Hp) (args:Args) (us:List Value) (vs:List V) (Q:VK) (E:XK),Room k A->Env0 P w K mg base A outer s H->BindsTo s fd args (ps.zip us)->Vals vs us->sp vs H Q E->
  codeAny (model P w) (A.mark (some (.ref z))) (.call (.ref f) args) (CR CX outer P w H s Q E) s
theorem Xu {CX:CXT}{P:Program}{w:World}{K:PySem.W.Frag}{mg:Str->Option Value}{base:Heap}{k:Nat}{f:Addr}{name qual:Str}{params:Arguments}{body:List Stmt}{scope:Scope}{dV kV doc pm cdv ct oc:Value}{an od:Option Addr}
 {osl:Array (Option Value)} {N ps:List Str} {sp:Sp} (lk:K.lookup f=some ⟨oc,od,.func (PySem.W.fnOf name qual params body scope dV kV doc pm an cdv ct),osl⟩) (hcd:PySem.W.codeIn K cdv qual=true) (S:FnScope N ps scope)
 (len:∀vs H Q E,sp vs H Q E->vs.length=ps.length)
 (hbody:∀(z:Addr) (A:Around) (outer:List Env) (s:Shared) (H:Hp) (vs:List V) (Q:VK) (E:XK),Room k (A.deeper (envOfC qual scope s.heap.objs.size f cdv))->sp vs H Q E->
   ∃t,PSs ((CY CX P w K mg base N qual scope f cdv A outer s H E).mark z) body t/\t { nx:=λ_ H'=>Q .non H',rt:=Q } (start N vs) H) :
 FnOkH P w K mg base CX (k + 1) f (PySem.W.fnOf name qual params body scope dV kV doc pm an cdv ct) ps sp:=by
 refine ⟨len,λz A outer s H args us vs Q E hr e0 hb r hsp=>?_⟩;have hl:=len _ _ _ _ hsp;have KX:K.In s.heap:=e0.mod.kin.keeps λb o e=>(e0.bs b o e).1;have lim:s.heap.NoLimit:=e0.mod.nolimit.keeps λb o e=>(e0.bs b o e).1;have hkind:∀y∈ps.zip us,scope.names.lookup y.1=some .local\/(scope.names.lookup y.1=some .cell/\((cellsFrom (s.heap.objs.size + 1) scope.names []).lookup y.1).isSome=true):=λz9 hy=>by
  obtain ⟨n,v⟩:=z9;rcases S.par n (uj4 hy).1 with q | q
  ·exact .inl q
  ·exact .inr ⟨q,uc5 _ _ _ (.inl q)⟩
 refine codeAny_call_function (A:=A.mark (some (.ref z))) hr.depth (KX _ _ lk) rfl S.co S.gen rfl (PySem.W.codeRec_of KX hcd) (hb _ _ _ _ ?_);refine wpAny_newFunctionEnv_cells S.kind hkind λenv he s1 x=>?_;subst he;refine ⟨lim.keeps x.toInCall.keep,codeAny_func ?_⟩;obtain ⟨t,ht,hq⟩:=hbody z A outer s H vs Q E (hr.deeper _) hsp;have I:Inv (CY CX P w K mg base N qual scope f cdv A outer s H E) [] (start N vs) H s1:=KJ S hr.hd e0 hl r x;refine un8 (ht [] s1 (start N vs) H _ (I.mark z) hq) (λfl s' hs=>?_) λe s' hs=>hs.elim;have fin:∀{σ':St} {H':Hp} {v:V} {u:Value},Inv ((CY CX P w K mg base N qual scope f cdv A outer s H E).mark z) [] σ' H' s'->RelV v u->Q v H'->CE outer P w H s Q u s':=
  λ{σ' H' v u} J rv q=>⟨v,H',J.os,J.bare,J.base,J.hok,rv,q⟩
 cases fl with
 | ret u=>
   obtain ⟨v,σ',H',J,rv,q⟩:=hs;exact fin J rv q
 | next=>
   obtain ⟨σ',H',J,q⟩:=hs;exact fin (v:=V.non) (u:=Value.none) J rfl q
 | brk=>
   obtain ⟨_,_,_,q⟩:=hs;exact False.elim q
 | cont=>
   obtain ⟨_,_,_,q⟩:=hs;exact False.elim q
theorem Fun.okH {P:Program}{w:World}{K:PySem.W.Frag}{mg:Str->Option Value}{base:Heap}{x qual:Str}{st:Stmt}{f:Addr}{fd:FuncData}{N ps:List Str}{k:Nat}{sp:Sp}(F:Fun K x qual st f fd)(S:FnScope N ps (Al st))(len:∀vs H Q E,sp vs H Q E->vs.length=ps.length)
 (hbody:∀(cdv:Value) (z:Addr) (A:Around) (outer:List Env) (s:Shared) (H:Hp) (vs:List V) (Q:VK) (E:XK),Room k (A.deeper (envOfC qual (Al st) s.heap.objs.size f cdv))->sp vs H Q E->
   ∃t,PSs ((CY CX0 P w K mg base N qual (Al st) f cdv A outer s H E).mark z) (Bd st) t/\t { nx:=λ_ H'=>Q .non H',rt:=Q } (start N vs) H):FnOkH P w K mg base CX0 (k + 1) f fd ps sp:=by
 obtain ⟨oc,od,kV,doc,pm,an,cdv,ct,osl,rfl,lk,hcd⟩:=F.ex;exact Xu lk hcd S len λz A outer s H vs Q E hr hsp=>hbody cdv z A outer s H vs Q E hr hsp
section
variable {qx:Bool}{X:Cx}{k:Nat}{f C P:Addr}{fd:FuncData}{pins:List (Addr×Obj)}{σ:St}{H:Hp}{s:Shared}{Q:Value->Shared->Prop}{us:List Value}{vs:List V}{a b:Str}{ps:List Str}{v v2:V}{u u2:Value}{n:Str}{p pos:Pos}{e e':Expr}
theorem Na {z:Addr}(M:XMk X.K C P f)(ha:XAt X.K C P a)(hab:XAt X.K C P b)(F:FnOkH X.prog X.w X.K X.mg X.base CX0 k f fd ps (Hv X.K P a b))(hr:Room (k + 1) X.A)(hb:Binds X.K fd ps [])(I:Inv (X.mark z) pins σ H s)(r:RelV v u)(rr:RelV v2 u2)
 (h:∀s' x dx,Inv (X.mark z) pins σ (upd (upd H dx (.xd [(a,v),(b,v2)])) x (.ext (F2.XIs qx x C (some dx)))) s'->H x=none->H dx=none->dx≠x->s.heap.objs.size<=x->XRec true s'.heap x C (some dx) .none->Q (.ref x) s'):wpAny (model X.prog X.w) (X.mark z).A (call (.ref C) [u,u2]) Q (X.mark z).xe s:=by
 obtain ⟨nm,q,N,bs,sn,sub,ab,col,dd,k0,k1,k2,k3,k5,hC,hN⟩:=M.cl.obj I.kIn;have hni:s.heap.nsMap N "__init__" = some (.ref f):=by
  obtain ⟨cd,c1,c2⟩:=M.init;refine Jw I.kIn hN ?_;unfold clsIn at c1
  split at c1
  ·next l=>
   cases c1
   have z:=I.kIn _ _ l;rw [hC] at z
   cases z
   exact c2
  ·cases c1
 have I1:Inv (X.mark z) pins σ (upd H (s.heap.objs.size + 1) (exO (s.heap.objs.size + 1) C s.heap.objs.size)) { s with heap:=Dr s.heap C [u,u2] }:=by
  refine I.laid (t':=s.toks) (λb o e=>uc4 _ (uc4 _ e)) (un4 _) (PL ?_);show ((s.heap.push _).push _).get? _=_
  heap_get
 have hx0:=I.hok.fresh (un4 s.heap.objs.size);have r2:Vals [V.ref (s.heap.objs.size + 1),v,v2] [Value.ref (s.heap.objs.size + 1),u,u2]:=.cons rfl (.cons r (.cons rr .nil));have hsp:Hv X.K P a b [V.ref (s.heap.objs.size + 1),v,v2] (upd H (s.heap.objs.size + 1) (exO (s.heap.objs.size + 1) C s.heap.objs.size))
  (λw' H'=>w' = .non/\∃dx,H dx=none/\dx≠s.heap.objs.size + 1/\H'=upd (upd H dx (.xd [(a,v),(b,v2)])) (s.heap.objs.size + 1) (Fz (s.heap.objs.size + 1) C s.heap.objs.size dx)) E0:=by
  refine ⟨_,C,s.heap.objs.size,v,v2,rfl,Aj,ha,hab,λdx h1 h2=>⟨rfl,dx,by rw [Ah h2] at h1;exact h1,h2,?_⟩⟩
  funext b
  by_cases e1:b=s.heap.objs.size + 1
  ·subst e1;rw [Aj,Aj]
  ·by_cases e2:b=dx
   ·subst e2;rw [Ah e1,Ah e1,Aj,Aj]
   ·rw [Ah e1,Ah e1,Ah e2,Ah e2,Ah e1]
 have hl:([Value.ref (s.heap.objs.size + 1),u,u2]++[]).length=ps.length:=by
  have e:=F.len _ _ _ _ hsp;simpa using e
 obtain ⟨hh,g,d,t,os⟩:=s;refine wpAny_call (Mu ua9 (M.cl.tail I.kIn) hC hN hni ((bind_fn I.kIn _ (beq_iff_eq.mp M.fn))) (by show 2<=sizeLine;decide) ?_);refine codeAny_mono (F.run z _ X.stack _ _ ⟨[Value.ref (hh.objs.size + 1),u,u2],[]⟩ [Value.ref (hh.objs.size + 1),u,u2] _ _ E0 (hr.make C [u,u2] []) (Env0.make (A:=X.A) ⟨I1.env0.frames,I1.env0.mod,I1.env0.bs,I1.env0.bsz,I1.env0.funs,I1.env0.frf,I1.env0.hok,I1.env0.bare⟩ C [u,u2] []) (by have:=hb _ [Value.ref (hh.objs.size + 1),u,u2] I1.kIn hl;simpa using this) r2 hsp) λr s' hq'=>?_
 cases r with
 | error e=>exact hq'.elim
 | ok fl=>
   cases fl with
   | ret w'=>
     obtain ⟨v',H',I3,rv,rfl,dx,d1,d2,rfl⟩:=I1.after hq';refine ⟨rv,?_⟩;have hx:=(I3.hok (hh.objs.size + 1) _ Aj).1;have hx:s'.heap.get? (hh.objs.size + 1)=some { excObj C hh.objs.size with dict:=some dx }:=hx;have xr:XRec true s'.heap (hh.objs.size + 1) C (some dx) .none:=⟨_,_,hx,rfl,rfl,rfl,rfl,λ_=>⟨rfl,by show 4 < 6;decide⟩⟩;have I4:=I3.write (x:=hh.objs.size + 1) (e:=hh.objs.size + 1) (o:=.ext (F2.XIs qx (hh.objs.size + 1) C (some dx))) (h':=s'.heap) (t':=s'.toks) (by rw [Aj];trivial) (.inl rfl) (λ_ _ _ z=>z) ⟨_,hx⟩ (Jl xr.to.is);rw [N3] at I4;exact h s' (hh.objs.size + 1) dx I4 hx0 d1 d2 (un4 _) xr
   | next=>exact False.elim hq'
   | brk=>exact False.elim hq'
   | cont=>exact False.elim hq'
theorem VW {z:Addr}{t:TA}(M:XMk X.K C P f)(ha:XAt X.K C P a)(hab:XAt X.K C P b)(F:FnOkH X.prog X.w X.K X.mg X.base CX0 k f fd ps (Hv X.K P a b))(hr:Room (k + 1) X.A)(hb:Binds X.K fd ps [])(hg:Gl (X.mark z) n)(hm:X.mg n=some (.ref C))(hA:PA (X.mark z) [e,e'] t)
 (hdb:(n == ("__debug__" : Str))=false:=by decide) (h1:starEach [e,e'] X.env=(false,eval e X.env) :: starEach [e'] X.env:=by rfl) (hpl:(backTo pos (starEach [e'] X.env)).any (·.1)=false:=by rfl) :
 PM qx (X.mark z) (.Call (.Name n p) [e,e'] [] pos) C (λσ H Q=>t σ H λvs H1=>∃v u,vs=[v,u]/\∀x dx,H1 x=none->H1 dx=none->dx≠x->Q x (some dx) (upd (upd H1 dx (.xd [(a,v),(b,u)])) x (.ext (F2.XIs qx x C (some dx))))):=by
 intro pins s σ H Q I h;refine wpAny_Call_Name_kw (Co I hg hm ?_ hdb);refine uf6 (h₀:=X.base) I.ok.mod.kin M.kp (thn (hA pos pins s σ H _ I h) λus s1 z9=>?_) h1 hpl;obtain ⟨vs,H1,I1,r,v,u,ev,q⟩:=z9;refine ⟨I1.kIn,?_⟩;subst ev
 cases r with
 | cons r0 rs=>
   cases rs with
   | cons r1 rs=>
     cases rs
     exact Na (X:=X) (z:=z) M ha hab F hr hb I1 r0 r1 λs' x dx I' hx hdx ne nx rc=>⟨x,some dx,_,rfl,I',Aj,um4 I1.sz nx,rc,q x dx hx hdx ne⟩
end
end L2
namespace F2
open PySem L2 PySem.Spec PySem.W
section
variable {X:Cx}{pos p p2 p3 p4:Pos}{P:Addr}{ca:Str->Addr}{E:XK}{e e' cN:Expr}
def RV (prog:Program)(w:World)(K:PySem.W.Frag)(mg:Str->Option Value)(base:Heap)(C P:Addr):Prop:=
 ∃(f:Addr) (fd:FuncData) (ps:List Str),XMk K C P f/\XAt K C P "at"/\XAt K C P "side"/\Binds K fd ps []/\FnOkH prog w K mg base CX0 1 f fd ps (Hv K P "at" "side")
theorem Zu {n' v:Str}{C':Addr}{bm':List Value}{i:Nat}{rest:List ExceptHandler}{f:M (List D)}{r:D->M Out}(x:XM X.K X.mg P ca)(xn:RV X.prog X.w X.K X.mg X.base (ca "Broken") P)(h1:X.stack=X.env :: X.outer)(h2:X.env.frame=some X.env.locals)(hr:L2.Room 2 X.A)
 (hg:Gl X n') (hm:X.mg n'=some (.ref C')) (c':XCl X.K C' bm') (hs:∀n∈A9,(Value.ref (ca n) :: .ref P :: VE).contains (.ref C')=D3 n n')
 (hN:X.N.Nodup) (hi:X.N[i]?=some v) (hl:X.env.scope.names.lookup v=some .local) (hx:HF X (λ_=>E)) (hgB:Gl X "Broken") (ha:∀x,PA (X.mark x) [e,e'] (RA X.K f))
 (hz:∀(A:Around) (s:Shared) (Q:Value->Shared->Prop) (E:Value->Shared->Prop),Q Value.none s->wpAny (model X.prog X.w) A (eval cN X.env) Q E s)
 (hrest:PH true X rest (RH X.K ca (μX X.K E) r)) (hdb:(n' == ("__debug__" : Str))=false:=by decide) (hs1:AO e=false:=by rfl) (hs2:AM [e']=true:=by rfl) :
 PH true X (.ExceptHandler (some (.Name n' p)) (some v) [.Raise (some (.Call (.Name "Broken" p3) [e,e'] [] p4)) (some cN) p2] pos :: rest) (RH X.K ca (μX X.K E) (hAs n' i (C8 "Broken" f) r)):=by
 obtain ⟨fa,fd,ps,M,A,A2,B,F⟩:=xn;have hnB:("Broken" : Str)∈A9:=by decide
 intro pins s0 σ H y C dx T D I o q;refine ZJ h1 h2 hg hm c' hN hi hl M.cl (λz=>VW M A A2 F hr B hgB (x.ms _ hnB) (ha z) (by decide) (AV hs1) (AK hs2).1) hx hz hrest hdb pins s0 σ H y C dx T D I o ?_;obtain ⟨Oo,c,t,n,ds,fi,hn,rfl,rv,o1,t',eq,k⟩:=q;refine ⟨_,x.cl n hn,?_⟩;rw [hs n hn];unfold hAs at eq;dsimp only at eq
 by_cases hb':D3 n n'=true
 ·rw [if_pos hb'] at eq ⊢
  cases e1:C8 "Broken" f { t with env:=t.env.set i (some (.val (.exc n ds))) } with
  | none=>rw [e1] at eq;cases eq
  | some z=>
    obtain ⟨o2,t2⟩:=z;rw [e1] at eq
    cases eq
    obtain ⟨es,t1,e2,e1⟩:=Ae e1;have hny:¬c.A y:=by cases rv with | exc _ _ hA _ _=>exact hA
    refine ⟨Oo,c,_,fi.set rv,es,t1,e2,λvs H1 c1 f1 s1 rvs=>?_⟩;rcases es with _ | ⟨d,_ | ⟨d',_ | ⟨_,_⟩⟩⟩
    ·cases e1
    ·cases e1
    ·cases rvs with
     | @cons v0 _ _ _ r0 rs=>
     cases rs with
     | @cons v1 _ _ _ r1 rs=>
     cases rs
     cases e1
     refine ⟨_,_,rfl,λu du hu hdu ne=>?_⟩;have hy1:H1 y=some (.ext (XIs true y (ca n) dx)):=s1.ext.keep _ _ o.hx hny;have nyu:y≠u:=λz=>by rw [z,hu] at hy1;cases hy1
     have nyd:y≠du:=λz=>by rw [z,hdu] at hy1;cases hy1
     have f2:=f1.laid (o:=.xd [("at",v0),("side",v1)]) hdu;have hu2:upd H1 du (.xd [("at",v0),("side",v1)]) u=none:=by rw [Ah (Ne.symm ne)];exact hu
     have f3:=f2.laid (o:=.ext (XIs false u (ca "Broken") (some du))) hu2;have ex:=(f1.stp_laid (o:=.xd [("at",v0),("side",v1)]) hdu).ext.trans (f2.stp_laid (o:=.ext (XIs false u (ca "Broken") (some du))) hu2).ext;have s3:=s1.trans ((f1.stp_laid (o:=.xd [("at",v0),("side",v1)]) hdu).trans (f2.stp_laid (o:=.ext (XIs false u (ca "Broken") (some du))) hu2));refine ⟨Ne.symm nyu,by rw [Ah nyu,Ah nyd];exact hy1,?_⟩;refine k _ _ c1 (f3.unset i) s3 (.ref u) (.exc (x.ns _ hnB) Aj (f2.s.free hu2) ?_ (.cons (r0.mono ex) (.cons (r1.mono ex) .nil))) u (some du) rfl;exact ⟨by rw [Ah ne,Aj];rfl,f1.s.free hdu⟩
    ·cases e1
 ·rw [if_neg hb'] at eq ⊢;exact ⟨Oo,c,t,n,ds,fi,hn,rfl,rv,o1,t',eq,k⟩
end
theorem Qf {prog:Program}{w:World}{K:PySem.W.Frag}{mg:Str->Option Value}{base:Heap}{C P:Addr}{qual:Str}{st:Stmt}{p1 p2 p3 p4 p5 p6 p7 p8:Pos}(hbd:Bd st=[.Assign [.Attribute (.Name "self" p1) "at" p2] (.Name "at" p3) p4,.Assign [.Attribute (.Name "self" p5) "side" p6] (.Name "side" p7) p8])(S:FnScope ["self", "at", "side"] ["self", "at", "side"] (Al st))
 (s1:(Al st).names.lookup ("self" : Str)=some NameKind.local) (s2:(Al st).names.lookup ("at" : Str)=some NameKind.local) (s3:(Al st).names.lookup ("side" : Str)=some NameKind.local) (x:XF2 K C P qual st):RV prog w K mg base C P:=by
 obtain ⟨f,fd,M,A,A2,B,F⟩:=x;refine ⟨f,fd,_,M,A,A2,B,F.okH (k:=0) S (λvs H Q E h=>?_) λcdv z A' outer s H vs Q E hr h=>?_⟩
 ·obtain ⟨y,C',tp,v,u,rfl,_⟩:=h;rfl
 ·rw [hbd];refine ⟨_,IP (Ur (P:=P) (Cq (i:=0) rfl (.inl s1) (by decide) (by decide)) (Cq (i:=1) rfl (.inl s2) (by decide) (by decide)) rfl) (HZ (QU (P:=P) (f1:="at") (by decide) (Cq (i:=0) rfl (.inl s1) (by decide) (by decide)) (Cq (i:=2) rfl (.inl s3) (by decide) (by decide)) rfl)),?_⟩;obtain ⟨y,C',tp,v,u,rfl,hy,ha,ha2,k⟩:=h;refine ⟨v,rfl,.ref y,rfl,y,C',tp,rfl,hy,ha,λdx h1 h2=>⟨u,rfl,.ref y,rfl,y,C',tp,dx,v,rfl,Aj,by rw [Ah h2,Aj],h2,ha2,?_⟩⟩;have z:=k dx h1 h2;have e:upd (upd (upd H dx (.xd [("at",v)])) y (Fz y C' tp dx)) dx (.xd [("at",v),("side",u)])=upd (upd H dx (.xd [("at",v),("side",u)])) y (Fz y C' tp dx):=by
   funext b
   by_cases e1:b=dx
   ·subst e1;rw [Aj,Ah h2,Aj]
   ·by_cases e2:b=y
    ·subst e2;rw [Ah e1,Aj,Aj]
    ·rw [Ah e1,Ah e2,Ah e1,Ah e2,Ah e1]
  rw [e];exact z
end F2
namespace L2
open PySem PySem.Spec PyProof.Rows
section
variable {prog:Program}{w:World}{A:Around}{E:Value->Shared->Prop}{s:Shared}
variable {I:Addr}{fp wr:List Addr}{G:Array GenState->Array GenState->Prop}{n:Nat}{P:Nat->Value->Prop}{St:Nat->Shared->Prop}
def cZ (prog:Program)(w:World)(h:Heap)(no:List Addr)(k:Key)(x v:Value):Prop:=∃(p:Addr) (o:Obj) (kv:Value) (q:Nat),v = .ref p/\p∉no/\h.get? p=some o/\o.cls = .type "tuple"/\o.data = .seq #[kv,x] q/\(BA prog w).is k kv=true
end
section
variable {X:Cx}
end
end L2
namespace F2
open PySem L2 PySem.Spec PyProof.Rows
section
variable {X:Cx}{pos:Pos}{e:Expr}
end
end F2
namespace L2
open PySem PySem.Spec PyProof.Rows
def Yu (neg:Bool):R2:=λx y H Q=>∃a kvs k,x = .str k/\y = .ref a/\H a=some (.dK kvs)/\Q (.bl (if neg then !(Do kvs (Sum.inr k:Key)).isSome else (Do kvs (Sum.inr k:Key)).isSome)) H
section
variable {X:Cx}
theorem XZ (hu:X.A.units + 64 < cLine):OpR X (compareOp .In) (Yu false):=by
 intro pins s σ H x y v u Q I rx ry h;obtain ⟨a,kvs,k,rfl,rfl,e,q⟩:=h
 cases ry
 exact aY (by lia) I (DGet.k (k:=(Sum.inr k:Key)) e) rx λs' I'=>⟨.bl _,H,I',rfl,q⟩
theorem Ol:Cj X (.type "dict") (λxs H Q=>∃(p:Addr) (kvs:List (Key×V)),xs=[.ref p]/\H p=some (.dK kvs)/\∀l,H l=none->Q (.ref l) (upd H l (.dK kvs))):=by
 intro pins s σ H xs us0 Q I r h;obtain ⟨p,kvs,rfl,e,q⟩:=h;obtain ⟨u,rfl,rx⟩:=EE r
 cases rx
 obtain ⟨hz,hp,vs,rel,dd⟩:=Lc I.hok e;refine kt_call_dict hp dd (by rw [<-rel.length];exact hz) λh' hD sb=>?_;have nm:(s.heap.objs.size == sysModules)=false:=by
  have:=I.big;rw [beq_eq_false_iff_ne];exact um5 this
 have hk:∀b o,s.heap.get? b=some o->h'.get? b=some o:=λb o eb=>by
  rw [sb.2 b (um3 (um2 eb))];exact uc4 _ eb
 exact ⟨.ref s.heap.objs.size,_,I.laid (t':=s.toks) hk (un2 _) (L9 hz nm rel hD),rfl,q _ (I.hok.fresh (un2 _))⟩
end
end L2
namespace F2
open PySem L2 PySem.Spec PyProof.Rows
def inS (neg:Bool):D->D->M D
 | .str k,.obj n=>λt=>match t.S[n]? with
   | some (.dct kvs)=>some (.bl (if neg then !(AU kvs (.inr k)).isSome else (AU kvs (.inr k)).isSome),t)
   | _=>none
 | _,_=>fail
def HJ:List D->M D
 | [.obj n]=>λt=>match t.S[n]? with
   | some (.dct kvs)=>some (.obj t.S.length,{ t with S:=t.S++[.dct kvs] })
   | _=>none
 | _=>fail
section
variable {K:PySem.W.Frag}
theorem Wd {neg:Bool}:AZ K (Yu neg) (inS neg):=λ{Oo c t σ H x y dx dy r t' Q} f rx ry eq k=>by
 unfold inS at eq
 split at eq
 ·next z n=>
  cases rx
  cases ry with
  | @obj a kk hk=>
    split at eq
    ·next kvs es=>
     cases eq
     obtain ⟨us,g1,g2⟩:=f.s.obs _ a _ hk es;refine ⟨a,us,z,rfl,rfl,g1,?_⟩;rw [g2.has];exact k _ H c f .refl (.bl _)
    ·cases eq
 ·cases eq
end
section
variable {X:Cx}{pos:Pos}{e:Expr}
theorem Si {f:M (List D)}{p:Pos}(hg:Gl X "dict")(hm:X.mg "dict" = none)(ha:PA X [e] (RA X.K f))(h1:AO e=false:=by rfl) :
 PE X (.Call (.Name "dict" p) [e] [] pos) (RE X.K (fB f HJ)):=
 AA (Ho Ol hg hm (by decide +kernel) ha (by decide) (by decide) (AV h1) rfl) λσ H Q z9=>by
  obtain ⟨Oo,c,t,fi,r,t',eq,k⟩:=z9;obtain ⟨as,t1,e1,eq⟩:=Ae eq;unfold HJ at eq
  split at eq
  ·next n=>
   split at eq
   ·next kvs es=>
    cases eq
    refine ⟨Oo,c,t,fi,_,_,e1,λvs H1 c1 f1 s1 rv=>?_⟩;obtain ⟨v,rfl,rw1⟩:=Df rv
    cases rw1 with
    | @obj a kk hk=>
    obtain ⟨us,g1,g2⟩:=f1.s.obs _ a _ hk es;refine ⟨a,us,rfl,g1,λl hnl=>?_⟩;obtain ⟨c2,f2,s2,eo⟩:=f1.newObj (o:=.dct kvs) (u:=.dK us) hnl λc' H' ex hu=>⟨_,hu,g2.mono ex⟩;exact k _ _ c2 f2 (s1.trans s2) (.obj eo)
   ·cases eq
  ·cases eq
end
end F2
namespace F2
open PySem L2 PySem.Spec PySem.W
theorem U6 {P:Program}{w:World}{K:PySem.W.Frag}{mg:Str->Option Value}{base:Heap}{x qual:Str}{st:Stmt}{fa:Addr}{fd:FuncData}{N ps:List Str}{k n m:Nat}{g:M Out}(e1:ps.length=n)(e2:N.length=m)(F:Fun K x qual st fa fd)(S:FnScope N ps (Al st))
 (hb:∀(cdv:Value) (A:Around) (outer:List Env) (s:Shared) (H:Hp) (E:XK),L2.Room k (A.deeper (PyProof.Rows.envOfC qual (Al st) s.heap.objs.size fa cdv))->
   BZ (CX1 false P w) (cxX false P w K mg base N qual (Al st) fa cdv A outer s H E) (λ_=>E)->FJ false (cxX false P w K mg base N qual (Al st) fa cdv A outer s H E) (λ_=>E)->
   PassesOwn (model P w) (cxX false P w K mg base N qual (Al st) fa cdv A outer s H E).A (cxX false P w K mg base N qual (Al st) fa cdv A outer s H E).env (cxX false P w K mg base N qual (Al st) fa cdv A outer s H E).xe->
   HF (cxX false P w K mg base N qual (Al st) fa cdv A outer s H E) (λ_=>E)->
   PSs (cxX false P w K mg base N qual (Al st) fa cdv A outer s H E) (Bd st) (RSg K (μX K E) g)):FnOk P w K mg base (CX1 false P w) (k + 1) fa fd ps (spX K (fnOf n m g)):=
 Nq e1 e2 F S λcdv A outer s H E hr h1 h2 h3=>hb cdv A outer s H E hr h1 h2 h3 XE.raisesT
theorem Vi {M:Model}{env:Env}{j:Nat}{pos:Pos}:∀(A:Around) (s:Shared) (Q:Value->Shared->Prop) (E:Value->Shared->Prop),Q Value.none s->wpAny M A (eval (.Constant .none j pos) env) Q E s:=λA s Q E h=>un7 h
section
variable {X:Cx}
end
def CM (K:PySem.W.Frag):Prop:=∀n∈JY,∀C,nsIn K mainGlobals n=some (some (.ref C))->Cls K C/\∀f∈atN,NoAttr K C f
def Fd (f:Str)(v:D):List (Str×D)->List (Str×D)
 | []=>[(f,v)]
 | (g,x) :: r=>if g=f then (g,v) :: r else (g,x) :: Fd f v r
section
variable {K:PySem.W.Frag}{c:Cf}{H:Hp}
theorem FldR.len:∀{us:List (Str×V)} {fs:List (Str×D)},FldR K c H us fs->us.length=fs.length
 | _,_,.nil=>rfl
 | _,_,.cons _ t=>by rw [uh4,uh4,FldR.len t]
theorem FldR.look {f:Str}{d:D}:∀{us:List (Str×V)} {fs:List (Str×D)},FldR K c H us fs->fs.lookup f=some d->∃v,us.lookup f=some v/\Rep K c H v d
 | _,_,.nil,e=>by cases e
 | (g,x) :: us,(g',y) :: fs,.cons ⟨h1,h2⟩ t,e=>by
   have h1:g=g':=h1;subst h1
   by_cases q:(f == g)=true
   ·simp only [List.lookup,q] at e ⊢
    cases e
    exact ⟨_,rfl,h2⟩
   ·have q:(f == g)=false:=by simpa using q
    simp only [List.lookup,q] at e ⊢;exact FldR.look t e
theorem FldR.none {f:Str}:∀{us:List (Str×V)} {fs:List (Str×D)},FldR K c H us fs->(∀p∈fs,p.1≠f)->us.lookup f=none
 | _,_,.nil,_=>rfl
 | (g,x) :: us,(g',y) :: fs,.cons ⟨h1,h2⟩ t,e=>by
   have h1:g=g':=h1;subst h1;have q:(f == g)=false:=by
    have:=e (g,y) (.head _);simpa using λz:f=g=>this z.symm
   simp only [List.lookup,q];exact FldR.none t λp hp=>e p (.tail _ hp)
theorem FldR.put {f:Str}{v:V}{d:D}(r:Rep K c H v d):∀{us:List (Str×V)} {fs:List (Str×D)},FldR K c H us fs->FldR K c H (CG f v us) (Fd f d fs)
 | _,_,.nil=>.cons ⟨rfl,r⟩ .nil
 | (g,x) :: us,(g',y) :: fs,.cons ⟨h1,h2⟩ t=>by
   have h1:g=g':=h1;subst h1;show FldR K c H (if g=f then (g,v) :: us else (g,x) :: CG f v us) (if g=f then (g,d) :: fs else (g,y) :: Fd f d fs)
   by_cases q:g=f
   ·rw [if_pos q,if_pos q];exact .cons ⟨rfl,r⟩ t
   ·rw [if_neg q,if_neg q];exact .cons ⟨rfl,h2⟩ (FldR.put r t)
theorem FldR.mono {c':Cf}{H':Hp}(e:Ext c H c' H'){us:List (Str×V)}{fs:List (Str×D)}(h:FldR K c H us fs):FldR K c' H' us fs:=Paired.mapP h λ_ _ z=>⟨z.1,z.2.mono e⟩
theorem NO {f:Str}{v:D}(hf:f∈atN):∀{fs:List (Str×D)},(∀p∈fs,p.1∈atN)->∀p∈Fd f v fs,p.1∈atN
 | [],_=>λp hp=>by rw [show Fd f v []=[(f,v)] from rfl,uf9] at hp;subst hp;exact hf
 | (g,x) :: r,h=>λp hp=>by
   rw [show Fd f v ((g,x) :: r)=(if g=f then (g,v) :: r else (g,x) :: Fd f v r) from rfl] at hp
   split at hp
   ·rcases ul3.mp hp with e | e
    ·subst e;exact h (g,x) (.head _)
    ·exact h p (.tail _ e)
   ·rcases ul3.mp hp with e | e
    ·subst e;exact h (g,x) (.head _)
    ·exact NO hf (λp hp=>h p (.tail _ hp)) p e
end
def ES {α:Type}(d:D)(h:Nat->Str->List (Str×D)->M α):M α:=λt=>match d with
 | .obj k=>match t.S[k]? with
   | some (.ins n fs)=>h k n fs t
   | _=>none
 | _=>none
theorem GZ {α:Type}{d:D}{h:Nat->Str->List (Str×D)->M α}{t:T}{z:α×T}(e:ES d h t=some z):∃k n fs,d = .obj k/\t.S[k]?=some (.ins n fs)/\h k n fs t=some z:=by
 cases d with
 | obj k=>
   rw [show ES (.obj k) h t=(match t.S[k]? with | some (.ins n fs)=>h k n fs t | _=>none) from rfl] at e
   cases es:t.S[k]? with
   | none=>rw [es] at e;cases e
   | some o=>
     rw [es] at e
     cases o with
     | ins n fs=>exact ⟨k,n,fs,rfl,es,e⟩
     | _=>cases e
 | _=>cases e
def D8 (f:Str)(a:M D):M D:=bnd a λd=>ES d λ_ _ fs t=>(fs.lookup f).map λv=>(v,t)
def D2 (f:Str)(gv ga:M D):M Out:=bnd gv λv=>bnd ga λd=>ES d λk n fs t=>if fs.length < 1000 then some (.next,{ t with S:=t.S.set k (.ins n (Fd f v fs)) }) else none
def Ld (n:Str)(g:Fn)(f:M (List D)):M D:=bnd f λds t=>match g (.obj t.S.length :: ds) (t.S++[.ins n []]) with
 | some (.non,S')=>some (.obj t.S.length,{ t with S:=S' })
 | _=>none
def BX (n:Str)(g:Fn)(o:M D)(f:M (List D)):M D:=bnd o λd=>ES d λ_ n' _=>if n'=n then bnd f λds t=>match g (d :: ds) t.S with
 | some (r,S')=>some (r,{ t with S:=S' })
 | none=>none else fail
theorem FS {K:PySem.W.Frag}{c:Cf}{H:Hp}{v:V}{k:Nat}(h:Rep K c H v (.obj k)):∃a,v = .ref a/\c.ι[k]?=some a:=by
 cases h with
 | obj e=>exact ⟨_,rfl,e⟩
end F2
namespace L2
open PySem PySem.Spec PySem.W PyProof.Rows
section
variable {X:Cx}{CX:CXT}{k:Nat}{f C:Addr}{fd:FuncData}{ps:List Str}{sp:Sp}{E:St->XK}{x m:Str}{p pos apos:Pos}{e o:Expr}{es:List Expr}{ta:TE}{t:TA}
theorem NT {pins:List (Addr×Obj)}{σ:St}{H:Hp}{s:Shared}{Q:VK}{us:List Value}{vs:List V}(F:FnOk X.prog X.w X.K X.mg X.base CX k f fd ps sp)(hr:Room k X.A)(hb:Binds X.K fd ps [])(hx:BZ CX X E)
 (I:Inv X pins σ H s) (r:Vals vs us) (h:sp vs H Q (E σ)):wpAny (model X.prog X.w) X.A (call (.ref f) us) (EP X pins σ Q) X.xe s:=by
 have hl:(us++[]).length=ps.length:=by rw [uj2,<-r.length];exact F.len _ _ _ _ h
 refine wpAny_call (codeAny_mono (F.run X.A X.stack s H ⟨us,[]⟩ us vs Q (E σ) hr I.env0 (by have:=hb s us I.kIn hl;rwa [uj2] at this) r h) λr s' hq=>?_)
 cases r with
 | error e=>exact hx pins σ H s e s' I hq
 | ok fl=>
   cases fl with
   | ret u=>exact I.after hq
   | next=>exact False.elim hq
   | brk=>exact False.elim hq
   | cont=>exact False.elim hq
def YW (C:Addr)(m:Str)(sp:Sp)(E:St->XK)(ta:TE)(t:TA):TE:=λσ H Q=>ta σ H λx H1=>∃a dx fs,x = .ref a/\H1 a=some (.ins C dx fs)/\fs.lookup m=none/\
 t σ H1 λvs H2=>sp (x :: vs) H2 Q (E σ)
abbrev D6 (X:Cx)(o:Expr)(m:Str)(es:List Expr)(apos pos:Pos)(pl:Sem Bool):Prop:=eval (.Call (.Attribute o m apos) es [] pos) X.env=(do
 let ov <-eval o X.env
 standAt apos.atName
 let (f,first) <-holding [ov] (getMethod ov m pl)
 callWith pos f first (backTo pos (starEach es X.env)) (backToKw pos (keywordEach [] X.env)))
theorem Tt {pl:Sem Bool}(he:PE X o ta)(c:Cls X.K C)(hm:Meth X.K C m f)(F:FnOk X.prog X.w X.K X.mg X.base CX k f fd ps sp)(hr:Room k X.A)(hb:Binds X.K fd ps [])(hx:BZ CX X E)(ha:PA X (e :: es) t)
 (hst:starEach (e :: es) X.env=(false,eval e X.env) :: starEach es X.env) (hpl:(backTo pos (starEach es X.env)).any (·.1)=false) (ht:D6 X o m (e :: es) apos pos pl) :
 PE X (.Call (.Attribute o m apos) (e :: es) [] pos) (YW C m sp E ta t):=by
 intro pins s σ H Q I h;refine ud2 (pl:=pl) (thn (he pins s σ H _ I h) λu s1 z9=>?_) ht;obtain ⟨x,H1,I1,rx,a,dx,fs,ex,ea,l,q⟩:=z9;subst ex;obtain rfl:u=Value.ref a:=rx;refine Gi I1 ea c hm l ?_;refine uf6 (first:=[.ref a]) (h₀:=X.base) I.ok.mod.kin hm.kp (thn (ha pos pins s1 σ H1 _ I1 q) λus s2 z9=>?_) hst hpl;obtain ⟨vs,H2,I2,r,q2⟩:=z9;refine ⟨I2.kIn,?_⟩;exact NT (us:=.ref a :: us) (vs:=.ref a :: vs) F hr hb hx I2 (.cons rfl r) q2
structure ByCls (K:PySem.W.Frag)(C:Addr)(m:Str)(f:Addr):Prop where
 ga:specialIn K (.ref C) "__getattribute__" = some (some (.builtin "type.__getattribute__"))
 rd:readsIn K C (.type "type")=true
 at_:(match findCls K (.ref C) (.type "type") m with | some (.val (.ref g))=>g == f | _=>false)=true
 kp:keepIn K (.ref f)=true
theorem ByCls.found {K:PySem.W.Frag}{C f:Addr}{m:Str}(b:ByCls K C m f):findCls K (.ref C) (.type "type") m=some (.val (.ref f)):=by
 have q:=b.at_
 split at q
 ·next e=>rw [e];rw [beq_iff_eq.mp q]
 ·cases q
theorem Tm {pl:Sem Bool}(F:FnOk X.prog X.w X.K X.mg X.base CX k f fd ps sp)(hr:Room k X.A)(hg:Gl X x)(hm:X.mg x=some (.ref C))(bc:ByCls X.K C m f)(hb:Binds X.K fd ps [])(hx:BZ CX X E)(ha:PA X (e :: es) t)
 (hdb:(x == ("__debug__" : Str))=false) (hst:starEach (e :: es) X.env=(false,eval e X.env) :: starEach es X.env) (hpl:(backTo pos (starEach es X.env)).any (·.1)=false) (ht:D6 X (.Name x p) m (e :: es) apos pos pl) :
 PE X (.Call (.Attribute (.Name x p) m apos) (e :: es) [] pos) (Rn sp E t):=by
 intro pins s σ H Q I h;refine ud2 (pl:=pl) (Co I hg hm ?_ hdb) ht;refine method_cls I.kIn bc.ga (cls_value I.kIn bc.rd bc.found rfl ?_);have I0:=I.tok (s.toks + 1);refine uf6 (first:=[]) (h₀:=X.base) I.ok.mod.kin bc.kp (thn (ha pos pins _ σ H _ I0 h) λus s2 z9=>?_) hst hpl;obtain ⟨vs,H2,I2,r,q2⟩:=z9;refine ⟨I2.kIn,?_⟩;exact NT (us:=us) (vs:=vs) F hr hb hx I2 r q2
end
end L2
namespace F2
open PySem L2 PySem.Spec PySem.W
variable {n:Str}{h:Fn}{pl:Sem Bool}
section
variable {X:Cx}{e o a value:Expr}{es:List Expr}{pos pos' apos p:Pos}{f:Str}{g gv ga:M D}{fl:M (List D)}{C:Addr}
theorem Xg (cm:CM X.K)(hf:f∈atN)(he:PE X e (RE X.K g))(hb:attributeBase e f X.env (eval e X.env)=eval e X.env):PE X (.Attribute e f pos) (RE X.K (D8 f g)):=
 AA (X8 he hb) λσ H Q z9=>by
  obtain ⟨Oo,c,t,fi,r,t',eq,kk⟩:=z9;obtain ⟨d,t1,e1,eq⟩:=Ae eq;obtain ⟨k,n,fs,rfl,es,eq⟩:=GZ eq;obtain ⟨y,e2,e3⟩:=uc8.mp eq
  cases e3
  refine ⟨Oo,c,t,fi,.obj k,_,e1,λv H1 c1 f1 s1 rv=>?_⟩;obtain ⟨b,rfl,hk⟩:=FS rv;obtain ⟨⟨hn,hat⟩,C,dx,us,g1,g2,g3⟩:=f1.s.obs k b _ hk es;obtain ⟨w,l1,l2⟩:=g3.look e2;exact ⟨b,C,dx,us,w,rfl,g2,(cm n hn C g1).1,(cm n hn C g1).2 f hf,l1,kk w H1 c1 f1 s1 l2⟩
theorem Xx {μ:Cf->Hp->D->(V->Hp->Prop)->Prop}(cm:CM X.K)(hf:f∈atN)(ha:PE X o (RE X.K ga))(hv:PE X value (RE X.K gv))(hs:swapsWith value (some (.Attribute o f pos')) pos.line X.env=pure false:=by rfl) :
 PS X (.Assign [.Attribute o f pos'] value pos) (RSg X.K μ (D2 f gv ga)):=
 A8 (Yj ha hv hs) λD σ H z9=>by
  obtain ⟨Oo,c,t,fi,r,t',eq,kk⟩:=z9;obtain ⟨d,t1,e1,eq⟩:=Ae eq;obtain ⟨d2,t2,e2,eq⟩:=Ae eq;obtain ⟨k,n,fs,rfl,es,eq⟩:=GZ eq
  split at eq
  ·next hl=>
   cases eq
   refine ⟨Oo,c,t,fi,d,t1,e1,λv H1 c1 f1 s1 rv=>⟨Oo,c1,t1,f1,.obj k,t2,e2,λx H2 c2 f2 s2 rx=>?_⟩⟩;obtain ⟨b,rfl,hk⟩:=FS rx;obtain ⟨⟨hn,hat⟩,C,dx,us,g1,g2,g3⟩:=f2.s.obs k b _ hk es;refine ⟨b,C,dx,us,rfl,g2,(cm n hn C g1).1,(cm n hn C g1).2 f hf,by rw [g3.len];exact hl,?_⟩;obtain ⟨f3,s3⟩:=f2.wrObj (o:=.ins n (Fd f d fs)) (u:=.ins C dx (CG f v us)) hk λc' H' ext hu=>⟨⟨hn,NO hf hat⟩,C,dx,_,g1,hu,(FldR.put (rv.mono s2.ext) g3).mono ext⟩;exact kk σ _ c2 f3 ((s1.trans s2).trans s3)
  ·cases eq
theorem Qu {ds:List D}{t:T}{r:D}{t':T}(e:(match h (.obj t.S.length :: ds) (t.S++[.ins n []]) with | some (.non,S')=>some (.obj t.S.length,{ t with S:=S' }) | _=>none:Option (D×T))=some (r,t')) :
 ∃S',h (.obj t.S.length :: ds) (t.S++[.ins n []])=some (.non,S')/\r = .obj t.S.length/\t' = { t with S:=S' }:=by
 split at e
 ·next S' q=>cases e;exact ⟨S',q,rfl,rfl⟩
 ·cases e
theorem UV {k:Nat}{fa:Addr}{fd:FuncData}{ps:List Str}(hn:n∈JY)(hC:nsIn X.K mainGlobals n=some (some (.ref C)))(M:Mk X.K C fa)(F:FnOk X.prog X.w X.K X.mg X.base CX0 k fa fd ps (spF X.K h))(hr:Room (k + 1) X.A)(hg:Gl X n)(hm:X.mg n=some (.ref C))(hb:Binds X.K fd ps [])
 (ha:PA X (e :: es) (RA X.K fl)) (hdb:(n == ("__debug__" : Str))=false:=by decide) (h1:AO e=false:=by rfl) (h2:AM es=true:=by rfl):PE X (.Call (.Name n p) (e :: es) [] pos) (RE X.K (Ld n h fl)):=
 AA (VP M F hr hg hm hb .nil HX ha hdb (AV h1) (AK h2).1) λσ H Q z9=>by
  obtain ⟨Oo,c,t,fi,r,t',eq,kk⟩:=z9;obtain ⟨ds,t1,e1,eq⟩:=Ae eq;obtain ⟨S',e2,rfl,rfl⟩:=Qu eq;refine ⟨Oo,c,t,fi,ds,t1,e1,λvs H1 c1 f1 s1 rvs x dx hx hdx ne=>?_⟩;rw [uj2];have f2:=f1.laid (p:=dx) (o:=.own x) hdx;have s2:=f1.stp_laid (p:=dx) (o:=.own x) hdx;have hx2:upd H1 dx (.own x) x=none:=by rw [Ah (Ne.symm ne)];exact hx
  obtain ⟨c3,f3,s3,e3⟩:=f2.newObj (o:=.ins n []) (u:=.ins C dx []) hx2 λc' H' ext hu=>⟨⟨hn,λp hp=>by cases hp⟩,C,dx,[],hC,hu,.nil⟩;refine ⟨c3,.obj t1.S.length :: ds,_,f3.s,.cons (.obj e3) ((rvs.mono s2.ext).mono s3.ext),.non,S',e2,λv H' c' si st ho rv=>?_⟩;obtain ⟨f4,s4⟩:=f3.after si st ho
  cases rv
  exact ⟨rfl,kk _ H' c' f4 ((s1.trans s2).trans (s3.trans s4)) (.obj (st.ext.io _ _ e3))⟩
structure MAt (K:PySem.W.Frag)(n m:Str)(C fa:Addr):Prop where
 cl:n∈JY
 at_:nsIn K mainGlobals n=some (some (.ref C))
 me:Meth K C m fa
 na:m∉atN
theorem Hf {d:D}{t:T}{r:D}{t':T}(e:ES d (λ_ n' _=>if n'=n then bnd fl λds t=>match h (d :: ds) t.S with | some (r,S')=>some (r,{ t with S:=S' }) | none=>none else fail) t=some (r,t')) :
 ∃k fs ds t1 S',d = .obj k/\t.S[k]?=some (.ins n fs)/\fl t=some (ds,t1)/\h (d :: ds) t1.S=some (r,S')/\t' = { t1 with S:=S' }:=by
 obtain ⟨k,n',fs,rfl,es,q⟩:=GZ e
 by_cases hn:n'=n
 ·subst hn;rw [if_pos rfl] at q;obtain ⟨ds,t1,e1,q⟩:=Ae q;obtain ⟨S',e2,rfl⟩:=Fm q;exact ⟨k,fs,ds,t1,S',rfl,es,e1,e2,rfl⟩
 ·rw [if_neg hn] at q;cases q
section
variable {k:Nat}{fa:Addr}{fd:FuncData}{ps:List Str}{h:Fn}{n m:Str}{qx:Bool}{E:L2.St->XK}
theorem UW (cm:CM X.K)(ma:MAt X.K n m C fa)(F:FnOk X.prog X.w X.K X.mg X.base CX0 k fa fd ps (spF X.K h))(hr:Room k X.A)(hb:Binds X.K fd ps [])(he:PE X o (RE X.K g))(ha:PA X (e :: es) (RA X.K fl))
 (h1:AO e=false:=by rfl) (h2:AM es=true:=by rfl) (ht:D6 X o m (e :: es) apos pos pl:=by rfl):PE X (.Call (.Attribute o m apos) (e :: es) [] pos) (RE X.K (BX n h g fl)):=
 AA (VQ (pl:=pl) he (cm n ma.cl C ma.at_).1 ma.me F hr hb .nil HX ha (AV h1) (AK h2).1 ht) λσ H Q z9=>by
  obtain ⟨Oo,c,t,fi,r,t',eq,kk⟩:=z9;obtain ⟨d,t1,e1,eq⟩:=Ae eq;obtain ⟨j,fs,ds,t2,S',rfl,es,e2,e3,rfl⟩:=Hf eq;refine ⟨Oo,c,t,fi,.obj j,t1,e1,λv H1 c1 f1 s1 rv=>?_⟩;obtain ⟨b,rfl,hk⟩:=FS rv;obtain ⟨⟨_,hat⟩,C',dx,us,g1,g2,g3⟩:=f1.s.obs j b _ hk es;rw [ma.at_] at g1
  cases g1
  refine ⟨b,dx,us,rfl,g2,g3.none λp hp z=>ma.na (z ▸ hat p hp),Oo,c1,t1,f1,ds,t2,e2,λvs H2 c2 f2 s2 rvs=>?_⟩;show spF X.K h (V.ref b :: (vs++[])) H2 Q E0;rw [uj2];refine ⟨c2,.obj j :: ds,t2.S,f2.s,.cons (.obj (s2.ext.io _ _ hk)) rvs,r,S',e3,λv H' c' si st ho rv=>?_⟩;obtain ⟨f3,s3⟩:=f2.after si st ho;exact kk v H' c' f3 ((s1.trans s2).trans s3) rv
theorem Mb (cm:CM X.K)(ma:MAt X.K n m C fa)(F:FnOk X.prog X.w X.K X.mg X.base CX0 k fa fd ps (spF X.K h))(hr:Room k X.A)(hb:Binds X.K fd ps [])(he:PE X o (RE X.K g))(ht:D6 X o m [] apos pos pl:=by rfl) :
 PE X (.Call (.Attribute o m apos) [] [] pos) (RE X.K (BX n h g (ret []))):=
 AA (Ts (pl:=pl) he (cm n ma.cl C ma.at_).1 ma.me F hr hb .nil HX ht) λσ H Q z9=>by
  obtain ⟨Oo,c,t,fi,r,t',eq,kk⟩:=z9;obtain ⟨d,t1,e1,eq⟩:=Ae eq;obtain ⟨j,fs,ds,t2,S',rfl,es,e2,e3,rfl⟩:=Hf eq
  cases e2
  refine ⟨Oo,c,t,fi,.obj j,t1,e1,λv H1 c1 f1 s1 rv=>?_⟩;obtain ⟨b,rfl,hk⟩:=FS rv;obtain ⟨⟨_,hat⟩,C',dx,us,g1,g2,g3⟩:=f1.s.obs j b _ hk es;rw [ma.at_] at g1
  cases g1
  refine ⟨b,dx,us,rfl,g2,g3.none λp hp z=>ma.na (z ▸ hat p hp),?_⟩;refine ⟨c1,[.obj j],t1.S,f1.s,.cons (.obj hk) .nil,r,S',e3,λv H' c' si st ho rv=>?_⟩;obtain ⟨f3,s3⟩:=f1.after si st ho;exact kk v H' c' f3 (s1.trans s3) rv
theorem Nz (cm:CM X.K)(ma:MAt X.K n m C fa)(F:FnOk X.prog X.w X.K X.mg X.base (CX1 qx X.prog X.w) k fa fd ps (spX X.K h))(hr:Room k X.A)(hb:Binds X.K fd ps [])(hx:BZ (CX1 qx X.prog X.w) X E)(he:PE X o (RE X.K g))(ha:PA X (e :: es) (RA X.K fl))
 (h1:AO e=false:=by rfl) (h2:AM es=true:=by rfl) (ht:D6 X o m (e :: es) apos pos pl:=by rfl):PE X (.Call (.Attribute o m apos) (e :: es) [] pos) (RX X.K E (BX n h g fl)):=
 AA (Tt (pl:=pl) he (cm n ma.cl C ma.at_).1 ma.me F hr hb hx ha (AV h1) (AK h2).1 ht) λσ H Q z9=>by
  obtain ⟨Oo,c,t,fi,r,t',eq,kk⟩:=z9;obtain ⟨d,t1,e1,eq⟩:=Ae eq;obtain ⟨j,fs,ds,t2,S',rfl,es,e2,e3,rfl⟩:=Hf eq;refine ⟨Oo,c,t,fi,.obj j,t1,e1,λv H1 c1 f1 s1 rv=>?_⟩;obtain ⟨b,rfl,hk⟩:=FS rv;obtain ⟨⟨_,hat⟩,C',dx,us,g1,g2,g3⟩:=f1.s.obs j b _ hk es;rw [ma.at_] at g1
  cases g1
  refine ⟨b,dx,us,rfl,g2,g3.none λp hp z=>ma.na (z ▸ hat p hp),Oo,c1,t1,f1,ds,t2,e2,λvs H2 c2 f2 s2 rvs=>?_⟩;refine ⟨c2,.obj j :: ds,t2.S,f2.s,.cons (.obj (s2.ext.io _ _ hk)) rvs,r,S',e3,λv H' c' si st ho rv=>?_⟩;obtain ⟨f3,s3⟩:=f2.after si st ho;exact kk v H' c' f3 ((s1.trans s2).trans s3) rv
theorem Sf {x:Str}(F:FnOk X.prog X.w X.K X.mg X.base CX0 k fa fd ps (spF X.K h))(hr:Room k X.A)(hg:Gl X x)(hm:X.mg x=some (.ref C))(bc:ByCls X.K C m fa)(hb:Binds X.K fd ps [])(ha:PA X (e :: es) (RA X.K fl))
 (hdb:(x == ("__debug__" : Str))=false:=by decide) (h1:AO e=false:=by rfl) (h2:AM es=true:=by rfl) (ht:D6 X (.Name x p) m (e :: es) apos pos pl:=by rfl):PE X (.Call (.Attribute (.Name x p) m apos) (e :: es) [] pos) (RE X.K (Ai h fl)):=
 AA (Tm (pl:=pl) (E:=λ_=>E0) F hr hg hm bc hb (λpins σ H s e s'=>HX pins σ H s e s') ha hdb (AV h1) (AK h2).1 ht) λσ H Q z9=>by
  obtain ⟨Oo,c,t,fi,r,t',eq,kk⟩:=z9;obtain ⟨ds,t1,e1,eq⟩:=Ae eq;obtain ⟨S',e2,rfl⟩:=Fm eq;refine ⟨Oo,c,t,fi,ds,t1,e1,λvs H1 c1 f1 s1 rvs=>?_⟩;refine ⟨c1,ds,t1.S,f1.s,rvs,r,S',e2,λv H' c' si st ho rv=>?_⟩;obtain ⟨f2,s2⟩:=f1.after si st ho;exact kk v H' c' f2 (s1.trans s2) rv
end
end
variable {K:PySem.W.Frag}
theorem XW {k:Kd}{P:Program}{w:World}{mg:Str->Option Value}{base:Heap}{n:Nat}{fa:Addr}{fd:FuncData}{ps:List Str}{f:Fn}(h:okK k P w K mg base n fa fd ps f):okK k P w K mg base (n + 1) fa fd ps f:=by
 cases k <;> exact FnOk.mono h (un4 _)
def On (K:PySem.W.Frag)(C:Addr):Bool:=plainGet K C Str.empty && hasDictIn K C && plainOver K C && findIn K (.ref C) "__setattr__" == some (some (.builtin "object.__setattr__")) && atN.all λf=>findIn K (.ref C) f == some none
variable {C:Addr}
theorem UN (h:On K C=true):Cls K C/\∀f∈atN,NoAttr K C f:=by
 unfold On at h;simp only [uh8,beq_iff_eq,ui2] at h;obtain ⟨⟨⟨⟨a,b⟩,c⟩,d⟩,e⟩:=h;exact ⟨⟨a,b,c,d⟩,λf hf=>e f hf⟩
theorem Zm (h:∀n∈JY,nsIn K mainGlobals n=some none\/∃C,nsIn K mainGlobals n=some (some (.ref C))/\On K C=true):CM K:=λn hn C e=>by
 rcases h n hn with q | ⟨C',q,b⟩
 ·rw [e] at q;cases q
 ·rw [e] at q;cases q;exact UN b
def OG (K:PySem.W.Frag)(C:Addr):Bool:=makesIn K C && keepIn K (.ref C)
theorem ZD {f:Addr}(h:OG K C=true)(i:findIn K (.ref C) "__init__" = some (some (.ref f)))(hf:isFn K (.ref f)=true):Mk K C f:=by
 unfold OG at h;simp only [uh8] at h;exact ⟨h.1,i,hf,h.2⟩
def byB (K:PySem.W.Frag)(C:Addr)(m:Str):Bool:=specialIn K (.ref C) "__getattribute__" == some (some (.builtin "type.__getattribute__")) && readsIn K C (.type "type") && match findCls K (.ref C) (.type "type") m,findIn K (.ref C) m with | some (.val (.ref g)),some (some (.ref f))=>g == f | _,_=>false
theorem Zk {f:Addr}{m:Str}(h:byB K C m=true)(i:findIn K (.ref C) m=some (some (.ref f)))(k:keepIn K (.ref f)=true):ByCls K C m f:=by
 unfold byB at h;simp only [uh8,beq_iff_eq] at h;obtain ⟨⟨a,b⟩,c⟩:=h;refine ⟨a,b,?_,k⟩;rw [i] at c
 split at c
 ·next g f' e1 e2=>
  cases e2
  rw [e1];exact c
 ·cases c
end F2
namespace F2
open PySem L2 PySem.Spec PyProof.Rows
section
variable {K:PySem.W.Frag}
end
abbrev Gd:=Option (Nat×List D)
def Gon (g:Gd)(S:List Ob):Prop:=∀k xs,g=some (k,xs)->S[k]?=some (.lst xs)
def chk (g:Gd):M Unit:=λt=>@ite _ (Gon g t.S) (Classical.propDecidable _) (some ((),t)) none
theorem LV {g:Gd}{t t':T}{u:Unit}(h:chk g t=some (u,t')):Gon g t.S/\t'=t:=by
 unfold chk at h
 split at h
 ·next q=>cases h;exact ⟨q,rfl⟩
 ·cases h
theorem PB {g:Gd}{t:T}(h:Gon g t.S):chk g t=some ((),t):=by unfold chk;rw [if_pos h]
def compG (g:Gd)(st:D->M Unit)(tst:M Bool)(elt:M D):List D->M (List D)
 | []=>bnd (chk g) λ_=>ret []
 | d :: r=>bnd (chk g) λ_=>bnd (st d) λ_=>bnd tst λk=>if k=true then bnd elt λx=>bnd (compG g st tst elt r) λxs=>ret (x :: xs) else compG g st tst elt r
def GV (n:Nat)(fr:List Nat)(f:M (Gd×List D))(st:D->M Unit)(tst:M Bool)(elt:M D):M (List D):=bnd f λp t=>match compG p.1 st tst elt p.2 ⟨cenv n fr t.env,t.S⟩ with
 | some (xs,t')=>if xs.length<=LIM then some (xs,{ t with S:=t'.S }) else none
 | none=>none
structure ItOk3 (K:PySem.W.Frag)(J:It)(g:Gd)(c:Cf)(H:Hp)(ds:List D):Prop where
 go:∀c' H' S' (i:Nat),Ext c H c' H'->SInv K c' S' H'->Gon g S'->i < ds.length->J.go i H'
 yld:∀c' H' S' (i:Nat) x H'' d,Ext c H c' H'->SInv K c' S' H'->Gon g S'->ds[i]?=some d->J.yld i H' x H''->∃p vs es,x = .ref p/\H' p=none/\H''=upd H' p (.tup vs)/\d = .tup es/\Reps K c' H' vs es
 stop:∀c' H' S',Ext c H c' H'->SInv K c' S' H'->Gon g S'->J.stop ds.length H'
inductive RI3 (K:PySem.W.Frag)(f:M (Gd×List D))(σ:L2.St)(H:Hp)(R:It->Hp->Prop):Prop where
 | mk (Oo:Addr->Prop) (c:Cf) (t:T) (fi:FInv K Oo c t σ H) (p:Gd×List D) (t':T) (e:f t=some (p,t')) (k:∀J H' c',FInv K Oo c' t' σ H'->Stp Oo c H c' H'->ItOk3 K J p.1 c' H' p.2->R J H'):RI3 K f σ H R
section
variable {X:Cx}{e a b tg iter elt:Expr}{ifs:List Expr}{pos:Pos}{scope:Scope}{N':List Str}{n:Nat}{fr:List Nat}{st:D->M Unit}{tst:M Bool}{el:M D}
end
structure ItOkG (K:PySem.W.Frag)(J:It)(g:Gd)(c:Cf)(H:Hp)(ds:List D):Prop where
 go:∀c' H' S' (i:Nat),Ext c H c' H'->SInv K c' S' H'->Gon g S'->i < ds.length->J.go i H'
 yld:∀c' H' S' (i:Nat) x H'' d,Ext c H c' H'->SInv K c' S' H'->Gon g S'->ds[i]?=some d->J.yld i H' x H''->H''=H'/\Rep K c' H' x d
 stop:∀c' H' S',Ext c H c' H'->SInv K c' S' H'->Gon g S'->J.stop ds.length H'
theorem ItOk.toG {K:PySem.W.Frag}{J:It}{g:Gd}{c:Cf}{H:Hp}{ds:List D}(h:ItOk K J c H ds):ItOkG K J g c H ds:=
 ⟨λc' H' _ i e _ _=>h.go c' H' i e,λc' H' _ i x H'' d e _ _=>h.yld c' H' i x H'' d e,λc' H' _ e _ _=>h.stop c' H' e⟩
def RIG (K:PySem.W.Frag)(f:M (Gd×List D)):TI:=λσ H R=>∃Oo c t,FInv K Oo c t σ H/\∃p t',f t=some (p,t')/\∀J H' c',FInv K Oo c' t' σ H'->Stp Oo c H c' H'->ItOkG K J p.1 c' H' p.2->R J H'
theorem RF.compG {K:PySem.W.Frag}{n:Nat}{fr:List Nat}{f:M (Gd×List D)}{st:D->M Unit}{tst:M Bool}{elt:M D}{σ:L2.St}{H:Hp}{Q:VK}(q:RF K (GV n fr f st tst elt) σ H Q):Pb (RIG K f) (RG K st) (RT K tst) (RE K elt) (Fy n fr) σ H Q:=by
 obtain ⟨Oo,c,t,fi,xs,t',eq,k⟩:=q;obtain ⟨pg,t1,e1,eq⟩:=Ae eq;refine ⟨Oo,c,t,fi,pg,t1,e1,λJ H1 c1 f1 s1 it=>?_⟩;obtain ⟨g,ds⟩:=pg;dsimp only at eq it
 cases e3:F2.compG g st tst elt ds ⟨cenv n fr t1.env,t1.S⟩ with
 | none=>rw [e3] at eq;cases eq
 | some p=>
   obtain ⟨ys,t3⟩:=p;rw [e3] at eq;dsimp only at eq
   split at eq
   case isFalse=>cases eq
   next hl=>
   cases eq
   refine ⟨λi m acc σ' H'=>m=ds.length - i/\i<=ds.length/\∃c' t2 zs rest,FInv K c1.O c' t2 σ' H'/\Stp c1.O c1 H1 c' H'/\Reps K c' H' acc zs/\F2.compG g st tst elt (ds.drop i) t2=some (rest,t3)/\xs=zs++rest,
    ⟨_,rfl,un3 _,c1,_,[],xs,Jo f1,.refl,.nil,by rw [uk9];exact e3,rfl⟩,?_⟩
   rintro i m acc σ' H' ⟨rfl,hi,c',t2,zs,rest,f2,s2,ra,e2,ez⟩;have hacc:acc.length<=sizeLine:=by
    have:zs.length<=xs.length:=by rw [ez,uf7];exact ui1 _ _
    rw [ra.length];exact um4 this (um4 hl Bf)
   refine ⟨hacc,?_⟩
   by_cases hlt:i < ds.length
   ·rw [ub3 hlt] at e2;unfold F2.compG at e2;obtain ⟨u0,t0,e0,e2⟩:=Ae e2;obtain ⟨hon,ht0⟩:=LV e0;rw [ht0] at e2;clear e0 ht0;refine .inr ⟨it.go c' H' _ i s2.ext f2.s hon hlt,λx H'' hy=>?_⟩;obtain ⟨rfl,rx⟩:=it.yld c' H' _ i x H'' _ s2.ext f2.s hon (ub6 hlt) hy;obtain ⟨u,t4,e4,e2⟩:=Ae e2;obtain ⟨kb,t5,e5,e2⟩:=Ae e2;refine ⟨c1.O,c',t2,_,f2,rx,t4,e4,λσ3 H3 c3 f3 s3=>⟨c1.O,c3,t4,f3,kb,t5,e5,λH4 c4 f4 s4=>?_⟩⟩
    cases kb with
    | false=>
      rw [if_neg uf4] at e2 ⊢;exact ⟨ds.length - (i + 1),by lia,rfl,hlt,c4,t5,zs,rest,f4,(s2.trans s3).trans s4,ra.mono (s3.trans s4).ext,e2,ez⟩
    | true=>
      rw [if_pos rfl] at e2 ⊢;obtain ⟨x6,t6,e6,e2⟩:=Ae e2;obtain ⟨r7,t7,e7,e2⟩:=Ae e2
      cases e2
      refine ⟨c1.O,c4,t5,f4,x6,t6,e6,λv H5 c5 f5 s5 rv=>?_⟩;exact ⟨ds.length - (i + 1),by lia,rfl,hlt,c5,t6,zs++[x6],r7,f5,((s2.trans s3).trans s4).trans s5,(ra.mono ((s3.trans s4).trans s5).ext).append (.cons rv .nil),e7,by rw [ez,ug6];rfl⟩
   ·have hi':i=ds.length:=by lia
    subst hi';rw [ui0] at e2;unfold F2.compG at e2;obtain ⟨u0,t0,e0,e2⟩:=Ae e2;obtain ⟨hon,ht0⟩:=LV e0;rw [ht0] at e2;clear e0 ht0
    cases e2
    refine .inl ⟨it.stop c' H' _ s2.ext f2.s hon,λp hp _=>?_⟩;obtain ⟨si,ext⟩:=f2.leave;obtain ⟨f6,s6⟩:=f1.after si ⟨s2.ext.trans ext,s2.oo⟩ (λ_=>Iff.rfl);rw [uj2] at ez;subst ez;exact k p acc H' _ f6 (s1.trans s6) (ra.mono ext) hp
def G0:D->M (Gd×List D)
 | .obj k=>λt=>match t.S[k]? with
   | some (.lst ds)=>some ((some (k,ds),ds),t)
   | _=>none
 | d=>bnd (C4 d) λds=>ret (none,ds)
def Oq (f:M D):M (Gd×List D):=bnd f G0
theorem ItOkG.lst {K:PySem.W.Frag}{g:Gd}{c:Cf}{H:Hp}{p:Addr}{ds:List D}(r:∀c' H' S',Ext c H c' H'->SInv K c' S' H'->Gon g S'->∃vs,SqL K H' p vs/\Reps K c' H' vs ds):ItOkG K (Itl K p) g c H ds:=by
 refine ⟨λc' H' S' i ex si on hi=>?_,λc' H' S' i x H'' d ex si on hd hy=>?_,λc' H' S' ex si on=>?_⟩
 ·obtain ⟨vs,h1,h2⟩:=r c' H' S' ex si on;obtain ⟨v,e,_⟩:=h2.at (ub6 hi);exact ⟨vs,v,h1,e⟩
 ·obtain ⟨vs,h1,h2⟩:=r c' H' S' ex si on;obtain ⟨rfl,hx⟩:=hy;exact ⟨rfl,h2.get (hx vs h1) hd⟩
 ·obtain ⟨vs,h1,h2⟩:=r c' H' S' ex si on;exact ⟨vs,h1,by rw [h2.length];exact un2 _⟩
section
variable {X:Cx}{e a b tg iter elt:Expr}{ifs:List Expr}{pos:Pos}{scope:Scope}{N':List Str}{n:Nat}{fr:List Nat}{st:D->M Unit}{tst:M Bool}{el:M D}
theorem Sv {f:M (Gd×List D)}(O:CmpOk X scope N' (Fy n fr))(hc:X.calm=true)(hi:PI X tg iter (RIG X.K f))
 (hg:∀cl C s2 H2 fp,PG (Cv X N' scope cl C s2 H2 fp) tg (RG X.K st)) (ht:∀cl C s2 H2 fp,PIf (Cv X N' scope cl C s2 H2 fp) ifs (RT X.K tst)) (he:∀cl C s2 H2 fp,PE (Cv X N' scope cl C s2 H2 fp) elt (RE X.K el))
 (hs:∀x,foldedSetIterable iter X.env x=pure x:=by intro _;rfl):PE X (.ListComp elt [⟨tg,iter,ifs,0⟩] scope pos) (RF X.K (GV n fr f st tst el)):=
 AA (NK O hc hi hg ht he hs) λ_ _ _ q=>RF.compG q
theorem U0 {f:M D}(h:PE X e (RE X.K f)):PI X tg e (RIG X.K (Oq f)):=
 I9 (QP h) λσ H R z=>by
  obtain ⟨Oo,c,t,fi,ds,t',eq,k⟩:=z;obtain ⟨d,t1,e1,eq⟩:=Ae eq;refine ⟨Oo,c,t,fi,d,t1,e1,λv H1 c1 f1 s1 rv=>?_⟩
  cases rv with
  | @obj a kk hk=>
    unfold G0 at eq;dsimp only at eq
    split at eq
    ·next es hS=>
     cases eq
     obtain ⟨ws,g1,g3⟩:=f1.s.obs kk a _ hk hS;refine .inl ⟨a,rfl,⟨ws,SqL.of g1⟩,k _ H1 c1 f1 s1 (ItOkG.lst λc' H' S' ex si on=>?_)⟩;obtain ⟨us,q1,q2⟩:=si.obs kk a _ (ex.io _ _ hk) (on kk es rfl);exact ⟨us,SqL.of q1,q2⟩
    ·cases eq
  | @lst p vs ds' h1 h2 h3=>
    cases eq
    exact .inl ⟨p,rfl,⟨vs,SqL.of h1⟩,k _ H1 c1 f1 s1 (ItOk.toG (ItOk.lst λc' H' ex=>⟨vs,SqL.of (ex.keep _ _ h1 h2),h3.mono ex⟩))⟩
  | @scr p ns h1=>
    cases eq
    exact .inl ⟨p,rfl,⟨_,h1.sq⟩,k _ H1 c1 f1 s1 (ItOk.toG (ItOk.lst λc' H' ex=>⟨_,(h1.mono ex).sq,Reps.ints ns⟩))⟩
  | @tup p vs ds' h1 h2 h3=>
    cases eq
    exact .inr (.inl ⟨p,rfl,⟨vs,SqT.of h1⟩,k _ H1 c1 f1 s1 (ItOk.toG (ItOk.tup λc' H' ex=>⟨vs,SqT.of (ex.keep _ _ h1 h2),h3.mono ex⟩))⟩)
  | str x=>
    cases eq
    exact .inr (.inr ⟨x,rfl,k _ H1 c1 f1 s1 (ItOk.toG ItOk.str)⟩)
  | _=>cases eq
end
def BT (S:List Ob):Nat->D->D
 | 0,d=>d
 | n + 1,.obj k=>match S[k]? with
   | some (.lst ds)=>.lst (ds.map (BT S n))
   | _=>.obj k
 | n + 1,.tup ds=>.tup (ds.map (BT S n))
 | n + 1,.lst ds=>.lst (ds.map (BT S n))
 | _ + 1,d=>d
def eqO (g:Bool->Bool)(x y:D):M D:=λt=>if (Bi (BT t.S 16 x) && Bi (BT t.S 16 y))=true then (eqN EQD (BT t.S 16 x) (BT t.S 16 y)).map λb=>(.bl (g b),t) else none
theorem IR {K:PySem.W.Frag}{c:Cf}{S:List Ob}{H:Hp}(s:SInv K c S H):∀(n:Nat) {v:V} {d:D},Rep K c H v d->Bi (BT S n d)=true->Rep K c0 H v (BT S n d)
 | 0,v,d,r,p=>Dq r (by simpa only [BT] using p)
 | n + 1,v,d,r,p=>by
   have row:∀{vs:List V} {ds:List D},Reps K c H vs ds->Gu (ds.map (BT S n))=true->Reps K c0 H vs (ds.map (BT S n)):=by
    intro vs ds q
    induction ds generalizing vs with
    | nil=>intro _;cases q;exact .nil
    | cons d ds ih=>
      intro p
      cases q with
      | cons a b=>
        rw [ul4,Gu,uh8] at p;exact .cons (IR s n a p.1) (ih b p.2)
   cases r with
   | @obj a k hk=>
     unfold BT at p ⊢
     split
     ·next ds e=>
      rw [e] at p;obtain ⟨vs,h1,h2⟩:=s.obs k a _ hk e;exact .lst h1 (GK _) (row h2 (by simpa [Bi] using p))
     ·next h=>
      split at p
      ·next ds e=>exact absurd e (h ds)
      ·simp [Bi] at p
   | tup h m q=>rw [BT] at p ⊢;exact .tup h (GK _) (row q (by simpa only [Bi] using p))
   | lst h m q=>rw [BT] at p ⊢;exact .lst h (GK _) (row q (by simpa only [Bi] using p))
   | non=>exact .non
   | bl b=>exact .bl b
   | int b=>exact .int b
   | str b=>exact .str b
   | ty b=>exact .ty b
   | scr h=>exact Dq (c:=c) (.scr h) p
   | dic h n=>exact Dq (.dic h n) p
   | exc a b n f q=>exact Dq (.exc a b n f q) p
theorem NV {K:PySem.W.Frag}{g:Bool->Bool}:AZ K (OT K g) (eqO g):=λ{Oo c t σ H x y dx dy r t' Q} f rx ry eq k=>by
 unfold eqO at eq
 split at eq
 ·next hp=>
  rw [uh8] at hp;obtain ⟨b,e1,e2⟩:=uc8.mp eq
  cases e2
  exact ⟨c0,_,_,b,IR f.s 16 rx hp.1,IR f.s 16 ry hp.2,e1,k _ H c f .refl (.bl (g b))⟩
 ·cases eq
end F2
namespace L2
open PySem PySem.Spec PyProof.Rows
section
variable {X:Cx}{k:Nat}{f l I S:Addr}{fd:FuncData}{ps:List Str}{sp:Sp}{pins:List (Addr×Obj)}{σ:St}{H:Hp}{s:Shared}{Q:VK}{oS oI oS' oI':Obj}{h':Heap}{t':Nat}
end
end L2
namespace F2
open PySem L2 PySem.Spec PySem.W
section
variable {K:PySem.W.Frag}{g:Fn}
end
end F2
namespace F2
open PySem L2 PySem.Spec PyProof.Rows
section
variable {X:Cx}{e:Expr}{pos:Pos}
def IL (f:M D):M D:=bnd f λo=>match o with
 | .obj k=>λt=>match t.S[k]? with
   | some (.lst _)=>some (.non,{ t with S:=t.S.set k (.lst []) })
   | _=>none
 | _=>fail
theorem PU {o:Expr}{f:M D}{apos cpos:Pos}(ho:PE X o (RE X.K f))
 (hbase:attributeBase o "clear" X.env (eval o X.env)=eval o X.env:=by rfl) (hline:(apos.endLine == cpos.line)=true:=by rfl) :
 PE X (.Call (.Attribute o "clear" apos) [] [] cpos) (RE X.K (IL f)):=
 AA (X7 uc1 PySem.F.slot_list_clear PySem.F.type_list_clear Te ho hbase hline) λσ H Q z=>by
  obtain ⟨Oo,c,t,fi,r,t',eq,k⟩:=z;obtain ⟨d,t1,e1,eq⟩:=Ae eq;refine ⟨Oo,c,t,fi,d,t1,e1,λv H1 c1 f1 s1 rv=>?_⟩
  cases rv with
  | @obj a kk hk=>
    dsimp only at eq
    split at eq
    ·next xs hS=>
     cases eq
     obtain ⟨vs,g1,g2⟩:=f1.s.obs kk a _ hk hS;refine ⟨.inl ⟨rfl,vs,SqL.of g1⟩,a,vs,rfl,rfl,g1,?_⟩;obtain ⟨f2,s2⟩:=f1.wrObj (o:=.lst []) (u:=.lst []) hk λc' H' ext hu=>⟨[],hu,.nil⟩;exact k _ _ c1 f2 (s1.trans s2) .non
    ·cases eq
  | _=>cases eq
def unO (n:Nat)(g:List D->M Unit):D->M Unit
 | .obj k=>λt=>match t.S[k]? with
   | some (.lst ds)=>if ds.length=n then g ds t else none
   | _=>none
 | _=>fail
theorem RG.unO {K:PySem.W.Frag}{n:Nat}{g:List D->M Unit}{v:V}{σ:L2.St}{H:Hp}{Q:L2.St->Hp->Prop}(q:RG K (unO n g) v σ H Q):gUn K n (RGs K g) v σ H Q:=by
 obtain ⟨Oo,c,t,d,fi,rv,t',eq,k⟩:=q
 cases rv with
 | @obj a kk hk=>
   unfold F2.unO at eq;dsimp only at eq
   split at eq
   ·next ds hS=>
    split at eq
    ·next hn=>
     obtain ⟨vs,g1,g2⟩:=fi.s.obs kk a _ hk hS;exact ⟨a,vs,rfl,.inr (SqL.of g1),by rw [g2.length];exact hn,Oo,c,t,ds,fi,g2,t',eq,k⟩
    ·cases eq
   ·cases eq
 | _=>cases eq
theorem Xr {es:List Expr}{k n:Nat}{g:List D->M Unit}(hc:X.calm=true)(h:PGs X es (RGs X.K g))(hn:(assignEach es X.env).length=n:=by rfl)(hst:(assignEach es X.env).findIdx? (·.1)=none:=by rfl):PG X (.Tuple es k pos) (RG X.K (unO n g)):=
 GH (Uq hc h hn hst) λ_ _ _ _ q=>RG.unO q
def slF:D->Option Int->Option Int->M (List D)
 | .lst ds,lo,hi=>ret (Bn ds lo hi)
 | .scr ns,lo,hi=>ret ((Bn ns lo hi).map .int)
 | .obj k,lo,hi=>λt=>match t.S[k]? with
   | some (.lst ds)=>some (Bn ds lo hi,t)
   | _=>none
 | _,_,_=>fail
def Os (f:M D)(l u:M (Option Int)):M (List D):=bnd f λd=>bnd l λa=>bnd u λb=>slF d a b
theorem Sw {f:M D}{l u:M (Option Int)}{lo hi:Option Expr}{p2:Pos}(he:PE X e (RE X.K f))(hl:PO X lo (RO X.K l))(hu:PO X hi (RO X.K u)):PE X (.Subscript e (.Slice lo hi none p2) pos) (RF X.K (Os f l u)):=
 AA (MC sl2 he hl hu) λσ H Q z9=>by
  obtain ⟨Oo,c,t,fi,r,t',eq,k⟩:=z9;obtain ⟨d,t1,e1,eq⟩:=Ae eq;obtain ⟨ol,t2,e2,eq⟩:=Ae eq;obtain ⟨oh,t3,e3,eq⟩:=Ae eq;refine ⟨Oo,c,t,fi,d,t1,e1,λv H1 c1 f1 s1 rv=>⟨Oo,c1,t1,f1,ol,t2,e2,λH2 c2 f2 s2=>⟨Oo,c2,t2,f2,oh,t3,e3,λH3 c3 f3 s3=>?_⟩⟩⟩;have rv3:=rv.mono (s2.trans s3).ext;have st:=(s1.trans s2).trans s3
  cases rv3 with
  | @lst p vs ds h1 h2 h3=>
    cases eq
    exact .inl ⟨p,vs,rfl,SqL.of h1,λq hq=>k q _ _ c3 f3 st (Ff h3 ol oh) hq⟩
  | @scr p ns h1=>
    cases eq
    refine .inl ⟨p,_,rfl,h1.sq,λq hq=>k q _ _ c3 f3 st ?_ hq⟩;rw [KD];exact Reps.ints _
  | @obj a kk h1=>
    unfold slF at eq;dsimp only at eq
    split at eq
    ·next ds es=>
     cases eq
     obtain ⟨vs,g1,g2⟩:=f3.s.obs kk a _ h1 es;exact .inl ⟨a,vs,rfl,SqL.of g1,λq hq=>k q _ _ c3 f3 st (Ff g2 ol oh) hq⟩
    ·cases eq
  | _=>cases eq
def objX (f:M D)(g:M (List D)):M D:=bnd f λo=>match o with
 | .obj k=>λt=>match t.S[k]? with
   | some (.lst _)=>bnd g (λds t1=>match t1.S[k]?,ds with
     | some (.lst xs),[.obj j]=>match t1.S[j]? with
       | some (.lst ys)=>if xs.length + ys.length<=LIM then some (.non,{ t1 with S:=t1.S.set k (.lst (xs++ys)) }) else none
       | _=>none
     | _,_=>none) t
   | _=>none
 | _=>fail
theorem RE.objX {K:PySem.W.Frag}{f:M D}{g:M (List D)}{σ:L2.St}{H:Hp}{Q:VK}(q:RE K (F2.objX f g) σ H Q):tBM K "list" (OU K) (RE K f) (RA K g) σ H Q:=by
 obtain ⟨Oo,c,t,fi,r,t',eq,k⟩:=q;obtain ⟨o,t0,e0,eq⟩:=Ae eq;refine ⟨Oo,c,t,fi,o,t0,e0,λx H0 c0 f0 s0 rx=>?_⟩
 cases rx with
 | @obj a kk hk=>
   dsimp only at eq
   split at eq
   ·next xs0 ex0=>
    obtain ⟨ds,t1,e1,eq⟩:=Ae eq;obtain ⟨vs0,g0,g0'⟩:=f0.s.obs kk a _ hk ex0;refine ⟨.inl ⟨rfl,vs0,SqL.of g0⟩,Oo,c0,t0,f0,ds,t1,e1,λus H1 c1 f1 s1 rus=>?_⟩
    split at eq
    ·next xs j ex=>
     split at eq
     ·next ys ey=>
      split at eq
      ·next hl=>
       cases eq
       have hk1:=s1.ext.io _ _ hk;obtain ⟨vs,g1,g2⟩:=f1.s.obs kk a _ hk1 ex;obtain ⟨v,rfl,rv⟩:=Df rus
       cases rv with
       | @obj b jj hj=>
         obtain ⟨ws,w1,w2⟩:=f1.s.obs _ b _ hj ey;obtain ⟨f2,s2⟩:=f1.wrObj (o:=.lst (xs++ys)) (u:=.lst (vs++ws)) hk1 λc' H' ext hu=>⟨_,hu,(g2.append w2).mono ext⟩;exact .inl ⟨a,b,vs,ws,rfl,rfl,g1,w1,by rw [g2.length,w2.length];exact um4 hl Bf,k _ _ c1 f2 ((s0.trans s1).trans s2) .non⟩
      ·cases eq
     ·cases eq
    ·cases eq
   ·cases eq
 | _=>cases eq
theorem Ou {o:Expr}{es:List Expr}{f:M D}{g:M (List D)}{apos cpos:Pos}(ho:PE X o (RE X.K f))(ha:PA X (e :: es) (RA X.K g))
 (hbase:attributeBase o "extend" X.env (eval o X.env)=eval o X.env:=by rfl)
 (hfew:((backTo cpos (starEach (e :: es) X.env)).all (λx=>!x.1) && (backToKw cpos (keywordEach [] X.env)).all (λx=>x.1.isSome) && decide ((e :: es).length + ([]:List Keyword).length + (if ([]:List Keyword).isEmpty then 0 else 1) < 30))=true:=by rfl)
 (hline:(apos.endLine == cpos.line)=true:=by rfl) (hs:starEach (e :: es) X.env=(false,eval e X.env) :: starEach es X.env:=by rfl) (hplain:(backTo cpos (starEach es X.env)).any (·.1)=false:=by rfl) :
 PE X (.Call (.Attribute o "extend" apos) (e :: es) [] cpos) (RE X.K (objX f g)):=
 AA (HY uc1 PySem.F.slot_list_extend PySem.F.type_list_extend NF ho ha hbase hfew hline hs hplain) λ_ _ _ q=>RE.objX q
theorem MO {K:PySem.W.Frag}{Oo:Addr->Prop}{c:Cf}{t:T}{σ:L2.St}{H:Hp}{x:V}{dx:D}{xs:List D}(f:FInv K Oo c t σ H)(rx:Rep K c H x dx)(e:CK t.S dx = .lst xs):∃a vs,x = .ref a/\H a=some (.lst vs)/\Reps K c H vs xs:=by
 cases rx with
 | @lst a vs ds h1 h2 h3=>
   cases e
   exact ⟨a,vs,rfl,h1,h3⟩
 | @obj a kk hk=>
   unfold CK at e;dsimp only at e
   split at e
   ·next es=>
    cases e
    obtain ⟨vs,q1,q2⟩:=f.s.obs _ a _ hk es;exact ⟨a,vs,rfl,q1,q2⟩
   ·cases e
 | _=>cases e
def HI (x y:D):M (List D):=λt=>match CK t.S x,CK t.S y with
 | .lst xs,.lst ys=>lim (xs.length + ys.length) (xs++ys) t
 | _,_=>none
theorem Rf {K:PySem.W.Frag}:Ja K MI HI:=λ{Oo c t σ H x y dx dy r t' Q} f rx ry eq k=>by
 unfold HI at eq
 split at eq
 ·next xs ys e1 e2=>
  obtain ⟨h,z⟩:=CB eq
  cases z
  obtain ⟨a,vs,rfl,h1,h3⟩:=MO f rx e1;obtain ⟨b,ws,rfl,g1,g3⟩:=MO f ry e2;refine ⟨a,b,vs,ws,rfl,rfl,h1,g1,?_,λp hp=>k p _ H c f .refl (h3.append g3) hp⟩;rw [h3.length,g3.length];exact um4 h Bf
 ·cases eq
end
end F2
namespace LW
open PySem L2 F2
def FD:M Out:=
 (Ao (Ey (fB (Aa (Ab 0) (Aa (fC (.ty "int")) Ad)) Dv) (Jm (fB (Aa (Ab 0) (Aa (fC (.ty "bool")) Ad)) Dv))))
def C6 (LM:Fn):M Out:=
 (Ao (Ey (Ai LM (Aa (Ab 0) Ad)) (El (Ab 1) (Ab 0) (Ab 2) leA leA)))
def Mt (JT LK LJ LL CS:Fn):M Out:=
 (Af (Aw 2 (Ac (Ab 0) (fC (.int 0)) ixD))
 (Af (ifS (Ap (Ac (Ab 2) (fC (.str "nothing")) (eqS id)))
   (Ao (Ac (Ab 1) (fC .non) isC))
   Au)
 (Af (ifS (Ap (Ac (Ab 2) (fC (.str "number")) (eqS id)))
   (Ao (Ai CS (Aa (Ab 1) (Aa (Ac (Ab 0) (fC (.int 1)) ixD) (Aa (Ac (Ab 0) (fC (.int 2)) ixD) Ad)))))
   Au)
 (Af (ifS (Ap (Ac (Ab 2) (fC (.str "text")) (eqS id)))
   (Ao (Ai LL (Aa (Ab 0) (Aa (Ab 1) Ad))))
   Au)
 (Af (ifS (Ap (Ac (Ab 2) (fC (.str "list")) (eqS id)))
   (Ao (Ai LJ (Aa (Ab 0) (Aa (Ab 1) Ad))))
   Au)
 (Af (ifS (Ap (Ac (Ab 2) (fC (.str "pair")) (eqS id)))
   (Ao (Ai LK (Aa (Ab 0) (Aa (Ab 1) Ad))))
   Au)
 (Ao (Ai JT (Aa (Ab 0) (Aa (Ab 1) Ad))))))))))
def FC (Gc:Fn):M Out:=
 (Af (ifS (fOr (Dh (Ap (fB (Aa (Ab 1) (Aa (fC (.ty "str")) Ad)) Dv))) (Ap (Ac (fB (Aa (Ab 1) Ad) AQ) (Ac (Ab 0) (fC (.int 1)) ixD) gtA)))
   (Ao (fC (.bl false)))
   Au)
 (Af (BY (D9 (Ab 1)) (Ay 2)
   (ifS (Dh (Ap (Ai Gc (Aa (fB (Aa (Ab 2) Ad) IM) Ad))))
   (Ao (fC (.bl false)))
   Au))
 (Ao (fC (.bl true)))))
def Hc:M Out:=
 (Ao (Ey (El (fC (.int 32)) (Ab 0) (fC (.int 126)) leA leA) (Ac (Ab 0) (fC (.int 37)) (eqS λb=>!b))))
def FA (DC:Fn):M Out:=
 (Af (ifS (fOr (Dh (Ap (fB (Aa (Ab 1) (Aa (fC (.ty "list")) Ad)) Dv))) (Ap (Ac (fB (Aa (Ab 1) Ad) AQ) (Ac (Ab 0) (fC (.int 2)) ixD) gtA)))
   (Ao (fC (.bl false)))
   Au)
 (Af (BY (D9 (Ab 1)) (Ay 2)
   (ifS (Dh (Ap (Ai DC (Aa (Ac (Ab 0) (fC (.int 1)) ixD) (Aa (Ab 2) Ad)))))
   (Ao (fC (.bl false)))
   Au))
 (Ao (fC (.bl true)))))
def FB (DC:Fn):M Out:=
 (Af (ifS (fOr (Dh (Ap (fB (Aa (Ab 1) (Aa (fC (.ty "tuple")) Ad)) Dv))) (Ap (Ac (fB (Aa (Ab 1) Ad) AQ) (fC (.int 2)) (eqS λb=>!b))))
   (Ao (fC (.bl false)))
   Au)
 (Ao (Ey (Ai DC (Aa (Ac (Ab 0) (fC (.int 1)) ixD) (Aa (Ac (Ab 1) (fC (.int 0)) ixD) Ad))) (Ai DC (Aa (Ac (Ab 0) (fC (.int 2)) ixD) (Aa (Ac (Ab 1) (fC (.int 1)) ixD) Ad))))))
def Et (DC CS:Fn):M Out:=
 (Af (ifS (fOr (Dh (Ap (fB (Aa (Ab 1) (Aa (fC (.ty "tuple")) Ad)) Dv))) (Ap (Ac (fB (Aa (Ab 1) Ad) AQ) (fC (.int 3)) (eqS λb=>!b))))
   (Ao (fC (.bl false)))
   Au)
 (Af (ifS (fOr (Dh (Ap (fB (Aa (Ac (Ab 1) (fC (.int 0)) ixD) (Aa (fC (.ty "str")) Ad)) Dv))) (Ap (Ac (Ac (Ab 1) (fC (.int 0)) ixD) (fC (.str "of")) (eqS λb=>!b))))
   (Ao (fC (.bl false)))
   Au)
 (Af (ifS (Dh (Ap (Ai CS (Aa (Ac (Ab 1) (fC (.int 1)) ixD) (Aa (fC (.int 0)) (Aa (Ac (fB (Aa (Ac (Ab 0) (fC (.int 1)) ixD) Ad) AQ) (fC (.int 1)) BB) Ad))))))
   (Ao (fC (.bl false)))
   Au)
 (Ao (Ai DC (Aa (Ac (Ac (Ab 0) (fC (.int 1)) ixD) (Ac (Ab 1) (fC (.int 1)) ixD) ixD) (Aa (Ac (Ab 1) (fC (.int 2)) ixD) Ad)))))))
def IE:M Out:=
 (Ao (Ac (Ac (Ab 0) (fC (.int 0)) ixD) (fC (.str "end")) (eqS id)))
def D0 (Bz D7 Jh:Fn):M Out:=
 (Af (Aw 2 (Ac (Ab 0) (fC (.int 0)) ixD))
 (Af (ifS (Ap (Ac (Ab 2) (fC (.str "nothing")) (eqS id)))
   (FG (AI Ad))
   Au)
 (Af (ifS (Ap (Ac (Ab 2) (fC (.str "number")) (eqS id)))
   (FG (C3 Jh (Aa (Ac (Ab 1) (Ac (Ab 0) (fC (.int 1)) ixD) BB) (Aa (Ai D7 (Aa (Ac (Ac (Ab 0) (fC (.int 2)) ixD) (Ac (Ab 0) (fC (.int 1)) ixD) BB) Ad)) Ad))))
   Au)
 (Af (ifS (Ap (Ac (Ab 2) (fC (.str "text")) (eqS id)))
   (FG (bnd (Av (AI (Aa (fB (Aa (Ab 1) Ad) AQ) Ad))) λx=>bnd (Av (BL 1 [] (D9 (Ab 1)) (Ay 0) D4 (fB (Aa (Ab 0) Ad) IM))) λy=>Ix x y))
   Au)
 (Af (ifS (Ap (Ac (Ab 2) (fC (.str "list")) (eqS id)))
   (Af (Dk 3 (AI (Aa (fB (Aa (Ab 1) Ad) AQ) Ad)))
 (Af (BY (D9 (Ab 1)) (Ay 4)
   (ownM 3 GU (Aa (Av (C3 Bz (Aa (Ac (Ab 0) (fC (.int 1)) ixD) (Aa (Ab 4) Ad)))) Ad)))
 (FT 3)))
   Au)
 (Af (ifS (Ap (Ac (Ab 2) (fC (.str "pair")) (eqS id)))
   (FG (bnd (Av (C3 Bz (Aa (Ac (Ab 0) (fC (.int 1)) ixD) (Aa (Ac (Ab 1) (fC (.int 0)) ixD) Ad)))) λx=>bnd (Av (C3 Bz (Aa (Ac (Ab 0) (fC (.int 2)) ixD) (Aa (Ac (Ab 1) (fC (.int 1)) ixD) Ad)))) λy=>Ix x y))
   Au)
 (FG (bnd (Av (AI (Aa (Ac (Ab 1) (fC (.int 1)) ixD) Ad))) λx=>bnd (Av (C3 Bz (Aa (Ac (Ac (Ab 0) (fC (.int 1)) ixD) (Ac (Ab 1) (fC (.int 1)) ixD) ixD) (Aa (Ac (Ab 1) (fC (.int 2)) ixD) Ad)))) λy=>Ix x y))))))))
def Eu:M Out:=
 (Ao (Ac (Ac (fUn (Ab 0) Jd) (fC (.int 7)) AJ) (fC (.int 8)) Fq))
def Ed (Ge:Fn):M Out:=
 (FG (BL 1 [0,1] (Ez (Aa (fC (.int 1)) (Aa (Ac (Ab 1) (fC (.int 1)) AJ) Ad))) (Ay 0) D4 (Ac (Ai Ge (Aa (Ab 1) (Aa (Ac (Ab 2) (Ab 0) BB) Ad))) (fC (.int 256)) Ev)))
def He:M Out:=
 (Ao (Ac (Ab 0) (Ac (fC (.int 8)) (Ab 1) D1) MT))
def CV (JU LO LN LP JV:Fn):M Out:=
 (Af (Aw 3 (Ac (Ab 0) (fC (.int 0)) ixD))
 (Af (ifS (Ap (Ac (Ab 3) (fC (.str "nothing")) (eqS id)))
   (Ao (nxD (AR (Aa (fC .non) (Aa (Ab 2) Ad)))))
   Au)
 (Af (ifS (Ap (Ac (Ab 3) (fC (.str "number")) (eqS id)))
   (Ao (Ai JV (Aa (Ab 0) (Aa (Ab 1) (Aa (Ab 2) Ad)))))
   Au)
 (Af (ifS (Ap (Ac (Ab 3) (fC (.str "text")) (eqS id)))
   (Ao (Ai LP (Aa (Ab 0) (Aa (Ab 1) (Aa (Ab 2) Ad)))))
   Au)
 (Af (ifS (Ap (Ac (Ab 3) (fC (.str "list")) (eqS id)))
   (Ao (Ai LN (Aa (Ab 0) (Aa (Ab 1) (Aa (Ab 2) Ad)))))
   Au)
 (Af (ifS (Ap (Ac (Ab 3) (fC (.str "pair")) (eqS id)))
   (Ao (Ai LO (Aa (Ab 0) (Aa (Ab 1) (Aa (Ab 2) Ad)))))
   Au)
 (Ao (Ai JU (Aa (Ab 0) (Aa (Ab 1) (Aa (Ab 2) Ad)))))))))))
def EW:M Out:=
 (Af (ifS (Ap (Ac (Ab 1) (fB (Aa (Ab 0) Ad) AQ) geA))
   (Fe "Short" (Aa (fC (.str "the bytes end within a value")) Ad))
   Au)
 (Ao (nxD (Ac (Ab 0) (Ab 1) ixD))))
def DX (DQ:Fn):M Out:=
 (Af (Cr 3 (Ai DQ (Aa (Ab 1) (Aa (Ab 2) Ad))))
 (Af (ifS (Ap (Ac (Ab 3) (Ab 0) gtA))
   (C8 "Broken" (Aa (Ab 2) (Aa (fC .non) Ad)))
   Au)
 (Ao (nxD (Ab 3)))))
def CF (Ge DQ D7:Fn):M Out:=
 (Af (Aw 3 (Ac (Ac (Ab 0) (fC (.int 2)) ixD) (Ac (Ab 0) (fC (.int 1)) ixD) BB))
 (Af (Aw 4 (Ai D7 (Aa (Ab 3) Ad)))
 (Af (Aw 5 (fC (.int 0)))
 (Af (BY (B4 (Aa (Ab 4) Ad)) (Ay 6)
   (Af (Cr 5 (HK (Ac (Ab 5) (fC (.int 256)) D1) (Ai DQ (Aa (Ab 1) (Aa (Ac (Ab 2) (Ab 6) AJ) Ad))) AJ))
 (ifS (Ap (Ac (Ab 5) (Ai Ge (Aa (Ab 3) (Aa (Ac (Ac (Ab 4) (fC (.int 1)) BB) (Ab 6) BB) Ad))) gtA))
   (C8 "Broken" (Aa (Ac (Ab 2) (Ab 6) AJ) (Aa (fC .non) Ad)))
   Au)))
 (Ao (nxD (AR (Aa (Ac (Ac (Ab 0) (fC (.int 1)) ixD) (Ab 5) AJ) (Aa (Ac (Ab 2) (Ab 4) AJ) Ad)))))))))
def De (Oi CN:Fn):M Out:=
 (Af (Cr 3 (Ai CN (Aa (Ac (Ab 0) (fC (.int 1)) ixD) (Aa (Ab 1) (Aa (Ab 2) Ad)))))
 (Af (Aw 4 (Ac (Ab 2) (fC (.int 1)) AJ))
 (Af (Aw 5 (fC (.str "")))
 (Af (BY (B4 (Aa (Ab 3) Ad)) (Ay 6)
   (Cr 5 (HK (Ab 5) (Ai Oi (Aa (Ab 1) (Aa (Ac (Ab 4) (Ab 6) AJ) Ad))) AJ)))
 (Ao (nxD (AR (Aa (Ab 5) (Aa (Ac (Ab 4) (Ab 3) AJ) Ad)))))))))
def E9 (Gc DQ:Fn):M Out:=
 (Af (Cr 2 (Ai DQ (Aa (Ab 0) (Aa (Ab 1) Ad))))
 (Af (ifS (Dh (Ap (Ai Gc (Aa (Ab 2) Ad))))
   (C8 "Broken" (Aa (Ab 1) (Aa (fC .non) Ad)))
   Au)
 (Ao (nxD (Ac (fC (.str " !\"#$ &'()*+,-./0123456789:;<=>?@ABCDEFGHIJKLMNOPQRSTUVWXYZ[\\]^_`abcdefghijklmnopqrstuvwxyz{|}~")) (Ac (Ab 2) (fC (.int 32)) BB) ixD)))))
def Dc (A4 CN:Fn):M Out:=
 (Af (Cr 3 (Ai CN (Aa (Ac (Ab 0) (fC (.int 2)) ixD) (Aa (Ab 1) (Aa (Ab 2) Ad)))))
 (Af (Aw 4 (Ac (Ab 2) (fC (.int 1)) AJ))
 (Af (Dk 5 (AI Ad))
 (Af (BY (B4 (Aa (Ab 3) Ad)) (Ay 6)
   (Af (Cr 7 (Ai A4 (Aa (Ac (Ab 0) (fC (.int 1)) ixD) (Aa (Ab 1) (Aa (Ab 4) Ad)))))
 (Af (ownM 5 Bx (Aa (Ac (Ab 7) (fC (.int 0)) ixD) Ad))
 (Aw 4 (Ac (Ab 7) (fC (.int 1)) ixD)))))
 (Ao (nxD (AR (Aa (Ab 5) (Aa (Ab 4) Ad)))))))))
def Dd (A4:Fn):M Out:=
 (Af (Cr 3 (Ai A4 (Aa (Ac (Ab 0) (fC (.int 1)) ixD) (Aa (Ab 1) (Aa (Ab 2) Ad)))))
 (Af (Cr 4 (Ai A4 (Aa (Ac (Ab 0) (fC (.int 2)) ixD) (Aa (Ab 1) (Aa (Ac (Ab 3) (fC (.int 1)) ixD) Ad)))))
 (Ao (nxD (AR (Aa (AR (Aa (Ac (Ab 3) (fC (.int 0)) ixD) (Aa (Ac (Ab 4) (fC (.int 0)) ixD) Ad))) (Aa (Ac (Ab 4) (fC (.int 1)) ixD) Ad)))))))
def CD (A4 CN:Fn):M Out:=
 (Af (Cr 3 (Ai CN (Aa (Ac (fB (Aa (Ac (Ab 0) (fC (.int 1)) ixD) Ad) AQ) (fC (.int 1)) BB) (Aa (Ab 1) (Aa (Ab 2) Ad)))))
 (Af (Cr 4 (Ai A4 (Aa (Ac (Ac (Ab 0) (fC (.int 1)) ixD) (Ab 3) ixD) (Aa (Ab 1) (Aa (Ac (Ab 2) (fC (.int 1)) AJ) Ad)))))
 (Ao (nxD (AR (Aa (AR (Aa (fC (.str "of")) (Aa (Ab 3) (Aa (Ac (Ab 4) (fC (.int 0)) ixD) Ad)))) (Aa (Ac (Ab 4) (fC (.int 1)) ixD) Ad)))))))
def CU:M Out:=
 (Af (ifS (Ap (Ac (Ab 1) (fB (Aa (Ab 0) Ad) AQ) ltA))
   (Ao (Ac (Ab 0) (Ab 1) ixD))
   Au)
 (Ao (fC (.int 0))))
def Cb (Jf:Fn):M Out:=
 (Af (Aw 2 (Ai Jf (Aa (Ab 0) (Aa (Ab 1) Ad))))
 (Ao (Fp [("rest",(Ab 2)),("mixed",(Ac (Ab 2) (Ac (fC (.int 10)) (fC (.int 12)) Hr) ltA)),("count",(Ac (fC (.int 3)) (Ac (fC (.int 5)) (Ab 1) D1) AJ))])))
def Cc:M Out:=
 (Af (Aw 2 (Ac (Ab 0) (fC (.str "rest")) AN))
 (Af (ifS (Dh (Ap (Ac (Ab 0) (fC (.str "mixed")) AN)))
   (Af (By (Ac (Ab 2) (Ab 1) HM) (Ck (Ab 0) (fC (.str "rest"))))
 (Ao (Ac (Ab 2) (Ab 1) Ev)))
   Au)
 (Af (By (Ac (Ac (Ab 0) (fC (.str "count")) AN) (fC (.int 1)) AJ) (Ck (Ab 0) (fC (.str "count"))))
 (Af (Aw 2 (Ac (Ac (Ab 2) (fC (.int 1000000000163)) Ev) (Ac (fC (.int 70001)) (Ac (Ab 0) (fC (.str "count")) AN) II) AJ))
 (Af (Aw 2 (Ac (Ac (Ab 2) (Ac (Ab 2) (fC (.int 29)) AJ) II) (fC (.int 1000000000193)) Ev))
 (Af (Aw 2 (Ac (Ac (Ab 2) (Ab 2) II) (fC (.int 999999999959)) Ev))
 (Af (By (Ab 2) (Ck (Ab 0) (fC (.str "rest"))))
 (Ao (Ac (Ac (Ab 2) (fC (.int 9)) HM) (Ab 1) Ev)))))))))
def Dx (Ak B0:Fn):M Out:=
 (Af (Aw 2 (Ai Ak (Aa (Ab 0) (Aa (Ac (fC (.int 3)) (Ac (fC (.int 3)) (fB (Aa (Ac (Ab 1) (fC (.int 0)) gtA) Ad) Ka) D1) AJ) Ad))))
 (Af (ifS (Ap (Ac (Ab 2) (fC (.int 0)) (eqS id)))
   (Ao (AR (Aa (fC (.str "nothing")) Ad)))
   Au)
 (Af (ifS (Ap (Ac (Ab 2) (fC (.int 1)) (eqS id)))
   (Af (Aw 3 (Ac (Av (AI (Aa (fC (.int 0)) (Aa (Ac (Ai Ak (Aa (Ab 0) (Aa (fC (.int 9)) Ad))) (fC (.int 4)) BB) (Aa (Ac (Ai Ak (Aa (Ab 0) (Aa (Ac (fC (.int 10)) (fC (.int 17)) Hr) Ad))) (Ac (fC (.int 10)) (fC (.int 16)) Hr) BB) Ad))))) (Ai Ak (Aa (Ab 0) (Aa (fC (.int 3)) Ad))) ixD))
 (Ao (AR (Aa (fC (.str "number")) (Aa (Ab 3) (Aa (Ac (Ab 3) (Ac (Av (AI (Aa (fC (.int 0)) (Aa (fC (.int 1)) (Aa (fC (.int 255)) (Aa (fC (.int 256)) (Aa (fC (.int 300)) (Aa (fC (.int 70000)) (Aa (Ai Ak (Aa (Ab 0) (Aa (Ac (fC (.int 10)) (fC (.int 17)) Hr) Ad))) Ad))))))))) (Ai Ak (Aa (Ab 0) (Aa (fC (.int 7)) Ad))) ixD) AJ) Ad))))))
   Au)
 (Af (ifS (Ap (Ac (Ab 2) (fC (.int 2)) (eqS id)))
   (Ao (AR (Aa (fC (.str "text")) (Aa (Ac (Av (AI (Aa (fC (.int 0)) (Aa (fC (.int 1)) (Aa (fC (.int 5)) (Aa (fC (.int 250)) Ad)))))) (Ai Ak (Aa (Ab 0) (Aa (fC (.int 4)) Ad))) ixD) Ad))))
   Au)
 (Af (ifS (Ap (Ac (Ab 2) (fC (.int 3)) (eqS id)))
   (Ao (AR (Aa (fC (.str "list")) (Aa (Ai B0 (Aa (Ab 0) (Aa (Ac (Ab 1) (fC (.int 1)) BB) Ad))) (Aa (Ac (Av (AI (Aa (fC (.int 0)) (Aa (fC (.int 2)) (Aa (fC (.int 6)) (Aa (fC (.int 250)) Ad)))))) (Ai Ak (Aa (Ab 0) (Aa (fC (.int 4)) Ad))) ixD) Ad)))))
   Au)
 (Af (ifS (Ap (Ac (Ab 2) (fC (.int 4)) (eqS id)))
   (Ao (AR (Aa (fC (.str "pair")) (Aa (Ai B0 (Aa (Ab 0) (Aa (Ac (Ab 1) (fC (.int 1)) BB) Ad))) (Aa (Ai B0 (Aa (Ab 0) (Aa (Ac (Ab 1) (fC (.int 1)) BB) Ad))) Ad)))))
   Au)
 (Ao (AR (Aa (fC (.str "choice")) (Aa (fB (Aa (Av (BL 1 [0,1] (B4 (Aa (Ac (fC (.int 1)) (Ai Ak (Aa (Ab 0) (Aa (fC (.int 3)) Ad))) AJ) Ad)) (Ay 0) D4 (Ai B0 (Aa (Ab 1) (Aa (Ac (Ab 2) (fC (.int 1)) BB) Ad))))) Ad) Kt) Ad))))))))))
def Dz (B1 Ak:Fn):M Out:=
 (Af (Aw 2 (Ac (Ab 1) (fC (.int 0)) ixD))
 (Af (ifS (Ap (Ac (Ab 2) (fC (.str "nothing")) (eqS id)))
   (Ao (fC .non))
   Au)
 (Af (ifS (Ap (Ac (Ab 2) (fC (.str "number")) (eqS id)))
   (Ao (Ac (Av (AI (Aa (Ac (Ab 1) (fC (.int 1)) ixD) (Aa (Ac (Ab 1) (fC (.int 2)) ixD) (Aa (Ac (Ac (Ab 1) (fC (.int 1)) ixD) (Ai Ak (Aa (Ab 0) (Aa (Ac (Ac (Ac (Ab 1) (fC (.int 2)) ixD) (Ac (Ab 1) (fC (.int 1)) ixD) BB) (fC (.int 1)) AJ) Ad))) AJ) Ad))))) (Ai Ak (Aa (Ab 0) (Aa (fC (.int 3)) Ad))) ixD))
   Au)
 (Af (ifS (Ap (Ac (Ab 2) (fC (.str "text")) (eqS id)))
   (Af (Aw 3 (fC (.str " !#09AZaz~{")))
 (Ao (joinM (fC (.str "")) (Aa (Av (BL 1 [3,0] (B4 (Aa (fB (Aa (Ac (Ab 1) (fC (.int 1)) ixD) (Aa (Ai Ak (Aa (Ab 0) (Aa (fC (.int 7)) Ad))) Ad)) FF) Ad)) (Ay 0) D4 (Ac (Ab 1) (Ai Ak (Aa (Ab 2) (Aa (fC (.int 11)) Ad))) ixD))) Ad))))
   Au)
 (Af (ifS (Ap (Ac (Ab 2) (fC (.str "list")) (eqS id)))
   (Ao (Av (BL 1 [0,1] (B4 (Aa (fB (Aa (Ac (Ab 1) (fC (.int 2)) ixD) (Aa (Ai Ak (Aa (Ab 0) (Aa (fC (.int 4)) Ad))) Ad)) FF) Ad)) (Ay 0) D4 (Ai B1 (Aa (Ab 1) (Aa (Ac (Ab 2) (fC (.int 1)) ixD) Ad))))))
   Au)
 (Af (ifS (Ap (Ac (Ab 2) (fC (.str "pair")) (eqS id)))
   (Ao (AR (Aa (Ai B1 (Aa (Ab 0) (Aa (Ac (Ab 1) (fC (.int 1)) ixD) Ad))) (Aa (Ai B1 (Aa (Ab 0) (Aa (Ac (Ab 1) (fC (.int 2)) ixD) Ad))) Ad))))
   Au)
 (Af (Aw 4 (Ai Ak (Aa (Ab 0) (Aa (fB (Aa (Ac (Ab 1) (fC (.int 1)) ixD) Ad) AQ) Ad))))
 (Ao (AR (Aa (fC (.str "of")) (Aa (Ab 4) (Aa (Ai B1 (Aa (Ab 0) (Aa (Ac (Ac (Ab 1) (fC (.int 1)) ixD) (Ab 4) ixD) Ad))) Ad))))))))))))
def C5 (Ak B0 Cm:Fn):M Out:=
 (Af (Aw 1 (Ai Cm (Aa (Ab 0) (Aa (fC (.int 0)) Ad))))
 (Af (Aw 2 (Ac (Av (AI (Aa (Ac (fC (.int 1)) (Ai Ak (Aa (Ab 1) (Aa (fC (.int 5)) Ad))) AJ) (Aa (Ac (fC (.int 1)) (Ai Ak (Aa (Ab 1) (Aa (fC (.int 9)) Ad))) AJ) (Aa (fC (.int 30)) Ad))))) (Ai Ak (Aa (Ab 1) (Aa (fC (.int 3)) Ad))) ixD))
 (Af (Dk 3 (AI Ad))
 (Af (BY (B4 (Aa (Ab 2) Ad)) (Ay 4)
   (Af (Aw 1 (Ai Cm (Aa (Ab 0) (Aa (Ac (fC (.int 1)) (Ac (Ab 4) (fC (.int 13)) Ev) AJ) Ad))))
 (Af (By (Ac (Ac (Ac (Ab 1) (fC (.str "rest")) AN) (Ac (fC (.int 1)) (Ac (Ab 4) (fC (.int 13)) Fq) AJ) Fq) (Ac (fC (.int 37)) (Ab 4) D1) AJ) (Ck (Ab 1) (fC (.str "rest"))))
 (ifS (JZ (Ap (Ac (Ai Ak (Aa (Ab 1) (Aa (fC (.int 6)) Ad))) (fC (.int 0)) (eqS id))) (Ap (Ac (Ab 4) (fC (.int 0)) gtA)))
   (ownM 3 Bx (Aa (AR (Aa (fC (.str "end")) Ad)) Ad))
   (Af (Aw 5 (Ac (Av (AI (Aa (fC (.str "left")) (Aa (fC (.str "right")) Ad)))) (Ai Ak (Aa (Ab 1) (Aa (fC (.int 2)) Ad))) ixD))
 (Af (Dk 6 (AI Ad))
 (Af (BY (B4 (Aa (Ac (Av (AI (Aa (fC (.int 1)) (Aa (fC (.int 2)) (Aa (fC (.int 3)) (Aa (fC (.int 9)) Ad)))))) (Ai Ak (Aa (Ab 1) (Aa (fC (.int 4)) Ad))) ixD) Ad)) (Ay 7)
   (Af (Aw 8 (Ac (Ac (fC (.str "abcdefghi")) (Ab 7) ixD) (Ac (Ac (fC (.str "xyz")) (Ai Ak (Aa (Ab 1) (Aa (fC (.int 3)) Ad))) ixD) (Ai Ak (Aa (Ab 1) (Aa (fC (.int 8)) Ad))) D1) AJ))
 (Af (Aw 9 (Ac (Av (AI (Aa (Ai Ak (Aa (Ab 1) (Aa (Ab 2) Ad))) (Aa (fB (Aa (Ac (Ab 2) (fC (.int 1)) BB) (Aa (Ac (Ab 4) (fC (.int 1)) AJ) Ad)) FF) Ad)))) (Ai Ak (Aa (Ab 1) (Aa (fC (.int 2)) Ad))) ixD))
 (ownM 6 Bx (Aa (AR (Aa (Ab 8) (Aa (Ai B0 (Aa (Ab 1) (Aa (Ai Ak (Aa (Ab 1) (Aa (fC (.int 3)) Ad))) Ad))) (Aa (Ab 9) Ad)))) Ad)))))
 (ownM 3 Bx (Aa (AR (Aa (Ab 5) (Aa (Ab 6) Ad))) Ad)))))))))
 (Ao (Ab 3))))))
def DZ (B1 Ak Cm:Fn):M Out:=
 (Af (Dk 4 (AI Ad))
 (Af (Aw 5 (fC (.int 0)))
 (Af (Dk 6 (AI (Aa (fC (.int 0)) Ad)))
 (Af (BY (Ez (Aa (Ab 2) (Aa (fB (Aa (fB (Aa (Ab 0) Ad) AQ) (Aa (Ab 3) Ad)) FF) Ad))) (Ay 7)
   (Af (Aw 8 (Ai Cm (Aa (Ab 0) (Aa (Ab 7) Ad))))
 (ifS (Ap (Ac (Ac (Ab 1) (Ab 5) ixD) (AR (Aa (fC (.str "end")) Ad)) (eqS λb=>!b)))
   (Af (By (Ac (Ab 1) (Ab 5) ixD) (unS 2 (AF (Ay 9) (AF (Ay 10) CP))))
 (Af (By (Ac (Ab 10) (Ai Ak (Aa (Ab 8) (Aa (fB (Aa (Ab 10) Ad) AQ) Ad))) ixD) (unS 3 (AF (Ay 11) (AF (Ay 12) (AF (Ay 13) CP)))))
 (Af (ownM 4 Bx (Aa (AR (Aa (Ab 9) (Aa (Ab 11) (Aa (Ai B1 (Aa (Ab 8) (Aa (Ab 12) Ad))) Ad)))) Ad))
 (Af (Aw 5 (Ab 13))
 (ownM 6 Bx (Aa (Ab 5) Ad))))))
   Au)))
 (Ao (Av (AI (Aa (Ab 4) (Aa (Ab 6) Ad)))))))))
def DA (Bz DC:Fn):M Out:=
 (Af (ifS (Dh (Ap (Ai DC (Aa (Ab 0) (Aa (Ab 1) Ad)))))
   (Fe "NoValue" (Aa (fC (.str "the value does not fit the shape")) Ad))
   Au)
 (Ao (nxD (Av (C3 Bz (Aa (Ab 0) (Aa (Ab 1) Ad)))))))
def Ee (A4:Fn):M Out:=
 (Af (ifS (Ap (Ac (Ab 2) (fB (Aa (Ab 1) Ad) AQ) geA))
   (Ao (nxD (fC .non)))
   Au)
 (Af (ifS (Ap (Ac (Ac (Ab 1) (Ab 2) ixD) (fB (Aa (Ac (Ab 0) (fC (.int 1)) ixD) Ad) AQ) geA))
   (C8 "Broken" (Aa (Ab 2) (Aa (Ac (Ab 0) (fC (.int 0)) ixD) Ad)))
   Au)
 (Af (Aw 3 (Ac (Ac (Ab 0) (fC (.int 1)) ixD) (Ac (Ab 1) (Ab 2) ixD) ixD))
 (Af (DB (Cr 4 (Ai A4 (Aa (Ac (Ab 3) (fC (.int 1)) ixD) (Aa (Ab 1) (Aa (Ac (Ab 2) (fC (.int 1)) AJ) Ad))))) (hNo "Short" (Ao (nxD (fC .non))) (hAs "Broken" 5 (C8 "Broken" (Aa (bnd (Ab 5) (Fv "at")) (Aa (Ac (Ab 0) (fC (.int 0)) ixD) Ad))) OD)))
 (Ao (nxD (AR (Aa (AR (Aa (Ac (Ab 0) (fC (.int 0)) ixD) (Aa (Ac (Ab 3) (fC (.int 0)) ixD) (Aa (Ac (Ab 4) (fC (.int 0)) ixD) Ad)))) (Aa (Ac (Ab 3) (fC (.int 2)) ixD) (Aa (Ac (Ab 4) (fC (.int 1)) ixD) Ad))))))))))
def Es (JW:Fn):M Out:=
 (Af (Dk 2 (AI Ad))
 (Af (Aw 3 (fC (.int 0)))
 (Af (BY (D9 (Ab 1)) (unS 3 (AF (Ay 4) (AF (Ay 5) (AF (Ay 6) CP))))
   (Af (Aw 7 (Ac (Ac (Ab 0) (Ab 3) ixD) (fC (.int 1)) ixD))
 (Af (Aw 8 (idxM (Av (BL 1 [] (D9 (Ab 7)) (Ay 0) D4 (Ac (Ab 0) (fC (.int 0)) ixD))) (Aa (Ab 5) Ad)))
 (Af (ownM 2 Bx (Aa (Ac (Av (AI (Aa (Ab 8) Ad))) (Ai (Hk JW) (Aa (Ac (Ac (Ab 7) (Ab 8) ixD) (fC (.int 1)) ixD) (Aa (Ab 6) Ad))) AJ) Ad))
 (Aw 3 (Ac (Ac (Ab 7) (Ab 8) ixD) (fC (.int 2)) ixD))))))
 (Ao (Ab 2)))))
def CT:M Out:=
 (Af (Aw 2 (Fp [("left",(Av (AI Ad))),("right",(Av (AI Ad)))]))
 (Af (BY (B4 (Aa (fB (Aa (Ab 0) Ad) AQ) Ad)) (Ay 3)
   (By (Ac (Ac (Ab 2) (Ac (Ac (Ab 0) (Ab 3) ixD) (fC (.int 0)) ixD) AN) (Ac (Ab 1) (Ab 3) ixD) AJ) (Ck (Ab 2) (Ac (Ac (Ab 0) (Ab 3) ixD) (fC (.int 0)) ixD))))
 (Ao (Ab 2))))
def Dy (A4:Fn):M Out:=
 (Af (DB (Of (Ai A4 (Aa (Ab 0) (Aa (Ab 1) (Aa (Ab 2) Ad)))) (unS 2 (AF (Ay 3) (AF (Ay 4) CP)))) (hNo "Short" (Ao (Av (AI (Aa (fC (.str "short")) (Aa (fC .non) (Aa (fC .non) Ad)))))) (hAs "Broken" 5 (Ao (Av (AI (Aa (fC (.str "broken")) (Aa (bnd (Ab 5) (Fv "at")) (Aa (fC .non) Ad)))))) OD)))
 (Ao (Av (AI (Aa (fC (.str "value")) (Aa (Ab 3) (Aa (Ab 4) Ad)))))))
def EY (Iw:Fn):M Out:=
 (Af (Dk 2 (AI Ad))
 (Af (Aw 3 (fC (.int 0)))
 (Af (Aw 4 (Fp [("left",(fC (.int 0))),("right",(fC (.int 0)))]))
 (Af (FY (Ap (Ac (Ac (Ab 0) (Ab 3) ixD) (AR (Aa (fC (.str "end")) Ad)) (eqS λb=>!b)))
   (Af (By (Ac (Ab 0) (Ab 3) ixD) (unS 2 (AF (Ay 5) (AF (Ay 6) CP))))
 (Af (Aw 7 (Ac (Ab 4) (Ab 5) AN))
 (Af (ifS (Ap (Ac (Ab 7) (fB (Aa (Ac (Ab 1) (Ab 5) AN) Ad) AQ) (eqS id)))
   (ret .brk)
   Au)
 (Af (Aw 8 (Ac (Ac (Ab 1) (Ab 5) AN) (Ab 7) ixD))
 (Af (ifS (Ap (Ac (Ab 8) (fB (Aa (Ab 6) Ad) AQ) geA))
   (Ao (Av (AI (Aa (Ab 2) (Aa (Ab 3) (Aa (Ab 4) (Aa (AR (Aa (Ab 7) (Aa (Ab 5) Ad))) Ad)))))))
   Au)
 (Af (By (Ai Iw (Aa (Ac (Ac (Ab 6) (Ab 8) ixD) (fC (.int 1)) ixD) (Aa (Ac (Ab 1) (Ab 5) AN) (Aa (Ac (Ab 7) (fC (.int 1)) AJ) Ad)))) (unS 3 (AF (Ay 9) (AF (Ay 10) (AF (Ay 11) CP)))))
 (Af (ifS (Ap (Ac (Ab 9) (fC (.str "broken")) (eqS id)))
   (Ao (Av (AI (Aa (Ab 2) (Aa (Ab 3) (Aa (Ab 4) (Aa (AR (Aa (Ab 10) (Aa (Ab 5) Ad))) Ad)))))))
   Au)
 (Af (ifS (Ap (Ac (Ab 9) (fC (.str "short")) (eqS id)))
   (ret .brk)
   Au)
 (Af (ownM 2 Bx (Aa (AR (Aa (Ab 5) (Aa (Ac (Ac (Ab 6) (Ab 8) ixD) (fC (.int 0)) ixD) (Aa (Ab 10) Ad)))) Ad))
 (Af (Aw 3 (Ac (Ac (Ab 6) (Ab 8) ixD) (fC (.int 2)) ixD))
 (By (Ab 11) (Ck (Ab 4) (Ab 5))))))))))))))
 (Ao (Av (AI (Aa (Ab 2) (Aa (Ab 3) (Aa (Ab 4) (Aa (fC .non) Ad)))))))))))
def DV (Jg:Fn):M Out:=
 (Af (D2 "grammar" (Ai Jg (Aa (Ab 1) Ad)) (Ab 0))
 (Af (D2 "standing" (fC (.int 0)) (Ab 0))
 (Af (D2 "wires" (Em []) (Ab 0))
 (Af (D2 "places" (Em []) (Ab 0))
 (BY (D9 (Ab 2)) (Ay 3)
   (Af (By (EO (AI Ad)) (Ck (D8 "wires" (Ab 0)) (Ab 3)))
 (By (fC (.int 0)) (Ck (D8 "places" (Ab 0)) (Ab 3)))))))))
def BO:M Out:=
 (Ao (D8 "standing" (Ab 0)))
def A1:M Out:=
 (Ao (Ac (fB (Aa (Ac (D8 "wires" (Ab 0)) (Ab 1) AN) Ad) AQ) (Ac (D8 "places" (Ab 0)) (Ab 1) AN) BB))
def DW (GL:Fn):M Out:=
 (Db (Ai GL (Aa (Ab 0) (Aa (Ab 1) (Aa (AR (Aa (fC (.str "left")) (Aa (fC (.str "right")) Ad))) Ad)))))
def Ep (JR:Fn):M Out:=
 (Ao (BX "Reader" JR (Ab 0) (Aa (Ab 1) (Aa (Ab 2) Ad))))
def BG (D5:Fn):M Out:=
 (Ao (AR (Aa (BX "Reader" D5 (Ab 0) (Aa (fC (.str "left")) Ad)) (Aa (BX "Reader" D5 (Ab 0) (Aa (fC (.str "right")) Ad)) Ad))))
def EZ (Ji:Fn):M Out:=
 (Af (Aw 4 (EO (AI Ad)))
 (Af (Aw 5 (Ab 1))
 (Af (Aw 6 (fB (Aa (Ab 3) Ad) HJ))
 (Af (FY (Ap (Ac (Ac (Ac (Ab 0) (Ab 5) ixD) (fC (.int 0)) ixD) (Ab 2) (inS false)))
   (Af (Aw 7 (Ac (Ac (Ab 0) (Ab 5) ixD) (fC (.int 0)) ixD))
 (Af (Cr 8 (Ai Ji (Aa (Ac (Ab 0) (Ab 5) ixD) (Aa (Ac (Ab 2) (Ab 7) AN) (Aa (Ac (Ab 6) (Ab 7) AN) Ad)))))
 (Af (ifS (Ap (Ac (Ab 8) (fC .non) isC))
   (ret .brk)
   Au)
 (Af (Db (objM Bx (Ab 4) (Aa (Ac (Ab 8) (fC (.int 0)) ixD) Ad)))
 (Af (Aw 5 (Ac (Ab 8) (fC (.int 1)) ixD))
 (By (Ac (Ab 8) (fC (.int 2)) ixD) (Ck (Ab 6) (Ab 7)))))))))
 (Ao (nxD (AR (Aa (Ab 4) (Aa (Ab 5) (Aa (Ab 6) Ad))))))))))
def Di (Px:Fn):M Out:=
 (Ao (Av (GV 1 [] (Oq (Ab 0)) (Ay 0) D4 (fIf (Ap (Ai Px (Aa (Ab 0) Ad))) (Ab 0) (AR (Aa (Ac (Ab 0) (fC (.int 0)) ixD) (Aa (Av (fBF (Aa (Ac (Ab 0) (fC (.int 1)) ixD) Ad) Go)) Ad)))))))
def DY:M Out:=
 (FG (BL 1 [] (D9 (Ab 0)) (Ay 0) D4 (fIf (Ap (Ac (fB (Aa (Ab 0) Ad) AQ) (fC (.int 1)) (eqS id))) (Ab 0) (AR (Aa (Ac (Ab 0) (fC (.int 0)) ixD) (Aa (Av (fBF (Aa (Ac (Ab 0) (fC (.int 1)) ixD) Ad) Go)) Ad))))))
def Ec (JS:Fn):M Out:=
 (Af (Aw 3 (fC .non))
 (Af (Aw 4 (fC .non))
 (Af (DB (Cr 3 (BX "Reader" JS (Ab 0) (Aa (Ab 1) (Aa (Ab 2) Ad)))) (hAs "Broken" 5 (Aw 4 (AR (Aa (bnd (Ab 5) (Fv "at")) (Aa (bnd (Ab 5) (Fv "side")) Ad)))) OD))
 (Ao (Av (AI (Aa (Ab 3) (Aa (Ab 4) Ad))))))))
def EX (Du DP Fw EM Ak:Fn):M Out:=
 (Af (By (Ab 0) (unO 5 (AF (Ay 2) (AF (Ay 3) (AF (Ay 4) (AF (Ay 5) (AF (Ay 6) CP)))))))
 (Af (Aw 7 (Ac (Av (AI (Aa (fC (.str "left")) (Aa (fC (.str "right")) Ad)))) (Ai Ak (Aa (Ab 1) (Aa (fC (.int 2)) Ad))) ixD))
 (Af (Aw 8 (Ai Ak (Aa (Ab 1) (Aa (fC (.int 12)) Ad))))
 (Af (Aw 9 (EO (Os (Ac (Ab 4) (Ab 7) AN) fNo (DS (Ab 8)))))
 (Af (ifS (Ap (Ac (Ai Ak (Aa (Ab 1) (Aa (fC (.int 9)) Ad))) (fC (.int 0)) (eqS id)))
   (Aw 9 (EO (bnd (Ab 9) λx=>bnd (Av (AI (Aa (fC (.int 255)) Ad))) λy=>LR x y)))
   Au)
 (Af (By (fSl (Ac (Ab 4) (Ab 7) AN) (DS (Ab 8)) fNo Dn) (Ck (Ab 4) (Ab 7)))
 (Af (By (Av (bnd (Ac (Ab 5) (Ab 7) AN) λx=>bnd (Ab 9) λy=>HI x y)) (Ck (Ab 5) (Ab 7)))
 (Af (By (Ai EM (Aa (Ab 2) (Aa (Ab 5) Ad))) (unS 4 (AF (Ay 10) (AF (Ay 11) (AF (Ay 12) (AF (Ay 13) CP))))))
 (Af (Aw 14 (Ai Fw (Aa (Ab 3) (Aa (Ab 7) (Aa (Ab 9) Ad)))))
 (Af (Db (IL (Ab 9)))
 (Af (ifS (Ap (Ac (Ab 13) (fC .non) ET))
   (Ao (Ac (Ab 14) (Av (AI (Aa (fC .non) (Aa (Ab 13) Ad)))) (eqO id)))
   Au)
 (Af (ifS (fOr (Ap (Ac (Ab 14) (Av (AI (Aa (fSl (Ab 10) (DS (Ab 6)) fNo Dn) (Aa (fC .non) Ad)))) (eqO λb=>!b))) (Ap (Ac (BX "Reader" DP (Ab 3) (ret [])) (Ab 11) (eqS λb=>!b))))
   (Ao (fC (.bl false)))
   Au)
 (Af (Db (objM Bx (Ac (Ab 14) (fC (.int 0)) ixD) (Aa (fC .non) Ad)))
 (Af (By (fB (Aa (Ab 10) Ad) AQ) (stD (Ab 0) (fC (.int 4))))
 (Ao (Ac (BX "Reader" Du (Ab 3) (ret [])) (AR (Aa (Ac (fB (Aa (Ac (Ab 5) (fC (.str "left")) AN) Ad) AQ) (Ac (Ab 12) (fC (.str "left")) AN) BB) (Aa (Ac (fB (Aa (Ac (Ab 5) (fC (.str "right")) AN) Ad) AQ) (Ac (Ab 12) (fC (.str "right")) AN) BB) Ad))) (eqS id)))))))))))))))))
def Hd (Ak LI Cm GM KU GD LG LH DR:Fn):M Out:=
 (Af (Aw 1 (Av (AI (Aa (Ai DR (Aa (Ab 0) Ad)) (Aa (Ai DR (Aa (fSl (Ab 0) (DS (fC (.int 20))) fNo Dn) Ad)) (Aa (Ai DR (Aa (Ab 0) Ad)) Ad))))))
 (Af (Dk 2 (AI Ad))
 (Af (BY (B4 (Aa (fC (.int 3)) Ad)) (Ay 3)
   (Af (Aw 4 (Ac (Ab 1) (Ab 3) ixD))
 (Af (Aw 5 (Ac (Ai LH (Aa (Ac (Av (AI (Aa (Ab 0) (Aa (fSl (Ab 0) (DS (fC (.int 20))) fNo Dn) (Aa (Ab 0) Ad))))) (Ab 3) ixD) (Aa (Ab 4) (Aa (fC (.int 14)) (Aa (fC (.int 40)) Ad))))) (fC (.int 0)) ixD))
 (Af (Aw 6 (EO (C3 LG (Aa (Ab 4) Ad))))
 (Af (Aw 7 (Ai GD (Aa (Ab 5) (Aa (Ai KU (Aa (Ab 4) (Aa (Ab 5) Ad))) Ad))))
 (Af (ownM 2 Bx (Aa (EO (AI (Aa (Ab 4) (Aa (Ld "Reader" GM (Aa (Ab 6) Ad)) (Aa (Ab 7) (Aa (Fp [("left",(Av (AI Ad))),("right",(Av (AI Ad)))]) (Aa (fC (.int 0)) Ad))))))) Ad))
 (Db (IL (Ab 6)))))))))
 (Af (BY (Ez (Aa (fC (.int 22)) (Aa (fC (.int 63)) Ad))) (Ay 3)
   (Af (Aw 8 (Ai Cm (Aa (Ab 0) (Aa (Ab 3) Ad))))
 (ifS (Dh (Ap (Ai LI (Aa (FM 2 (Ai Ak (Aa (Ab 8) (Aa (fC (.int 3)) Ad)))) (Aa (Ab 8) Ad)))))
   (Ao (fC (.bl false)))
   Au)))
 (Ao (fC (.bl true)))))))
def Dw (Oh:Fn):M Out:=
 (Af (Db (objX (Ac (D8 "wires" (Ab 0)) (Ab 1) AN) (Aa (Ab 2) Ad)))
 (Af (Cr 3 (Ai Oh (Aa (D8 "grammar" (Ab 0)) (Aa (D8 "standing" (Ab 0)) (Aa (D8 "wires" (Ab 0)) (Aa (D8 "places" (Ab 0)) Ad))))))
 (Af (D2 "standing" (Ac (Ab 3) (fC (.int 1)) ixD) (Ab 0))
 (Af (D2 "places" (Ac (Ab 3) (fC (.int 2)) ixD) (Ab 0))
 (Ao (nxD (Ac (Ab 3) (fC (.int 0)) ixD)))))))
end LW
namespace F2
open PySem L2
def W {α:Type}(m:M α)(t:T)(P:α->T->Prop):Prop:=∃a t',m t=some (a,t')/\P a t'
def Wf (g:Fn)(ds:List D)(S:List Ob)(P:D->List Ob->Prop):Prop:=∃r S',g ds S=some (r,S')/\P r S'
theorem W.mono {α:Type}{m:M α}{t:T}{P Q:α->T->Prop}(h:W m t P)(i:∀a t',P a t'->Q a t'):W m t Q:=by
 obtain ⟨a,t',e,p⟩:=h;exact ⟨a,t',e,i a t' p⟩
theorem Wf.mono {g:Fn}{ds:List D}{S:List Ob}{P Q:D->List Ob->Prop}(h:Wf g ds S P)(i:∀r S',P r S'->Q r S'):Wf g ds S Q:=by
 obtain ⟨a,t',e,p⟩:=h;exact ⟨a,t',e,i a t' p⟩
section
variable {α β:Type}
theorem Ar {m:M α}{t:T}{P:α->T->Prop}{a:α}{t':T}(e:m t=some (a,t')):W m t P↔P a t':=by
 constructor
 ·rintro ⟨a',t1,e',p⟩;rw [e] at e';cases e';exact p
 ·exact λp=>⟨a,t',e,p⟩
theorem DO {m:M α}{t:T}{P:α->T->Prop}(e:m t=none):W m t P↔False:=by
 constructor
 ·rintro ⟨a',t1,e',p⟩;rw [e] at e';cases e'
 ·exact False.elim
@[simp] theorem W_ret {a:α} {t:T} {P:α->T->Prop}:W (ret a) t P↔P a t:=Ar rfl
@[simp] theorem W_fail {t:T} {P:α->T->Prop}:W (fail:M α) t P↔False:=DO rfl
@[simp] theorem W_bnd {f:M α} {g:α->M β} {t:T} {P:β->T->Prop}:W (bnd f g) t P↔W f t λa t1=>W (g a) t1 P:=by
 constructor
 ·rintro ⟨b,t',e,p⟩;obtain ⟨a,t1,e1,e2⟩:=Ae e;exact ⟨a,t1,e1,b,t',e2,p⟩
 ·rintro ⟨a,t1,e1,b,t',e2,p⟩;exact ⟨b,t',by unfold bnd;rw [e1];exact e2,p⟩
@[simp] theorem Uf {c:Prop} [Decidable c] {f g:M α} {t:T} {P:α->T->Prop}:W (if c then f else g) t P↔if c then W f t P else W g t P:=by split <;> rfl
@[simp] theorem dg {n:Nat} {a:α} {t:T} {P:α->T->Prop}:W (lim n a) t P↔n<=LIM/\P a t:=by
 unfold lim;constructor
 ·rintro ⟨a',t',e,p⟩
  split at e
  ·cases e;exact ⟨by assumption,p⟩
  ·cases e
 ·rintro ⟨h,p⟩;exact ⟨a,t,by simp only [h,if_true],p⟩
end
variable {t:T}{env:List (Option Sl)}{S:List Ob}
@[simp] theorem W_fC {d:D} {P:D->T->Prop}:W (fC d) t P↔P d t:=Ar rfl
@[simp] theorem Pv {i:Nat} {P:D->T->Prop}:W (Ab i) t P↔match t.env[i]? with
 | some (some (.val d))=>P d t
 | some (some (.own ds))=>P (.lst ds) ⟨t.env.set i (some (.val (.lst ds))),t.S⟩
 | _=>False:=by
 cases e:t.env[i]? with
 | none=>exact DO (by unfold Ab;simp [e])
 | some o=>
   cases o with
   | none=>exact DO (by unfold Ab;simp [e])
   | some sl=>
     cases sl with
     | val d=>exact Ar (by unfold Ab;simp [e])
     | own ds=>exact Ar (by unfold Ab;simp [e])
@[simp] theorem W_fBin {f g:M D} {h:D->D->M D} {P:D->T->Prop}:W (Ac f g h) t P↔W f t λx t1=>W g t1 λy t2=>W (h x y) t2 P:=by simp [Ac]
@[simp] theorem W_fUn {f:M D} {h:D->M D} {P:D->T->Prop}:W (fUn f h) t P↔W f t λx t1=>W (h x) t1 P:=by simp [fUn]
@[simp] theorem W_toB {b:Bool} {P:Bool->T->Prop}:W (toB (.bl b)) t P↔P b t:=Ar rfl
@[simp] theorem W_fTst {f:M D} {P:Bool->T->Prop}:W (Ap f) t P↔W f t λx t1=>W (toB x) t1 P:=by simp [Ap]
@[simp] theorem W_fChain {f g w:M D} {h h':D->D->M D} {P:D->T->Prop}:W (El f g w h h') t P↔W f t λx t1=>W g t1 λy t2=>W (h x y) t2 λk t3=>W (toB k) t3 λk t4=>if k=true then W w t4 λz t5=>W (h' y z) t5 P else P (.bl false) t4:=by
 simp [El]
@[simp] theorem W_fAnd {f g:M Bool} {P:Bool->T->Prop}:W (JZ f g) t P↔W f t λk t1=>if k=true then W g t1 P else P false t1:=by simp [JZ]
@[simp] theorem W_fOr {f g:M Bool} {P:Bool->T->Prop}:W (fOr f g) t P↔W f t λk t1=>if k=true then P true t1 else W g t1 P:=by simp [fOr]
@[simp] theorem W_fNot {f:M Bool} {P:Bool->T->Prop}:W (Dh f) t P↔W f t λk t1=>P (!k) t1:=by simp [Dh]
@[simp] theorem W_fAndV {f g:M D} {P:D->T->Prop}:W (Ey f g) t P↔W f t λx t1=>W (toB x) t1 λk t2=>if k=true then W g t2 P else P (.bl false) t2:=by simp [Ey]
@[simp] theorem c8 {f g:M D} {P:D->T->Prop}:W (Xd f g) t P↔W f t λx t1=>W (toB x) t1 λk t2=>if k=true then P (.bl true) t2 else W g t2 P:=by simp [Xd]
@[simp] theorem W_fNotV {f:M D} {P:D->T->Prop}:W (Jm f) t P↔W f t λx t1=>W (toB x) t1 λk t2=>P (.bl (!k)) t2:=by simp [Jm]
@[simp] theorem W_fIf {f:M Bool} {g h:M D} {P:D->T->Prop}:W (fIf f g h) t P↔W f t λk t1=>if k=true then W g t1 P else W h t1 P:=by simp [fIf]
@[simp] theorem W_fNil {P:List D->T->Prop}:W Ad t P↔P [] t:=Ar rfl
@[simp] theorem W_fCons {f:M D} {g:M (List D)} {P:List D->T->Prop}:W (Aa f g) t P↔W f t λd t1=>W g t1 λds t2=>P (d :: ds) t2:=by simp [Aa]
@[simp] theorem W_fTup {f:M (List D)} {P:D->T->Prop}:W (AR f) t P↔W f t λds t1=>ds.length<=LIM/\P (.tup ds) t1:=by simp [AR]
@[simp] theorem W_fLst {f:M (List D)} {P:List D->T->Prop}:W (AI f) t P↔W f t λds t1=>ds.length<=LIM/\P ds t1:=by simp [AI]
@[simp] theorem W_fPure {f:M (List D)} {P:D->T->Prop}:W (Av f) t P↔W f t λds t1=>P (.lst ds) t1:=by simp [Av]
@[simp] theorem W_newOb {o:Ob} {P:D->T->Prop}:W (OL o) t P↔P (.obj t.S.length) ⟨t.env,t.S++[o]⟩:=Ar rfl
@[simp] theorem WW {f:M (List D)} {P:D->T->Prop}:W (EO f) t P↔W f t λds t1=>W (OL (.lst ds)) t1 P:=by simp [EO]
@[simp] theorem W_fCall {g:Fn} {f:M (List D)} {P:D->T->Prop}:W (Ai g f) t P↔W f t λds t1=>Wf g ds t1.S λr S'=>P r ⟨t1.env,S'⟩:=by
 unfold Ai;rw [W_bnd];constructor
 ·rintro ⟨ds,t1,e1,r,t',e2,p⟩;refine ⟨ds,t1,e1,?_⟩;dsimp only at e2
  cases e:g ds t1.S with
  | none=>rw [e] at e2;cases e2
  | some z=>obtain ⟨r',S'⟩:=z;rw [e] at e2;cases e2;exact ⟨r,_,e,p⟩
 ·rintro ⟨ds,t1,e1,r,S',e2,p⟩;exact ⟨ds,t1,e1,r,_,by simp only [e2],p⟩
@[simp] theorem W_fB {f:M (List D)} {h:List D->M D} {P:D->T->Prop}:W (fB f h) t P↔W f t λds t1=>W (h ds) t1 P:=by simp [fB]
@[simp] theorem W_fBF {f:M (List D)} {h:List D->M (List D)} {P:List D->T->Prop}:W (fBF f h) t P↔W f t λds t1=>W (h ds) t1 P:=by simp [fBF]
@[simp] theorem W_seqS {f g:M Out} {P:Out->T->Prop}:W (Af f g) t P↔W f t λo t1=>match o with
 | .next=>W g t1 P
 | .brk=>P .brk t1
 | .cont=>P .cont t1
 | .ret d=>P (.ret d) t1:=by
 unfold Af;constructor
 ·rintro ⟨o,t',e,p⟩;dsimp only at e
  cases e1:f t with
  | none=>rw [e1] at e;cases e
  | some z=>
    obtain ⟨o1,t1⟩:=z;rw [e1] at e;refine ⟨o1,t1,e1,?_⟩
    cases o1 with
    | next=>exact ⟨o,t',e,p⟩
    | brk=>cases e;exact p
    | cont=>cases e;exact p
    | ret d=>cases e;exact p
 ·rintro ⟨o,t1,e,p⟩
  cases o with
  | next=>obtain ⟨o,t',e',p⟩:=p;exact ⟨o,t',by simp only [e];exact e',p⟩
  | brk=>exact ⟨_,_,by simp only [e],p⟩
  | cont=>exact ⟨_,_,by simp only [e],p⟩
  | ret d=>exact ⟨_,_,by simp only [e],p⟩
@[simp] theorem W_skipS {P:Out->T->Prop}:W Au t P↔P .next t:=Ar rfl
@[simp] theorem W_retS {f:M D} {P:Out->T->Prop}:W (Ao f) t P↔W f t λd t1=>P (.ret d) t1:=by simp [Ao]
@[simp] theorem W_dropS {f:M D} {P:Out->T->Prop}:W (Db f) t P↔W f t λd t1=>P .next t1:=by simp [Db]
@[simp] theorem W_ifS {f:M Bool} {g h:M Out} {P:Out->T->Prop}:W (ifS f g h) t P↔W f t λk t1=>if k=true then W g t1 P else W h t1 P:=by simp [ifS]
@[simp] theorem W_putV {i:Nat} {d:D} {P:Unit->T->Prop}:W (Ay i d) t P↔P () ⟨t.env.set i (some (.val d)),t.S⟩:=Ar rfl
@[simp] theorem W_setS {i:Nat} {f:M D} {P:Out->T->Prop}:W (Aw i f) t P↔W f t λd t1=>P .next ⟨t1.env.set i (some (.val d)),t1.S⟩:=by
 simp only [Aw,W_bnd,W_ret,W_putV]
@[simp] theorem W_ownS {i:Nat} {f:M (List D)} {P:Out->T->Prop}:W (Dk i f) t P↔W f t λds t1=>P .next ⟨t1.env.set i (some (.own ds)),t1.S⟩:=by
 unfold Dk;rw [W_bnd];have:∀(ds:List D) (t1:T),W (λt:T=>some (Out.next,({ t with env:=t.env.set i (some (.own ds)) }:T))) t1 P↔P .next ⟨t1.env.set i (some (.own ds)),t1.S⟩:=λds t1=>Ar rfl;simp only [this]
@[simp] theorem W_asgS {f:M D} {g:D->M Unit} {P:Out->T->Prop}:W (By f g) t P↔W f t λd t1=>W (g d) t1 λ_ t2=>P .next t2:=by simp [By]
@[simp] theorem W_putNil {P:Unit->T->Prop}:W (CP []) t P↔P () t:=Ar rfl
@[simp] theorem W_putCons {f:D->M Unit} {g:List D->M Unit} {d:D} {ds:List D} {P:Unit->T->Prop}:W (AF f g (d :: ds)) t P↔W (f d) t λ_ t1=>W (g ds) t1 P:=by simp [AF]
@[simp] theorem W_unS_lst {n:Nat} {g:List D->M Unit} {ds:List D} {P:Unit->T->Prop}:W (unS n g (.lst ds)) t P↔ds.length=n/\W (g ds) t P:=by
 unfold unS;simp only [Uf,W_fail];split <;> simp [*]
@[simp] theorem W_unS_tup {n:Nat} {g:List D->M Unit} {ds:List D} {P:Unit->T->Prop}:W (unS n g (.tup ds)) t P↔ds.length=n/\W (g ds) t P:=by
 unfold unS;simp only [Uf,W_fail];split <;> simp [*]
@[simp] theorem W_forS {f:M (List D)} {st:D->M Unit} {b:M Out} {P:Out->T->Prop}:W (BY f st b) t P↔W f t λds t1=>W (Cn st b ds) t1 P:=by simp [BY]
@[simp] theorem W_forL_nil {st:D->M Unit} {b:M Out} {P:Out->T->Prop}:W (Cn st b []) t P↔P .next t:=Ar rfl
theorem W_forL_cons {st:D->M Unit}{b:M Out}{d:D}{r:List D}{P:Out->T->Prop}:W (Cn st b (d :: r)) t P↔W (st d) t λ_ t1=>W b t1 λo t2=>match o with
 | .next=>W (Cn st b r) t2 P
 | .cont=>W (Cn st b r) t2 P
 | .brk=>P .next t2
 | .ret x=>P (.ret x) t2:=by
 constructor
 ·rintro ⟨o,t',e,p⟩;unfold Cn at e
  cases e1:st d t with
  | none=>rw [e1] at e;cases e
  | some z=>
    obtain ⟨u,t1⟩:=z;rw [e1] at e
    try dsimp only at e
    refine ⟨u,t1,e1,?_⟩
    cases e2:b t1 with
    | none=>rw [e2] at e;cases e
    | some z=>
      obtain ⟨o2,t2⟩:=z;rw [e2] at e
      try dsimp only at e
      refine ⟨o2,t2,e2,?_⟩
      cases o2 with
      | next=>exact ⟨o,t',e,p⟩
      | cont=>exact ⟨o,t',e,p⟩
      | brk=>cases e;exact p
      | ret x=>cases e;exact p
 ·rintro ⟨u,t1,e1,o,t2,e2,p⟩
  cases o with
  | next=>obtain ⟨o,t',e',p⟩:=p;exact ⟨o,t',by unfold Cn;simp only [e1,e2];exact e',p⟩
  | cont=>obtain ⟨o,t',e',p⟩:=p;exact ⟨o,t',by unfold Cn;simp only [e1,e2];exact e',p⟩
  | brk=>exact ⟨_,_,by unfold Cn;simp only [e1,e2],p⟩
  | ret x=>exact ⟨_,_,by unfold Cn;simp only [e1,e2],p⟩
theorem Cu {st:D->M Unit}{b:M Out}{P:Out->T->Prop}(I:List D->T->Prop):∀(ds:List D) (t:T),I ds t->
 (∀d r t,I (d :: r) t->d∈ds->W (st d) t λ_ t1=>W b t1 λo t2=>match o with
   | .next=>I r t2
   | .cont=>I r t2
   | .brk=>P .next t2
   | .ret x=>P (.ret x) t2)->(∀t,I [] t->P .next t)->W (Cn st b ds) t P
 | [],t,h,_,fin=>W_forL_nil.mpr (fin t h)
 | d :: r,t,h,turn,fin=>by
   rw [W_forL_cons];refine (turn d r t h uf3).mono λ_ t1 h1=>h1.mono λo t2 h2=>?_
   cases o with
   | next=>exact Cu I r t2 h2 (λd' r' t' h' m=>turn d' r' t' h' (ud8 _ m)) fin
   | cont=>exact Cu I r t2 h2 (λd' r' t' h' m=>turn d' r' t' h' (ud8 _ m)) fin
   | brk=>exact h2
   | ret x=>exact h2
@[simp] theorem W_fComp {n:Nat} {fr:List Nat} {f:M (List D)} {st:D->M Unit} {tst:M Bool} {elt:M D} {P:List D->T->Prop}:W (BL n fr f st tst elt) t P↔W f t λds t1=>W (B3 st tst elt ds) ⟨cenv n fr t1.env,t1.S⟩ λxs t'=>xs.length<=LIM/\P xs ⟨t1.env,t'.S⟩:=by
 unfold BL;rw [W_bnd];constructor
 ·rintro ⟨ds,t1,e1,xs,t',e2,p⟩;refine ⟨ds,t1,e1,?_⟩;dsimp only at e2
  cases e:B3 st tst elt ds ⟨cenv n fr t1.env,t1.S⟩ with
  | none=>rw [e] at e2;cases e2
  | some z=>
    obtain ⟨ys,t3⟩:=z;rw [e] at e2;dsimp only at e2
    split at e2
    ·cases e2;exact ⟨_,_,e,by assumption,p⟩
    ·cases e2
 ·rintro ⟨ds,t1,e1,xs,t',e2,h,p⟩;exact ⟨ds,t1,e1,xs,_,by simp only [e2,h,if_true],p⟩
@[simp] theorem W_compL_nil {st:D->M Unit} {tst:M Bool} {elt:M D} {P:List D->T->Prop}:W (B3 st tst elt []) t P↔P [] t:=Ar rfl
theorem GI {st:D->M Unit}{tst:M Bool}{elt:M D}{d:D}{r:List D}{P:List D->T->Prop}:W (B3 st tst elt (d :: r)) t P↔W (st d) t λ_ t1=>W tst t1 λk t2=>
 if k=true then W elt t2 λx t3=>W (B3 st tst elt r) t3 λxs t4=>P (x :: xs) t4 else W (B3 st tst elt r) t2 P:=by
 rw [B3];simp
theorem FL {st:D->M Unit}{tst:M Bool}{elt:M D}{P:List D->T->Prop}(I:List D->List D->T->Prop):∀(ds:List D) (acc:List D) (t:T),I acc ds t->
 (∀acc d r t,I acc (d :: r) t->d∈ds->W (st d) t λ_ t1=>W tst t1 λk t2=>if k=true then W elt t2 λx t3=>I (acc++[x]) r t3 else I acc r t2)->
 (∀acc t,I acc [] t->P acc t)->W (B3 st tst elt ds) t λxs t'=>P (acc++xs) t'
 | [],acc,t,h,_,fin=>W_compL_nil.mpr (by rw [uj2];exact fin acc t h)
 | d :: r,acc,t,h,turn,fin=>by
   rw [GI];have turn':∀acc d' r' t',I acc (d' :: r') t'->d'∈r->_:=λacc d' r' t' h' m=>turn acc d' r' t' h' (ud8 _ m);refine (turn acc d r t h uf3).mono λ_ t1 h1=>h1.mono λk t2 h2=>?_
   cases k with
   | true=>
     rw [if_pos rfl] at h2 ⊢;refine h2.mono λx t3 h3=>(FL I r (acc++[x]) t3 h3 turn' fin).mono λxs t4 h4=>?_;rw [ug6] at h4;exact h4
   | false=>
     rw [if_neg uf4] at h2 ⊢;exact FL I r acc t2 h2 turn' fin
theorem Aq {n m:Nat}{g:M Out}{ds:List D}{P:D->List Ob->Prop}(h:ds.length=n)(w:W g ⟨env0 m ds,S⟩ λo t=>match o with
 | .ret r=>P r t.S
 | .next=>P .non t.S
 | _=>False):Wf (fnOf n m g) ds S P:=by
 obtain ⟨o,t,e,p⟩:=w
 cases o with
 | ret r=>exact ⟨r,t.S,by unfold fnOf;rw [if_pos h,e],p⟩
 | next=>exact ⟨.non,t.S,by unfold fnOf;rw [if_pos h,e],p⟩
 | brk=>exact p.elim
 | cont=>exact p.elim
@[simp] theorem W_tTru {P:Bool->T->Prop}:W D4 t P↔P true t:=Ar rfl
@[simp] theorem c7 {P:D->T->Prop}:W ba t P↔P .dic t:=Ar rfl
end F2
namespace F2
open PySem L2
variable {t:T}{P:D->T->Prop}
theorem La {α β:Type}{o:Option β}{g:β->α×T}{Q:α->T->Prop}{m:M α}(e:m t=o.map g):W m t Q↔∃b,o=some b/\Q (g b).1 (g b).2:=by
 constructor
 ·rintro ⟨a,t',e',p⟩;rw [e] at e';obtain ⟨b,h1,h2⟩:=uc8.mp e';exact ⟨b,h1,by rw [h2];exact p⟩
 ·rintro ⟨b,h,p⟩;exact ⟨_,_,by rw [e,h];rfl,p⟩
theorem Od {α:Type}{c:Prop}[Decidable c]{z:α×T}{Q:α->T->Prop}{m:M α}(e:m t=if c then some z else none):W m t Q↔c/\Q z.1 z.2:=by
 constructor
 ·rintro ⟨a,t',e',p⟩;rw [e] at e'
  split at e'
  ·cases e';exact ⟨by assumption,p⟩
  ·cases e'
 ·rintro ⟨h,p⟩;exact ⟨_,_,by rw [e,if_pos h],p⟩
theorem Lz {α β:Type}{o:Option β}(f:β->α){Q:α->T->Prop}{m:M α}(e:m t=o.map λb=>(f b,t)):W m t Q↔∃b,o=some b/\Q (f b) t:=La (g:=λb=>(f b,t)) e
theorem HG {α:Type}{c:Prop}[Decidable c]{a:α}{Q:α->T->Prop}{m:M α}(e:m t=if c then some (a,t) else none):W m t Q↔c/\Q a t:=Od (z:=(a,t)) e
@[simp] theorem W_ix_tup {ds:List D} {i:Int}:W (ixD (.tup ds) (.int i)) t P↔∃d,atI ds i=some d/\P d t:=Lz id rfl
@[simp] theorem W_ix_lst {ds:List D} {i:Int}:W (ixD (.lst ds) (.int i)) t P↔∃d,atI ds i=some d/\P d t:=Lz id rfl
@[simp] theorem W_ix_scr {ns:List Int} {i:Int}:W (ixD (.scr ns) (.int i)) t P↔∃n,atI ns i=some n/\P (.int n) t:=Lz D.int rfl
@[simp] theorem W_ix_str {x:Str} {i:Int}:W (ixD (.str x) (.int i)) t P↔x.length<=LIM/\∃n,atI x.cps.toList i=some n/\P (.str ⟨#[n]⟩) t:=by
 by_cases h:x.length<=LIM
 ·have:ixD (.str x) (.int i) t=(atI x.cps.toList i).map λn=>(.str ⟨#[n]⟩,t):=by simp only [ixD,h,if_true]
  rw [La this];simp [h]
 ·rw [DO (by simp only [ixD,h,if_false])];simp [h]
@[simp] theorem W_ix_obj {k:Nat} {i:Int}:W (ixD (.obj k) (.int i)) t P↔∃ds,t.S[k]?=some (.lst ds)/\∃d,atI ds i=some d/\P d t:=by
 cases e:t.S[k]? with
 | none=>rw [DO (by simp only [ixD,e])];simp
 | some o=>
   cases o with
   | dct _ | ins _ _=>rw [DO (by simp only [ixD,e])];simp
   | lst ds=>
     have:ixD (.obj k) (.int i) t=(atI ds i).map λd=>(d,t):=by simp only [ixD,e]
     rw [La this];simp
@[simp] theorem Og {α:Type} {a:α} {r:List α}:atI (a :: r) 0=some a:=by simp [atI,ixN]
@[simp] theorem Ug {α:Type} {a b:α} {r:List α}:atI (a :: b :: r) 1=some b:=by
 have:(1:Int) < ((a :: b :: r).length:Nat):=by simp;lia
 simp only [atI,ixN,this,if_true,show (0:Int)<=1 by decide];rfl
@[simp] theorem Uh {α:Type} {a b c:α} {r:List α}:atI (a :: b :: c :: r) 2=some c:=by
 have:(2:Int) < ((a :: b :: c :: r).length:Nat):=by simp;lia
 simp only [atI,ixN,this,if_true,show (0:Int)<=2 by decide];rfl
theorem UK {α:Type}{xs:List α}{i:Int}(h0:0<=i)(h1:i < xs.length):∃d,atI xs i=some d/\d∈xs/\xs[i.toNat]?=some d:=by
 have hl:i.toNat < xs.length:=by lia
 refine ⟨xs[i.toNat],?_,ui4 hl,ub6 hl⟩;simp [atI,ixN,h0,h1,hl]
@[simp] theorem W_len_lst {ds:List D}:W (AQ [.lst ds]) t P↔P (.int ds.length) t:=Ar rfl
@[simp] theorem W_len_tup {ds:List D}:W (AQ [.tup ds]) t P↔P (.int ds.length) t:=Ar rfl
@[simp] theorem W_len_scr {ds:List Int}:W (AQ [.scr ds]) t P↔P (.int ds.length) t:=Ar rfl
@[simp] theorem W_len_str {x:Str}:W (AQ [.str x]) t P↔x.length<=LIM/\P (.int x.length) t:=by simp [AQ]
@[simp] theorem W_len_obj {k:Nat}:W (AQ [.obj k]) t P↔∃ds,t.S[k]?=some (.lst ds)/\P (.int ds.length) t:=by
 cases e:t.S[k]? with
 | none=>rw [DO (by simp only [AQ,e])];simp
 | some o=>
   cases o with
   | dct _ | ins _ _=>rw [DO (by simp only [AQ,e])];simp
   | lst ds=>rw [Ar (a:=.int ds.length) (t':=t) (by simp only [AQ,e])];simp
@[simp] theorem W_isi {d:D} {m:String}:W (Dv [d,.ty m]) t P↔∃n,tyD d=some n/\∃b,Kc n m=some b/\P (.bl b) t:=by
 cases e:tyD d with
 | none=>rw [DO (by simp only [Dv,e])];simp
 | some n=>
   have:Dv [d,.ty m] t=(Kc n m).map λb=>(.bl b,t):=by simp only [Dv,e]
   rw [La this];simp
noncomputable def Lh:D->Bool
 | .non=>true
 | _=>false
noncomputable def bo (b:Bool):D->Bool
 | .bl c=>c == b
 | _=>false
@[simp] theorem W_is_non {x:D}:W (isC x .non) t P↔P (.bl (Lh x)) t:=Ar (by cases x <;> rfl)
@[simp] theorem cY {x:D} {b:Bool}:W (isC x (.bl b)) t P↔P (.bl (bo b x)) t:=Ar (by cases x <;> rfl)
@[simp] theorem W_isNot {x y:D}:W (ET x y) t P↔W (isC x y) t λd t1=>W (toB d) t1 λb t2=>P (.bl (!b)) t2:=by
 unfold ET;rw [W_bnd];constructor
 ·exact λh=>h.mono λd t1 h1=>by
   cases d with
   | bl b=>simpa using h1
   | _=>exact (W_fail.mp h1).elim
 ·exact λh=>h.mono λd t1 h1=>by
   cases d with
   | bl b=>simpa using h1
   | _=>obtain ⟨_,_,e,_⟩:=h1;cases e
@[simp] theorem W_add_int {i j:Int}:W (AJ (.int i) (.int j)) t P↔P (.int (i + j)) t:=Ar rfl
@[simp] theorem W_sub_int {i j:Int}:W (BB (.int i) (.int j)) t P↔P (.int (i - j)) t:=Ar rfl
@[simp] theorem W_lt_int {i j:Int}:W (ltA (.int i) (.int j)) t P↔P (.bl (decide (i < j))) t:=Ar rfl
@[simp] theorem W_le_int {i j:Int}:W (leA (.int i) (.int j)) t P↔P (.bl (decide (i<=j))) t:=Ar rfl
@[simp] theorem W_gt_int {i j:Int}:W (gtA (.int i) (.int j)) t P↔P (.bl (decide (j < i))) t:=Ar rfl
@[simp] theorem W_ge_int {i j:Int}:W (geA (.int i) (.int j)) t P↔P (.bl (decide (j<=i))) t:=Ar rfl
@[simp] theorem aR {i j:Str}:W (ltA (.str i) (.str j)) t P↔P (.bl (decide (i.cps.toList < j.cps.toList))) t:=Ar rfl
@[simp] theorem aP {i j:Str}:W (gtA (.str i) (.str j)) t P↔P (.bl (decide (j.cps.toList < i.cps.toList))) t:=Ar rfl
@[simp] theorem dj {i:Int}:W (br (.int i)) t P↔P (.int (-i)) t:=Ar rfl
@[simp] theorem W_fdiv {i j:Int}:W (Fq (.int i) (.int j)) t P↔(0 < j/\j < 1073741824)/\P (.int (i / j)) t:=by
 rw [Od (m:=Fq (.int i) (.int j)) (c:=Lb i j=true) (z:=(.int (i / j),t)) rfl];simp [Lb]
@[simp] theorem W_mod {i j:Int}:W (Ev (.int i) (.int j)) t P↔0 < j/\P (.int (i % j)) t:=by
 rw [Od (m:=Ev (.int i) (.int j)) (c:=decide (0 < j)=true) (z:=(.int (i % j),t)) rfl];simp
@[simp] theorem W_pow {i j:Int}:W (Hr (.int i) (.int j)) t P↔Li i j=true/\P (.int (i ^ j.toNat)) t:=HG rfl
@[simp] theorem W_mul_int {i j:Int}:W (D1 (.int i) (.int j)) t P↔ED i j=true/\P (.int (i * j)) t:=HG rfl
@[simp] theorem W_mul_str {x:Str} {k:Int}:W (D1 (.str x) (.int k)) t P↔(BI k=true/\x.length * k.toNat<=LIM/\k<=LIM/\x.length<=LIM)/\P (.str (Txt.mul x k)) t:=HG rfl
theorem FP {i j:Int}(h1 : -18446744073709551616 < i)(h2:i < 18446744073709551616):ED i j=true:=by simp [ED,h1,h2]
theorem Vs {i j:Int}(h1 : -18446744073709551616 < j)(h2:j < 18446744073709551616):ED i j=true:=by simp [ED,h1,h2]
theorem Ci {k:Int}(h1 : -4611686018427387904<=k)(h2:k < 4611686018427387904):BI k=true:=by simp [BI,h1,h2]
@[simp] theorem W_add_str {x y:Str}:W (AJ (.str x) (.str y)) t P↔x.length + y.length<=LIM/\P (.str (x++y)) t:=by
 have:AJ (.str x) (.str y)=lim (x.length + y.length) (.str (x++y)):=rfl;rw [this];simp
@[simp] theorem W_add_lst {x y:List D}:W (AJ (.lst x) (.lst y)) t P↔x.length + y.length<=LIM/\P (.lst (x++y)) t:=by
 have:AJ (.lst x) (.lst y)=lim (x.length + y.length) (.lst (x++y)):=rfl;rw [this];simp
@[simp] theorem aJ {d:D} {x y:List D}:W (AJ (.tup (d :: x)) (.tup y)) t P↔x.length + 1 + y.length<=LIM/\P (.tup (d :: x++y)) t:=by
 have:AJ (.tup (d :: x)) (.tup y) t=if (d :: x).isEmpty=false/\(d :: x).length + y.length<=LIM then some (.tup (d :: x++y),t) else none:=rfl;rw [Od this];simp
@[simp] theorem Zi {y:List D}:W (AJ (.tup []) (.tup y)) t P↔P (.tup y) t:=Ar rfl
@[simp] theorem W_cat {x y:List D} {Q:List D->T->Prop}:W (Ix (.lst x) (.lst y)) t Q↔x.length + y.length<=LIM/\Q (x++y) t:=by
 have:Ix (.lst x) (.lst y)=lim (x.length + y.length) (x++y):=rfl;rw [this];simp
@[simp] theorem df {i:Int}:W (aU [.int i]) t P↔P (.int (if i < 0 then -i else i)) t:=Ar rfl
@[simp] theorem W_min {i j:Int}:W (FF [.int i,.int j]) t P↔P (.int (if j < i then j else i)) t:=Ar rfl
@[simp] theorem dh {i j:Int}:W (bq [.int i,.int j]) t P↔P (.int (if j > i then j else i)) t:=Ar rfl
@[simp] theorem aK {i:Int}:W (Ka [.int i]) t P↔P (.int i) t:=Ar rfl
@[simp] theorem W_int_bl {b:Bool}:W (Ka [.bl b]) t P↔P (.int (if b then 1 else 0)) t:=Ar rfl
@[simp] theorem W_ord {x:Str}:W (IM [.str x]) t P↔x.length=1/\P (.int (x.cps.getD 0 0:Nat)) t:=HG rfl
@[simp] theorem W_tup_lst {ds:List D}:W (Kt [.lst ds]) t P↔P (.tup ds) t:=Ar rfl
@[simp] theorem W_lst_lst {ds:List D} {Q:List D->T->Prop}:W (Go [.lst ds]) t Q↔Q ds t:=Ar rfl
@[simp] theorem aL {ds:List D} {Q:List D->T->Prop}:W (Go [.tup ds]) t Q↔Q ds t:=Ar rfl
@[simp] theorem W_eq_str {g:Bool->Bool} {x y:Str}:W (eqS g (.str x) (.str y)) t P↔P (.bl (g (x == y))) t:=Ar rfl
@[simp] theorem W_eq_int {g:Bool->Bool} {x y:Int}:W (eqS g (.int x) (.int y)) t P↔P (.bl (g (x == y))) t:=Ar rfl
@[simp] theorem cX {g:Bool->Bool} {x y:Bool}:W (eqS g (.bl x) (.bl y)) t P↔P (.bl (g (x == y))) t:=Ar rfl
@[simp] theorem aO {g:Bool->Bool} {x:List D}:W (eqS g (.lst x) (.lst [])) t P↔P (.bl (g x.isEmpty)) t:=by
 refine Ar ?_
 cases x <;> rfl
theorem C7 {a b:String}:Str.ofString a=Str.ofString b↔a=b:=by
 constructor
 ·intro h;rw [Str.ofString_eq_toList,Str.ofString_eq_toList] at h;injection h with h
  have h:=congrArg Array.toList h;simp only at h;have hinj:∀xs ys:List Char,xs.map Char.toNat=ys.map Char.toNat->xs=ys:=by
   intro xs
   induction xs with
   | nil=>intro ys h;cases ys with | nil=>rfl | cons _ _=>simp at h
   | cons x xs ih=>
     intro ys h
     cases ys with
     | nil=>simp at h
     | cons y ys=>
       simp only [ul4,List.cons.injEq] at h;rw [ih ys h.2,Char.toNat_inj.mp h.1]
  exact String.toList_inj.mp (hinj _ _ (by simpa using h))
 ·exact λh=>by rw [h]
@[simp] theorem XV {a b:String}:(Str.ofString a == Str.ofString b)=(a == b):=by
 rw [Bool.eq_iff_iff,beq_iff_eq,beq_iff_eq,C7]
@[simp] theorem W_sl_lst {ds:List D} {lo hi:Option Int}:W (Dn (.lst ds) lo hi) t P↔P (.lst (Bn ds lo hi)) t:=Ar rfl
@[simp] theorem W_sl_scr {ds:List Int} {lo hi:Option Int}:W (Dn (.scr ds) lo hi) t P↔P (.lst ((Bn ds lo hi).map .int)) t:=Ar rfl
@[simp] theorem aS {x:Str} {lo hi:Option Int}:W (Dn (.str x) lo hi) t P↔x.length<=LIM/\P (.str (Txt.slice x lo hi)) t:=by
 have:Dn (.str x) lo hi=lim x.length (.str (Txt.slice x lo hi)):=rfl;rw [this];simp
@[simp] theorem aT {ds:List D} {lo hi:Option Int}:W (Dn (.tup ds) lo hi) t P↔P (.tup (Bn ds lo hi)) t:=Ar rfl
@[simp] theorem W_fSl {f:M D} {l u:M (Option Int)} {h:D->Option Int->Option Int->M D}:W (fSl f l u h) t P↔W f t λx t1=>W l t1 λlo t2=>W u t2 λhi t3=>W (h x lo hi) t3 P:=by simp [fSl]
@[simp] theorem W_fNo {Q:Option Int->T->Prop}:W fNo t Q↔Q none t:=Ar rfl
@[simp] theorem W_asI {i:Int} {Q:Option Int->T->Prop}:W (asI (.int i)) t Q↔Q (some i) t:=Ar rfl
@[simp] theorem W_fPart {f:M D} {Q:Option Int->T->Prop}:W (DS f) t Q↔W f t λx t1=>W (asI x) t1 Q:=by simp [DS]
@[simp] theorem W_fItA {f:M D} {Q:List D->T->Prop}:W (D9 f) t Q↔W f t λx t1=>W (C4 x) t1 Q:=by simp [D9]
@[simp] theorem W_it_lst {ds:List D} {Q:List D->T->Prop}:W (C4 (.lst ds)) t Q↔Q ds t:=Ar rfl
@[simp] theorem W_it_tup {ds:List D} {Q:List D->T->Prop}:W (C4 (.tup ds)) t Q↔Q ds t:=Ar rfl
@[simp] theorem aQ {ds:List Int} {Q:List D->T->Prop}:W (C4 (.scr ds)) t Q↔Q (ds.map .int) t:=Ar rfl
@[simp] theorem W_it_str {x:Str} {Q:List D->T->Prop}:W (C4 (.str x)) t Q↔Q (x.cps.toList.map λc=>.str ⟨#[c]⟩) t:=Ar rfl
@[simp] theorem W_fRng1 {f:M (List D)} {Q:List D->T->Prop}:W (B4 f) t Q↔W f t λx t1=>W (Kn x) t1 Q:=by simp [B4]
@[simp] theorem W_fRng2 {f:M (List D)} {Q:List D->T->Prop}:W (Ez f) t Q↔W f t λx t1=>W (Ko x) t1 Q:=by simp [Ez]
@[simp] theorem W_rng1 {j:Int} {Q:List D->T->Prop}:W (Kn [.int j]) t Q↔BI j=true/\Q (rngL 0 j.toNat) t:=HG rfl
@[simp] theorem W_rng2 {i j:Int} {Q:List D->T->Prop}:W (Ko [.int i,.int j]) t Q↔(BI i && BI j)=true/\Q (rngL i (j - i).toNat) t:=HG rfl
@[simp] theorem W_ownM {i:Nat} {h:List D->List D->Option (List D)} {g:M (List D)} {Q:Out->T->Prop}:W (ownM i h g) t Q↔(∃xs,t.env[i]?=some (some (.own xs)))/\W g t λds t1=>∃xs,t1.env[i]?=some (some (.own xs))/\∃ys,h xs ds=some ys/\Q .next ⟨t1.env.set i (some (.own ys)),t1.S⟩:=by
 constructor
 ·rintro ⟨o,t',e,p⟩;unfold ownM at e
  split at e
  ·next xs e0=>
   refine ⟨⟨xs,e0⟩,?_⟩;obtain ⟨ds,t1,e1,e⟩:=Ae e;refine ⟨ds,t1,e1,?_⟩
   split at e
   ·next ys e2=>
    obtain ⟨zs,e3,e4⟩:=uc8.mp e
    cases e4
    exact ⟨ys,e2,zs,e3,p⟩
   ·cases e
  ·cases e
 ·rintro ⟨⟨xs,e0⟩,ds,t1,e1,ys,e2,zs,e3,p⟩;exact ⟨_,_,by unfold ownM bnd;simp only [e0,e1,e2,e3,uk0],p⟩
@[simp] theorem app1_one {xs:List D} {d:D} {ys:List D}:Bx xs [d]=some ys↔xs.length < LIM/\xs++[d]=ys:=by
 unfold Bx;split <;> simp [*]
@[simp] theorem W_stD {f g:M D} {d:D} {Q:Unit->T->Prop}:W (stD f g d) t Q↔W f t λo t1=>W g t1 λi t2=>W (Ks o i d) t2 Q:=by simp [stD]
end F2
namespace F2
open PySem L2
variable {t:T}{P:D->T->Prop}{Q:List D->T->Prop}{R:Out->T->Prop}{B:Bool->T->Prop}{U:Unit->T->Prop}
def EU (k:Bool)(A B:Prop):Prop:=if k=true then A else B
theorem Eo {k:Bool}{A B:Prop}(h:k=true)(a:A):EU k A B:=by unfold EU;rw [if_pos h];exact a
theorem EV {k:Bool}{A B:Prop}(h:k=false)(b:B):EU k A B:=by unfold EU;rw [if_neg (by rw [h];exact uf4)];exact b
theorem Cg {k:Bool}{A B:Prop}(a:k=true->A)(b:k=false->B):EU k A B:=by cases h:k with
 | true=>exact Eo rfl (a h)
 | false=>exact EV rfl (b h)
def Dm (g:M Out)(R:Out->T->Prop)(o:Out)(t1:T):Prop:=match o with
 | .next=>W g t1 R
 | o=>R o t1
variable {t1:T}
theorem Ct {g:M Out}(h:W g t1 R):Dm g R .next t1:=h
theorem MR {g:M Out}{d:D}(h:R (.ret d) t1):Dm g R (.ret d) t1:=h
theorem cI {f g:M Out}(h:W f t (Dm g R)):W (Af f g) t R:=W_seqS.mpr (h.mono λo t1 h1=>by cases o <;> exact h1)
theorem UH (h:R .next t):W Au t R:=W_skipS.mpr h
variable {f:M D}
theorem cH (h:W f t λd t1=>R (.ret d) t1):W (Ao f) t R:=W_retS.mpr h
theorem ae (h:W f t λd t1=>R .next t1):W (Db f) t R:=W_dropS.mpr h
theorem wIf {f:M Bool}{g h:M Out}(w:W f t λk t1=>EU k (W g t1 R) (W h t1 R)):W (ifS f g h) t R:=W_ifS.mpr w
theorem cJ {i:Nat}(h:W f t λd t1=>R .next ⟨t1.env.set i (some (.val d)),t1.S⟩):W (Aw i f) t R:=W_setS.mpr h
theorem cF {i:Nat}{f:M (List D)}(h:W f t λd t1=>R .next ⟨t1.env.set i (some (.own d)),t1.S⟩):W (Dk i f) t R:=W_ownS.mpr h
theorem bS {g:D->M Unit}(h:W f t λd t1=>W (g d) t1 λ_ t2=>R .next t2):W (By f g) t R:=W_asgS.mpr h
theorem bU {f:M (List D)}{st:D->M Unit}{b:M Out}(h:W f t λds t1=>W (Cn st b ds) t1 R):W (BY f st b) t R:=W_forS.mpr h
theorem wC {d:D}(h:P d t):W (fC d) t P:=W_fC.mpr h
theorem Ex {i:Nat}{d:D}(e:t.env[i]?=some (some (.val d)))(h:P d t):W (Ab i) t P:=by rw [Pv,e];exact h
variable {ds:List D}
theorem aF {i:Nat}(e:t.env[i]?=some (some (.own ds)))(h:P (.lst ds) ⟨t.env.set i (some (.val (.lst ds))),t.S⟩):W (Ab i) t P:=by rw [Pv,e];exact h
variable {g:M D}
theorem Ku {h:D->D->M D}(w:W f t λx t1=>W g t1 λy t2=>W (h x y) t2 P):W (Ac f g h) t P:=W_fBin.mpr w
theorem wUn {h:D->M D}(w:W f t λx t1=>W (h x) t1 P):W (fUn f h) t P:=W_fUn.mpr w
theorem Bl {α β:Type}{f:M α}{g:α->M β}{K:β->T->Prop}(w:W f t λx t1=>W (g x) t1 K):W (bnd f g) t K:=W_bnd.mpr w
theorem Ph {b:Bool}(h:B b t):W (toB (.bl b)) t B:=W_toB.mpr h
theorem Pi (h:W f t λx t1=>W (toB x) t1 B):W (Ap f) t B:=W_fTst.mpr h
theorem Y4 {w:M D}{h h':D->D->M D}(q:W f t λx t1=>W g t1 λy t2=>W (h x y) t2 λk t3=>W (toB k) t3 λk t4=>EU k (W w t4 λz t5=>W (h' y z) t5 P) (P (.bl false) t4)):W (El f g w h h') t P:=W_fChain.mpr q
theorem bP {f g:M Bool}(h:W f t λk t1=>EU k (W g t1 B) (B false t1)):W (JZ f g) t B:=W_fAnd.mpr h
theorem wOr {f g:M Bool}(h:W f t λk t1=>EU k (B true t1) (W g t1 B)):W (fOr f g) t B:=W_fOr.mpr h
theorem cD {f:M Bool}(h:W f t λk t1=>B (!k) t1):W (Dh f) t B:=W_fNot.mpr h
theorem Z5 (h:W f t λx t1=>W (toB x) t1 λk t2=>EU k (W g t2 P) (P (.bl false) t2)):W (Ey f g) t P:=W_fAndV.mpr h
theorem ap (h:W f t λx t1=>W (toB x) t1 λk t2=>P (.bl (!k)) t2):W (Jm f) t P:=W_fNotV.mpr h
theorem b4 {f:M Bool}{h:M D}(w:W f t λk t1=>EU k (W g t1 P) (W h t1 P)):W (fIf f g h) t P:=W_fIf.mpr w
theorem IW (h:Q [] t):W Ad t Q:=W_fNil.mpr h
theorem Ds {g:M (List D)}(h:W f t λd t1=>W g t1 λds t2=>Q (d :: ds) t2):W (Aa f g) t Q:=W_fCons.mpr h
def Gn (n:Nat)(A:Prop):Prop:=n<=LIM/\A
variable {n:Nat}
theorem BJ {A:Prop}(h:n<=LIM)(a:A):Gn n A:=⟨h,a⟩
theorem cS {f:M (List D)}(h:W f t λds t1=>Gn ds.length (P (.tup ds) t1)):W (AR f) t P:=W_fTup.mpr h
theorem cy {f:M (List D)}(h:W f t λds t1=>Gn ds.length (Q ds t1)):W (AI f) t Q:=W_fLst.mpr h
theorem aw {f:M (List D)}(h:W f t λds t1=>P (.lst ds) t1):W (Av f) t P:=W_fPure.mpr h
theorem cE {f:M (List D)}(h:W f t λds t1=>P (.obj t1.S.length) ⟨t1.env,t1.S++[.lst ds]⟩):W (EO f) t P:=by rw [WW];exact h.mono λds t1 h=>W_newOb.mpr h
theorem JF {g:Fn}{f:M (List D)}(h:W f t λds t1=>Wf g ds t1.S λr S'=>P r ⟨t1.env,S'⟩):W (Ai g f) t P:=W_fCall.mpr h
theorem wB {f:M (List D)}{h:List D->M D}(w:W f t λds t1=>W (h ds) t1 P):W (fB f h) t P:=W_fB.mpr w
theorem wBF {f:M (List D)}{h:List D->M (List D)}(w:W f t λds t1=>W (h ds) t1 Q):W (fBF f h) t Q:=W_fBF.mpr w
theorem IX {i:Nat}{d:D}(h:U () ⟨t.env.set i (some (.val d)),t.S⟩):W (Ay i d) t U:=W_putV.mpr h
theorem WJ (h:U () t):W (CP []) t U:=W_putNil.mpr h
theorem T8 {f:D->M Unit}{g:List D->M Unit}{d:D}(h:W (f d) t λ_ t1=>W (g ds) t1 U):W (AF f g (d :: ds)) t U:=W_putCons.mpr h
theorem cT {g:List D->M Unit}(e:ds.length=n)(h:W (g ds) t U):W (unS n g (.lst ds)) t U:=W_unS_lst.mpr ⟨e,h⟩
theorem cV {g:List D->M Unit}(e:ds.length=n)(h:W (g ds) t U):W (unS n g (.tup ds)) t U:=W_unS_tup.mpr ⟨e,h⟩
theorem ad {fr:List Nat}{f:M (List D)}{st:D->M Unit}{tst:M Bool}{elt:M D}(h:W f t λds t1=>W (B3 st tst elt ds) ⟨cenv n fr t1.env,t1.S⟩ λxs t'=>Gn xs.length (Q xs ⟨t1.env,t'.S⟩)):W (BL n fr f st tst elt) t Q:=W_fComp.mpr h
theorem Kw (h:B true t):W D4 t B:=W_tTru.mpr h
variable {i:Int}
theorem IV {d:D}(e:atI ds i=some d)(h:P d t):W (ixD (.tup ds) (.int i)) t P:=W_ix_tup.mpr ⟨d,e,h⟩
theorem A3 {d:D}(e:atI ds i=some d)(h:P d t):W (ixD (.lst ds) (.int i)) t P:=W_ix_lst.mpr ⟨d,e,h⟩
theorem Pf (h:P (.int ds.length) t):W (AQ [.lst ds]) t P:=W_len_lst.mpr h
theorem al (h:P (.int ds.length) t):W (AQ [.tup ds]) t P:=W_len_tup.mpr h
theorem ak {k:Nat}(e:t.S[k]?=some (.lst ds))(h:P (.int ds.length) t):W (AQ [.obj k]) t P:=W_len_obj.mpr ⟨ds,e,h⟩
variable {x:Str}
theorem Ih (e:x.length<=LIM)(h:P (.int x.length) t):W (AQ [.str x]) t P:=W_len_str.mpr ⟨e,h⟩
theorem b6 {d:D}{m n:String}{b:Bool}(e:tyD d=some n)(e':Kc n m=some b)(h:P (.bl b) t):W (Dv [d,.ty m]) t P:=W_isi.mpr ⟨n,e,b,e',h⟩
theorem b5 {x:D}(h:P (.bl (Lh x)) t):W (isC x .non) t P:=W_is_non.mpr h
theorem Zb {x y:D}(h:W (isC x y) t λd t1=>W (toB d) t1 λb t2=>P (.bl (!b)) t2):W (ET x y) t P:=W_isNot.mpr h
variable {j:Int}
theorem Z2 (h:P (.int (i + j)) t):W (AJ (.int i) (.int j)) t P:=W_add_int.mpr h
theorem aC (h:P (.int (i - j)) t):W (BB (.int i) (.int j)) t P:=W_sub_int.mpr h
theorem cA (h:P (.bl (decide (i < j))) t):W (ltA (.int i) (.int j)) t P:=W_lt_int.mpr h
theorem cq (h:P (.bl (decide (i<=j))) t):W (leA (.int i) (.int j)) t P:=W_le_int.mpr h
theorem bW (h:P (.bl (decide (j < i))) t):W (gtA (.int i) (.int j)) t P:=W_gt_int.mpr h
theorem bV (h:P (.bl (decide (j<=i))) t):W (geA (.int i) (.int j)) t P:=W_ge_int.mpr h
theorem Y7 (h1:0 < j)(h2:j < 1073741824)(h:P (.int (i / j)) t):W (Fq (.int i) (.int j)) t P:=W_fdiv.mpr ⟨⟨h1,h2⟩,h⟩
theorem M3 (h1:0 < j)(h:P (.int (i % j)) t):W (Ev (.int i) (.int j)) t P:=W_mod.mpr ⟨h1,h⟩
theorem cG (h1:Li i j=true)(h:P (.int (i ^ j.toNat)) t):W (Hr (.int i) (.int j)) t P:=W_pow.mpr ⟨h1,h⟩
theorem Ii (h1:ED i j=true)(h:P (.int (i * j)) t):W (D1 (.int i) (.int j)) t P:=W_mul_int.mpr ⟨h1,h⟩
theorem ao {k:Int}(h1:BI k=true/\x.length * k.toNat<=LIM/\k<=LIM/\x.length<=LIM)(h:P (.str (Txt.mul x k)) t):W (D1 (.str x) (.int k)) t P:=W_mul_str.mpr ⟨h1,h⟩
theorem Z4 {y:Str}(h:Gn (x.length + y.length) (P (.str (x++y)) t)):W (AJ (.str x) (.str y)) t P:=W_add_str.mpr h
theorem Z3 {x y:List D}(h:Gn (x.length + y.length) (P (.lst (x++y)) t)):W (AJ (.lst x) (.lst y)) t P:=W_add_lst.mpr h
theorem Y2 {x y:List D}(h:Gn (x.length + y.length) (Q (x++y) t)):W (Ix (.lst x) (.lst y)) t Q:=W_cat.mpr h
theorem cB (h:P (.int (if j < i then j else i)) t):W (FF [.int i,.int j]) t P:=W_min.mpr h
theorem ag {i:Bool}(h:P (.int (if i then 1 else 0)) t):W (Ka [.bl i]) t P:=W_int_bl.mpr h
theorem Zd (e:x.length=1)(h:P (.int (x.cps.getD 0 0:Nat)) t):W (IM [.str x]) t P:=W_ord.mpr ⟨e,h⟩
theorem aD (h:P (.tup ds) t):W (Kt [.lst ds]) t P:=W_tup_lst.mpr h
theorem am (h:Q ds t):W (Go [.lst ds]) t Q:=W_lst_lst.mpr h
theorem T4 {g:Bool->Bool}{y:Str}(h:P (.bl (g (x == y))) t):W (eqS g (.str x) (.str y)) t P:=W_eq_str.mpr h
theorem Y8 {g:Bool->Bool}{x y:Int}(h:P (.bl (g (x == y))) t):W (eqS g (.int x) (.int y)) t P:=W_eq_int.mpr h
theorem cM {lo hi:Option Int}(h:P (.lst (Bn ds lo hi)) t):W (Dn (.lst ds) lo hi) t P:=W_sl_lst.mpr h
theorem cO {ds:List Int}{lo hi:Option Int}(h:P (.lst ((Bn ds lo hi).map .int)) t):W (Dn (.scr ds) lo hi) t P:=W_sl_scr.mpr h
theorem wSl {l u:M (Option Int)}{h:D->Option Int->Option Int->M D}(w:W f t λx t1=>W l t1 λlo t2=>W u t2 λhi t3=>W (h x lo hi) t3 P):W (fSl f l u h) t P:=W_fSl.mpr w
variable {K:Option Int->T->Prop}
theorem wNo (h:K none t):W fNo t K:=W_fNo.mpr h
theorem bR (h:K (some i) t):W (asI (.int i)) t K:=W_asI.mpr h
theorem au (h:W f t λx t1=>W (asI x) t1 K):W (DS f) t K:=W_fPart.mpr h
theorem b7 (h:W f t λx t1=>W (C4 x) t1 Q):W (D9 f) t Q:=W_fItA.mpr h
theorem b8 (h:Q ds t):W (C4 (.lst ds)) t Q:=W_it_lst.mpr h
theorem cj (h:Q ds t):W (C4 (.tup ds)) t Q:=W_it_tup.mpr h
theorem ce (h:Q (x.cps.toList.map λc=>.str ⟨#[c]⟩) t):W (C4 (.str x)) t Q:=W_it_str.mpr h
theorem ax {f:M (List D)}(h:W f t λx t1=>W (Kn x) t1 Q):W (B4 f) t Q:=W_fRng1.mpr h
theorem ay {f:M (List D)}(h:W f t λx t1=>W (Ko x) t1 Q):W (Ez f) t Q:=W_fRng2.mpr h
theorem FH (e:BI j=true)(h:Q (rngL 0 j.toNat) t):W (Kn [.int j]) t Q:=W_rng1.mpr ⟨e,h⟩
theorem T9 (e:(BI i && BI j)=true)(h:Q (rngL i (j - i).toNat) t):W (Ko [.int i,.int j]) t Q:=W_rng2.mpr ⟨e,h⟩
theorem ar {i:Nat}{xs:List D}{h:List D->List D->Option (List D)}{g:M (List D)}(e:t.env[i]?=some (some (.own xs)))(w:W g t λds t1=>∃xs,t1.env[i]?=some (some (.own xs))/\∃ys,h xs ds=some ys/\R .next ⟨t1.env.set i (some (.own ys)),t1.S⟩):W (ownM i h g) t R:=W_ownM.mpr ⟨⟨xs,e⟩,w⟩
theorem bQ {i:Nat}{xs:List D}{d:D}{A:List D->Prop}(e:t1.env[i]?=some (some (.own xs)))(w:Gn (xs.length + 1) (A (xs++[d]))):∃xs,t1.env[i]?=some (some (.own xs))/\∃ys,Bx xs [d]=some ys/\A ys:=
 ⟨xs,e,_,app1_one.mpr ⟨w.1,rfl⟩,w.2⟩
theorem cQ {d:D}(h:W f t λo t1=>W g t1 λi t2=>W (Ks o i d) t2 U):W (stD f g d) t U:=W_stD.mpr h
end F2
namespace F2
open PySem L2
variable {i:Nat}{g:Fn}{d':D}
section
variable {t:T}{P:D->T->Prop}{B:Bool->T->Prop}{Q:List D->T->Prop}
theorem aE {n:Int}{ds:List D}{d:D}(e:t.env[i]?=some (some (.val (.tup ds))))(a:atI ds n=some d)(h:P d t):W (Ac (Ab i) (fC (.int n)) ixD) t P:=Ku (Ex e (wC (IV a h)))
theorem aj {x y:Str}{ds:List D}{g:Bool->Bool}(e:t.env[i]?=some (some (.val (.tup (.str y :: ds)))))(h:B (g (y == x)) t):W (Ap (Ac (Ac (Ab i) (fC (.int 0)) ixD) (fC (.str x)) (eqS g))) t B:=Pi (Ku (Ku (Ex e (wC (IV Og (wC (T4 (Ph h))))))))
theorem Zg {x y:Str}{g:Bool->Bool}(e:t.env[i]?=some (some (.val (.str y))))(h:B (g (y == x)) t):W (Ap (Ac (Ab i) (fC (.str x)) (eqS g))) t B:=Pi (Ku (Ex e (wC (T4 (Ph h)))))
theorem Zf {x y:Int}{g:Bool->Bool}(e:t.env[i]?=some (some (.val (.int y))))(h:B (g (y == x)) t):W (Ap (Ac (Ab i) (fC (.int x)) (eqS g))) t B:=Pi (Ku (Ex e (wC (Y8 (Ph h)))))
theorem WE {d:D}(e:t.env[i]?=some (some (.val d)))(h:Wf g [d] t.S λr S'=>P r ⟨t.env,S'⟩):W (Ai g (Aa (Ab i) Ad)) t P:=JF (Ds (Ex e (IW h)))
theorem WF {j:Nat}{d:D}(e:t.env[i]?=some (some (.val d)))(e':t.env[j]?=some (some (.val d')))(h:Wf g [d,d'] t.S λr S'=>P r ⟨t.env,S'⟩):W (Ai g (Aa (Ab i) (Aa (Ab j) Ad))) t P:=JF (Ds (Ex e (Ds (Ex e' (IW h)))))
theorem WH {d:D}(e:t.env[i]?=some (some (.val d)))(h:Wf g [d,d'] t.S λr S'=>P r ⟨t.env,S'⟩):W (Ai g (Aa (Ab i) (Aa (fC d') Ad))) t P:=JF (Ds (Ex e (Ds (wC (IW h)))))
theorem WG {j k:Nat}{d d'':D}(e:t.env[i]?=some (some (.val d)))(e':t.env[j]?=some (some (.val d')))(e'':t.env[k]?=some (some (.val d'')))(h:Wf g [d,d',d''] t.S λr S'=>P r ⟨t.env,S'⟩):W (Ai g (Aa (Ab i) (Aa (Ab j) (Aa (Ab k) Ad)))) t P:=JF (Ds (Ex e (Ds (Ex e' (Ds (Ex e'' (IW h)))))))
end
end F2
set_option maxHeartbeats 1000000
namespace LW
open PySem L2 F2
set_option compiler.extract_closed false
local macro_rules | `(tactic| clear 31 $t*)=>`(tactic| with_reducible first $[| refine $t ?_]*)
local macro_rules | `(tactic| clear 32 $t*)=>`(tactic| ((with_reducible first $[| refine' $t ?wv ?_]*);(case wv=>exact rfl)))
local macro_rules | `(tactic| clear 33 $t*)=>`(tactic| ((with_reducible first $[| refine' $t ?wv ?_]*);(case wv=>decide)))
local macro_rules | `(tactic| walk_at "w1")=>`(tactic| first
 | clear 32 aj Zg WE
 | clear 32 Zf WH
 | ((with_reducible refine' aE ?wv ?wu ?_);(case wv=>exact rfl);(case wu=>first | exact rfl | exact Og | exact Ug | exact Uh))
 | ((with_reducible refine' WF ?wv ?wu ?_);(case wv=>exact rfl);(case wu=>exact rfl))
 | ((with_reducible refine' WG ?wv ?wu ?wt ?_);(case wv=>exact rfl);(case wu=>exact rfl);(case wt=>exact rfl))
 | clear 31 cI Ct MR cJ Ku wC Ds IW wIf Pi Ph cH JF T4 Y8 wEqB Z2 aC UH wB wBF aw cS cy cE bS bU bP wOr cD Z5 wOrV ap b4 Y4 wUn wNeg b5 wIsB Zb cA cq bW bV wLtS wGtS Pf al wLenR wAbs cB wMax wInt ag aD am wLstT Z4 Z3 wAddT wAddT0 Y2 wEqNil wSl wNo au bR cM cO wSlS wSlT b7 b8 cj wItR ce ax ay IX WJ T8 ad Kw wDic cF Bl ae cQ
 | clear 32 Ex Eo cT ar bQ
 | clear 32 EV aF cV
 | ((with_reducible first | refine' IV ?wv ?_ | refine' A3 ?wv ?_);(case wv=>first | exact rfl | exact Og | exact Ug | exact Uh))
 | ((with_reducible refine BJ ?wv ?_);(case wv=>exact ud6 rfl))
 | ((with_reducible refine' b6 ?wv ?wu ?_);(case wv=>exact rfl);(case wu=>exact rfl))
 | ((with_reducible refine Y7 ?wv ?wu ?_);(case wv=>decide);(case wu=>decide))
 | clear 33 cG M3 FH T9)
local macro_rules | `(tactic| right)=>`(tactic| repeat (walk_at "w1"))
structure DeckAt (k c:Nat)(S:List Ob):Prop where
 ne:k≠c
 at_:∃(cells:List Int) (par pos:Int),S[k]?=some (.lst [.obj c,.int par,.int pos])/\S[c]?=some (.lst (cells.map .int))/\cells≠[]/\0<=pos
def dB (k c:Nat)(S S':List Ob):Prop:=S'.length=S.length/\∀j:Nat,j≠k->j≠c->S'[j]?=S[j]?
variable {n:Nat}{i:Int}
theorem B2 (h0:0<=i)(h1:i < n):ixN n i=some i.toNat:=by simp [ixN,h0,h1]
variable {S:List Ob}{o:Ob}
theorem Vf {k:Nat}{o':Ob}(h:S[k]?=some o):(S.set k o')[k]?=some o':=by
 obtain ⟨hl,_⟩:=ub1.mp h;exact uc3 hl
inductive Sh where
 | nothing | number (lo hi:Int) | text (m:Int) | list (s:Sh) (m:Int) | pair (s r:Sh) | choice (ss:List Sh)
mutual
noncomputable def Sh.d:Sh->D
 | .nothing=>.tup [.str "nothing"]
 | .number lo hi=>.tup [.str "number",.int lo,.int hi]
 | .text m=>.tup [.str "text",.int m]
 | .list s m=>.tup [.str "list",s.d,.int m]
 | .pair s r=>.tup [.str "pair",s.d,r.d]
 | .choice ss=>.tup [.str "choice",.tup (shD ss)]
noncomputable def shD:List Sh->List D
 | []=>[]
 | s :: r=>s.d :: shD r
end
mutual
noncomputable def Sh.depth:Sh->Nat
 | .nothing=>1
 | .number _ _=>1
 | .text _=>1
 | .list s _=>s.depth + 1
 | .pair s r=>max s.depth r.depth + 1
 | .choice ss=>Ei ss + 1
noncomputable def Ei:List Sh->Nat
 | []=>0
 | s :: r=>max s.depth (Ei r)
end
theorem DL:∀ss:List Sh,(shD ss).length=ss.length
 | []=>rfl
 | s :: r=>by simp [shD,DL r]
theorem FU:∀(ss:List Sh) (k:Nat),(shD ss)[k]?=(ss[k]?).map Sh.d
 | [],k=>by simp [shD]
 | s :: r,0=>by simp [shD]
 | s :: r,k + 1=>by simp [shD,FU r k]
theorem DM:∀(ss:List Sh) (k:Nat) (s:Sh),ss[k]?=some s->s.depth<=Ei ss
 | [],k,s,h=>by simp at h
 | s :: r,0,s',h=>by simp at h;subst h;simp [Ei];lia
 | s :: r,k + 1,s',h=>by
   have:=DM r k s' (by simpa using h);simp [Ei];lia
theorem Sh.depth_pos (s:Sh):1<=s.depth:=by cases s <;> simp [Sh.depth]
noncomputable def Bw (n:Nat):Bool:=decide (32<=n) && decide (n<=126) && decide (n≠37)
noncomputable def Kb:Str->Bool:=λo=>o == ("of" : Str)
mutual
def An:Sh->D->Bool
 | .nothing,d=>Lh d
 | .number lo hi,d=>match d with
   | .int i=>decide (lo<=i) && decide (i<=hi)
   | _=>false
 | .text m,d=>match d with
   | .str x=>decide ((x.length:Int)<=m) && x.cps.toList.all Bw
   | _=>false
 | .list s m,d=>match d with
   | .lst ds=>decide ((ds.length:Int)<=m) && ds.all λe=>An s e
   | _=>false
 | .pair s r,d=>match d with
   | .tup [a,b]=>An s a && An r b
   | _=>false
 | .choice ss,d=>match d with
   | .tup [.str o,.int k,x]=>Kb o && (decide (0<=k) && decide (k < ss.length)) && Jp ss k.toNat x
   | _=>false
def Jp:List Sh->Nat->D->Bool
 | [],_,_=>false
 | s :: _,0,d=>An s d
 | _ :: r,k + 1,d=>Jp r k d
end
theorem DG:∀(ss:List Sh) (k:Nat) (s:Sh) (d:D),ss[k]?=some s->Jp ss k d=An s d
 | [],k,s,d,h=>by simp at h
 | s :: r,0,s',d,h=>by simp at h;subst h;simp [Jp]
 | s :: r,k + 1,s',d,h=>by rw [Jp];exact DG r k s' d (by simpa using h)
mutual
noncomputable def okD:D->Bool
 | .str x=>decide (x.length<=90000)
 | .tup xs=>oks xs
 | .lst xs=>oks xs
 | .obj _=>false
 | .scr _=>false
 | .exc _ _=>false
 | .ty _=>false
 | _=>true
noncomputable def oks:List D->Bool
 | []=>true
 | d :: r=>okD d && oks r
end
theorem HW:∀{xs:List D},oks xs=true->∀d∈xs,okD d=true
 | x :: r,h,d,m=>by
   rw [oks,uh8] at h;rcases ul3.mp m with z | z
   ·subst z;exact h.1
   ·exact HW h.2 d z
abbrev Pure1 (f:Fn)(ds:List D)(r:D):Prop:=∀S,Wf f ds S λv S'=>v=r/\S'=S
variable {ds:List D}
theorem Pure1.use {f:Fn}{r:D}(h:Pure1 f ds r){S:List Ob}{P:D->List Ob->Prop}(p:P r S):Wf f ds S P:=(h S).mono λ_ _ ⟨e1,e2⟩=>by subst e1 e2;exact p
noncomputable def Qh:D->Bool
 | .int _=>true
 | _=>false
theorem Mp {d:D}(h:okD d=true):Pure1 (fnOf 1 1 FD) [d] (.bl (Qh d)):=by
 intro S;refine Aq rfl ?_;unfold FD
 cases d <;> first | (simp [okD] at h;done) | (right;exact ⟨rfl,rfl⟩)
noncomputable def EI (lo hi:Int):D->Bool
 | .int i=>decide (lo<=i) && decide (i<=hi)
 | _=>false
def Nf (f:Fn):Prop:=∀d,okD d=true->Pure1 f [d] (.bl (Qh d))
def Ga (f:Fn):Prop:=∀d lo hi,okD d=true->Pure1 f [d,.int lo,.int hi] (.bl (EI lo hi d))
variable {c:Fn}
theorem RD (hc:Nf c):Ga (fnOf 3 3 (C6 c)):=by
 intro d lo hi h S;refine Aq rfl ?_;unfold C6;right;refine (hc d h).use ?_
 cases d with
 | int i=>
   right;refine Cg (λe=>?_) λe=>?_
   ·right;exact ⟨by simp only [EI,e,ul8],rfl⟩
   ·exact ⟨by simp only [EI,e,uk7],rfl⟩
 | _=>right;exact ⟨rfl,rfl⟩
def Jb (f:Fn):Prop:=∀n:Nat,Pure1 f [.int n] (.bl (Bw n))
theorem OE:Jb (fnOf 1 1 Hc):=by
 intro n S;refine Aq rfl ?_;unfold Hc;right;have c1:decide ((32:Int)<=n)=decide (32<=n):=decide_eq_decide.mpr (by lia);have c2:decide ((n:Int)<=126)=decide (n<=126):=decide_eq_decide.mpr (by lia);have c3:(!((n:Int) == 37))=decide (n≠37):=by
  by_cases h:n=37
  ·subst h;rfl
  ·have:¬((n:Int)=37):=by lia
   simp [h,this]
 rw [c1];refine Cg (λe=>?_) λe=>?_
 ·right;rw [c2];refine Cg (λe'=>?_) λe'=>?_
  ·right;exact ⟨by simp only [Bw,e,e',c3,ul8],rfl⟩
  ·exact ⟨by simp only [Bw,e,e',uk7,uk8],rfl⟩
 ·right;exact ⟨by simp only [Bw,e,uk7],rfl⟩
def Lx (f:Fn):Prop:=∀m d,okD d=true->Pure1 f [(Sh.text m).d,d] (.bl (An (.text m) d))
theorem Mi (hc:Jb c):Lx (fnOf 2 3 (FC c)):=by
 intro m d h S;refine Aq rfl ?_;unfold FC;rw [Sh.d]
 cases d with
 | str x=>
   have hx:x.length<=LIM:=um4 (by simpa [okD] using h) (show 90000<=LIM by decide);right;refine Ih hx ?_;right;refine Cg (λe=>?_) λe=>?_
   ·right;have:¬((x.length:Int)<=m):=by have:=uh2 e;lia
    exact ⟨by simp [An,this],rfl⟩
   ·right;have e':(x.length:Int)<=m:=by have:=of_decide_eq_false e;lia
    refine Cu (λr t=>t.S=S/\∃cs:List Nat,r=cs.map (λc=>D.str ⟨#[c]⟩)/\(x.cps.toList.all Bw=cs.all Bw)/\∃z,t.env=[some (.val (.tup [.str "text",.int m])),some (.val (.str x)),z]) _ _ ⟨rfl,x.cps.toList,rfl,rfl,_,rfl⟩ ?_ ?_
    ·rintro d r t ⟨hs,cs,hr,hall,z,ht⟩ _;obtain ⟨env,S2⟩:=t;subst hs ht
     cases cs with
     | nil=>simp at hr
     | cons c cs=>
       simp only [ul4,List.cons.injEq] at hr;obtain ⟨rfl,rfl⟩:=hr;right;refine Zd rfl ?_;right;refine (hc c).use ?_;right;refine Cg (λq=>?_) λq=>?_
       ·right;have q':Bw c=false:=by simpa using q
        refine ⟨?_,rfl⟩;simp only [An,hall,ul6,q',uk7,uk8]
       ·right;have q':Bw c=true:=by simpa using q
        exact ⟨rfl,cs,rfl,by rw [hall,ul6,q',ul8],_,rfl⟩
    ·rintro t ⟨hs,cs,hr,hall,z,ht⟩;obtain ⟨env,S2⟩:=t;subst hs ht;have:cs=[]:=by cases cs with | nil=>rfl | cons _ _=>simp at hr
     subst this;right;exact ⟨by simp [An,e',hall],rfl⟩
 | obj _=>simp [okD] at h
 | scr _=>simp [okD] at h
 | ty _=>simp [okD] at h
 | exc _ _=>simp [okD] at h
 | _=>right;exact ⟨by simp [An],rfl⟩
def FI (f:Fn)(n:Nat):Prop:=∀s:Sh,s.depth<=n->∀d,okD d=true->Pure1 f [s.d,d] (.bl (An s d))
def Pp (f:Fn)(n:Nat):Prop:=∀(s:Sh) (m:Int),s.depth<=n->∀d,okD d=true->Pure1 f [(Sh.list s m).d,d] (.bl (An (.list s m) d))
theorem Mg (hc:FI c n):Pp (fnOf 2 3 (FA c)) n:=by
 intro s m hs d h S;refine Aq rfl ?_;unfold FA;rw [Sh.d]
 cases d with
 | lst ds=>
   have hx:∀d∈ds,okD d=true:=HW (by simpa [okD] using h);right;refine Cg (λe=>?_) λe=>?_
   ·right;have:¬((ds.length:Int)<=m):=by have:=uh2 e;lia
    exact ⟨by simp [An,this],rfl⟩
   ·right;have e':(ds.length:Int)<=m:=by have:=of_decide_eq_false e;lia
    refine Cu (λr t=>t.S=S/\(ds.all (λe=>An s e)=r.all λe=>An s e)/\∃z,t.env=[some (.val (.tup [.str "list",s.d,.int m])),some (.val (.lst ds)),z]) _ _ ⟨rfl,rfl,_,rfl⟩ ?_ ?_
    ·rintro d r t ⟨hS,hall,z,ht⟩ hm;obtain ⟨env,S2⟩:=t;subst hS ht;right;refine (hc s hs d (hx d hm)).use ?_;right;refine Cg (λq=>?_) λq=>?_
     ·right;have q':An s d=false:=by simpa using q
      refine ⟨?_,rfl⟩;simp only [An,hall,ul6,q',uk7,uk8]
     ·right;have q':An s d=true:=by simpa using q
      exact ⟨rfl,by rw [hall,ul6,q',ul8],_,rfl⟩
    ·rintro t ⟨hS,hall,z,ht⟩;obtain ⟨env,S2⟩:=t;subst hS ht;right;exact ⟨by simp only [An,e',decide_true,hall,List.all_nil,ul8],rfl⟩
 | obj _=>simp [okD] at h
 | scr _=>simp [okD] at h
 | ty _=>simp [okD] at h
 | exc _ _=>simp [okD] at h
 | _=>right;exact ⟨by simp [An],rfl⟩
def Pu (f:Fn)(n:Nat):Prop:=∀(s r:Sh),s.depth<=n->r.depth<=n->∀d,okD d=true->Pure1 f [(Sh.pair s r).d,d] (.bl (An (.pair s r) d))
theorem Mh (hc:FI c n):Pu (fnOf 2 2 (FB c)) n:=by
 intro s r hs hr d h S;refine Aq rfl ?_;unfold FB;rw [Sh.d]
 cases d with
 | tup ds=>
   have hx:∀d∈ds,okD d=true:=HW (by simpa [okD] using h);right
   match ds,hx with
   | [],_=>right;exact ⟨by simp [An],rfl⟩
   | [a],_=>right;exact ⟨by simp [An],rfl⟩
   | [a,b],hx=>
     right;refine (hc s hs a (hx a (by simp))).use ?_;right;refine Cg (λe=>?_) λe=>?_
     ·right;refine (hc r hr b (hx b (by simp))).use ?_;exact ⟨by simp only [An,e,ul8],rfl⟩
     ·exact ⟨by simp only [An,e,uk7],rfl⟩
   | a :: b :: e :: l,_=>
     refine Eo ?_ ?_
     ·show (!(((a :: b :: e :: l).length:Int) == 2))=true;simp;lia
     right;exact ⟨by simp [An],rfl⟩
 | obj _=>simp [okD] at h
 | scr _=>simp [okD] at h
 | ty _=>simp [okD] at h
 | exc _ _=>simp [okD] at h
 | _=>right;exact ⟨by simp [An],rfl⟩
def Ln (f:Fn)(n:Nat):Prop:=∀(ss:List Sh),Ei ss<=n->∀d,okD d=true->Pure1 f [(Sh.choice ss).d,d] (.bl (An (.choice ss) d))
theorem J2 {c':Fn}(hc:FI c n)(hw:Ga c'):Ln (fnOf 2 2 (Et c c')) n:=by
 intro ss hs d h S;refine Aq rfl ?_;unfold Et;rw [Sh.d]
 cases d with
 | tup ds=>
   have hx:∀d∈ds,okD d=true:=HW (by simpa [okD] using h);right
   match ds,hx with
   | [],_=>right;exact ⟨by simp [An],rfl⟩
   | [a],_=>right;exact ⟨by simp [An],rfl⟩
   | [a,b],_=>right;exact ⟨by simp [An],rfl⟩
   | [a,b,e],hx=>
     right;have ha:=hx a (by simp)
     cases a with
     | str o=>
       right;refine Cg (λq=>?_) λq=>?_
       ·right;have q':Kb o=false:=by simpa [Kb] using q
        refine ⟨?_,rfl⟩
        cases b <;> simp only [An,q',uk7]
       ·right;have q':Kb o=true:=by simpa [Kb] using q
        refine (hw b 0 _ (hx b (by simp))).use ?_;right
        cases b with
        | int k=>
          refine Cg (λq=>?_) λq=>?_
          ·right;refine ⟨?_,rfl⟩;have:(decide (0<=k) && decide (k < (ss.length:Int)))=false:=by
            have q2:k < 0\/((shD ss).length:Int) - 1 < k:=by simpa [EI] using q
            rw [DL] at q2;simp;lia
           simp only [An,this,uk7,uk8]
          ·have q2:0<=k/\k<=((shD ss).length:Int) - 1:=by simpa [EI] using q
           have q3:=q2;rw [DL] at q3;have hk:k.toNat < ss.length:=by lia
           have e1:ss[k.toNat]?=some ss[k.toNat]:=ub6 hk;have e2:atI (shD ss) k=some (ss[k.toNat]).d:=by
            unfold atI;rw [DL,B2 q3.1 (by lia)];simp [FU,e1]
           right;refine IV e2 ?_;right;refine (hc _ (um4 (DM ss _ _ e1) hs) e (hx e (by simp))).use ?_;refine ⟨?_,rfl⟩;have:(decide (0<=k) && decide (k < (ss.length:Int)))=true:=by simp;lia
           simp only [An,q',this,ul8,DG ss _ _ e e1]
        | _=>
          right;exact ⟨by simp [An],rfl⟩
     | obj _=>simp [okD] at ha
     | scr _=>simp [okD] at ha
     | ty _=>simp [okD] at ha
     | exc _ _=>simp [okD] at ha
     | _=>right;exact ⟨by simp [An],rfl⟩
   | a :: b :: e :: f :: l,_=>
     refine Eo ?_ ?_
     ·show (!(((a :: b :: e :: f :: l).length:Int) == 3))=true;simp;lia
     right;exact ⟨by simp [An],rfl⟩
 | obj _=>simp [okD] at h
 | scr _=>simp [okD] at h
 | ty _=>simp [okD] at h
 | exc _ _=>simp [okD] at h
 | _=>right;exact ⟨by simp [An],rfl⟩
variable {cc cp ct cw:Fn}
theorem U3 {cl:Fn}(h1:Ln cc n)(h2:Pu cp n)(h3:Pp cl n)(h4:Lx ct)(h5:Ga cw):FI (fnOf 2 3 (Mt cc cp cl ct cw)) (n + 1):=by
 intro s hs d h S;refine Aq rfl ?_;unfold Mt
 cases s with
 | nothing=>
   rw [Sh.d];right;exact ⟨by rw [An],rfl⟩
 | number lo hi=>
   rw [Sh.d];right;refine (h5 d lo hi h).use ⟨?_,rfl⟩
   cases d <;> simp [An,EI]
 | text m=>
   rw [Sh.d];right;exact (h4 m d h).use ⟨rfl,rfl⟩
 | list s m=>
   rw [Sh.depth] at hs;have q:=h3 s m (by lia) d h;rw [Sh.d] at q ⊢;right;exact q.use ⟨rfl,rfl⟩
 | pair s r=>
   rw [Sh.depth] at hs;have q:=h2 s r (by lia) (by lia) d h;rw [Sh.d] at q ⊢;right;exact q.use ⟨rfl,rfl⟩
 | choice ss=>
   rw [Sh.depth] at hs;have q:=h1 ss (by lia) d h;rw [Sh.d] at q ⊢;right;exact q.use ⟨rfl,rfl⟩
theorem KG (x:Array Nat):∀(n:Nat) (acc:Array Nat),((List.replicate n x).foldl (·++·) acc).toList=acc.toList++(List.replicate n x.toList).flatten
 | 0,acc=>by simp
 | n + 1,acc=>by
   rw [ue8,uj6,KG x n,ue8,ug5];simp
variable {x:Str}
theorem Qy {k:Int}:(Txt.mul x k).cps.toList=(List.replicate k.toNat x.cps.toList).flatten:=by
 unfold Txt.mul
 split
 ·have:k.toNat=0:=by lia
  rw [this];rfl
 ·split
  ·next h=>
   rw [uk1] at h;rcases h with h | h
   ·have:k=1:=by simpa using h
    subst this;simp
   ·have:x.cps.toList=[]:=by
     have h':x.length=0:=by simpa using h
     exact ua3 (by simpa [Str.length] using h')
    rw [this];simp
  ·have:=KG x.cps k.toNat #[];simpa using this
theorem DI (x:Str):x.length=x.cps.toList.length:=by simp [Str.length]
theorem Ej (x y:Str):(x++y).cps.toList=x.cps.toList++y.cps.toList:=by
 show (x.cps++y.cps).toList=_;simp
variable {α:Type}
theorem V5 (a:α)(k:Nat):(List.replicate k [a]).flatten=List.replicate k a:=by
 induction k with
 | zero=>rfl
 | succ k ih=>rw [ue8,ug5,ih,ue8];rfl
variable {elt:M D}
theorem GJ {f:D->D}{fr:List (Option Sl)}{z:Option Sl}(h:∀d∈ds,W elt ⟨some (.val d) :: fr,S⟩ λx t'=>x=f d/\t'=⟨some (.val d) :: fr,S⟩) :
 W (B3 (Ay 0) D4 elt ds) ⟨z :: fr,S⟩ λxs t'=>xs=ds.map f/\t'.S=S:=by
 refine (FL (P:=λxs t'=>xs=ds.map f/\t'.S=S) (λacc r t=>acc++r.map f=ds.map f/\∃z,t=⟨z :: fr,S⟩) ds [] _ ⟨rfl,z,rfl⟩ ?_ ?_).mono λxs t' h=>h
 ·rintro acc d r t ⟨h1,z,rfl⟩ hm;refine IX (Kw ?_);rw [if_pos rfl];refine (h d hm).mono λx t' z9=>?_;obtain ⟨e1,e2⟩:=z9;subst e1 e2;exact ⟨by rw [ug6];exact h1,_,rfl⟩
 ·rintro acc t ⟨h1,z,rfl⟩;exact ⟨by simpa using h1,rfl⟩
mutual
noncomputable def sz:D->Nat
 | .tup xs=>szs xs + 1
 | .lst xs=>szs xs + 1
 | _=>1
noncomputable def szs:List D->Nat
 | []=>0
 | d :: r=>sz d + szs r
end
theorem WA {y:Str}(h:x.cps.toList=y.cps.toList):x=y:=by
 cases x;cases y
 congr
 exact Array.toList_inj.mp h
mutual
noncomputable def wf:Sh->Bool
 | .nothing=>true
 | .number lo hi=>decide (-1000000000000000000 < lo) && decide (lo<=hi) && decide (hi < 1000000000000000000)
 | .text m=>decide (0<=m) && decide (m<=250)
 | .list s m=>decide (0<=m) && decide (m<=250) && wf s
 | .pair s r=>wf s && wf r
 | .choice ss=>decide (1<=ss.length) && decide (ss.length<=9) && wfs ss
noncomputable def wfs:List Sh->Bool
 | []=>true
 | s :: r=>wf s && wfs r
end
mutual
noncomputable def cnt:Sh->Nat
 | .list s _=>cnt s + 1
 | .pair s r=>cnt s + cnt r + 1
 | .choice ss=>W7 ss + 1
 | _=>1
noncomputable def W7:List Sh->Nat
 | []=>0
 | s :: r=>cnt s + W7 r
end
theorem EH:∀{ss:List Sh},wfs ss=true->∀s∈ss,wf s=true
 | x :: r,h,s,m=>by
   rw [wfs,uh8] at h;rcases ul3.mp m with z | z
   ·subst z;exact h.1
   ·exact EH h.2 s z
theorem RB:∀{ss:List Sh},(∀s∈ss,wf s=true)->wfs ss=true
 | [],_=>rfl
 | x :: r,h=>by rw [wfs,h x uf3,RB λs m=>h s (ud8 _ m)];rfl
theorem MS:∀ss:List Sh,shD ss=ss.map Sh.d
 | []=>rfl
 | s :: r=>by rw [shD,MS r];rfl
theorem KO:∀{ss:List Sh} {s:Sh},s∈ss->s.depth<=Ei ss
 | x :: r,s,m=>by
   rw [Ei];rcases ul3.mp m with z | z
   ·subst z;lia
   ·have:=KO z;lia
variable {xs:List D}
theorem Gq (h0:0<=i)(h1:i < xs.length){p:D->Prop}(h:∀d∈xs,p d):∃d,atI xs i=some d/\p d:=by
 obtain ⟨d,e,m,_⟩:=UK h0 h1;exact ⟨d,e,h d m⟩
def N7 (k c l:Nat)(S S':List Ob):Prop:=S'.length=S.length/\∀j:Nat,j≠k->j≠c->j≠l->S'[j]?=S[j]?
noncomputable def O9 (deep:Int):Int:=if deep < 2 then 0 else 2 * deep + 4
def bd (deep x:Int):Int:=if deep < 2 then 1 else max x 1 + O9 deep - (if deep + 1<=x then 1 else 0)
def tb (deep y i:Int):Int:=if deep=2 then i else if i=0 then 0 else y + O9 (deep - 1) + i - 1 - (if deep<=y then 1 else 0)
structure ShapeRes (k c l:Nat)(S:List Ob)(deep x:Int)(s:Sh)(S':List Ob):Prop where
 w:wf s=true
 dep:(s.depth:Int)<=max deep 1
 lft:S'[l]?=some (.lst [.int (x - cnt s)])
 one:x<=1->cnt s=1
 few:(cnt s:Int)<=max x 1 + O9 deep
 deck:DeckAt k c S'
 kp:N7 k c l S S'
 few2:(cnt s:Int)<=bd deep x
theorem Tf {k:Int}:(Txt.mul ⟨#[n]⟩ k).cps.toList=List.replicate k.toNat n:=by rw [Qy];exact V5 n k.toNat
theorem SU {k:Int}:(Txt.mul ⟨#[n]⟩ k).length=k.toNat:=by rw [DI,Tf,ud3]
structure Sep (ks:List (Nat×Nat)):Prop where
 sep:∀p∈ks,∀q∈ks,p=q\/(q.1≠p.1/\q.1≠p.2/\q.2≠p.1/\q.2≠p.2)
mutual
noncomputable def dpt:D->Nat
 | .lst ds=>Sc ds + 1
 | .tup ds=>Sc ds + 1
 | _=>1
noncomputable def Sc:List D->Nat
 | []=>0
 | d :: r=>max (dpt d) (Sc r)
end
mutual
noncomputable def smD:D->Bool
 | .str x=>decide (x.length<=300)
 | .int i=>decide (-1000000000000000000000000 < i) && decide (i < 1000000000000000000000000)
 | .tup xs=>decide (xs.length<=300) && sms xs
 | .lst xs=>decide (xs.length<=300) && sms xs
 | .obj _=>false
 | .scr _=>false
 | .ty _=>false
 | .exc _ _=>false
 | _=>true
noncomputable def sms:List D->Bool
 | []=>true
 | d :: r=>smD d && sms r
end
theorem GQ {f:D->D->Option Bool}:∀{xs:List D},(∀d∈xs,f d d=some true)->CZ f xs xs=some true
 | [],_=>rfl
 | x :: r,h=>by
   rw [CZ,h x uf3,GQ λd m=>h d (ud8 _ m)];rfl
variable {t:T}{P:D->T->Prop}
theorem WI {d:D}{g:Bool->Bool}(h0:SR d=false)(h:eqN EQD d d=some true)(p:P (.bl (g true)) t):W (eqS g d d) t P:=⟨_,_,by simp [eqS,h0,h],p⟩
variable {f:M D}
theorem ai {g:M (List D)}(h:W f t λo t1=>W g t1 λas t2=>∃z ds ys,o = .str z/\as=[.lst ds]/\Fi ds=some ys/\(z.length<=8/\ys.length<=1048576)/\P (.str (Txt.join z ys)) t2):W (joinM f g) t P:=by
 refine Bl (h.mono λo t1 h1=>Bl (h1.mono λas t2 h2=>?_));obtain ⟨z,ds,ys,rfl,rfl,e,hl,p⟩:=h2;refine ⟨_,_,?_,p⟩;simp only [e];rw [if_pos hl]
theorem Hx:∀ns:List Nat,Fi (ns.map λn=>D.str ⟨#[n]⟩)=some (ns.map λn=>(⟨#[n]⟩:Str))
 | []=>rfl
 | n :: r=>by
   rw [ul4,Fi,if_pos (ud6 rfl),Hx r];rfl
theorem Jq:∀(ns:List Nat) (acc:Array Nat),((ns.map λn=>(⟨#[n]⟩:Str)).foldl (λacc p=>acc++(Str.ofString "").cps++p.cps) acc).toList=acc.toList++ns
 | [],acc=>by simp
 | n :: r,acc=>by
   have e:(Str.ofString "").cps=#[]:=by decide +kernel
   rw [ul4,uj6,Jq r,e];simp
theorem Js (ns:List Nat):(Txt.join (Str.ofString "") (ns.map λn=>(⟨#[n]⟩:Str))).cps.toList=ns:=by
 show (List.foldl (λ(acc:Array Nat) (p:Str)=>acc++(Str.ofString "").cps++p.cps) (((ns.map λn=>(⟨#[n]⟩:Str)).headD Str.empty).cps) ((ns.map λn=>(⟨#[n]⟩:Str)).drop 1)).toList=ns
 cases ns with
 | nil=>rfl
 | cons n r=>
   rw [ul4,List.drop_one,List.tail_cons,Jq];rfl
structure ValueRes (k c l:Nat)(S:List Ob)(s:Sh)(r:D)(S':List Ob):Prop where
 fit:An s r=true
 lft:∃a b:Int,S'[l]?=some (.lst [.int a,.int b])
 deck:DeckAt k c S'
 kp:N7 k c l S S'
theorem GA {f:M (List D)}{P:Out->T->Prop}(h:W f t λds t1=>P (.ret (.lst ds)) t1):W (FG f) t P:=W_bnd.mpr (h.mono λ_ _ p=>W_ret.mpr p)
theorem Fj {g:Fn}{f:M (List D)}{P:List D->T->Prop}(h:W f t λds t1=>Wf g ds t1.S λr S'=>∃rs,r = .lst rs/\P rs ⟨t1.env,S'⟩):W (C3 g f) t P:=by
 refine W_bnd.mpr (h.mono λds t1 z9=>?_);obtain ⟨r,S',e,rs,er,p⟩:=z9;subst er;exact ⟨rs,⟨t1.env,S'⟩,by simp only [e],p⟩
theorem WM {i:Nat}{P:Out->T->Prop}(e:t.env[i]?=some (some (.own xs)))(h:P (.ret (.lst xs)) ⟨t.env.set i none,t.S⟩):W (FT i) t P:=⟨_,_,by simp only [FT,e],h⟩
theorem Z9 (h:P (.int (Builtin.Int.intBits i:Nat)) t):W (Jd (.int i)) t P:=⟨_,_,rfl,h⟩
theorem cK {j:Int}(h0:0<=j)(h:P (.int (i / 2 ^ j.toNat)) t):W (MT (.int i) (.int j)) t P:=⟨_,_,by simp [MT,i2C,h0],h⟩
variable {ys:List D}{t1:T}
theorem bT {i:Nat}{A:List D->Prop}(e:t1.env[i]?=some (some (.own xs)))(l:xs.length + ys.length<=LIM)(w:A (xs++ys)):∃xs,t1.env[i]?=some (some (.own xs))/\∃zs,GU xs [.lst ys]=some zs/\A zs:=
 ⟨xs,e,xs++ys,by simp [GU,l],w⟩
theorem FZ {f:M Bool}{b:M Out}{P:Out->T->Prop}(I:Nat->T->Prop)(turn:∀n t,I n t->W f t λk t1=>match k with
 | true=>∃m,n=m + 1/\W b t1 λo t2=>match o with
   | .next=>I m t2
   | .cont=>I m t2
   | .brk=>P .next t2
   | .ret x=>P (.ret x) t2
 | false=>P .next t1):∀(fuel n:Nat) (t:T),n < fuel->I n t->W (CQ f b fuel) t P
 | 0,n,t,h,_=>absurd h (uk2 _)
 | fuel + 1,n,t,h,i=>by
   obtain ⟨k,t1,e1,p⟩:=turn n t i
   cases k with
   | false=>exact ⟨_,_,by simp only [CQ,e1],p⟩
   | true=>
     obtain ⟨m,rfl,o,t2,e2,p⟩:=p
     cases o with
     | next=>obtain ⟨o,t',e',p⟩:=FZ I turn fuel m t2 (by lia) p;exact ⟨o,t',by simp only [CQ,e1,e2];exact e',p⟩
     | cont=>obtain ⟨o,t',e',p⟩:=FZ I turn fuel m t2 (by lia) p;exact ⟨o,t',by simp only [CQ,e1,e2];exact e',p⟩
     | brk=>exact ⟨_,_,by simp only [CQ,e1,e2],p⟩
     | ret x=>exact ⟨_,_,by simp only [CQ,e1,e2],p⟩
noncomputable def wid (n:Nat):Nat:=if n=0 then 0 else n.log2 / 8 + 1
theorem Qp (h:2<=n):n.log2=(n / 2).log2 + 1:=by rw [Nat.log2_def,if_pos h]
theorem SZ (h:n < 2):n.log2=0:=by rw [Nat.log2_def,if_neg (by lia)]
theorem Ms:∀(k:Nat) {n:Nat},2 ^ k<=n->n.log2=(n / 2 ^ k).log2 + k
 | 0,n,_=>by rw [Nat.pow_zero,Nat.div_one,Nat.add_zero]
 | k + 1,n,h=>by
   have h2:2 ^ k * 2<=n:=by rw [<-Nat.pow_succ];exact h
   have h3:2<=n / 2 ^ k:=(Nat.le_div_iff_mul_le (Nat.pow_pos (by decide))).mpr (by rw [um7];exact h2);rw [Ms k (um4 (Nat.le_mul_of_pos_right _ (by decide)) h2),Qp h3,Nat.div_div_eq_div_mul,<-Nat.pow_succ,ul9,Nat.add_comm 1 k]
theorem SX (h:256<=n):n.log2=(n / 256).log2 + 8:=Ms 8 h
theorem SY (h:n < 256):n.log2 < 8:=by
 by_cases z:n=0
 ·subst z;rw [SZ (by lia)];lia
 ·exact (Nat.log2_lt z).mpr h
theorem Ua (h:0 < n):wid n=wid (n / 256) + 1:=by
 unfold wid;rw [if_neg (by lia)]
 by_cases z:n < 256
 ·have:=SY z;rw [if_pos (by lia)];lia
 ·rw [if_neg (by lia),SX (by lia)];lia
theorem JJ:∀(k n:Nat),n < 256 ^ k->wid n<=k
 | 0,n,h=>by
   have:n=0:=by simpa using h
   subst this;decide
 | k + 1,n,h=>by
   by_cases z:n=0
   ·subst z;exact un3 _
   ·rw [Ua (by lia)];have:=JJ k (n / 256) (Nat.div_lt_of_lt_mul (by rw [Nat.pow_succ] at h;lia));lia
theorem R3 (n:Nat):((Builtin.Int.intBits (n:Int):Nat) + 7) / 8=wid n:=by
 unfold Builtin.Int.intBits wid
 by_cases z:n=0
 ·subst z;rfl
 ·have:((n:Int) == 0)=false:=by simp;exact z
  rw [this,if_neg (by simp),if_neg z,Int.natAbs_natCast];lia
noncomputable def nb:Nat->Nat->List D
 | 0,_=>[]
 | w + 1,n=>nb w (n / 256)++[.int ((n % 256:Nat):Int)]
theorem QA:∀w n,(nb w n).length=w
 | 0,n=>rfl
 | w + 1,n=>by rw [nb,uf7,QA];rfl
theorem QB:∀w n:Nat,(List.range w).map (λk=>D.int ((n / 2 ^ (8 * (w - 1 - k)) % 256:Nat):Int))=nb w n
 | 0,n=>rfl
 | w + 1,n=>by
   rw [List.range_succ,uk3,nb,<-QB w (n / 256)]
   congr 1
   ·refine ue9 λk hk=>?_;rw [uk6] at hk;have e:8 * (w + 1 - 1 - k)=8 + 8 * (w - 1 - k):=by lia
    rw [e,Nat.pow_add,Nat.div_div_eq_div_mul]
   ·simp
mutual
def AT:Sh->D->List D
 | .nothing,_=>[]
 | .number lo hi,d=>match d with
   | .int i=>nb (wid (hi - lo).toNat) (i - lo).toNat
   | _=>[]
 | .text _,d=>match d with
   | .str x=>.int (x.length:Nat) :: x.cps.toList.map λn=>D.int (n:Nat)
   | _=>[]
 | .list s _,d=>match d with
   | .lst ds=>.int (ds.length:Nat) :: (ds.map λd=>AT s d).flatten
   | _=>[]
 | .pair s r,d=>match d with
   | .tup [a,b]=>AT s a++AT r b
   | _=>[]
 | .choice ss,d=>match d with
   | .tup [_,.int k,x]=>.int k :: Je ss k.toNat x
   | _=>[]
def Je:List Sh->Nat->D->List D
 | [],_,_=>[]
 | s :: _,0,d=>AT s d
 | _ :: r,k + 1,d=>Je r k d
end
theorem Fl:∀(ss:List Sh) (k:Nat) (s:Sh) (d:D),ss[k]?=some s->Je ss k d=AT s d
 | [],k,s,d,h=>by simp at h
 | s :: r,0,s',d,h=>by simp at h;subst h;simp [Je]
 | s :: r,k + 1,s',d,h=>by rw [Je];exact Fl r k s' d (by simpa using h)
def HB (f:Fn)(n:Nat):Prop:=∀(s:Sh),s.depth<=n->wf s=true->∀d,An s d=true->(AT s d).length<=LIM->Pure1 f [s.d,d] (.lst (AT s d))
def GG (f:Fn):Prop:=∀(n j:Nat),j<=1000->Pure1 f [.int n,.int j] (.int ((n / 2 ^ (8 * j):Nat):Int))
theorem Vl:GG (fnOf 2 2 He):=by
 intro n j hj S;refine Aq rfl ?_;unfold He;right;refine Ii (FP (by decide) (by decide)) ?_;refine cK (by lia) ?_;refine ⟨?_,rfl⟩;have:(8 * (j:Int)).toNat=8 * j:=by lia
 rw [this];simp
def Jc (f:Fn):Prop:=∀n:Nat,n < 256 ^ 9->Pure1 f [.int n] (.int (wid n:Nat))
theorem Ub:Jc (fnOf 1 1 Eu):=by
 intro n _ S;refine Aq rfl ?_;unfold Eu;right;refine Z9 ?_;right;refine ⟨?_,rfl⟩;rw [<-R3];simp
def Ls (f:Fn):Prop:=∀(n w:Nat),w<=1000->Pure1 f [.int n,.int w] (.lst (nb w n))
theorem Ia (i:Int)(n:Nat):rngL i n=(List.range n).map λk:Nat=>D.int (i + k):=by
 rfl
theorem Vy (hc:GG c):Ls (fnOf 2 2 (Ed c)):=by
 intro n w hw S;have hL:LIM=100000:=rfl;refine Aq rfl ?_;unfold Ed;refine GA ?_;right;refine T9 (by rw [Ci (by decide) (by decide),Ci (by lia) (by lia)];rfl) ?_;refine (GJ (f:=λd=>match d with | .int k=>.int ((n / 2 ^ (8 * (w - k.toNat)) % 256:Nat):Int) | _=>d) (fr:=[some (.val (.int n)),some (.val (.int w))]) ?_).mono ?_
 ·intro d m;rw [Ia] at m;obtain ⟨k,hk,rfl⟩:=um9.mp m;rw [uk6] at hk;right;have e:((w:Int) - (1 + (k:Int)))=((w - (1 + k):Nat):Int):=by lia
  rw [e];refine (hc n (w - (1 + k)) (by lia)).use ?_;right;refine ⟨?_,rfl⟩;have e2:(1 + (k:Int)).toNat=1 + k:=by lia
  dsimp only;rw [e2];simp
 ·rintro xs t' ⟨rfl,hS⟩;have hn:((w:Int) + 1 - 1).toNat=w:=by lia
  rw [Ia,hn];refine BJ (by simp only [uj0,List.length_range,hL];lia) ?_;refine ⟨?_,hS⟩;rw [<-QB w n,un0]
  congr 1
  refine ue9 λk hk=>?_;rw [uk6] at hk;have e2:(1 + (k:Int)).toNat=1 + k:=by lia
  have e3:w - (1 + k)=w - 1 - k:=by lia
  simp only [Function.comp,e2,e3]
variable {lo hi:Int}
theorem NZ (h:wf (.number lo hi)=true):(hi - lo).toNat < 256 ^ 9:=by
 simp only [wf,uh8,uh1] at h;have:(256:Nat) ^ 9=4722366482869645213696:=by decide
 lia
theorem PD (x:Str):(x.cps.toList.map λc=>D.str ⟨#[c]⟩).map (λd=>match d with | .str y=>D.int (y.cps.getD 0 0:Nat) | _=>d)=x.cps.toList.map λn=>D.int (n:Nat):=by
 rw [un0];refine ue9 λn _=>?_;rfl
variable {cn:Fn}
theorem U2 (hc:HB c n)(hw:Jc cw)(hn:Ls cn):HB (fnOf 2 5 (D0 c cw cn)) (n + 1):=by
 intro s hs hwf d hf hlen S;have hL:LIM=100000:=rfl;refine Aq rfl ?_;unfold D0
 cases s with
 | nothing=>
   rw [Sh.d];right;refine GA ?_;right;exact ⟨by rw [AT],rfl⟩
 | number lo hi=>
   have hsp:=NZ hwf;have hwd:=JJ 9 _ hsp;simp only [wf,uh8,uh1] at hwf
   cases d <;> simp [An] at hf
   rename_i i;rw [Sh.d];right;refine GA (Fj ?_);right;have e1:hi - lo=(((hi - lo).toNat:Nat):Int):=by lia
   have e2:i - lo=(((i - lo).toNat:Nat):Int):=by lia
   rw [e1,e2];refine (hw _ hsp).use ?_;right;refine (hn _ _ (by lia)).use ?_;exact ⟨_,rfl,by rw [AT],rfl⟩
 | text q=>
   simp only [wf,uh8,uh1] at hwf
   cases d <;> simp [An] at hf
   rename_i x;rw [Sh.d];right;refine GA ?_;refine Bl ?_;right;refine Ih (by rw [hL];lia) ?_;right;refine (GJ (f:=λd=>match d with | .str y=>D.int (y.cps.getD 0 0:Nat) | _=>d) (fr:=[]) ?_).mono ?_
   ·intro d m;obtain ⟨k,hk,rfl⟩:=um9.mp m;right;refine Zd rfl ?_;exact ⟨rfl,rfl⟩
   ·rintro xs t' ⟨rfl,hS⟩;rw [PD];have hl:x.cps.toList.length<=250:=by rw [<-DI];lia
    refine BJ (by rw [uj0,hL];lia) ?_;right;refine BJ (by simp only [uj0,uh4,uj9,hL];lia) ?_;exact ⟨by rw [AT];rfl,hS⟩
 | list s q=>
   simp only [wf,uh8,uh1] at hwf;rw [Sh.depth] at hs
   cases d <;> simp only [An,uf8] at hf
   rename_i ds;rw [uh8,uh1,ui2] at hf;rw [AT] at hlen ⊢;rw [Sh.d];right;refine Cu (λr t=>∃(z:Option Sl) (acc:List D),t=⟨[some (.val (.tup [.str "list",s.d,.int q])),some (.val (.lst ds)),some (.val (.str "list")),some (.own acc),z],S⟩/\acc++(r.map λd=>AT s d).flatten = .int (ds.length:Nat) :: (ds.map λd=>AT s d).flatten) _ _ ⟨_,_,rfl,rfl⟩ ?_ ?_
   ·rintro d r t ⟨z,acc,rfl,hacc⟩ m;rw [ul4,ug5,<-ug6] at hacc;have hl:acc.length + (AT s d).length<=LIM:=by
     have:=congrArg List.length hacc;rw [uf7,uf7] at this;lia
    right;refine Fj ?_;right;refine (hc s (ud0 hs) hwf.2 d (hf.2 d m) (um4 (Nat.le_add_left _ _) hl)).use ⟨_,rfl,?_⟩;right;refine bT rfl hl ?_;exact ⟨_,_,rfl,hacc⟩
   ·rintro t ⟨z,acc,rfl,hacc⟩;rw [um8,List.flatten_nil,uj2] at hacc;right;refine WM rfl ?_;exact ⟨by rw [hacc],rfl⟩
 | pair s r=>
   simp only [wf,uh8] at hwf;rw [Sh.depth] at hs;unfold An at hf
   split at hf
   case h_2=>cases hf
   case h_1 a b=>
    rw [uh8] at hf;rw [AT] at hlen ⊢;rw [uf7] at hlen;rw [Sh.d];right;refine GA ?_;refine Bl ?_;right;refine Fj ?_;right;refine (hc s (um4 (Nat.le_max_left _ _) (ud0 hs)) hwf.1 a hf.1 (um4 (ui1 _ _) hlen)).use ⟨_,rfl,?_⟩;refine Bl ?_;right;refine Fj ?_;right;refine (hc r (um4 (Nat.le_max_right _ _) (ud0 hs)) hwf.2 b hf.2 (um4 (Nat.le_add_left _ _) hlen)).use ⟨_,rfl,?_⟩;right;refine BJ hlen ?_;exact ⟨rfl,rfl⟩
 | choice ss=>
   simp only [wf,uh8,uh1] at hwf;rw [Sh.depth] at hs;unfold An at hf
   split at hf
   case h_2=>cases hf
   case h_1 o k x=>
    simp only [uh8,uh1] at hf;obtain ⟨⟨ho,k0,k1⟩,hf⟩:=hf;have hk:k.toNat < ss.length:=by lia
    have e1:ss[k.toNat]?=some ss[k.toNat]:=ub6 hk;have hl:=DL ss;have e2:atI (shD ss) k=some (ss[k.toNat]).d:=by
     unfold atI;rw [B2 k0 (by lia)];show (shD ss)[k.toNat]?=_;rw [FU,e1];rfl
    rw [DG ss _ _ _ e1] at hf;rw [AT] at hlen ⊢;rw [Fl ss _ _ _ e1] at hlen ⊢;rw [uh4] at hlen;rw [Sh.d];right;refine GA ?_;right;refine Fj ?_;right;refine IV e2 ?_;right;refine (hc _ (um4 (DM ss _ _ e1) (ud0 hs)) (EH hwf.2 _ (ui4 hk)) x hf (Nat.le_of_succ_le hlen)).use ⟨_,rfl,?_⟩;right;refine BJ (by simp only [uh4,uj9];lia) ?_;exact ⟨rfl,rfl⟩
theorem JA (a:Int)(n:Nat):(rngL a n).length=n:=by simp [rngL]
variable {j:Nat}
theorem Kk {a:Int}{d:D}{r:List D}(e:d :: r=(rngL a n).drop j):d = .int (a + j)/\r=(rngL a n).drop (j + 1)/\j < n:=by
 have hj:j < (rngL a n).length:=by
  rcases Nat.lt_or_ge j (rngL a n).length with h | h
  ·exact h
  ·rw [List.drop_eq_nil_of_le h] at e;cases e
 rw [ub3 hj] at e;injection e with e1 e2
 rw [JA] at hj;refine ⟨?_,e2,hj⟩;rw [e1];simp [rngL]
noncomputable def sgs:Str:=" !\"#$ &'()*+,-./0123456789:;<=>?@ABCDEFGHIJKLMNOPQRSTUVWXYZ[\\]^_`abcdefghijklmnopqrstuvwxyz{|}~"
theorem YN {c:Nat}(h:Bw c=true):atI sgs.cps.toList ((c:Int) - 32)=some c:=by
 have hl:sgs.cps.toList.length=95:=by decide +kernel
 have hall:(List.range 127).all (λc=>!Bw c || decide (sgs.cps.toList[c - 32]?=some c))=true:=by decide +kernel
 have h':=h;simp only [Bw,uh8,uh1] at h';have:=ui2.mp hall c (uk6.mpr (by lia));rw [h,Bool.not_true,Bool.false_or,uh1] at this;rw [show ((c:Int) - 32)=((c - 32:Nat):Int) by lia];exact HH this
variable {n':Str}
section
variable {t:T}{P:D->T->Prop}{R:Out->T->Prop}
def TZ (h:D->M Out)(R:Out->T->Prop)(o:Out)(t1:T):Prop:=match o with
 | .ret (.exc n ds)=>n∈A9/\W (h (.exc n ds)) t1 R
 | o=>R o t1
theorem cR {b:M Out}{h:D->M Out}(w:W b t (TZ h R)):W (DB b h) t R:=by
 obtain ⟨o,t1,e,q⟩:=w;have rest:∀d,AW d=false->o = .ret d->W (DB b h) t R:=λd hd ho=>by
  subst ho;refine ⟨.ret d,t1,?_,?_⟩
  ·unfold DB;rw [e];cases d <;> first | rfl | cases hd
  ·cases d <;> first | exact q | cases hd
 cases o with
 | next=>exact ⟨.next,t1,by unfold DB;rw [e],q⟩
 | brk=>exact ⟨.brk,t1,by unfold DB;rw [e],q⟩
 | cont=>exact ⟨.cont,t1,by unfold DB;rw [e],q⟩
 | ret d=>
   cases d with
   | exc n ds=>
     obtain ⟨hn,o2,t2,e2,q2⟩:=q;exact ⟨o2,t2,by unfold DB;rw [e];dsimp only;rw [if_pos hn,e2],q2⟩
   | _=>exact rest _ rfl rfl
theorem Rr {h:D->M Out}(q:R .next t1):TZ h R .next t1:=q
theorem WC {h:D->M Out}{n:Str}(e:n∈A9)(q:W (h (.exc n ds)) t1 R):TZ h R (.ret (.exc n ds)) t1:=⟨e,q⟩
def xK (d:D)(A B:Prop):Prop:=if AW d=true then A else B
theorem aH {d:D}{A B:Prop}(e:AW d=false)(b:B):xK d A B:=by unfold xK;rw [if_neg (by rw [e];decide)];exact b
theorem aG {d:D}{A B:Prop}(e:AW d=true)(a:A):xK d A B:=by unfold xK;rw [if_pos e];exact a
theorem az {i:Nat}(w:W f t λd t1=>xK d (R (.ret d) t1) (R .next ⟨t1.env.set i (some (.val d)),t1.S⟩)):W (Cr i f) t R:=by
 refine Bl (w.mono λd t1 q=>?_);unfold xK at q
 split at q
 ·next h=>rw [if_pos h];exact ⟨_,_,rfl,q⟩
 ·next h=>rw [if_neg h];exact ⟨_,_,rfl,q⟩
theorem Z6 {g:D->M Unit}(w:W f t λd t1=>xK d (R (.ret d) t1) (W (g d) t1 λ_ t2=>R .next t2)):W (Of f g) t R:=by
 refine Bl (w.mono λd t1 q=>?_);unfold xK at q
 split at q
 ·next h=>rw [if_pos h];exact ⟨_,_,rfl,q⟩
 ·next h=>rw [if_neg h];exact Bl (q.mono λ_ t2 q2=>⟨_,_,rfl,q2⟩)
theorem wNx (w:W f t λd t1=>AW d=false/\P d t1):W (nxD f) t P:=by
 refine Bl (w.mono λd t1 z9=>?_);obtain ⟨h,q⟩:=z9;rw [if_neg (by rw [h];decide)];exact ⟨_,_,rfl,q⟩
theorem aa {g:M D}{h:D->M D}(w:W g t λy t1=>xK y (P y t1) (W (h y) t1 λd t2=>AW d=false/\P d t2)):W (JQ g h) t P:=by
 refine Bl (w.mono λy t1 q=>?_);unfold xK at q
 split at q
 ·next z=>rw [if_pos z];exact ⟨_,_,rfl,q⟩
 ·next z=>rw [if_neg z];exact wNx q
theorem Z8 {g:M D}{h:D->D->M D}(w:W f t λx t1=>W (JQ g (h x)) t1 P):W (HK f g h) t P:=Bl w
theorem WK {n:Str}{f:M (List D)}(w:W f t λds t1=>ds.length<=1000/\R (.ret (.exc n [])) t1):W (Fe n f) t R:=
 Bl (w.mono λds t1 ⟨e,q⟩=>by rw [if_pos e];exact ⟨_,_,rfl,q⟩)
theorem WL {n:Str}(w:W f t λ_ t1=>R (.ret (.exc n [])) t1):W (Fe n (Aa f Ad)) t R:=WK (Ds (w.mono λd t1 q=>IW ⟨by show 1<=1000;decide,q⟩))
theorem bX {n:Str}{i:Nat}{s:M Out}{r:D->M Out}(e:D3 n n'=true)(w:W s { t with env:=t.env.set i (some (.val (.exc n ds))) } λo t2=>R o (unE i t2)):W (hAs n' i s r (.exc n ds)) t R:=by
 obtain ⟨o,t2,e1,q⟩:=w;exact ⟨o,unE i t2,by unfold hAs;dsimp only;rw [if_pos e,e1],q⟩
theorem bY {n:Str}{s:M Out}{r:D->M Out}(e:D3 n n'=true)(w:W s t R):W (hNo n' s r (.exc n ds)) t R:=by
 obtain ⟨o,t2,e1,q⟩:=w;exact ⟨o,t2,by unfold hNo;dsimp only;rw [if_pos e,e1],q⟩
theorem af {n:Str}{s:M Out}{r:D->M Out}(e:D3 n n'=false)(w:W (r (.exc n ds)) t R):W (hNo n' s r (.exc n ds)) t R:=by
 obtain ⟨o,t2,e1,q⟩:=w;exact ⟨o,t2,by unfold hNo;dsimp only;rw [if_neg (by rw [e];decide),e1],q⟩
theorem Z7 {m n:Str}{d:D}(e:m∈A9)(l:((IB m).zip ds).lookup n=some d)(q:P d t):W (Fv n (.exc m ds)) t P:=⟨_,_,by unfold Fv;dsimp only;rw [if_pos e,l];rfl,q⟩
theorem Zj {g:Fn}{Q:D->List Ob->Prop}(w:Wf g ds S λr S'=>AW r=false/\Q r S'):Wf (Hk g) ds S Q:=by
 obtain ⟨r,S',e,h,q⟩:=w;exact ⟨r,S',by unfold Hk;rw [e];dsimp only;rw [if_neg (by rw [h];decide)],q⟩
end
theorem FX {n:Str}{g:M D}{R:Out->T->Prop}(w:W f t λa t1=>W g t1 λb t2=>R (.ret (.exc n [a,b])) t2):W (C8 n (Aa f (Aa g Ad))) t R:=
 Bl (Ds (w.mono λa t1 q=>Ds (q.mono λb t2 q=>IW ⟨_,_,rfl,q⟩)))
local macro_rules | `(tactic| walk_at "x1")=>`(tactic| first
 | walk_at "w1"
 | clear 31 cR az wDropX Z6 wNx Z8 wBinY aa wCallY Rr
 | clear 33 WC | clear 32 aH | clear 32 aG
 | clear 31 wRaiseT WL | clear 33 bX | clear 33 wHAsN | clear 33 bY | clear 33 af
 | clear 33 wIsiX | clear 31 wIsiXN | ((with_reducible refine' Z7 ?wv ?wu ?_);(case wv=>decide);(case wu=>exact rfl)))
local macro_rules | `(tactic| left)=>`(tactic| repeat (walk_at "x1"))
inductive Rd where
 | done (v:D)
 | need (ok:Nat->Bool) (nx:Nat->Rd)
inductive RR where
 | told (v:D) (a:Nat)
 | short
 | broken (a:Nat)
noncomputable def Rd.run:Rd->List Nat->Nat->RR
 | .done v,_,a=>.told v a
 | .need ok nx,w,a=>match w[a]? with
   | none=>.short
   | some b=>if ok b=true then (nx b).run w (a + 1) else .broken a
noncomputable def Rd.bnd:Rd->(D->Rd)->Rd
 | .done v,k=>k v
 | .need ok nx,k=>.need ok λb=>(nx b).bnd k
def RR.thn (r:RR)(w:List Nat)(k:D->Rd):RR:=match r with
 | .told v a=>(k v).run w a
 | .short=>.short
 | .broken a=>.broken a
variable {w:List Nat}{a:Nat}
theorem Ch {ok:Nat->Bool}{nx:Nat->Rd}(h:w[a]?=none):(Rd.need ok nx).run w a = .short:=by rw [Rd.run,h]
variable {b:Nat}
theorem BU {ok:Nat->Bool}{nx:Nat->Rd}(h:w[a]?=some b):(Rd.need ok nx).run w a=if ok b=true then (nx b).run w (a + 1) else .broken a:=by rw [Rd.run,h]
theorem Ic (k:D->Rd)(w:List Nat):∀(p:Rd) (a:Nat),(p.bnd k).run w a=(p.run w a).thn w k:=by
 intro p
 induction p with
 | done v=>intro a;rfl
 | need ok nx ih=>
   intro a;rw [Rd.bnd]
   cases h:w[a]? with
   | none=>rw [Ch h,Ch h];rfl
   | some b=>
     rw [BU h,BU h]
     by_cases q:ok b=true
     ·rw [if_pos q,if_pos q];exact ih b (a + 1)
     ·rw [if_neg q,if_neg q];rfl
variable {v:D}
theorem FW:∀(p:Rd) (a:Nat),a<=w.length->p.run w a = .told v b->a<=b/\b<=w.length:=by
 intro p
 induction p with
 | done v'=>intro a ha h;cases h;exact ⟨un2 _,ha⟩
 | need ok nx ih=>
   intro a ha h
   cases e:w[a]? with
   | none=>rw [Ch e] at h;cases h
   | some c=>
     rw [BU e] at h;have hl:=(ub1.mp e).1
     by_cases q:ok c=true
     ·rw [if_pos q] at h;have:=ih c (a + 1) hl h;lia
     ·rw [if_neg q] at h;cases h
def Rd.good:Rd->Prop
 | .done _=>True
 | .need ok nx=>(ok 0=true\/ok 32=true)/\∀b,ok b=true->(nx b).good
noncomputable def Hn (lo:Int)(M:Nat):Nat->Nat->Rd
 | 0,x=>.done (.int (lo + x))
 | r + 1,x=>.need (λb=>decide (x * 256 + b<=M / 2 ^ (8 * r))) λb=>Hn lo M r (x * 256 + b)
def IN:Nat->List Nat->Rd
 | 0,cs=>.done (.str ⟨cs.toArray⟩)
 | n + 1,cs=>.need Bw λc=>IN n (cs++[c])
def Hm (p:Rd):Nat->List D->Rd
 | 0,ds=>.done (.lst ds)
 | n + 1,ds=>p.bnd λv=>Hm p n (ds++[v])
def pSh:Nat->Sh->Rd
 | 0,_=>.done .non
 | _ + 1,.nothing=>.done .non
 | _ + 1,.number lo hi=>Hn lo (hi - lo).toNat (wid (hi - lo).toNat) 0
 | _ + 1,.text q=>.need (λb=>decide ((b:Int)<=q)) λb=>IN b []
 | n + 1,.list s q=>.need (λb=>decide ((b:Int)<=q)) λb=>Hm (pSh n s) b []
 | n + 1,.pair s r=>(pSh n s).bnd λv=>(pSh n r).bnd λu=>.done (.tup [v,u])
 | n + 1,.choice ss=>.need (λb=>decide (b < ss.length)) λb=>(pSh n (ss.getD b .nothing)).bnd λv=>.done (.tup [.str "of",.int b,v])
mutual
noncomputable def plD:D->Bool
 | .lst xs=>pls xs
 | .tup xs=>pls xs
 | .obj _=>false
 | .scr _=>false
 | .ty _=>false
 | .exc _ _=>false
 | .dic=>false
 | _=>true
noncomputable def pls:List D->Bool
 | []=>true
 | d :: r=>plD d && pls r
end
noncomputable def pos (i:Int):Int:=if 0 < i then i else 0
structure ValueRes2 (k c l:Nat)(S:List Ob)(s:Sh)(a b:Int)(r:D)(S':List Ob):Prop where
 fit:An s r=true
 lft:∃a' b':Int,S'[l]?=some (.lst [.int a',.int b'])/\((AT s r).length:Int)<=9 * (a - a') + (pos b - pos b')/\pos b'<=pos b/\1<=a - a'/\a - a'<=cnt s + (14 * (s.depth:Int)) * pos a
 deck:DeckAt k c S'
 kp:N7 k c l S S'
mutual
noncomputable def szE:D->Nat
 | .lst xs=>1 + TW xs
 | .tup xs=>1 + TW xs
 | _=>1
noncomputable def TW:List D->Nat
 | []=>0
 | d :: r=>szE d + TW r
end
structure VOk (s:Sh)(v:D):Prop where
 fit:An s v=true
 len:(AT s v).length<=14809
local macro_rules | `(tactic| walk_at "y1")=>`(tactic| first | walk_at "x1" | clear 31 FX)
local macro_rules | `(tactic| symm)=>`(tactic| repeat (walk_at "y1"))
noncomputable def wD (w:List Nat):List D:=w.map λ(n:Nat)=>D.int (n:Int)
theorem BV (w:List Nat):(wD w).length=w.length:=by unfold wD;rw [uj0]
theorem M2 (h:w[a]?=some b):(wD w)[a]?=some (.int (b:Int)):=by unfold wD;rw [ug3,h];rfl
abbrev exS:D:=.exc "Short" []
abbrev exB (a:Nat):D:=.exc "Broken" [.int (a:Int),.non]
noncomputable def rrD:RR->D
 | .told v b=>.tup [v,.int (b:Int)]
 | .short=>exS
 | .broken a=>exB a
noncomputable def byX:Option Nat->D
 | none=>exS
 | some b=>.int (b:Int)
noncomputable def upX (m:Int)(a:Nat):Option Nat->D
 | none=>exS
 | some b=>if (b:Int)<=m then .int (b:Int) else exB a
def sgX (a:Nat):Option Nat->D
 | none=>exS
 | some c=>if Bw c=true then .str ⟨#[c]⟩ else exB a
def RX (c:Fn)(s:Sh)(p:Rd):Prop:=∀(w:List Nat) (a:Nat),a<=w.length->Pure1 c [s.d,.lst (wD w),.int (a:Int)] (rrD (p.run w a))
def Ue (f:Fn)(n:Nat):Prop:=∀s:Sh,s.depth<=n->wf s=true->RX f s (pSh n s)
noncomputable def seg (w:List Nat)(a b:Nat):List Nat:=(w.drop a).take (b - a)
theorem HA (x y:List Nat):wD (x++y)=wD x++wD y:=by unfold wD;rw [uk3]
variable {kvs:List (Key×D)}
theorem Bj {d:D}(e:t.S[n]?=some (.dct kvs))(e2:AU kvs (.inr x)=some d)(h:P d t):W (AN (.obj n) (.str x)) t P:=
 ⟨d,t,by simp only [AN,e,e2];rfl,h⟩
variable {U:Unit->T->Prop}
theorem BW {g:M D}{d:D}(h:W f t λo t1=>W g t1 λi t2=>W (FV o i d) t2 U):W (Ck f g d) t U:=Bl (h.mono λo t1 h1=>Bl h1)
theorem Ba {d:D}(e:t.S[n]?=some (.dct kvs))(hl:kvs.length < LIM)(h:U () ⟨t.env,t.S.set n (.dct (A7 kvs (.inr x) d))⟩):W (FV (.obj n) (.str x) d) t U:=
 ⟨(),_,by simp only [FV,e,if_pos hl],h⟩
theorem Ze {i:Nat}{g:M D}{xs0:List D}(e:t.env[i]?=some (some (.own xs0)))(h:W g t λj t1=>∃n xs d,j = .int n/\t1.env[i]?=some (some (.own xs))/\atI xs n=some d/\P d t1):W (FM i g) t P:=by
 obtain ⟨j,t1,e1,n,xs,d,rfl,e2,e3,p⟩:=h;refine ⟨d,t1,?_,p⟩;unfold FM;simp only [e];show bnd g _ t=_;unfold bnd;simp only [e1,e2,e3];rfl
theorem JG {l:List (Str×M D)}(h:W (Dp l) ⟨t.env,t.S++[.dct []]⟩ λps t1=>t1.S[t.S.length]?=some (.dct [])/\ps.length<=15/\P (.obj t.S.length) ⟨t1.env,t1.S.set t.S.length (.dct (Bh ps))⟩):W (Fp l) t P:=by
 obtain ⟨ps,t1,e1,e2,e3,p⟩:=h;refine ⟨_,_,?_,p⟩;unfold Fp bnd;simp only [e1];unfold EF;simp only [e2,if_pos e3]
theorem En {Q:List (Key×D)->T->Prop}(h:Q [] t):W (Dp []) t Q:=⟨_,_,rfl,h⟩
theorem Be {k:Str}{r:List (Str×M D)}{Q:List (Key×D)->T->Prop}(h:W f t λd t1=>W (Dp r) t1 λps t2=>Q ((.inr k,d) :: ps) t2):W (Dp ((k,f) :: r)) t Q:=
 Bl (h.mono λd t1 h1=>Bl (h1.mono λps t2 h2=>⟨_,_,rfl,h2⟩))
structure St where
 rest:Int
 mixed:Bool
 turn:Int
noncomputable def St.ob (s:St):Ob:=.dct [(.inr (Str.ofString "rest"),.int s.rest),(.inr (Str.ofString "mixed"),.bl s.mixed),(.inr (Str.ofString "turn"),.int s.turn)]
noncomputable def take (s:St)(m:Int):Int×St:=
 if s.mixed=false then (s.rest % m,⟨s.rest / m,s.mixed,s.turn⟩)
 else
  let stir:=(s.rest % 2147483579 + 70001 * (s.turn + 1)) % 2147483579
  let rest:=(stir * stir % 2147483563 * 50021 + 7) % 2147483579
  (rest / 5 % m,⟨rest,s.mixed,s.turn + 1⟩)
theorem CL (a:Int)(n:Nat):(rngL a n).length=n:=by simp [rngL]
inductive GS where
 | fin
 | st (side:Str) (ws:List (Str×Sh×Int))
def wdD (w:Str×Sh×Int):D:=.tup [.str w.1,w.2.1.d,.int w.2.2]
def GS.d:GS->D
 | .fin=>.tup [.str (Str.ofString "end")]
 | .st side ws=>.tup [.str side,.lst (ws.map wdD)]
noncomputable def GS.isFin:GS->Bool
 | .fin=>true
 | _=>false
theorem Rz {g:Bool->Bool}{x:GS}(h:P (.bl (g x.isFin)) t):W (eqS g x.d (.tup [.str (Str.ofString "end")])) t P:=by
 cases x with
 | fin=>exact ⟨_,_,by
    show Option.map (λb=>(D.bl (g b),t)) (Option.map (λb=>b && true) (some ((Str.ofString "end" == Str.ofString "end") && true)))=some (D.bl (g true),t);rw [ui7];rfl,h⟩
 | st side ws=>exact ⟨_,_,by
    show Option.map (λb=>(D.bl (g b),t)) (Option.map (λb=>b && false) (some ((side == Str.ofString "end") && true)))=some (D.bl (g false),t)
    cases (side == Str.ofString "end") <;> rfl,h⟩
theorem Gw {a:Int}{d:D}{r:List D}(e:d :: r=(rngL a n).drop j):d = .int (a + j)/\r=(rngL a n).drop (j + 1)/\j < n:=by
 have hj:j < (rngL a n).length:=by
  rcases Nat.lt_or_ge j (rngL a n).length with h | h
  ·exact h
  ·rw [List.drop_eq_nil_of_le h] at e;cases e
 rw [ub3 hj] at e;injection e with e1 e2
 rw [CL] at hj;refine ⟨?_,e2,hj⟩;rw [e1];simp [rngL]
structure WOk (n:Int)(w:Str×Sh×Int):Prop where
 ok:wf w.2.1=true
 dep:w.2.1.depth<=3
 lo:0<=w.2.2
 hi:w.2.2 < n
 nm:w.1.length<=90000
inductive GSOk (n:Int):GS->Prop
 | fin:GSOk n .fin
 | st {side:Str} {ws:List (Str×Sh×Int)}:(side=Str.ofString "left"\/side=Str.ofString "right")->0 < ws.length->ws.length<=9->(ws.map (·.1)).Nodup->(∀w∈ws,WOk n w)->GSOk n (.st side ws)
structure GOk (g:List GS):Prop where
 ne:0 < g.length
 le:g.length<=30
 all:∀x∈g,GSOk g.length x
def HD (f:Fn):Prop:=∀(n:Int) (x:GS),GSOk n x->Pure1 f [x.d] (.bl x.isFin)
theorem Qi:HD (fnOf 1 1 IE):=by
 intro n x hx S;refine Aq rfl ?_;unfold IE
 cases hx with
 | fin=>
   rw [GS.d];right;exact ⟨by simp [GS.isFin],rfl⟩
 | st hs _ _ _ _=>
   rw [GS.d];right;refine ⟨?_,rfl⟩;rcases hs with rfl | rfl <;> simp [GS.isFin]
def GS.words:GS->D
 | .fin=>.tup []
 | .st _ ws=>.lst (ws.map wdD)
noncomputable def GS.ws:GS->List (Str×Sh×Int)
 | .fin=>[]
 | .st _ ws=>ws
theorem Mc {p:α->Bool}{l:List α}(h:∀i (hi:i < l.length),i < j->p l[i]=false){x:α}(hx:l[j]?=some x)(hp:p x=true):l.findIdx? p=some j:=by
 obtain ⟨hj,e⟩:=ub1.mp hx;rw [ua0];exact ⟨hj,by rw [e];exact hp,λi hi=>by simpa using h i (by lia) hi⟩
noncomputable def GS.side:GS->Str
 | .fin=>Str.ofString "end"
 | .st s _=>s
noncomputable def Bv (g:List GS)(q:Nat):GS:=g.getD q .fin
def wdAt (g:List GS)(q p:Nat):Str×Sh×Int:=(Bv g q).ws.getD p (Str.ofString "",.nothing,0)
def CW (g:List GS)(q p:Nat):Nat:=(wdAt g q p).2.2.toNat
def IG (g:List GS)(q p:Nat)(v:D):D:=.tup [.str (Bv g q).side,.str (wdAt g q p).1,v]
abbrev Mv:=Nat×D
def lastQ (g:List GS):Nat->List Mv->Nat
 | q,[]=>q
 | q,(p,_) :: r=>lastQ g (CW g q p) r
def BH (g:List GS):Nat->List Mv->List D
 | _,[]=>[]
 | q,(p,v) :: r=>IG g q p v :: BH g (CW g q p) r
def Dg (g:List GS):Nat->List Mv->List D
 | q,[]=>[.int q]
 | q,(p,_) :: r=>.int q :: Dg g (CW g q p) r
structure MvOk (g:List GS)(q:Nat)(p:Nat)(v:D):Prop where
 lt:q < g.length
 pl:p < (Bv g q).ws.length
 fit:An (wdAt g q p).2.1 v=true
def okQ (g:List GS):Nat->List Mv->Prop
 | _,[]=>True
 | q,(p,v) :: r=>MvOk g q p v/\okQ g (CW g q p) r
theorem G2 (g:List GS):∀(q:Nat) (a b:List Mv),lastQ g q (a++b)=lastQ g (lastQ g q a) b
 | q,[],b=>rfl
 | q,(p,v) :: r,b=>by rw [ui5,lastQ,lastQ,G2 g _ r b]
theorem KL (g:List GS):∀(q:Nat) (a b:List Mv),BH g q (a++b)=BH g q a++BH g (lastQ g q a) b
 | q,[],b=>rfl
 | q,(p,v) :: r,b=>by rw [ui5,BH,BH,lastQ,KL g _ r b];rfl
theorem Hw (g:List GS):∀(q:Nat) (a:List Mv) (p:Nat) (v:D),Dg g q (a++[(p,v)])=Dg g q a++[.int (CW g (lastQ g q a) p)]
 | q,[],p,v=>rfl
 | q,(p',v') :: r,p,v=>by rw [ui5,Dg,Dg,lastQ,Hw g _ r p v];rfl
theorem Kh (g:List GS):∀(q:Nat) (a b:List Mv),okQ g q (a++b)↔okQ g q a/\okQ g (lastQ g q a) b
 | q,[],b=>by simp [okQ,lastQ]
 | q,(p,v) :: r,b=>by rw [ui5,okQ,okQ,lastQ,Kh g _ r b,and_assoc]
theorem DJ (g:List GS):∀(q:Nat) (a:List Mv),(BH g q a).length=a.length
 | q,[]=>rfl
 | q,(p,v) :: r=>by rw [BH,uh4,DJ g _ r,uh4]
theorem Iv (g:List GS):∀(q:Nat) (a:List Mv),(Dg g q a).length=a.length + 1
 | q,[]=>rfl
 | q,(p,v) :: r=>by rw [Dg,uh4,Iv g _ r,uh4]
theorem Hg (g:List GS):∀(q:Nat) (a:List Mv) (i:Nat) (p:Nat) (v:D),a[i]?=some (p,v)->(BH g q a)[i]?=some (IG g (lastQ g q (a.take i)) p v)
 | q,[],i,p,v,h=>by simp at h
 | q,(p',v') :: r,0,p,v,h=>by
   simp at h;obtain ⟨rfl,rfl⟩:=h;rfl
 | q,(p',v') :: r,i + 1,p,v,h=>by
   rw [BH,List.getElem?_cons_succ,Hg g _ r i p v (by simpa using h),List.take_succ_cons,lastQ]
variable {g:List GS}{q:Nat}
theorem NG {a:List Mv}(h:okQ g q a){i p:Nat}{v:D}(e:a[i]?=some (p,v)):MvOk g (lastQ g q (a.take i)) p v:=by
 obtain ⟨hi,e'⟩:=ub1.mp e;have hd:a.drop i=(p,v) :: a.drop (i + 1):=by rw [ub3 hi,e']
 rw [<-ud7 i a,Kh,hd,okQ] at h;exact h.2.1
theorem Eb (h:GOk g){q:Nat}(hq:q < g.length):GSOk g.length (Bv g q):=by
 unfold Bv;rw [ub0,ub6 hq];exact h.all _ (ui4 hq)
theorem ER (hq:q < g.length):atI (g.map GS.d) q=some (Bv g q).d:=by
 unfold atI;rw [B2 (by lia) (by rw [uj0];lia)];show (g.map GS.d)[(q:Int).toNat]?=_;unfold Bv;rw [ug4,ug3,ub0,ub6 hq];rfl
variable {p:Nat}
theorem Lj (hp:p < (Bv g q).ws.length):∃side ws,Bv g q = .st side ws/\p < ws.length/\ws[p]?=some (wdAt g q p):=by
 unfold wdAt
 cases e:Bv g q with
 | fin=>rw [e] at hp;simp [GS.ws] at hp
 | st side ws=>
   rw [e] at hp;have hp:p < ws.length:=hp;refine ⟨side,ws,rfl,hp,?_⟩;show ws[p]?=some (ws.getD p _);rw [ub0,ub6 hp];rfl
theorem Fk {ws:List (Str×Sh×Int)}{w:Str×Sh×Int}(e:ws[p]?=some w):atI (ws.map wdD) p=some (wdD w):=by
 obtain ⟨hp,_⟩:=ub1.mp e;unfold atI;rw [B2 (by lia) (by rw [uj0];lia)];show (ws.map wdD)[(p:Int).toNat]?=_;rw [ug4,ug3,e];rfl
theorem Pj (h:GOk g){q p:Nat}(hq:q < g.length)(hp:p < (Bv g q).ws.length):WOk g.length (wdAt g q p):=by
 obtain ⟨side,ws,e,hp',e2⟩:=Lj hp;have:=Eb h hq;rw [e] at this
 cases this with
 | st _ _ _ _ h5=>exact h5 _ (ue1 e2)
theorem Vv (h:GOk g){q p:Nat}(hq:q < g.length)(hp:p < (Bv g q).ws.length):CW g q p < g.length:=by
 have:=Pj h hq hp;unfold CW;have h1:=this.lo;have h2:=this.hi;lia
theorem ND {g:List GS}(h:GOk g):∀{a:List Mv} {q:Nat},q < g.length->okQ g q a->lastQ g q a < g.length
 | [],q,hq,_=>hq
 | (p,v) :: r,q,hq,hk=>by
   rw [okQ] at hk;rw [lastQ];exact ND h (Vv h hq hk.1.pl) hk.2
theorem Oy {ws:List (Str×Sh×Int)}(nd:(ws.map (·.1)).Nodup){p:Nat}{w:Str×Sh×Int}(e:ws[p]?=some w):(ws.findIdx? λx=>x.1 == w.1)=some p:=by
 obtain ⟨hp,ep⟩:=ub1.mp e;refine Mc (λi hi hip=>?_) e (by simp);rw [<-ep];have hne:¬ws[i].1=ws[p].1:=λz=>by
  have h1:i < (ws.map (·.1)).length:=by rw [uj0];exact hi
  have h2:p < (ws.map (·.1)).length:=by rw [uj0];exact hp
  have:(ws.map (·.1))[i]=(ws.map (·.1))[p]:=by rw [List.getElem_map,List.getElem_map];exact z
  have:=(uh3 nd).mp this;lia
 simpa using hne
theorem NH:∀{xs:List D},(∀d∈xs,okD d=true)->oks xs=true
 | [],_=>by rw [oks]
 | d :: r,h=>by rw [oks,h d uf3,NH λx m=>h x (ud8 _ m)];rfl
theorem EQ:∀(n:Nat) (s:Sh),s.depth<=n->wf s=true->∀v,An s v=true->okD v=true
 | 0,s,h,_,_,_=>absurd s.depth_pos (by lia)
 | n + 1,s,hd,hw,v,h=>by
   cases s with
   | nothing=>cases v <;> first | rfl | (simp [An,Lh] at h;done)
   | number lo hi=>cases v <;> first | rfl | (simp [An] at h;done)
   | text q=>
     simp only [wf,uh8,uh1] at hw
     cases v <;> simp only [An,uf8] at h
     simp only [uh8,uh1] at h;rw [okD,uh1];lia
   | list s q=>
     rw [Sh.depth] at hd;simp only [wf,uh8,uh1] at hw
     cases v <;> simp only [An,uf8] at h
     simp only [uh8,uh1,ui2] at h;rw [okD];exact NH λd m=>EQ n s (by lia) hw.2 d (h.2 d m)
   | pair a b=>
     rw [Sh.depth] at hd;simp only [wf,uh8] at hw;unfold An at h
     split at h
     ·rw [uh8] at h;rw [okD,oks,oks,oks,EQ n a (by lia) hw.1 _ h.1,EQ n b (by lia) hw.2 _ h.2];rfl
     ·cases h
   | choice ss=>
     rw [Sh.depth] at hd;simp only [wf,uh8,uh1] at hw;unfold An at h
     split at h
     ·next o k x=>
      simp only [uh8,uh1] at h;have hk:k.toNat < ss.length:=by lia
      have e1:ss[k.toNat]?=some ss[k.toNat]:=ub6 hk;have h2:=h.2;rw [DG ss _ _ _ e1] at h2;have ho:o=("of" : Str):=eq_of_beq h.1.1;have hx:=EQ n _ (um4 (DM ss _ _ e1) (by lia)) (EH hw.2 _ (ui4 hk)) x h2;subst ho;have hl:okD (.str ("of" : Str))=true:=by decide +kernel
      rw [okD,oks,oks,oks,oks,hl,hx];rfl
     ·cases h
abbrev kR:Key:=.inr (Str.ofString "rest")
abbrev kM:Key:=.inr (Str.ofString "mixed")
abbrev kC:Key:=.inr (Str.ofString "count")
theorem kRM:¬kR=kM:=by intro h;injection h with h;rw [C7] at h;exact absurd h (by decide)
theorem kRC:¬kR=kC:=by intro h;injection h with h;rw [C7] at h;exact absurd h (by decide)
theorem kMC:¬kM=kC:=by intro h;injection h with h;rw [C7] at h;exact absurd h (by decide)
theorem kMR:¬kM=kR:=λh=>kRM h.symm
theorem kCR:¬kC=kR:=λh=>kRC h.symm
abbrev Bb (a b c:D):List (Key×D):=[(kR,a),(kM,b),(kC,c)]
theorem Ki {a b c:D}:AU (Bb a b c) kR=some a:=by simp [AU,uj8]
theorem ME {a b c:D}:AU (Bb a b c) kM=some b:=by
 unfold AU Bb;rw [uj8,show decide (kR=kM)=false from uk5 kRM];simp [uj8]
theorem Gs {a b c:D}:AU (Bb a b c) kC=some c:=by
 unfold AU Bb;rw [uj8,show decide (kR=kC)=false from uk5 kRC];dsimp only;rw [uj8,show decide (kM=kC)=false from uk5 kMC];simp [uj8]
theorem FQ {a b c d:D}:A7 (Bb a b c) kR d=Bb d b c:=by
 unfold A7 Bb;rw [if_pos (by simp)];simp only [ul4,um8,if_true,if_neg kMR,if_neg kCR]
theorem MF {a b c d:D}:A7 (Bb a b c) kC d=Bb a b d:=by
 unfold A7 Bb;rw [if_pos (by simp)];simp only [ul4,um8,if_true,if_neg kRC,if_neg kMC]
theorem MD {a b c:D}:Bh (Bb a b c)=Bb a b c:=by
 unfold Bh;simp only [uj6,List.foldl_nil];have e1:A7 [] kR a=[(kR,a)]:=by simp [A7]
 rw [e1];have e2:A7 [(kR,a)] kM b=[(kR,a),(kM,b)]:=by
  unfold A7;rw [if_neg (by simp only [ul7,List.any_nil,ul5,uh1];exact kRM)];rfl
 rw [e2];unfold A7;rw [if_neg (by
  simp only [ul7,List.any_nil,ul5,uk1,uh1];intro h;rcases h with h | h
  ·exact kRC h
  ·exact kMC h)]
 rfl
def Room (k r:Nat)(S:List Ob):Prop:=∃(a c:Int) (b:Bool),S[k]?=some (.dct (Bb (.int a) (.bl b) (.int c)))/\0<=c/\c + r<=1000000000000000000000000000000
variable {r:Nat}
theorem Room.mono {k r':Nat}(h:Room k r S)(e:r'<=r):Room k r' S:=by
 obtain ⟨a,c,b,h1,h2,h3⟩:=h;exact ⟨a,c,b,h1,h2,by lia⟩
variable {m:Nat}
theorem Room.drop {k:Nat}(h:Room k (r + m) S):Room k r S:=h.mono (ui1 _ _)
theorem Room.loop {k:Nat}(h:Room k (r + q * (m + 1)) S):Room k (r + q * m + q) S:=by rw [Nat.mul_succ,<-ul9] at h;exact h
theorem Ij {j:Int}(h1:i.natAbs < 2 ^ 512)(h2:j.natAbs < 2 ^ 512)(h:P (.int (i * j)) t):W (II (.int i) (.int j)) t P:=
 ⟨_,_,by simp only [II,i2C,Mx,ul1 h1,ul1 h2];rfl,h⟩
theorem Lk {j:Int}(h1:0 < j)(h2:j < 18446744073709551616)(h:P (.int (i / j)) t):W (HM (.int i) (.int j)) t P:=
 ⟨_,_,by simp only [HM,i2C,LZ,ul1 h1,ul1 h2];rfl,h⟩
theorem Eh (h0:0<=i)(h:i < 10000000000000000000000000000000000000000000000000000000000000000000000000000000):i.natAbs < 2 ^ 512:=by
 have:(10000000000000000000000000000000000000000000000000000000000000000000000000000000:Nat)<=2 ^ 512:=by decide
 lia
theorem AC {k:Nat}{o':Ob}(h:S[k]?=some o):(S.set k o')[k]?=some o':=Vf h
def PTakeOk (f:Fn):Prop:=∀(k r:Nat) (S:List Ob) (m:Int),0 < m->m < 4611686018427387904->Room k (r + 1) S->Wf f [.obj k,.int m] S λv S'=>(∃i,v = .int i/\0<=i/\i < m)/\Room k r S'
theorem PTakeOk.use {f:Fn}(h:PTakeOk f){k r:Nat}{S:List Ob}{m:Int}(many:Int)(d:Room k (r + 1) S){P:D->List Ob->Prop}(p:∀i S',0<=i->i < many->Room k r S'->P (.int i) S')(e:m=many:=by first | rfl | decide)(h1:0 < many:=by decide)(h2:many < 4611686018427387904:=by decide):Wf f [.obj k,.int m] S P:=by
 subst e;exact (h k r S m h1 h2 d).mono λv S' ⟨⟨i,e,i0,i1⟩,q⟩=>by subst e;exact p i S' i0 i1 q
theorem TB:PTakeOk (fnOf 2 3 Cc):=by
 intro k n S m hm0 hm1 ⟨a,c,b,hS,c0,c1⟩;refine Aq rfl ?_;unfold Cc;right;refine Bj hS Ki ?_;right;refine Bj hS ME ?_;right;refine Cg (λz=>?_) λz=>?_
 ·right;refine Lk hm0 (by lia) ?_;refine BW ?_;right;refine Ba hS (by show 3 < 100000;decide) ?_;rw [FQ];right;refine M3 hm0 ?_;exact ⟨⟨_,rfl,uk4 _ (by lia),ug0 _ hm0⟩,_,_,_,AC hS,c0,by lia⟩
 ·right;refine Bj hS Gs ?_;right;refine BW ?_;right;refine Ba hS (by show 3 < 100000;decide) ?_;rw [MF];have g1:(S.set k (.dct (Bb (.int a) (.bl b) (.int (c + 1)))))[k]?=some (.dct (Bb (.int a) (.bl b) (.int (c + 1)))):=AC hS;refine Ct ?_
  change W _ ⟨[some (.val (.obj k)),some (.val (.int m)),some (.val (.int a))],S.set k (.dct (Bb (.int a) (.bl b) (.int (c + 1))))⟩ _
  generalize S.set k (.dct (Bb (.int a) (.bl b) (.int (c + 1))))=S1 at g1 ⊢;right;have a0:=uk4 a (b:=1000000000163) (by decide);have a1:=ug0 a (b:=1000000000163) (by decide);generalize a % 1000000000163=x at a0 a1;refine Bj g1 Gs ?_;obtain ⟨s,es⟩:∃s,s=c + 1:=⟨_,rfl⟩;rw [<-es];rw [<-es] at g1;have s0:0<=s:=by lia
  have s1:s<=1000000000000000000000000000000:=by lia
  refine Ij (by decide) (Eh s0 (by lia)) ?_;right;refine Ij (Eh (by lia) (by lia)) (Eh (by lia) (by lia)) ?_;right;have b0:=uk4 ((x + 70001 * s) * (x + 70001 * s + 29)) (b:=1000000000193) (by decide);have b1:=ug0 ((x + 70001 * s) * (x + 70001 * s + 29)) (b:=1000000000193) (by decide);generalize (x + 70001 * s) * (x + 70001 * s + 29) % 1000000000193=y at b0 b1;refine Ij (Eh (by lia) (by lia)) (Eh (by lia) (by lia)) ?_;right;refine BW ?_;right;refine Ba g1 (by show 3 < 100000;decide) ?_;rw [FQ];right;refine Lk (by decide) (by decide) ?_;right;refine M3 hm0 ?_;exact ⟨⟨_,rfl,uk4 _ (by lia),ug0 _ hm0⟩,_,_,_,AC g1,by lia,by lia⟩
theorem Bc {x:Ob}:(S++[x])[S.length]?=some x:=by simp
noncomputable def cs:Nat->Nat
 | 0=>10
 | d + 1=>10 + 3 * cs d
theorem Zn (d:Nat):10<=cs d:=by cases d <;> simp [cs]
theorem Hu (h:n<=m)(hm:m<=1000:=by decide):BI (n:Int)=true:=Ci (by lia) (by lia)
theorem IC {l:List α}{x:α}(h:l.length + (m + 1)=n):(l++[x]).length + m=n:=by rw [uf7,<-h];simp only [uh4,uj9];lia
theorem HS {l:List α}{x:α}{p:α->Prop}(h:∀y∈l,p y)(hx:p x):∀y∈l++[x],p y:=λy hy=>by
 rcases ui8.mp hy with h' | h'
 ·exact h y h'
 ·rw [uf9] at h';subst h';exact hx
theorem Mr (h:a<=n)(hn:n<=100000:=by decide):a<=LIM:=um4 h hn
variable {ss:List Sh}
theorem aZ (h:∀x∈ss,x.depth<=n):(Sh.choice ss).depth<=n + 1:=by
 rw [Sh.depth];refine Nat.succ_le_succ ?_
 induction ss with
 | nil=>rw [Ei];exact un3 _
 | cons x r ih=>rw [Ei];exact Nat.max_le.mpr ⟨h x uf3,ih λy m=>h y (ud8 _ m)⟩
structure Drawn (k r:Nat)(dp:Nat)(v:D)(S':List Ob):Prop where
 ex:∃s:Sh,v=s.d/\s.depth<=dp/\wf s=true
 pool:Room k r S'
def PShapeOk (f:Fn)(n:Nat):Prop:=∀(d k r:Nat) (S:List Ob),d < n->Room k (r + cs d) S->Wf f [.obj k,.int d] S λv S'=>Drawn k r (d + 1) v S'
theorem PShapeOk.use {f:Fn}(h:PShapeOk f n){d k r:Nat}{S:List Ob}(hd:d < n)(q:Room k (r + cs d) S){P:D->List Ob->Prop}(p:∀s S',s.depth<=d + 1->wf s=true->Room k r S'->P s.d S'):Wf f [.obj k,.int d] S P:=
 (h d k r S hd q).mono λv S' ⟨⟨s,e,h1,h2⟩,q⟩=>by subst e;exact p s S' h1 h2 q
theorem QV {cr:Fn}(ht:PTakeOk ct)(hr:n=0\/PShapeOk cr n):PShapeOk (fnOf 2 4 (Dx ct cr)) (n + 1):=by
 intro d k r S hd p0;refine Aq rfl ?_;unfold Dx;have hcs:=Zn d;right;refine Ii (FP (by decide) (by decide)) ?_;right;refine ht.use (r:=r + (cs d - 1)) (if d=0 then 3 else 6) (p0.mono (by lia)) (λi S1 i0 i1 p1=>?_) ?_ (by split <;> decide) (by split <;> decide)
 ·right;refine Cg (λz=>?_) λz=>?_
  ·right;exact ⟨⟨.nothing,by rw [Sh.d],by show 1<=_;lia,rfl⟩,p1.drop⟩
  right;refine Cg (λy=>?_) λy=>?_
  ·right;refine ht.use (r:=r + 8) 9 (p1.mono (by lia)) λa S2 a0 a1 p2=>?_;right;refine ht.use (r:=r + 7) 100000000000000000 p2 λb S3 b0 b1 p3=>?_;right;refine ht.use (r:=r + 6) 3 p3 λg S4 z0 z1 p4=>?_;have e16:(10:Int) ^ (16:Int).toNat=10000000000000000:=by decide
   rw [e16];obtain ⟨dd,ed,lo,rfl,l0,l1⟩:=Gq (xs:=[D.int 0,D.int (a - 4),D.int (b - 10000000000000000)]) z0 (by simpa using z1) (p:=λd=>∃m:Int,d = .int m/\-100000000000000000<=m/\m<=100000000000000000) (by
    simp only [ue2];clear z0 z1 ht p4 p3 p2 p1 p0;exact ⟨⟨_,rfl,by decide,by decide⟩,⟨_,rfl,by lia,by lia⟩,⟨_,rfl,by lia,by lia⟩,λ_ z=>nomatch z⟩)
   refine A3 ed ?_;right;refine ht.use (r:=r + 5) 100000000000000000 p4 λx S5 x0 x1 p5=>?_;right;refine ht.use (r:=r + 4) 7 p5 λh S6 h0 h1 p6=>?_;obtain ⟨dd,ed,hi,rfl,m0,m1⟩:=Gq (xs:=[D.int 0,D.int 1,D.int 255,D.int 256,D.int 300,D.int 70000,D.int x]) h0 (by simpa using h1) (p:=λd=>∃m:Int,d = .int m/\0<=m/\m<=100000000000000000) (by
    simp only [ue2];exact ⟨⟨_,rfl,by decide,by decide⟩,⟨_,rfl,by decide,by decide⟩,⟨_,rfl,by decide,by decide⟩,⟨_,rfl,by decide,by decide⟩,⟨_,rfl,by decide,by decide⟩,⟨_,rfl,by decide,by decide⟩,⟨_,rfl,x0,Int.le_of_lt x1⟩,λ_ z=>nomatch z⟩)
   refine A3 ed ?_;right;refine ⟨⟨.number lo (lo + hi),by rw [Sh.d],by show 1<=_;lia,?_⟩,p6.drop⟩;simp only [wf,uh8,uh1];clear p0 p1 p2 p3 p4 p5 p6;lia
  right;refine Cg (λx=>?_) λx=>?_
  ·right;refine ht.use (r:=r + 8) 4 (p1.mono (by lia)) λg S4 z0 z1 p4=>?_;obtain ⟨dd,ed,m,rfl,m0,m1⟩:=Gq (xs:=[D.int 0,D.int 1,D.int 5,D.int 250]) z0 (by simpa using z1) (p:=λd=>∃m:Int,d = .int m/\0<=m/\m<=250) (by
    simp only [ue2];exact ⟨⟨_,rfl,by decide,by decide⟩,⟨_,rfl,by decide,by decide⟩,⟨_,rfl,by decide,by decide⟩,⟨_,rfl,by decide,by decide⟩,λ_ z=>nomatch z⟩)
   refine A3 ed ?_;right;refine ⟨⟨.text m,by rw [Sh.d],by show 1<=_;lia,?_⟩,p4.drop⟩;simp only [wf,uh8,uh1];exact ⟨m0,m1⟩
  have i3:3<=i:=by
   have z':¬i=0:=by simpa using z
   have y':¬i=1:=by simpa using y
   have x':¬i=2:=by simpa using x
   lia
  obtain ⟨d,rfl⟩:∃e,d=e + 1:=⟨d - 1,by
   have:¬d=0:=λe=>by rw [if_pos e] at i1;lia
   lia⟩
  have e0:(((d + 1:Nat):Int) - 1)=(d:Int):=by lia
  rcases hr with rfl | hr
  ·exact absurd (Nat.lt_of_succ_lt_succ hd) (uk2 _)
  have hd':=Nat.lt_of_succ_lt_succ hd;have ec:cs (d + 1)=10 + 3 * cs d:=rfl;rw [ec] at p1;replace p1:Room k (r + 9 + 3 * cs d) S1:=p1.mono (by lia);clear p0 hcs ec;right;refine Cg (λw=>?_) λw=>?_
  ·right;rw [e0];refine hr.use (r:=r + 9) hd' (p1.mono (by lia)) λs S2 s1 s2 p2=>?_;right;refine ht.use (r:=r + 8) 4 p2 λg S4 z0 z1 p4=>?_;obtain ⟨dd,ed,m,rfl,m0,m1⟩:=Gq (xs:=[D.int 0,D.int 2,D.int 6,D.int 250]) z0 (by simpa using z1) (p:=λd=>∃m:Int,d = .int m/\0<=m/\m<=250) (by
    simp only [ue2];exact ⟨⟨_,rfl,by decide,by decide⟩,⟨_,rfl,by decide,by decide⟩,⟨_,rfl,by decide,by decide⟩,⟨_,rfl,by decide,by decide⟩,λ_ z=>nomatch z⟩)
   refine A3 ed ?_;right;refine ⟨⟨.list s m,by rw [Sh.d],by rw [Sh.depth];lia,?_⟩,p4.drop⟩;simp only [wf,uh8,uh1];exact ⟨⟨m0,m1⟩,s2⟩
  right;refine Cg (λv=>?_) λv=>?_
  ·right;rw [e0];refine hr.use (r:=r + cs d) hd' (p1.mono (by lia)) λs S2 s1 s2 p2=>?_;right;rw [e0];refine hr.use hd' p2 λs' S3 s3 s4 p3=>?_;right;exact ⟨⟨.pair s s',by rw [Sh.d],by rw [Sh.depth];lia,by simp only [wf,s2,s4,Bool.and_self]⟩,p3⟩
  right;refine ht.use (r:=r + 3 * cs d) 3 (p1.mono (by lia)) λa S3 a0 a1 p3=>?_;right;obtain ⟨m,em⟩:=uc2 (Int.add_nonneg (by decide:(0:Int)<=1) a0);rw [em];have m13:1<=m/\m<=3:=by clear p1 p3;lia
  refine FH (Hu m13.2) ?_;refine (FL (P:=λxs t'=>∃ss:List Sh,xs=ss.map Sh.d/\ss.length=m/\(∀s∈ss,s.depth<=d + 1/\wf s=true)/\Room k r t'.S) (λacc q t=>∃(ss:List Sh) (S':List Ob) (z:Option Sl),acc=ss.map Sh.d/\ss.length + q.length=m/\(∀s∈ss,s.depth<=d + 1/\wf s=true)/\Room k (r + cs d * q.length) S'/\t=⟨[z,some (.val (.obj k)),some (.val (.int ((d + 1:Nat):Int)))],S'⟩) _ [] _ ⟨[],S3,_,rfl,by simp [rngL],by simp,p3.mono (by rw [CL,ug4,um7];exact uf1 (Nat.mul_le_mul_right _ m13.2) _),rfl⟩ ?_ ?_).mono ?_
  ·rintro acc d' q t ⟨ss,S',z,rfl,h1,h2,h3,rfl⟩ _;rw [uh4] at h1 h3;refine IX (Kw ?_);rw [if_pos rfl];right;rw [e0];refine hr.use hd' h3.loop λs S5 q1 q2 q3=>?_;exact ⟨ss++[s],S5,_,by rw [uk3];rfl,IC h1,HS h2 ⟨q1,q2⟩,q3,rfl⟩
  ·rintro acc t ⟨ss,S',z,rfl,h1,h2,h3,rfl⟩;exact ⟨ss,rfl,h1,h2,h3⟩
  ·rintro xs t' ⟨ss,hxs,h1,h2,h3⟩;rw [uj7] at hxs;subst hxs;refine BJ (Mr (n:=3) (by rw [uj0,h1];exact m13.2)) ?_;right;refine ⟨⟨.choice ss,by rw [Sh.d,MS],aZ λx hx=>(h2 x hx).1,?_⟩,h3⟩;simp only [wf,uh8,uh1];exact ⟨⟨by lia,by lia⟩,RB λx hx=>(h2 x hx).2⟩
 ·by_cases e:d=0
  ·subst e;decide
  ·rw [if_neg e];have:decide ((d:Int) > 0)=true:=ul1 (by lia);rw [this];decide
theorem a9 {s:Sh}{q:Int}(h:(Sh.list s q).depth<=m + 1):s.depth<=m:=by rw [Sh.depth] at h;exact ud0 h
theorem Xb {a b:Sh}(h:(Sh.pair a b).depth<=m + 1):a.depth<=m/\b.depth<=m:=by rw [Sh.depth] at h;lia
theorem a7 (h:(Sh.choice ss).depth<=m + 1):∀x∈ss,x.depth<=m:=λx hx=>by rw [Sh.depth] at h;exact um4 (KO hx) (ud0 h)
theorem ZP {k:Nat}(h:k < ss.length):atI (shD ss) (k:Int)=some (ss[k]).d:=by
 unfold atI;rw [B2 (by lia) (by rw [DL];lia)];show (shD ss)[(k:Int).toNat]?=_;rw [ug4,FU,ub6 h];rfl
def sg11:Str:=" !#09AZaz~{"
theorem Ww (h0:0<=i)(h1:i < 11):∃c,atI sg11.cps.toList i=some c/\Bw c=true:=by
 have hl:sg11.cps.toList.length=11:=by decide +kernel
 have ha:sg11.cps.toList.all Bw=true:=by decide +kernel
 have hi:i.toNat < sg11.cps.toList.length:=by lia
 refine ⟨sg11.cps.toList[i.toNat],?_,ui2.mp ha _ (ui4 hi)⟩;unfold atI;rw [B2 h0 (by lia)];show sg11.cps.toList[i.toNat]?=_;rw [ub6 hi]
noncomputable def vB:Nat->Nat
 | 0=>10
 | m + 1=>10 + vB m * 3
theorem Room.vA {k:Nat}(h:Room k (r + vB (m + 1)) S):Room k (r + 10) S:=h.mono (by rw [vB];lia)
theorem Room.vL {k:Nat}(h:Room k (r + vB (m + 1)) S):Room k (r + vB m * 3 + 1) S:=h.mono (by rw [vB];lia)
theorem Room.vP {k:Nat}(h:Room k (r + vB (m + 1)) S):Room k (r + vB m + vB m) S:=h.mono (by rw [vB];lia)
theorem Room.vC {k:Nat}(h:Room k (r + vB (m + 1)) S):Room k (r + vB m + 1) S:=h.mono (by rw [vB];lia)
theorem UF (h:n<=10):n<=vB (m + 1):=by rw [vB];lia
theorem bN (h:n<=vB m * 3):n + 1<=vB (m + 1):=by rw [vB];lia
theorem bO (h:n<=vB m)(h2:p<=vB m):n + p<=vB (m + 1):=by rw [vB];lia
theorem bM (h:n<=vB m):n + 1<=vB (m + 1):=by rw [vB];lia
variable {l:Nat}
theorem U4 {A v c:Nat}(h:A + b * (l + 1)<=c)(hv:v<=b):A + v + b * l<=c:=by rw [Nat.mul_succ] at h;lia
theorem XU (h:wf (.number lo hi)=true):lo<=hi/\0 < hi - lo + 1/\hi - lo + 1 < 4611686018427387904/\wid (hi - lo).toNat<=8:=by
 simp only [wf,uh8,uh1] at h;refine ⟨by lia,by lia,by lia,JJ 8 _ ?_⟩;have:(256:Nat) ^ 8=18446744073709551616:=by decide
 lia
theorem Vx {g:Int}(z0:0<=g)(z1:g < hi - lo + 1):lo<=lo + g/\lo + g<=hi:=by lia
theorem Uo {g q:Int}(c:Nat)(g0:0<=g)(q0:0<=q)(g1:g < (c:Int) + 1):∃m:Nat,(if g < q then g else q)=m/\m<=c/\(m:Int)<=q:=⟨(if g < q then g else q).toNat,by split <;> lia⟩
structure Val (k r:Nat)(s:Sh)(c:Nat)(v:D)(S':List Ob):Prop where
 fit:An s v=true
 len:(AT s v).length<=c
 pool:Room k r S'
def hd1 (x:Str):Option Nat:=x.cps.toList.head?
def abc9:Str:="abcdefghi"
def xyz3:Str:="xyz"
theorem WY (h:j < 9):atI abc9.cps.toList (j:Int)=some (97 + j):=by
 have:j=0\/j=1\/j=2\/j=3\/j=4\/j=5\/j=6\/j=7\/j=8:=by lia
 rcases this with rfl | rfl | rfl | rfl | rfl | rfl | rfl | rfl | rfl <;> decide +kernel
theorem XT {k:Int}(h:k < 8):((⟨#[n]⟩:Str)++Txt.mul ⟨#[m]⟩ k).length<=90000:=by
 rw [DI,Ej,uf7,Tf,ud3];show 1 + _<=_;lia
theorem ZF {k:Int}:hd1 ((⟨#[n]⟩:Str)++Txt.mul ⟨#[m]⟩ k)=some n:=by
 unfold hd1;rw [Ej];rfl
theorem ZE {ws:List (Str×Sh×Int)}(h:ws.map (λw=>hd1 w.1)=(List.range ws.length).map λi=>some (97 + i)):(ws.map (·.1)).Nodup:=by
 have h1:((ws.map (·.1)).map hd1).Nodup:=by
  rw [un0];show (ws.map λw=>hd1 w.1).Nodup;rw [h];refine List.Pairwise.map _ (R:=λa b:Nat=>a≠b) (λa b h e=>?_) List.nodup_range;injection e with e
  lia
 exact (List.pairwise_map.mp h1).imp λh e=>h (congrArg hd1 e)
theorem Vh {ws:List (Str×Sh×Int)}{w:Str×Sh×Int}(h:ws.map (λw=>hd1 w.1)=(List.range ws.length).map λi=>some (97 + i))(hw:hd1 w.1=some (97 + ws.length)):(ws++[w]).map (λw=>hd1 w.1)=(List.range (ws++[w]).length).map λi=>some (97 + i):=by
 rw [uk3,h,uf7,ud5,List.range_succ,uk3];simp [hw]
variable {a0 a1 a2 e4 e5 e6 e7 e8 e9:Option Sl}{X Y:List D}
theorem t10 (h:X=Y):(⟨[a0,a1,a2,some (.own X),e4,e5,e6,e7,e8,e9],S⟩:T)=⟨[a0,a1,a2,some (.own Y),e4,e5,e6,e7,e8,e9],S⟩:=by subst h;rfl
variable {a3:Option Sl}
theorem bx (h:X=Y):(⟨[a0,a1,a2,a3,e4,e5,some (.own X),e7,e8,e9],S⟩:T)=⟨[a0,a1,a2,a3,e4,e5,some (.own Y),e7,e8,e9],S⟩:=by subst h;rfl
def okB (g:List GS):Nat->List Mv->Prop
 | _,[]=>True
 | q,(p,v) :: r=>(AT (wdAt g q p).2.1 v).length<=400/\okB g (CW g q p) r
theorem HV (g:List GS):∀(q:Nat) (a b:List Mv),okB g q (a++b)↔okB g q a/\okB g (lastQ g q a) b
 | q,[],b=>by simp [okB,lastQ]
 | q,(p,v) :: r,b=>by rw [ui5,okB,okB,lastQ,HV g _ r b,and_assoc]
theorem Th {a:List Mv}(h:okB g q a)(i:Nat):okB g q (a.take i):=by
 rw [<-ud7 i a,HV] at h;exact h.1
structure TOk (g:List GS)(mv:List Mv):Prop where
 ok:okQ g 0 mv
 bd:okB g 0 mv
 len:mv.length<=60
variable {y:D}
theorem t14 {e10 e11 e12 e13:Option Sl}{x:D}{X' Y':List D}(h:X=Y)(h2:x=y)(h3:X'=Y'):(⟨[a0,a1,a2,a3,some (.own X),some (.val x),some (.own X'),e7,e8,e9,e10,e11,e12,e13],S⟩:T)=⟨[a0,a1,a2,a3,some (.own Y),some (.val y),some (.own Y'),e7,e8,e9,e10,e11,e12,e13],S⟩:=by subst h h2 h3;rfl
theorem UG {k:Nat}{h:List D->List D->Option (List D)}{g:M (List D)}(w:W f t λo t1=>o = .obj k/\∃xs0,t1.S[k]?=some (.lst xs0)/\W g t1 λds t2=>∃xs ys,t2.S[k]?=some (.lst xs)/\h xs ds=some ys/\P .non ⟨t2.env,t2.S.set k (.lst ys)⟩):W (objM h f g) t P:=by
 unfold objM;refine W_bnd.mpr (w.mono λo t1 z9=>?_);obtain ⟨e,xs0,e1,w⟩:=z9;subst e;obtain ⟨ds,t2,e2,xs,ys,e3,e4,p⟩:=w;refine ⟨_,_,?_,p⟩;simp only [e1,bnd,e2,e3,e4];rfl
def Pk (g:List GS)(sd:Str):Nat->List Mv->List D
 | _,[]=>[]
 | q,(p,v) :: r=>(if (Bv g q).side=sd then .int p :: AT (wdAt g q p).2.1 v else [])++Pk g sd (CW g q p) r
abbrev kL:Key:=.inr (Str.ofString "left")
abbrev kRt:Key:=.inr (Str.ofString "right")
theorem kLR:¬kL=kRt:=by intro h;injection h with h;rw [C7] at h;exact absurd h (by decide)
theorem kRL:¬kRt=kL:=λh=>kLR h.symm
theorem sLR:¬Str.ofString "left" = Str.ofString "right":=λh=>kLR (congrArg Sum.inr h)
theorem Kf {a b:D}:AU [(kL,a),(kRt,b)] kL=some a:=by simp [AU,uj8]
theorem Kg {a b:D}:AU [(kL,a),(kRt,b)] kRt=some b:=by
 unfold AU;rw [uj8,show decide (kL=kRt)=false from uk5 kLR];simp [uj8]
theorem ID {a b:D}:Bh [(kL,a),(kRt,b)]=[(kL,a),(kRt,b)]:=by
 unfold Bh;simp only [uj6,List.foldl_nil];have e1:A7 [] kL a=[(kL,a)]:=by simp [A7]
 rw [e1];unfold A7;rw [if_neg (by simp only [ul7,List.any_nil,ul5,uh1];exact kLR)];rfl
theorem Vm {a b d:D}:A7 [(kL,a),(kRt,b)] kL d=[(kL,d),(kRt,b)]:=by
 unfold A7;rw [if_pos (by simp)];simp only [ul4,um8,if_true,if_neg kRL]
theorem Vn {a b d:D}:A7 [(kL,a),(kRt,b)] kRt d=[(kL,a),(kRt,d)]:=by
 unfold A7;rw [if_pos (by simp)];simp only [ul4,um8,if_true,if_neg kLR]
theorem Wx (hg:GOk g){q p:Nat}{v:D}(h:MvOk g q p v):(Bv g q).side=Str.ofString "left"\/(Bv g q).side=Str.ofString "right":=by
 obtain ⟨side,ws,e,hpl,ew⟩:=Lj h.pl;have:=Eb hg h.lt;rw [e] at this ⊢
 cases this with
 | st hs _ _ _ _=>exact hs
abbrev sL:Str:=Str.ofString "left"
abbrev sR:Str:=Str.ofString "right"
structure Wr (K A B:Nat)(S:List Ob)(xs ys:List D):Prop where
 k:S[K]?=some (.dct [(kL,.obj A),(kRt,.obj B)])
 a:S[A]?=some (.lst xs)
 b:S[B]?=some (.lst ys)
 ab:A≠B
 ka:K≠A
 kb:K≠B
def FrO (F:List (Nat×Ob))(k:Nat)(S:List Ob):Prop:=∀p∈F,p.1≠k/\S[p.1]?=some p.2
theorem FrO.set {F:List (Nat×Ob)}{k:Nat}{S:List Ob}{o:Ob}(h:FrO F k S):FrO F k (S.set k o):=λp hp=>⟨(h p hp).1,by rw [ue0 (Ne.symm (h p hp).1)];exact (h p hp).2⟩
def FAll (F:List (Nat×Ob))(S:List Ob):Prop:=∀p∈F,S[p.1]?=some p.2
variable {F:List (Nat×Ob)}
theorem FAll.app {ex:List Ob}(h:FAll F S):FAll F (S++ex):=λp hp=>by rw [ub2 (ub1.mp (h p hp)).1];exact h p hp
theorem FrO.all {k:Nat}(h:FrO F k S):FAll F S:=λp hp=>(h p hp).2
theorem FrO.new {x:Ob}(h:FAll F S):FrO F S.length (S++[x]):=λp hp=>⟨um3 (ub1.mp (h p hp)).1,FAll.app h p hp⟩
theorem FrO.app {F:List (Nat×Ob)}{k:Nat}{S ex:List Ob}(h:FrO F k S):FrO F k (S++ex):=λp hp=>⟨(h p hp).1,FAll.app h.all p hp⟩
def RoomF (F:List (Nat×Ob))(k r:Nat)(S:List Ob):Prop:=Room k r S/\FrO F k S
theorem RoomF.mono {F:List (Nat×Ob)}{k r r':Nat}{S:List Ob}(h:RoomF F k r S)(e:r'<=r):RoomF F k r' S:=⟨h.1.mono e,h.2⟩
theorem RoomF.drop {k:Nat}(h:RoomF F k (r + m) S):RoomF F k r S:=h.mono (ui1 _ _)
theorem RoomF.loop {F:List (Nat×Ob)}{k r q m:Nat}{S:List Ob}(h:RoomF F k (r + q * (m + 1)) S):RoomF F k (r + q * m + q) S:=⟨h.1.loop,h.2⟩
theorem RoomF.vA {F:List (Nat×Ob)}{k r m:Nat}{S:List Ob}(h:RoomF F k (r + vB (m + 1)) S):RoomF F k (r + 10) S:=⟨h.1.vA,h.2⟩
theorem RoomF.vL {F:List (Nat×Ob)}{k r m:Nat}{S:List Ob}(h:RoomF F k (r + vB (m + 1)) S):RoomF F k (r + vB m * 3 + 1) S:=⟨h.1.vL,h.2⟩
theorem RoomF.vP {F:List (Nat×Ob)}{k r m:Nat}{S:List Ob}(h:RoomF F k (r + vB (m + 1)) S):RoomF F k (r + vB m + vB m) S:=⟨h.1.vP,h.2⟩
theorem RoomF.vC {F:List (Nat×Ob)}{k r m:Nat}{S:List Ob}(h:RoomF F k (r + vB (m + 1)) S):RoomF F k (r + vB m + 1) S:=⟨h.1.vC,h.2⟩
theorem RoomF.app {F:List (Nat×Ob)}{k r:Nat}{S ex:List Ob}(h:RoomF F k r S):RoomF F k r (S++ex):=by
 obtain ⟨⟨a,c,b,h1,h2,h3⟩,h4⟩:=h;exact ⟨⟨a,c,b,by rw [ub2 (ub1.mp h1).1];exact h1,h2,h3⟩,h4.app⟩
def PTakeF (F:List (Nat×Ob))(f:Fn):Prop:=∀(k r:Nat) (S:List Ob) (m:Int),0 < m->m < 4611686018427387904->RoomF F k (r + 1) S->Wf f [.obj k,.int m] S λv S'=>(∃i,v = .int i/\0<=i/\i < m)/\RoomF F k r S'
theorem PTakeF.use {f:Fn}(h:PTakeF F f){k r:Nat}{S:List Ob}{m:Int}(many:Int)(d:RoomF F k (r + 1) S){P:D->List Ob->Prop}(p:∀i S',0<=i->i < many->RoomF F k r S'->P (.int i) S')(e:m=many:=by first | rfl | decide)(h1:0 < many:=by decide)(h2:many < 4611686018427387904:=by decide):Wf f [.obj k,.int m] S P:=by
 subst e;exact (h k r S m h1 h2 d).mono λv S' ⟨⟨i,e,i0,i1⟩,q⟩=>by subst e;exact p i S' i0 i1 q
theorem Yo:PTakeF F (fnOf 2 3 Cc):=by
 intro k n S m hm0 hm1 ⟨⟨a,c,b,hS,c0,c1⟩,fr⟩;refine Aq rfl ?_;unfold Cc;right;refine Bj hS Ki ?_;right;refine Bj hS ME ?_;right;refine Cg (λz=>?_) λz=>?_
 ·right;refine Lk hm0 (by lia) ?_;refine BW ?_;right;refine Ba hS (by show 3 < 100000;decide) ?_;rw [FQ];right;refine M3 hm0 ?_;exact ⟨⟨_,rfl,uk4 _ (by lia),ug0 _ hm0⟩,⟨_,_,_,AC hS,c0,by lia⟩,fr.set⟩
 ·right;refine Bj hS Gs ?_;right;refine BW ?_;right;refine Ba hS (by show 3 < 100000;decide) ?_;rw [MF];have g1:(S.set k (.dct (Bb (.int a) (.bl b) (.int (c + 1)))))[k]?=some (.dct (Bb (.int a) (.bl b) (.int (c + 1)))):=AC hS;have fr1:FrO F k (S.set k (.dct (Bb (.int a) (.bl b) (.int (c + 1))))):=fr.set;refine Ct ?_
  change W _ ⟨[some (.val (.obj k)),some (.val (.int m)),some (.val (.int a))],S.set k (.dct (Bb (.int a) (.bl b) (.int (c + 1))))⟩ _
  generalize S.set k (.dct (Bb (.int a) (.bl b) (.int (c + 1))))=S1 at g1 fr1 ⊢;right;have a0:=uk4 a (b:=1000000000163) (by decide);have a1:=ug0 a (b:=1000000000163) (by decide);generalize a % 1000000000163=x at a0 a1;refine Bj g1 Gs ?_;obtain ⟨s,es⟩:∃s,s=c + 1:=⟨_,rfl⟩;rw [<-es];rw [<-es] at g1;have s0:0<=s:=by lia
  have s1:s<=1000000000000000000000000000000:=by lia
  refine Ij (by decide) (Eh s0 (by lia)) ?_;right;refine Ij (Eh (by lia) (by lia)) (Eh (by lia) (by lia)) ?_;right;have b0:=uk4 ((x + 70001 * s) * (x + 70001 * s + 29)) (b:=1000000000193) (by decide);have b1:=ug0 ((x + 70001 * s) * (x + 70001 * s + 29)) (b:=1000000000193) (by decide);generalize (x + 70001 * s) * (x + 70001 * s + 29) % 1000000000193=y at b0 b1;refine Ij (Eh (by lia) (by lia)) (Eh (by lia) (by lia)) ?_;right;refine BW ?_;right;refine Ba g1 (by show 3 < 100000;decide) ?_;rw [FQ];right;refine Lk (by decide) (by decide) ?_;right;refine M3 hm0 ?_;exact ⟨⟨_,rfl,uk4 _ (by lia),ug0 _ hm0⟩,⟨_,_,_,AC g1,by lia,by lia⟩,fr1.set⟩
structure ValF (F:List (Nat×Ob))(k r:Nat)(s:Sh)(c:Nat)(v:D)(S':List Ob):Prop where
 fit:An s v=true
 len:(AT s v).length<=c
 pool:RoomF F k r S'
def K5 (F:List (Nat×Ob))(f:Fn)(m:Nat):Prop:=∀(s:Sh) (k r:Nat) (S:List Ob),s.depth<=m->wf s=true->RoomF F k (r + vB m) S->Wf f [.obj k,s.d] S λv S'=>ValF F k r s (vB m) v S'
theorem ZM {cv:Fn}(ht:PTakeF F ct)(hv:m=0\/K5 F cv m):K5 F (fnOf 2 5 (Dz cv ct)) (m + 1):=by
 intro s k r S hd hw p0;have rec_:∀{s':Sh} {r':Nat} {S':List Ob} {P:D->List Ob->Prop},s'.depth<=m->wf s'=true->RoomF F k (r' + vB m) S'->(∀v S'',An s' v=true->(AT s' v).length<=vB m->RoomF F k r' S''->P v S'')->Wf cv [.obj k,s'.d] S' P:=λ{s' r' S' P} h1 h2 q p=>by
  rcases hv with rfl | hv
  ·exact absurd (uf2 s'.depth_pos h1) (uk2 _)
  ·exact (hv s' k r' S' h1 h2 q).mono λv S'' ⟨g1,g2,g3⟩=>p v S'' g1 g2 g3
 refine Aq rfl ?_;unfold Dz
 cases s with
 | nothing=>
   rw [Sh.d];right;exact ⟨by rw [An];rfl,by rw [AT];exact un3 _,p0.drop⟩
 | number lo hi=>
   obtain ⟨w0,w1,w2,w3⟩:=XU hw;rw [Sh.d];right;refine ht.use (r:=r + 9) (hi - lo + 1) p0.vA (λg S1 z0 z1 p1=>?_) rfl w1 w2;right;refine ht.use (r:=r + 8) 3 p1 λi S2 i0 i1 p2=>?_;obtain ⟨d,ed,q,rfl,q0,q1⟩:=Gq (xs:=[D.int lo,D.int hi,D.int (lo + g)]) i0 (by simpa using i1) (p:=λd=>∃m:Int,d = .int m/\lo<=m/\m<=hi) (by
    simp only [ue2];exact ⟨⟨_,rfl,Int.le_refl _,w0⟩,⟨_,rfl,w0,Int.le_refl _⟩,⟨_,rfl,Vx z0 z1⟩,λ_ z=>nomatch z⟩)
   refine A3 ed ?_;exact ⟨by simp only [An,uh8,uh1];exact ⟨q0,q1⟩,by rw [AT,QA];exact UF (um4 w3 (by decide)),p2.drop⟩
 | text q=>
   simp only [wf,uh8,uh1] at hw;rw [Sh.d];right;refine ai ?_;right;refine ht.use (r:=r + 9) 7 p0.vA λg S1 z0 z1 p1=>?_;right;obtain ⟨n,en,n3,nq⟩:=Uo 6 z0 hw.1 z1;rw [en];refine FH (Hu n3) ?_;refine (FL (P:=λxs t'=>∃ns:List Nat,xs=ns.map (λn=>D.str ⟨#[n]⟩)/\ns.all Bw=true/\ns.length=n/\RoomF F k r t'.S) (λacc q t=>∃(ns:List Nat) (S':List Ob) (z:Option Sl),acc=ns.map (λn=>D.str ⟨#[n]⟩)/\ns.all Bw=true/\ns.length + q.length=n/\RoomF F k (r + 1 * q.length) S'/\t=⟨[z,some (.val (.str sg11)),some (.val (.obj k))],S'⟩) _ [] _ ⟨[],S1,_,rfl,rfl,by simp [rngL],p1.mono (by rw [CL,ug4];exact uf1 (um4 (Nat.mul_le_mul_left 1 n3) (by decide)) _),rfl⟩ ?_ ?_).mono ?_
   ·rintro acc d q t ⟨ns,S',z,rfl,h1,h2,h3,rfl⟩ _;rw [uh4] at h2 h3;refine IX (Kw ?_);rw [if_pos rfl];right;refine ht.use 11 h3.loop λi S5 i0 i1 p5=>?_;obtain ⟨c,ec,hc⟩:=Ww i0 i1;refine W_ix_str.mpr ⟨by decide +kernel,c,ec,?_⟩;refine ⟨ns++[c],S5,_,by rw [uk3];rfl,by simp [List.all_append,h1,hc],IC h2,p5,rfl⟩
   ·rintro acc t ⟨ns,S',z,rfl,h1,h2,h3,rfl⟩;exact ⟨ns,rfl,h1,h2,h3.drop⟩
   ·rintro xs t' ⟨ns,e,h1,h2,h3⟩;rw [uj7] at e;subst e h2;refine BJ (Mr (n:=6) (by rw [uj0];exact n3)) ?_;right;refine ⟨_,_,_,rfl,rfl,Hx ns,⟨by decide +kernel,by rw [uj0];clear p0 p1;lia⟩,?_⟩;refine MR ?_;refine ⟨?_,?_,h3⟩
    ·rw [An];simp only [uh8,uh1];rw [DI,Js];exact ⟨nq,h1⟩
    ·rw [AT,uh4,uj0,Js];exact UF (um4 (Nat.succ_le_succ n3) (by decide))
 | list s q=>
   simp only [wf,uh8,uh1] at hw;rw [Sh.d];right;refine ht.use 4 p0.vL λg S1 z0 z1 p1=>?_;right;obtain ⟨n,en,n2,nq⟩:=Uo 3 z0 hw.1.1 z1;rw [en];have nb2:vB m * n<=vB m * 3:=Nat.mul_le_mul_left _ n2;refine FH (Hu n2) ?_;refine (FL (P:=λxs t'=>(∀x∈xs,An s x=true)/\xs.length=n/\((xs.map λd=>AT s d).flatten).length<=vB m * 3/\RoomF F k r t'.S) (λacc l t=>∃(S':List Ob) (z:Option Sl),(∀x∈acc,An s x=true)/\acc.length + l.length=n/\((acc.map λd=>AT s d).flatten).length + vB m * l.length<=vB m * 3/\RoomF F k (r + vB m * l.length) S'/\t=⟨[z,some (.val (.obj k)),some (.val (.tup [.str "list",s.d,.int q]))],S'⟩) _ [] _ ⟨S1,_,by simp,by simp [rngL],by rw [CL,ug4];exact um4 (um6 (Nat.zero_add _)) nb2,p1.mono (by rw [CL,ug4];exact uf1 nb2 _),rfl⟩ ?_ ?_).mono ?_
   ·rintro acc d l t ⟨S',z,h1,h2,h3,h4,rfl⟩ _;rw [uh4] at h2 h3 h4;refine IX (Kw ?_);rw [if_pos rfl];right;refine rec_ (a9 hd) hw.2 h4.loop λv S5 f1 f2 p5=>?_;refine ⟨S5,_,HS h1 f1,IC h2,?_,p5,rfl⟩;rw [uk3,List.flatten_append,uf7];simp only [ul4,um8,ug5,List.flatten_nil,uj2];exact U4 h3 f2
   ·rintro acc t ⟨S',z,h1,h2,h3,h4,rfl⟩;exact ⟨h1,h2,h3,h4.drop⟩
   ·rintro xs t' ⟨h1,h2,h3,h4⟩;rw [uj7] at h1 h2 h3;subst h2;refine BJ (Mr (n:=3) n2) ?_;refine ⟨?_,by rw [AT,uh4];exact bN h3,h4⟩;rw [An,uh8,uh1,ui2];exact ⟨nq,h1⟩
 | pair a b=>
   simp only [wf,uh8] at hw;rw [Sh.d];right;refine rec_ (Xb hd).1 hw.1 p0.vP λv S1 f1 f2 p1=>?_;right;refine rec_ (Xb hd).2 hw.2 p1 λu S2 g1 g2 p2=>?_;right;exact ⟨by simp only [An,f1,g1,Bool.and_self],by rw [AT,uf7];exact bO f2 g2,p2⟩
 | choice ss=>
   simp only [wf,uh8,uh1] at hw;rw [Sh.d];right;rw [DL];refine ht.use (ss.length:Int) p0.vC (λi S1 i0 i1 p1=>?_) rfl (by clear p0;lia) (by clear p0;lia);obtain ⟨j,rfl⟩:=uc2 i0;have hj:j < ss.length:=Int.ofNat_lt.mp i1;have e1:ss[j]?=some ss[j]:=ub6 hj;right;refine IV (ZP hj) ?_;right;refine rec_ (a7 hd _ (ui4 hj)) (EH hw.2 _ (ui4 hj)) p1 λv S2 f1 f2 p2=>?_;right;have hof:Kb (Str.ofString "of")=true:=by decide +kernel
   refine ⟨?_,?_,p2⟩
   ·simp only [An,uh8,uh1];exact ⟨⟨hof,i0,i1⟩,by rw [ug4,DG ss _ _ _ e1];exact f1⟩
   ·rw [AT,ug4,Fl ss _ _ _ e1,uh4];exact bM f2
def GS.sd:GS->Str
 | .fin=>Str.ofString "end"
 | .st s _=>s
inductive Odd (x:GS):D->Prop
 | non:Odd x .non
 | lst {ds:List D}:Odd x (.lst ds)
 | two {a b:D}:Odd x (.tup [a,b])
 | four {a b c d:D}:Odd x (.tup [a,b,c,d])
 | sideN {b c:D}:Odd x (.tup [.non,b,c])
 | side {s:Str} {b c:D}:¬s=x.sd->Odd x (.tup [.str s,b,c])
 | nmN {s:Str} {c:D}:Odd x (.tup [.str s,.non,c])
 | nmI {s:Str} {i:Int} {c:D}:Odd x (.tup [.str s,.int i,c])
 | nm {s nm:Str} {c:D}:(x.ws.findIdx? λw=>w.1 == nm)=none->Odd x (.tup [.str s,.str nm,c])
 | val {s nm:Str} {c:D} {p:Nat} {w:Str×Sh×Int}:(x.ws.findIdx? λw=>w.1 == nm)=some p->x.ws[p]?=some w->okD c=true->An w.2.1 c=false->Odd x (.tup [.str s,.str nm,c])
def Rq (n:Nat)(d:D):Prop:=∀m,n<=m->eqN m d d=some true
theorem JB:Rq n (.int i):=λm _=>by cases m <;> (show some (i == i)=some true;rw [ui7])
theorem Q9 {i:Str}:Rq n (.str i):=λm _=>by cases m <;> (show some (i == i)=some true;rw [ui7])
theorem Q8:Rq n .non:=λm _=>by cases m <;> rfl
theorem Ra (h:∀x∈xs,Rq n x):Rq (n + 1) (.tup xs):=λm hm=>by
 obtain ⟨k,rfl⟩:∃k,m=k + 1:=Nat.exists_eq_add_of_le' (by lia);have e:CZ (eqN k) xs xs=some true:=GQ λx hx=>h x hx k (by lia);rw [eqN,e];simp
theorem YH (h:∀x∈xs,Rq n x):Rq (n + 1) (.lst xs):=λm hm=>by
 obtain ⟨k,rfl⟩:∃k,m=k + 1:=Nat.exists_eq_add_of_le' (by lia);rw [eqN,if_pos rfl];exact GQ λx hx=>h x hx k (by lia)
theorem aW {p:D->Prop}{a:D}(h:p a):∀x∈[a],p x:=λx hx=>by rw [uf9.mp hx];exact h
theorem JO {p:D->Prop}{a b:D}(h:p a)(h2:p b):∀x∈[a,b],p x:=λx hx=>(ul3.mp hx).elim (λe=>by rw [e];exact h) (aW h2 x)
theorem WZ {p:D->Prop}{a b c:D}(h:p a)(h2:p b)(h3:p c):∀x∈[a,b,c],p x:=λx hx=>(ul3.mp hx).elim (λe=>by rw [e];exact h) (JO h2 h3 x)
def mB:Nat->Nat
 | 0=>0
 | m + 1=>10 + vB m * 2 + mB m * 2
structure Mis (n:Nat)(s:Sh)(v:D):Prop where
 ok:okD v=true
 no:An s v=false
 rq:Rq n v
structure Fit (n:Nat)(s:Sh)(v:D):Prop where
 ok:okD v=true
 fit:An s v=true
 rq:Rq n v
def Gr (S S':List Ob):Prop:=S.length<=S'.length/\∀i,i < S.length->S'[i]?=S[i]?
theorem Gr.trans {S S1 S2:List Ob}(a:Gr S S1)(b:Gr S1 S2):Gr S S2:=⟨um4 a.1 b.1,λi h=>(b.2 i (uf2 h a.1)).trans (a.2 i h)⟩
theorem Gr.app {ex:List Ob}:Gr S (S++ex):=⟨by rw [uf7];lia,λi h=>ub2 h⟩
theorem Gr.set {S S':List Ob}{k:Nat}{o:Ob}(a:Gr S S')(h:S.length<=k):Gr S (S'.set k o):=⟨by rw [uj5];exact a.1,λi hi=>by rw [ue0 (by lia)];exact a.2 i hi⟩
theorem Gr.get {S S':List Ob}{k:Nat}{o:Ob}(a:Gr S S')(h:S[k]?=some o):S'[k]?=some o:=by rw [a.2 k (ub1.mp h).1];exact h
variable {S':List Ob}
theorem Gr.all (a:Gr S S')(h:FAll F S):FAll F S':=λp hp=>a.get (h p hp)
abbrev lr (a b:D):List (Key×D):=[(kL,a),(kRt,b)]
abbrev dW (l r:List Nat):List (Key×D):=lr (.lst (wD l)) (.lst (wD r))
abbrev dP (a b:Nat):List (Key×D):=lr (.int a) (.int b)
noncomputable def onS {α:Type}(s:Str)(a b:α):α:=if s=sL then a else b
variable {s:Str}
theorem CO {a b:D}(h:s=sL\/s=sR):AU (lr a b) (.inr s)=some (onS s a b):=by
 unfold onS;rcases h with rfl | rfl
 ·rw [if_pos rfl];exact Kf
 ·rw [if_neg (Ne.symm sLR)];exact Kg
theorem Ju {a b d:D}(h:s=sL\/s=sR):A7 (lr a b) (.inr s) d=lr (onS s d a) (onS s b d):=by
 unfold onS;rcases h with rfl | rfl
 ·rw [if_pos rfl,if_pos rfl];exact Vm
 ·rw [if_neg (Ne.symm sLR),if_neg (Ne.symm sLR)];exact Vn
inductive Sr where
 | stop
 | brk (k:Nat) (s:Str)
 | next (m:D) (h a b:Nat)
def Dj (side:Str)(ws:List (Str×Sh×Int))(w:List Nat)(p:Nat):RR×Nat:=match w[p]? with
 | none=>(.short,0)
 | some c=>match ws[c]? with
   | none=>(.broken p,0)
   | some wd=>((pSh 3 wd.2.1).run w (p + 1),c)
def Ew (side:Str)(ws:List (Str×Sh×Int))(w:List Nat)(p:Nat):D:=match Dj side ws w p with
 | (.short,_)=>.non
 | (.broken k,_)=>.exc "Broken" [.int k,.str side]
 | (.told v e,c)=>.tup [.tup [.str side,.str (ws.getD c (Str.ofString "",.nothing,0)).1,v],.int (ws.getD c (Str.ofString "",.nothing,0)).2.2,.int e]
def BM (g:List GS)(wl wr:List Nat)(h a b:Nat):Sr:=match Bv g h with
 | .fin=>.stop
 | .st side ws=>match Dj side ws (onS side wl wr) (onS side a b) with
   | (.short,_)=>.stop
   | (.broken k,_)=>.brk k side
   | (.told v e,c)=>.next (.tup [.str side,.str (ws.getD c (Str.ofString "",.nothing,0)).1,v]) (ws.getD c (Str.ofString "",.nothing,0)).2.2.toNat (onS side e a) (onS side b e)
abbrev Rs:=List D×Nat×Nat×Nat×Option (Nat×Str)
def walkR (g:List GS)(wl wr:List Nat):Nat->Nat->Nat->Nat->List D->Rs
 | 0,h,a,b,t=>(t,h,a,b,none)
 | f + 1,h,a,b,t=>match BM g wl wr h a b with
   | .stop=>(t,h,a,b,none)
   | .brk k s=>(t,h,a,b,some (k,s))
   | .next m h' a' b'=>walkR g wl wr f h' a' b' (t++[m])
structure Pl (g:List GS)(wl wr:List Nat)(h a b:Nat):Prop where
 h:h < g.length
 a:a<=wl.length
 b:b<=wr.length
variable {wl wr:List Nat}
theorem QF (ha:a<=wl.length)(hb:b<=wr.length):onS s a b<=(onS s wl wr).length:=by unfold onS;split <;> assumption
variable {h:Nat}
theorem Fr (hg:GOk g)(p:Pl g wl wr h a b){m:D}{h' a' b':Nat}(e:BM g wl wr h a b = .next m h' a' b'):Pl g wl wr h' a' b'/\a + b < a' + b':=by
 have hgs:=Eb hg p.h;unfold BM at e
 cases eg:Bv g h with
 | fin=>rw [eg] at e;cases e
 | st side ws=>
   rw [eg] at e hgs
   cases hgs with
   | @st _ _ hs1 hs2 hs3 hs4 hs5=>
   dsimp only at e;unfold Dj at e
   cases hb:(onS side wl wr)[onS side a b]? with
   | none=>rw [hb] at e;cases e
   | some c=>
     rw [hb] at e;dsimp only at e
     cases hw:ws[c]? with
     | none=>rw [hw] at e;cases e
     | some wd=>
       rw [hw] at e;dsimp only at e;obtain ⟨hpl,_⟩:=ub1.mp hb;have hwo:=hs5 wd (ue1 hw);have hlo:=hwo.lo;have hhi:=hwo.hi;have hgd:ws.getD c (Str.ofString "",.nothing,0)=wd:=by rw [ub0,hw];rfl
       cases er:(pSh 3 wd.2.1).run (onS side wl wr) (onS side a b + 1) with
       | short=>rw [er] at e;cases e
       | broken k=>rw [er] at e;cases e
       | told v x=>
         rw [er] at e;dsimp only at e;rw [hgd] at e;injection e with e1 e2 e3 e4
         obtain ⟨l1,l2⟩:=FW _ _ hpl er;have pa:=p.a;have pb:=p.b;subst e2;unfold onS at e3 e4 l1 l2
         by_cases q:side=sL
         ·rw [if_pos q] at e3 e4 l1 l2;exact ⟨⟨by lia,by lia,by lia⟩,by lia⟩
         ·rw [if_neg q] at e3 e4 l1 l2;exact ⟨⟨by lia,by lia,by lia⟩,by lia⟩
theorem Za {neg:Bool}(e:t.S[n]?=some (.dct kvs))(h:P (.bl (if neg then !(AU kvs (.inr x)).isSome else (AU kvs (.inr x)).isSome)) t):W (inS neg (.str x) (.obj n)) t P:=
 ⟨_,_,by simp only [inS,e],h⟩
theorem Y6 (e:t.S[n]?=some (.dct kvs))(h:P (.obj t.S.length) ⟨t.env,t.S++[.dct kvs]⟩):W (HJ [.obj n]) t P:=
 ⟨_,_,by simp only [HJ,e],h⟩
theorem Sd {a b:D}:AU (lr a b) (.inr (Str.ofString "end"))=none:=by
 have h1:decide (kL=(Sum.inr (Str.ofString "end"):Key))=false:=by decide +kernel
 have h2:decide (kRt=(Sum.inr (Str.ofString "end"):Key))=false:=by decide +kernel
 unfold AU;rw [uj8,show decide ((kL,a).1=(Sum.inr (Str.ofString "end"):Key))=false from h1];dsimp only;rw [uj8,show decide ((kRt,b).1=(Sum.inr (Str.ofString "end"):Key))=false from h2];rfl
def Wir (S:List Ob)(d:D)(w:List Nat):Prop:=d = .lst (wD w)\/∃k,d = .obj k/\S[k]?=some (.lst (wD w))
def PureS (S:List Ob)(f:Fn)(ds:List D)(r:D):Prop:=Wf f ds S λr' S'=>r'=r/\S'=S
theorem PureS.use {f:Fn}{r:D}(h:PureS S f ds r){P:D->List Ob->Prop}(p:P r S):Wf f ds S P:=h.mono λ_ _ ⟨e1,e2⟩=>by subst e1 e2;exact p
theorem JH {d:D}(h:Wir t.S d w)(p:P (.int (w.length:Nat)) t):W (AQ [d]) t P:=by
 rcases h with rfl | ⟨k,rfl,e⟩
 ·refine Pf ?_;rw [BV];exact p
 ·refine ak e ?_;rw [BV];exact p
theorem T7 {d:D}(h:Wir t.S d w)(e:w[a]?=some b)(p:P (.int (b:Int)) t):W (ixD d (.int (a:Int))) t P:=by
 rcases h with rfl | ⟨k,rfl,e'⟩
 ·exact A3 (HH (M2 e)) p
 ·exact W_ix_obj.mpr ⟨_,e',_,HH (M2 e),p⟩
def BXw (f:Fn):Prop:=∀(S:List Ob) (wv:D) (w:List Nat) (a:Nat),Wir S wv w->PureS S f [wv,.int (a:Int)] (byX w[a]?)
theorem W5:BXw (fnOf 2 2 EW):=by
 intro S wv w a hv;refine Aq rfl ?_;unfold EW;have hl:=BV w
 cases h:w[a]? with
 | none=>
   have:=ub4.mp h;symm;refine JH hv ?_;symm;refine Eo (ul1 (by lia)) ?_;symm;exact ⟨rfl,rfl⟩
 | some b=>
   obtain ⟨hj,_⟩:=ub1.mp h;symm;refine JH hv ?_;symm;refine EV (uk5 (by lia)) ?_;symm;refine T7 hv h ?_;exact ⟨rfl,rfl,rfl⟩
def UXw (f:Fn):Prop:=∀(S:List Ob) (wv:D) (m:Int) (w:List Nat) (a:Nat),Wir S wv w->PureS S f [.int m,wv,.int (a:Int)] (upX m a w[a]?)
theorem Y0 (hc:BXw c):UXw (fnOf 3 4 (DX c)):=by
 intro S wv m w a hv;refine Aq rfl ?_;unfold DX;have hb:=hc S wv w a hv
 cases h:w[a]? with
 | none=>
   rw [h,byX] at hb;symm;refine hb.use ?_;symm;exact ⟨rfl,rfl⟩
 | some b=>
   rw [h,byX] at hb;symm;refine hb.use ?_;symm;rw [upX]
   by_cases q:(b:Int)<=m
   ·rw [if_pos q];refine EV (uk5 (by lia)) ?_;symm;exact ⟨rfl,rfl,rfl⟩
   ·rw [if_neg q];refine Eo (ul1 (by lia)) ?_;symm;exact ⟨rfl,rfl⟩
def SXw (f:Fn):Prop:=∀(S:List Ob) (wv:D) (w:List Nat) (a:Nat),Wir S wv w->PureS S f [wv,.int (a:Int)] (sgX a w[a]?)
variable {cb:Fn}
theorem YS {cs:Fn}(hs:Jb cs)(hb:BXw cb):SXw (fnOf 2 3 (E9 cs cb)):=by
 intro S wv w a hv;refine Aq rfl ?_;unfold E9;have hb:=hb S wv w a hv
 cases h:w[a]? with
 | none=>
   rw [h,byX] at hb;symm;refine hb.use ?_;symm;exact ⟨rfl,rfl⟩
 | some c=>
   rw [h,byX] at hb;symm;refine hb.use ?_;symm;refine (hs c).use ?_;rw [sgX]
   by_cases q:Bw c=true
   ·rw [if_pos q,q];symm;refine W_ix_str.mpr ⟨by decide +kernel,c,YN q,?_⟩;exact ⟨rfl,rfl,rfl⟩
   ·have q':Bw c=false:=by simpa using q
    rw [if_neg q,q'];symm;exact ⟨rfl,rfl⟩
theorem YG {cl:Fn}(hl:GG cl)(hb:BXw cb)(hw:Jc cw){lo hi:Int}(hwf:wf (.number lo hi)=true)(w:List Nat)(a:Nat){S:List Ob}{wv:D}(hv:Wir S wv w):PureS S (fnOf 3 7 (CF cl cb cw)) [(Sh.number lo hi).d,wv,.int (a:Int)] (rrD ((Hn lo (hi - lo).toNat (wid (hi - lo).toNat) 0).run w a)):=by
 have hsp:=NZ hwf;have hwd:=JJ 9 _ hsp;refine Aq rfl ?_;unfold CF;rw [Sh.d];have em:hi - lo=(((hi - lo).toNat:Nat):Int):=by
  simp only [wf,uh8,uh1] at hwf;lia
 have hww:=λS P p=>(hw (hi - lo).toNat hsp).use (S:=S) (P:=P) p;rw [<-em] at hww;generalize (hi - lo).toNat=M at *;generalize hW:wid M=n at *;symm;refine hww _ _ ?_;rw [em];symm;refine FH (Ci (by lia) (by lia)) ?_;refine Cu (λr t=>∃(j x:Nat) (e6:Option Sl),j<=n/\r=(rngL 0 ((n:Nat):Int).toNat).drop j/\(Hn lo M n 0).run w a=(Hn lo M (n - j) x).run w (a + j)/\t=⟨[some (.val (.tup [.str "number",.int lo,.int hi])),some (.val wv),some (.val (.int a)),some (.val (.int M)),some (.val (.int n)),some (.val (.int x)),e6],S⟩) _ _ ⟨0,0,none,un3 _,rfl,rfl,rfl⟩ ?_ ?_
 ·rintro d r t ⟨j,x,e6,hj,hr,hrun,rfl⟩ _;obtain ⟨rfl,hr',hjn⟩:=Kk hr;rw [ug4] at hjn;rw [un1];obtain ⟨e,he⟩:∃e,n - j=e + 1:=⟨n - j - 1,by lia⟩;rw [he,Hn] at hrun;have hby:=hb S wv w (a + j) hv;symm;refine Ii (Vs (by decide) (by decide)) ?_;symm;rw [show ((a:Int) + (j:Int))=((a + j:Nat):Int) by lia]
  cases h:w[a + j]? with
  | none=>
    rw [h,byX] at hby;rw [Ch h] at hrun;refine hby.use ?_;symm;exact ⟨by rw [hrun];rfl,rfl⟩
  | some b=>
    rw [h,byX] at hby;rw [BU h] at hrun;refine hby.use ?_;symm;refine ⟨rfl,?_⟩;symm;rw [show ((n:Int) - 1 - (j:Int))=((e:Nat):Int) by lia,show ((x:Int) * 256 + (b:Int))=((x * 256 + b:Nat):Int) by lia];refine (hl M e (by lia)).use ?_;symm
    by_cases q:x * 256 + b<=M / 2 ^ (8 * e)
    ·rw [if_pos (ul1 q)] at hrun;refine EV (uk5 (by lia)) ?_;symm;exact ⟨j + 1,x * 256 + b,_,hjn,hr',by rw [show n - (j + 1)=e by lia,hrun,ul9],rfl⟩
    ·rw [if_neg (by rw [uh1];exact q)] at hrun;refine Eo (ul1 (by lia)) ?_;symm;exact ⟨by rw [hrun];rfl,rfl⟩
 ·rintro t ⟨j,x,e6,hj,hr,hrun,rfl⟩;have hj':j=n:=by
   have:=congrArg List.length hr;rw [uj9,uh7,JA,ug4] at this;lia
  subst hj';rw [Nat.sub_self,Hn,Rd.run] at hrun;symm;exact ⟨rfl,by rw [hrun];rfl,rfl⟩
variable {cu:Fn}
theorem V8 {ca:Fn}(ha:SXw ca)(hu:UXw cu){q:Int}(hwf:wf (.text q)=true)(n:Nat)(w:List Nat)(a:Nat){S:List Ob}{wv:D}(hv:Wir S wv w):PureS S (fnOf 3 7 (De ca cu)) [(Sh.text q).d,wv,.int (a:Int)] (rrD ((pSh (n + 1) (.text q)).run w a)):=by
 have hL:LIM=100000:=rfl;refine Aq rfl ?_;unfold De;rw [Sh.d,pSh];simp only [wf,uh8,uh1] at hwf;have hup:=hu S wv q w a hv;symm
 cases h:w[a]? with
 | none=>
   rw [h,upX] at hup;rw [Ch h];refine hup.use ?_;symm;exact ⟨rfl,rfl⟩
 | some b=>
   rw [h,upX] at hup;rw [BU h]
   by_cases hb:(b:Int)<=q
   ·rw [if_pos hb] at hup;rw [if_pos (ul1 hb)];refine hup.use ?_;symm;refine FH (Ci (by lia) (by lia)) ?_;refine Cu (λr t=>∃(j:Nat) (y:Str) (e6:Option Sl),j<=b/\r=(rngL 0 ((b:Nat):Int).toNat).drop j/\y.cps.toList.length=j/\(IN b []).run w (a + 1)=(IN (b - j) y.cps.toList).run w (a + 1 + j)/\t=⟨[some (.val (.tup [.str "text",.int q])),some (.val wv),some (.val (.int a)),some (.val (.int b)),some (.val (.int ((a:Int) + 1))),some (.val (.str y)),e6],S⟩) _ _ ⟨0,Str.ofString "",none,un3 _,rfl,by decide +kernel,by rw [Nat.sub_zero,Nat.add_zero,show (Str.ofString "").cps.toList=[] by decide +kernel],rfl⟩ ?_ ?_
    ·rintro d r t ⟨j,y,e6,hj,hr,hyl,hrun,rfl⟩ _;obtain ⟨rfl,hr',hjn⟩:=Kk hr;rw [ug4] at hjn;rw [un1];obtain ⟨e,he⟩:∃e,b - j=e + 1:=⟨b - j - 1,by lia⟩;rw [he,IN] at hrun;have hsg:=ha S wv w (a + 1 + j) hv;symm;rw [show ((a:Int) + 1 + (j:Int))=((a + 1 + j:Nat):Int) by lia]
     cases h2:w[a + 1 + j]? with
     | none=>
       rw [h2,sgX] at hsg;rw [Ch h2] at hrun;refine hsg.use ?_;symm;exact ⟨by rw [hrun];rfl,rfl⟩
     | some c=>
       rw [h2,sgX] at hsg;rw [BU h2] at hrun
       by_cases hc:Bw c=true
       ·rw [if_pos hc] at hsg hrun;refine hsg.use ?_;symm;refine BJ (by rw [DI y,hyl,hL];show j + 1<=_;lia) ?_;refine ⟨rfl,?_⟩;symm;refine ⟨j + 1,_,_,hjn,hr',?_,?_,rfl⟩
        ·rw [Ej,uf7,hyl];rfl
        ·rw [hrun,Ej,show b - (j + 1)=e by lia,ul9 (a + 1)]
       ·rw [if_neg hc] at hsg hrun;refine hsg.use ?_;symm;exact ⟨by rw [hrun];rfl,rfl⟩
    ·rintro t ⟨j,y,e6,hj,hr,hyl,hrun,rfl⟩;have hj':j=b:=by
      have:=congrArg List.length hr;rw [uj9,uh7,JA,ug4] at this;lia
     subst hj';rw [Nat.sub_self,IN,Rd.run] at hrun;have ey:(⟨y.cps.toList.toArray⟩:Str)=y:=WA (by simp);rw [ey] at hrun;symm;refine ⟨rfl,?_,rfl⟩;rw [hrun,rrD,show ((a:Int) + 1 + (j:Int))=((a + 1 + j:Nat):Int) by lia]
   ·rw [if_neg hb] at hup;rw [if_neg (by rw [uh1];exact hb)];refine hup.use ?_;symm;exact ⟨rfl,rfl⟩
def RXw (c:Fn)(s:Sh)(p:Rd):Prop:=∀(S:List Ob) (wv:D) (w:List Nat) (a:Nat),Wir S wv w->a<=w.length->PureS S c [s.d,wv,.int (a:Int)] (rrD (p.run w a))
theorem V6 {s:Sh}{p:Rd}{q:Int}(hu:UXw cu)(hq2:q<=250)(hc:RXw c s p)(w:List Nat)(a:Nat){S:List Ob}{wv:D}(hv:Wir S wv w):PureS S (fnOf 3 8 (Dc c cu)) [(Sh.list s q).d,wv,.int (a:Int)] (rrD ((Rd.need (λb=>decide ((b:Int)<=q)) λb=>Hm p b []).run w a)):=by
 have hL:LIM=100000:=rfl;refine Aq rfl ?_;unfold Dc;rw [Sh.d];have hup:=hu S wv q w a hv;symm
 cases h:w[a]? with
 | none=>
   rw [h,upX] at hup;rw [Ch h];refine hup.use ?_;symm;exact ⟨rfl,rfl⟩
 | some b=>
   have hal:=(ub1.mp h).1;rw [h,upX] at hup;rw [BU h]
   by_cases hb:(b:Int)<=q
   ·rw [if_pos hb] at hup;rw [if_pos (ul1 hb)];refine hup.use ?_;symm;refine FH (Ci (by lia) (by lia)) ?_;refine Cu (λr t=>∃(j a':Nat) (ds:List D) (e6 e7:Option Sl),j<=b/\r=(rngL 0 ((b:Nat):Int).toNat).drop j/\ds.length=j/\a'<=w.length/\(Hm p b []).run w (a + 1)=(Hm p (b - j) ds).run w a'/\t=⟨[some (.val (.tup [.str "list",s.d,.int q])),some (.val wv),some (.val (.int a)),some (.val (.int b)),some (.val (.int (a':Int))),some (.own ds),e6,e7],S⟩) _ _ ⟨0,a + 1,[],none,none,un3 _,rfl,rfl,hal,rfl,rfl⟩ ?_ ?_
    ·rintro d r t ⟨j,a',ds,e6,e7,hj,hr,hdl,ha',hrun,rfl⟩ _;obtain ⟨rfl,hr',hjn⟩:=Kk hr;rw [ug4] at hjn;obtain ⟨e,he⟩:∃e,b - j=e + 1:=⟨b - j - 1,by lia⟩;rw [he,Hm,Ic] at hrun;have hcc:=hc S wv w a' hv ha'
     cases h2:p.run w a' with
     | short=>
       rw [h2] at hrun hcc;symm;refine hcc.use ?_;rw [rrD];symm;exact ⟨by rw [hrun];rfl,rfl⟩
     | broken k=>
       rw [h2] at hrun hcc;symm;refine hcc.use ?_;rw [rrD];symm;exact ⟨by rw [hrun];rfl,rfl⟩
     | told v a2=>
       have hle:=FW p a' ha' h2;rw [h2] at hrun hcc;symm;refine hcc.use ?_;rw [rrD];symm;refine BJ (by rw [hdl,hL];lia) ?_;symm;exact ⟨j + 1,a2,ds++[v],_,_,hjn,hr',by rw [uf7,hdl];rfl,hle.2,by rw [hrun,show b - (j + 1)=e by lia];rfl,rfl⟩
    ·rintro t ⟨j,a',ds,e6,e7,hj,hr,hdl,ha',hrun,rfl⟩;have hj':j=b:=by
      have:=congrArg List.length hr;rw [uj9,uh7,JA,ug4] at this;lia
     subst hj';rw [Nat.sub_self,Hm,Rd.run] at hrun;symm;exact ⟨rfl,by rw [hrun];rfl,rfl⟩
   ·rw [if_neg hb] at hup;rw [if_neg (by rw [uh1];exact hb)];refine hup.use ?_;symm;exact ⟨rfl,rfl⟩
theorem V7 {s r:Sh}{p p':Rd}(hs:RXw c s p)(hr:RXw c r p')(w:List Nat)(a:Nat){S:List Ob}{wv:D}(hv:Wir S wv w)(ha:a<=w.length):PureS S (fnOf 3 5 (Dd c)) [(Sh.pair s r).d,wv,.int (a:Int)] (rrD ((p.bnd λv=>p'.bnd λu=>.done (.tup [v,u])).run w a)):=by
 refine Aq rfl ?_;unfold Dd;rw [Sh.d,Ic];have h1:=hs S wv w a hv ha
 cases e1:p.run w a with
 | short=>
   rw [e1] at h1;symm;refine h1.use ?_;rw [rrD];symm;exact ⟨rfl,rfl⟩
 | broken k=>
   rw [e1] at h1;symm;refine h1.use ?_;rw [rrD];symm;exact ⟨rfl,rfl⟩
 | told v a'=>
   have hle:=FW p a ha e1;rw [e1] at h1;have h2:=hr S wv w a' hv hle.2;rw [RR.thn,Ic];symm;refine h1.use ?_;rw [rrD];symm;refine h2.use ?_
   cases e2:p'.run w a' with
   | short=>rw [rrD];symm;exact ⟨rfl,rfl⟩
   | broken k=>rw [rrD];symm;exact ⟨rfl,rfl⟩
   | told u a2=>rw [rrD];symm;exact ⟨rfl,rfl,rfl⟩
theorem QX {p:Nat->Rd}(hu:UXw cu)(hc:∀(k:Nat) (h:k < ss.length),RXw c ss[k] (p k))(w:List Nat)(a:Nat){S:List Ob}{wv:D}(hv:Wir S wv w):PureS S (fnOf 3 5 (CD c cu)) [(Sh.choice ss).d,wv,.int (a:Int)] (rrD ((Rd.need (λb=>decide (b < ss.length)) λb=>(p b).bnd λv=>.done (.tup [.str "of",.int b,v])).run w a)):=by
 refine Aq rfl ?_;unfold CD;rw [Sh.d];have hup:=hu S wv ((ss.length:Int) - 1) w a hv;symm;rw [DL];refine hup.use ?_
 cases h:w[a]? with
 | none=>
   rw [Ch h,upX];symm;exact ⟨rfl,rfl⟩
 | some b=>
   have hal:=(ub1.mp h).1;rw [BU h,upX]
   by_cases hb:b < ss.length
   ·rw [if_pos (show (b:Int)<=(ss.length:Int) - 1 by lia),if_pos (ul1 hb),Ic];have e0:ss[b]?=some ss[b]:=ub6 hb;have hsd:atI (shD ss) (b:Int)=some ss[b].d:=HH (by rw [FU,e0];rfl);have h2:=hc b hb S wv w (a + 1) hv hal;symm;refine IV hsd ?_;symm;rw [show ((a:Int) + 1)=((a + 1:Nat):Int) by lia];refine h2.use ?_
    cases e2:(p b).run w (a + 1) with
    | short=>rw [rrD];symm;exact ⟨rfl,rfl⟩
    | broken k=>rw [rrD];symm;exact ⟨rfl,rfl⟩
    | told u a2=>rw [rrD];symm;exact ⟨rfl,rfl,rfl⟩
   ·rw [if_neg (show ¬(b:Int)<=(ss.length:Int) - 1 by lia),if_neg (by rw [uh1];exact hb)];symm;exact ⟨rfl,rfl⟩
def FK (f:Fn)(n:Nat):Prop:=∀s:Sh,s.depth<=n->wf s=true->RXw f s (pSh n s)
theorem QY {cl:Fn}(hn:∀lo hi,wf (.number lo hi)=true->RXw cn (.number lo hi) (pSh (n + 1) (.number lo hi)))(ht:∀q,wf (.text q)=true->RXw ct (.text q) (pSh (n + 1) (.text q)))
 (hl:∀s q,q<=250->s.depth<=n->wf s=true->RXw cl (.list s q) (pSh (n + 1) (.list s q))) (hp:∀s r,s.depth<=n->r.depth<=n->wf s=true->wf r=true->RXw cp (.pair s r) (pSh (n + 1) (.pair s r)))
 (hc:∀ss:List Sh,(∀(k:Nat) (h:k < ss.length),ss[k].depth<=n/\wf ss[k]=true)->RXw cc (.choice ss) (pSh (n + 1) (.choice ss))):FK (fnOf 3 4 (CV cc cp cl ct cn)) (n + 1):=by
 intro s hs hwf S wv w a hv ha;refine Aq rfl ?_;unfold CV
 cases s with
 | nothing=>
   rw [Sh.d,pSh,Rd.run,rrD];symm;exact ⟨rfl,rfl,rfl⟩
 | number lo hi=>
   have h:=hn lo hi hwf S wv w a hv ha;rw [Sh.d] at h ⊢;symm;exact h.use ⟨rfl,rfl⟩
 | text q=>
   have h:=ht q hwf S wv w a hv ha;rw [Sh.d] at h ⊢;symm;exact h.use ⟨rfl,rfl⟩
 | list s q=>
   simp only [wf,uh8,uh1] at hwf;rw [Sh.depth] at hs;have h:=hl s q hwf.1.2 (by lia) hwf.2 S wv w a hv ha;rw [Sh.d] at h ⊢;symm;exact h.use ⟨rfl,rfl⟩
 | pair s r=>
   simp only [wf,uh8] at hwf;rw [Sh.depth] at hs;have h:=hp s r (by lia) (by lia) hwf.1 hwf.2 S wv w a hv ha;rw [Sh.d] at h ⊢;symm;exact h.use ⟨rfl,rfl⟩
 | choice ss=>
   simp only [wf,uh8,uh1] at hwf;rw [Sh.depth] at hs;have h:=hc ss (λk hk=>⟨um4 (DM ss _ _ (ub6 hk)) (by lia),EH hwf.2 _ (ui4 hk)⟩) S wv w a hv ha;rw [Sh.d] at h ⊢;symm;exact h.use ⟨rfl,rfl⟩
theorem OW {ca cl' cl:Fn}(e1:cc=fnOf 3 5 (CD c cu))(e2:cp=fnOf 3 5 (Dd c))(e3:cl=fnOf 3 8 (Dc c cu))(e4:ct=fnOf 3 7 (De ca cu))(e5:cn=fnOf 3 7 (CF cl' cb cw))
 (hu:UXw cu) (ha:SXw ca) (hl':GG cl') (hb:BXw cb) (hw:Jc cw) (hc:FK c n):FK (fnOf 3 4 (CV cc cp cl ct cn)) (n + 1):=by
 subst e1 e2 e3 e4 e5;refine QY (λlo hi h S wv w a hv _=>?_) (λq h S wv w a hv _=>V8 ha hu h n w a hv) (λs q h2 hd h S wv w a hv _=>?_) (λs r d1 d2 w1 w2 S wv w a hv ha=>?_) λss h S wv w a hv _=>?_
 ·rw [pSh];exact YG hl' hb hw h w a hv
 ·rw [pSh];exact V6 hu h2 (hc s hd h) w a hv
 ·rw [pSh];exact V7 (hc s d1 w1) (hc r d2 w2) w a hv ha
 ·rw [pSh];refine QX hu (p:=λb=>pSh n (ss.getD b .nothing)) (λk hk=>?_) w a hv;show RXw c ss[k] (pSh n (ss.getD k .nothing));rw [ub0,ub6 hk,Option.getD_some];exact hc _ (h k hk).1 (h k hk).2
theorem Wir.gr {d:D}(h:Wir S d w)(g:Gr S S'):Wir S' d w:=h.imp id λ⟨k,e1,e2⟩=>⟨k,e1,g.get e2⟩
def RL (f:Fn):Prop:=∀(S:List Ob) (wv:D) (n:Int) (side:Str) (ws:List (Str×Sh×Int)) (w:List Nat) (p:Nat),Wir S wv w->GSOk n (.st side ws)->p<=w.length->w.length<=50000->PureS S f [(GS.st side ws).d,wv,.int p] (Ew side ws w p)
theorem Vp (hc:FK c 3):RL (fnOf 3 6 (Ee c)):=by
 intro S wv n side ws w p hv hgs hp hwl
 cases hgs with
 | @st _ _ hs1 hs2 hs3 hs4 hs5=>
 refine Aq rfl ?_;unfold Ee;rw [GS.d]
 cases hb:w[p]? with
 | none=>
   have hpl:¬p < w.length:=by rw [ub4] at hb;lia
   rw [show Ew side ws w p = .non by unfold Ew Dj;rw [hb]];symm;refine JH hv ?_;symm;refine Eo (by simp;lia) ?_;symm;refine ⟨rfl,?_⟩;symm;exact ⟨rfl,rfl⟩
 | some cc=>
   obtain ⟨hpl,_⟩:=ub1.mp hb;symm;refine JH hv ?_;symm;refine EV (by simp;lia) ?_;symm;refine T7 hv hb ?_;symm;rw [uj0]
   cases hw:ws[cc]? with
   | none=>
     have hcl:¬cc < ws.length:=by rw [ub4] at hw;lia
     rw [show Ew side ws w p = .exc "Broken" [.int p,.str side] by unfold Ew Dj;simp only [hb,hw]];refine Eo (by simp;lia) ?_;symm;exact ⟨rfl,rfl⟩
   | some wd=>
     obtain ⟨hcl,_⟩:=ub1.mp hw;have hwo:=hs5 wd (ue1 hw);have hgd:ws.getD cc (Str.ofString "",.nothing,0)=wd:=by rw [ub0,hw];rfl
     have hrd:=hc wd.2.1 hwo.dep hwo.ok S wv w (p + 1) hv hpl;refine EV (by simp;lia) ?_;symm;refine T7 hv hb ?_;symm;refine A3 (Fk hw) ?_;unfold wdD;dsimp only;symm
     cases e:(pSh 3 wd.2.1).run w (p + 1) with
     | told v b=>
       rw [show Ew side ws w p = .tup [.tup [.str side,.str wd.1,v],.int wd.2.2,.int b] by unfold Ew Dj;simp only [hb,hw,e,hgd]];rw [e,rrD] at hrd;refine hrd.use ?_;symm;exact ⟨rfl,rfl,rfl⟩
     | short=>
       rw [show Ew side ws w p = .non by unfold Ew Dj;simp only [hb,hw,e]];rw [e,rrD] at hrd;refine hrd.use ?_;symm;refine ⟨rfl,?_⟩;symm;exact ⟨rfl,rfl⟩
     | broken k=>
       rw [show Ew side ws w p = .exc "Broken" [.int k,.str side] by unfold Ew Dj;simp only [hb,hw,e]];rw [e,rrD] at hrd;refine hrd.use ?_;symm;exact ⟨rfl,rfl⟩
noncomputable def vaD:RR->D
 | .told v e=>.lst [.str "value",v,.int (e:Int)]
 | .short=>.lst [.str "short",.non,.non]
 | .broken k=>.lst [.str "broken",.int (k:Int),.non]
def RK (f:Fn):Prop:=∀s:Sh,s.depth<=3->wf s=true->∀(w:List Nat) (a:Nat),a<=w.length->Pure1 f [s.d,.lst (wD w),.int (a:Int)] (vaD ((pSh 3 s).run w a))
theorem Vo (hc:Ue c 3):RK (fnOf 3 6 (Dy c)):=by
 intro s hs hw w a ha S;refine Aq rfl ?_;unfold Dy;have h:=hc s hs hw w a ha
 cases e:(pSh 3 s).run w a with
 | told v b=>
   rw [e,rrD] at h;symm;refine h.use ?_;symm;exact ⟨rfl,rfl⟩
 | short=>
   rw [e,rrD] at h;symm;refine h.use ?_;symm;exact ⟨rfl,rfl⟩
 | broken k=>
   rw [e,rrD] at h;symm;refine h.use ?_;symm;exact ⟨rfl,rfl⟩
noncomputable def brD:Option (Nat×Str)->D
 | none=>.non
 | some (k,s)=>.tup [.int (k:Int),.str s]
def K3 (f:Fn):Prop:=∀(g:List GS) (wl wr:List Nat) (W:Nat) (S:List Ob),GOk g->wl.length<=25000->wr.length<=25000->S[W]?=some (.dct (dW wl wr))->Wf f [.lst (g.map GS.d),.obj W] S λr S'=>Gr S S'/\match walkR g wl wr (wl.length + wr.length + 1) 0 0 0 [] with
 | (t,h,a,b,o)=>∃K,r = .lst [.lst t,.int h,.obj K,brD o]/\S'[K]?=some (.dct (dP a b))
theorem bz {a4 e10 e11:Option Sl}{x:D}(h1:X=Y)(h2:x=y):(⟨[a0,a1,some (.own X),some (.val x),a4,e5,e6,e7,e8,e9,e10,e11],S⟩:T)=⟨[a0,a1,some (.own Y),some (.val y),a4,e5,e6,e7,e8,e9,e10,e11],S⟩:=by subst h1 h2;rfl
theorem Tc (hc:RK c):K3 (fnOf 2 12 (EY c)):=by
 intro g wl wr W S hg hl1 hl2 hW;have hL:LIM=100000:=rfl;refine Aq rfl ?_;unfold EY;symm;refine JG ?_;refine Be ?_;symm;refine Be ?_;symm;refine En ?_;refine ⟨by simp,by show 2<=15;decide,?_⟩;have hA:Gr S ((S++[Ob.dct []]).set S.length (.dct (Bh (dP 0 0)))):=Gr.app.set (un2 _);have hB:((S++[Ob.dct []]).set S.length (.dct (Bh (dP 0 0))))[S.length]?=some (.dct (dP 0 0)):=by rw [ID];exact AC Bc
 show Dm _ _ Out.next ⟨_,(S++[Ob.dct []]).set S.length (.dct (Bh (dP 0 0)))⟩;generalize (S++[Ob.dct []]).set S.length (.dct (Bh (dP 0 0)))=S1 at hA hB ⊢;obtain ⟨K,hK⟩:∃K,K=S.length:=⟨_,rfl⟩;rw [<-hK] at hB ⊢;symm;generalize hR:walkR g wl wr (wl.length + wr.length + 1) 0 0 0 []=R;refine FZ (λn t=>∃(h' a' b':Nat) (tk:List D) (S':List Ob) (e5 e6 e7 e8 e9 e10 e11:Option Sl),Pl g wl wr h' a' b'/\wl.length + wr.length + 1<=n + (a' + b')/\tk.length + n<=wl.length + wr.length + 1/\walkR g wl wr n h' a' b' tk=R/\Gr S S'/\S'[K]?=some (.dct (dP a' b'))/\t=⟨[some (.val (.lst (g.map GS.d))),some (.val (.obj W)),some (.own tk),some (.val (.int h')),some (.val (.obj K)),e5,e6,e7,e8,e9,e10,e11],S'⟩) ?_ K9 (wl.length + wr.length + 1) _ ?_ ?_
 ·rintro n t ⟨h',a',b',tk,S',e5,e6,e7,e8,e9,e10,e11,p',hn,ht,hR',hG,hK',rfl⟩;have pa:=p'.a;have pb:=p'.b;obtain ⟨m,rfl⟩:∃m,n=m + 1:=Nat.exists_eq_add_of_le' (by lia);have hgs:=Eb hg p'.h;have hix:=ER p'.h;have hW':=hG.get hW;unfold walkR BM at hR';symm;refine A3 hix ?_;symm;refine Rz ?_
  cases eg:Bv g h' with
  | fin=>
    rw [eg] at hix hR';symm;show Dm _ _ Out.next _;symm;subst hR';exact ⟨hG,K,rfl,hK'⟩
  | st side ws=>
    rw [eg] at hix hR' hgs;have hst0:=eg
    cases hgs with
    | @st _ _ hs hs2 hs3 hs4 hs5=>
    rw [GS.d] at hix;have hle:=QF (s:=side) pa pb;have hon:(onS side (D.int (a':Int)) (D.int (b':Int))) = .int ((onS side a' b':Nat):Int):=by unfold onS;split <;> rfl
    have hon2:(onS side (D.lst (wD wl)) (D.lst (wD wr))) = .lst (wD (onS side wl wr)):=by unfold onS;split <;> rfl
    have hgW:∀{t:T} {Q:D->T->Prop},t.S[W]?=some (.dct (dW wl wr))->Q (.lst (wD (onS side wl wr))) t->F2.W (AN (.obj W) (.str side)) t Q:=λe q=>Bj e (CO hs) (by rw [hon2];exact q);have hgK:∀{t:T} {Q:D->T->Prop},t.S[K]?=some (.dct (dP a' b'))->Q (.int ((onS side a' b':Nat):Int)) t->F2.W (AN (.obj K) (.str side)) t Q:=λe q=>Bj e (CO hs) (by rw [hon];exact q);have hlw:=BV (onS side wl wr);symm;refine ⟨m,rfl,?_⟩;symm;refine A3 hix ?_;symm;refine hgK hK' ?_;symm;refine hgW hW' ?_;symm;rw [hlw];dsimp only at hR';unfold Dj at hR'
    cases hb:(onS side wl wr)[onS side a' b']? with
    | none=>
      have hpl:onS side a' b'=(onS side wl wr).length:=by rw [ub4] at hb;lia
      rw [hb] at hR';refine Eo (by simp [hpl]) ?_;refine W_ret.mpr ?_;show Dm _ _ Out.next _;symm;subst hR';exact ⟨hG,K,rfl,hK'⟩
    | some cc=>
      obtain ⟨hpl,_⟩:=ub1.mp hb;rw [hb] at hR';dsimp only at hR';have hixw:atI (wD (onS side wl wr)) ((onS side a' b':Nat):Int)=some (.int (cc:Int)):=by
       unfold atI;rw [B2 (by lia) (by rw [hlw];lia)];show (wD (onS side wl wr))[((onS side a' b':Nat):Int).toNat]?=_;rw [ug4];exact M2 hb
      refine EV (by simp;lia) ?_;symm;refine hgW hW' ?_;symm;refine A3 hixw ?_;symm;rw [uj0]
      cases hw:ws[cc]? with
      | none=>
        have hcl:¬cc < ws.length:=by rw [ub4] at hw;lia
        rw [hw] at hR';refine Eo (by simp;lia) ?_;symm;subst hR';exact ⟨hG,K,rfl,hK'⟩
      | some wd=>
        obtain ⟨hcl,_⟩:=ub1.mp hw;have hwo:=hs5 wd (ue1 hw);have hgd:ws.getD cc (Str.ofString "",.nothing,0)=wd:=by rw [ub0,hw];rfl
        have hrd:=hc wd.2.1 hwo.dep hwo.ok (onS side wl wr) (onS side a' b' + 1) hpl;rw [hw] at hR';dsimp only at hR';refine EV (by simp;lia) ?_;symm;refine A3 (Fk hw) ?_;unfold wdD;dsimp only;symm;refine hgW hW' ?_;symm
        cases er:(pSh 3 wd.2.1).run (onS side wl wr) (onS side a' b' + 1) with
        | short=>
          rw [er,vaD] at hrd;rw [er] at hR';refine hrd.use ?_;symm;refine W_ret.mpr ?_;show Dm _ _ Out.next _;symm;subst hR';exact ⟨hG,K,rfl,hK'⟩
        | broken k=>
          rw [er,vaD] at hrd;rw [er] at hR';refine hrd.use ?_;symm;subst hR';exact ⟨hG,K,rfl,hK'⟩
        | told v e=>
          have hst:BM g wl wr h' a' b' = .next (.tup [.str side,.str wd.1,v]) wd.2.2.toNat (onS side e a') (onS side b' e):=by
           unfold BM;rw [hst0];dsimp only;unfold Dj;simp only [hb,hw,er,hgd]
          obtain ⟨p2,hlt⟩:=Fr hg p' hst;rw [er,vaD] at hrd;rw [er] at hR';dsimp only at hR';rw [hgd] at hR';refine hrd.use ?_;symm;refine A3 (Fk hw) ?_;unfold wdD;dsimp only;symm;refine BJ (by rw [hL];lia) ?_;symm;refine A3 (Fk hw) ?_;unfold wdD;dsimp only;symm;refine BW ?_;symm;refine Ba hK' (by show 2 < 100000;decide) ?_;rw [Ju hs];have hd:lr (onS side (D.int (e:Int)) (D.int (a':Int))) (onS side (D.int (b':Int)) (D.int (e:Int)))=dP (onS side e a') (onS side b' e):=by unfold onS;split <;> rfl
          exact ⟨_,_,_,tk++[_],_,_,_,_,_,_,_,_,p2,by lia,by rw [uf7,ud5];lia,hR',hG.set (by lia),(AC hK').trans (congrArg (λl=>some (Ob.dct l)) hd),bz rfl (congrArg D.int (uf0 hwo.lo).symm)⟩
 ·show _ < 1000000;lia
 ·exact ⟨0,0,0,[],S1,none,none,none,none,none,none,none,⟨hg.ne,un3 _,un3 _⟩,by lia,by simp,hR,hA,hB,rfl⟩
theorem UP {l:List α}{d:α}{r:List α}(e:d :: r=l.drop j):l[j]?=some d/\r=l.drop (j + 1):=by
 constructor
 ·have:=congrArg (λx=>x[0]?) e;simp only [List.getElem?_cons_zero,List.getElem?_drop,Nat.add_zero] at this;exact this.symm
 ·have:=congrArg List.tail e;rw [List.tail_drop] at this;exact this
def isB (l:List D):Prop:=∀d∈l,∃x:Nat,d = .int (x:Int)/\x < 256
theorem Qg:∀{l:List D},isB l->∃w:List Nat,l=wD w/\∀x∈w,x < 256
 | [],_=>⟨[],rfl,λx z=>nomatch z⟩
 | d :: r,h=>by
   obtain ⟨x,rfl,hx⟩:=h d uf3;obtain ⟨w,rfl,hw⟩:=Qg λd m=>h d (ud8 _ m);refine ⟨x :: w,rfl,λy hy=>?_⟩;rcases ul3.mp hy with rfl | hy
   ·exact hx
   ·exact hw y hy
theorem NA {a b:List D}(ha:isB a)(hb:isB b):isB (a++b):=λd h=>(ui8.mp h).elim (ha d) (hb d)
theorem Gm {x:Nat}{b:List D}(hx:x < 256)(hb:isB b):isB (.int (x:Int) :: b):=λd h=>by
 rcases ul3.mp h with rfl | h
 ·exact ⟨x,rfl,hx⟩
 ·exact hb d h
theorem Qz:∀(w n:Nat),isB (nb w n)
 | 0,n=>λd h=>nomatch h
 | w + 1,n=>NA (Qz w _) (Gm (Nat.mod_lt _ (by decide)) λd h=>nomatch h)
theorem EL:∀(n:Nat) (s:Sh),s.depth<=n->wf s=true->∀v,An s v=true->isB (AT s v)
 | 0,s,h,_,_,_=>absurd s.depth_pos (by lia)
 | n + 1,s,hs,hw,v,hf=>by
   cases s with
   | nothing=>rw [AT];exact λd h=>nomatch h
   | number lo hi=>
     cases v <;> simp [An] at hf
     rw [AT];exact Qz _ _
   | text q=>
     simp only [wf,uh8,uh1] at hw
     cases v <;> simp only [An,uf8] at hf
     rename_i x;simp only [uh8,uh1,ui2] at hf;rw [AT];refine Gm (by lia) λd h=>?_;obtain ⟨c,hc,rfl⟩:=um9.mp h;have:=hf.2 c hc;simp only [Bw,uh8,uh1] at this;exact ⟨c,rfl,by lia⟩
   | list s q=>
     simp only [wf,uh8,uh1] at hw;rw [Sh.depth] at hs
     cases v <;> simp only [An,uf8] at hf
     rename_i ds;simp only [uh8,uh1,ui2] at hf;rw [AT];refine Gm (by lia) λd h=>?_;obtain ⟨l,hl,hd⟩:=ui6.mp h;obtain ⟨e,he,rfl⟩:=um9.mp hl;exact EL n s (by lia) hw.2 e (hf.2 e he) d hd
   | pair s r=>
     simp only [wf,uh8] at hw;rw [Sh.depth] at hs;unfold An at hf
     split at hf
     ·rw [uh8] at hf;rw [AT];exact NA (EL n s (by lia) hw.1 _ hf.1) (EL n r (by lia) hw.2 _ hf.2)
     ·cases hf
   | choice ss=>
     simp only [wf,uh8,uh1] at hw;rw [Sh.depth] at hs;unfold An at hf
     split at hf
     ·next o k x=>
      simp only [uh8,uh1] at hf;obtain ⟨j,rfl⟩:=uc2 hf.1.2.1;have hj:j < ss.length:=by have:=hf.1.2.2;lia
      have e1:ss[j]?=some ss[j]:=ub6 hj;have h2:=hf.2;rw [ug4,DG ss _ _ _ e1] at h2;rw [AT,ug4,Fl ss _ _ _ e1];exact Gm (by lia) (EL n _ (um4 (DM ss _ _ e1) (by lia)) (EH hw.2 _ (ui4 hj)) x h2)
     ·cases hf
theorem bZ {g:M (List D)}(h:W f t λo t1=>W g t1 λas t2=>∃ds y j,o = .lst ds/\as=[y]/\(Gh y=true/\ds.all Gh=true)/\Mn (toV y) (ds.map toV)=some j/\P (.int (j:Nat)) t2):W (idxM f g) t P:=by
 obtain ⟨o,t1,e1,as,t2,e2,ds,y,j,rfl,rfl,hf,hj,p⟩:=h;refine ⟨_,_,?_,p⟩;simp only [idxM,bnd,e1,e2,if_pos hf,hj]
theorem Qd {ws:List (Str×Sh×Int)}(nd:(ws.map (·.1)).Nodup){p:Nat}{w:Str×Sh×Int}(e:ws[p]?=some w):Mn (toV (.str w.1)) ((ws.map λw=>D.str w.1).map toV)=some p:=by
 unfold Mn;rw [un0,List.findIdx?_map];rw [<-Oy nd e]
 congr 1
theorem Oz {ws:List (Str×Sh×Int)}:(ws.map λw=>D.str w.1).all Gh=true:=by
 rw [List.all_map,ui2];intro w _;rfl
theorem Oc {l:List α}{ι f:α->D}{fr:List (Option Sl)}{z:Option Sl}(h:∀a∈l,W elt ⟨some (.val (ι a)) :: fr,S⟩ λx t'=>x=f a/\t'=⟨some (.val (ι a)) :: fr,S⟩) :
 W (B3 (Ay 0) D4 elt (l.map ι)) ⟨z :: fr,S⟩ λxs t'=>xs=l.map f/\t'.S=S:=by
 induction l generalizing z with
 | nil=>exact W_compL_nil.mpr ⟨rfl,rfl⟩
 | cons a r ih=>
   rw [ul4,GI];refine IX (Kw ?_);rw [if_pos rfl];refine (h a uf3).mono λx t' z9=>?_;obtain ⟨e1,e2⟩:=z9;subst e1 e2;refine (ih (z:=some (.val (ι a))) λb hb=>h b (ud8 _ hb)).mono λxs t' z9=>?_;obtain ⟨e1,e2⟩:=z9;subst e1;exact ⟨rfl,e2⟩
def B256 (w:List Nat):Prop:=∀x∈w,x < 256
theorem B256.app {a b:List Nat}(h:B256 a)(h2:B256 b):B256 (a++b):=λx hx=>(ui8.mp hx).elim (h x) (h2 x)
def VBF (f:Fn):Prop:=∀(s:Sh),s.depth<=3->wf s=true->∀d,An s d=true->(AT s d).length<=400->Pure1 f [s.d,d] (.lst (AT s d))
variable {cf:Fn}
theorem Y1 (hc:HB c 3)(hf:FI cf 3):VBF (fnOf 2 2 (DA c cf)):=by
 intro s hs hwf d h hlen S;have hd:okD d=true:=EQ 3 s hs hwf d h;refine Aq rfl ?_;unfold DA;left;refine (hf s hs d hd).use ?_;rw [h];left;refine Fj ?_;left;exact (hc s hs hwf d h (um4 hlen (by decide))).use ⟨_,rfl,rfl,rfl,rfl⟩
def RN (n:Nat)(ps:List (List Nat)):Prop:=ps.length=n/\∀w∈ps,w.length<=401/\B256 w
def Lq (f:Fn):Prop:=∀(g:List GS) (mv:List Mv) (S:List Ob),GOk g->TOk g mv->Wf f [.lst (g.map GS.d),.lst (BH g 0 mv)] S λr S'=>S'=S/\∃ps,RN mv.length ps/\r = .lst (ps.map λw=>.lst (wD w))
theorem t9s {x:D}(h1:X=Y)(h2:x=y):(⟨[a0,a1,some (.own X),some (.val x),e4,e5,e6,e7,e8],S⟩:T)=⟨[a0,a1,some (.own Y),some (.val y),e4,e5,e6,e7,e8],S⟩:=by subst h1 h2;rfl
theorem Qq (hc:VBF c):Lq (fnOf 2 9 (Es c)):=by
 intro g mv S hg hT;have hL:LIM=100000:=rfl;have hlen:=hT.len;refine Aq rfl ?_;unfold Es;left;refine Cu (λr t=>∃(j:Nat) (ps:List (List Nat)) (e4 e5 e6 e7 e8:Option Sl),j<=mv.length/\r=(BH g 0 mv).drop j/\RN j ps/\t=⟨[some (.val (.lst (g.map GS.d))),some (.val (.lst (BH g 0 mv))),some (.own (ps.map λw=>.lst (wD w))),some (.val (.int (lastQ g 0 (mv.take j)))),e4,e5,e6,e7,e8],S⟩) _ _ ⟨0,[],none,none,none,none,none,un3 _,rfl,⟨rfl,λ_ z=>nomatch z⟩,rfl⟩ ?_ ?_
 ·rintro d r t ⟨j,ps,e4,e5,e6,e7,e8,hjl,hr,hps,rfl⟩ _;obtain ⟨hdj,hr'⟩:=UP hr;have hjn:j < mv.length:=by
   obtain ⟨h,_⟩:=ub1.mp hdj;rw [DJ] at h;exact h
  cases em:mv[j]? with
  | none=>rw [ub4] at em;lia
  | some x=>
  obtain ⟨p,v⟩:=x;have hm:=NG hT.ok em;have htk:mv.take (j + 1)=mv.take j++[(p,v)]:=by
   rw [List.take_succ,em];rfl
  have hbd:(AT (wdAt g (lastQ g 0 (mv.take j)) p).2.1 v).length<=400:=by
   have:=Th hT.bd (j + 1);rw [htk,HV] at this;exact this.2.1
  rw [Hg g 0 mv j p v em] at hdj
  cases hdj
  have nQ:lastQ g 0 (mv.take (j + 1))=CW g (lastQ g 0 (mv.take j)) p:=by rw [htk,G2];rfl
  have hlt:=hm.lt;obtain ⟨side,ws,egs,hpl,ew⟩:=Lj hm.pl;have hgs:=Eb hg hlt;have hw:=Pj hg hlt hm.pl;have hfit:=hm.fit;have hget:=ER hlt;have hnx:D.int (wdAt g (lastQ g 0 (mv.take j)) p).2.2=D.int (lastQ g 0 (mv.take (j + 1)):Nat):=by
   have:=hw.lo;rw [nQ];unfold CW
   congr 1
   lia
  unfold IG;have hpc:p < 9:=by
   rw [egs] at hgs
   cases hgs with
   | st _ _ h3 _ _=>lia
  obtain ⟨bs,hbs,hb256⟩:=Qg (EL 3 _ hw.dep hw.ok v hfit);have hvb:=hc _ hw.dep hw.ok v hfit hbd;generalize lastQ g 0 (mv.take j)=q at *;generalize wdAt g q p=w at *;rw [egs] at hgs hget;obtain ⟨nd,h9⟩:(ws.map (·.1)).Nodup/\ws.length<=9:=by
   cases hgs with
   | st _ _ h3 h4 _=>exact ⟨h4,h3⟩
  rw [GS.d] at hget;rw [hbs] at hvb hbd;rw [BV] at hbd;left;refine A3 hget ?_;left;refine bZ ?_;left;refine (Oc (f:=λw=>.str w.1) (fr:=[]) ?_).mono ?_
  ·intro w' _;unfold wdD;left;exact ⟨rfl,rfl⟩
  rintro xs tc ⟨rfl,hS⟩;refine BJ (by rw [uj0,hL];lia) ?_;rw [hS];left;refine ⟨_,_,p,rfl,rfl,⟨rfl,Oz⟩,Qd nd ew,?_⟩;left;refine A3 (Fk ew) ?_;unfold wdD;dsimp only;left;refine Zj (hvb.use ⟨rfl,?_⟩);left;refine BJ (by rw [BV,hL];show 1 + _<=_;lia) ?_;left;refine BJ (by rw [uj0,hps.1,hL];lia) ?_;left;refine A3 (Fk ew) ?_;unfold wdD;dsimp only;left;refine ⟨j + 1,ps++[p :: bs],_,_,_,_,_,hjn,hr',⟨by rw [uf7,hps.1];rfl,λx hx=>?_⟩,t9s (by rw [uk3];rfl) hnx⟩;rcases ui8.mp hx with hx | hx
  ·exact hps.2 x hx
  ·rw [uf9.mp hx];exact ⟨by rw [uh4];lia,λy hy=>(ul3.mp hy).elim (λe=>by rw [e];lia) (hb256 y)⟩
 ·rintro t ⟨j,ps,e4,e5,e6,e7,e8,hjl,hr,hps,rfl⟩;have hj':j=mv.length:=by
   have:=congrArg List.length hr;rw [uj9,uh7,DJ] at this;lia
  subst hj';left;exact ⟨rfl,ps,hps,rfl⟩
def Ni (K:Nat)(S:List Ob)(m:Nat):Prop:=∃l r:List Nat,S[K]?=some (.dct (dW l r))/\B256 l/\B256 r/\l.length<=m/\r.length<=m
def Lr (f:Fn):Prop:=∀(g:List GS) (mv:List Mv) (ps:List (List Nat)) (S:List Ob),GOk g->TOk g mv->RN mv.length ps->Wf f [.lst (BH g 0 mv),.lst (ps.map λw=>.lst (wD w))] S λr S'=>Gr S S'/\∃K,r = .obj K/\S.length<=K/\Ni K S' 24060
theorem Qs:Lr (fnOf 2 4 CT):=by
 intro g mv ps S hg hT hps;have hL:LIM=100000:=rfl;have hlen:=hT.len;refine Aq rfl ?_;unfold CT;left;refine JG ?_;refine Be ?_;left;refine Be ?_;left;refine En ?_;refine ⟨by simp,by show 2<=15;decide,?_⟩;have hA:Gr S ((S++[Ob.dct []]).set S.length (.dct (Bh (dW [] [])))):=Gr.app.set (un2 _);have hB:((S++[Ob.dct []]).set S.length (.dct (Bh (dW [] []))))[S.length]?=some (.dct (dW [] [])):=by rw [ID];exact AC Bc
 show Dm _ _ Out.next ⟨_,(S++[Ob.dct []]).set S.length (.dct (Bh (dW [] [])))⟩;generalize (S++[Ob.dct []]).set S.length (.dct (Bh (dW [] [])))=S1 at hA hB ⊢;obtain ⟨K,hK⟩:∃K,K=S.length:=⟨_,rfl⟩;rw [<-hK] at hB ⊢;left;rw [DJ];refine FH (Ci (by lia) (by lia)) ?_;refine Cu (λr t=>∃(j:Nat) (S':List Ob) (e3:Option Sl),j<=mv.length/\r=(rngL 0 ((mv.length:Nat):Int).toNat).drop j/\Gr S S'/\Ni K S' (401 * j)/\t=⟨[some (.val (.lst (BH g 0 mv))),some (.val (.lst (ps.map λw=>.lst (wD w)))),some (.val (.obj K)),e3],S'⟩) _ _ ⟨0,S1,none,un3 _,rfl,hA,⟨[],[],hB,(λ_ z=>nomatch z),(λ_ z=>nomatch z),un3 _,un3 _⟩,rfl⟩ ?_ ?_
 ·rintro d r t ⟨j,S',e3,hjl,hr,hG,⟨wl,wr,hKw,hbl,hbr,hll,hlr⟩,rfl⟩ _;obtain ⟨rfl,hr',hjn⟩:=Gw hr;rw [ug4] at hjn;rw [un1]
  cases em:mv[j]? with
  | none=>rw [ub4] at em;lia
  | some x=>
  obtain ⟨p,v⟩:=x;have hm:=NG hT.ok em;have hmi:atI (BH g 0 mv) j=some (IG g (lastQ g 0 (mv.take j)) p v):=by
   unfold atI;rw [B2 (by lia) (by rw [DJ];lia)];show (BH g 0 mv)[(j:Int).toNat]?=_;rw [ug4,Hg g 0 mv j p v em]
  have hjp:j < ps.length:=by rw [hps.1];exact hjn
  have hpi:atI (ps.map λw=>D.lst (wD w)) (j:Int)=some (.lst (wD ps[j])):=by
   unfold atI;rw [B2 (by lia) (by rw [uj0];lia)];show (ps.map λw=>D.lst (wD w))[(j:Int).toNat]?=_;rw [ug4,ug3,ub6 hjp];rfl
  obtain ⟨hp1,hp2⟩:=hps.2 _ (ui4 hjp);have hs:=Wx hg hm;unfold IG at hmi;generalize (Bv g (lastQ g 0 (mv.take j))).side=side at hmi hs;have hon2:(onS side (D.lst (wD wl)) (D.lst (wD wr))) = .lst (wD (onS side wl wr)):=by unfold onS;split <;> rfl
  have hol:(onS side wl wr).length<=401 * j:=by unfold onS;split <;> assumption
  left;refine A3 hmi ?_;left;refine Bj hKw (CO hs) ?_;rw [hon2];left;refine A3 hpi ?_;left;refine BJ (by rw [BV,BV,hL];lia) ?_;rw [<-HA];left;refine BW ?_;left;refine A3 hmi ?_;left;refine Ba hKw (by show 2 < 100000;decide) ?_;rw [Ju hs];refine ⟨j + 1,_,_,hjn,hr',hG.set (by lia),⟨onS side (wl++ps[j]) wl,onS side wr (wr++ps[j]),(AC hKw).trans (congrArg (λl=>some (Ob.dct l)) ?_),?_,?_,?_,?_⟩,rfl⟩
  ·unfold onS;split <;> rfl
  ·unfold onS;split
   ·exact hbl.app hp2
   ·exact hbl
  ·unfold onS;split
   ·exact hbr
   ·exact hbr.app hp2
  ·unfold onS;split
   ·rw [uf7];lia
   ·lia
  ·unfold onS;split
   ·lia
   ·rw [uf7];lia
 ·rintro t ⟨j,S',e3,hjl,hr,hG,⟨wl,wr,hKw,hbl,hbr,hll,hlr⟩,rfl⟩;left;exact ⟨hG,K,rfl,by lia,wl,wr,hKw,hbl,hbr,by lia,by lia⟩
theorem W8:Bn (wD w) none (some (a:Int))=wD (w.take a):=by
 unfold Bn;rw [HT.Kq,HT.IT,uk9,Nat.sub_zero];unfold wD;rw [List.map_take];exact (List.take_eq_take_min ..).symm
theorem W9:Bn (wD w) (some (a:Int)) none=wD (w.drop a):=by
 unfold Bn;rw [HT.Kq,HT.IT];unfold wD;rw [List.map_drop,uj0,uc9 (by rw [uh7,uj0];lia)]
 by_cases h:a<=w.length
 ·rw [Nat.min_eq_left h]
 ·rw [Nat.min_eq_right (by lia),List.drop_of_length_le (by rw [uj0];lia),List.drop_of_length_le (by rw [uj0];lia)]
theorem RoomF.lt {k:Nat}(h:RoomF F k r S):k < S.length:=by
 obtain ⟨⟨a,c,b,h1,_,_⟩,_⟩:=h;exact (ub1.mp h1).1
theorem RoomF.more {k:Nat}(h:RoomF F k r S):RoomF ((S.length,o) :: F) k r (S++[o]):=by
 refine ⟨(h.app (ex:=[o])).1,λp hp=>?_⟩;rcases ul3.mp hp with rfl | hp
 ·exact ⟨um5 h.lt,Bc⟩
 ·exact (h.app (ex:=[o])).2 p hp
theorem RZ {x y:Ob}:(S++[x]).set S.length y=S++[y]:=by simp
structure Mvs (g:List GS)(wl wr:List Nat)(mv:List Mv)(h a b:Nat)(t:List D):Prop where
 t:t=BH g 0 mv
 ok:okQ g 0 mv
 h:lastQ g 0 mv=h
 a:Pk g sL 0 mv=wD (wl.take a)
 b:Pk g sR 0 mv=wD (wr.take b)
def Agr (c:Nat)(w w2:List Nat):Prop:=∀i,i < c->w2[i]?=w[i]?
theorem SW {w2:List Nat}{c:Nat}(hw:Agr c w w2):∀(p:Rd) (a:Nat),p.run w a = .told v b->b<=c->p.run w2 a = .told v b:=by
 intro p
 induction p with
 | done v'=>intro a h _;exact h
 | need ok nx ih=>
   intro a h hb
   cases e:w[a]? with
   | none=>rw [Ch e] at h;cases h
   | some x=>
     rw [BU e] at h;have hl:=(ub1.mp e).1
     by_cases q:ok x=true
     ·rw [if_pos q] at h;have hlt:a < c:=by have:=(FW _ (a + 1) hl h).1;lia
      rw [BU ((hw a hlt).trans e),if_pos q];exact ih x (a + 1) h hb
     ·rw [if_neg q] at h;cases h
theorem Qv {side:Str}{ws:List (Str×Sh×Int)}{w2:List Nat}{c e x:Nat}(hw:Agr c w w2)(h:Dj side ws w p=(.told v e,x))(he:e<=c):Dj side ws w2 p=(.told v e,x):=by
 unfold Dj at h ⊢
 cases hb:w[p]? with
 | none=>rw [hb] at h;cases h
 | some y=>
   rw [hb] at h;dsimp only at h;obtain ⟨hpl,_⟩:=ub1.mp hb
   cases hws:ws[y]? with
   | none=>rw [hws] at h;cases h
   | some wd=>
     rw [hws] at h;injection h with h1 h2
     have hlt:p < c:=by have:=(FW _ _ hpl h1).1;lia
     rw [(hw p hlt).trans hb];dsimp only;rw [hws];dsimp only;rw [SW hw _ _ h1 he,h2]
variable {vl vr:List Nat}
theorem VA {side:Str}(h1:Agr a wl vl)(h2:Agr b wr vr):Agr (onS side a b) (onS side wl wr) (onS side vl vr):=by unfold onS;split <;> assumption
theorem Rl {ca cb:Nat}(hl:Agr ca vl wl)(hr:Agr cb vr wr){m:D}{h' a' b':Nat}(e:BM g vl vr h a b = .next m h' a' b')(ha:a'<=ca)(hb:b'<=cb):BM g wl wr h a b = .next m h' a' b':=by
 unfold BM at e ⊢
 cases eg:Bv g h with
 | fin=>rw [eg] at e;cases e
 | st side ws=>
   rw [eg] at e;dsimp only at e ⊢;generalize hm:Dj side ws (onS side vl vr) (onS side a b)=r at e;obtain ⟨r0,c⟩:=r
   cases r0 with
   | short=>cases e
   | broken k'=>cases e
   | told v x=>
     have hx:x<=onS side ca cb:=by
      injection e with e1 e2 e3 e4
      unfold onS at e3 e4 ⊢
      split at e3
      ·next q=>rw [if_pos q] at e4 ⊢;lia
      ·next q=>rw [if_neg q] at e4 ⊢;lia
     rw [Qv (VA hl hr) hm hx];exact e
theorem GB (g:List GS)(wl wr:List Nat):∀(F h a b:Nat) (t:List D),walkR g wl wr F h a b t=(t++(walkR g wl wr F h a b []).1,(walkR g wl wr F h a b []).2)
 | 0,h,a,b,t=>by show (t,h,a,b,none)=(t++[],h,a,b,none);rw [uj2]
 | F + 1,h,a,b,t=>by
   unfold walkR
   cases BM g wl wr h a b with
   | stop=>show (t,_)=(t++[],_);rw [uj2]
   | brk k s=>show (t,_)=(t++[],_);rw [uj2]
   | next m h' a' b'=>
     dsimp only;rw [GB g wl wr F h' a' b' (t++[m]),GB g wl wr F h' a' b' ([]++[m])];rw [uj7,ug6]
theorem JI {g:List GS}{wl wr:List Nat}(hg:GOk g):∀(F F' h a b:Nat) (t:List D),Pl g wl wr h a b->wl.length + wr.length + 1<=F + (a + b)->wl.length + wr.length + 1<=F' + (a + b)->walkR g wl wr F h a b t=walkR g wl wr F' h a b t
 | 0,F',h,a,b,t,p,hf,_=>by have:=p.a;have:=p.b;lia
 | F + 1,0,h,a,b,t,p,_,hf=>by have:=p.a;have:=p.b;lia
 | F + 1,F' + 1,h,a,b,t,p,h1,h2=>by
   unfold walkR
   cases e:BM g wl wr h a b with
   | stop=>rfl
   | brk k s=>rfl
   | next m h' a' b'=>
     obtain ⟨p',hlt⟩:=Fr hg p e;exact JI hg F F' h' a' b' (t++[m]) p' (by lia) (by lia)
abbrev Fu (wl wr:List Nat):Nat:=wl.length + wr.length + 1
theorem LA {v x:List Nat}:Agr v.length v (v++x):=λi hi=>ub2 hi
theorem Pl.more (p:Pl g vl vr h a b)(xl xr:List Nat):Pl g (vl++xl) (vr++xr) h a b:=
 ⟨p.h,um4 p.a (by rw [uf7];lia),um4 p.b (by rw [uf7];lia)⟩
theorem IY {g:List GS}{vl vr:List Nat}(hg:GOk g)(xl xr:List Nat):∀(F h a b:Nat) (t t':List D) (h' a' b':Nat),Pl g vl vr h a b->walkR g vl vr F h a b t=(t',h',a',b',none)->
 Pl g vl vr h' a' b'/\walkR g (vl++xl) (vr++xr) (Fu (vl++xl) (vr++xr)) h a b t=walkR g (vl++xl) (vr++xr) (Fu (vl++xl) (vr++xr)) h' a' b' t'
 | 0,h,a,b,t,t',h',a',b',p,e=>by cases e;exact ⟨p,rfl⟩
 | F + 1,h,a,b,t,t',h',a',b',p,e=>by
   unfold walkR at e
   cases es:BM g vl vr h a b with
   | stop=>rw [es] at e;cases e;exact ⟨p,rfl⟩
   | brk k s=>rw [es] at e;cases e
   | next m h1 a1 b1=>
     rw [es] at e;obtain ⟨p1,hlt⟩:=Fr hg p es;obtain ⟨q1,q2⟩:=IY hg xl xr F h1 a1 b1 (t++[m]) t' h' a' b' p1 e;refine ⟨q1,?_⟩;rw [<-q2];have e2:=Rl LA LA es p1.a p1.b (wl:=vl++xl) (wr:=vr++xr);have hs:walkR g (vl++xl) (vr++xr) (Fu (vl++xl) (vr++xr)) h a b t=walkR g (vl++xl) (vr++xr) ((vl++xl).length + (vr++xr).length) h1 a1 b1 (t++[m]):=by
      show walkR g (vl++xl) (vr++xr) ((vl++xl).length + (vr++xr).length + 1) h a b t=_;rw [walkR,e2]
     rw [hs];exact JI hg _ _ _ _ _ _ (p1.more xl xr) (by lia) (by show _<=(vl++xl).length + (vr++xr).length + 1 + _;lia)
def Rch (g:List GS)(vl vr:List Nat)(tk:List D)(h a b:Nat):Prop:=Pl g vl vr h a b/\∀xl xr:List Nat,walkR g (vl++xl) (vr++xr) (Fu (vl++xl) (vr++xr)) 0 0 0 []=walkR g (vl++xl) (vr++xr) (Fu (vl++xl) (vr++xr)) h a b tk
theorem Rch.start (hg:GOk g):Rch g [] [] [] 0 0 0:=⟨⟨hg.ne,un3 _,un3 _⟩,λ_ _=>rfl⟩
theorem Rch.more {g:List GS}{vl vr:List Nat}{tk:List D}{h a b:Nat}(r:Rch g vl vr tk h a b)(xl xr:List Nat):Rch g (vl++xl) (vr++xr) tk h a b:=
 ⟨r.1.more xl xr,λyl yr=>by rw [ug6,ug6];exact r.2 _ _⟩
theorem Rch.all {tk:List D}(r:Rch g vl vr tk h a b):walkR g vl vr (Fu vl vr) 0 0 0 []=(tk++(walkR g vl vr (Fu vl vr) h a b []).1,(walkR g vl vr (Fu vl vr) h a b []).2):=by
 have:=r.2 [] [];rw [uj2,uj2] at this;rw [this,GB]
theorem Rch.step (hg:GOk g){vl vr:List Nat}{tk t:List D}{h a b h' a' b':Nat}(r:Rch g vl vr tk h a b)(e:walkR g vl vr (Fu vl vr) h a b []=(t,h',a',b',none)):Rch g vl vr (tk++t) h' a' b':=by
 have e1:walkR g vl vr (Fu vl vr) h a b tk=(tk++t,h',a',b',none):=by rw [GB,e]
 refine ⟨(IY hg [] [] _ _ _ _ _ _ _ _ _ r.1 e1).1,λxl xr=>?_⟩;rw [r.2 xl xr];exact (IY hg xl xr _ _ _ _ _ _ _ _ _ r.1 e1).2
def Fed (g:List GS)(vl vr:List Nat)(tk:List D)(h a b:Nat)(fl:D):Prop:=Rch g vl vr tk h a b/\match walkR g vl vr (Fu vl vr) 0 0 0 [] with
 | (t',h',a',b',none)=>tk=t'/\h=h'/\a=a'/\b=b'/\fl = .non
 | (_,_,_,_,some (k,s))=>fl = .tup [.int (k:Nat),.str s]
section
variable {f:Str}{t:T}{P:D->T->Prop}{O:Out->T->Prop}{k:Nat}{n:Str}{fs:List (Str×D)}{v:D}
def Sy (f:Str)(d:D):M D:=ES d λ_ _ fs t=>(fs.lookup f).map λv=>(v,t)
def Kr (f:Str)(v d:D):M Out:=ES d λk n fs t=>if fs.length < 1000 then some (.next,{ t with S:=t.S.set k (.ins n (Fd f v fs)) }) else none
theorem T6 {a:M D}(h:W a t λd t1=>W (Sy f d) t1 P):W (D8 f a) t P:=Bl h
theorem Dt (e:t.S[k]?=some (.ins n fs))(l:fs.lookup f=some v)(h:P v t):W (Sy f (.obj k)) t P:=⟨_,_,by simp only [Sy,ES,e,l];rfl,h⟩
theorem Kv {gv ga:M D}(h:W gv t λv t1=>W ga t1 λd t2=>W (Kr f v d) t2 O):W (D2 f gv ga) t O:=Bl (h.mono λ_ _ z=>Bl z)
theorem Eg (e:t.S[k]?=some (.ins n fs))(l:fs.length < 1000)(h:O .next ⟨t.env,t.S.set k (.ins n (Fd f v fs))⟩):W (Kr f v (.obj k)) t O:=⟨_,_,by simp only [Kr,ES,e,if_pos l],h⟩
theorem Ll {g:Fn}{fl:M (List D)}(h:W fl t λds t1=>Wf g (.obj t1.S.length :: ds) (t1.S++[.ins n []]) λr S'=>r = .non/\P (.obj t1.S.length) ⟨t1.env,S'⟩):W (Ld n g fl) t P:=
 Bl (h.mono λds t1 ⟨r,S',e,e2,p⟩=>by subst e2;exact ⟨_,_,by simp only [e],p⟩)
theorem Pg {g:Fn}{o:M D}{fl:M (List D)}(h:W o t λd t1=>∃k fs,d = .obj k/\t1.S[k]?=some (.ins n fs)/\W fl t1 λds t2=>Wf g (d :: ds) t2.S λr S'=>P r ⟨t2.env,S'⟩):W (BX n g o fl) t P:=by
 refine Bl (h.mono λd t1 z=>?_);obtain ⟨k,fs,e1,e2,w⟩:=z;subst e1;obtain ⟨ds,t2,w1,r,S',w2,p⟩:=w;refine ⟨r,_,?_,p⟩;simp only [ES,e2,if_pos,bnd,w1,w2]
theorem Ry (h:P (.obj t.S.length) ⟨t.env,t.S++[.dct []]⟩):W (Em []) t P:=by
 refine ⟨_,_,?_,h⟩;simp [Em,HL,bnd,F2.ret,EF,Bh]
end
local macro_rules | `(tactic| walk_at "y1")=>`(tactic| first | walk_at "x1" | clear 31 FX T6 Kv Ry BW)
abbrev rdF (g:List GS)(h W P:Nat):List (Str×D):=[("grammar",.lst (g.map GS.d)),("standing",.int (h:Nat)),("wires",.obj W),("places",.obj P)]
structure Rdr (n0:Nat)(S:List Ob)(k:Nat)(g:List GS)(vl vr:List Nat)(h a b W P l r:Nat):Prop where
 k0:n0<=k
 l0:n0<=l
 r0:n0<=r
 ne:l≠r
 k:S[k]?=some (.ins "Reader" (rdF g h W P))
 w:S[W]?=some (.dct (lr (.obj l) (.obj r)))
 p:S[P]?=some (.dct (dP a b))
 l:S[l]?=some (.lst (wD vl))
 r:S[r]?=some (.lst (wD vr))
def Low (n0:Nat)(S S':List Ob):Prop:=n0<=S'.length/\∀i,i < n0->S'[i]?=S[i]?
variable {n0:Nat}
theorem Rdr.gr {k:Nat}{W P:Nat}(R:Rdr n0 S k g vl vr h a b W P l r)(G:Gr S S'):Rdr n0 S' k g vl vr h a b W P l r:=
 ⟨R.k0,R.l0,R.r0,R.ne,G.get R.k,G.get R.w,G.get R.p,G.get R.l,G.get R.r⟩
variable {u:Ob}
theorem Ag {i:Nat}(h:S[i]?=some u)(n:j≠i):(S.set j o)[i]?=some u:=by rw [ue0 n];exact h
theorem Am {i:Nat}(h:S[i]?=some o)(h':S[j]?=some u)(n:o≠u):i≠j:=λe=>by subst e;rw [h] at h';exact n (ui9 h')
theorem Rdr.ext {k:Nat}{W P:Nat}{side:Str}(x:List Nat)(R:Rdr n0 S k g vl vr h a b W P l r) :
 S[onS side l r]?=some (.lst (wD (onS side vl vr)))/\Rdr n0 (S.set (onS side l r) (.lst (wD (onS side vl vr)++wD x))) k g (onS side (vl++x) vl) (onS side vr (vr++x)) h a b W P l r:=by
 unfold onS
 split
 ·refine ⟨R.l,R.k0,R.l0,R.r0,R.ne,Ag R.k (Am R.l R.k (by simp)),Ag R.w (Am R.l R.w (by simp)),Ag R.p (Am R.l R.p (by simp)),?_,Ag R.r R.ne⟩;rw [<-HA];exact AC R.l
 ·refine ⟨R.r,R.k0,R.l0,R.r0,R.ne,Ag R.k (Am R.r R.k (by simp)),Ag R.w (Am R.r R.w (by simp)),Ag R.p (Am R.r R.p (by simp)),Ag R.l (Ne.symm R.ne),?_⟩;rw [<-HA];exact AC R.r
theorem Rdr.put {k:Nat}{h' a' b' W P Q:Nat}(R:Rdr n0 S k g vl vr h a b W P l r)(e:S[Q]?=some (.dct (dP a' b'))):Rdr n0 (S.set k (.ins "Reader" (rdF g h' W Q))) k g vl vr h' a' b' W Q l r:=
 ⟨R.k0,R.l0,R.r0,R.ne,AC R.k,Ag R.w (Am R.k R.w (by simp)),Ag e (Am R.k e (by simp)),Ag R.l (Am R.k R.l (by simp)),Ag R.r (Am R.k R.r (by simp))⟩
def Kp (k:Nat)(S S':List Ob):Prop:=S.length<=S'.length/\∀i,i < S.length->i≠k->S'[i]?=S[i]?
theorem Kp.refl {k:Nat}:Kp k S S:=⟨un2 _,λ_ _ _=>rfl⟩
theorem Kp.setk {k:Nat}(a:Kp k S S'):Kp k S (S'.set k o):=⟨by rw [uj5];exact a.1,λi h n=>by rw [ue0 (Ne.symm n)];exact a.2 i h n⟩
theorem Kp.set {k j:Nat}{S S':List Ob}{o:Ob}(a:Kp k S S')(h:S.length<=j):Kp k S (S'.set j o):=⟨by rw [uj5];exact a.1,λi hi n=>by rw [ue0 (by lia)];exact a.2 i hi n⟩
theorem Kp.app {k:Nat}(a:Kp k S S'):Kp k S (S'++[o]):=⟨by rw [uf7];exact um4 a.1 (ui1 _ _),λi hi n=>by rw [ub2 (uf2 hi a.1)];exact a.2 i hi n⟩
theorem AL {i:Nat}(h:S[i]?=some u):(S++[o])[i]?=some u:=by rw [ub2 (ub1.mp h).1];exact h
theorem A0 {i:Nat}(h:S[i]?=some u):i < S.length:=(ub1.mp h).1
theorem Rb {k:Nat}{W P:Nat}(R:Rdr n0 S k g vl vr h a b W P l r):PureS S (fnOf 1 1 BO) [.obj k] (.int (h:Nat)):=by
 refine Aq rfl ?_;unfold BO;symm;refine Dt R.k rfl ?_;symm;exact ⟨rfl,rfl⟩
local macro_rules | `(tactic| walk_at "y1")=>`(tactic| first | walk_at "x1" | clear 31 FX T6 Kv Ry BW Pg Ll)
section
variable {n0:Nat}{S:List Ob}{k:Nat}{g:List GS}{vl vr:List Nat}{h a b W P l r:Nat}
theorem Hz (R:Rdr n0 S k g vl vr h a b W P l r){side:Str}(hs:side=sL\/side=sR):PureS S (fnOf 2 2 A1) [.obj k,.str side] (.int (((onS side vl vr).length:Nat) - ((onS side a b:Nat):Int))):=by
 have hon:(onS side (D.int (a:Int)) (D.int (b:Int))) = .int ((onS side a b:Nat):Int):=by unfold onS;split <;> rfl
 have hon2:Wir S (onS side (D.obj l) (D.obj r)) (onS side vl vr):=by unfold onS;split;exact .inr ⟨l,rfl,R.l⟩;exact .inr ⟨r,rfl,R.r⟩
 refine Aq rfl ?_;unfold A1;symm;refine Dt R.k rfl ?_;symm;refine Bj R.w (CO hs) ?_;symm;refine JH hon2 ?_;symm;refine Dt R.k rfl ?_;symm;refine Bj R.p (CO hs) ?_;rw [hon];symm;exact ⟨rfl,rfl⟩
theorem Rw (R:Rdr n0 S k g vl vr h a b W P l r):PureS S (fnOf 1 1 (BG (fnOf 2 2 A1))) [.obj k] (.tup [.int ((vl.length:Nat) - (a:Int)),.int ((vr.length:Nat) - (b:Int))]):=by
 refine Aq rfl ?_;unfold BG;symm;refine ⟨k,_,rfl,R.k,?_⟩;symm;refine (Hz R (.inl rfl)).use ?_;symm;refine ⟨k,_,rfl,R.k,?_⟩;symm;refine (Hz R (.inr rfl)).use ?_;symm;refine ⟨?_,rfl⟩;rw [show onS sL vl vr=vl from if_pos rfl,show onS sR vl vr=vr from if_neg (Ne.symm sLR),show onS sL a b=a from if_pos rfl,show onS sR a b=b from if_neg (Ne.symm sLR)]
end
theorem M4 (g:List GS)(wl wr:List Nat):∀(F h a b:Nat) (t:List D),(walkR g wl wr F h a b t).1.length<=t.length + F
 | 0,h,a,b,t=>un2 _
 | F + 1,h,a,b,t=>by
   unfold walkR
   cases BM g wl wr h a b with
   | stop=>exact ui1 _ _
   | brk k s=>exact ui1 _ _
   | next m h' a' b'=>
     have:=M4 g wl wr F h' a' b' (t++[m]);rw [uf7] at this;have e:[m].length=1:=rfl;show (walkR g wl wr F h' a' b' (t++[m])).1.length<=_;lia
theorem bt {side:Str}(v x:List Nat):onS side (v++x) v=v++(if side=sL then x else []):=by
 unfold onS
 split
 ·rfl
 ·rw [uj2]
theorem bu {side:Str}(hs:side=sL\/side=sR)(v x:List Nat):onS side v (v++x)=v++(if side=sR then x else []):=by
 unfold onS;rcases hs with rfl | rfl
 ·rw [if_pos rfl,if_neg sLR,uj2]
 ·rw [if_neg (Ne.symm sLR),if_pos rfl]
def Rd.tells (P:D->Prop):Rd->Prop
 | .done v=>P v
 | .need _ nx=>∀b,(nx b).tells P
theorem Rc {P:D->Prop}:∀(p:Rd) (a:Nat),p.tells P->p.run w a = .told v b->P v:=by
 intro p
 induction p with
 | done u=>intro a h e;cases e;exact h
 | need ok nx ih=>
   intro a h e
   cases hb:w[a]? with
   | none=>rw [Ch hb] at e;cases e
   | some c=>
     rw [BU hb] at e
     split at e
     ·exact ih c (a + 1) (h c) e
     ·cases e
theorem Ft {P Q:D->Prop}{k:D->Rd}(hk:∀v,P v->(k v).tells Q):∀p:Rd,p.tells P->(p.bnd k).tells Q:=by
 intro p
 induction p with
 | done u=>exact hk u
 | need ok nx ih=>exact λh b=>ih b (h b)
local macro_rules | `(tactic| walk_at "y1")=>`(tactic| first | walk_at "x1" | clear 31 FX T6 Kv BW Pg Ll)
def KpR (k l r:Nat)(S S':List Ob):Prop:=S.length<=S'.length/\∀i,i < S.length->i≠k->i≠l->i≠r->S'[i]?=S[i]?
section
variable {n0:Nat}{S S1 S2:List Ob}{k:Nat}{g:List GS}{vl vr:List Nat}{h a b W P l r:Nat}{o:Ob}
theorem KpR.get (h:KpR k l r S S1){i:Nat}(e:S[i]?=some o)(h1:i≠k)(h2:i≠l)(h3:i≠r):S1[i]?=some o:=(h.2 i (A0 e) h1 h2 h3).trans e
theorem KpR.gr (a:KpR k l r S S1)(b:Gr S1 S2):KpR k l r S S2:=⟨um4 a.1 b.1,λi h h1 h2 h3=>(b.2 i (uf2 h a.1)).trans (a.2 i h h1 h2 h3)⟩
theorem KpR.setk (a:KpR k l r S S1):KpR k l r S (S1.set k o):=⟨by rw [uj5];exact a.1,λi h h1 h2 h3=>by rw [ue0 (Ne.symm h1)];exact a.2 i h h1 h2 h3⟩
end
def fdK (n0:Nat)(S':List Ob)(k:Nat)(g:List GS)(vl vr:List Nat)(h a b W P l r:Nat)(q:D):Rs->Prop
 | (t,h',a',b',none)=>q = .lst [.str "told",.lst t]/\∃P',Rdr n0 S' k g vl vr h' a' b' W P' l r
 | (_,_,_,_,some (c,s))=>q = .lst [.str "refused",.tup [.int (c:Nat),.str s]]/\Rdr n0 S' k g vl vr h a b W P l r
def dC (f:Fn):Prop:=∀(n0:Nat) (S:List Ob) (k:Nat) (g:List GS) (vl vr x:List Nat) (h a b W P l r:Nat) (side:Str),GOk g->Pl g vl vr h a b->(onS side (vl++x) vl).length<=25000->(onS side vr (vr++x)).length<=25000->(side=sL\/side=sR)->Rdr n0 S k g vl vr h a b W P l r->
 Wf f [.obj k,.str side,.lst (wD x)] S λq S'=>KpR k l r S S'/\fdK n0 S' k g (onS side (vl++x) vl) (onS side vr (vr++x)) h a b W P l r q (walkR g (onS side (vl++x) vl) (onS side vr (vr++x)) (Fu (onS side (vl++x) vl) (onS side vr (vr++x))) h a b [])
def Bk (g:List GS)(vl vr:List Nat)(h a b c:Nat)(s:Str):Prop:=Pl g vl vr h a b/\∃t h' a' b',walkR g vl vr (Fu vl vr) h a b []=(t,h',a',b',some (c,s))
def BK (g:List GS)(vl vr:List Nat)(k h a b W P l r:Nat):List (Nat×Ob):=[(k,.ins "Reader" (rdF g h W P)),(W,.dct (lr (.obj l) (.obj r))),(P,.dct (dP a b)),(l,.lst (wD vl)),(r,.lst (wD vr))]
section
variable {F:List (Nat×Ob)}{n0:Nat}{S S1:List Ob}{k:Nat}{g:List GS}{vl vr:List Nat}{h a b W P l r m R:Nat}
end
theorem TH {f:Fn}(h:FK f n):Ue f n:=λs hs hw w a ha S=>h s hs hw S _ w a (.inl rfl) ha
local macro_rules | `(tactic| walk_at "y1")=>`(tactic| first | walk_at "x1" | clear 31 BW Pg Ll)
local macro_rules | `(tactic| walk_at "y1")=>`(tactic| first | walk_at "x1" | clear 31 BW)
local macro_rules | `(tactic| walk_at "y1")=>`(tactic| first | walk_at "x1" | clear 31 FX BW)
structure Due6 (g:List GS)(wl wr:List Nat)(tk:List D)(h a b:Nat)(fl:D):Prop where
 rq:∀x∈tk,Rq 5 x
 len:tk.length<=60000
 fk:fl = .non\/∃(k:Nat) (s:Str),fl = .tup [.int (k:Nat),.str s]
 fed:∀(tk':List D) (h' a' b':Nat) (fl':D),Fed g wl wr tk' h' a' b' fl'->fl'=fl/\(∃ex,tk=tk'++ex)/\(fl = .non->tk'=tk/\h'=h/\a'=a/\b'=b)
section
variable {F:List (Nat×Ob)}{n0:Nat}{S S1:List Ob}{k:Nat}{g:List GS}{vl vr x y:List Nat}{h a b W P l r m R K:Nat}{o:Ob}
end
structure NmX (x:Str):Prop where
 ne:x.cps.toList≠[]
 cs:∀c∈x.cps.toList,97<=c/\c<=122/\c≠113
 le:x.length<=9
def GSX (n:Int)(x:GS):Prop:=GSOk n x/\∀w∈x.ws,NmX w.1
def WX (n:Int)(w:Str×Sh×Int):Prop:=WOk n w/\NmX w.1
def HdX (g:List GS):Prop:=∀x,g.head?=some x->x.isFin=false
structure GX (g:List GS):Prop where
 nm:∀x∈g,∀w∈x.ws,NmX w.1
 hd:HdX g
theorem Vg {gs:List GS}{x:GS}(h:HdX gs)(hx:gs=[]->x.isFin=false):HdX (gs++[x]):=by
 intro y hy
 cases gs with
 | nil=>cases hy;exact hx rfl
 | cons a r=>exact h y hy
theorem WP (h0:0<=i)(h1:i < 3):∃c,atI xyz3.cps.toList i=some c/\120<=c/\c<=122:=by
 have:i=0\/i=1\/i=2:=by lia
 rcases this with rfl | rfl | rfl
 ·exact ⟨120,by decide +kernel,by decide,by decide⟩
 ·exact ⟨121,by decide +kernel,by decide,by decide⟩
 ·exact ⟨122,by decide +kernel,by decide,by decide⟩
theorem XS {c:Nat}{y:Int}(hn:n < 9)(hc:120<=c/\c<=122)(hy:y < 8):NmX (⟨#[97 + n]⟩++Txt.mul ⟨#[c]⟩ y):=by
 have e:((⟨#[97 + n]⟩:Str)++Txt.mul ⟨#[c]⟩ y).cps.toList=(97 + n) :: List.replicate y.toNat c:=by rw [Ej,Tf];rfl
 refine ⟨by rw [e];exact List.cons_ne_nil _ _,λd hd=>?_,?_⟩
 ·rw [e] at hd;rcases ul3.mp hd with rfl | hd
  ·lia
  ·rw [List.eq_of_mem_replicate hd];lia
 ·rw [DI,e,uh4,ud3];lia
local macro_rules | `(tactic| walk_at "y1")=>`(tactic| first | walk_at "x1" | clear 31 Ll)
def Scr (sd:D)(n:Nat):Prop:=(∃ns:List Int,sd = .scr ns/\ns.length=n)\/∃ns:List Int,sd = .lst (ns.map .int)/\ns.length=n
theorem Ih {sd:D}(h:Scr sd n){t:T}{P:D->T->Prop}(p:P (.int (n:Nat)) t):W (AQ [sd]) t P:=by
 rcases h with ⟨ns,rfl,rfl⟩ | ⟨ns,rfl,rfl⟩
 ·exact W_len_scr.mpr p
 ·refine Pf ?_;rw [uj0];exact p
theorem Zc {sd:D}{k:Nat}(h:Scr sd n)(hk:k < n):∃c:Int,∀(t:T) (P:D->T->Prop),P (.int c) t->W (ixD sd (.int (k:Int))) t P:=by
 rcases h with ⟨ns,rfl,rfl⟩ | ⟨ns,rfl,rfl⟩
 ·refine ⟨ns[k],λt P p=>W_ix_scr.mpr ⟨ns[k],?_,p⟩⟩;unfold atI;rw [B2 (by lia) (by lia)];show ns[(k:Int).toNat]?=_;rw [ug4,ub6 hk]
 ·refine ⟨ns[k],λt P p=>A3 (d:=.int ns[k]) ?_ p⟩;unfold atI;rw [B2 (by lia) (by rw [uj0];lia)];show (ns.map D.int)[(k:Int).toNat]?=_;rw [ug4,ug3,ub6 hk];rfl
def IZ (f:Fn):Prop:=∀(sd:D) (n k:Nat),Scr sd n->k<=1000->∃c:Int,Pure1 f [sd,.int k] (.int c)
theorem QL:IZ (fnOf 2 2 CU):=by
 intro sd n k h hk
 by_cases z:k < n
 ·obtain ⟨c,hc⟩:=Zc h z;refine ⟨c,λS=>Aq rfl ?_⟩;unfold CU;right;refine Ih h ?_;right;refine Eo (ul1 (by lia)) ?_;right;refine hc _ _ ?_;right;exact ⟨rfl,rfl⟩
 ·refine ⟨0,λS=>Aq rfl ?_⟩;unfold CU;right;refine Ih h ?_;right;refine EV (uk5 (by lia)) ?_;right;exact ⟨rfl,rfl⟩
def Lv (f:Fn):Prop:=∀(sd:D) (n0 k:Nat) (S:List Ob),Scr sd n0->k<=1000->Wf f [sd,.int k] S λr S'=>∃n,r = .obj n/\Room n 900000000000000000000000000000 S'
theorem QT (hc:IZ cc):Lv (fnOf 2 3 (Cb cc)):=by
 intro sd n0 k S hsd hk;obtain ⟨c,hc⟩:=hc sd n0 k hsd hk;refine Aq rfl ?_;unfold Cb;right;refine hc.use ?_;right;refine JG ?_;refine Be ?_;right;refine Be ?_;right;refine Be ?_;right;refine Ii (FP (by decide) (by decide)) ?_;right;refine En ?_;refine ⟨Bc,by show 3<=15;decide,S.length,rfl,?_⟩;exact ⟨c,3 + 5 * (k:Int),_,(AC Bc).trans (congrArg (λl=>some (Ob.dct l)) MD),by lia,by lia⟩
def Lu (f:Fn):Prop:=∀(sd:D) (n0:Nat) (S:List Ob),Scr sd n0->Wf f [sd] S λr _=>∃g:List GS,GOk g/\GX g/\r = .lst (g.map GS.d)
theorem QO {cz:Fn}(ht:PTakeOk ct)(hs:PShapeOk cz 3)(hp:Lv cp):Lu (fnOf 1 10 (C5 ct cz cp)):=by
 intro sd n0 S hsd;have hL:LIM=100000:=rfl;refine Aq rfl ?_;unfold C5;right;refine (hp sd n0 0 S hsd (by decide)).mono λr S1 z9=>?_;obtain ⟨K,e1,p1⟩:=z9;subst e1;right;refine ht.use (r:=3) 5 (p1.mono (by decide)) λa S2 a0 a1 p2=>?_;right;refine ht.use (r:=2) 9 (p2.mono (by decide)) λb S3 b0 b1 p3=>?_;right;refine ht.use (r:=1) 3 p3 λc S4 c0 c1 p4=>?_;obtain ⟨dd,ed,many,rfl,m0,m1⟩:=Gq (xs:=[D.int (1 + a),D.int (1 + b),D.int 30]) c0 (by simpa using c1) (p:=λd=>∃m:Nat,d = .int m/\1<=m/\m<=30) (by
  simp only [ue2];exact ⟨⟨(1 + a).toNat,by rw [uf0 (by lia)],by lia,by lia⟩,⟨(1 + b).toNat,by rw [uf0 (by lia)],by lia,by lia⟩,⟨30,rfl,by decide,by decide⟩,λ_ z=>nomatch z⟩)
 refine A3 ed ?_;clear p1 p2 p3 p4 ed a0 a1 b0 b1 c0 c1;right;refine FH (Hu m1) ?_;refine Cu (λr t=>∃(gs:List GS) (S':List Ob) (e1 e4 e5 e6 e7 e8 e9:Option Sl),gs.length<=many/\r=(rngL 0 ((many:Nat):Int).toNat).drop gs.length/\(∀x∈gs,GSX many x)/\HdX gs/\t=⟨[some (.val (sd)),e1,some (.val (.int many)),some (.own (gs.map GS.d)),e4,e5,e6,e7,e8,e9],S'⟩) _ _ ⟨[],S4,_,none,none,none,none,none,none,un3 _,rfl,(λ_ z=>nomatch z),(λ_ z=>nomatch z),rfl⟩ ?_ ?_
 ·rintro d r t ⟨gs,S',e1,e4,e5,e6,e7,e8,e9,hj,hr,hg,hh0,rfl⟩ _;obtain ⟨rfl,hr',hjn⟩:=Gw hr;rw [ug4] at hjn;rw [un1];generalize hJ:gs.length=j at hj hjn;right;rw [show ((1:Int) + (j:Int) % 13)=((1 + j % 13:Nat):Int) by lia];refine (hp sd n0 (1 + j % 13) S' hsd (by lia)).mono λr1 S1 z9=>?_;obtain ⟨K,e,p1⟩:=z9;subst e;refine Ct ?_;obtain ⟨ra,rc,rb,hS,c0,c1⟩:=p1;right;refine Bj hS Ki ?_;right;refine Y7 (by lia) (by lia) ?_;right;refine Ii (FP (by decide) (by decide)) ?_;right;refine BW ?_;right;refine Ba hS (by show 3 < 100000;decide) ?_;rw [FQ];have p2:Room K 900000000000000000000000000000 (S1.set K (.dct (Bb (.int (ra / (1 + (j:Int) / 13) + 37 * (j:Int))) (.bl rb) (.int rc)))):=⟨_,_,_,AC hS,c0,c1⟩;refine Ct ?_
  change W _ ⟨[some (.val (sd)),some (.val (.obj K)),some (.val (.int many)),some (.own (gs.map GS.d)),some (.val (.int j)),e5,e6,e7,e8,e9],S1.set K (.dct (Bb (.int (ra / (1 + (j:Int) / 13) + 37 * (j:Int))) (.bl rb) (.int rc)))⟩ _
  generalize S1.set K (.dct (Bb (.int (ra / (1 + (j:Int) / 13) + 37 * (j:Int))) (.bl rb) (.int rc)))=S2 at p2 ⊢;clear hS c0 c1 ra rc rb;right;refine ht.use (r:=5002) 6 (p2.mono (by decide)) λq S3 q0 q1 p3=>?_;have grow:∀(x:GS) (S':List Ob) (e1 e4 e5 e6 e7 e8 e9:Option Sl),GSX many x->(gs=[]->x.isFin=false)->∃(gs':List GS) (S'':List Ob) (f1 f4 f5 f6 f7 f8 f9:Option Sl),gs'.length<=many/\r=(rngL 0 ((many:Nat):Int).toNat).drop gs'.length/\(∀x∈gs',GSX many x)/\HdX gs'/\(⟨[some (.val (sd)),e1,some (.val (.int many)),some (.own (gs.map GS.d++[x.d])),e4,e5,e6,e7,e8,e9],S'⟩:T)=⟨[some (.val (sd)),f1,some (.val (.int many)),some (.own (gs'.map GS.d)),f4,f5,f6,f7,f8,f9],S''⟩:=by
   intro x S' e1 e4 e5 e6 e7 e8 e9 hx hxf;refine ⟨gs++[x],S',e1,e4,e5,e6,e7,e8,e9,?_,?_,HS hg hx,Vg hh0 hxf,t10 (by rw [uk3];rfl)⟩
   ·rw [uf7,ud5];lia
   ·rw [uf7,ud5];exact hr'
  have fin:0 < j->W (ownM 3 Bx (Aa (AR (Aa (fC (.str "end")) Ad)) Ad)) ⟨[some (.val (sd)),some (.val (.obj K)),some (.val (.int many)),some (.own (gs.map GS.d)),some (.val (.int j)),e5,e6,e7,e8,e9],S3⟩ λo t=>o = .next/\∃(gs':List GS) (S'':List Ob) (f1 f4 f5 f6 f7 f8 f9:Option Sl),gs'.length<=many/\r=(rngL 0 ((many:Nat):Int).toNat).drop gs'.length/\(∀x∈gs',GSX many x)/\HdX gs'/\t=⟨[some (.val (sd)),f1,some (.val (.int many)),some (.own (gs'.map GS.d)),f4,f5,f6,f7,f8,f9],S''⟩:=by
   intro h0j;right;refine BJ (by rw [uj0,hL];lia) ?_;exact ⟨rfl,grow .fin _ _ _ _ _ _ _ _ ⟨.fin,λ_ z=>nomatch z⟩ (λz=>by rw [<-hJ,z] at h0j;exact absurd h0j (ul2 _))⟩
  have els:W (Af (Aw 5 (Ac (Av (AI (Aa (fC (.str "left")) (Aa (fC (.str "right")) Ad)))) (Ai ct (Aa (Ab 1) (Aa (fC (.int 2)) Ad))) ixD)) (Af (Dk 6 (AI Ad)) (Af (BY (B4 (Aa (Ac (Av (AI (Aa (fC (.int 1)) (Aa (fC (.int 2)) (Aa (fC (.int 3)) (Aa (fC (.int 9)) Ad)))))) (Ai ct (Aa (Ab 1) (Aa (fC (.int 4)) Ad))) ixD) Ad)) (Ay 7) (Af (Aw 8 (Ac (Ac (fC (.str "abcdefghi")) (Ab 7) ixD) (Ac (Ac (fC (.str "xyz")) (Ai ct (Aa (Ab 1) (Aa (fC (.int 3)) Ad))) ixD) (Ai ct (Aa (Ab 1) (Aa (fC (.int 8)) Ad))) D1) AJ)) (Af (Aw 9 (Ac (Av (AI (Aa (Ai ct (Aa (Ab 1) (Aa (Ab 2) Ad))) (Aa (fB (Aa (Ac (Ab 2) (fC (.int 1)) BB) (Aa (Ac (Ab 4) (fC (.int 1)) AJ) Ad)) FF) Ad)))) (Ai ct (Aa (Ab 1) (Aa (fC (.int 2)) Ad))) ixD)) (ownM 6 Bx (Aa (AR (Aa (Ab 8) (Aa (Ai cz (Aa (Ab 1) (Aa (Ai ct (Aa (Ab 1) (Aa (fC (.int 3)) Ad))) Ad))) (Aa (Ab 9) Ad)))) Ad))))) (ownM 3 Bx (Aa (AR (Aa (Ab 5) (Aa (Ab 6) Ad))) Ad))))) ⟨[some (.val (sd)),some (.val (.obj K)),some (.val (.int many)),some (.own (gs.map GS.d)),some (.val (.int j)),e5,e6,e7,e8,e9],S3⟩ λo t=>o = .next/\∃(gs':List GS) (S'':List Ob) (f1 f4 f5 f6 f7 f8 f9:Option Sl),gs'.length<=many/\r=(rngL 0 ((many:Nat):Int).toNat).drop gs'.length/\(∀x∈gs',GSX many x)/\HdX gs'/\t=⟨[some (.val (sd)),f1,some (.val (.int many)),some (.own (gs'.map GS.d)),f4,f5,f6,f7,f8,f9],S''⟩:=by
   clear fin;right;refine ht.use (r:=5001) 2 p3 λs S4 s0 s1 p4=>?_;obtain ⟨dd,ed,side,rfl,hside⟩:=Gq (xs:=[D.str (Str.ofString "left"),D.str (Str.ofString "right")]) s0 (by simpa using s1) (p:=λd=>∃x:Str,d = .str x/\(x=Str.ofString "left"\/x=Str.ofString "right")) (by
    simp only [ue2];exact ⟨⟨_,rfl,.inl rfl⟩,⟨_,rfl,.inr rfl⟩,λ_ z=>nomatch z⟩)
   refine A3 ed ?_;right;refine ht.use (r:=5000) 4 p4 λg S5 z0 z1 p5=>?_;obtain ⟨dd,ed',cnt,rfl,n0,n1⟩:=Gq (xs:=[D.int 1,D.int 2,D.int 3,D.int 9]) z0 (by simpa using z1) (p:=λd=>∃m:Nat,d = .int m/\1<=m/\m<=9) (by
    simp only [ue2];exact ⟨⟨1,rfl,by decide,by decide⟩,⟨2,rfl,by decide,by decide⟩,⟨3,rfl,by decide,by decide⟩,⟨9,rfl,by decide,by decide⟩,λ_ z=>nomatch z⟩)
   refine A3 ed' ?_;right;clear ed ed' z0 z1 s0 s1 p2 p3 p4 q0 q1;refine FH (Hu n1) ?_;refine Cu (λr t=>∃(ws:List (Str×Sh×Int)) (S':List Ob) (e7 e8 e9:Option Sl),ws.length<=cnt/\r=(rngL 0 ((cnt:Nat):Int).toNat).drop ws.length/\ws.map (λw=>hd1 w.1)=(List.range ws.length).map (λi=>some (97 + i))/\(∀w∈ws,WX many w)/\Room K (200 * (cnt - ws.length)) S'/\t=⟨[some (.val (sd)),some (.val (.obj K)),some (.val (.int many)),some (.own (gs.map GS.d)),some (.val (.int j)),some (.val (.str side)),some (.own (ws.map wdD)),e7,e8,e9],S'⟩) _ _ ⟨[],S5,_,_,_,un3 _,rfl,rfl,(λ_ z=>nomatch z),p5.mono (by simp;lia),rfl⟩ ?_ ?_
   ·rintro d q t ⟨ws,S',e7,e8,e9,hl,hq,hh,hw,p6,rfl⟩ _;obtain ⟨rfl,hq',hin⟩:=Gw hq;rw [ug4] at hin;rw [un1];obtain ⟨m,em⟩:∃m,cnt - ws.length=m + 1:=⟨cnt - ws.length - 1,by lia⟩;rw [em] at p6;replace p6:Room K (200 * m + 200) S':=p6;right;refine W_ix_str.mpr ⟨by decide +kernel,97 + ws.length,WY (by lia),?_⟩;right;refine ht.use (r:=200 * m + 199) 3 p6 λx S6 x0 x1 p7=>?_;obtain ⟨c,ec,ec'⟩:=WP x0 x1;refine W_ix_str.mpr ⟨by decide +kernel,c,ec,?_⟩;right;refine ht.use (r:=200 * m + 198) 8 p7 λy S7 y0 y1 p8=>?_;refine ao ⟨Ci (by lia) (by lia),?_,by rw [hL];show y<=(100000:Int);lia,by rw [hL];show 1<=_;decide⟩ ?_
    ·show 1 * _<=_;rw [hL];lia
    right;have hnl:=XT (n:=97 + ws.length) (m:=c) (k:=y) y1;refine BJ (by rw [SU,hL];show 1 + _<=_;lia) ?_;right;refine ht.use (r:=200 * m + 197) (many:Int) p8 (λu S8 u0 u1 p9=>?_) rfl (by lia) (by lia);right;refine ht.use (r:=200 * m + 196) 2 p9 λv S9 v0 v1 p10=>?_;obtain ⟨dd,ed,then_,rfl,h0,h1⟩:=Gq (xs:=[D.int u,D.int (if (j:Int) + 1 < (many:Int) - 1 then (j:Int) + 1 else (many:Int) - 1)]) v0 (by simpa using v1) (p:=λd=>∃m:Int,d = .int m/\0<=m/\m < many) (by
     simp only [ue2];exact ⟨⟨_,rfl,u0,u1⟩,⟨_,rfl,by split <;> lia,by split <;> lia⟩,λ_ z=>nomatch z⟩)
    refine A3 ed ?_;right;refine ht.use (r:=200 * m + 195) 3 p10 λdp S10 d0 d1 p11=>?_;obtain ⟨dq,rfl⟩:=uc2 d0;have hdq:dq < 3:=Int.ofNat_lt.mp d1;have hcs:cs dq<=130:=by
     have:dq=0\/dq=1\/dq=2:=by lia
     rcases this with rfl | rfl | rfl <;> decide
    right;refine hs.use (r:=200 * m) hdq (p11.mono (by lia)) λsh S11 g1 g2 p12=>?_;right;refine BJ (by rw [uj0,hL];lia) ?_;refine ⟨ws++[(⟨#[97 + ws.length]⟩++Txt.mul ⟨#[c]⟩ y,sh,then_)],S11,_,_,_,?_,?_,Vh hh ZF,HS hw ⟨⟨g2,by show sh.depth<=3;lia,h0,h1,hnl⟩,XS (by lia) ec' y1⟩,p12.mono (by rw [uf7,ud5];lia),bx (by rw [uk3];rfl)⟩
    ·rw [uf7,ud5];lia
    ·rw [uf7,ud5];exact hq'
   ·rintro t ⟨ws,S',e7,e8,e9,hl,hq,hh,hw,p6,rfl⟩;have hl':ws.length=cnt:=by
     have:=congrArg List.length hq;rw [uj9,uh7,CL,ug4] at this;lia
    right;refine BJ (by rw [uj0,hL];lia) ?_;exact ⟨rfl,grow (.st side ws) _ _ _ _ _ _ _ _ ⟨.st hside (by lia) (by lia) (ZE hh) λw h=>(hw w h).1,λw h=>(hw w h).2⟩ (λ_=>rfl)⟩
  right;refine Cg (λz=>?_) λz=>?_
  ·right;refine Cg (λy=>?_) λy=>?_
   ·exact (fin (by simpa using y)).mono λo t ⟨e,h⟩=>by subst e;exact h
   ·exact els.mono λo t ⟨e,h⟩=>by subst e;exact h
  ·exact els.mono λo t ⟨e,h⟩=>by subst e;exact h
 ·rintro t ⟨gs,S',e1,e4,e5,e6,e7,e8,e9,hj,hr,hg,hh0,rfl⟩;have hj':gs.length=many:=by
   have:=congrArg List.length hr;rw [uj9,uh7,CL,ug4] at this;lia
  right;exact ⟨gs,⟨by lia,by lia,by rw [hj'];exact λx h=>(hg x h).1⟩,⟨λx h=>(hg x h).2,hh0⟩,rfl⟩
def roT (S S':List Ob)(r:D):Rs->Prop
 | (t,h,a,b,none)=>∃T0 K,r = .tup [.obj T0,.int (h:Nat),.obj K]/\S'[T0]?=some (.lst t)/\S'[K]?=some (.dct (dP a b))/\S.length<=T0
 | (_,_,_,_,some (k,s))=>r = .exc "Broken" [.int (k:Nat),.str s]
theorem t9b {a4 a6:Option Sl}{x:D}(h:x=y):(⟨[a0,a1,a2,a3,a4,some (.val x),a6,e7,e8],S⟩:T)=⟨[a0,a1,a2,a3,a4,some (.val y),a6,e7,e8],S⟩:=by subst h;rfl
def JN (f:Fn):Prop:=∀(g:List GS) (wl wr:List Nat) (dl dr:D) (h a b W P:Nat) (S:List Ob),GOk g->Pl g wl wr h a b->wl.length<=25000->wr.length<=25000->Wir S dl wl->Wir S dr wr->S[W]?=some (.dct (lr dl dr))->S[P]?=some (.dct (dP a b))->
 Wf f [.lst (g.map GS.d),.int h,.obj W,.obj P] S λr S'=>Gr S S'/\roT S S' r (walkR g wl wr (wl.length + wr.length + 1) h a b [])
theorem M9 (hc:RL c):JN (fnOf 4 9 (EZ c)):=by
 intro g wl wr dl dr h a b W P S hg p hl1 hl2 hvl hvr hW hP;have hL:LIM=100000:=rfl;refine Aq rfl ?_;unfold EZ;symm;refine Y6 (AL hP) ?_;symm;generalize hR:walkR g wl wr (wl.length + wr.length + 1) h a b []=R;obtain ⟨K,hK⟩:∃K,K=(S++[Ob.lst []]).length:=⟨_,rfl⟩;have hKS:K=S.length + 1:=by rw [hK,uf7];rfl
 rw [<-hK];refine FZ (λn t=>∃(h' a' b':Nat) (tk:List D) (S':List Ob) (e7 e8:Option Sl),Pl g wl wr h' a' b'/\wl.length + wr.length + 1<=n + (a' + b')/\tk.length + n<=wl.length + wr.length + 1/\walkR g wl wr n h' a' b' tk=R/\Gr S S'/\S'[K]?=some (.dct (dP a' b'))/\S'[S.length]?=some (.lst tk)/\t=⟨[some (.val (.lst (g.map GS.d))),some (.val (.int h)),some (.val (.obj W)),some (.val (.obj P)),some (.val (.obj S.length)),some (.val (.int h')),some (.val (.obj K)),e7,e8],S'⟩) ?_ K9 (wl.length + wr.length + 1) _ ?_ ?_
 ·rintro n t ⟨h',a',b',tk,S',e7,e8,p',hn,ht,hR',hG,hK',hT',rfl⟩;have pa:=p'.a;have pb:=p'.b;obtain ⟨m,rfl⟩:∃m,n=m + 1:=Nat.exists_eq_add_of_le' (by lia);have hgs:=Eb hg p'.h;have hix:=ER p'.h;have hW':=hG.get hW;unfold walkR BM at hR'
  cases eg:Bv g h' with
  | fin=>
    rw [eg] at hix hR';rw [GS.d] at hix;symm;refine A3 hix ?_;symm;refine Za hW' ?_;rw [Sd];symm;show Dm _ _ Out.next _;symm;subst hR';exact ⟨rfl,hG,S.length,K,rfl,hT',hK',un2 _⟩
  | st side ws=>
    rw [eg] at hix hR' hgs;have hs:side=sL\/side=sR:=by cases hgs with | st hs1 _ _ _ _=>exact hs1
    have hix2:=hix;rw [GS.d] at hix2;symm;refine A3 hix2 ?_;symm;refine Za hW' ?_;rw [CO hs];symm;refine ⟨m,rfl,?_⟩;symm;refine A3 hix2 ?_;symm;refine A3 hix ?_;symm;refine Bj hW' (CO hs) ?_;symm;refine Bj hK' (CO hs) ?_;symm;have hon:(onS side (D.int (a':Int)) (D.int (b':Int))) = .int ((onS side a' b':Nat):Int):=by unfold onS;split <;> rfl
    have hon2:Wir S' (onS side dl dr) (onS side wl wr):=by unfold onS;split;exact hvl.gr hG;exact hvr.gr hG
    rw [hon];have hle:=QF (s:=side) pa pb;have hms:=hc S' (onS side dl dr) g.length side ws (onS side wl wr) (onS side a' b') hon2 hgs hle (by unfold onS;split <;> lia)
    unfold Ew at hms;dsimp only at hR';generalize hmr:Dj side ws (onS side wl wr) (onS side a' b')=mr at hms hR';obtain ⟨r0,c0⟩:=mr
    cases r0 with
    | short=>
      dsimp only at hms hR';refine hms.use ?_;symm;refine W_ret.mpr ?_;show Dm _ _ Out.next _;symm;subst hR';exact ⟨rfl,hG,S.length,K,rfl,hT',hK',un2 _⟩
    | broken k=>
      dsimp only at hms hR';refine hms.use ?_;symm;subst hR';exact ⟨hG,rfl⟩
    | told v e=>
      dsimp only at hms hR';have hst:BM g wl wr h' a' b' = .next (.tup [.str side,.str (ws.getD c0 (Str.ofString "",.nothing,0)).1,v]) (ws.getD c0 (Str.ofString "",.nothing,0)).2.2.toNat (onS side e a') (onS side b' e):=by
       unfold BM;rw [eg];dsimp only;rw [hmr]
      obtain ⟨p2,hlt⟩:=Fr hg p' hst;refine hms.use ?_;symm;refine UG (k:=S.length) ?_;symm;refine ⟨rfl,_,hT',?_⟩;symm;refine ⟨_,tk++[.tup [.str side,.str (ws.getD c0 (Str.ofString "",.nothing,0)).1,v]],hT',by simp only [Bx];rw [if_pos (by rw [hL];lia)],?_⟩;have hK2:=Ag (o:=.lst (tk++[.tup [.str side,.str (ws.getD c0 (Str.ofString "",.nothing,0)).1,v]])) hK' (by lia:S.length≠K);have hT2:=AC (o':=.lst (tk++[.tup [.str side,.str (ws.getD c0 (Str.ofString "",.nothing,0)).1,v]])) hT';have hG2:=hG.set (o:=.lst (tk++[.tup [.str side,.str (ws.getD c0 (Str.ofString "",.nothing,0)).1,v]])) (un2 _);generalize S'.set S.length (.lst (tk++[.tup [.str side,.str (ws.getD c0 (Str.ofString "",.nothing,0)).1,v]]))=S'' at hK2 hT2 hG2 ⊢;symm;refine Ba hK2 (by show 2 < 100000;decide) ?_;rw [Ju hs];have hwl:(0:Int)<=(ws.getD c0 (Str.ofString "",.nothing,0)).2.2:=by
       cases hgs with
       | st _ h2 _ _ h5=>
         cases hq:ws[c0]? with
         | none=>rw [ub0,hq];exact Int.le_refl _
         | some wd=>rw [ub0,hq];exact (h5 wd (ue1 hq)).lo
      have hd:lr (onS side (D.int (e:Int)) (D.int (a':Int))) (onS side (D.int (b':Int)) (D.int (e:Int)))=dP (onS side e a') (onS side b' e):=by unfold onS;split <;> rfl
      refine ⟨_,_,_,tk++[_],_,_,_,p2,by lia,by rw [uf7,ud5];lia,hR',hG2.set (by lia),(AC hK2).trans (congrArg (λl=>some (Ob.dct l)) hd),Ag hT2 (by lia),t9b (congrArg D.int (uf0 hwl).symm)⟩
 ·show _ < 1000000;lia
 ·exact ⟨h,a,b,[],_,none,none,p,by lia,by simp,hR,Gr.app.trans Gr.app,by rw [hK];exact Bc,AL Bc,rfl⟩
theorem aq {k:Nat}{xs0:List D}{g:M (List D)}(w:W f t λo t1=>o = .obj k/\(∃xs0,t1.S[k]?=some (.lst xs0))/\W g t1 λds t2=>ds=[.obj j]/\∃xs ys,t2.S[k]?=some (.lst xs)/\t2.S[j]?=some (.lst ys)/\xs.length + ys.length<=LIM/\P .non ⟨t2.env,t2.S.set k (.lst (xs++ys))⟩):W (objX f g) t P:=by
 refine Bl (w.mono λo t1 z=>?_);obtain ⟨rfl,⟨x0,e0⟩,ds,t2,e1,rfl,xs,ys,e2,e3,e4,p⟩:=z;refine ⟨_,_,?_,p⟩;simp only [e0,bnd,e1,e2,e3,if_pos e4]
def hrT (n0:Nat)(S S':List Ob)(k:Nat)(g:List GS)(vl vr:List Nat)(h a b W P l r:Nat)(q:D):Rs->Prop
 | (t,h',a',b',none)=>∃T0 P',q = .obj T0/\S'[T0]?=some (.lst t)/\S.length<=T0/\Rdr n0 S' k g vl vr h' a' b' W P' l r
 | (_,_,_,_,some (c,s))=>q = .exc "Broken" [.int (c:Nat),.str s]/\Rdr n0 S' k g vl vr h a b W P l r
def HC (f:Fn):Prop:=∀(n0:Nat) (S:List Ob) (k:Nat) (g:List GS) (vl vr x:List Nat) (h a b W P l r p0:Nat) (side:Str),S[p0]?=some (.lst (wD x))->p0≠onS side l r->GOk g->Pl g vl vr h a b->(onS side (vl++x) vl).length<=25000->(onS side vr (vr++x)).length<=25000->(side=sL\/side=sR)->Rdr n0 S k g vl vr h a b W P l r->
 Wf f [.obj k,.str side,.obj p0] S λq S'=>KpR k l r S S'/\hrT n0 S S' k g (onS side (vl++x) vl) (onS side vr (vr++x)) h a b W P l r q (walkR g (onS side (vl++x) vl) (onS side vr (vr++x)) (Fu (onS side (vl++x) vl) (onS side vr (vr++x))) h a b [])
theorem SK (hc:JN c):HC (fnOf 3 4 (Dw c)):=by
 intro n0 S k g vl vr x h a b W P l r p0 side hp0 hpn hg hp hw1 hw2 hs R;have hL:LIM=100000:=rfl;obtain ⟨hx,R1⟩:=R.ext (side:=side) x;have hp1:Pl g (onS side (vl++x) vl) (onS side vr (vr++x)) h a b:=by
  have:=hp.a;have:=hp.b;refine ⟨hp.h,?_,?_⟩ <;> (unfold onS;split <;> (try rw [uf7]) <;> lia)
 have hlw:(onS side vl vr).length + x.length<=50000:=by
  unfold onS at hw1 hw2 ⊢
  split
  ·next q=>rw [if_pos q,uf7] at hw1;lia
  ·next q=>rw [if_neg q,uf7] at hw2;lia
 refine Aq rfl ?_;unfold Dw;symm;refine aq (k:=onS side l r) (j:=p0) (xs0:=[]) ?_;symm;refine Dt R.k rfl ?_;symm;refine Bj R.w (CO hs) ?_;refine ⟨by unfold onS;split <;> rfl,⟨_,hx⟩,?_⟩
 symm;refine ⟨rfl,_,_,hx,hp0,by rw [BV,BV,hL];lia,?_⟩;have hlow:KpR k l r S (S.set (onS side l r) (.lst (wD (onS side vl vr)++wD x))):=⟨by rw [uj5];exact un2 _,λi _ _ h2 h3=>ue0 (by unfold onS;split;exact Ne.symm h2;exact Ne.symm h3)⟩
 generalize hS1:S.set (onS side l r) (.lst (wD (onS side vl vr)++wD x))=S1 at R1 hlow ⊢;generalize onS side (vl++x) vl=ul at *;generalize onS side vr (vr++x)=ur at *;symm;refine Dt R1.k rfl ?_;symm;refine Dt R1.k rfl ?_;symm;refine Dt R1.k rfl ?_;symm;refine Dt R1.k rfl ?_;symm;refine (hc g ul ur (.obj l) (.obj r) h a b W P S1 hg hp1 hw1 hw2 (.inr ⟨l,rfl,R1.l⟩) (.inr ⟨r,rfl,R1.r⟩) R1.w R1.p).mono λq S2 z9=>?_;obtain ⟨hG,hr⟩:=z9;have R2:=R1.gr hG;have hlow2:=hlow.gr hG;generalize walkR g ul ur (Fu ul ur) h a b []=Z at hr ⊢;obtain ⟨t,h',a',b',o⟩:=Z
 cases o with
 | none=>
   obtain ⟨T0,K,rfl,hT,hK,hTl⟩:=hr;have hlow0:=hlow.1;symm;refine Eg R2.k (by show 4 < 1000;decide) ?_;symm;refine Eg (AC R2.k) (by show 4 < 1000;decide) ?_;symm;refine ⟨rfl,hlow2.setk.setk,T0,K,rfl,Ag (Ag hT (Am R2.k hT (by simp))) (Am R2.k hT (by simp)),by lia,?_⟩;show Rdr n0 ((S2.set k (.ins "Reader" (rdF g h' W P))).set k (.ins "Reader" (rdF g h' W K))) k g ul ur h' a' b' W K l r;rw [List.set_set];exact R2.put hK
 | some z=>
   obtain ⟨cc,s⟩:=z;have hr:q = .exc "Broken" [.int cc,.str s]:=hr;subst hr;symm;exact ⟨hlow2,rfl,R2⟩
theorem Sq (hc:HC c):HC (fnOf 3 3 (Ep c)):=by
 intro n0 S k g vl vr x h a b W P l r p0 side hp0 hpn hg hp hl1 hl2 hs R;refine Aq rfl ?_;unfold Ep;symm;refine ⟨k,_,rfl,R.k,?_⟩;symm;refine (hc n0 S k g vl vr x h a b W P l r p0 side hp0 hpn hg hp hl1 hl2 hs R).mono λq S' z=>?_;symm;exact z
def fdT (n0:Nat)(S S':List Ob)(k:Nat)(g:List GS)(vl vr:List Nat)(h a b W P l r:Nat)(q:D):Rs->Prop
 | (t,h',a',b',none)=>∃T0 P',q = .lst [.obj T0,.non]/\S'[T0]?=some (.lst t)/\S.length<=T0/\Rdr n0 S' k g vl vr h' a' b' W P' l r
 | (_,_,_,_,some (c,s))=>q = .lst [.non,.tup [.int (c:Nat),.str s]]/\Rdr n0 S' k g vl vr h a b W P l r
def K1 (f:Fn):Prop:=∀(n0:Nat) (S:List Ob) (k:Nat) (g:List GS) (vl vr x:List Nat) (h a b W P l r p0:Nat) (side:Str),S[p0]?=some (.lst (wD x))->p0≠onS side l r->GOk g->Pl g vl vr h a b->(onS side (vl++x) vl).length<=25000->(onS side vr (vr++x)).length<=25000->(side=sL\/side=sR)->Rdr n0 S k g vl vr h a b W P l r->
 Wf f [.obj k,.str side,.obj p0] S λq S'=>KpR k l r S S'/\fdT n0 S S' k g (onS side (vl++x) vl) (onS side vr (vr++x)) h a b W P l r q (walkR g (onS side (vl++x) vl) (onS side vr (vr++x)) (Fu (onS side (vl++x) vl) (onS side vr (vr++x))) h a b [])
theorem SV (hc:HC c):K1 (fnOf 3 6 (Ec c)):=by
 intro n0 S k g vl vr x h a b W P l r p0 side hp0 hpn hg hp hl1 hl2 hs R;refine Aq rfl ?_;unfold Ec;symm;refine ⟨k,_,rfl,R.k,?_⟩;symm;refine (hc n0 S k g vl vr x h a b W P l r p0 side hp0 hpn hg hp hl1 hl2 hs R).mono λq S1 z9=>?_;obtain ⟨hK,hq⟩:=z9;generalize onS side (vl++x) vl=ul at *;generalize onS side vr (vr++x)=ur at *;generalize walkR g ul ur (Fu ul ur) h a b []=Z at hq ⊢;obtain ⟨t,h',a',b',o⟩:=Z
 cases o with
 | none=>
   obtain ⟨T0,P',rfl,hT,hTl,R'⟩:=hq;symm;exact ⟨hK,T0,P',rfl,hT,hTl,R'⟩
 | some z=>
   obtain ⟨cc,s⟩:=z;obtain ⟨rfl,R'⟩:=hq;symm;exact ⟨hK,rfl,R'⟩
variable {tst:M Bool}
theorem M5 {g:Gd}{st:D->M Unit}{P:List D->T->Prop}(h:Gon g t.S)(q:P [] t):W (compG g st tst elt []) t P:=by
 unfold compG;exact W_bnd.mpr ⟨_,_,PB h,W_ret.mpr q⟩
theorem Ly {g:Gd}{st:D->M Unit}{d:D}{r:List D}{P:List D->T->Prop}(h:Gon g t.S)(q:W (st d) t λ_ t1=>W tst t1 λk t2=>
 if k=true then W elt t2 λx t3=>W (compG g st tst elt r) t3 λxs t4=>P (x :: xs) t4 else W (compG g st tst elt r) t2 P):W (compG g st tst elt (d :: r)) t P:=by
 rw [compG];refine W_bnd.mpr ⟨_,_,PB h,W_bnd.mpr (q.mono λ_ t1 q=>W_bnd.mpr (q.mono λk t2 q=>?_))⟩
 split
 ·next hk=>
  rw [if_pos hk] at q;exact W_bnd.mpr (q.mono λx t3 q=>W_bnd.mpr (q.mono λxs t4 q=>W_ret.mpr q))
 ·next hk=>
  rw [if_neg hk] at q;exact q
theorem Y5 {fr:List Nat}{f:M (Gd×List D)}{st:D->M Unit}{P:List D->T->Prop}(h:W f t λp t1=>W (compG p.1 st tst elt p.2) ⟨cenv n fr t1.env,t1.S⟩ λxs t2=>Gn xs.length (P xs { t1 with S:=t2.S })):W (GV n fr f st tst elt) t P:=by
 refine W_bnd.mpr (h.mono λp t1 h=>?_);obtain ⟨xs,t2,e,l,q⟩:=h;refine ⟨xs,_,?_,q⟩;simp only [e,if_pos l]
theorem SI {k:Nat}(h:S[k]?=some (.lst xs)):Gon (some (k,xs)) S:=λ_ _ z=>by cases z;exact h
theorem b9 {P:Gd×List D->T->Prop}(h:W f t λd t1=>W (G0 d) t1 P):W (Oq f) t P:=W_bnd.mpr h
theorem ah {k:Nat}{P:Gd×List D->T->Prop}(e:t.S[k]?=some (.lst ds))(h:P (some (k,ds),ds) t):W (G0 (.obj k)) t P:=⟨_,_,by simp only [G0,e],h⟩
def Lo (f:Fn):Prop:=∀(g:List GS) (S:List Ob) (G:Nat),GOk g->S[G]?=some (.lst (g.map GS.d))->PureS S f [.obj G] (.lst (g.map GS.d))
theorem GY {c:Fn}(hc:HD c){gd:Gd}{S:List Ob}{n:Int}(hg:Gon gd S):∀(xs:List GS) (z:Option Sl),(∀x∈xs,GSOk n x)->W (compG gd (Ay 0) D4 (fIf (Ap (Ai c (Aa (Ab 0) Ad))) (Ab 0) (AR (Aa (Ac (Ab 0) (fC (.int 0)) ixD) (Aa (Av (fBF (Aa (Ac (Ab 0) (fC (.int 1)) ixD) Ad) Go)) Ad)))) (xs.map GS.d)) ⟨[z],S⟩ λds t'=>ds=xs.map GS.d/\t'.S=S
 | [],z,_=>M5 hg ⟨rfl,rfl⟩
 | x :: r,z,h=>by
   have hok:=h x uf3;rw [ul4];refine Ly hg ?_;refine IX ?_;symm;rw [if_pos rfl];symm;refine (hc _ x hok).use ?_
   cases x with
   | fin=>
     rw [GS.isFin];symm;exact (GY hc hg r _ λy m=>h y (ud8 _ m)).mono λds t' ⟨e1,e2⟩=>⟨by rw [e1],e2⟩
   | st side ws=>
     rw [show (GS.st side ws).isFin=false from rfl,GS.d];symm;exact (GY hc hg r _ λy m=>h y (ud8 _ m)).mono λds t' ⟨e1,e2⟩=>⟨by rw [e1],e2⟩
theorem P8 (hc:HD c):Lo (fnOf 1 1 (Di c)):=by
 intro g S G hg hG;have hL:LIM=100000:=rfl;refine Aq rfl ?_;unfold Di;symm;refine Y5 ?_;refine b9 ?_;symm;refine ah hG ?_;refine (GY hc (SI hG) g none hg.all).mono λxs t' z9=>?_;obtain ⟨e1,e2⟩:=z9;subst e1;have:=hg.le;refine BJ (by rw [uj0,hL];lia) ?_;symm;exact ⟨rfl,e2⟩
def N8 (f:Fn):Prop:=∀g:List GS,GOk g->Pure1 f [.lst (g.map GS.d)] (.lst (g.map GS.d))
theorem ST:N8 (fnOf 1 1 DY):=by
 intro g hg S;have hL:LIM=100000:=rfl;refine Aq rfl ?_;unfold DY;refine GA ?_;symm;refine (GJ (f:=id) (fr:=[]) (λd hd=>?_)).mono λxs t' ⟨e1,e2⟩=>?_
 ·obtain ⟨x,hx,rfl⟩:=um9.mp hd
  cases x with
  | fin=>
    rw [GS.d];symm;exact ⟨rfl,rfl⟩
  | st side ws=>
    rw [GS.d];symm;exact ⟨rfl,rfl⟩
 ·subst e1;rw [List.map_id];have:=hg.le;refine BJ (by rw [uj0,hL];lia) ?_;exact ⟨rfl,e2⟩
def N6 (f:Fn):Prop:=∀(S:List Ob) (k:Nat) (g:List GS) (G:Nat),GOk g->S[G]?=some (.lst (g.map GS.d))->S[k]?=some (.ins "Reader" [])->Wf f [.obj k,.obj G] S λq S'=>q = .non/\(∀i,i < S.length->i≠k->S'[i]?=S[i]?)/\S.length<=S'.length/\∃W P l r,Rdr k S' k g [] [] 0 0 0 W P l r
def Lp (f:Fn):Prop:=∀(S:List Ob) (k:Nat) (g:List GS) (G:Nat),GOk g->S[G]?=some (.lst (g.map GS.d))->S[k]?=some (.ins "Reader" [])->Wf f [.obj k,.obj G,.tup [.str sL,.str sR]] S λq S'=>q = .non/\(∀i,i < S.length->i≠k->S'[i]?=S[i]?)/\S.length<=S'.length/\∃W P l r,Rdr k S' k g [] [] 0 0 0 W P l r
theorem Qb (hc:Lo c):Lp (fnOf 3 4 (DV c)):=by
 intro S k g G hg hG hk;have hkl:=A0 hk;refine Aq rfl ?_;unfold DV;symm;refine (hc g S G hg hG).use ?_;symm;refine Eg hk (by show 0 < 1000;decide) ?_;have k1:Kp k S (S.set k (.ins "Reader" [("grammar",.lst (g.map GS.d))])):=Kp.refl.setk;have g1:(S.set k (.ins "Reader" [("grammar",.lst (g.map GS.d))]))[k]?=some (.ins "Reader" [("grammar",.lst (g.map GS.d))]):=AC hk;show Dm _ _ Out.next ⟨_,S.set k (.ins "Reader" [("grammar",.lst (g.map GS.d))])⟩;generalize S.set k (.ins "Reader" [("grammar",.lst (g.map GS.d))])=S1 at k1 g1 ⊢;symm;refine Eg g1 (by show 1 < 1000;decide) ?_;have k2:Kp k S (S1.set k (.ins "Reader" [("grammar",.lst (g.map GS.d)),("standing",.int (0:Nat))])):=k1.setk;have g2:(S1.set k (.ins "Reader" [("grammar",.lst (g.map GS.d)),("standing",.int (0:Nat))]))[k]?=some (.ins "Reader" [("grammar",.lst (g.map GS.d)),("standing",.int (0:Nat))]):=AC g1;show Dm _ _ Out.next ⟨_,S1.set k (.ins "Reader" [("grammar",.lst (g.map GS.d)),("standing",.int (0:Nat))])⟩;generalize S1.set k (.ins "Reader" [("grammar",.lst (g.map GS.d)),("standing",.int (0:Nat))])=S2 at k2 g2 ⊢;symm;refine Eg (AL g2) (by show 2 < 1000;decide) ?_;obtain ⟨W,hW⟩:∃W,W=S2.length:=⟨_,rfl⟩;have w3:((S2++[Ob.dct []]).set k (.ins "Reader" [("grammar",.lst (g.map GS.d)),("standing",.int (0:Nat)),("wires",.obj W)]))[W]?=some (.dct []):=by rw [hW];exact Ag Bc (um3 (A0 g2))
 have k3:Kp k S ((S2++[Ob.dct []]).set k (.ins "Reader" [("grammar",.lst (g.map GS.d)),("standing",.int (0:Nat)),("wires",.obj W)])):=k2.app.setk;have g3:((S2++[Ob.dct []]).set k (.ins "Reader" [("grammar",.lst (g.map GS.d)),("standing",.int (0:Nat)),("wires",.obj W)]))[k]?=some (.ins "Reader" [("grammar",.lst (g.map GS.d)),("standing",.int (0:Nat)),("wires",.obj W)]):=AC (AL g2);have hSW:S.length<=W:=by rw [hW];exact k2.1
 show Dm _ _ Out.next ⟨_,(S2++[Ob.dct []]).set k (.ins "Reader" [("grammar",.lst (g.map GS.d)),("standing",.int (0:Nat)),("wires",.obj S2.length)])⟩;rw [<-hW];generalize (S2++[Ob.dct []]).set k (.ins "Reader" [("grammar",.lst (g.map GS.d)),("standing",.int (0:Nat)),("wires",.obj W)])=S3 at w3 k3 g3 ⊢;symm;refine Eg (AL g3) (by show 3 < 1000;decide) ?_;obtain ⟨P,hP⟩:∃P,P=S3.length:=⟨_,rfl⟩;have w4:((S3++[Ob.dct []]).set k (.ins "Reader" (rdF g 0 W P)))[W]?=some (.dct []):=Ag (AL w3) (Am g3 w3 (by simp));have p4:((S3++[Ob.dct []]).set k (.ins "Reader" (rdF g 0 W P)))[P]?=some (.dct []):=by rw [hP];exact Ag Bc (um3 (A0 g3))
 have k4:Kp k S ((S3++[Ob.dct []]).set k (.ins "Reader" (rdF g 0 W P))):=k3.app.setk;have g4:((S3++[Ob.dct []]).set k (.ins "Reader" (rdF g 0 W P)))[k]?=some (.ins "Reader" (rdF g 0 W P)):=AC (AL g3);have hWP:W < P:=by rw [hP];exact A0 w3
 show Dm _ _ Out.next ⟨_,(S3++[Ob.dct []]).set k (.ins "Reader" (rdF g 0 W S3.length))⟩;rw [<-hP];generalize (S3++[Ob.dct []]).set k (.ins "Reader" (rdF g 0 W P))=S4 at w4 p4 k4 g4 ⊢;symm;have hWk:W≠k:=λe=>by subst e;lia
 have hPk:P≠k:=λe=>by subst e;lia
 refine W_forL_cons.mpr ?_;symm;refine Dt (AL g4) rfl ?_;symm;refine Ba (AL w4) (by show 0 < 100000;decide) ?_;obtain ⟨l,hl⟩:∃l,l=S4.length:=⟨_,rfl⟩;have hlk:k < l:=by rw [hl];exact A0 g4
 have hlW:W < l:=by rw [hl];exact A0 w4
 have hlP:P < l:=by rw [hl];exact A0 p4
 have k5:Kp k S ((S4++[Ob.lst []]).set W (.dct [(kL,.obj l)])):=k4.app.set hSW;have g5:((S4++[Ob.lst []]).set W (.dct [(kL,.obj l)]))[k]?=some (.ins "Reader" (rdF g 0 W P)):=Ag (AL g4) hWk;have w5:((S4++[Ob.lst []]).set W (.dct [(kL,.obj l)]))[W]?=some (.dct [(kL,.obj l)]):=AC (AL w4);have p5:((S4++[Ob.lst []]).set W (.dct [(kL,.obj l)]))[P]?=some (.dct []):=Ag (AL p4) (by lia);have l5:((S4++[Ob.lst []]).set W (.dct [(kL,.obj l)]))[l]?=some (.lst []):=by rw [hl];exact Ag Bc (by lia)
 have n5:((S4++[Ob.lst []]).set W (.dct [(kL,.obj l)])).length=l + 1:=by rw [uj5,uf7,hl];rfl
 show Dm _ _ Out.next ⟨_,(S4++[Ob.lst []]).set W (.dct [(kL,.obj S4.length)])⟩;rw [<-hl];generalize (S4++[Ob.lst []]).set W (.dct [(kL,.obj l)])=S5 at k5 g5 w5 p5 l5 n5 ⊢;symm;refine Dt g5 rfl ?_;symm;refine Ba p5 (by show 0 < 100000;decide) ?_;have k6:Kp k S (S5.set P (.dct [(kL,.int (0:Nat))])):=k5.set (by lia);have g6:(S5.set P (.dct [(kL,.int (0:Nat))]))[k]?=some (.ins "Reader" (rdF g 0 W P)):=Ag g5 hPk;have w6:(S5.set P (.dct [(kL,.int (0:Nat))]))[W]?=some (.dct [(kL,.obj l)]):=Ag w5 (by lia);have p6:(S5.set P (.dct [(kL,.int (0:Nat))]))[P]?=some (.dct [(kL,.int (0:Nat))]):=AC p5;have l6:(S5.set P (.dct [(kL,.int (0:Nat))]))[l]?=some (.lst []):=Ag l5 (by lia);have n6:(S5.set P (.dct [(kL,.int (0:Nat))])).length=l + 1:=by rw [uj5];exact n5
 show F2.W (Cn _ _ _) ⟨_,S5.set P (.dct [(kL,.int (0:Nat))])⟩ _;generalize S5.set P (.dct [(kL,.int (0:Nat))])=S6 at k6 g6 w6 p6 l6 n6 ⊢;refine W_forL_cons.mpr ?_;symm;refine Dt (AL g6) rfl ?_;symm;refine Ba (AL w6) (by show 1 < 100000;decide) ?_;have k7:Kp k S ((S6++[Ob.lst []]).set W (.dct (lr (.obj l) (.obj (l + 1))))):=k6.app.set hSW;have g7:((S6++[Ob.lst []]).set W (.dct (lr (.obj l) (.obj (l + 1)))))[k]?=some (.ins "Reader" (rdF g 0 W P)):=Ag (AL g6) hWk;have w7:((S6++[Ob.lst []]).set W (.dct (lr (.obj l) (.obj (l + 1)))))[W]?=some (.dct (lr (.obj l) (.obj (l + 1)))):=AC (AL w6);have p7:((S6++[Ob.lst []]).set W (.dct (lr (.obj l) (.obj (l + 1)))))[P]?=some (.dct [(kL,.int (0:Nat))]):=Ag (AL p6) (by lia);have l7:((S6++[Ob.lst []]).set W (.dct (lr (.obj l) (.obj (l + 1)))))[l]?=some (.lst []):=Ag (AL l6) (by lia);have r7:((S6++[Ob.lst []]).set W (.dct (lr (.obj l) (.obj (l + 1)))))[l + 1]?=some (.lst []):=by rw [<-n6];exact Ag Bc (by lia)
 have hput:A7 [(kL,D.obj l)] (.inr sR) (.obj S6.length)=lr (.obj l) (.obj (l + 1)):=by rw [n6];rfl
 rw [hput];generalize (S6++[Ob.lst []]).set W (.dct (lr (.obj l) (.obj (l + 1))))=S7 at k7 g7 w7 p7 l7 r7 ⊢;symm;refine Dt g7 rfl ?_;symm;refine Ba p7 (by show 1 < 100000;decide) ?_;show F2.W (Cn _ _ []) ⟨_,S7.set P (.dct (dP 0 0))⟩ _;refine W_forL_nil.mpr ?_;refine ⟨rfl,λi h n=>(k7.set (by lia)).2 i h n,(k7.set (by lia)).1,W,P,l,l + 1,?_⟩;exact ⟨un2 _,by lia,by lia,by lia,Ag g7 hPk,Ag w7 (by lia),AC p7,Ag l7 (by lia),Ag r7 (by lia)⟩
theorem SO (hc:Lp c):N6 (fnOf 2 2 (DW c)):=by
 intro S k g G hg hG hk;refine Aq rfl ?_;unfold DW;symm;refine (hc S k g G hg hG hk).mono λq S' z9=>?_;obtain ⟨e,h1,h2,h3⟩:=z9;symm;exact ⟨rfl,h1,h2,h3⟩
theorem cU {k:Nat}{g:List D->M Unit}(e:t.S[k]?=some (.lst ds))(hn:ds.length=n)(h:W (g ds) t U):W (unO n g (.obj k)) t U:=by
 obtain ⟨u,t',e',p⟩:=h;exact ⟨u,t',by simp only [unO,e,if_pos hn,e'],p⟩
variable {Q:List D->T->Prop}
theorem cL {l u:M (Option Int)}(h:W f t λd t1=>W l t1 λa t2=>W u t2 λb t3=>W (slF d a b) t3 Q):W (Os f l u) t Q:=Bl (h.mono λ_ _ h=>Bl (h.mono λ_ _ h=>Bl h))
theorem aA {lo hi:Option Int}(h:Q (Bn ds lo hi) t):W (slF (.lst ds) lo hi) t Q:=⟨_,_,rfl,h⟩
theorem Y2 {g:M D}{h:D->D->M (List D)}(w:W f t λx t1=>W g t1 λy t2=>W (h x y) t2 Q):W (bnd f λx=>bnd g λy=>h x y) t Q:=Bl (w.mono λ_ _ w=>Bl w)
theorem ac {k:Nat}(e:t.S[k]?=some (.lst xs))(l:xs.length + ys.length<=LIM)(h:Q (xs++ys) t):W (LR (.obj k) (.lst ys)) t Q:=⟨_,_,by simp only [LR,CK,e,lim,if_pos l],h⟩
theorem Y3 {k:Nat}(e:t.S[k]?=some (.lst ys))(l:xs.length + ys.length<=LIM)(h:Q (xs++ys) t):W (HI (.lst xs) (.obj k)) t Q:=⟨_,_,by simp only [HI,CK,e,lim,if_pos l],h⟩
theorem T3 {k:Nat}(w:W f t λo t1=>o = .obj k/\t1.S[k]?=some (.lst xs)/\P .non ⟨t1.env,t1.S.set k (.lst [])⟩):W (IL f) t P:=by
 refine Bl (w.mono λo t1 z=>?_);obtain ⟨rfl,e,p⟩:=z;exact ⟨_,_,by simp only [e],p⟩
abbrev onD (k:Nat)(g:List GS)(L E n:Nat):List D:=[.lst (g.map GS.d),.obj k,.obj L,.obj E,.int (n:Nat)]
def rcl (g:List GS)(O k l r L E:Nat)(xl xr vl vr:List Nat)(n h a b W P:Nat):List (Nat×Ob):=BK g vl vr k h a b W P l r++[(O,.lst (onD k g L E n)),(L,.dct (dW xl xr)),(E,.dct (dW vl vr))]
theorem TV (h0:0<=i)(h1:i < 2):∃s:Str,atI [D.str (Str.ofString "left"),.str (Str.ofString "right")] i=some (.str s)/\(s=sL\/s=sR):=by
 have:i=0\/i=1:=by lia
 rcases this with rfl | rfl
 ·exact ⟨_,rfl,.inl rfl⟩
 ·exact ⟨_,rfl,.inr rfl⟩
theorem ON {l r:List Nat}:onS s (D.lst (wD l)) (.lst (wD r)) = .lst (wD (onS s l r)):=by unfold onS;split <;> rfl
def K2 (f:Fn):Prop:=∀(F0:List (Nat×Ob)) (g:List GS) (O k l r L E:Nat) (xl xr vl vr:List Nat) (tk:List D) (h a b W P m R n0:Nat) (S:List Ob),GOk g->Rch g vl vr tk h a b->vl.length + xl.length < 24500->vr.length + xr.length < 24500->[O,k,l,r,L,E].Nodup->(∀q∈F0,q.1∉[O,k,l,r,L,E])->Rdr n0 S k g vl vr h a b W P l r->RoomF (rcl g O k l r L E xl xr vl vr tk.length h a b W P++F0) m (R + 3) S->
 Wf f [.obj O,.obj m] S λx S'=>x = .bl true/\∃(xl' xr' vl' vr':List Nat) (tk':List D) (h' a' b' P':Nat),Rch g vl' vr' tk' h' a' b'/\vl'.length + xl'.length<=vl.length + xl.length + 1/\vr'.length + xr'.length<=vr.length + xr.length + 1/\Rdr n0 S' k g vl' vr' h' a' b' W P' l r/\FAll (rcl g O k l r L E xl' xr' vl' vr' tk'.length h' a' b' W P'++F0) S'
def nv:Nat->D->Bool
 | _,.non=>true
 | _,.int _=>true
 | _,.str _=>true
 | n + 1,.lst xs=>xs.all (nv n)
 | n + 1,.tup xs=>xs.all (nv n)
 | _,_=>false
theorem Hi:nv n (.str x)=true:=by cases n <;> rfl
theorem My {x:Int}:nv n (.int x)=true:=by cases n <;> rfl
theorem Jx:nv n .non=true:=by cases n <;> rfl
theorem Hj (h:∀x∈xs,nv n x=true):nv (n + 1) (.tup xs)=true:=by rw [nv,ui2];exact h
theorem Hh (h:∀x∈xs,nv n x=true):nv (n + 1) (.lst xs)=true:=by rw [nv,ui2];exact h
theorem HU:∀(n:Nat) (v:D),nv n v=true->nv (n + 1) v=true
 | 0,v,h=>by cases v <;> first | rfl | (simp [nv] at h;done)
 | n + 1,v,h=>by
   cases v <;> first | rfl | (simp [nv] at h;done) | skip
   ·rw [nv,ui2] at h;exact Hj λd hd=>HU n d (h d hd)
   ·rw [nv,ui2] at h;exact Hh λd hd=>HU n d (h d hd)
theorem QC {n:Nat}{v:D}(h:nv n v=true):∀m,nv (n + m) v=true
 | 0=>h
 | m + 1=>HU _ _ (QC h m)
theorem NN:∀{xs:List D},(∀x∈xs,Bi x=true)->Gu xs=true
 | [],_=>rfl
 | x :: r,h=>by rw [Gu,h x uf3,NN λy m=>h y (ud8 _ m)];rfl
theorem NM:∀(n:Nat) (v:D),nv n v=true->Bi v=true
 | 0,v,h=>by cases v <;> first | rfl | (simp [nv] at h;done)
 | n + 1,v,h=>by
   cases v <;> first | rfl | (simp [nv] at h;done) | skip
   all_goals
    rw [nv,ui2] at h;rw [Bi];exact NN λx hx=>NM n x (h x hx)
theorem OY:∀(n:Nat) (v:D),nv n v=true->Rq n v
 | 0,v,h=>by cases v <;> first | exact Q8 | exact JB | exact Q9 | (simp [nv] at h;done)
 | n + 1,v,h=>by
   cases v <;> first | exact Q8 | exact JB | exact Q9 | (simp [nv] at h;done) | skip
   ·rw [nv,ui2] at h;exact Ra λx hx=>OY n x (h x hx)
   ·rw [nv,ui2] at h;exact YH λx hx=>OY n x (h x hx)
theorem Ht {S:List Ob}:∀(n:Nat) (v:D),nv n v=true->BT S n v=v
 | 0,v,h=>by cases v <;> first | rfl | (simp [nv] at h;done)
 | n + 1,v,h=>by
   cases v <;> first | rfl | (simp [nv] at h;done) | skip
   all_goals
    rw [nv,ui2] at h;rw [BT]
    congr 1
    rw [ue9 λx hx=>Ht n x (h x hx),List.map_id']
theorem Y9 {g:Bool->Bool}{x d:D}(hx:BT t.S 16 x=d)(hy:BT t.S 16 y=d)(hn:nv 16 d=true)(h:P (.bl (g true)) t):W (eqO g x y) t P:=
 ⟨_,_,by unfold eqO;rw [hx,hy,NM 16 d hn,OY 16 d hn EQD (by decide)];rfl,h⟩
abbrev Nv (n:Nat)(d:D):Prop:=nv n d=true
theorem N1 {k M:Nat}{lo:Int}:∀r x:Nat,(Hn lo M r x).tells (Nv k)
 | 0,x=>My
 | r + 1,x=>λb=>N1 r _
theorem N2 {k:Nat}:∀(n:Nat) (cs:List Nat),(IN n cs).tells (Nv k)
 | 0,cs=>Hi
 | n + 1,cs=>λc=>N2 n _
theorem N0 {k:Nat}{p:Rd}(hp:p.tells (Nv k)):∀(n:Nat) (ds:List D),(∀d∈ds,Nv k d)->(Hm p n ds).tells (Nv (k + 1))
 | 0,ds,h=>Hh h
 | n + 1,ds,h=>Ft (λv hv=>N0 hp n _ λd hd=>(ui8.mp hd).elim (h d) λz=>by rw [uf9.mp z];exact hv) p hp
theorem Hy:∀(n:Nat) (s:Sh),(pSh n s).tells (Nv n)
 | 0,_=>Jx
 | n + 1,.nothing=>Jx
 | n + 1,.number lo hi=>N1 _ _
 | n + 1,.text q=>λb=>N2 _ _
 | n + 1,.list s q=>λb=>N0 (Hy n s) b [] (λ_ z=>nomatch z)
 | n + 1,.pair s r=>Ft (P:=Nv n) (Q:=Nv (n + 1)) (k:=λv=>(pSh n r).bnd λu=>.done (.tup [v,u])) (λv hv=>Ft (P:=Nv n) (Q:=Nv (n + 1)) (k:=λu=>.done (.tup [v,u])) (λu hu=>show Nv (n + 1) (.tup [v,u]) from Hj (JO hv hu)) _ (Hy n r)) _ (Hy n s)
 | n + 1,.choice ss=>λb=>Ft (P:=Nv n) (Q:=Nv (n + 1)) (k:=λv=>.done (.tup [.str "of",.int b,v])) (λv hv=>show Nv (n + 1) (.tup [.str "of",.int b,v]) from Hj (WZ Hi My hv)) _ (Hy n _)
theorem Wz {m:D}{h' a' b':Nat}(e:BM g wl wr h a b = .next m h' a' b'):Nv 5 m:=by
 unfold BM at e
 cases eg:Bv g h with
 | fin=>rw [eg] at e;cases e
 | st side ws=>
   rw [eg] at e;dsimp only at e;unfold Dj at e
   cases hb:(onS side wl wr)[onS side a b]? with
   | none=>rw [hb] at e;cases e
   | some c=>
     rw [hb] at e;dsimp only at e
     cases hw:ws[c]? with
     | none=>rw [hw] at e;cases e
     | some wd=>
       rw [hw] at e;dsimp only at e
       cases er:(pSh 3 wd.2.1).run (onS side wl wr) (onS side a b + 1) with
       | short=>rw [er] at e;cases e
       | broken k=>rw [er] at e;cases e
       | told v x=>
         rw [er] at e;injection e with e1 e2 e3 e4
         rw [<-e1];exact Hj (n:=4) (WZ Hi Hi (HU _ _ (Rc (P:=Nv 3) _ _ (Hy 3 _) er)))
theorem N4 {g:List GS}{wl wr:List Nat}:∀(f h a b:Nat) (t:List D),(∀x∈t,Nv 5 x)->∀x∈(walkR g wl wr f h a b t).1,Nv 5 x
 | 0,h,a,b,t,ht=>ht
 | f + 1,h,a,b,t,ht=>by
   unfold walkR
   cases e:BM g wl wr h a b with
   | stop=>exact ht
   | brk k s=>exact ht
   | next m h' a' b'=>
     refine N4 f h' a' b' _ λx hx=>?_;rcases ui8.mp hx with hx | hx
     ·exact ht x hx
     ·rw [uf9.mp hx];exact Wz e
def FE (Du DP Fw EM:Fn):M Out:=
 (Af (By (fSl (Ac (Ab 4) (Ab 7) AN) (DS (Ab 8)) fNo Dn) (Ck (Ab 4) (Ab 7)))
 (Af (By (Av (bnd (Ac (Ab 5) (Ab 7) AN) λx=>bnd (Ab 9) λy=>HI x y)) (Ck (Ab 5) (Ab 7)))
 (Af (By (Ai EM (Aa (Ab 2) (Aa (Ab 5) Ad))) (unS 4 (AF (Ay 10) (AF (Ay 11) (AF (Ay 12) (AF (Ay 13) CP))))))
 (Af (Aw 14 (Ai Fw (Aa (Ab 3) (Aa (Ab 7) (Aa (Ab 9) Ad)))))
 (Af (Db (IL (Ab 9)))
 (Af (ifS (Ap (Ac (Ab 13) (fC .non) ET))
   (Ao (Ac (Ab 14) (Av (AI (Aa (fC .non) (Aa (Ab 13) Ad)))) (eqO id)))
   Au)
 (Af (ifS (fOr (Ap (Ac (Ab 14) (Av (AI (Aa (fSl (Ab 10) (DS (Ab 6)) fNo Dn) (Aa (fC .non) Ad)))) (eqO λb=>!b))) (Ap (Ac (BX "Reader" DP (Ab 3) (ret [])) (Ab 11) (eqS λb=>!b))))
   (Ao (fC (.bl false)))
   Au)
 (Af (Db (objM Bx (Ac (Ab 14) (fC (.int 0)) ixD) (Aa (fC .non) Ad)))
 (Af (By (fB (Aa (Ab 10) Ad) AQ) (stD (Ab 0) (fC (.int 4))))
 (Ao (Ac (BX "Reader" Du (Ab 3) (ret [])) (AR (Aa (Ac (fB (Aa (Ac (Ab 5) (fC (.str "left")) AN) Ad) AQ) (Ac (Ab 12) (fC (.str "left")) AN) BB) (Aa (Ac (fB (Aa (Ac (Ab 5) (fC (.str "right")) AN) Ad) AQ) (Ac (Ab 12) (fC (.str "right")) AN) BB) Ad))) (eqS id))))))))))))
section
variable {n0:Nat}{S:List Ob}{k:Nat}{g:List GS}{vl vr:List Nat}{h a b W P l r j:Nat}{o:Ob}
theorem Rdr.setW {x y:List Nat}(R:Rdr n0 S k g vl vr h a b W P l r)(e:S[j]?=some (.dct (dW x y))):Rdr n0 (S.set j o) k g vl vr h a b W P l r:=
 ⟨R.k0,R.l0,R.r0,R.ne,Ag R.k (Am e R.k (by simp)),Ag R.w (Am e R.w (by simp)),Ag R.p (Am e R.p (by simp)),Ag R.l (Am e R.l (by simp)),Ag R.r (Am e R.r (by simp))⟩
theorem Rdr.setL {d:List D}(R:Rdr n0 S k g vl vr h a b W P l r)(e:S[j]?=some (.lst d))(n1:j≠l)(n2:j≠r):Rdr n0 (S.set j o) k g vl vr h a b W P l r:=
 ⟨R.k0,R.l0,R.r0,R.ne,Ag R.k (Am e R.k (by simp)),Ag R.w (Am e R.w (by simp)),Ag R.p (Am e R.p (by simp)),Ag R.l n1,Ag R.r n2⟩
theorem KpR.dct {S1:List Ob}{d:List (Key×D)}(R:Rdr n0 S k g vl vr h a b W P l r)(K:KpR k l r S S1)(e:S[j]?=some (.dct d)):S1[j]?=some (.dct d):=
 K.get e (Am e R.k (by simp)) (Am e R.l (by simp)) (Am e R.r (by simp))
end
theorem PF {l r x:List Nat}(h:s=sL\/s=sR):A7 (dW l r) (.inr s) (.lst (wD x))=dW (onS s x l) (onS s r x):=by
 rw [Ju h];unfold onS
 split <;> rfl
theorem aB {k:Nat}{j:Int}{d:D}(e:t.S[k]?=some (.lst xs))(hn:ixN xs.length j=some n)(h:U () ⟨t.env,t.S.set k (.lst (xs.set n d))⟩):F2.W (Ks (.obj k) (.int j) d) t U:=⟨(),_,by simp only [Ks,e,hn];rfl,h⟩
theorem UO:Bn (xs++ys) (some (xs.length:Int)) none=ys:=by
 unfold Bn;rw [HT.Kq,HT.IT,Nat.min_eq_left (by rw [uf7];lia),List.drop_left',uc9 (by rw [uf7];lia)];rfl
def aN (F0:List (Nat×Ob))(pp:Nat)(fp:List Nat):Prop:=∀q∈F0,q.1∉fp/\q.1≠pp
theorem Ru (hf:K1 cf)(hw:K3 cw){F0:List (Nat×Ob)}{g:List GS}{O k l r L E:Nat}{xl xr vl vr y:List Nat}{tk:List D}{h a b W P m n n0 pp:Nat}{S:List Ob}{side:Str}(hg:GOk g)(hch:Rch g vl vr tk h a b)(hs:side=sL\/side=sR)
 (hb1:(onS side (vl++y) vl).length<=24600) (hb2:(onS side vr (vr++y)).length<=24600) (hnd:[O,k,l,r,L,E].Nodup) (hst:aN F0 pp [O,k,l,r,L,E]) (hpp:pp∉[O,k,l,r,L,E]) (Q:Rdr n0 S k g vl vr h a b W P l r) (hO:S[O]?=some (.lst (onD k g L E tk.length))) (hL0:S[L]?=some (.dct (dW xl xr))) (hE0:S[E]?=some (.dct (dW vl vr))) (hp0:S[pp]?=some (.lst (wD y))) (hF:FAll F0 S) :
 F2.W (FE (fnOf 1 1 (BG (fnOf 2 2 A1))) (fnOf 1 1 BO) cf cw) ⟨[some (.val (.obj O)),some (.val (.obj m)),some (.val (.lst (g.map GS.d))),some (.val (.obj k)),some (.val (.obj L)),some (.val (.obj E)),some (.val (.int (tk.length:Nat))),some (.val (.str side)),some (.val (.int (n:Nat))),some (.val (.obj pp)),none,none,none,none,none],S⟩ λo t=>o = .ret (.bl true)/\∃(tk':List D) (h' a' b' P':Nat),Rch g (onS side (vl++y) vl) (onS side vr (vr++y)) tk' h' a' b'/\Rdr n0 t.S k g (onS side (vl++y) vl) (onS side vr (vr++y)) h' a' b' W P' l r/\t.S[O]?=some (.lst (onD k g L E tk'.length))/\t.S[L]?=some (.dct (dW (onS side (xl.drop n) xl) (onS side xr (xr.drop n))))/\t.S[E]?=some (.dct (dW (onS side (vl++y) vl) (onS side vr (vr++y))))/\FAll F0 t.S:=by
 have hL:LIM=100000:=rfl;simp only [uj3,ul3,ui3,or_false,not_or,ul0,and_true] at hnd hpp;obtain ⟨⟨o1,o2,o3,o4,o5⟩,⟨k1,k2,k3,k4⟩,⟨l1,l2,l3⟩,⟨r1,r2⟩,l5,_⟩:=hnd;obtain ⟨q1,q2,q3,q4,q5,q6⟩:=hpp;have hSt:∀q∈F0,(q.1≠O/\q.1≠k/\q.1≠l/\q.1≠r/\q.1≠L/\q.1≠E)/\q.1≠pp:=λq hq=>by
  have:=hst q hq;simpa only [ul3,ui3,or_false,not_or] using this
 unfold FE;symm;refine Bj hL0 (CO hs) ?_;rw [ON];symm;rw [W9];symm;refine Ba hL0 (by show 2 < 100000;decide) ?_;rw [PF hs];have eX:onS side ((onS side xl xr).drop n) xl=onS side (xl.drop n) xl:=by unfold onS;split <;> rfl
 have eY:onS side xr ((onS side xl xr).drop n)=onS side xr (xr.drop n):=by unfold onS;split <;> rfl
 rw [eX,eY];have Q1:=Q.setW (o:=.dct (dW (onS side (xl.drop n) xl) (onS side xr (xr.drop n)))) hL0;have O1:=Ag (o:=.dct (dW (onS side (xl.drop n) xl) (onS side xr (xr.drop n)))) hO (Ne.symm o4);have L1:=AC (o':=.dct (dW (onS side (xl.drop n) xl) (onS side xr (xr.drop n)))) hL0;have E1:=Ag (o:=.dct (dW (onS side (xl.drop n) xl) (onS side xr (xr.drop n)))) hE0 l5;have p1:=Ag (o:=.dct (dW (onS side (xl.drop n) xl) (onS side xr (xr.drop n)))) hp0 (Ne.symm q5);have F1:FAll F0 (S.set L (.dct (dW (onS side (xl.drop n) xl) (onS side xr (xr.drop n))))):=λq hq=>Ag (hF q hq) (Ne.symm (hSt q hq).1.2.2.2.2.1);generalize S.set L (.dct (dW (onS side (xl.drop n) xl) (onS side xr (xr.drop n))))=S1 at Q1 O1 L1 E1 p1 F1 ⊢;have hvl:(onS side vl vr).length + y.length<=50000:=by
  unfold onS at hb1 hb2 ⊢
  split
  ·next q=>rw [if_pos q,uf7] at hb1;lia
  ·next q=>rw [if_neg q,uf7] at hb2;lia
 symm;refine Bj E1 (CO hs) ?_;rw [ON];symm;refine Y3 p1 (by rw [BV,BV,hL];lia) ?_;symm;refine Ba E1 (by show 2 < 100000;decide) ?_;rw [<-HA,PF hs];have eV:onS side (onS side vl vr++y) vl=onS side (vl++y) vl:=by unfold onS;split <;> rfl
 have eU:onS side vr (onS side vl vr++y)=onS side vr (vr++y):=by unfold onS;split <;> rfl
 rw [eV,eU];have Q2:=Q1.setW (o:=.dct (dW (onS side (vl++y) vl) (onS side vr (vr++y)))) E1;have O2:=Ag (o:=.dct (dW (onS side (vl++y) vl) (onS side vr (vr++y)))) O1 (Ne.symm o5);have L2:=Ag (o:=.dct (dW (onS side (vl++y) vl) (onS side vr (vr++y)))) L1 (Ne.symm l5);have E2:=AC (o':=.dct (dW (onS side (vl++y) vl) (onS side vr (vr++y)))) E1;have p2:=Ag (o:=.dct (dW (onS side (vl++y) vl) (onS side vr (vr++y)))) p1 (Ne.symm q6);have F2':FAll F0 (S1.set E (.dct (dW (onS side (vl++y) vl) (onS side vr (vr++y))))):=λq hq=>Ag (F1 q hq) (Ne.symm (hSt q hq).1.2.2.2.2.2);generalize S1.set E (.dct (dW (onS side (vl++y) vl) (onS side vr (vr++y))))=S2 at Q2 O2 L2 E2 p2 F2' ⊢;have hch2:Rch g (onS side (vl++y) vl) (onS side vr (vr++y)) tk h a b:=by
  rw [bt,bu hs];exact hch.more _ _
 have hall:=hch2.all;symm;refine (hw g _ _ E S2 hg (by lia) (by lia) E2).mono ?_;rintro q3' S3 ⟨G3,hr⟩;have Q3:=Q2.gr G3;have O3:=G3.get O2;have L3:=G3.get L2;have E3:=G3.get E2;have p3:=G3.get p2;have F3:=G3.all F2';have hall':walkR g (onS side (vl++y) vl) (onS side vr (vr++y)) ((onS side (vl++y) vl).length + (onS side vr (vr++y)).length + 1) 0 0 0 []=_:=hall;rw [hall'] at hr;have hnvt:=N4 (g:=g) (wl:=onS side (vl++y) vl) (wr:=onS side vr (vr++y)) (Fu (onS side (vl++y) vl) (onS side vr (vr++y))) h a b [] (λ_ z=>nomatch z);have hfd:=hf n0 S3 k g vl vr y h a b W P l r pp side p3 (by unfold onS;split;exact q3;exact q4) hg hch.1 (by lia) (by lia) hs Q3
 generalize hul:onS side (vl++y) vl=ul at *;generalize hur:onS side vr (vr++y)=ur at *;generalize hZ:walkR g ul ur (Fu ul ur) h a b []=Z at *;obtain ⟨t,h',a',b',o⟩:=Z;obtain ⟨K,rfl,hK⟩:=hr;symm;refine hfd.mono ?_;rintro fq S4 ⟨K4,hfq⟩;have O4:=K4.get O3 o1 o2 o3;have L4:=KpR.dct Q3 K4 L3;have E4:=KpR.dct Q3 K4 E3;have G4:=KpR.dct Q3 K4 hK;have p4:=K4.get p3 q2 q3 q4;have F4':FAll F0 S4:=λq hq=>K4.get (F3 q hq) (hSt q hq).1.2.1 (hSt q hq).1.2.2.1 (hSt q hq).1.2.2.2.1
 cases o with
 | some z=>
   obtain ⟨c,s⟩:=z;obtain ⟨rfl,Q4⟩:=hfq;symm;refine T3 (k:=pp) (xs:=wD y) ?_;symm;refine ⟨rfl,p4,?_⟩;symm;have hn:nv 16 (.lst [.non,.tup [.int (c:Int),.str s]])=true:=Hh (JO Jx (Hj (JO My Hi)));refine Y9 (Ht 16 _ hn) (Ht 16 _ hn) hn ?_;symm;exact ⟨rfl,tk,h,a,b,P,hch2,Q4.setL p4 q3 q4,Ag O4 q1,Ag L4 (Am p4 L4 (by simp)),Ag E4 (Am p4 E4 (by simp)),λq hq=>Ag (F4' q hq) (Ne.symm (hSt q hq).2)⟩
 | none=>
   obtain ⟨T0,P',rfl,hT,hTl,Q4⟩:=hfq;symm;refine T3 (k:=pp) (xs:=wD y) ?_;symm;refine ⟨rfl,p4,?_⟩;have hTp:pp≠T0:=by have:=A0 p3;lia
   have Q5:=Q4.setL (o:=.lst []) p4 q3 q4;have O5:=Ag (o:=.lst []) O4 q1;have L5:=Ag (o:=.lst []) L4 (Am p4 L4 (by simp));have E5:=Ag (o:=.lst []) E4 (Am p4 E4 (by simp));have G5:=Ag (o:=.lst []) G4 (Am p4 G4 (by simp));have T5:=Ag (o:=.lst []) hT hTp;have F5:FAll F0 (S4.set pp (.lst [])):=λq hq=>Ag (F4' q hq) (Ne.symm (hSt q hq).2);generalize S4.set pp (.lst [])=S5 at Q5 O5 L5 E5 G5 T5 F5 ⊢;have hne:∀{j:Nat} {o:Ob},S3[j]?=some o->T0≠j:=λe=>by have:=A0 e;lia
   have hnt:∀x∈t,nv 14 x=true:=λx hx=>QC (hnvt x hx) 9;have hn:nv 16 (.lst [.lst t,.non])=true:=Hh (JO (Hh hnt) Jx);symm;rw [UO];refine Y9 (d:=.lst [.lst t,.non]) ?_ (Ht 16 _ hn) hn ?_
   ·have e1:BT S5 15 (.obj T0) = .lst t:=by
     unfold BT;rw [show (S5[T0]? : Option Ob)=_ from T5];dsimp only;rw [ue9 λx hx=>Ht 14 x (hnt x hx),List.map_id']
    show BT S5 16 (.lst [.obj T0,.non])=_;rw [BT,ul4,ul4,um8,e1];rfl
   symm;refine ⟨k,_,rfl,Q5.k,W_ret.mpr ?_⟩;refine (Rb Q5).use ?_;symm;refine EV (by simp) ?_;symm;refine UG (k:=T0) ?_;symm;refine ⟨rfl,_,T5,?_⟩;symm;have hwl:=M4 g ul ur (Fu ul ur) h a b [];rw [hZ] at hwl;have hfu:Fu ul ur<=60000:=by show ul.length + ur.length + 1<=60000;lia
   refine ⟨_,t++[.non],T5,by simp only [Bx];rw [if_pos (by rw [hL];have hv2:t.length<=0+Fu ul ur:=hwl;lia)],?_⟩;have Q6:=Q5.setL (o:=.lst (t++[.non])) T5 (hne Q3.l) (hne Q3.r);have O6:=Ag (o:=.lst (t++[.non])) O5 (hne O3);have L6:=Ag (o:=.lst (t++[.non])) L5 (hne L3);have E6:=Ag (o:=.lst (t++[.non])) E5 (hne E3);have G6:=Ag (o:=.lst (t++[.non])) G5 (hne hK);have F6:FAll F0 (S5.set T0 (.lst (t++[.non]))):=λq hq=>Ag (F5 q hq) (hne (F3 q hq));generalize S5.set T0 (.lst (t++[.non]))=S6 at Q6 O6 L6 E6 G6 F6 ⊢;symm;refine aB (n:=4) O6 rfl ?_;have Q7:=Q6.setL (o:=.lst (onD k g L E (tk++t).length)) O6 o2 o3;have O7:=AC (o':=.lst (onD k g L E (tk++t).length)) O6;have L7:=Ag (o:=.lst (onD k g L E (tk++t).length)) L6 o4;have E7:=Ag (o:=.lst (onD k g L E (tk++t).length)) E6 o5;have G7:=Ag (o:=.lst (onD k g L E (tk++t).length)) G6 (Am O6 G6 (by simp));have F7:FAll F0 (S6.set O (.lst (onD k g L E (tk++t).length))):=λq hq=>Ag (F6 q hq) (Ne.symm (hSt q hq).1.1);show Dm _ _ Out.next ⟨_,S6.set O (.lst (onD k g L E (tk++t).length))⟩;generalize S6.set O (.lst (onD k g L E (tk++t).length))=S7 at Q7 O7 L7 E7 G7 F7 ⊢;symm;refine ⟨k,_,rfl,Q7.k,W_ret.mpr ?_⟩;refine (Rw Q7).use ?_;symm;refine Bj E7 Kf ?_;symm;refine Bj G7 Kf ?_;symm;refine Bj E7 Kg ?_;symm;refine Bj G7 Kg ?_;symm;rw [BV,BV];refine WI rfl (Ra (n:=0) (JO JB JB) EQD (by decide)) ?_;exact ⟨rfl,tk++t,h',a',b',P',hch2.step hg hZ,Q7,O7,L7,E7,F7⟩
theorem NR {F0:List (Nat×Ob)}{O k L E:Nat}{xl xr:List Nat}{W P:Nat}(Q:Rdr n0 S k g vl vr h a b W P l r)(hO:S[O]?=some (.lst (onD k g L E n)))(hL:S[L]?=some (.dct (dW xl xr)))(hE:S[E]?=some (.dct (dW vl vr)))(hF:FAll F0 S):FAll (rcl g O k l r L E xl xr vl vr n h a b W P++F0) S:=by
 intro q hq;unfold rcl BK at hq;simp only [ui8,ul3,ui3,or_false] at hq;rcases hq with ((rfl | rfl | rfl | rfl | rfl) | rfl | rfl | rfl) | hq
 ·exact Q.k
 ·exact Q.w
 ·exact Q.p
 ·exact Q.l
 ·exact Q.r
 ·exact hO
 ·exact hL
 ·exact hE
 ·exact hF q hq
set_option maxHeartbeats 9000000 in
theorem Ta (hf:K1 cf)(hw:K3 cw)(ht:∀F,PTakeF F ct):K2 (fnOf 2 15 (EX (fnOf 1 1 (BG (fnOf 2 2 A1))) (fnOf 1 1 BO) cf cw ct)):=by
 intro F0 g O k l r L E xl xr vl vr tk h a b W P m R n0 S hg hch hb1 hb2 hnd hF0 Q p;have hL:LIM=100000:=rfl;have mO:(O,Ob.lst (onD k g L E tk.length))∈rcl g O k l r L E xl xr vl vr tk.length h a b W P++F0:=by simp [rcl]
 have mL:(L,Ob.dct (dW xl xr))∈rcl g O k l r L E xl xr vl vr tk.length h a b W P++F0:=by simp [rcl]
 have mE:(E,Ob.dct (dW vl vr))∈rcl g O k l r L E xl xr vl vr tk.length h a b W P++F0:=by simp [rcl]
 have m0:∀q∈F0,q∈rcl g O k l r L E xl xr vl vr tk.length h a b W P++F0:=λq hq=>ud1 _ hq;have mR:∀q∈BK g vl vr k h a b W P l r,q∈rcl g O k l r L E xl xr vl vr tk.length h a b W P++F0:=λq hq=>ud9 _ (ud9 _ hq);generalize rcl g O k l r L E xl xr vl vr tk.length h a b W P++F0=F at p mO mL mE m0 mR;refine Aq rfl ?_;unfold EX;symm;refine cU (p.2.all _ mO) rfl ?_;symm;refine (ht F).use (r:=R + 2) 2 p λi S1 i0 i1 p1=>?_;symm;obtain ⟨side,hside,hs⟩:=TV i0 i1;refine A3 hside ?_;symm;refine (ht F).use (r:=R + 1) 12 p1 λj S2 j0 j1 p2=>?_;obtain ⟨n,rfl⟩:=uc2 j0;symm;refine cL ?_;symm;refine Bj (p2.2.all _ mL) (CO hs) ?_;rw [ON];symm;refine aA ?_;rw [W8];have p3:=p2.more (o:=.lst (wD ((onS side xl xr).take n)));symm;refine (ht ((S2.length,.lst (wD ((onS side xl xr).take n))) :: F)).use (r:=R) 9 p3 λc S4 c0 c1 p4=>?_;have hlt:∀q∈F,q.1 < S2.length:=λq hq=>A0 (p2.2.all q hq);have hge:S2.length < S4.length:=A0 (p4.2.all _ uf3);have hx1:((onS side xl xr).take n).length<=(onS side xl xr).length:=by rw [uh6];lia
 have fin:∀(S5:List Ob) (y:List Nat) (pp:Nat) (e10:Unit),(∀q∈F,S5[q.1]?=some q.2)->S5[pp]?=some (.lst (wD y))->S2.length<=pp->y.length<=((onS side xl xr).take n).length + 1->
  F2.W (FE (fnOf 1 1 (BG (fnOf 2 2 A1))) (fnOf 1 1 BO) cf cw) ⟨[some (.val (.obj O)),some (.val (.obj m)),some (.val (.lst (g.map GS.d))),some (.val (.obj k)),some (.val (.obj L)),some (.val (.obj E)),some (.val (.int (tk.length:Nat))),some (.val (.str side)),some (.val (.int (n:Nat))),some (.val (.obj pp)),none,none,none,none,none],S5⟩ λo t=>o = .ret (.bl true)/\∃(xl' xr' vl' vr':List Nat) (tk':List D) (h' a' b' P':Nat),Rch g vl' vr' tk' h' a' b'/\vl'.length + xl'.length<=vl.length + xl.length + 1/\vr'.length + xr'.length<=vr.length + xr.length + 1/\Rdr n0 t.S k g vl' vr' h' a' b' W P' l r/\FAll (rcl g O k l r L E xl' xr' vl' vr' tk'.length h' a' b' W P'++F0) t.S:=by
  intro S5 y pp _ h5 hpp hple hyl;have hlen:(onS side (vl++y) vl).length + (onS side (xl.drop n) xl).length<=vl.length + xl.length + 1/\(onS side vr (vr++y)).length + (onS side xr (xr.drop n)).length<=vr.length + xr.length + 1:=by
   unfold onS at hyl ⊢
   split
   ·next q=>rw [if_pos q,uh6] at hyl;rw [uf7,uh7];lia
   ·next q=>rw [if_neg q,uh6] at hyl;rw [uf7,uh7];lia
  have Q5:Rdr n0 S5 k g vl vr h a b W P l r:=⟨Q.k0,Q.l0,Q.r0,Q.ne,h5 (_,_) (mR _ (by simp [BK])),h5 (_,_) (mR _ (by simp [BK])),h5 (_,_) (mR _ (by simp [BK])),h5 (_,_) (mR _ (by simp [BK])),h5 (_,_) (mR _ (by simp [BK]))⟩;have lk:=hlt (k,Ob.ins "Reader" (rdF g h W P)) (mR _ (by simp [BK]));have ll:=hlt (l,Ob.lst (wD vl)) (mR _ (by simp [BK]));have lr':=hlt (r,Ob.lst (wD vr)) (mR _ (by simp [BK]));have lO:=hlt _ mO;have lL:=hlt _ mL;have lE:=hlt _ mE;refine (Ru hf hw (F0:=F0) hg hch hs (by lia) (by lia) hnd (λq hq=>⟨hF0 q hq,λe=>by have:=hlt q (m0 q hq);lia⟩) (by
   simp only [ul3,ui3,or_false,not_or];dsimp only at lk ll lr' lO lL lE;exact ⟨by lia,by lia,by lia,by lia,by lia,by lia⟩) Q5 (h5 _ mO) (h5 _ mL) (h5 _ mE) hpp (λq hq=>h5 q (m0 q hq))).mono ?_
  rintro o t ⟨rfl,tk',h',a',b',P',c1,c2,c3,c4,c5,c6⟩;exact ⟨rfl,_,_,_,_,tk',h',a',b',P',c1,hlen.1,hlen.2,c2,NR c2 c3 c4 c5 c6⟩
 unfold FE at fin
 symm;refine Cg (λu=>?_) λu=>?_
 ·symm;refine ac (p4.2.all _ uf3) (by rw [BV,hL];show _ + 1<=_;unfold onS at hx1 ⊢;split <;> (rw [uh6];lia)) ?_
  refine Ct ?_;refine (fin (S4++[Ob.lst (wD ((onS side xl xr).take n)++[.int 255])]) ((onS side xl xr).take n++[255]) S4.length () (λq hq=>AL (p4.2.all q (ud8 _ hq))) (by rw [HA];exact Bc) (by lia) (by rw [uf7];exact un2 _)).mono ?_;rintro o t ⟨rfl,z⟩;exact ⟨rfl,z⟩
 ·refine UH (Ct ?_);refine (fin S4 ((onS side xl xr).take n) S2.length () (λq hq=>p4.2.all q (ud8 _ hq)) (p4.2.all _ uf3) (un2 _) (by lia)).mono ?_;rintro o t ⟨rfl,z⟩;exact ⟨rfl,z⟩
def HE (F:List (Nat×Ob))(f:Fn):Prop:=∀(sd:D) (n0 k:Nat) (S:List Ob),Scr sd n0->k<=1000->FAll F S->Wf f [sd,.int k] S λr S'=>∃n,r = .obj n/\RoomF F n 900000000000000000000000000000 S'
theorem VZ (hc:IZ cc):HE F (fnOf 2 3 (Cb cc)):=by
 intro sd n0 k S hsd hk hF;obtain ⟨c,hc⟩:=hc sd n0 k hsd hk;refine Aq rfl ?_;unfold Cb;right;refine hc.use ?_;right;refine JG ?_;refine Be ?_;right;refine Be ?_;right;refine Be ?_;right;refine Ii (FP (by decide) (by decide)) ?_;right;refine En ?_;refine ⟨Bc,by show 3<=15;decide,S.length,rfl,?_⟩;exact ⟨⟨c,3 + 5 * (k:Int),_,(AC Bc).trans (congrArg (λl=>some (Ob.dct l)) MD),by lia,by lia⟩,FrO.set (FrO.new hF)⟩
def JL (F:List (Nat×Ob))(M:Nat)(f:Fn):Prop:=∀(sd:D) (n0:Nat) (g:List GS) (S:List Ob),Scr sd n0->GOk g->FAll F S->Wf f [sd,.lst (g.map GS.d),.int 14,.int (M:Int)] S λr S'=>FAll F S'/\∃mv:List Mv,TOk g mv/\r = .lst [.lst (BH g 0 mv),.lst (Dg g 0 mv)]
theorem OR {M:Nat}(hM:M<=63){cv ct cp:Fn}(hv:K5 F cv 3)(ht:PTakeF F ct)(hp:HE F cp):JL F M (fnOf 4 14 (DZ cv ct cp)):=by
 intro sd n0 g S hsd hg hF;have hL:LIM=100000:=rfl;refine Aq rfl ?_;unfold DZ;right;refine Ih hsd ?_;right;have hN:(if (M:Int) < (n0:Int) then (M:Int) else (n0:Int))<=63/\0<=(if (M:Int) < (n0:Int) then (M:Int) else (n0:Int)):=by split <;> lia
 generalize (if (M:Int) < (n0:Int) then (M:Int) else (n0:Int))=N at hN ⊢;refine T9 (by rw [Ci (by lia) (by lia),Ci (by lia) (by lia)];rfl) ?_;have hlen:(rngL 14 (N - 14).toNat).length<=49:=by rw [CL];lia
 have hmem:∀d∈rngL 14 (N - 14).toNat,∃k:Nat,d = .int k/\k<=1000:=λd hd=>by
  rw [Ia] at hd;obtain ⟨i,hi,rfl⟩:=um9.mp hd;have:=uk6.mp hi;exact ⟨14 + i,by congr 1,by lia⟩
 generalize rngL 14 (N - 14).toNat=ds at hlen hmem ⊢;refine Cu (λr t=>∃(mv:List Mv) (st:List D) (S':List Ob) (e7 e8 e9 e10 e11 e12 e13:Option Sl),FAll F S'/\mv.length + r.length<=49/\okQ g 0 mv/\okB g 0 mv/\st=Dg g 0 mv/\t=⟨[some (.val (sd)),some (.val (.lst (g.map GS.d))),some (.val (.int 14)),some (.val (.int (M:Int))),some (.own (BH g 0 mv)),some (.val (.int (lastQ g 0 mv))),some (.own st),e7,e8,e9,e10,e11,e12,e13],S'⟩) _ _ ⟨[],[.int 0],S,none,none,none,none,none,none,none,hF,by rw [uj9];lia,trivial,trivial,rfl,rfl⟩ ?_ ?_
 ·rintro d r t ⟨mv,st,S',e7,e8,e9,e10,e11,e12,e13,hF',hl,hk,hb,hst,rfl⟩ hd;obtain ⟨k,rfl,hk1⟩:=hmem d hd;rw [uh4] at hl;have hlt:=ND hg hg.ne hk;right;refine (hp sd n0 k S' hsd hk1 hF').mono λr1 S1 z9=>?_;obtain ⟨K,e,p1⟩:=z9;subst e;refine Ct ?_;right;refine A3 (ER hlt) ?_;right;refine Rz ?_;right;refine Cg (λq=>?_) λq=>?_
  ·have hnf:¬(Bv g (lastQ g 0 mv)).isFin=true:=by simpa using q
   have hgs:=Eb hg hlt;obtain ⟨side,ws,egs⟩:∃side ws,Bv g (lastQ g 0 mv) = .st side ws:=by
    cases e:Bv g (lastQ g 0 mv) with
    | fin=>rw [e] at hnf;simp [GS.isFin] at hnf
    | st side ws=>exact ⟨side,ws,rfl⟩
   have hws:(Bv g (lastQ g 0 mv)).ws=ws:=by rw [egs];rfl
   have hside:(Bv g (lastQ g 0 mv)).side=side:=by rw [egs];rfl
   have hpos:0 < ws.length/\ws.length<=9:=by
    rw [egs] at hgs
    cases hgs with
    | st _ h2 h3 _ _=>exact ⟨h2,h3⟩
   right;refine A3 (ER hlt) ?_;rw [egs,GS.d];right;rw [uj0];refine ht.use (r:=1000) (ws.length:Int) (p1.mono (by decide)) (λi S2 i0 i1 p2=>?_) rfl (by lia) (by lia);obtain ⟨p,rfl⟩:=uc2 i0;have hpl:p < (Bv g (lastQ g 0 mv)).ws.length:=by rw [hws];exact Int.ofNat_lt.mp i1
   obtain ⟨side',ws',egs',_,ew⟩:=Lj hpl;rw [egs] at egs'
   cases egs'
   have hw:=Pj hg hlt hpl;have hlo:=hw.lo;refine A3 (Fk ew) ?_;unfold wdD;right;refine (hv _ K 0 S2 hw.dep hw.ok (p2.mono (by decide))).mono λx S3 z9=>?_;obtain ⟨x1,x2,x3⟩:=z9;right;refine BJ (by rw [DJ,hL];lia) ?_;right;refine BJ (by rw [hst,Iv,hL];lia) ?_;refine ⟨mv++[(p,x)],st++[.int (wdAt g (lastQ g 0 mv) p).2.2],S3,_,_,_,_,_,_,_,x3.2.all,?_,?_,?_,?_,t14 ?_ ?_ rfl⟩
   ·rw [uf7,ud5];lia
   ·rw [Kh];exact ⟨hk,⟨hlt,hpl,x1⟩,trivial⟩
   ·rw [HV];exact ⟨hb,x2,trivial⟩
   ·rw [Hw,hst];unfold CW
    congr 2
    congr 1
    lia
   ·rw [KL];show _=_++[IG g (lastQ g 0 mv) p _];unfold IG;rw [hside]
   ·rw [G2];show _=D.int (CW g (lastQ g 0 mv) p:Nat);unfold CW
    congr 1
    lia
  ·right;exact ⟨mv,st,_,_,_,_,_,_,_,_,p1.2.all,by lia,hk,hb,hst,rfl⟩
 ·rintro t ⟨mv,st,S',e7,e8,e9,e10,e11,e12,e13,hF',hl,hk,hb,hst,rfl⟩;right;exact ⟨hF',mv,⟨hk,hb,by rw [uj9] at hl;lia⟩,by rw [hst]⟩
structure Rec where
 g:List GS
 O:Nat
 k:Nat
 l:Nat
 r:Nat
 L:Nat
 E:Nat
 xl:List Nat
 xr:List Nat
 vl:List Nat
 vr:List Nat
 tk:List D
 h:Nat
 a:Nat
 b:Nat
 W:Nat
 P:Nat
def Rec.fp (c:Rec):List Nat:=[c.O,c.k,c.l,c.r,c.L,c.E]
def Rec.cl (c:Rec):List (Nat×Ob):=rcl c.g c.O c.k c.l c.r c.L c.E c.xl c.xr c.vl c.vr c.tk.length c.h c.a c.b c.W c.P
structure Rec.ok (n:Nat)(c:Rec):Prop where
 g:GOk c.g
 ch:Rch c.g c.vl c.vr c.tk c.h c.a c.b
 b1:c.vl.length + c.xl.length<=n
 b2:c.vr.length + c.xr.length<=n
 nd:c.fp.Nodup
theorem Rec.rdr {c:Rec}(h:FAll c.cl S)(nd:c.fp.Nodup):Rdr 0 S c.k c.g c.vl c.vr c.h c.a c.b c.W c.P c.l c.r:=by
 unfold Rec.fp at nd;simp only [uj3,ul3,ui3,or_false,not_or,ul0,and_true] at nd;exact ⟨un3 _,un3 _,un3 _,nd.2.2.1.1,h (_,_) (by simp [Rec.cl,rcl,BK]),h (_,_) (by simp [Rec.cl,rcl,BK]),h (_,_) (by simp [Rec.cl,rcl,BK]),h (_,_) (by simp [Rec.cl,rcl,BK]),h (_,_) (by simp [Rec.cl,rcl,BK])⟩
theorem Rec.out {c d:Rec}(hc:FAll c.cl S)(hd:FAll d.cl S)(dis:∀x∈d.fp,x∉c.fp):∀q∈d.cl,q.1∉c.fp:=by
 have c1:S[c.k]?=some (.ins "Reader" (rdF c.g c.h c.W c.P)):=hc (_,_) (by simp [Rec.cl,rcl,BK]);have c2:S[c.l]?=some (.lst (wD c.vl)):=hc (_,_) (by simp [Rec.cl,rcl,BK]);have c3:S[c.r]?=some (.lst (wD c.vr)):=hc (_,_) (by simp [Rec.cl,rcl,BK]);have c4:S[c.O]?=some (.lst (onD c.k c.g c.L c.E c.tk.length)):=hc (_,_) (by simp [Rec.cl,rcl]);have c5:S[c.L]?=some (.dct (dW c.xl c.xr)):=hc (_,_) (by simp [Rec.cl,rcl]);have c6:S[c.E]?=some (.dct (dW c.vl c.vr)):=hc (_,_) (by simp [Rec.cl,rcl]);have d1:S[d.W]?=some (.dct (lr (.obj d.l) (.obj d.r))):=hd (_,_) (by simp [Rec.cl,rcl,BK]);have d2:S[d.P]?=some (.dct (dP d.a d.b)):=hd (_,_) (by simp [Rec.cl,rcl,BK]);have o1:d.W∉c.fp:=by
  unfold Rec.fp;simp only [ul3,ui3,or_false,not_or];exact ⟨Am d1 c4 (by simp),Am d1 c1 (by simp),Am d1 c2 (by simp),Am d1 c3 (by simp),Am d1 c5 (by simp),Am d1 c6 (by simp)⟩
 have o2:d.P∉c.fp:=by
  unfold Rec.fp;simp only [ul3,ui3,or_false,not_or];exact ⟨Am d2 c4 (by simp),Am d2 c1 (by simp),Am d2 c2 (by simp),Am d2 c3 (by simp),Am d2 c5 (by simp),Am d2 c6 (by simp)⟩
 intro q hq;unfold Rec.cl rcl BK at hq;simp only [ui8,ul3,ui3,or_false] at hq;rcases hq with (rfl | rfl | rfl | rfl | rfl) | rfl | rfl | rfl
 ·exact dis _ (by simp [Rec.fp])
 ·exact o1
 ·exact o2
 ·exact dis _ (by simp [Rec.fp])
 ·exact dis _ (by simp [Rec.fp])
 ·exact dis _ (by simp [Rec.fp])
 ·exact dis _ (by simp [Rec.fp])
 ·exact dis _ (by simp [Rec.fp])
theorem RoomF.sub {F':List (Nat×Ob)}{k:Nat}(h:RoomF F k r S)(e:∀p∈F',p∈F):RoomF F' k r S:=⟨h.1,λp hp=>h.2 p (e p hp)⟩
structure Recs (S:List Ob)(n:Nat)(cs:List Rec):Prop where
 ok:∀c∈cs,c.ok n
 cl:∀c∈cs,FAll c.cl S
 nd:cs.Pairwise λc d=>∀x∈d.fp,x∉c.fp
theorem Recs.gr {cs:List Rec}(h:Recs S n cs)(e:∀c∈cs,FAll c.cl S'):Recs S' n cs:=⟨h.ok,e,h.nd⟩
def Recs.all (cs:List Rec):List (Nat×Ob):=(cs.map Rec.cl).flatten
theorem recs_all {cs:List Rec}:FAll (Recs.all cs) S↔∀c∈cs,FAll c.cl S:=by
 unfold Recs.all FAll;constructor
 ·intro h c hc p hp;exact h p (ui6.mpr ⟨_,um9.mpr ⟨c,hc,rfl⟩,hp⟩)
 ·intro h p hp;obtain ⟨l,hl,hp⟩:=ui6.mp hp;obtain ⟨c,hc,rfl⟩:=um9.mp hl;exact h c hc p hp
theorem QZ {f:Fn}(hf:K2 f){cs ds:List Rec}{c:Rec}{S:List Ob}{n m:Nat}(h:Recs S n (cs++c :: ds))(hn:n < 24500)(p:RoomF (Recs.all (cs++c :: ds)) m 100 S):Wf f [.obj c.O,.obj m] S λx S'=>x = .bl true/\∃c':Rec,c'.O=c.O/\Recs S' (n + 1) (cs++c' :: ds):=by
 have hc:=h.ok c (by simp);have hcc:=h.cl c (by simp);have hnd:=h.nd;rw [ue3,List.pairwise_cons] at hnd;have hb1:=hc.b1;have hb2:=hc.b2;have swz:∀{x y:Rec},(∀z∈y.fp,z∉x.fp)->∀z∈x.fp,z∉y.fp:=λ{x y} e z hz hy=>e z hy hz;have hout:∀d∈cs++ds,∀x∈d.fp,x∉c.fp:=λd hd=>by
  rcases ui8.mp hd with hd | hd
  ·exact swz (hnd.2.2 d hd c uf3)
  ·exact hnd.2.1.1 d hd
 have hmem:∀d∈cs++ds,d∈cs++c :: ds:=λd hd=>by
  rcases ui8.mp hd with hd | hd
  ·exact ud9 _ hd
  ·exact ud1 _ (ud8 _ hd)
 refine (hf (Recs.all (cs++ds)) c.g c.O c.k c.l c.r c.L c.E c.xl c.xr c.vl c.vr c.tk c.h c.a c.b c.W c.P m 97 0 S hc.g hc.ch (by lia) (by lia) hc.nd (λq hq=>?_) (Rec.rdr hcc hc.nd) (p.sub λq hq=>?_)).mono ?_
 ·obtain ⟨l,hl,hq⟩:=ui6.mp hq;obtain ⟨d,hd,rfl⟩:=um9.mp hl;exact Rec.out hcc (h.cl d (hmem d hd)) (hout d hd) q hq
 ·rcases ui8.mp hq with hq | hq
  ·exact ui6.mpr ⟨_,um9.mpr ⟨c,by simp,rfl⟩,hq⟩
  ·obtain ⟨l,hl,hq⟩:=ui6.mp hq;obtain ⟨d,hd,rfl⟩:=um9.mp hl;exact ui6.mpr ⟨_,um9.mpr ⟨d,hmem d hd,rfl⟩,hq⟩
 ·rintro x S' ⟨rfl,xl',xr',vl',vr',tk',h',a',b',P',k1,k2,k3,k4,k5⟩;refine ⟨rfl,{ c with xl:=xl',xr:=xr',vl:=vl',vr:=vr',tk:=tk',h:=h',a:=a',b:=b',P:=P' },rfl,⟨λd hd=>?_,λd hd=>?_,?_⟩⟩
  ·rcases ui8.mp hd with hd | hd
   ·have:=h.ok d (ud9 _ hd);exact ⟨this.g,this.ch,uh0 this.b1,uh0 this.b2,this.nd⟩
   ·rcases ul3.mp hd with rfl | hd
    ·exact ⟨hc.g,k1,by show vl'.length + xl'.length<=_;lia,by show vr'.length + xr'.length<=_;lia,hc.nd⟩
    ·have:=h.ok d (ud1 _ (ud8 _ hd));exact ⟨this.g,this.ch,uh0 this.b1,uh0 this.b2,this.nd⟩
  ·have k6:FAll (Recs.all (cs++ds)) S':=λq hq=>k5 q (ud1 _ hq);rcases ui8.mp hd with hd | hd
   ·exact recs_all.mp k6 d (ud9 _ hd)
   ·rcases ul3.mp hd with rfl | hd
    ·exact λq hq=>k5 q (ud9 _ hq)
    ·exact recs_all.mp k6 d (ud1 _ hd)
  ·rw [ue3,List.pairwise_cons];exact ⟨hnd.1,⟨hnd.2.1.1,hnd.2.1.2⟩,λx hx y hy=>by
    rcases ul3.mp hy with rfl | hy
    ·exact hnd.2.2 x hx c uf3
    ·exact hnd.2.2 x hx y (ud8 _ hy)⟩
theorem Kp.gr1 (K:Kp S.length (S++[o]) S'):Gr S S':=by
 refine ⟨um4 (by rw [uf7];lia) K.1,λi hi=>?_⟩;rw [K.2 i (by rw [uf7];lia) (by lia),ub2 hi]
theorem Yg {g0 g1 g2:List GS}(h0:GOk g0)(h1:GOk g1)(h2:GOk g2){j:Nat}(hj:j < 3):∃g,GOk g/\atI [D.lst (g0.map GS.d),.lst (g1.map GS.d),.lst (g2.map GS.d)] (j:Int)=some (.lst (g.map GS.d)):=by
 match j,hj with
 | 0,_=>exact ⟨g0,h0,rfl⟩
 | 1,_=>exact ⟨g1,h1,rfl⟩
 | 2,_=>exact ⟨g2,h2,rfl⟩
theorem Yh {ns ms:List Int}(hj:j < 3):∃sd n,Scr sd n/\atI [D.scr ns,.lst (ms.map .int),.scr ns] (j:Int)=some sd:=by
 match j,hj with
 | 0,_=>exact ⟨_,_,.inl ⟨ns,rfl,rfl⟩,rfl⟩
 | 1,_=>exact ⟨_,_,.inr ⟨ms,rfl,rfl⟩,rfl⟩
 | 2,_=>exact ⟨_,_,.inl ⟨ns,rfl,rfl⟩,rfl⟩
theorem YF {c:Rec}(h:FAll c.cl S):∀x∈c.fp,x < S.length:=by
 intro x hx;unfold Rec.fp at hx;simp only [ul3,ui3,or_false] at hx;rcases hx with rfl | rfl | rfl | rfl | rfl | rfl
 ·exact A0 (h (c.O,Ob.lst (onD c.k c.g c.L c.E c.tk.length)) (by simp [Rec.cl,rcl]))
 ·exact A0 (h (c.k,Ob.ins "Reader" (rdF c.g c.h c.W c.P)) (by simp [Rec.cl,rcl,BK]))
 ·exact A0 (h (c.l,Ob.lst (wD c.vl)) (by simp [Rec.cl,rcl,BK]))
 ·exact A0 (h (c.r,Ob.lst (wD c.vr)) (by simp [Rec.cl,rcl,BK]))
 ·exact A0 (h (c.L,Ob.dct (dW c.xl c.xr)) (by simp [Rec.cl,rcl]))
 ·exact A0 (h (c.E,Ob.dct (dW c.vl c.vr)) (by simp [Rec.cl,rcl]))
theorem ZC {ci cz ck cg:Fn}(ht:∀F,PTakeF F ct)(hu:K2 cu)(hp:∀F,HE F cp)(hi:N6 ci)(hz:Lq cz)(hw:Lr cw)(hc:N8 cc)(hk:∀F,JL F 40 ck)(hg:Lu cg){ns:List Int}:Wf (fnOf 1 9 (Hd ct cu cp ci cz cw cc ck cg)) [.scr ns] [] λr _=>r = .bl true:=by
 have hL:LIM=100000:=rfl;refine Aq rfl ?_;unfold Hd;symm;refine (hg (.scr ns) ns.length [] (.inl ⟨ns,rfl,rfl⟩)).mono ?_;rintro r S1 ⟨g0,hg0,_,rfl⟩;symm;refine (hg (.lst ((Bn ns (some 20) none).map .int)) _ S1 (.inr ⟨_,rfl,rfl⟩)).mono ?_;rintro r S2 ⟨g1,hg1,_,rfl⟩;symm;refine (hg (.scr ns) ns.length S2 (.inl ⟨ns,rfl,rfl⟩)).mono ?_;rintro r S3 ⟨g2,hg2,_,rfl⟩;symm;refine Cu (λr t=>∃(cs:List Rec) (S':List Ob) (e3 e4 e5 e6 e7:Option Sl),cs.length<=3/\r=(rngL 0 (3:Int).toNat).drop cs.length/\Recs S' 24060 cs/\t=⟨[some (.val (.scr ns)),some (.val (.lst [.lst (g0.map GS.d),.lst (g1.map GS.d),.lst (g2.map GS.d)])),some (.own (cs.map λc=>.obj c.O)),e3,e4,e5,e6,e7,none],S'⟩) _ _ ⟨[],S3,none,none,none,none,none,by decide,rfl,⟨(λ_ z=>nomatch z),(λ_ z=>nomatch z),.nil⟩,rfl⟩ ?_ ?_
 ·rintro d r t ⟨cs,S',e3,e4,e5,e6,e7,hcl,hr,h,rfl⟩ _;obtain ⟨rfl,hr',hjn⟩:=Gw hr;have hjn:cs.length < 3:=hjn;rw [un1];obtain ⟨g,hgok,eg⟩:=Yg hg0 hg1 hg2 hjn;obtain ⟨sd,n0,hsd,es⟩:=Yh (ns:=ns) (ms:=Bn ns (some 20) none) hjn;symm;refine A3 eg ?_;symm;refine A3 es ?_;symm;refine (hk (Recs.all cs) sd n0 g S' hsd hgok (recs_all.mpr h.cl)).mono ?_;rintro r0 S4 ⟨F4,mv,hT,rfl⟩;symm;refine Fj ?_;symm;refine (hc g hgok).use ?_;refine ⟨_,rfl,?_⟩;symm;refine (hz g mv _ hgok hT).mono ?_;rintro r1 S5 ⟨e5',ps,hps,rfl⟩;have e5':=e5'.symm;subst e5';symm;refine (hw g mv ps _ hgok hT hps).mono ?_;rintro r2 S6 ⟨G6,K,rfl,hKl,xl,xr,hK,_,_,hxl,hxr⟩;have hG6:S6[S4.length]?=some (.lst (g.map GS.d)):=G6.get Bc;have F6:FAll (Recs.all cs) S6:=G6.all (Gr.app.all F4);rw [uf7] at hKl;simp only [uh4,uj9] at hKl;have lt4:∀c∈cs,∀x∈c.fp,x < S4.length:=λc hc=>YF (recs_all.mp F4 c hc);have ltq:∀q∈Recs.all cs,q.1 < S4.length:=λq hq=>A0 (F4 q hq);symm;refine (hi (S6++[.ins "Reader" []]) S6.length g S4.length hgok (AL hG6) Bc).mono ?_;rintro r3 S7 ⟨rfl,k1,k2,W,P,l,r,R7⟩;refine ⟨rfl,?_⟩;have G7:Gr S6 S7:=Kp.gr1 ⟨k2,k1⟩;have F7:=G7.all F6;have K7:=G7.get hK;have H7:=G7.get hG6;symm;refine JG ?_;refine Be ?_;symm;refine Be ?_;symm;refine En ?_;refine ⟨by simp,by show 2<=15;decide,?_⟩;rw [ID,RZ];symm;refine BJ (by rw [uj0,hL];lia) ?_;symm;have R8:=(R7.gr (Gr.app (ex:=[Ob.dct (lr (.lst []) (.lst []))]))).gr (Gr.app (ex:=[Ob.lst (onD S6.length g K S7.length 0)]));have F8:FAll (Recs.all cs) (S7++[Ob.dct (lr (.lst []) (.lst []))]++[Ob.lst (onD S6.length g K S7.length 0)]):=(Gr.app.trans Gr.app).all F7;have K8:(S7++[Ob.dct (lr (.lst []) (.lst []))]++[Ob.lst (onD S6.length g K S7.length 0)])[K]?=some (.dct (dW xl xr)):=AL (AL K7);have E8:(S7++[Ob.dct (lr (.lst []) (.lst []))]++[Ob.lst (onD S6.length g K S7.length 0)])[S7.length]?=some (.dct (dW [] [])):=AL Bc;have H8:(S7++[Ob.dct (lr (.lst []) (.lst []))]++[Ob.lst (onD S6.length g K S7.length 0)])[S4.length]?=some (.lst (g.map GS.d)):=AL (AL H7);have O8:(S7++[Ob.dct (lr (.lst []) (.lst []))]++[Ob.lst (onD S6.length g K S7.length 0)])[(S7++[Ob.dct (lr (.lst []) (.lst []))]).length]?=some (.lst (onD S6.length g K S7.length 0)):=Bc;have hOl:(S7++[Ob.dct (lr (.lst []) (.lst []))]).length=S7.length + 1:=by simp
  have z1:=A0 hK;have z2:=A0 R7.k;have z3:=A0 R7.l;have z4:=A0 R7.r;have z5:=R7.l0;have z6:=R7.r0;have z7:l≠S6.length:=Am R7.l R7.k (by simp);have z8:r≠S6.length:=Am R7.r R7.k (by simp);have z9:=R7.ne;show F2.W (IL (Ab 6)) ⟨_,S7++[Ob.dct (lr (.lst []) (.lst []))]++[Ob.lst (onD S6.length g K S7.length 0)]⟩ _;generalize S7++[Ob.dct (lr (.lst []) (.lst []))]++[Ob.lst (onD S6.length g K S7.length 0)]=S8 at R8 F8 K8 E8 H8 O8 ⊢;generalize (S7++[Ob.dct (lr (.lst []) (.lst []))]).length=O at O8 hOl ⊢;refine T3 (k:=S4.length) (xs:=g.map GS.d) ?_;symm;refine ⟨rfl,H8,?_⟩;have hcell:FAll (Rec.cl ⟨g,O,S6.length,l,r,K,S7.length,xl,xr,[],[],[],0,0,0,W,P⟩) (S8.set S4.length (.lst [])):=by
   have:=NR (F0:=[]) (R8.setL (o:=.lst []) H8 (by lia) (by lia)) (Ag (o:=.lst []) O8 (by lia)) (Ag (o:=.lst []) K8 (by lia)) (Ag (o:=.lst []) E8 (by lia)) (λ_ z=>nomatch z);rw [uj2] at this;exact this
  have F9:FAll (Recs.all cs) (S8.set S4.length (.lst [])):=λq hq=>Ag (F8 q hq) (by have:=ltq q hq;lia);refine ⟨cs++[⟨g,O,S6.length,l,r,K,S7.length,xl,xr,[],[],[],0,0,0,W,P⟩],S8.set S4.length (.lst []),_,_,_,_,_,by rw [uf7];exact hjn,by rw [uf7];exact hr',⟨λc hc=>?_,λc hc=>?_,?_⟩,by rw [uk3];rfl⟩
  ·rcases ui8.mp hc with hc | hc
   ·exact h.ok c hc
   ·rw [uf9] at hc;subst hc;refine ⟨hgok,Rch.start hgok,by show 0 + xl.length<=_;lia,by show 0 + xr.length<=_;lia,?_⟩;unfold Rec.fp;simp only [uj3,ul3,ui3,or_false,not_or,ul0,and_true];refine ⟨⟨?_,?_,?_,?_,?_⟩,⟨?_,?_,?_,?_⟩,⟨?_,?_,?_⟩,⟨?_,?_⟩,?_,?_⟩
    all_goals first | lia | exact not_false
  ·rcases ui8.mp hc with hc | hc
   ·exact recs_all.mp F9 c hc
   ·rw [uf9] at hc;subst hc;exact hcell
  ·rw [ue3];refine ⟨h.nd,List.pairwise_singleton _ _,λx hx y hy=>?_⟩;rw [uf9] at hy;subst hy;intro z hz hzx;have:=lt4 x hx z hzx;unfold Rec.fp at hz;simp only [ul3,ui3,or_false] at hz;have:=G6.1;rw [uf7] at this;rcases hz with rfl | rfl | rfl | rfl | rfl | rfl <;> lia
 ·rintro t ⟨cs,S',e3,e4,e5,e6,e7,hcl,hr,h,rfl⟩;have hcs:cs.length=3:=by
   have:=congrArg List.length hr;rw [uj9,uh7,CL] at this;have e:(3:Int).toNat=3:=rfl;lia
  clear hcl hr;symm;refine Cu (λr t=>∃(cs:List Rec) (n:Nat) (S':List Ob) (e3 e4 e5 e6 e7 e8:Option Sl),cs.length=3/\n + r.length<=24101/\Recs S' n cs/\t=⟨[some (.val (.scr ns)),some (.val (.lst [.lst (g0.map GS.d),.lst (g1.map GS.d),.lst (g2.map GS.d)])),some (.own (cs.map λc=>.obj c.O)),e3,e4,e5,e6,e7,e8],S'⟩) _ _ ⟨cs,24060,S',e3,e4,e5,e6,e7,none,hcs,by show 24060 + 41<=_;lia,h,rfl⟩ ?_ ?_
  ·rintro d r t ⟨cs,n,S',e3,e4,e5,e6,e7,e8,hcs,hn,h,rfl⟩ hd;obtain ⟨k,rfl,hk1⟩:∃k:Nat,d = .int k/\k<=1000:=by
    rw [Ia] at hd;obtain ⟨i,hi,rfl⟩:=um9.mp hd;have:=uk6.mp hi;exact ⟨22 + i,by congr 1,by lia⟩
   rw [uh4] at hn;symm;refine (hp (Recs.all cs) (.scr ns) ns.length k S' (.inl ⟨ns,rfl,rfl⟩) hk1 (recs_all.mpr h.cl)).mono ?_;rintro r0 S4 ⟨m,rfl,p4⟩;symm;refine Ze rfl ?_;symm;refine (ht _).use (r:=100) 3 (p4.mono (by decide)) λi S5 i0 i1 p5=>?_;obtain ⟨j,rfl⟩:=uc2 i0;have hj:j < cs.length:=by lia
   have ecs:cs=cs.take j++cs[j] :: cs.drop (j + 1):=by rw [<-ub3 hj,ud7]
   refine ⟨j,_,.obj cs[j].O,rfl,rfl,?_,?_⟩
   ·unfold atI;rw [B2 (by lia) (by rw [uj0];lia)];show (cs.map λc=>D.obj c.O)[(j:Int).toNat]?=_;rw [ug4,ug3,ub6 hj];rfl
   have h5:Recs S5 n (cs.take j++cs[j] :: cs.drop (j + 1)):=by rw [<-ecs];exact h.gr (recs_all.mp p5.2.all)
   have p5':RoomF (Recs.all (cs.take j++cs[j] :: cs.drop (j + 1))) m 100 S5:=by rw [<-ecs];exact p5
   symm;refine (QZ hu h5 (by lia) p5').mono ?_;rintro x S6 ⟨rfl,c',hcO,h6⟩;symm;refine ⟨cs.take j++c' :: cs.drop (j + 1),n + 1,S6,some (.val (.int (k:Nat))),e4,e5,e6,e7,some (.val (.obj m)),?_,by lia,h6,?_⟩
   ·rw [uf7,uh4,uh6,uh7];lia
   ·have em:(cs.take j++c' :: cs.drop (j + 1)).map (λc=>D.obj c.O)=cs.map λc=>D.obj c.O:=by
     rw [uk3,ul4,hcO]
     conv=>rhs;rw [ecs,uk3,ul4]
    rw [em];rfl
  ·rintro t ⟨cs,n,S',e3,e4,e5,e6,e7,e8,hcs,hn,h,rfl⟩;symm;rfl
end LW
set_option maxHeartbeats 4000000
namespace F2
open PySem L2 PySem.Spec PySem.W
theorem Ti {k:Kd}{P:Program}{w:World}{K:PySem.W.Frag}{mg:Str->Option Value}{base:Heap}{n:Nat}{fa:Addr}{fd:FuncData}{ps:List Str}:okK k P w K mg base n fa fd ps (λ_ _=>none):=by
 cases k <;> exact ⟨λvs H Q E h=>(by obtain ⟨c,ds,S,_,_,r,S',e,_⟩:=h;cases e),λA' outer s H args us vs Q E _ _ _ _ h=>(by obtain ⟨c,ds,S,_,_,r,S',e,_⟩:=h;cases e)⟩
theorem us0 {n:Nat}:∀{us:List Value},us.length=n + 1->∃a vs,us=a :: vs/\vs.length=n
 | _ :: _,h=>⟨_,_,rfl,Nat.succ.inj h⟩
variable {us:List Value}
theorem us1 (h:us.length=1):∃a,us=[a]:=by
 obtain ⟨a,vs,rfl,q⟩:=us0 h;exact ⟨a,by rw [ua3 q]⟩
theorem us2 (h:us.length=2):∃a b,us=[a,b]:=by
 obtain ⟨_,vs,rfl,q⟩:=us0 h;obtain ⟨_,rfl⟩:=us1 q;exact ⟨_,_,rfl⟩
theorem us3 (h:us.length=3):∃a b c,us=[a,b,c]:=by
 obtain ⟨_,vs,rfl,q⟩:=us0 h;obtain ⟨_,_,rfl⟩:=us2 q;exact ⟨_,_,_,rfl⟩
theorem us4 (h:us.length=4):∃a b c d,us=[a,b,c,d]:=by
 obtain ⟨_,vs,rfl,q⟩:=us0 h;obtain ⟨_,_,_,rfl⟩:=us3 q;exact ⟨_,_,_,_,rfl⟩
theorem us5 (h:us.length=5):∃a b c d e,us=[a,b,c,d,e]:=by
 obtain ⟨_,vs,rfl,q⟩:=us0 h;obtain ⟨_,_,_,_,rfl⟩:=us4 q;exact ⟨_,_,_,_,_,rfl⟩
theorem us6 (h:us.length=6):∃a b c d e f,us=[a,b,c,d,e,f]:=by
 obtain ⟨_,vs,rfl,q⟩:=us0 h;obtain ⟨_,_,_,_,_,rfl⟩:=us5 q;exact ⟨_,_,_,_,_,_,rfl⟩
theorem us7 (h:us.length=7):∃a b c d e f g,us=[a,b,c,d,e,f,g]:=by
 obtain ⟨_,vs,rfl,q⟩:=us0 h;obtain ⟨_,_,_,_,_,_,rfl⟩:=us6 q;exact ⟨_,_,_,_,_,_,_,rfl⟩
end F2
namespace K34
open PySem L2 F2 LW
inductive Fx where
 | Ca | AS | DT | B9 | Cz | Cw | Cy | BQ | DH | Bs | BF | A6 | Bp | Bt | CA | A5 | Ce | Bm | BS | CJ | Da | CH | CI | BR | C9 | Bu | Bq | Bo | AY | BC | BD | Br | B6 | BN | AX | Bg | B8 | B5 | Cs | B7 | law_ | Ax | AG | AH | As | Az | AD | AB
noncomputable def top (i:Nat):Stmt:=PySem.Challenge.pw_wireparley_k34_two_readers.main.body.getD i (.Pass ⟨0,0,0,0⟩)
noncomputable abbrev nm:Fx->Str
 | .Ca=>"is_number"
 | .AS=>"is_number_within"
 | .DT=>"fits"
 | .B9=>"fits_text"
 | .Cz=>"is_sign"
 | .Cw=>"fits_list"
 | .Cy=>"fits_pair"
 | .BQ=>"fits_choice"
 | .DH=>"is_end"
 | .Bs=>"grammar_copy"
 | .BF=>"value_bytes"
 | .A6=>"fitting_bytes"
 | .Bp=>"width_up_to"
 | .Bt=>"number_bytes"
 | .CA=>"leading"
 | .A5=>"read_value"
 | .Ce=>"byte_at"
 | .Bm=>"byte_up_to"
 | .BS=>"read_number"
 | .CJ=>"read_text"
 | .Da=>"sign_at"
 | .CH=>"read_list"
 | .CI=>"read_pair"
 | .BR=>"read_choice"
 | .C9=>"read_on"
 | .Bu=>"read_message"
 | .Bq=>"_law_cell_at"
 | .Bo=>"_law_pool"
 | .AY=>"_law_take"
 | .BC=>"_law_shape"
 | .BD=>"_law_value"
 | .Br=>"_law_grammar"
 | .B6=>"_law_talk"
 | .BN=>"_law_sizes"
 | .AX=>"_law_whole_wires"
 | .Bg=>"_law_value_at"
 | .B8=>"_law_walk"
 | .B5=>"_law_copy"
 | .Cs=>"_law_fed"
 | .B7=>"_law_turn"
 | .law_=>"law"
 | .Ax=>"__init__"
 | .AG=>"state"
 | .AH=>"hear"
 | .As=>"unread_of"
 | .Az=>"__init__"
 | .AD=>"feed"
 | .AB=>"unread"
abbrev ql:Fx->Str
 | .Ax=>"Hearer.__init__"
 | .AG=>"Hearer.state"
 | .AH=>"Hearer.hear"
 | .As=>"Hearer.unread_of"
 | .Az=>"Reader.__init__"
 | .AD=>"Reader.feed"
 | .AB=>"Reader.unread"
 | x=>nm x
abbrev me:Fx->Bool
 | .Ax=>true
 | .AG=>true
 | .AH=>true
 | .As=>true
 | .Az=>true
 | .AD=>true
 | .AB=>true
 | _=>false
abbrev ow:Fx->Str
 | .Ax=>"Hearer"
 | .AG=>"Hearer"
 | .AH=>"Hearer"
 | .As=>"Hearer"
 | .Az=>"Reader"
 | .AD=>"Reader"
 | .AB=>"Reader"
 | _=>""
abbrev st:Fx->Stmt
 | .Ca=>top 9
 | .AS=>top 10
 | .DT=>top 11
 | .B9=>top 12
 | .Cz=>top 13
 | .Cw=>top 14
 | .Cy=>top 15
 | .BQ=>top 16
 | .DH=>top 18
 | .Bs=>top 19
 | .BF=>top 22
 | .A6=>top 23
 | .Bp=>top 24
 | .Bt=>top 25
 | .CA=>top 26
 | .A5=>top 27
 | .Ce=>top 28
 | .Bm=>top 29
 | .BS=>top 30
 | .CJ=>top 31
 | .Da=>top 32
 | .CH=>top 33
 | .CI=>top 34
 | .BR=>top 35
 | .C9=>top 37
 | .Bu=>top 38
 | .Bq=>top 43
 | .Bo=>top 44
 | .AY=>top 45
 | .BC=>top 46
 | .BD=>top 47
 | .Br=>top 48
 | .B6=>top 49
 | .BN=>top 50
 | .AX=>top 51
 | .Bg=>top 52
 | .B8=>top 53
 | .B5=>top 54
 | .Cs=>top 55
 | .B7=>top 56
 | .law_=>top 57
 | .Ax=>BP (top 40) 0
 | .AG=>BP (top 40) 1
 | .AH=>BP (top 40) 2
 | .As=>BP (top 40) 3
 | .Az=>BP (top 41) 0
 | .AD=>BP (top 41) 1
 | .AB=>BP (top 41) 2
noncomputable abbrev ps:Fx->List Str
 | .Ca=>["thing"]
 | .AS=>["thing", "low", "high"]
 | .DT=>["s", "thing"]
 | .B9=>["s", "thing"]
 | .Cz=>["number"]
 | .Cw=>["s", "thing"]
 | .Cy=>["s", "thing"]
 | .BQ=>["s", "thing"]
 | .DH=>["state"]
 | .Bs=>["g"]
 | .BF=>["s", "value"]
 | .A6=>["s", "value"]
 | .Bp=>["most"]
 | .Bt=>["number", "width"]
 | .CA=>["number", "cut"]
 | .A5=>["s", "wire", "at"]
 | .Ce=>["wire", "at"]
 | .Bm=>["most", "wire", "at"]
 | .BS=>["s", "wire", "at"]
 | .CJ=>["s", "wire", "at"]
 | .Da=>["wire", "at"]
 | .CH=>["s", "wire", "at"]
 | .CI=>["s", "wire", "at"]
 | .BR=>["s", "wire", "at"]
 | .C9=>["g", "state", "wires", "places"]
 | .Bu=>["state", "wire", "at"]
 | .Bq=>["script", "k"]
 | .Bo=>["script", "k"]
 | .AY=>["pool", "many"]
 | .BC=>["pool", "deep"]
 | .BD=>["pool", "s"]
 | .Br=>["script"]
 | .B6=>["script", "g", "start", "most"]
 | .BN=>["g", "talk"]
 | .AX=>["talk", "parts"]
 | .Bg=>["shape", "wire", "at"]
 | .B8=>["g", "wires"]
 | .B5=>["g"]
 | .Cs=>["reader", "side", "piece"]
 | .B7=>["one", "pool"]
 | .law_=>["script"]
 | .Ax=>["self", "g", "sides"]
 | .AG=>["self"]
 | .AH=>["self", "side", "piece"]
 | .As=>["self", "side"]
 | .Az=>["self", "g"]
 | .AD=>["self", "side", "piece"]
 | .AB=>["self"]
noncomputable abbrev ns:Fx->List Str
 | .Ca=>["thing"]
 | .AS=>["thing", "low", "high"]
 | .DT=>["s", "thing", "kind"]
 | .B9=>["s", "thing", "sign"]
 | .Cz=>["number"]
 | .Cw=>["s", "thing", "part"]
 | .Cy=>["s", "thing"]
 | .BQ=>["s", "thing"]
 | .DH=>["state"]
 | .Bs=>["g"]
 | .BF=>["s", "value"]
 | .A6=>["s", "value", "kind", "row", "thing"]
 | .Bp=>["most"]
 | .Bt=>["number", "width"]
 | .CA=>["number", "cut"]
 | .A5=>["s", "wire", "at", "kind"]
 | .Ce=>["wire", "at"]
 | .Bm=>["most", "wire", "at", "byte"]
 | .BS=>["s", "wire", "at", "most", "width", "number", "k"]
 | .CJ=>["s", "wire", "at", "length", "place", "text", "k"]
 | .Da=>["wire", "at", "number"]
 | .CH=>["s", "wire", "at", "length", "place", "things", "k", "part"]
 | .CI=>["s", "wire", "at", "first", "second"]
 | .BR=>["s", "wire", "at", "k", "part"]
 | .C9=>["g", "state", "wires", "places", "talk", "standing", "behind", "side", "read"]
 | .Bu=>["state", "wire", "at", "word", "read", "e"]
 | .Bq=>["script", "k"]
 | .Bo=>["script", "k", "cell"]
 | .AY=>["pool", "many", "rest"]
 | .BC=>["pool", "deep", "kind", "low"]
 | .BD=>["pool", "s", "kind", "signs", "k"]
 | .Br=>["script", "pool", "many", "g", "h", "side", "words", "k", "name", "then"]
 | .B6=>["script", "g", "start", "most", "talk", "here", "states", "k", "pool", "side", "words", "name", "shape", "then"]
 | .BN=>["g", "talk", "found", "here", "side", "name", "value", "words", "k"]
 | .AX=>["talk", "parts", "wires", "k"]
 | .Bg=>["shape", "wire", "at", "value", "place", "e"]
 | .B8=>["g", "wires", "talk", "here", "gone", "side", "words", "at", "k", "kind", "value", "place"]
 | .B5=>["g"]
 | .Cs=>["reader", "side", "piece", "told", "fields", "e"]
 | .B7=>["one", "pool", "g", "reader", "left", "fed", "told", "side", "many", "piece", "talk", "here", "gone", "broken", "found"]
 | .law_=>["script", "firsts", "readers", "k", "g", "talk", "handed", "wires", "pool"]
 | .Ax=>["self", "g", "sides", "side"]
 | .AG=>["self"]
 | .AH=>["self", "side", "piece", "read"]
 | .As=>["self", "side"]
 | .Az=>["self", "g"]
 | .AD=>["self", "side", "piece"]
 | .AB=>["self"]
def body (Φ:Fx->Fn):Fx->Fn
 | .Ca=>fnOf 1 1 (FD)
 | .AS=>fnOf 3 3 (C6 (Φ .Ca))
 | .DT=>fnOf 2 3 (Mt (Φ .BQ) (Φ .Cy) (Φ .Cw) (Φ .B9) (Φ .AS))
 | .B9=>fnOf 2 3 (FC (Φ .Cz))
 | .Cz=>fnOf 1 1 (Hc)
 | .Cw=>fnOf 2 3 (FA (Φ .DT))
 | .Cy=>fnOf 2 2 (FB (Φ .DT))
 | .BQ=>fnOf 2 2 (Et (Φ .DT) (Φ .AS))
 | .DH=>fnOf 1 1 (IE)
 | .Bs=>fnOf 1 1 (Di (Φ .DH))
 | .BF=>fnOf 2 2 (DA (Φ .A6) (Φ .DT))
 | .A6=>fnOf 2 5 (D0 (Φ .A6) (Φ .Bp) (Φ .Bt))
 | .Bp=>fnOf 1 1 (Eu)
 | .Bt=>fnOf 2 2 (Ed (Φ .CA))
 | .CA=>fnOf 2 2 (He)
 | .A5=>fnOf 3 4 (CV (Φ .BR) (Φ .CI) (Φ .CH) (Φ .CJ) (Φ .BS))
 | .Ce=>fnOf 2 2 (EW)
 | .Bm=>fnOf 3 4 (DX (Φ .Ce))
 | .BS=>fnOf 3 7 (CF (Φ .CA) (Φ .Ce) (Φ .Bp))
 | .CJ=>fnOf 3 7 (De (Φ .Da) (Φ .Bm))
 | .Da=>fnOf 2 3 (E9 (Φ .Cz) (Φ .Ce))
 | .CH=>fnOf 3 8 (Dc (Φ .A5) (Φ .Bm))
 | .CI=>fnOf 3 5 (Dd (Φ .A5))
 | .BR=>fnOf 3 5 (CD (Φ .A5) (Φ .Bm))
 | .C9=>fnOf 4 9 (EZ (Φ .Bu))
 | .Bu=>fnOf 3 6 (Ee (Φ .A5))
 | .Bq=>fnOf 2 2 (CU)
 | .Bo=>fnOf 2 3 (Cb (Φ .Bq))
 | .AY=>fnOf 2 3 (Cc)
 | .BC=>fnOf 2 4 (Dx (Φ .AY) (Φ .BC))
 | .BD=>fnOf 2 5 (Dz (Φ .BD) (Φ .AY))
 | .Br=>fnOf 1 10 (C5 (Φ .AY) (Φ .BC) (Φ .Bo))
 | .B6=>fnOf 4 14 (DZ (Φ .BD) (Φ .AY) (Φ .Bo))
 | .BN=>fnOf 2 9 (Es (Φ .BF))
 | .AX=>fnOf 2 4 (CT)
 | .Bg=>fnOf 3 6 (Dy (Φ .A5))
 | .B8=>fnOf 2 12 (EY (Φ .Bg))
 | .B5=>fnOf 1 1 (DY)
 | .Cs=>fnOf 3 6 (Ec (Φ .AD))
 | .B7=>fnOf 2 15 (EX (Φ .AB) (Φ .AG) (Φ .Cs) (Φ .B8) (Φ .AY))
 | .law_=>fnOf 1 9 (Hd (Φ .AY) (Φ .B7) (Φ .Bo) (Φ .Az) (Φ .BN) (Φ .AX) (Φ .B5) (Φ .B6) (Φ .Br))
 | .Ax=>fnOf 3 4 (DV (Φ .Bs))
 | .AG=>fnOf 1 1 (BO)
 | .AH=>fnOf 3 4 (Dw (Φ .C9))
 | .As=>fnOf 2 2 (A1)
 | .Az=>fnOf 2 2 (DW (Φ .Ax))
 | .AD=>fnOf 3 3 (Ep (Φ .AH))
 | .AB=>fnOf 1 1 (BG (Φ .As))
def run:Nat->Fx->Fn
 | 0=>λ_ _ _=>none
 | n + 1=>body (run n)
structure Md (K:PySem.W.Frag)(mg:Str->Option Value)(A:Fx->Addr)(fd:Fx->FuncData):Prop where
 fn:∀x,Fun K (nm x) (ql x) (st x) (A x) (fd x)
 mgs:∀x,me x=false->mg (nm x)=some (.ref (A x))
 bd:∀x,Binds K (fd x) (ps x) []
 cm:CM K
 LF:∃C,PySem.W.nsIn K mainGlobals "Reader" = some (some (.ref C))/\mg "Reader" = some (.ref C)/\Mk K C (A .Az)/\Meth K C "feed" (A .AD)/\Meth K C "unread" (A .AB)/\Meth K C "state" (A .AG)/\Meth K C "hear" (A .AH)/\Meth K C "unread_of" (A .As)
 fA:∃C,mg "Hearer" = some (.ref C)/\ByCls K C "__init__" (A .Ax)
 dZ:mg "bool" = none
 eA:mg "dict" = none
 eE:mg "int" = none
 d8:mg "isinstance" = none
 eK:mg "len" = none
 dS:mg "list" = none
 eJ:mg "min" = none
 eM:mg "ord" = none
 dN:mg "range" = none
 eL:mg "str" = none
 dJ:mg "tuple" = none
 d6:∃tk,mg "FIRST_SIGN" = some (.int 32 tk)
 d7:∃tk,mg "LAST_SIGN" = some (.int 126 tk)
 d5:∃tk,mg "PERCENT_SIGN" = some (.int 37 tk)
 dH:∃tk,mg "SIGNS" = some (.str " !\"#$ &'()*+,-./0123456789:;<=>?@ABCDEFGHIJKLMNOPQRSTUVWXYZ[\\]^_`abcdefghijklmnopqrstuvwxyz{|}~" tk)
 xm:∃(P:Addr) (ca:Str->Addr),XM K mg P ca/\XF2 K (ca "Broken") P "Broken.__init__" (BP (top 4) 0)/\∀n∈(["NoValue", "Short"]:List Str),XN0 K (ca n)
noncomputable abbrev kd:Fx->Kd
 | .Ca=>.pl
 | .AS=>.pl
 | .DT=>.pl
 | .B9=>.pl
 | .Cz=>.pl
 | .Cw=>.pl
 | .Cy=>.pl
 | .BQ=>.pl
 | .DH=>.pl
 | .Bs=>.pl
 | .BF=>.ex
 | .A6=>.fr
 | .Bp=>.pl
 | .Bt=>.fr
 | .CA=>.pl
 | .A5=>.ex
 | .Ce=>.ex
 | .Bm=>.ex
 | .BS=>.ex
 | .CJ=>.ex
 | .Da=>.ex
 | .CH=>.ex
 | .CI=>.ex
 | .BR=>.ex
 | .C9=>.er
 | .Bu=>.er
 | .Bq=>.pl
 | .Bo=>.pl
 | .AY=>.pl
 | .BC=>.pl
 | .BD=>.pl
 | .Br=>.pl
 | .B6=>.pl
 | .BN=>.pl
 | .AX=>.pl
 | .Bg=>.pl
 | .B8=>.pl
 | .B5=>.fr
 | .Cs=>.pl
 | .B7=>.pl
 | .law_=>.pl
 | .Ax=>.pl
 | .AG=>.pl
 | .AH=>.er
 | .As=>.pl
 | .Az=>.pl
 | .AD=>.er
 | .AB=>.pl
theorem UB:FnScope ["self", "at", "side"] ["self", "at", "side"] (Al (BP (top 4) 0)):=⟨rfl,rfl,rfl,by decide +kernel,rfl,by decide +kernel,by decide +kernel⟩
section
variable {P:Program}{w:World}{K:PySem.W.Frag}{mg:Str->Option Value}{base:Heap}{A:Fx->Addr}{fd:Fx->FuncData}{n:Nat}
theorem Hl {a:Kd}(k:Kd){P:Program}{w:World}{K:PySem.W.Frag}{mg:Str->Option Value}{base:Heap}{n:Nat}{fa:Addr}{fd:FuncData}{ps:List Str}{f:Fn}(h:okK a P w K mg base n fa fd ps f)(e:a=k):okK k P w K mg base n fa fd ps f:=e ▸ h
section
variable {X:Cx}{A:Fx->Addr}{fd:Fx->FuncData}{n k:Nat}{x:Fx}{s:Str}{e:Expr}{es:List Expr}{f:M (List D)}{p pos:Pos}{E:L2.St->XK}
theorem aX (M:Md X.K X.mg A fd)(ih:∀x,okK (kd x) X.prog X.w X.K X.mg X.base k (A x) (fd x) (ps x) (run n x))(hr:Room k X.A)(ha:PA X (e :: es) (RA X.K f))(hk:kd x = .ex)(hm:me x=false)(hs:nm x=s)(hg:Gl X s)(h1:AO e=false)(h2:AM es=true)(hd:(s == ("__debug__" : Str))=false):PE X (.Call (.Name s p) (e :: es) [] pos) (RE X.K (Ai (Hk (run n x)) f)):=by subst hs;exact Ma (Zl (Hl .ex (ih x) hk)) hr hg (M.mgs x hm) (Fun.kp (M.fn x)) (M.bd x) ha hd h1 h2
theorem cP (M:Md X.K X.mg A fd)(ih:∀x,okK (kd x) X.prog X.w X.K X.mg X.base k (A x) (fd x) (ps x) (run n x))(hr:Room k X.A)(ha:PA X (e :: es) (RA X.K f))(hk:kd x = .pl)(hm:me x=false)(hs:nm x=s)(hg:Gl X s)(h1:AO e=false)(h2:AM es=true)(hd:(s == ("__debug__" : Str))=false):PE X (.Call (.Name s p) (e :: es) [] pos) (RE X.K (Ai (run n x) f)):=by subst hs;exact Ma (Hl .pl (ih x) hk) hr hg (M.mgs x hm) (Fun.kp (M.fn x)) (M.bd x) ha hd h1 h2
theorem fF (M:Md X.K X.mg A fd)(ih:∀x,okK (kd x) X.prog X.w X.K X.mg X.base k (A x) (fd x) (ps x) (run n x))(hr:Room k X.A)(ha:PA X (e :: es) (RA X.K f))(hk:kd x = .fr)(hm:me x=false)(hs:nm x=s)(hg:Gl X s)(h1:AO e=false)(h2:AM es=true)(hd:(s == ("__debug__" : Str))=false):PE X (.Call (.Name s p) (e :: es) [] pos) (RF X.K (C3 (run n x) f)):=by subst hs;exact Su (Hl .fr (ih x) hk) hr hg (M.mgs x hm) (Fun.kp (M.fn x)) (M.bd x) ha hd h1 h2
theorem xer (M:Md X.K X.mg A fd)(ih:∀x,okK (kd x) X.prog X.w X.K X.mg X.base k (A x) (fd x) (ps x) (run n x))(hr:Room k X.A)(hp:BZ (CX1 false X.prog X.w) X E)(ha:PA X (e :: es) (RA X.K f))(hk:kd x = .er)(hm:me x=false)(hs:nm x=s)(hg:Gl X s)(h1:AO e=false)(h2:AM es=true)(hd:(s == ("__debug__" : Str))=false):PE X (.Call (.Name s p) (e :: es) [] pos) (RX X.K E (Ai (run n x) f)):=by subst hs;exact Ny (Hl .er (ih x) hk) hr hg (M.mgs x hm) (Fun.kp (M.fn x)) (M.bd x) hp ha hd h1 h2
theorem xex (M:Md X.K X.mg A fd)(ih:∀x,okK (kd x) X.prog X.w X.K X.mg X.base k (A x) (fd x) (ps x) (run n x))(hr:Room k X.A)(hp:BZ (CX1 true X.prog X.w) X E)(ha:PA X (e :: es) (RA X.K f))(hk:kd x = .ex)(hm:me x=false)(hs:nm x=s)(hg:Gl X s)(h1:AO e=false)(h2:AM es=true)(hd:(s == ("__debug__" : Str))=false):PE X (.Call (.Name s p) (e :: es) [] pos) (RX X.K E (Ai (run n x) f)):=by subst hs;exact Ny (Hl .ex (ih x) hk) hr hg (M.mgs x hm) (Fun.kp (M.fn x)) (M.bd x) hp ha hd h1 h2
end
seal PH PS PE PA PSs PG PT PGs PI PPf PIf PW PO
theorem sc (x:Fx):FnScope (ns x) (ps x) (Al (st x)):=by
 cases x <;> exact ⟨rfl,rfl,rfl,by decide +kernel,rfl,by decide +kernel,by decide +kernel⟩
local macro_rules | `(tactic| clear 30 $t)=>`(tactic| with_reducible refine (?_ : $t))
theorem step (M:Md K mg A fd)(ih0:∀x,okK (kd x) P w K mg base (2 * n + 2) (A x) (fd x) (ps x) (run n x))(y:Fx):okK (kd y) P w K mg base (2 * n + 2 + 1 + 1) (A y) (fd y) (ps y) (run (n + 1) y):=by
 have ih:=λx=>XW (ih0 x);obtain ⟨_,d6⟩:=M.d6;obtain ⟨_,d7⟩:=M.d7;obtain ⟨_,d5⟩:=M.d5;obtain ⟨P',ca,x,xt,x0⟩:=M.xm;have xb:XN2 P w K mg base (ca "Broken") P':=SN rfl UB rfl rfl rfl xt;obtain ⟨_,dH⟩:=M.dH;have xh:RV P w K mg base (ca "Broken") P':=Qf rfl UB rfl rfl rfl xt;obtain ⟨Reader_,d4,fK,fJ,fR,fL,fO,fQ,fD⟩:=M.LF;have fN:MAt K "Reader" "feed" Reader_ (A .AD):=⟨by decide,d4,fR,by decide⟩;have fM:MAt K "Reader" "state" Reader_ (A .AG):=⟨by decide,d4,fO,by decide⟩;have fH:MAt K "Reader" "unread" Reader_ (A .AB):=⟨by decide,d4,fL,by decide⟩;obtain ⟨Hearer_b,fG,fE⟩:=M.fA;have fP:MAt K "Reader" "hear" Reader_ (A .AH):=⟨by decide,d4,fQ,by decide⟩;have eW:MAt K "Reader" "unread_of" Reader_ (A .As):=⟨by decide,d4,fD,by decide⟩;have sy:=sc y;have nd:=sy.nd;have mf:=M.fn y
 cases y <;> first | (clear 30 (okK .pl ..);refine YI (g:=fnOf _ _ _) rfl (Xv rfl rfl mf sy (λcdv A' outer s H E hr=>?_))) | (clear 30 (okK .ex ..);refine NS (g:=fnOf _ _ _) rfl (Nq rfl rfl mf sy (λcdv A' outer s H E hr hp hq ho=>?_))) | (clear 30 (okK .fr ..);refine V9 (g:=fnOf _ _ _) rfl (U5 rfl rfl mf sy (λcdv A' outer s H E hr=>?_))) | (clear 30 (okK .er ..);refine NS (g:=fnOf _ _ _) rfl (U6 rfl rfl mf sy (λcdv A' outer s H E hr hp hq ho ht=>?_)))
 all_goals repeat' first
  | (clear 30 (PH ..);first
    | (clear 30 (PH _ _ (.ExceptHandler (some (.Name _ _)) (some _) [.Raise (some (.Call (.Name _ _) [_,_] [] _)) (some _) _] _ :: _) (RH _ _ (μX _ _) (hAs _ _ (C8 _ _) _)));refine Zu x xh rfl rfl (hr.mono (by lia)) rfl (x.ms "Broken" (by decide)) (x.cl "Broken" (by decide)) (λ_ hn=>x.subE hn (by decide)) nd rfl rfl ht rfl (λy=>?_) Vi ?_)
    | exact Xs
    | (clear 30 (PH _ _ (.ExceptHandler (some (.Name _ _)) none (_ :: _) _ :: _) (RH _ _ _ (hNo _ _ _)));refine Zt x rfl (x.ms "Short" (by decide)) (x.cl "Short" (by decide)) (λ_ hn=>x.subE hn (by decide)) (λy=>?_) ?_)
    | (clear 30 (PH _ _ (.ExceptHandler (some (.Name _ _)) (some _) (_ :: _) _ :: _) (RH _ _ _ (hAs _ _ _ _)));refine Zs x rfl (x.ms "Broken" (by decide)) (x.cl "Broken" (by decide)) (λ_ hn=>x.subE hn (by decide)) nd rfl rfl (λy=>?_) ?_))
  | (clear 30 (PS ..);first
    | (clear 30 (PS _ (.Try ..) ..);first
      | (clear 30 (PS _ _ (RSg _ (μR _) (DB (Cr _ (BX _ (run _ .AD) _ _)) _)));refine Ml (qx:=false) x Qw rfl rfl (λpn E hp=>?_) ?_)
      | (clear 30 (PS _ _ (RSg _ (μX _ _) (DB _ _)));refine Ml (qx:=true) x XR rfl rfl (λpn E hp=>?_) ?_)
      | (clear 30 (PS _ _ (RSg _ (μR _) (DB _ _)));refine Ml (qx:=true) x Qw rfl rfl (λpn E hp=>?_) ?_))
    | (clear 30 (PS _ (.Return ..) ..);first
      | (clear 30 (PS _ _ (RSg _ (μR _) (Ao _)));refine P5 ?_)
      | (clear 30 (PS _ _ (RSg _ (μX _ _) (Ao (nxD _))));refine Nu ?_)
      | (clear 30 (PS _ _ (RSg _ (μF _) (FG _)));refine Nt ?_)
      | (clear 30 (PS _ _ (RSg _ (μX _ _) (Ao _)));refine Ib (Nw ?_))
      | (clear 30 (PS _ _ (RSg _ (μF _) (FT _)));exact (P6 _)))
    | (clear 30 (PS _ (.Assign ..) ..);first
      | (clear 30 (PS _ (.Assign [.Name _ _] _ _) (RSg _ _ (Aw _ _)));refine P7 nd rfl (.inl rfl) ?_)
      | (clear 30 (PS _ _ (RSg _ _ (By _ _)));refine Xw ?_ ?_)
      | (clear 30 (PS _ _ (RSg _ (μX _ _) (Cr _ _)));refine Ib (Nx nd rfl (.inl rfl) ?_))
      | (clear 30 (PS _ _ (RSg _ _ (Dk _ _)));refine Xy nd rfl (.inl rfl) ?_)
      | (clear 30 (PS _ _ (RSg _ _ (D2 _ _ _)));refine Xx M.cm (by decide) ?_ ?_)
      | (clear 30 (PS _ _ (RSX _ _ (Cr _ _)));refine Nx nd rfl (.inl rfl) ?_)
      | (clear 30 (PS _ (.Assign [.Name _ _] _ _) (RSg _ _ (Aw _ _)));refine P7 nd rfl (.inr rfl) ?_)
      | (clear 30 (PS _ _ (RSX _ _ (Of _ _)));refine Va ?_ ?_))
    | (clear 30 (PS _ (.If ..) ..);first
      | refine Zw ?_ ?_ ?_)
    | (clear 30 (PS _ (.For ..) ..);first
      | (clear 30 (PS _ (.For _ _ _ [] _) (RSg _ _ (BY _ _ _)));refine P3 PassesOwn.never rfl ?_ ?_ ?_)
      | (clear 30 (PS _ (.For _ _ _ [] _) (RSg _ _ (BY _ _ _)));refine P3 ho rfl ?_ ?_ ?_))
    | (clear 30 (PS _ (.Expr ..) ..);first
      | (clear 30 (PS _ _ (RSg _ _ (ownM _ Bx _)));refine OA _ ?_)
      | (clear 30 (PS _ _ (RSg _ _ (Db _)));refine Nr ?_)
      | (clear 30 (PS _ _ (RSg _ _ (ownM _ GU _)));refine OB _ ?_))
    | (clear 30 (PS _ (.Raise ..) ..);first
      | (clear 30 (PS _ _ (RSg _ (μX _ _) (C8 _ _)));refine Ib (P4 x xb (hr.mono (by lia)) rfl hq rfl ?_))
      | (clear 30 (PS _ _ (RSg _ (μX _ _) (Fe ("NoValue" : Str) _)));refine Ib (KH (n:="NoValue") x (by decide) rfl (x0 "NoValue" (by decide)) rfl hq rfl ?_))
      | (clear 30 (PS _ _ (RSg _ (μX _ _) (Fe ("Short" : Str) _)));refine Ib (KH (n:="Short") x (by decide) rfl (x0 "Short" (by decide)) rfl hq rfl ?_)))
    | (clear 30 (PS _ (.Break ..) ..);first
      | exact SA)
    | (clear 30 (PS _ (.While ..) ..);first
      | (clear 30 (PS _ (.While _ _ [] _) (RSg _ _ (FY _ _)));refine Mm ho ?_ ?_)
      | (clear 30 (PS _ (.While _ _ [] _) (RSg _ _ (FY _ _)));refine Mm PassesOwn.never ?_ ?_))
    | refine P5 ?_
    | refine Nt ?_
    | refine Nu ?_
    | refine Ib (Nw ?_)
    | refine Nr ?_)
  | (clear 30 (PE ..);first
    | (clear 30 (PE _ (.Name ..) ..);first
      | (clear 30 (PE _ _ (RE _ (Ab _)));exact (Xo _))
      | (clear 30 (PE _ (.Name _ _) (RE _ (fC (.ty _))));exact (Jn rfl M.eL W4))
      | (clear 30 (PE _ (.Name _ _) (RE _ (fC (.int _))));exact (J0 rfl d6))
      | (clear 30 (PE _ (.Name _ _) (RE _ (fC (.ty _))));exact (Jn rfl M.dJ LC))
      | (clear 30 (PE _ (.Name _ _) (RE _ (fC (.ty _))));exact (Jn rfl M.eE Pw))
      | (clear 30 (PE _ (.Name _ _) (RE _ (fC (.ty _))));exact (Jn rfl M.dZ UL))
      | (clear 30 (PE _ (.Name _ _) (RE _ (fC (.int _))));exact (J0 rfl d7))
      | (clear 30 (PE _ (.Name _ _) (RE _ (fC (.int _))));exact (J0 rfl d5))
      | (clear 30 (PE _ (.Name _ _) (RE _ (fC (.ty _))));exact (Jn rfl M.dS Nl))
      | (clear 30 (PE _ _ (RE _ (fC (.str _))));exact (Sj rfl dH)))
    | (clear 30 (PE _ (.Constant ..) ..);first
      | (clear 30 (PE _ _ (RE _ (fC (.int _))));exact Xh)
      | (clear 30 (PE _ _ (RE _ (fC (.str _))));exact Xm)
      | (clear 30 (PE _ _ (RE _ (fC .non)));exact Xi)
      | (clear 30 (PE _ _ (RE _ (fC (.bl _))));exact Zp))
    | (clear 30 (PE _ (.Subscript ..) ..);first
      | (clear 30 (PE _ _ (RE _ (Ac _ _ ixD)));refine Uk XH YL ?_ ?_ (λ_ _=>rfl))
      | (clear 30 (PE _ _ (RE _ (Ac _ _ AN)));refine Uk XF Rg ?_ ?_ (λ_ _=>rfl))
      | (clear 30 (PE _ _ (RE _ (fSl _ _ _ Dn)));refine So sl3 Wp ?_ ?_ ?_)
      | (clear 30 (PE _ _ (RF _ (Os _ _ _)));refine Sw ?_ ?_ ?_)
      | (clear 30 (PE _ _ (RE _ (FM _ _)));refine Sn 2 ?_ (λ_ _=>rfl)))
    | (clear 30 (PE _ (.Call ..) ..);first
      | (clear 30 (PE _ _ (RE _ (Ai (run _ _) _)));refine @cP _ _ _ _ _ _ _ _ _ _ _ _ M ih hr ?_ (by rfl) (by rfl) (by rfl) (by rfl) (by rfl) (by rfl) (by decide))
      | (clear 30 (PE _ _ (RE _ (fB _ AQ)));refine Le R6 Wh rfl M.eK W1 ?_)
      | (clear 30 (PE _ (.Call (.Name _ _) _ _ _) (RX _ _ (Ai (run _ _) _)));refine @xex _ _ _ _ _ _ _ _ _ _ _ _ _ M ih hr hp ?_ (by rfl) (by rfl) (by rfl) (by rfl) (by rfl) (by rfl) (by decide))
      | (clear 30 (PE _ _ (RE _ (fB _ Dv)));refine Le R5 Wg rfl M.d8 KS ?_)
      | (clear 30 (PE _ _ (RF _ (C3 (run _ _) _)));refine @fF _ _ _ _ _ _ _ _ _ _ _ _ M ih hr ?_ (by rfl) (by rfl) (by rfl) (by rfl) (by rfl) (by rfl) (by decide))
      | (clear 30 (PE _ _ (RE _ (fB _ FF)));refine Le (Pz rfl) Wj rfl M.eJ W2 ?_)
      | (clear 30 (PE _ _ (RE _ (fB _ IM)));refine Le R9 Wm rfl M.eM W3 ?_)
      | (clear 30 (PE _ _ (RF _ (fBF _ Go)));refine Zq LQ Wi rfl M.dS Nl ?_)
      | (clear 30 (PE _ (.Call (.Name _ _) _ _ _) (RX _ _ (Ai (run _ _) _)));refine @xer _ _ _ _ _ _ _ _ _ _ _ _ _ M ih hr hp ?_ (by rfl) (by rfl) (by rfl) (by rfl) (by rfl) (by rfl) (by decide))
      | (clear 30 (PE _ _ (RE _ (objM Bx _ _)));refine PP ?_ ?_)
      | (clear 30 (PE _ _ (RE _ (IL _)));refine PU ?_)
      | (clear 30 (PE _ _ (RE _ (BX _ (run _ .As) _ _)));refine UW M.cm eW (ih .As) hr (M.bd .As) ?_ ?_)
      | (clear 30 (PE _ _ (RE _ (fUn _ Jd)));refine PR ?_)
      | (clear 30 (PE _ _ (RE _ (fB _ HJ)));refine Si rfl M.eA ?_)
      | (clear 30 (PE _ _ (RE _ (fB _ Ka)));refine Uj Py We rfl M.eE Pw ?_)
      | (clear 30 (PE _ _ (RE _ (fB _ Kt)));refine Uj KW Ws rfl M.dJ LC ?_)
      | (clear 30 (PE _ _ (RE _ (joinM _ _)));refine UU ?_ ?_)
      | (clear 30 (PE _ _ (RE _ (idxM _ _)));refine Sm ?_ ?_)
      | (clear 30 (PE _ _ (RE _ (Ai (Hk (run _ _)) _)));refine aX M ih hr ?_ (by rfl) (by rfl) (by rfl) (by rfl) (by rfl) (by rfl) (by decide))
      | (clear 30 (PE _ _ (RX _ _ (BX _ (run _ .AD) _ _)));refine Nz M.cm fN (ih .AD) hr (M.bd .AD) hp ?_ ?_)
      | (clear 30 (PE _ _ (RE _ (BX _ (run _ .AG) _ (ret []))));refine Mb M.cm fM (ih .AG) hr (M.bd .AG) ?_)
      | (clear 30 (PE _ _ (RE _ (BX _ (run _ .AB) _ (ret []))));refine Mb M.cm fH (ih .AB) hr (M.bd .AB) ?_)
      | (clear 30 (PE _ _ (RE _ (Ld _ _ _)));refine UV (by decide) d4 fJ (ih0 .Az) hr rfl fK (M.bd .Az) ?_)
      | (clear 30 (PE _ _ (RE _ (objX _ _)));refine Ou ?_ ?_)
      | (clear 30 (PE _ _ (RE _ (Ai _ _)));refine Sf (ih .Ax) hr rfl fG fE (M.bd .Ax) ?_)
      | (clear 30 (PE _ _ (RX _ _ (BX _ (run _ .AH) _ _)));refine Nz M.cm fP (ih .AH) hr (M.bd .AH) hp ?_ ?_))
    | (clear 30 (PE _ (.List ..) ..);first
      | refine @Xp _ _ _ _ ?_)
    | (clear 30 (PE _ (.Tuple ..) ..);first
      | refine @Xn _ _ _ _ _ ?_)
    | (clear 30 (PE _ (.BinOp ..) ..);first
      | (clear 30 (PE _ _ (RE _ (Ac _ _ AJ)));refine EA NI MQ ?_ ?_)
      | (clear 30 (PE _ _ (RE _ (Ac _ _ BB)));refine EA X4 Wq ?_ ?_)
      | (clear 30 (PE _ _ (RE _ (Ac _ _ Ev)));refine EA X0 Wk ?_ ?_)
      | (clear 30 (PE _ _ (RE _ (Ac _ _ D1)));refine EA VF TN ?_ ?_)
      | (clear 30 (PE _ _ (RE _ (Ac _ _ Hr)));refine EA X1 Wn ?_ ?_)
      | (clear 30 (PE _ (.BinOp _ .Add _ _) (RF _ _));refine Ov op_cat TK ?_ ?_)
      | (clear 30 (PE _ _ (RE _ (Ac _ _ Fq)));refine EA VD TM ?_ ?_)
      | (clear 30 (PE _ _ (RE _ (Ac _ _ II)));refine EA VH TQ ?_ ?_)
      | (clear 30 (PE _ _ (RX _ _ (HK _ _ AJ)));refine Zz NI MQ ?_ ?_)
      | (clear 30 (PE _ _ (RE _ (Ac _ _ HM)));refine EA Tj Rh ?_ ?_)
      | (clear 30 (PE _ _ (RE _ (Ac _ _ MT)));refine EA X3 Wo ?_ ?_)
      | (clear 30 (PE _ (.BinOp _ .Add _ _) (RF _ _));refine Ov op_cat TL ?_ ?_)
      | (clear 30 (PE _ (.BinOp _ .Add _ _) (RF _ _));refine Ov op_cat Rf ?_ ?_))
    | (clear 30 (PE _ (.Attribute ..) ..);first
      | (clear 30 (PE _ _ (RE _ (D8 _ _)));refine Xg M.cm (by decide) ?_ rfl)
      | (clear 30 (PE _ (.Attribute _ _ _) (RE _ (bnd _ (Fv _))));refine PQ x x.na ?_ rfl)
      | (clear 30 (PE _ (.Attribute _ _ _) (RE _ (bnd _ (Fv _))));refine PQ x x.nd ?_ rfl))
    | (clear 30 (PE _ (.BoolOp ..) ..);first
      | (clear 30 (PE _ _ (RE _ (Ey _ _)));refine Xf ?_ ?_)
      | (clear 30 (PE _ _ (RE _ _));refine Xl ?_))
    | (clear 30 (PE _ (.Dict ..) ..);first
      | (clear 30 (PE _ _ (RE _ (Fp _)));refine UT ?_)
      | (clear 30 (PE _ _ (RE _ (Em [])));exact PV))
    | (clear 30 (PE _ (.Compare ..) ..);first
      | (clear 30 (PE _ _ (RE _ (El _ _ _ _ _)));refine Sg QJ QJ NX NX ?_ ?_ ?_)
      | (clear 30 (PE _ (.Compare _ [.Eq] [_] _) (RE _ (Ac _ _ (eqS _))));refine FN (MA hr.units) (Ig (g:=id)) ?_ ?_ (Cd _))
      | (clear 30 (PE _ _ (RE _ (Ac _ _ isC)));refine FN QH Ri ?_ ?_ (Cd _))
      | (clear 30 (PE _ (.Compare _ [.NotEq] [_] _) (RE _ (Ac _ _ (eqS _))));refine FN (MB hr.units) (Ig (g:=λb=>!b)) ?_ ?_ (Cd _))
      | (clear 30 (PE _ _ (RE _ (Ac _ _ ltA)));refine FN QK NY ?_ ?_ (Cd _))
      | (clear 30 (PE _ _ (RE _ (Ac _ _ gtA)));refine FN QG NW ?_ ?_ (Cd _))
      | (clear 30 (PE _ _ (RE _ (Ac _ _ (eqO _))));refine FN (MA hr.units) (NV (g:=id)) ?_ ?_ (Cd _)))
    | (clear 30 (PE _ (.IfExp ..) ..);first
      | refine Sk ?_ ?_ ?_)
    | (clear 30 (PE _ (.UnaryOp ..) ..);first
      | refine Xj ?_)
    | (clear 30 (PE _ (.ListComp ..) ..);first
      | (clear 30 (PE _ _ (RF _ (GV _ _ _ _ _ _)));refine Sv (Ek ["state"] [] rfl rfl rfl rfl rfl) rfl ?_ (λ_ _ _ _ _=>?_) (λ_ _ _ _ _=>?_) (λ_ _ _ _ _=>?_))
      | (clear 30 (PE _ (.ListComp _ [⟨(.Name ("sign" : Str) _),_,_,0⟩] _ _) (RF _ (BL _ [] _ _ _ _)));refine Ea (Ek ["sign"] [] rfl rfl rfl rfl rfl) rfl ?_ (λ_ _ _ _ _=>?_) (λ_ _ _ _ _=>?_) (λ_ _ _ _ _=>?_))
      | (clear 30 (PE _ (.ListComp _ [⟨(.Name ("k" : Str) _),_,_,0⟩] _ _) (RF _ (BL _ [0,1] _ _ _ _)));refine Ea (Ek ["k"] [(0 , "number") ,(1 , "width")] rfl rfl rfl rfl rfl) rfl ?_ (λ_ _ _ _ _=>?_) (λ_ _ _ _ _=>?_) (λ_ _ _ _ _=>?_))
      | (clear 30 (PE _ (.ListComp _ [⟨(.Name ("k" : Str) _),_,_,0⟩] _ _) (RF _ (BL _ [0,1] _ _ _ _)));refine Ea (Ek ["k"] [(0 , "pool") ,(1 , "deep")] rfl rfl rfl rfl rfl) rfl ?_ (λ_ _ _ _ _=>?_) (λ_ _ _ _ _=>?_) (λ_ _ _ _ _=>?_))
      | (clear 30 (PE _ _ (RF _ (BL _ [3,0] _ _ _ _)));refine Ea (Ek ["k"] [(3 , "signs") ,(0 , "pool")] rfl rfl rfl rfl rfl) rfl ?_ (λ_ _ _ _ _=>?_) (λ_ _ _ _ _=>?_) (λ_ _ _ _ _=>?_))
      | (clear 30 (PE _ (.ListComp _ [⟨(.Name ("k" : Str) _),_,_,0⟩] _ _) (RF _ (BL _ [0,1] _ _ _ _)));refine Ea (Ek ["k"] [(0 , "pool") ,(1 , "s")] rfl rfl rfl rfl rfl) rfl ?_ (λ_ _ _ _ _=>?_) (λ_ _ _ _ _=>?_) (λ_ _ _ _ _=>?_))
      | (clear 30 (PE _ (.ListComp _ [⟨(.Name ("word" : Str) _),_,_,0⟩] _ _) (RF _ (BL _ [] _ _ _ _)));refine Ea (Ek ["word"] [] rfl rfl rfl rfl rfl) rfl ?_ (λ_ _ _ _ _=>?_) (λ_ _ _ _ _=>?_) (λ_ _ _ _ _=>?_))
      | (clear 30 (PE _ (.ListComp _ [⟨(.Name ("state" : Str) _),_,_,0⟩] _ _) (RF _ (BL _ [] _ _ _ _)));refine Ea (Ek ["state"] [] rfl rfl rfl rfl rfl) rfl ?_ (λ_ _ _ _ _=>?_) (λ_ _ _ _ _=>?_) (λ_ _ _ _ _=>?_)))
    | (clear 30 (PE _ _ (RE _ (Av _)));refine UX ?_)
    | (clear 30 (PE _ _ (RE _ (EO _)));refine Xk ?_))
  | (clear 30 (PA ..);first
    | refine @Se _ _ _ _ _ ?_ ?_ rfl
    | exact Xe)
  | (clear 30 (PSs ..);first
    | refine @SC _ _ _ _ _ _ ?_ ?_
    | refine @Vc _ _ _ _ ?_
    | exact Vb
    | refine SD ?_)
  | (clear 30 (PG ..);first
    | (clear 30 (PG _ (.Name ..) ..);first
      | (clear 30 (PG _ (.Name _ _) (RG _ (Ay _)));exact (DF nd rfl (.inl rfl)))
      | (clear 30 (PG _ (.Name _ _) (RG _ (Ay _)));exact (DF (by show List.Nodup [("state" : Str)] ;decide +kernel) rfl (.inl rfl)))
      | (clear 30 (PG _ (.Name _ _) (RG _ (Ay _)));exact (DF (by show List.Nodup [("sign" : Str)] ;decide +kernel) rfl (.inl rfl)))
      | (clear 30 (PG _ (.Name _ _) (RG _ (Ay _)));exact (DF (by show List.Nodup [("k" : Str) ,("number" : Str) ,("width" : Str)] ;decide +kernel) rfl (.inl rfl)))
      | (clear 30 (PG _ (.Name _ _) (RG _ (Ay _)));exact (DF (by show List.Nodup [("k" : Str) ,("pool" : Str) ,("deep" : Str)] ;decide +kernel) rfl (.inl rfl)))
      | (clear 30 (PG _ (.Name _ _) (RG _ (Ay _)));exact (DF (by show List.Nodup [("k" : Str) ,("signs" : Str) ,("pool" : Str)] ;decide +kernel) rfl (.inl rfl)))
      | (clear 30 (PG _ (.Name _ _) (RG _ (Ay _)));exact (DF (by show List.Nodup [("k" : Str) ,("pool" : Str) ,("s" : Str)] ;decide +kernel) rfl (.inl rfl)))
      | (clear 30 (PG _ (.Name _ _) (RG _ (Ay _)));exact (DF (by show List.Nodup [("word" : Str)] ;decide +kernel) rfl (.inl rfl))))
    | (clear 30 (PG _ (.Subscript ..) ..);first
      | (clear 30 (PG _ _ (RG _ (Ck _ _)));refine PY ?_ ?_)
      | (clear 30 (PG _ _ (RG _ (stD _ _)));refine Xq ?_ ?_))
    | (clear 30 (PG _ (.Tuple ..) ..);first
      | (clear 30 (PG _ _ (RG _ (unS _ _)));refine Zr rfl ?_)
      | (clear 30 (PG _ _ (RG _ (unO _ _)));refine Xr rfl ?_)))
  | (clear 30 (PT ..);first
    | (clear 30 (PT _ (.Compare ..) ..);first
      | (clear 30 (PT _ (.Compare _ [.Eq] [_] _) (RT _ (Ap (Ac _ _ (eqS _)))));refine DU (MA hr.units) (Ig (g:=id)) ?_ ?_ (Cd _))
      | (clear 30 (PT _ (.Compare _ [.NotEq] [_] _) (RT _ (Ap (Ac _ _ (eqS _)))));refine DU (MB hr.units) (Ig (g:=λb=>!b)) ?_ ?_ (Cd _))
      | (clear 30 (PT _ _ (RT _ (Ap (Ac _ _ gtA))));refine DU QG NW ?_ ?_ (Cd _))
      | (clear 30 (PT _ _ (RT _ (Ap (Ac _ _ geA))));refine DU XY Wc ?_ ?_ (Cd _))
      | (clear 30 (PT _ _ (RT _ (Ap (Ac _ _ (inS _)))));refine DU (XZ hr.units) (Wd (neg:=false)) ?_ ?_ (by with_unfolding_all rfl))
      | (clear 30 (PT _ _ (RT _ (Ap (Ac _ _ isC))));refine DU QH Ri ?_ ?_ (Cd _))
      | (clear 30 (PT _ _ (RT _ (Ap (Ac _ _ ltA))));refine DU QK NY ?_ ?_ (Cd _))
      | (clear 30 (PT _ _ (RT _ (Ap (Ac _ _ ET))));refine DU QI Rj ?_ ?_ (Cd _))
      | (clear 30 (PT _ _ (RT _ (Ap (Ac _ _ (eqO _)))));refine DU (MB hr.units) (NV (g:=λb=>!b)) ?_ ?_ (Cd _)))
    | (clear 30 (PT _ (.UnaryOp ..) ..);first
      | refine Xz ?_)
    | (clear 30 (PT _ (.BoolOp ..) ..);first
      | refine Zx ?_)
    | (clear 30 (PT _ _ (RT _ (Ap _)));refine XA ?_))
  | (clear 30 (PGs ..);first
    | refine Sx ?_ ?_
    | exact UZ)
  | (clear 30 (PI ..);first
    | (clear 30 (PI _ _ (.Call ..) ..);first
      | (clear 30 (PI _ _ _ (RI _ (B4 _)));refine Ow rfl M.dN ?_)
      | (clear 30 (PI _ _ _ (RI _ (Ez _)));refine Ox rfl M.dN ?_))
    | (clear 30 (PI _ _ _ (RI _ (D9 _)));refine Xt ?_)
    | (clear 30 (PI _ _ _ (RIG _ (Oq _)));refine U0 ?_))
  | (clear 30 (PPf ..);first
    | refine Sz ?_ ?_
    | exact U9)
  | (clear 30 (PIf ..);first
    | exact U1)
  | (clear 30 (PW ..);first
    | (clear 30 (PW _ (.BoolOp .Or (_ :: _ :: _) _) (RT _ (fOr _ _)));refine Zy ?_ ?_)
    | (clear 30 (PW _ (.BoolOp .Or [_] _) (RT _ _));refine XC ?_)
    | (clear 30 (PW _ (.BoolOp .And (_ :: _ :: _) _) (RT _ (JZ _ _)));refine XB ?_ ?_)
    | (clear 30 (PW _ (.BoolOp .And [_] _) (RT _ _));refine Vd ?_))
  | (clear 30 (PO ..);first
    | exact U7
    | refine U8 ?_)
theorem all_ok (M:Md K mg A fd):∀(n:Nat) (x:Fx),okK (kd x) P w K mg base (2 * n + 2) (A x) (fd x) (ps x) (run n x)
 | 0,x=>Ti
 | n + 1,x=>by
   have ih:=all_ok M n;exact step M ih x
end
abbrev fno (x:Fx)(kV dc pm:Value)(an:Option Addr)(cd ct:Value):FuncData:=PySem.W.fnOf (nm x) (ql x) (DE (st x)) (Bd (st x)) (Al (st x)) .none kV dc pm an cd ct
structure At (K:PySem.W.Frag)(x:Fx)(f:Addr)(fd:FuncData):Prop where
 a:me x=false->PySem.W.nsIn K mainGlobals (nm x)=some (some (.ref f))
 m:me x=true->∃C,PySem.W.nsIn K mainGlobals (ow x)=some (some (.ref C))/\PySem.W.findIn K (.ref C) (nm x)=some (some (.ref f))/\PySem.W.isFn K (.ref f)=true
 fn:Fun K (nm x) (ql x) (st x) f fd
 bd:Binds K fd (ps x) []
 eq:∃kV dc pm an cd ct,fd=fno x kV dc pm an cd ct
theorem at_mk {K:PySem.W.Frag}{x:Fx}{f:Addr}{od an:Option Addr}{sl:Array (Option Value)}{oc kV dc pm cd ct:Value}(e:me x=false)(a:PySem.W.nsIn K mainGlobals (nm x)=some (some (.ref f)))(l:K.lookup f=some ⟨oc,od,.func (fno x kV dc pm an cd ct),sl⟩)(c:PySem.W.codeIn K cd (ql x)=true)(k:PySem.W.keepIn K (.ref f)=true):∃p:Addr×FuncData,At K x p.1 p.2:=by
 refine ⟨(f,fno x kV dc pm an cd ct),λ_=>a,λz=>(by rw [e] at z;cases z),FO (st:=st x) l c k,(FO (st:=st x) l c k).binds (ps:=ps x) λ_ _ _ _ _ _ us hl=>?_,_,_,_,_,_,_,rfl⟩
 cases x <;> first | (obtain ⟨_,rfl⟩:=us1 hl;rfl) | (obtain ⟨_,_,rfl⟩:=us2 hl;rfl) | (obtain ⟨_,_,_,rfl⟩:=us3 hl;rfl) | (obtain ⟨_,_,_,_,rfl⟩:=us4 hl;rfl) | (obtain ⟨_,_,_,_,_,rfl⟩:=us5 hl;rfl) | (obtain ⟨_,_,_,_,_,_,rfl⟩:=us6 hl;rfl) | (obtain ⟨_,_,_,_,_,_,_,rfl⟩:=us7 hl;rfl)
theorem W0 {K:PySem.W.Frag}{x:Fx}{f C:Addr}{od an:Option Addr}{sl:Array (Option Value)}{oc kV dc pm cd ct:Value}(e:me x=true)(hc:PySem.W.nsIn K mainGlobals (ow x)=some (some (.ref C)))(a:PySem.W.findIn K (.ref C) (nm x)=some (some (.ref f)))(l:K.lookup f=some ⟨oc,od,.func (fno x kV dc pm an cd ct),sl⟩)(c:PySem.W.codeIn K cd (ql x)=true)(k:PySem.W.keepIn K (.ref f)=true)(t:PySem.W.isFn K (.ref f)=true):∃p:Addr×FuncData,At K x p.1 p.2:=by
 refine ⟨(f,fno x kV dc pm an cd ct),λz=>(by rw [e] at z;cases z),λ_=>⟨C,hc,a,t⟩,FO (st:=st x) l c k,(FO (st:=st x) l c k).binds (ps:=ps x) λ_ _ _ _ _ _ us hl=>?_,_,_,_,_,_,_,rfl⟩
 cases x <;> first | (obtain ⟨_,rfl⟩:=us1 hl;rfl) | (obtain ⟨_,_,rfl⟩:=us2 hl;rfl) | (obtain ⟨_,_,_,rfl⟩:=us3 hl;rfl) | (obtain ⟨_,_,_,_,rfl⟩:=us4 hl;rfl) | (obtain ⟨_,_,_,_,_,rfl⟩:=us5 hl;rfl) | (obtain ⟨_,_,_,_,_,_,rfl⟩:=us6 hl;rfl) | (obtain ⟨_,_,_,_,_,_,_,rfl⟩:=us7 hl;rfl)
theorem xm_all {K:PySem.W.Frag}{h:Heap}{mg:Str->Option Value}{P c1 c2 c3:Addr}{f2:Addr}{od2 an2:Option Addr}{sl2:Array (Option Value)}{oc2 kV2 dc2 pm2 cd2 ct2:Value}(X:K.In h)(G:h.Ns mainGlobals mg)(p:PySem.W.nsIn K mainGlobals "ParleyError" = some (some (.ref P)))(a1:PySem.W.nsIn K mainGlobals "NoValue" = some (some (.ref c1)))(a2:PySem.W.nsIn K mainGlobals "Short" = some (some (.ref c2)))(a3:PySem.W.nsIn K mainGlobals "Broken" = some (some (.ref c3)))(q:Pm K P [c1,c2,c3]=true)(nd:[P,c1,c2,c3].Nodup)(fi2:PySem.W.findIn K (.ref c3) "__init__" = some (some (.ref f2)))(l2:K.lookup f2=some ⟨oc2,od2,.func (PySem.W.fnOf "__init__" "Broken.__init__" (DE (BP (top 4) 0)) (Bd (BP (top 4) 0)) (Al (BP (top 4) 0)) .none kV2 dc2 pm2 an2 cd2 ct2),sl2⟩)(ii2:Mo K c3 f2=true)(hf2:PySem.W.isFn K (.ref f2)=true)(hs2:PySem.W.findIn K (.ref c3) "__setattr__" = some (some (.builtin "object.__setattr__")))(cc2:PySem.W.codeIn K cd2 "Broken.__init__" = true)(k2:PySem.W.keepIn K (.ref f2)=true)(n1:Jv K c1=true)(n2:Jv K c2=true):∃(P:Addr) (ca:Str->Addr),XM K mg P ca/\XF2 K (ca "Broken") P "Broken.__init__" (BP (top 4) 0)/\∀n∈(["NoValue", "Short"]:List Str),XN0 K (ca n):=by
 have x:=aI X G p a1 a2 a3 q nd;refine ⟨P,_,x,Zh (C:=c3) (st:=(BP (top 4) 0)) ⟨x.cl "Broken" (by decide),x.kp "Broken" (by decide),x.gt "Broken" (by decide),x.gc "Broken" (by decide),x.na "Broken" (by decide),x.nd "Broken" (by decide)⟩ ii2 hf2 hs2 l2 cc2 k2 (λ_ _ _ _ _ _ us hl=>by match us,hl with | [_,_,_],_=>rfl),?_⟩;intro n hn;simp only [ul3,ui3,or_false] at hn;rcases hn with rfl | rfl
 ·exact RJ n1
 ·exact RJ n2
theorem fin_mk {K:PySem.W.Frag}{h:Heap}{mg:Str->Option Value}{fa:Addr}(X:K.In h)(G:h.Ns mainGlobals mg)(hmg:mg "law" = some (.ref fa))(H:∀x:Fx,∃p:Addr×FuncData,At K x p.1 p.2)(dZ:PySem.W.nsIn K mainGlobals "bool" = some none)(eA:PySem.W.nsIn K mainGlobals "dict" = some none)(eE:PySem.W.nsIn K mainGlobals "int" = some none)(d8:PySem.W.nsIn K mainGlobals "isinstance" = some none)(eK:PySem.W.nsIn K mainGlobals "len" = some none)(dS:PySem.W.nsIn K mainGlobals "list" = some none)(eJ:PySem.W.nsIn K mainGlobals "min" = some none)(eM:PySem.W.nsIn K mainGlobals "ord" = some none)(dN:PySem.W.nsIn K mainGlobals "range" = some none)(eL:PySem.W.nsIn K mainGlobals "str" = some none)(dJ:PySem.W.nsIn K mainGlobals "tuple" = some none){eF:Tok}(d6:PySem.W.nsIn K mainGlobals "FIRST_SIGN" = some (some (.int 32 eF))){eG:Tok}(d7:PySem.W.nsIn K mainGlobals "LAST_SIGN" = some (some (.int 126 eG))){dX:Tok}(d5:PySem.W.nsIn K mainGlobals "PERCENT_SIGN" = some (some (.int 37 dX))){eZ:Tok}(dH:PySem.W.nsIn K mainGlobals "SIGNS" = some (some (.str " !\"#$ &'()*+,-./0123456789:;<=>?@ABCDEFGHIJKLMNOPQRSTUVWXYZ[\\]^_`abcdefghijklmnopqrstuvwxyz{|}~" eZ)))(xm:∃(P:Addr) (ca:Str->Addr),XM K mg P ca/\XF2 K (ca "Broken") P "Broken.__init__" (BP (top 4) 0)/\∀n∈(["NoValue", "Short"]:List Str),XN0 K (ca n)){dU dM:Addr}(eS:PySem.W.nsIn K mainGlobals "Side" = some none)(eH:PySem.W.nsIn K mainGlobals "Lasting" = some none)(eP:PySem.W.nsIn K mainGlobals "Parley" = some none)(eD:PySem.W.nsIn K mainGlobals "Listener" = some none)(eR:PySem.W.nsIn K mainGlobals "Relay" = some none)(eT:PySem.W.nsIn K mainGlobals "Desk" = some none)(dG:PySem.W.nsIn K mainGlobals "Hearer" = some (some (.ref dU)))(d4:PySem.W.nsIn K mainGlobals "Reader" = some (some (.ref dM)))(eN:On K dM=true)(eO:OG K dM=true)(dL:PySem.W.findIn K (.ref dM) "state" = PySem.W.findIn K (.ref dU) "state")(dQ:PySem.W.findIn K (.ref dM) "hear" = PySem.W.findIn K (.ref dU) "hear")(d9:PySem.W.findIn K (.ref dM) "unread_of" = PySem.W.findIn K (.ref dU) "unread_of")(eQ:byB K dU "__init__" = true):∃(A:Fx->Addr) (fd:Fx->FuncData),Md K mg A fd/\A .law_=fa/\∀(s:Shared) (u:Value),BindsTo s (fd .law_) ⟨[u],[]⟩ [("script",u)]:=by
 obtain ⟨F,hF⟩:=Classical.axiomOfChoice H;have fm:∀x,me x=true->∀C,PySem.W.nsIn K mainGlobals (ow x)=some (some (.ref C))->PySem.W.findIn K (.ref C) (nm x)=some (some (.ref (F x).1))/\PySem.W.isFn K (.ref (F x).1)=true:=λx hx C h=>by
  obtain ⟨C,e1,e2,e3⟩:=(hF x).m hx;have e4:=e1.symm.trans h
  cases e4
  exact ⟨e2,e3⟩
 have eI:=fm .Ax rfl _ dG;have dY:=fm .AG rfl _ dG;have eC:=fm .AH rfl _ dG;have dI:=fm .As rfl _ dG;have dO:=fm .Az rfl _ d4;have eB:=fm .AD rfl _ d4;have dR:=fm .AB rfl _ d4;have cm:CM K:=Zm λn hn=>by
  simp only [JY,ul3,ui3,or_false] at hn;rcases hn with rfl | rfl | rfl | rfl | rfl | rfl | rfl
  ·exact .inr ⟨_,d4,eN⟩
  ·exact .inl eS
  ·exact .inl eH
  ·exact .inl eP
  ·exact .inl eD
  ·exact .inl eR
  ·exact .inl eT
 refine ⟨λx=>(F x).1,λx=>(F x).2,{ fn:=λx=>(hF x).fn,mgs:=λx e=>um0 X G ((hF x).a e),bd:=λx=>(hF x).bd,cm:=cm,LF:=⟨_,d4,um0 X G d4,ZD eO dO.1 dO.2,⟨eB.1,eB.2,Fun.kp (hF .AD).fn⟩,⟨dR.1,dR.2,Fun.kp (hF .AB).fn⟩,⟨dL.trans dY.1,dY.2,Fun.kp (hF .AG).fn⟩,⟨dQ.trans eC.1,eC.2,Fun.kp (hF .AH).fn⟩,⟨d9.trans dI.1,dI.2,Fun.kp (hF .As).fn⟩⟩,fA:=⟨_,um0 X G dG,Zk eQ eI.1 (Fun.kp (hF .Ax).fn)⟩,xm:=xm,dZ:=ug1 X G dZ,eA:=ug1 X G eA,eE:=ug1 X G eE,d8:=ug1 X G d8,eK:=ug1 X G eK,dS:=ug1 X G dS,eJ:=ug1 X G eJ,eM:=ug1 X G eM,dN:=ug1 X G dN,eL:=ug1 X G eL,dJ:=ug1 X G dJ,d6:=⟨eF,um0 X G d6⟩,d7:=⟨eG,um0 X G d7⟩,d5:=⟨dX,um0 X G d5⟩,dH:=⟨eZ,um0 X G dH⟩ },?_,λs u=>?_⟩
 ·have e:=hmg.symm.trans (um0 X G ((hF .law_).a rfl))
  cases e
  rfl
 ·obtain ⟨_,_,_,_,_,_,e⟩:=(hF .law_).eq;show BindsTo s (F .law_).2 _ _;rw [e];exact .of_eq rfl
theorem walk {l:PySem.W.OpenLaw}{q:Program}{loose:List Str}{XP:(Str->Option Value)->Heap->Prop}{YP:World->Heap->Prop}{d:DefRec}{K:Params->PySem.W.Frag}(m:Nat)(hm:Room (2 * m + 2) callerA)(hn:l.most=some 63)(hdf:d.params.defaults=[])
 (hY:∀(w:World) (h:Heap),YP w h->(K w.params).In h) (lt:∀ns:List Int,ns.length<=63->∃S',run m .law_ [.scr ns] []=some (.bl true,S'))
 (F:∀(w:World) (mg:Str->Option Value) (fa:Addr) (h:Heap),(K w.params).In h->h.Ns mainGlobals mg->mg d.name=some (.ref fa)->
   ∃(A:Fx->Addr) (fd:Fx->FuncData),Md (K w.params) mg A fd/\A .law_=fa/\∀(s:Shared) (u:Value),BindsTo s (fd .law_) ⟨[u],[]⟩ [("script",u)]) :
 PySem.W.WalkO q loose XP YP l.row.toRowW d [] (λf vs=>PySem.call f vs):=
 L2.WN (n:=63) (k:=2 * m + 2) (x:="script") (CX:=λ_=>CX0) (sp:=λw=>spF (K w.params) (run m .law_)) hn (by decide) hdf hm hY
  (λw mg fa h KX G hmg=>by obtain ⟨A,fd,M,e,b⟩:=F w mg fa h KX G hmg;subst e;exact ⟨fd .law_,b,λbase _ _=>all_ok M m .law_⟩)
  (λw H a ns hl hO hS=>by obtain ⟨S',e⟩:=lt ns hl;exact Qo hO hS e) λ_ _ _ _ _ z=>z
theorem Vw (k:Nat):Nf (run (k + 1) .Ca):=λd h=>Mp h
theorem JK (k:Nat):Ga (run (k + 2) .AS):=RD (Vw k)
theorem MU (k:Nat):Jb (run (k + 1) .Cz):=OE
theorem TY (k:Nat):Lx (run (k + 2) .B9):=Mi (MU k)
theorem Mf:∀(n k:Nat),2 * n + 3<=k->FI (run k .DT) n
 | 0,k,_=>λs hs=>absurd s.depth_pos (by lia)
 | n + 1,k,h=>by
   obtain ⟨j,rfl⟩:∃j,k=j + 4:=Nat.exists_eq_add_of_le' (by lia);have ih:=Mf n (j + 2) (by lia);exact U3 (J2 ih (JK j)) (Mh ih) (Mg ih) (TY (j + 1)) (JK (j + 1))
theorem Mq (k:Nat):GG (run (k + 1) .CA):=Vl
theorem Tg (k:Nat):Ls (run (k + 2) .Bt):=Vy (Mq k)
theorem N5 (k:Nat):Jc (run (k + 1) .Bp):=Ub
theorem Me:∀(n k:Nat),n + 3<=k->HB (run k .A6) n
 | 0,k,_=>λs hs=>absurd s.depth_pos (by lia)
 | n + 1,k,h=>by
   obtain ⟨j,rfl⟩:∃j,k=j + 3:=Nat.exists_eq_add_of_le' (by lia);exact U2 (Me n (j + 2) (by lia)) (N5 (j + 1)) (Tg j)
theorem LD (k:Nat):BXw (run (k + 1) .Ce):=W5
theorem YZ (k:Nat):UXw (run (k + 2) .Bm):=Y0 (LD k)
theorem YR (k:Nat):SXw (run (k + 2) .Da):=YS (MU k) (LD k)
theorem IQ:∀(n k:Nat),2 * n + 4<=k->FK (run k .A5) n
 | 0,k,_=>λs hs=>absurd s.depth_pos (by lia)
 | n + 1,k,h=>by
   obtain ⟨j,rfl⟩:∃j,k=j + 5:=Nat.exists_eq_add_of_le' (by lia);exact OW rfl rfl rfl rfl rfl (YZ (j + 1)) (YR (j + 1)) (Mq (j + 2)) (LD (j + 2)) (N5 (j + 2)) (IQ n (j + 3) (by lia))
theorem Vq (k:Nat):RL (run (k + 11) .Bu):=Vp (IQ 3 (k + 10) (by lia))
theorem OX (k:Nat):JN (run (k + 12) .C9):=M9 (Vq k)
theorem SL (k:Nat):HC (run (k + 13) .AH):=SK (OX k)
theorem Ss (k:Nat):HC (run (k + 14) .AD):=Sq (SL k)
theorem UY (k:Nat):K1 (run (k + 15) .Cs):=SV (Ss k)
theorem Tb (k:Nat):RK (run (k + 11) .Bg):=Vo (TH (IQ 3 (k + 10) (by lia)))
theorem Qr (k:Nat):K3 (run (k + 12) .B8):=Tc (Tb k)
theorem Qj (k:Nat):HD (run (k + 1) .DH):=Qi
theorem P9 (k:Nat):Lo (run (k + 2) .Bs):=P8 (Qj k)
theorem Qc (k:Nat):Lp (run (k + 3) .Ax):=Qb (P9 k)
theorem SQ (k:Nat):N6 (run (k + 4) .Az):=SO (Qc k)
theorem WD:VBF (run 98 .BF):=Y1 (Me 3 97 (by decide)) (Mf 3 97 (by decide))
theorem Rk:Lq (run 99 .BN):=Qq WD
theorem RC:Lr (run 99 .AX):=Qs
theorem LS (k:Nat):IZ (run (k + 1) .Bq):=QL
theorem Tw (k:Nat):Lv (run (k + 2) .Bo):=QT (LS k)
theorem KN (k:Nat)(F:List (Nat×Ob)):HE F (run (k + 2) .Bo):=VZ (LS k)
theorem MX (k:Nat):PTakeOk (run (k + 1) .AY):=TB
theorem Fs (k:Nat)(F:List (Nat×Ob)):PTakeF F (run (k + 1) .AY):=Yo
theorem KP:∀(n k:Nat),n + 1<=k->PShapeOk (run k .BC) n
 | 0,k,_=>λd a b S h=>absurd h (by lia)
 | n + 1,k,h=>by
   obtain ⟨j,rfl⟩:∃j,k=j + 2:=Nat.exists_eq_add_of_le' (by lia);exact QV (MX j) (.inr (KP n (j + 1) (by lia)))
theorem M1 (F:List (Nat×Ob)):∀(n k:Nat),n + 1<=k->K5 F (run k .BD) n
 | 0,k,_=>λs a b S h=>absurd s.depth_pos (by lia)
 | n + 1,k,h=>by
   obtain ⟨j,rfl⟩:∃j,k=j + 2:=Nat.exists_eq_add_of_le' (by lia);exact ZM (Fs j F) (.inr (M1 F n (j + 1) (by lia)))
theorem SJ:Lu (run 99 .Br):=QO (MX 97) (KP 3 98 (by decide)) (Tw 96)
theorem TX (F:List (Nat×Ob)):JL F 40 (run 99 .B6):=OR (by decide) (M1 F 3 98 (by decide)) (Fs 97 F) (KN 96 F)
theorem Sa:N8 (run 99 .B5):=ST
theorem T1:K2 (run 99 .B7):=Ta (UY 83) (Qr 86) (Fs 97)
theorem law_true (ns:List Int)(h:ns.length<=63):∃S',run 100 .law_ [.scr ns] []=some (.bl true,S'):=by
 obtain ⟨r,S',e,p⟩:=ZC (Fs 98) T1 (KN 97) (SQ 95) Rk RC Sa TX SJ (ns:=ns);subst p;exact ⟨S',e⟩
end K34
namespace PySem.W.Fast
def tw1002498498543435701:=0
def tw10038194875369234051:=0
def tw10216768420807298548:=0
def tw10276877910326057265:=0
def tw10361107342342643641:=0
def tw10556651051299296185:=0
def tw10561817463234475516:=0
def tw1059439076338803225:=0
def tw10608362353073639700:=0
def tw10653120803064351791:=0
def tw10686514013236145504:=0
def tw1071036828418988788:=0
def tw10733873238601504098:=0
def tw10755682578501078185:=0
def tw10870820211902095959:=0
def tw1087896515306469790:=0
def tw10890986948341866365:=0
def tw10960077897305241788:=0
def tw11006584209567365286:=0
def tw11011249880700796940:=0
def tw11056025980792011669:=0
def tw11112255002831127023:=0
def tw11289822370944839977:=0
def tw11334777630911403044:=0
def tw11389339075393822203:=0
def tw11414761277499700070:=0
def tw11516060920340510436:=0
def tw11518342352681262801:=0
def tw11565360206782566318:=0
def tw11600318823299459798:=0
def tw11607882761545863368:=0
def tw11635312023370287513:=0
def tw11661652655132717286:=0
def tw11677995393475132738:=0
def tw11739014423413911073:=0
def tw11749560769895342053:=0
def tw11816835609381524022:=0
def tw11902314847306584394:=0
def tw11907020306047429135:=0
def tw11927916553960958979:=0
def tw12011197511109352891:=0
def tw1201237284416855554:=0
def tw1204129381155865516:=0
def tw12068105615943300382:=0
def tw12084321625916890054:=0
def tw12109395637901934962:=0
def tw12129738912715445622:=0
def tw12153352574692377068:=0
def tw1216978540354891078:=0
def tw12170070391974885297:=0
def tw12186115728187528604:=0
def tw12200799021538718644:=0
def tw12244353714528495848:=0
def tw12261541803570215968:=0
def tw12279422575418472623:=0
def tw12322789661830118264:=0
def tw12351157172627742922:=0
def tw1236721110707603851:=0
def tw1242390912344494716:=0
def tw12425261682939716435:=0
def tw12451618737815493192:=0
def tw12467987779263259526:=0
def tw125426071618600528:=0
def tw12552232080761357173:=0
def tw126382479476139131:=0
def tw12771059327105434926:=0
def tw12798434673241380591:=0
def tw12851264506398532189:=0
def tw12976913773881849647:=0
def tw13054776997591816024:=0
def tw13090226310244697374:=0
def tw13093967423181866445:=0
def tw13098621261049805182:=0
def tw13107294833998721418:=0
def tw13125652008067951270:=0
def tw13130701007590444880:=0
def tw13144345070446542031:=0
def tw13161648838599502385:=0
def tw13325344492370576197:=0
def tw1332787773523716636:=0
def tw13330344401963294812:=0
def tw1343319175926839181:=0
def tw13455182010542490630:=0
def tw1346199143741255632:=0
def tw13560185487786009657:=0
def tw13589243142605002392:=0
def tw13596894811839220453:=0
def tw13679981697181084218:=0
def tw13760816247226429289:=0
def tw1381674204201830187:=0
def tw13819683195272800292:=0
def tw13845739353795322479:=0
def tw13883757345385001348:=0
def tw13900113197521832650:=0
def tw13947004173445389195:=0
def tw13963890251372102261:=0
def tw14182743430502324306:=0
def tw14203529148865041794:=0
def tw14222106035549104651:=0
def tw1428232153405013695:=0
def tw14315960730191763210:=0
def tw14382519868816325395:=0
def tw14498952554836039563:=0
def tw14556982458477006189:=0
def tw14557578425111827475:=0
def tw14574470696453118538:=0
def tw14595097959437225219:=0
def tw14603081633777459413:=0
def tw14604812950886546049:=0
def tw14644926528315130595:=0
def tw1470388957232174295:=0
def tw14710287015305736173:=0
def tw14736739273925862598:=0
def tw14737607298944576314:=0
def tw14768365377370824843:=0
def tw14846520188703850512:=0
def tw14868901833547585340:=0
def tw14888971787401045892:=0
def tw14964017667005016424:=0
def tw14978167833091823480:=0
def tw15151621858739383292:=0
def tw15243400770421355962:=0
def tw15294524323139643760:=0
def tw1531693707238124236:=0
def tw15335503092193722579:=0
def tw15390083655993932676:=0
def tw15408003130674799884:=0
def tw15415509509792686409:=0
def tw15418623702389817802:=0
def tw15447597940903794339:=0
def tw15473422608855534345:=0
def tw15585632031451194224:=0
def tw15657639921305434747:=0
def tw15659129961402391769:=0
def tw15684895819898145550:=0
def tw15709131879637461809:=0
def tw15711903107020906513:=0
def tw15743699688049531838:=0
def tw1587080234495542384:=0
def tw16039142557254405396:=0
def tw16080723606573749277:=0
def tw16137624987939945141:=0
def tw16260977168490022451:=0
def tw16272146604823534158:=0
def tw16272312704175375112:=0
def tw16274717505436202004:=0
def tw16359044098369355085:=0
def tw16360497039308057882:=0
def tw16393624907184846420:=0
def tw16405745113133660413:=0
def tw1640912551255437234:=0
def tw16436873083024064046:=0
def tw1647543274994834917:=0
def tw16493897870559849395:=0
def tw16497504311461863780:=0
def tw16500739933641788208:=0
def tw16567575852419564841:=0
def tw16579099054076565741:=0
def tw16608473301661196018:=0
def tw16715797654118227899:=0
def tw16720477381873908595:=0
def tw16734251375359912605:=0
def tw16785750396563498079:=0
def tw16909398411827240951:=0
def tw16915910300363553914:=0
def tw16950012311020742299:=0
def tw1695468576685239112:=0
def tw17001267773585164117:=0
def tw17060707114838319354:=0
def tw17153989662139218887:=0
def tw1716634250693754692:=0
def tw17211940367618971659:=0
def tw17237766019749056100:=0
def tw17274649261662482196:=0
def tw17277836060120314145:=0
def tw17311639794297012845:=0
def tw17326768942499032599:=0
def tw1734318783786519597:=0
def tw17386861105309477377:=0
def tw17465666891153669325:=0
def tw17535883048559477104:=0
def tw17553124949498460361:=0
def tw17625118965179571581:=0
def tw17702647532189102367:=0
def tw17733011511561870239:=0
def tw17735335772925252133:=0
def tw17752884961847277127:=0
def tw17758562838234737176:=0
def tw17789074311121452637:=0
def tw17826406514755951140:=0
def tw17854087358063200061:=0
def tw17859110074289197029:=0
def tw17896928057582077515:=0
def tw17963421175177692098:=0
def tw17963501890276554063:=0
def tw17968861811045631152:=0
def tw17969239533032276496:=0
def tw18147206800881778805:=0
def tw18203543772522712314:=0
def tw18218956867703083597:=0
def tw18226595565935627280:=0
def tw1826387846372632452:=0
def tw18333368120195527983:=0
def tw1940448440473067468:=0
def tw1975533206852899356:=0
def tw2197425406606693751:=0
def tw2335568207976890096:=0
def tw2372802388732049020:=0
def tw2458039499288663421:=0
def tw2542460990988788875:=0
def tw2554230707307537214:=0
def tw2703224681285173980:=0
def tw2739765173569688044:=0
def tw2776352519457168665:=0
def tw2785964236433128708:=0
def tw2793278835128514977:=0
def tw2831069863444890393:=0
def tw2858765980687607713:=0
def tw2889722745824371782:=0
def tw2892298558527086205:=0
def tw2943093298982926711:=0
def tw2947380375948944345:=0
def tw2985510163002771554:=0
def tw3019797300402936031:=0
def tw310705432558437530:=0
def tw3119788484250035909:=0
def tw3140380081561463490:=0
def tw3146019934001790639:=0
def tw3163745163096985127:=0
def tw318715967975367356:=0
def tw3290881484972300396:=0
def tw3341378063482044157:=0
def tw3430597260129087561:=0
def tw3461230357145683991:=0
def tw3523900233587848949:=0
def tw3558755702715883329:=0
def tw3577246629458133361:=0
def tw364212713577931297:=0
def tw364406809749012334:=0
def tw3780603179642509355:=0
def tw3869296077998792550:=0
def tw3885030138998582276:=0
def tw3932620033298709770:=0
def tw3953137684771760269:=0
def tw3970260442933829465:=0
def tw4011625767624364876:=0
def tw4086838058657621895:=0
def tw4090637015953427800:=0
def tw413797903566782103:=0
def tw415901200258392659:=0
def tw4196229531396330607:=0
def tw4223522862187634314:=0
def tw4259971140380178457:=0
def tw4273392628687697140:=0
def tw4378038081278056742:=0
def tw4381524297921543725:=0
def tw44440538799584846:=0
def tw4448775530540612192:=0
def tw4452496223201955837:=0
def tw4474995004280494891:=0
def tw4496378061541718742:=0
def tw4540673744476620501:=0
def tw4546131229768068409:=0
def tw4621539509818684309:=0
def tw4647263768748445305:=0
def tw4709103859003278386:=0
def tw4751309920947818796:=0
def tw4771926100146791175:=0
def tw4802556091502728154:=0
def tw4821915648975444875:=0
def tw4848570226645465189:=0
def tw4884974567006128227:=0
def tw4915324523763185761:=0
def tw4953188207654363262:=0
def tw4965395030424727487:=0
def tw5123958563268838480:=0
def tw5159672262645824480:=0
def tw5161793977649065202:=0
def tw5166360809808923333:=0
def tw5207540103411529430:=0
def tw5222900120946930191:=0
def tw5318881523053324938:=0
def tw5338130898638859264:=0
def tw5390749154149693530:=0
def tw5405193086269041377:=0
def tw5426041001274180204:=0
def tw545438058433738251:=0
def tw5516607184114907866:=0
def tw552557243283765540:=0
def tw5532236864377058991:=0
def tw5674006073906829686:=0
def tw5713269303389344615:=0
def tw5816197433119256874:=0
def tw5826368937957625439:=0
def tw5836592392936625571:=0
def tw5864876769307803744:=0
def tw5876961868727209895:=0
def tw5916400839022811272:=0
def tw5937141802926564914:=0
def tw5958933851440355173:=0
def tw5964930380130500644:=0
def tw5983072990333899711:=0
def tw5993269771168620458:=0
def tw6089410460143320688:=0
def tw6093483504692918514:=0
def tw6104426301940182178:=0
def tw6161587453867213561:=0
def tw6186364748278923049:=0
def tw6223534894951383337:=0
def tw6228199451949995082:=0
def tw6231984529709329554:=0
def tw6401283328282593592:=0
def tw642489888793602831:=0
def tw6428720875274260805:=0
def tw6429731528097461334:=0
def tw6531832612739174872:=0
def tw6616892644721286980:=0
def tw6617062913210788860:=0
def tw6677381663802759247:=0
def tw6684012811777945194:=0
def tw6695551056292952297:=0
def tw6710362294585625162:=0
def tw6818800940983964499:=0
def tw6860240910545616325:=0
def tw6869270228649778405:=0
def tw697371814578913116:=0
def tw7054879080941578715:=0
def tw7062645810408371989:=0
def tw7085498088765483919:=0
def tw7098041071862433219:=0
def tw7101098973205211173:=0
def tw7136858400125847262:=0
def tw7173778691189229443:=0
def tw7206410526044669857:=0
def tw7223438910717977815:=0
def tw7306879307018624391:=0
def tw7319487921510497665:=0
def tw7349155494704259896:=0
def tw7370699514346201092:=0
def tw7430569063105157468:=0
def tw7496924293296882450:=0
def tw7563885417034427840:=0
def tw7661113968709442939:=0
def tw7699925258564702678:=0
def tw7751096536655192244:=0
def tw7757731567774125162:=0
def tw7772967764898042608:=0
def tw7882813543499533085:=0
def tw792493053595358148:=0
def tw8062671856726270921:=0
def tw8133104907885693299:=0
def tw8167910197415805934:=0
def tw8169319569634787858:=0
def tw8197866720637995529:=0
def tw8240205106354230180:=0
def tw826779803971290457:=0
def tw8310488150180083573:=0
def tw8321278207032686374:=0
def tw8362365526630698810:=0
def tw8399092051823369282:=0
def tw8428187792198327287:=0
def tw8443394032640111320:=0
def tw8520403646844361190:=0
def tw8555308545520900094:=0
def tw8711142828162732868:=0
def tw8747701347419098478:=0
def tw8785951622375288051:=0
def tw8906771337817231080:=0
def tw8916556687709839195:=0
def tw8933358699529190671:=0
def tw8948243882651165645:=0
def tw9022876116382281004:=0
def tw9036384137178321066:=0
def tw9083937796313713840:=0
def tw9175100309943010621:=0
def tw9270794713122086287:=0
def tw9287826941766771940:=0
def tw9295701276058859058:=0
def tw9300038488770897460:=0
def tw9325954430428916789:=0
def tw932631534166361517:=0
def tw9405146766221591386:=0
def tw9419724487914076545:=0
def tw9654260277879848994:=0
def tw9664386992570033172:=0
def tw9699833863444534169:=0
def tw9716948800845462577:=0
def tw9718779083135672594:=0
def tw9773306499136017909:=0
def tw9863677226762508384:=0
def tw9888951937717697018:=0
def tw9895258418342978635:=0
def tw9939802831952450287:=0
def tw9940692816827178686:=0
end PySem.W.Fast
open PySem PySem.W PyProof.Rows
set_option maxRecDepth 100000 in
set_option maxHeartbeats 0 in
theorem PySem.Challenge.cw_wireparley_k34_two_readers_holds : PySem.Challenge.rw_wireparley_k34_two_readers.Holds := by
 w_on;o_law;k_head;(case hw=>w_witness2)
 k_fill
 refine K34.walk (l:=PySem.Challenge.rw_wireparley_k34_two_readers) 100 ⟨rfl,by decide,by decide⟩ rfl rfl (λw h Y=>PySem.W.kIn_of Y) K34.law_true ?F
 case F=>
  intro w mg fa h KX G hmg;refine' K34.fin_mk KX G hmg ?H ?dZ ?eA ?eE ?d8 ?eK ?dS ?eJ ?eM ?dN ?eL ?dJ ?d6 ?d7 ?d5 ?dH ?xm ?eS ?eH ?eP ?eD ?eR ?eT ?dG ?d4 ?eN ?eO ?dL ?dQ ?d9 ?eQ
  (case H=>intro x;cases x <;> first | (refine' K34.at_mk rfl ?a ?l ?c ?k;(case a=>k_is);(case l=>k_is);(case c=>k_is);(case k=>k_is)) | (refine' K34.W0 rfl ?h ?a ?l ?c ?k ?t;(case h=>k_is);(case a=>k_is);(case l=>k_is);(case c=>k_is);(case k=>k_is);(case t=>k_is)))
  (case eS=>k_is)
  (case eH=>k_is)
  (case eP=>k_is)
  (case eD=>k_is)
  (case eR=>k_is)
  (case eT=>k_is)
  (case dG=>k_is)
  (case d4=>k_is)
  (case eN=>kernel_rfl)
  (case eO=>kernel_rfl)
  (case dL=>kernel_rfl)
  (case dQ=>kernel_rfl)
  (case d9=>kernel_rfl)
  (case eQ=>kernel_rfl)
  (case dZ=>k_is)
  (case eA=>k_is)
  (case eE=>k_is)
  (case d8=>k_is)
  (case eK=>k_is)
  (case dS=>k_is)
  (case eJ=>k_is)
  (case eM=>k_is)
  (case dN=>k_is)
  (case eL=>k_is)
  (case dJ=>k_is)
  (case d6=>k_is)
  (case d7=>k_is)
  (case d5=>k_is)
  (case dH=>k_is)
  (case xm=>refine' K34.xm_all KX G ?x_p ?x_a1 ?x_a2 ?x_a3 ?x_q ?x_nd ?y_fi ?y_l ?y_ii ?y_hf ?y_hs ?y_cc ?y_k ?x_n1 ?x_n2;(case x_p=>k_is);(case x_a1=>k_is);(case x_a2=>k_is);(case x_a3=>k_is);(case x_q=>kernel_rfl);(case x_nd=>decide);(case y_fi=>k_is);(case y_l=>k_is);(case y_ii=>kernel_rfl);(case y_hf=>k_is);(case y_hs=>k_is);(case y_cc=>k_is);(case y_k=>k_is);(case x_n1=>kernel_rfl);(case x_n2=>kernel_rfl))
