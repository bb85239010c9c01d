import PyProof.Rows.All
import Wide.All
import OpenK.AllK
import Wide.FinOn
import Lean
import PyProof.EqAt
import PyProof.EqKinds
import PyProof.TupleCall
import PyProof.NeKinds
import PyProof.ListMulRoad
import PyProof.MaxThree
import PyProof.Rows.StrJoinMade
import PyProof.ListStr
import PyProof.Rows.MinMaxN
import PyProof.Rows.Range3
import PyProof.ListRange
import PyProof.Rows.SetFrom
import PyProof.Rows.StrCase
import PyProof.SumAny
import PyProof.AutoIntG2
import PyProof.AutoListH
import PyProof.EnumStmt
import PyProof.EnumFor
import PyProof.EnumMake
import PyProof.Rows.EnumRows
import PyProof.ConsumeS
import PyProof.ZipIter
import PyProof.Rows.SortWalk
import KE.KDictSum
import KE.KEqDict
import PyProof.ExcClass2
import PyProof.RaisesMany
import PyProof.ExcBaseAll.ValueError
import PyProof.RulesDel
import PyProof.RulesAs
import PyProof.ExcArgs
import KE.KDictOf
import PyProof.AttrMissHeap
import KE.KMinKey
import PyProof.Rows.CallKwBuiltin
import PySem.Challenge.RW_wireparley_k51_parting_values
noncomputable section
open PySem.W (codeIn)
abbrev ua0:=@PyProof.Rows.slot_tuple_getitem
abbrev ua1:=@List.eq_nil_of_length_eq_zero
abbrev ua2:=@PyProof.Rows.callWith_type1
abbrev ua3:=@PySem.F.slot_int_bit_length
abbrev ua4:=@Int.fdiv_eq_ediv_of_nonneg
abbrev ua5:=@List.getElem?_append_right
abbrev ua6:=@List.getD_eq_getElem?_getD
abbrev ua7:=@Array.getElem?_eq_some_iff
abbrev ua8:=@List.getElem?_eq_some_iff
abbrev ua9:=@List.getElem?_append_left
abbrev ub0:=@List.drop_eq_getElem_cons
abbrev ub1:=@PySem.F.args_tuple_add_2
abbrev ub2:=@List.getElem?_eq_getElem
abbrev ub3:=@List.getElem?_replicate
abbrev ub4:=@PySem.F.entry_tuple_add
abbrev ub5:=@List.length_eq_zero_iff
abbrev ub6:=@PySem.F.plainAttrs_list
abbrev ub7:=@Int.eq_ofNat_of_zero_le
abbrev ub8:=@List.getElem?_set_self
abbrev ub9:=@PySem.Heap.get?_push_of_some
abbrev uc0:=@PySem.F.slot_tuple_add
abbrev uc1:=@PySem.Heap.get?_update_other
abbrev uc2:=@Option.map_eq_some_iff
abbrev uc3:=@List.take_of_length_le
abbrev uc4:=@PySem.F.entry_min_loop
abbrev uc5:=@PySem.F.plain_min_loop
abbrev uc6:=@Nat.le_of_succ_le_succ
abbrev uc7:=@Nat.lt_of_succ_lt_succ
abbrev uc8:=@List.mem_append_right
abbrev uc9:=@List.length_replicate
abbrev ud0:=@PySem.Heap.get?_update_self
abbrev ud1:=@List.length_singleton
abbrev ud2:=@Bool.and_eq_false_iff
abbrev ud3:=@List.mem_iff_getElem?
abbrev ud4:=@List.take_append_drop
abbrev ud5:=@List.length_filter_le
abbrev ud6:=@List.mem_cons_of_mem
abbrev ud7:=@List.mem_append_left
abbrev ud8:=@List.getElem?_set_ne
abbrev ud9:=@List.mem_of_getElem?
abbrev ue0:=@Bool.or_eq_false_iff
abbrev ue1:=@List.forall_mem_cons
abbrev ue2:=@Int.le_of_lt_add_one
abbrev ue3:=@Nat.mul_le_mul_right
abbrev ue4:=@Nat.add_le_add_right
abbrev ue5:=@List.filterMap_cons
abbrev ue6:=@Array.length_toList
abbrev ue7:=@PySem.Heap.get?_push_size
abbrev ue8:=@List.replicate_succ
abbrev ue9:=@List.map_congr_left
abbrev uf0:=@Int.toNat_of_nonneg
abbrev uf1:=@PySem.Heap.SameBut.update
abbrev uf2:=@List.mem_map_of_mem
abbrev uf3:=@Nat.mul_le_mul_left
abbrev uf4:=@Nat.add_le_add_left
abbrev uf5:=@Nat.lt_of_lt_of_le
abbrev uf6:=@List.mem_cons_self
abbrev uf7:=@Bool.false_ne_true
abbrev uf8:=@Int.natCast_nonneg
abbrev uf9:=@PySem.W.callWith_K
abbrev ug0:=@List.length_append
abbrev ug1:=@Bool.false_eq_true
abbrev ug2:=@List.mem_singleton
abbrev ug3:=@List.contains_cons
abbrev ug4:=@Int.emod_lt_of_pos
abbrev ug5:=@Nat.lt_of_le_of_lt
abbrev ug6:=@PySem.W.mg_none_of
abbrev ug7:=@List.size_toArray
abbrev ug8:=@List.getElem?_map
abbrev ug9:=@List.flatten_cons
abbrev uh0:=@List.append_assoc
abbrev uh1:=@Bool.eq_false_iff
abbrev uh2:=@Nat.lt_succ_of_lt
abbrev uh3:=@List.getElem?_set
abbrev uh4:=@Int.toNat_natCast
abbrev uh5:=@Bool.not_eq_true'
abbrev uh6:=@Nat.le_succ_of_le
abbrev uh7:=@decide_eq_true_eq
abbrev uh8:=@of_decide_eq_true
abbrev uh9:=@List.getElem_inj
abbrev ui0:=@List.length_take
abbrev ui1:=@List.length_drop
abbrev ui2:=@Bool.and_eq_true
abbrev ui3:=@List.lookup_cons
abbrev ui4:=@Nat.lt_succ_self
abbrev ui5:=@List.drop_length
abbrev ui6:=@Nat.le_add_right
abbrev ui7:=@List.all_eq_true
abbrev ui8:=@List.not_mem_nil
abbrev ui9:=@List.length_cons
abbrev uj0:=@List.getElem_mem
abbrev uj1:=@Option.bind_some
abbrev uj2:=@List.filter_cons
abbrev uj3:=@Nat.succ_le_succ
abbrev uj4:=@List.cons_append
abbrev uj5:=@Nat.zero_lt_succ
abbrev uj6:=@Nat.succ_lt_succ
abbrev uj7:=@beq_self_eq_true
abbrev uj8:=@List.mem_filter
abbrev uj9:=@List.mem_append
abbrev uk0:=@Option.some.inj
abbrev uk1:=@PySem.W.kia_one
abbrev uk2:=@List.append_nil
abbrev uk3:=@List.nodup_cons
abbrev uk4:=@List.of_mem_zip
abbrev uk5:=@List.length_map
abbrev uk6:=@List.length_set
abbrev uk7:=@List.nil_append
abbrev uk8:=@List.forIn_cons
abbrev uk9:=@Option.map_some
abbrev ul0:=@Bool.or_eq_true
abbrev ul1:=@Bool.eq_iff_iff
abbrev ul2:=@Nat.not_lt_zero
abbrev ul3:=@List.map_append
abbrev ul4:=@Int.emod_nonneg
abbrev ul5:=@List.length_nil
abbrev ul6:=@decide_eq_false
abbrev ul7:=@List.mem_range
abbrev ul8:=@Bool.false_and
abbrev ul9:=@Bool.and_false
abbrev um0:=@PySem.Heap.size_push
abbrev um1:=@List.drop_zero
abbrev um2:=@Int.add_nonneg
abbrev um3:=@decide_eq_true
abbrev um4:=@Nat.lt_irrefl
abbrev um5:=@List.mem_cons
abbrev um6:=@List.all_cons
abbrev um7:=@List.any_cons
abbrev um8:=@List.map_cons
abbrev um9:=@Bool.true_and
abbrev un0:=@Bool.and_true
abbrev un1:=@Nat.add_assoc
abbrev un2:=@PySem.W.mg_of
abbrev un3:=@PySem.wpAny_holding
abbrev un4:=@PySem.Heap.lt_size
abbrev un5:=@Nat.ne_of_lt
abbrev un6:=@Nat.le_trans
abbrev un7:=@Nat.le_of_lt
abbrev un8:=@Nat.ne_of_gt
abbrev un9:=@Nat.succ_mul
abbrev uo0:=@Nat.mul_comm
abbrev uo1:=@List.map_nil
abbrev uo2:=@List.all_map
abbrev uo3:=@Bool.or_true
abbrev uo4:=@Nat.pow_succ
abbrev uo5:=@List.mem_map
abbrev uo6:=@List.map_map
abbrev uo7:=@Int.zero_add
abbrev uo8:=@Int.le_trans
abbrev uo9:=@Int.le_of_lt
abbrev up0:=@Int.ofNat_le
abbrev up1:=@Int.ofNat_lt
abbrev up2:=@Nat.succ.inj
abbrev up3:=@Nat.le_refl
abbrev up4:=@Nat.le_succ
abbrev up5:=@Nat.zero_le
abbrev up6:=@Nat.mul_add
abbrev up7:=@PySem.wpAny_field
abbrev up8:=@PySem.wpAny_bind
abbrev up9:=@PySem.wpAny_pure
abbrev uq0:=@PySem.wpAny_mono
set_option Elab.async false
set_option linter.all false
set_option maxRecDepth 100000
local macro_rules | `(tactic| walk_at "h") => `(tactic| first | exact Or.inl rfl | exact Or.inr rfl | exact Or.inr (Or.inl rfl) | exact Or.inr (Or.inr rfl) | assumption)
namespace L2
open PySem PySem.Spec PyProof.Rows
abbrev Key:=Sum Int Str
noncomputable def Sg:Key->Value->Bool
 | .inl k,v=>Value.isInt k v
 | .inr x,v=>Value.isStrOf x v
noncomputable def YS (w:World):Key->Int
 | .inl k=>hashInt k
 | .inr x=>hashStr w x
theorem BG:∀{k:Key} {v:Value},Sg k v=true->(∃i t,k=Sum.inl i/\v=Value.int i t)\/(∃x t,k=Sum.inr x/\v=Value.str x t)
 | .inl i,v,h=>by
   obtain ⟨t,e⟩:=Value.isInt_shape (k:=i) (v:=v) h;exact .inl ⟨i,t,rfl,e⟩
 | .inr x,v,h=>by
   obtain ⟨t,e⟩:=Value.isStrOf_shape (x:=x) (v:=v) h;exact .inr ⟨x,t,rfl,e⟩
theorem V0 (a b:Int):decide ((Sum.inl a:Key)=Sum.inl b)=(a == b):=by
 by_cases e:a=b
 ·subst e;simp
 ·have h:¬(Sum.inl a:Key)=Sum.inl b:=λq=>e (Sum.inl.inj q);rw [ul6 h];exact (beq_eq_false_iff_ne.mpr e).symm
theorem V3 (a b:Str):decide ((Sum.inr a:Key)=Sum.inr b)=decide (a=b):=by
 by_cases e:a=b
 ·subst e;simp
 ·have h:¬(Sum.inr a:Key)=Sum.inr b:=λq=>e (Sum.inr.inj q);rw [ul6 h,ul6 e]
theorem V1 (a:Int)(b:Str):decide ((Sum.inl a:Key)=Sum.inr b)=false:=ul6 (λq=>nomatch q)
theorem V2 (a:Str)(b:Int):decide ((Sum.inr a:Key)=Sum.inl b)=false:=ul6 (λq=>nomatch q)
def JA (prog:Program)(w:World):PySem.KeyKind prog w Key where
 is:=Sg
 hash:=YS w
 inj:=λv a b ha hb=>by
  rcases BG ha with ⟨i,t,rfl,rfl⟩ | ⟨x,t,rfl,rfl⟩
  ·rcases BG hb with ⟨j,u,rfl,e⟩ | ⟨y,u,rfl,e⟩
   ·injection e with e1 _;rw [e1]
   ·exact nomatch e
  ·rcases BG hb with ⟨j,u,rfl,e⟩ | ⟨y,u,rfl,e⟩
   ·exact nomatch e
   ·injection e with e1 _;rw [e1]
 byValue:=λk v h=>by
  rcases BG h with ⟨i,t,rfl,rfl⟩ | ⟨x,t,rfl,rfl⟩ <;> rfl
 pyHash:=λhv h=>by
  rcases BG hv with ⟨i,t,rfl,rfl⟩ | ⟨x,t,rfl,rfl⟩
  ·exact wpAny_pyHash_int h
  ·exact wpAny_pyHash_str h
 eqBool:=λhu hv h=>by
  rcases BG hu with ⟨i,t,rfl,rfl⟩ | ⟨x,t,rfl,rfl⟩
  ·rcases BG hv with ⟨j,u,rfl,rfl⟩ | ⟨y,u,rfl,rfl⟩
   ·rw [V0] at h;exact wpAny_eqBool_int h
   ·rw [V1] at h;exact SeqAt.EqAt.int_str i t y u _ _ _ _ h
  ·rcases BG hv with ⟨j,u,rfl,rfl⟩ | ⟨y,u,rfl,rfl⟩
   ·rw [V2] at h;exact SeqAt.EqAt.str_int x t j u _ _ _ _ h
   ·rw [V3] at h;exact wpAny_eqBool_str h
 «strs»:=λk x t v h=>by
  rcases BG h with ⟨i,u,rfl,e⟩ | ⟨y,u,rfl,e⟩
  ·exact nomatch e
  ·injection e with e1 _
   subst e1
   cases v <;> rfl
inductive V where
 | non | bl (b:Bool) | int (i:Int) | str (x:Str) | byt (b:Array UInt8) | flt (b:UInt64) | ref (a:Addr) | ty (n:String)
 deriving DecidableEq
noncomputable def RelV:V->Value->Prop
 | .non,u=>u=Value.none
 | .bl b,u=>u=Value.bool b
 | .int i,u=>∃t,u=Value.int i t
 | .str x,u=>∃t,u=Value.str x t
 | .byt b,u=>∃t,u=Value.bytes b t
 | .flt b,u=>∃t,u=Value.float b t
 | .ref a,u=>u=Value.ref a
 | .ty n,u=>u=Value.type n
abbrev Vals:List V->List Value->Prop:=Paired RelV
theorem Vals.length {xs:List V}{us:List Value}(r:Vals xs us):xs.length=us.length:=Paired.length r
theorem Vals.get:∀{xs:List V} {us:List Value} {i:Nat} {x:V},Vals xs us->xs[i]?=some x->∃u,us[i]?=some u/\RelV x u
 | _,_,_,_,.nil,e=>by simp at e
 | _,_,0,_,.cons r _,e=>by simp at e;subst e;exact ⟨_,rfl,r⟩
 | _,_,i + 1,x,.cons _ t,e=>by
   obtain ⟨u,h1,h2⟩:=Vals.get (i:=i) (x:=x) t (by simpa using e);exact ⟨u,by simpa using h1,h2⟩
theorem Vals.set {x:V}{u:Value}(r:RelV x u):∀{xs:List V} {us:List Value} (i:Nat),Vals xs us->Vals (xs.set i x) (us.set i u)
 | _,_,_,.nil=>.nil
 | _,_,0,.cons _ t=>.cons r t
 | _,_,i + 1,.cons q t=>.cons q (Vals.set r i t)
theorem Vals.append {xs ys:List V}{us ws:List Value}(r:Vals xs us)(s:Vals ys ws):Vals (xs++ys) (us++ws):=by
 cases r with
 | nil=>exact s
 | cons r t=>exact .cons r (Vals.append t s)
theorem Vals.take:∀{xs:List V} {us:List Value} (n:Nat),Vals xs us->Vals (xs.take n) (us.take n)
 | _,_,0,_=>.nil
 | _,_,_ + 1,.nil=>.nil
 | _,_,n + 1,.cons r t=>.cons r (Vals.take n t)
theorem Vals.drop:∀{xs:List V} {us:List Value} (n:Nat),Vals xs us->Vals (xs.drop n) (us.drop n)
 | _,_,0,r=>r
 | _,_,_ + 1,.nil=>.nil
 | _,_,n + 1,.cons _ t=>Vals.drop n t
def P9:Option V->Option Value->Prop
 | some v,some u=>RelV v u
 | none,none=>True
 | _,_=>False
def KV {κ:Type}:List (κ×V)->List (κ×Value)->Prop:=Paired λ(p:κ×V) (q:κ×Value)=>p.1=q.1/\RelV p.2 q.2
noncomputable def kV:Key->V
 | .inl i=>.int i
 | .inr x=>.str x
inductive HO where
 /-- a list -/
 | lst (xs:List V)
 /-- a tuple (never changes) -/
 | tup (xs:List V)
 /-- a dict whose keys are ints and texts;one whose keys are tuples of ints and texts (the empty one is both) -/
 | dK (kvs:List (Key×V)) | dT (kvs:List (List Key×V))
 /-- a set of ints: its members,its size -/
 | set (S:Int->Bool) (n:Nat)
 /-- an instance of the class at C,its dict at dx,its attributes -/
 | ins (C dx:Addr) (fs:List (Str×V))
 /-- the dict of the instance at x -/
 | own (x:Addr)
 /-- the dict of an exception -/
 | xd (fs:List (Str×V))
 /-- a bound method,f of x -/
 | met (f x:Addr)
 /-- a range object lo,lo + 1,.. below hi -/
 | rng (lo hi:Int)
 /-- a thing that is known to the object (the script;a dict while a loop walks it): read,never written while it is so -/
 | frz (o:Obj) (u:HO)
 /-- a code object's table -/
 | tbl (ps:Array Value)
 /-- any other thing,by what is true of its one object (a def of one's own: SetO a S n:=HO.ext λh=>..) -/
 | ext (φ:Heap->Prop)
abbrev Hp:=Addr->Option HO
noncomputable def upd (H:Hp)(a:Addr)(o:HO):Hp:=λb=>if b=a then some o else H b
variable {H:Hp}{a:Addr}
theorem AD {o:HO}:upd H a o a=some o:=by unfold upd;rw [if_pos rfl]
variable {b:Addr}
theorem As {o:HO}(h:b≠a):upd H a o b=H b:=by unfold upd;rw [if_neg h]
theorem Ay {o:HO}(h:H a=some o)(h':H b=none):a≠b:=by
 intro e;subst e;rw [h] at h';cases h'
section
variable (P:Program)(w:World)
def ObjOk (H:Hp)(h:Heap)(a:Addr):HO->Prop
 | .lst xs=>xs.length<=sizeLine/\∃(its:List Value) (n:Nat),Vals xs its/\h.get? a=some { cls:=.type "list",data:=.seq its.toArray n }
 | .tup xs=>xs.length<=sizeLine/\∃its:List Value,Vals xs its/\IsTup h a its.toArray
 | .dK kvs=>kvs.length<=sizeLine/\(a == sysModules)=false/\∃vs,KV kvs vs/\h.DictOf (JA P w) a vs
 | .dT kvs=>kvs.length<=sizeLine/\(a == sysModules)=false/\∃xs:List (List Key×Addr×Value),
    Paired (λ(p:List Key×V) (q:List Key×Addr×Value)=>p.1=q.1/\H q.2.1=some (.tup (p.1.map kV))/\RelV p.2 q.2.2) kvs xs/\
    ∃o es ep,h.get? a=some o/\o.ExactDict/\o.data = .dict es ep/\es.toList=xs.map (entryOfKey (tupleKind (JA P w)))/\(xs.map (·.1)).Nodup
 | .set S n=>h.SetOf (intKind P w) a S n
 | .ins C dx fs=>H dx=some (.own a)/\fs.length<=1000/\dx≠a/\h.get? a=some (PySem.W.instObj C dx)/\
    ∃mA,h.Ns1 dx mA/\(∀f,P9 (fs.lookup f) (mA f))/\PySem.Within mA (fs.map (·.1))
 | .own _=>∃o,h.get? a=some o
 | .xd fs=>∃mA,h.Ns1 a mA/\∀f,P9 (fs.lookup f) (mA f)
 | .rng lo hi=>∃t u v,h.get? a=some { cls:=.type "range",data:=.fields #[.int lo t,.int hi u,.int 1 v] }
 | .frz o u=>h.get? a=some o/\ObjOk H h a u
 | .tbl ps=>h.get? a=some { cls:=.none,data:=.fields ps }
 | .met f x=>h.get? a=some (PySem.W.methodObj (.ref f) (.ref x))
 | .ext φ=>φ h/\(∃o,h.get? a=some o)/\∀h1 h2:Heap,φ h1->(∀o,h1.get? a=some o->h2.get? a=some o)->φ h2
def HOk (H:Hp)(h:Heap):Prop:=∀a o,H a=some o->ObjOk P w H h a o
end
section
variable {P:Program}{w:World}{H H':Hp}{h h':Heap}{a:Addr}{o:HO}
theorem ObjOk.lt (x:ObjOk P w H h a o):a < h.objs.size:=by
 cases o with
 | lst xs=>obtain ⟨_,_,_,_,e⟩:=x;exact un4 e
 | tup xs=>obtain ⟨_,_,_,p⟩:=x;exact p.lt
 | dK kvs=>obtain ⟨_,_,_,_,o,_,_,e,_⟩:=x;exact un4 e
 | dT kvs=>obtain ⟨_,_,_,_,o,_,_,e,_⟩:=x;exact un4 e
 | set S n=>obtain ⟨o,_,_,_,e,_⟩:=x;exact un4 e
 | ins C dx fs=>obtain ⟨_,_,_,e,_⟩:=x;exact un4 e
 | own y=>obtain ⟨_,e⟩:=x;exact un4 e
 | xd fs=>obtain ⟨_,⟨_,_,_,e,_⟩,_⟩:=x;exact un4 e
 | rng lo hi=>obtain ⟨_,_,_,e⟩:=x;exact un4 e
 | frz ob u=>obtain ⟨e,_⟩:=x;exact un4 e
 | tbl ps=>exact un4 (show h.get? a=some _ from x)
 | met f y=>exact un4 (show h.get? a=some _ from x)
 | ext φ=>obtain ⟨_,⟨_,e⟩,_⟩:=x;exact un4 e
theorem Paired.mapP {α β:Type}{F G:α->β->Prop}:∀{l₁:List α} {l₂:List β},Paired F l₁ l₂->(∀a b,F a b->G a b)->Paired G l₁ l₂
 | _,_,.nil,_=>.nil
 | _,_,.cons r t,f=>.cons (f _ _ r) (Paired.mapP t f)
theorem ObjOk.stay (x:ObjOk P w H h a o)(k:∀b u,(b=a\/H b=some (.own a))->h.get? b=some u->h'.get? b=some u)
 (ho:∀b,H b=some (.own a)->H' b=some (.own a)) (ht:∀b xs,H b=some (.tup xs)->H' b=some (.tup xs)):ObjOk P w H' h' a o:=by
 induction o with
 | lst xs=>obtain ⟨z,its,n,r,e⟩:=x;exact ⟨z,its,n,r,k _ _ (.inl rfl) e⟩
 | tup xs=>obtain ⟨z,its,r,ob,e,c⟩:=x;exact ⟨z,its,r,ob,k _ _ (.inl rfl) e,c⟩
 | dK kvs=>obtain ⟨z,y,vs,r,ob,es,ep,e,c⟩:=x;exact ⟨z,y,vs,r,ob,es,ep,k _ _ (.inl rfl) e,c⟩
 | dT kvs=>
   obtain ⟨z,y,xs,r,ob,es,ep,e,c⟩:=x;exact ⟨z,y,xs,Paired.mapP r λp q z=>⟨z.1,ht _ _ z.2.1,z.2.2⟩,ob,es,ep,k _ _ (.inl rfl) e,c⟩
 | set S n=>obtain ⟨ob,es,ep,t,e,c⟩:=x;exact ⟨ob,es,ep,t,k _ _ (.inl rfl) e,c⟩
 | ins C dx fs=>
   obtain ⟨d,z,ne,e,mA,⟨od,es,ep,e2,c⟩,r⟩:=x;exact ⟨ho _ d,z,ne,k _ _ (.inl rfl) e,mA,⟨od,es,ep,k _ _ (.inr d) e2,c⟩,r⟩
 | own y=>obtain ⟨ob,e⟩:=x;exact ⟨ob,k _ _ (.inl rfl) e⟩
 | xd fs=>obtain ⟨mA,⟨od,es,ep,e,c⟩,r⟩:=x;exact ⟨mA,⟨od,es,ep,k _ _ (.inl rfl) e,c⟩,r⟩
 | rng lo hi=>obtain ⟨t,u,v,e⟩:=x;exact ⟨t,u,v,k _ _ (.inl rfl) e⟩
 | frz ob u ih=>obtain ⟨e,q⟩:=x;exact ⟨k _ _ (.inl rfl) e,ih q⟩
 | tbl ps=>
   have e:h.get? a=some { cls:=.none,data:=.fields ps }:=x;show h'.get? a=some { cls:=.none,data:=.fields ps };exact k a _ (.inl rfl) e
 | met f y=>
   have e:h.get? a=some (PySem.W.methodObj (.ref f) (.ref y)):=x;show h'.get? a=some (PySem.W.methodObj (.ref f) (.ref y));exact k a _ (.inl rfl) e
 | ext φ=>obtain ⟨p,⟨o,e⟩,st⟩:=x;exact ⟨st _ _ p λo q=>k _ _ (.inl rfl) q,⟨o,k _ _ (.inl rfl) e⟩,st⟩
theorem HOk.lt (x:HOk P w H h)(e:H a=some o):a < h.objs.size:=(x a o e).lt
theorem HOk.fresh (x:HOk P w H h)(e:h.objs.size<=a):H a=none:=by
 cases q:H a with
 | none=>rfl
 | some u=>exact absurd (uf5 (x.lt q) e) (um4 _)
theorem HOk.kept (x:HOk P w H h)(k:∀b u,h.get? b=some u->h'.get? b=some u):HOk P w H h':=λa o e=>
 (x a o e).stay (λb u _ q=>k b u q) (λ_ q=>q) λ_ _ q=>q
theorem HOk.laid (x:HOk P w H h)(k:∀b u,h.get? b=some u->h'.get? b=some u)(hp:h.objs.size<=a)(new:ObjOk P w (upd H a o) h' a o):HOk P w (upd H a o) h':=λb u e=>by
 have hn:=x.fresh hp
 by_cases hb:b=a
 ·subst hb;rw [AD] at e;cases e;exact new
 ·rw [As hb] at e;exact (x b u e).stay (λc v _ q=>k c v q) (λc q=>by rw [As (Ay q hn)];exact q) λc xs q=>by rw [As (Ay q hn)];exact q
end
def Rd (H:Hp)(a:Addr)(u:HO):Prop:=H a=some u\/∃o,H a=some (.frz o u)
variable {P:Program}{w:World}{h:Heap}
theorem Rd.ok {u:HO}(r:Rd H a u)(x:HOk P w H h):ObjOk P w H h a u:=by
 rcases r with r | ⟨o,r⟩
 ·exact x a u r
 ·obtain ⟨_,q⟩:=x a _ r;exact q
def Mut:Option HO->Prop
 | some (.lst _)=>True
 | some (.dK _)=>True
 | some (.dT _)=>True
 | some (.set _ _)=>True
 | some (.ins _ _ _)=>True
 | some (.ext _)=>True
 | _=>False
section
variable {P:Program}{w:World}{H:Hp}{h h':Heap}{x e:Addr}{o':HO}
theorem HOk.write (ok:HOk P w H h)(mu:Mut (H x))(he:e=x\/H e=some (.own x))(k:∀b u,b≠e->h.get? b=some u->h'.get? b=some u)(heo:∃u,h'.get? e=some u)
 (new:ObjOk P w (upd H x o') h' x o'):HOk P w (upd H x o') h':=λb u q=>by
 have nown:∀c y,H c=some (.own y)->c≠x:=λc y r z=>by subst z;rw [r] at mu;exact mu
 have ntup:∀c xs,H c=some (.tup xs)->c≠x:=λc xs r z=>by subst z;rw [r] at mu;exact mu
 by_cases hb:b=x
 ·subst hb;rw [AD] at q;cases q;exact new
 ·rw [As hb] at q
  by_cases hbe:b=e
  ·have q':H b=some (.own x):=by
    rcases he with z | z
    ·exact absurd (hbe.trans z) hb
    ·rw [hbe];exact z
   rw [q] at q';cases q'
   obtain ⟨v,hv⟩:=heo;exact ⟨v,by rw [hbe];exact hv⟩
  ·refine (ok b u q).stay (λc v hc r=>k c v ?_ r) (λc r=>by rw [As (nown c b r)];exact r) λc xs r=>by rw [As (ntup c xs r)];exact r
   rcases hc with rfl | hc
   ·exact hbe
   ·rintro rfl;rcases he with z | z
    ·exact nown c b hc z
    ·rw [hc] at z;cases z;exact hb rfl
end
structure Un (fs ex:List Addr)(H H':Hp)(h h':Heap):Prop where
 keep:∀b o,h.get? b=some o->H b=none->b∉fs->b∉ex->h'.get? b=some o
 slot:∀b o,h.get? b=some o->H b=none->b∈fs->b∉ex->∃sl,h'.get? b=some { o with slots:=sl }
 free:∀b o,h.get? b=some o->H b=none->b∉ex->H' b=none
 there:∀b o,h.get? b=some o->b∉ex->∃o',h'.get? b=some o'
 tups:∀b xs,H b=some (.tup xs)->H' b=some (.tup xs)
 frzs:∀b o u,H b=some (.frz o u)->H' b=some (.frz o u)
 tbls:∀b ps,H b=some (.tbl ps)->∃more,H' b=some (.tbl (ps++more))
section
variable {fs fs' ex ex':List Addr}{H H1 H2:Hp}{h h1 h2 h':Heap}{a x e:Addr}{o:HO}
theorem Un.any (u:Un fs ex H H1 h h1){b:Addr}{ob:Obj}(q:h.get? b=some ob)(n:H b=none)(hx:b∉ex):∃sl,h1.get? b=some { ob with slots:=sl }:=by
 by_cases hb:b∈fs
 ·exact u.slot b ob q n hb hx
 ·exact ⟨ob.slots,u.keep b ob q n hb hx⟩
theorem Un.kept (k:∀b u,h.get? b=some u->h'.get? b=some u):Un fs ex H H h h':=
 ⟨λb ob q _ _ _=>k b ob q,λb ob q _ _ _=>⟨ob.slots,k b ob q⟩,λ_ _ _ n _=>n,λb ob q _=>⟨ob,k b ob q⟩,λ_ _ q=>q,λ_ _ _ q=>q,λ_ ps q=>⟨#[],by rw [q];simp⟩⟩
theorem Un.refl:Un fs ex H H h h:=Un.kept λ_ _ q=>q
theorem Un.laid (k:∀b u,h.get? b=some u->h'.get? b=some u)(hp:h.objs.size<=a)(hn:H a=none):Un fs ex H (upd H a o) h h' where
 keep:=λb u q _ _ _=>k b u q
 slot:=λb u q _ _ _=>⟨u.slots,k b u q⟩
 free:=λb u q n _=>by rw [As (un5 (uf5 (un4 q) hp))];exact n
 there:=λb u q _=>⟨u,k b u q⟩
 tups:=λb xs q=>by rw [As (Ay q hn)];exact q
 frzs:=λb u xs q=>by rw [As (Ay q hn)];exact q
 tbls:=λb ps q=>⟨#[],by rw [As (Ay q hn),q];simp⟩
theorem Un.write (mu:Mut (H x))(he:e=x\/H e=some (.own x))(k:∀b u,b≠e->h.get? b=some u->h'.get? b=some u)(heo:∃u,h'.get? e=some u):Un fs ex H (upd H x o) h h':=by
 have hx:∀b,H b=none->b≠x:=λb n z=>by subst z;rw [n] at mu;exact mu
 have hb:∀b,H b=none->b≠e:=λb n z=>by
  subst z;rcases he with r | r
  ·exact hx b n r
  ·rw [n] at r;cases r
 have hm:∀b u,H b=some u->¬Mut (some u)->b≠x:=λb u q nm z=>by subst z;rw [q] at mu;exact nm mu
 refine ⟨λb u q n _ _=>k b u (hb b n) q,λb u q n _ _=>⟨u.slots,k b u (hb b n) q⟩,λb u q n _=>by rw [As (hx b n)];exact n,λb u q _=>?_,
  λb xs q=>by rw [As (hm b _ q λz=>z)];exact q,λb u xs q=>by rw [As (hm b _ q λz=>z)];exact q,λb ps q=>⟨#[],by rw [As (hm b _ q λz=>z),q];simp⟩⟩
 by_cases hbe:b=e
 ·subst hbe;exact heo
 ·exact ⟨u,k b u hbe q⟩
end
noncomputable def trk (h:Heap)(H:Hp):List Addr:=(List.range h.objs.size).filter λa=>(H a).isSome
def Gi (h:Heap)(H:Hp):Heap:=PySem.W.hideAll h (trk h H)
theorem OX (h:Heap)(H:Hp):(Gi h H).objs.size=h.objs.size:=PySem.W.hideAll_size _ _
variable {o:Obj}
theorem QF (e:h.get? b=some o)(n:H b=none):(Gi h H).get? b=some o:=
 PySem.W.hideAll_get _ e λhm=>by
  have q:(H b).isSome=true:=(uj8.mp hm).2;rw [n] at q;simp at q
theorem TL (e:(Gi h H).get? b=some o):h.get? b=some o/\H b=none:=by
 have e':h.get? b=some o:=PySem.W.of_hideAll (trk h H) e;refine ⟨e',?_⟩
 cases q:H b with
 | none=>rfl
 | some x=>
   have hm:b∈trk h H:=uj8.mpr ⟨ul7.mpr (un4 e'),by simp [q]⟩;have z:(Gi h H).get? b=none:=PySem.W.hideAll_none (trk h H) hm;rw [z] at e;cases e
noncomputable def SH (g h:Heap)(L:Addr):List (Addr×Obj):=(List.range h.objs.size).filterMap λa=>if a=L\/(g.get? a).isSome=true then none else (h.get? a).map λo=>(a,o)
def rest (g h:Heap)(L d:Addr):List (Addr×Obj):=(SH g h L).filter λp=>decide (p.1≠d)
structure Mod (K:PySem.W.Frag)(mg:Str->Option Value)(base:Heap):Prop where
 kin:K.In base
 glob:base.Ns mainGlobals mg
 blt:∃mb,base.Ns builtinsNs mb/\∀x:Str,x≠"__name__"->mb x=bootBuiltins x
 nolimit:base.NoLimit
structure Cx where
 prog:Program
 w:World
 K:PySem.W.Frag
 mg:Str->Option Value
 base:Heap
 A:Around
 N:List Str
 s₀:Shared
 H₀:Hp
 env:Env
 outer:List Env
 stack:List Env
 ex:List Addr
 fn:Str->Bool
 calm:Bool
 pn:List (Addr×Obj)
 xe:Value->Shared->Prop
noncomputable def frs (l:List Env):List Addr:=l.filterMap (·.frame)
abbrev Cx.fs (X:Cx):List Addr:=frs X.outer
def Vis (sc:Scope)(x:Str):Prop:=sc.names.lookup x=some .local\/sc.names.lookup x=some .cell\/sc.names.lookup x=some .free
def Loc (sc:Scope)(x:Str):Prop:=sc.names.lookup x=some .local\/sc.names.lookup x=some .cell
def Yv (env:Env)(h:Heap)(m:Str->Option Value)(x:Str)(u:Value):Prop:=
 (env.kindOf x=some .local/\m x=some u)\/((env.kindOf x=some .cell\/env.kindOf x=some .free)/\∃c,env.cells.lookup x=some c/\h.IsCell c (some u))
structure Cx.Ok (X:Cx):Prop where
 mod:Mod X.K X.mg X.base
 kind:X.env.scope.kind = .function
 glob:X.env.globals=mainGlobals
 blt:X.env.builtins=builtinsNs
 above:X.s₀.heap.objs.size<=X.env.locals
 inj:∀x y c,X.env.cells.lookup x=some c->X.env.cells.lookup y=some c->x=y
 has:∀x,(X.env.kindOf x=some .cell\/X.env.kindOf x=some .free)->∃c,X.env.cells.lookup x=some c
 cab:∀x c,X.fn x=true->X.env.cells.lookup x=some c->X.s₀.heap.objs.size<=c
 hd:X.calm=true->X.A.handled=none
 frames:X.A.frames=some X.stack
 stk:X.stack=X.outer\/(X.stack=X.env :: X.outer/\X.env.frame=some X.env.locals)
 exf:∀b∈X.ex,b≠X.env.locals/\∀x c,X.env.cells.lookup x=some c->c≠b
 bs:∀b o,X.base.get? b=some o->X.s₀.heap.get? b=some o/\X.H₀ b=none
 bsz:X.base.objs.size<=X.s₀.heap.objs.size
 noex:∀b o,X.base.get? b=some o->b∉X.ex
 exfs:∀b∈X.ex,b∉X.fs
 funs:X.s₀.heap.FunFrames X.base X.outer
 frf:∀b∈X.fs,X.H₀ b=none
structure Inv (X:Cx)(pins:List (Addr×Obj))(σ:List (Option V))(H:Hp)(s:Shared):Prop where
 ok:X.Ok
 os:s.os=X.s₀.os
 bare:AllBare s.gens
 base:Un X.fs X.ex X.H₀ H X.s₀.heap s.heap
 loc:∃m,s.heap.Ns X.env.locals m/\∀(i:Nat) (x:Str) (v:V),X.N[i]?=some x->σ[i]?=some (some v)->Vis X.env.scope x->∃u,RelV v u/\Yv X.env s.heap m x u
 cell:∀x c,X.env.cells.lookup x=some c->∃v,s.heap.IsCell c v
 free:H X.env.locals=none
 freeC:∀x c,X.env.cells.lookup x=some c->H c=none
 pin:∀p∈X.pn++pins,s.heap.get? p.1=some p.2/\H p.1=none/\p.1≠X.env.locals/\p.1∉X.fs/\∀v,p.2.data≠.cell v
 hok:HOk X.prog X.w H s.heap
 len:σ.length=X.N.length
variable {t' i:Nat}{ch:List Addr}{E:Value->Shared->Prop}{x:Str}{v:V}{u:Value}{Q:Unit->Shared->Prop}
section
variable {X:Cx}{pins:List (Addr×Obj)}{σ:List (Option V)}{H H':Hp}{s:Shared}{h':Heap}
theorem Cx.Ok.nofr (ok:X.Ok){b:Addr}{o:Obj}(e:X.base.get? b=some o):b∉X.fs:=λhb=>by
 have:=(ok.funs.mem hb).1;rw [e] at this;cases this
theorem Inv.bs (I:Inv X pins σ H s):∀b o,X.base.get? b=some o->s.heap.get? b=some o/\H b=none:=λb o e=>
 ⟨I.base.keep b o (I.ok.bs b o e).1 (I.ok.bs b o e).2 (I.ok.nofr e) (I.ok.noex b o e),I.base.free b o (I.ok.bs b o e).1 (I.ok.bs b o e).2 (I.ok.noex b o e)⟩
theorem Inv.bk (I:Inv X pins σ H s):∀b o,X.base.get? b=some o->s.heap.get? b=some o:=λb o e=>(I.bs b o e).1
theorem Inv.mod (I:Inv X pins σ H s):Mod X.K X.mg X.base:=I.ok.mod
theorem Inv.kIn (I:Inv X pins σ H s):X.K.In s.heap:=I.ok.mod.kin.keeps I.bk
theorem Inv.lt (I:Inv X pins σ H s):X.env.locals < s.heap.objs.size:=let ⟨_,hn,_⟩:=I.loc;hn.lt
theorem Inv.sz (I:Inv X pins σ H s):X.s₀.heap.objs.size<=s.heap.objs.size:=un6 I.ok.above (un7 I.lt)
theorem Inv.nofs (I:Inv X pins σ H s){a:Addr}(h:s.heap.objs.size<=a):a∉X.fs:=λhb=>by
 obtain ⟨_,o,ho,_⟩:=I.ok.funs.mem hb;exact absurd (uf5 (un4 ho) (un6 I.sz h)) (um4 _)
theorem Inv.cne (I:Inv X pins σ H s):∀x c,X.env.cells.lookup x=some c->c≠X.env.locals:=λx c e z=>by
 obtain ⟨v,o,ho,hd⟩:=I.cell x c e;obtain ⟨m,⟨o',es,ep,ho',hd',_⟩,_⟩:=I.loc;rw [z,ho'] at ho;cases ho;rw [hd'] at hd;cases hd
theorem Inv.funs (I:Inv X pins σ H s):s.heap.FunFrames X.base X.outer:=by
 have all:∀(l:List Env),(∀b∈frs l,b∈X.fs)->X.s₀.heap.FunFrames X.base l->s.heap.FunFrames X.base l:=by
  intro l
  induction l with
  | nil=>intro _ _;trivial
  | cons env r ih=>
    intro hs hl;obtain ⟨hk,⟨L,o,hf,hn,ho,hd⟩,hr⟩:=hl;have hL:L∈X.fs:=hs L (by unfold frs;rw [ue5,hf];exact uf6);obtain ⟨sl,e⟩:=I.base.slot L o ho (I.ok.frf L hL) hL λz=>I.ok.exfs L z hL;exact ⟨hk,⟨L,_,hf,hn,e,hd⟩,ih (λb hb=>hs b (by unfold frs;rw [ue5,hf];exact ud6 _ hb)) hr⟩
 exact all X.outer (λ_ hb=>hb) I.ok.funs
theorem Inv.stack (I:Inv X pins σ H s):s.heap.FunFrames X.base X.stack:=by
 rcases I.ok.stk with e | ⟨e,hf⟩
 ·rw [e];exact I.funs
 ·rw [e];obtain ⟨m,hn,_⟩:=I.loc;refine .cons (by rw [I.ok.kind];decide) hf hn ?_ I.funs;exact Heap.get?_none_of_le (un6 I.ok.bsz I.ok.above)
theorem Inv.stkSub (I:Inv X pins σ H s):∀b∈frs X.stack,b∈X.env.locals :: X.fs:=λb hb=>by
 rcases I.ok.stk with e | ⟨e,hf⟩
 ·rw [e] at hb;exact ud6 _ hb
 ·rw [e] at hb;unfold frs at hb;rw [ue5,hf] at hb;exact hb
theorem Inv.stkFree (I:Inv X pins σ H s):∀b∈frs X.stack,H b=none:=λb hb=>by
 rcases um5.mp (I.stkSub b hb) with e | hb
 ·rw [e];exact I.free
 ·obtain ⟨_,o,ho,_⟩:=I.ok.funs.mem hb;exact I.base.free b o ho (I.ok.frf b hb) λz=>I.ok.exfs b z hb
theorem Inv.step {g':Array GenState}{d':Drawn}(I:Inv X pins σ H s)
 (hch:∀b∈ch,(b∈X.ex\/X.s₀.heap.objs.size<=b)/\b≠X.env.locals/\(∀x c,X.env.cells.lookup x=some c->c≠b)/\∀p∈X.pn++pins,p.1≠b)
 (keep:∀b o,b≠X.env.locals->b∉X.fs->b∉ch->s.heap.get? b=some o->H b=none->h'.get? b=some o)
 (slot:∀b o,b≠X.env.locals->b∈X.fs->b∉ch->s.heap.get? b=some o->H b=none->∃sl,h'.get? b=some { o with slots:=sl }) (free:∀b o,b∉ch->s.heap.get? b=some o->H b=none->H' b=none)
 (there:∀b o,b∉ch->s.heap.get? b=some o->∃o',h'.get? b=some o')
 (tups:∀b xs,H b=some (.tup xs)->H' b=some (.tup xs)) (frzs:∀b o u,H b=some (.frz o u)->H' b=some (.frz o u)) (tbls:∀b ps,H b=some (.tbl ps)->∃more,H' b=some (.tbl (ps++more)))
 (ns:∀m,s.heap.Ns X.env.locals m->h'.Ns X.env.locals m) (hok:HOk X.prog X.w H' h') (hg:AllBare g') :
 Inv X pins σ H' { s with heap:=h',gens:=g',drawn:=d',toks:=t' }:=by
 have neL:∀b o,X.s₀.heap.get? b=some o->b≠X.env.locals:=λb o e=>un5 (uf5 (un4 e) I.ok.above);have neC:∀b o,X.s₀.heap.get? b=some o->b∉X.ex->b∉ch:=λb o e hx hb=>by
  rcases (hch b hb).1 with z | z
  ·exact hx z
  ·exact absurd (uf5 (un4 e) z) (um4 _)
 have cellK:∀x c,X.env.cells.lookup x=some c->∀v,s.heap.IsCell c v->h'.IsCell c v:=λx c e v z9=>by
  obtain ⟨o,ho,hd⟩:=z9;have nch:c∉ch:=λz=>(hch c z).2.2.1 x c e rfl
  by_cases hc:c∈X.fs
  ·obtain ⟨sl,q⟩:=slot c o (I.cne x c e) hc nch ho (I.freeC x c e);exact ⟨_,q,hd⟩
  ·exact ⟨o,keep c o (I.cne x c e) hc nch ho (I.freeC x c e),hd⟩
 refine ⟨I.ok,I.os,hg,⟨λb o e n hb hx=>?_,λb o e n hb hx=>?_,λb o e n hx=>?_,λb o e hx=>?_,λb xs e=>tups b xs (I.base.tups b xs e),λb o xs e=>frzs b o xs (I.base.frzs b o xs e),λb ps e=>?_⟩,?_,λx c e=>?_,?_,λx c e=>?_,λp hp=>?_,hok,I.len⟩
 ·exact keep b o (neL b o e) hb (neC b o e hx) (I.base.keep b o e n hb hx) (I.base.free b o e n hx)
 ·obtain ⟨sl,e1⟩:=I.base.slot b o e n hb hx;obtain ⟨sl',e2⟩:=slot b _ (neL b o e) hb (neC b o e hx) e1 (I.base.free b o e n hx);exact ⟨sl',e2⟩
 ·obtain ⟨o',e1⟩:=I.base.there b o e hx;exact free b o' (neC b o e hx) e1 (I.base.free b o e n hx)
 ·obtain ⟨o',e1⟩:=I.base.there b o e hx;exact there b o' (neC b o e hx) e1
 ·obtain ⟨m1,e1⟩:=I.base.tbls b ps e;obtain ⟨m2,e2⟩:=tbls b _ e1;exact ⟨m1++m2,by rw [e2,Array.append_assoc]⟩
 ·obtain ⟨m,hn,hl⟩:=I.loc;refine ⟨m,ns m hn,λi x v e1 e2 e3=>?_⟩;obtain ⟨u,r,l⟩:=hl i x v e1 e2 e3;refine ⟨u,r,?_⟩;rcases l with l | ⟨k,c,e,z⟩
  ·exact .inl l
  ·exact .inr ⟨k,c,e,cellK x c e _ z⟩
 ·obtain ⟨v,z⟩:=I.cell x c e;exact ⟨v,cellK x c e v z⟩
 ·obtain ⟨m,⟨o,_,_,ho,_⟩,_⟩:=I.loc;exact free _ o (λz=>(hch _ z).2.1 rfl) ho I.free
 ·obtain ⟨v,o,ho,hd⟩:=I.cell x c e;exact free c o (λz=>(hch c z).2.2.1 x c e rfl) ho (I.freeC x c e)
 ·obtain ⟨e,n,ne,nf,d⟩:=I.pin p hp;have nch:p.1∉ch:=λz=>(hch p.1 z).2.2.2 p hp rfl;exact ⟨keep p.1 p.2 ne nf nch e n,free p.1 p.2 nch e n,ne,nf,d⟩
theorem Inv.un (I:Inv X pins σ H s)(u:Un X.fs [] H H' s.heap h')(hok:HOk X.prog X.w H' h'):Inv X pins σ H' { s with heap:=h',toks:=t' }:=by
 obtain ⟨m,⟨o,es,ep,ho,r⟩,_⟩:=id I.loc;obtain ⟨sl,hL⟩:=u.any ho I.free (by simp);exact I.step (g':=s.gens) (d':=s.drawn) (ch:=[]) (λ_ z=>nomatch z) (λb o _ hb _ e n=>u.keep b o e n hb (by simp)) (λb o _ hb _ e n=>u.slot b o e n hb (by simp)) (λb o _ e n=>u.free b o e n (by simp)) (λb o _ e=>u.there b o e (by simp)) u.tups u.frzs u.tbls (λm' hm=>by
  obtain ⟨o',es',ep',ho',r'⟩:=hm;rw [ho] at ho';cases ho'
  exact ⟨_,es',ep',hL,r'⟩) hok I.bare
theorem Inv.call {g':Array GenState}{d':Drawn}(I:Inv X pins σ H s)(u:Un (frs X.stack) ch H H' s.heap h')(hok:HOk X.prog X.w H' h')(hg:AllBare g')
 (hch:∀b∈ch,(b∈X.ex\/X.s₀.heap.objs.size<=b)/\b≠X.env.locals/\(∀x c,X.env.cells.lookup x=some c->c≠b)/\∀p∈X.pn++pins,p.1≠b) :
 Inv X pins σ H' { s with heap:=h',gens:=g',drawn:=d',toks:=t' }:=by
 obtain ⟨m,⟨o,es,ep,ho,r⟩,_⟩:=id I.loc;obtain ⟨sl,hL⟩:=u.any ho I.free λz=>(hch _ z).2.1 rfl;exact I.step (ch:=ch) hch (λb o hL hb hc e n=>u.keep b o e n (λz=>(um5.mp (I.stkSub b z)).elim hL hb) hc) (λb o _ _ hc e n=>u.any e n hc) (λb o hc e n=>u.free b o e n hc) (λb o hc e=>u.there b o e hc) u.tups u.frzs u.tbls (λm' hm=>by
  obtain ⟨o',es',ep',ho',r'⟩:=hm;rw [ho] at ho';cases ho'
  exact ⟨_,es',ep',hL,r'⟩) hok hg
theorem Inv.turned {it:Addr}(I:Inv X pins σ H s)(k:∀b o,b≠it->s.heap.get? b=some o->h'.get? b=some o)(hn:H it=none)(hL:it≠X.env.locals)
 (h1:it∈X.ex\/X.s₀.heap.objs.size<=it) (h2:∀x c,X.env.cells.lookup x=some c->c≠it) (h3:∀p∈X.pn++pins,p.1≠it):Inv X pins σ H { s with heap:=h',toks:=t' }:=by
 have nit:∀b u,H b=some u->b≠it:=λb u e z=>by rw [z,hn] at e;cases e
 refine I.step (g':=s.gens) (d':=s.drawn) (ch:=[it]) (λb hb=>?_) (λb o _ _ hc e _=>k b o (λz=>hc (by simp [z])) e) (λb o _ _ hc e _=>⟨o.slots,k b o (λz=>hc (by simp [z])) e⟩) (λ_ _ _ _ n=>n)
  (λb o hc e=>⟨o,k b o (λz=>hc (by simp [z])) e⟩) (λ_ _ e=>e) (λ_ _ _ e=>e) (λb ps e=>⟨#[],by rw [e];simp⟩) (λm hm=>?_) (λb u e=>?_) I.bare
 ·have e:b=it:=by simpa using hb
  subst e;exact ⟨h1,hL,h2,h3⟩
 ·obtain ⟨o,es,ep,ho,r⟩:=hm;exact ⟨o,es,ep,k _ o (Ne.symm hL) ho,r⟩
 ·refine (I.hok b u e).stay (λc v hc q=>k c v ?_ q) (λ_ q=>q) λ_ _ q=>q;rcases hc with z | z
  ·rw [z];exact nit b u e
  ·exact nit c _ z
theorem Inv.tok (I:Inv X pins σ H s)(t:Nat):Inv X pins σ H { s with toks:=t }:=I.un (h':=s.heap) (t':=t) Un.refl I.hok
theorem Inv.kept {t':Nat}(I:Inv X pins σ H s)(k:∀b u,s.heap.get? b=some u->h'.get? b=some u):Inv X pins σ H { s with heap:=h',toks:=t' }:=I.un (Un.kept k) (I.hok.kept k)
theorem Inv.laid {a:Addr}{o:HO}{t':Nat}(I:Inv X pins σ H s)(k:∀b u,s.heap.get? b=some u->h'.get? b=some u)(hp:s.heap.objs.size<=a)(new:ObjOk X.prog X.w (upd H a o) h' a o) :
 Inv X pins σ (upd H a o) { s with heap:=h',toks:=t' }:=I.un (Un.laid k hp (I.hok.fresh hp)) (I.hok.laid k hp new)
theorem Inv.write {x e:Addr}{o:HO}{t':Nat}(I:Inv X pins σ H s)(mu:Mut (H x))(he:e=x\/H e=some (.own x))(k:∀b u,b≠e->s.heap.get? b=some u->h'.get? b=some u)(heo:∃u,h'.get? e=some u)
 (new:ObjOk X.prog X.w (upd H x o) h' x o):Inv X pins σ (upd H x o) { s with heap:=h',toks:=t' }:=I.un (Un.write mu he k heo) (I.hok.write mu he k heo new)
theorem Inv.pins_of {pins':List (Addr×Obj)}(I:Inv X pins σ H s)(h:∀p∈pins',s.heap.get? p.1=some p.2/\H p.1=none/\p.1≠X.env.locals/\p.1∉X.fs/\∀v,p.2.data≠.cell v):Inv X pins' σ H s:=
 ⟨I.ok,I.os,I.bare,I.base,I.loc,I.cell,I.free,I.freeC,λp hp=>(uj9.mp hp).elim (λz=>I.pin p (ud7 _ z)) (h p),I.hok,I.len⟩
theorem Io {N:List Str}(hN:N.Nodup){i j:Nat}{x:Str}(a:N[i]?=some x)(b:N[j]?=some x):i=j:=by
 obtain ⟨h1,e1⟩:=ua8.mp a;obtain ⟨h2,e2⟩:=ua8.mp b;exact (uh9 hN).mp (e1.trans e2.symm)
theorem Kf {M:Model}{A:Around}(I:Inv X pins σ H s)(hN:X.N.Nodup)(hi:X.N[i]?=some x)(hx:Loc X.env.scope x)(r:RelV v u)
 (h:∀s',Inv X pins (σ.set i (some v)) H s'->(∃a,Heap.SameBut a s.heap s'.heap/\(a=X.env.locals\/X.env.cells.lookup x=some a))->Q () s') (hf:X.fn x=true\/X.env.scope.names.lookup x=some .local:=by walk_at "h"):wpAny M A (storeName X.env x u) Q E s:=by
 obtain ⟨m,hn,hl⟩:=id I.loc;have hcls:(X.env.scope.kind == .class || (X.env.scope.kind == .module && X.env.locals != X.env.globals))=false:=by rw [I.ok.kind];rfl
 have hiσ:i < σ.length:=by rw [I.len];exact (ua8.mp hi).1
 have cne:=I.cne;have tracked:∀{a:Addr} {h':Heap},(∃o,s.heap.get? a=some o/\H a=none)->Heap.SameBut a s.heap h'->HOk X.prog X.w H h':=λ{a h'} ha hs b ob e=>by
  obtain ⟨_,_,hfree⟩:=ha;refine (I.hok b ob e).stay (λc w' hc q=>(hs.2 c ?_).trans q) (λ_ q=>q) λ_ _ q=>q;rintro rfl;rcases hc with rfl | hc
  ·rw [hfree] at e;cases e
  ·rw [hfree] at hc;cases hc
 rcases hx with hk | hk
 ·refine wpAny_storeName_local hk hn (λh' hn' hs=>?_) hcls;obtain ⟨oL,_,_,hoL,_⟩:=id hn;refine h _ ⟨I.ok,I.os,I.bare,⟨λb o e n hb hx=>?_,λb o e n hb hx=>?_,I.base.free,λb o e hx=>?_,I.base.tups,I.base.frzs,I.base.tbls⟩,⟨_,hn',λj y v' e1 e2 e3=>?_⟩,λy c e=>?_,I.free,I.freeC,λp hp=>?_,tracked ⟨oL,hoL,I.free⟩ hs,by simpa using I.len⟩ ⟨_,hs,.inl rfl⟩
  ·exact (hs.2 b (un5 (uf5 (un4 e) I.ok.above))).trans (I.base.keep b o e n hb hx)
  ·obtain ⟨sl,e1⟩:=I.base.slot b o e n hb hx;exact ⟨sl,(hs.2 b (un5 (uf5 (un4 e) I.ok.above))).trans e1⟩
  ·obtain ⟨o',e1⟩:=I.base.there b o e hx;exact ⟨o',(hs.2 b (un5 (uf5 (un4 e) I.ok.above))).trans e1⟩
  ·by_cases hj:j=i
   ·subst hj;rw [hi] at e1;cases e1
    rw [ub8 hiσ] at e2
    cases e2
    exact ⟨u,r,.inl ⟨hk,by simp⟩⟩
   ·rw [ud8 (Ne.symm hj)] at e2;obtain ⟨u',r',q⟩:=hl j y v' e1 e2 e3;refine ⟨u',r',?_⟩;rcases q with ⟨k,e⟩ | ⟨k,c,e,z⟩
    ·refine .inl ⟨k,?_⟩;have:y≠x:=λe=>hj (Io hN e1 (e ▸ hi));simp [this,e]
    ·exact .inr ⟨k,c,e,z.sameBut hs (cne y c e)⟩
  ·obtain ⟨w',z⟩:=I.cell y c e;exact ⟨w',z.sameBut hs (cne y c e)⟩
  ·obtain ⟨e,n,ne,nf,d⟩:=I.pin p hp;exact ⟨(hs.2 p.1 ne).trans e,n,ne,nf,d⟩
 ·have hfn:X.fn x=true:=by
   rcases hf with z | z
   ·exact z
   ·rw [z] at hk;cases hk
  obtain ⟨c,hc⟩:=I.ok.has x (.inl hk);obtain ⟨w',z⟩:=I.cell x c hc;refine wpAny_storeName_cell I.ok.kind hk hc z (λh' hc' hs=>?_);obtain ⟨oc,hoc,hocd⟩:=id z;refine h { s with heap:=h' } ⟨I.ok,I.os,I.bare,⟨λb o e n hb hx=>?_,λb o e n hb hx=>?_,I.base.free,λb o e hx=>?_,I.base.tups,I.base.frzs,I.base.tbls⟩,⟨m,hn.sameBut hs (Ne.symm (cne x c hc)),λj y v' e1 e2 e3=>?_⟩,λy c' e=>?_,I.free,I.freeC,λp hp=>?_,tracked ⟨oc,hoc,I.freeC x c hc⟩ hs,by simpa using I.len⟩ ⟨c,hs,.inr hc⟩
  ·exact (hs.2 b (un5 (uf5 (un4 e) (I.ok.cab x c hfn hc)))).trans (I.base.keep b o e n hb hx)
  ·obtain ⟨sl,e1⟩:=I.base.slot b o e n hb hx;exact ⟨sl,(hs.2 b (un5 (uf5 (un4 e) (I.ok.cab x c hfn hc)))).trans e1⟩
  ·obtain ⟨o',e1⟩:=I.base.there b o e hx;exact ⟨o',(hs.2 b (un5 (uf5 (un4 e) (I.ok.cab x c hfn hc)))).trans e1⟩
  ·by_cases hj:j=i
   ·subst hj;rw [hi] at e1;cases e1
    rw [ub8 hiσ] at e2
    cases e2
    exact ⟨u,r,.inr ⟨.inl hk,c,hc,hc'⟩⟩
   ·rw [ud8 (Ne.symm hj)] at e2;obtain ⟨u',r',q⟩:=hl j y v' e1 e2 e3;refine ⟨u',r',?_⟩;rcases q with q | ⟨k,c',e,z'⟩
    ·exact .inl q
    ·refine .inr ⟨k,c',e,z'.sameBut hs ?_⟩;rintro rfl;exact hj (Io hN e1 (I.ok.inj _ _ _ e hc ▸ hi))
  ·by_cases hcc:c'=c
   ·subst hcc;exact ⟨_,hc'⟩
   ·obtain ⟨w2,z2⟩:=I.cell y c' e;exact ⟨w2,z2.sameBut hs hcc⟩
  ·obtain ⟨e,n,ne,nf,d⟩:=I.pin p hp;refine ⟨(hs.2 p.1 ?_).trans e,n,ne,nf,d⟩;intro q;rw [q,hoc] at e;have q':oc=p.2:=uk0 e;exact d w' (by rw [<-q'];exact hocd)
theorem GA {M:Model}{A:Around}(I:Inv X pins σ H s)(hN:X.N.Nodup)(hi:X.N[i]?=some x)(hx:Loc X.env.scope x)(r:RelV v u)
 (h:∀s',Inv X pins (σ.set i (some v)) H s'->Q () s') (hf:X.fn x=true\/X.env.scope.names.lookup x=some .local:=by walk_at "h"):wpAny M A (storeName X.env x u) Q E s:=
 Kf I hN hi hx r (λs' I' _=>h s' I') hf
theorem Inv.call' {s':Shared}(I:Inv X pins σ H s)(ho:s'.os=s.os)(u:Un (frs X.stack) ch H H' s.heap s'.heap)(hok:HOk X.prog X.w H' s'.heap)(hg:AllBare s'.gens)
 (hch:∀b∈ch,(b∈X.ex\/X.s₀.heap.objs.size<=b)/\b≠X.env.locals/\(∀x c,X.env.cells.lookup x=some c->c≠b)/\∀p∈X.pn++pins,p.1≠b):Inv X pins σ H' s':=by
 obtain ⟨h',g',d',t',o'⟩:=s';have e:o'=s.os:=ho;subst e;exact I.call (g':=g') (t':=t') (d':=d') u hok hg hch
end
abbrev XK:=Value->Option Addr->Hp->Prop
abbrev St:=List (Option V)
abbrev VK:=V->Hp->Prop
abbrev TE:=St->Hp->VK->Prop
abbrev TT:=St->Hp->(Bool->Hp->Prop)->Prop
abbrev TA:=St->Hp->(List V->Hp->Prop)->Prop
structure Ends where
 nx:St->Hp->Prop
 rt:VK
 bk:St->Hp->Prop:=λ_ _=>False
 ct:St->Hp->Prop:=λ_ _=>False
abbrev TS:=Ends->St->Hp->Prop
inductive EP (X:Cx)(pins:List (Addr×Obj))(σ:St)(Q:VK)(u:Value)(s':Shared):Prop where
 | mk (v:V) (H':Hp) (i:Inv X pins σ H' s') (r:RelV v u) (q:Q v H'):EP X pins σ Q u s'
inductive TP (X:Cx)(pins:List (Addr×Obj))(σ:St)(Q:Bool->Hp->Prop)(b:Bool)(s':Shared):Prop where
 | mk (H':Hp) (i:Inv X pins σ H' s') (q:Q b H'):TP X pins σ Q b s'
inductive AP (X:Cx)(pins:List (Addr×Obj))(σ:St)(Q:List V->Hp->Prop)(us:List Value)(s':Shared):Prop where
 | mk (vs:List V) (H':Hp) (i:Inv X pins σ H' s') (r:Vals vs us) (q:Q vs H'):AP X pins σ Q us s'
def SP (X:Cx)(pins:List (Addr×Obj))(D:Ends)(f:Flow)(s':Shared):Prop:=
 match f with
 | .next=>∃σ' H',Inv X pins σ' H' s'/\D.nx σ' H'
 | .brk=>∃σ' H',Inv X pins σ' H' s'/\D.bk σ' H'
 | .cont=>∃σ' H',Inv X pins σ' H' s'/\D.ct σ' H'
 | .ret u=>∃v σ' H',Inv X pins σ' H' s'/\RelV v u/\D.rt v H'
def PE (X:Cx)(e:Expr)(t:TE):Prop:=
 ∀(pins:List (Addr×Obj)) (s:Shared) (σ:St) (H:Hp) (Q:VK),Inv X pins σ H s->t σ H Q->wpAny (model X.prog X.w) X.A (eval e X.env) (EP X pins σ Q) X.xe s
def PT (X:Cx)(e:Expr)(t:TT):Prop:=
 ∀(pins:List (Addr×Obj)) (s:Shared) (σ:St) (H:Hp) (Q:Bool->Hp->Prop),Inv X pins σ H s->t σ H Q->wpAny (model X.prog X.w) X.A (isTrue e X.env (eval e X.env)) (TP X pins σ Q) X.xe s
def PW (X:Cx)(e:Expr)(t:TT):Prop:=
 ∀(whole:Sem Value) (pins:List (Addr×Obj)) (s:Shared) (σ:St) (H:Hp) (Q:Bool->Hp->Prop),Inv X pins σ H s->t σ H Q->wpAny (model X.prog X.w) X.A (isTrue e X.env whole) (TP X pins σ Q) X.xe s
variable {X:Cx}{e:Expr}
theorem PW.pt {t:TT}(h:PW X e t):PT X e t:=h _
def PA (X:Cx)(es:List Expr)(t:TA):Prop:=
 ∀(pos:Pos) (pins:List (Addr×Obj)) (s:Shared) (σ:St) (H:Hp) (Q:List V->Hp->Prop),Inv X pins σ H s->t σ H Q->wpAny (model X.prog X.w) X.A (spliced (backTo pos (starEach es X.env))) (AP X pins σ Q) X.xe s
def PS (X:Cx)(st:Stmt)(t:TS):Prop:=
 ∀(pins:List (Addr×Obj)) (s:Shared) (σ:St) (H:Hp) (D:Ends),Inv X pins σ H s->t D σ H->wpAny (model X.prog X.w) X.A (exec st X.env) (SP X pins D) X.xe s
def PSs (X:Cx)(st:List Stmt)(t:TS):Prop:=
 ∀(pins:List (Addr×Obj)) (s:Shared) (σ:St) (H:Hp) (D:Ends),Inv X pins σ H s->t D σ H->wpAny (model X.prog X.w) X.A (execs st X.env) (SP X pins D) X.xe s
variable {s:Shared}
theorem thn {α:Type}{t:Sem α}{Q Q':α->Shared->Prop}{M:Model}{A:Around}(h:wpAny M A t Q E s)(hQ:∀a s,Q a s->Q' a s):wpAny M A t Q' E s:=uq0 h hQ λ_ _ x=>x
variable {pins:List (Addr×Obj)}{σ:St}
section
variable {X:Cx}
def W0 (i:Nat):TE:=λσ H Q=>∃v,σ[i]?=some (some v)/\Q v H
def tC (v:V):TE:=λ_ H Q=>Q v H
theorem EA {pos:Pos}(hN:X.N[i]?=some x)(hv:Vis X.env.scope x)(hd:(x == ("__debug__" : Str))=false:=by decide)(hcd:(x == ("__classdict__" : Str))=false:=by decide):PE X (.Name x pos) (W0 i):=by
 intro pins s σ H Q I h;obtain ⟨v,e,h⟩:=h;obtain ⟨m,hn,hl⟩:=I.loc;obtain ⟨u,r,l⟩:=hl i x v hN e hv;have fin:EP X pins σ Q u s:=⟨v,H,I,r,h⟩;rcases l with ⟨hk,hm⟩ | ⟨hk,c,hc,hcell⟩
 ·exact wpAny_Name (wpAny_loadName_local I.ok.kind hk hn hm fin) hd
 ·rcases hk with hk | hk
  ·exact wpAny_Name (wpAny_loadName_cell I.ok.kind hk hc hcell fin) hd
  ·exact wpAny_Name (wpAny_loadName_free I.ok.kind hk hc hcell fin hcd) hd
theorem Wl {i j pos}:PE X (.Constant (.int i) j pos) (tC (.int i)):=λ_ _ _ H _ I h=>wpAny_Constant_int ⟨.int i,H,I.tok _,⟨_,rfl⟩,h⟩
theorem XA {b j pos}:PE X (.Constant (.bool b) j pos) (tC (.bl b)):=λ_ _ _ H _ I h=>Constant_bool ⟨.bl b,H,I,rfl,h⟩
theorem Wn {j pos}:PE X (.Constant .none j pos) (tC .non):=λ_ _ _ H _ I h=>Constant_none ⟨.non,H,I,rfl,h⟩
theorem Wq {x j pos}:PE X (.Constant (.str x) j pos) (tC (.str x)):=λ_ _ _ H _ I h=>Calls.Constant_str ⟨.str x,H,I.tok _,⟨_,rfl⟩,h⟩
def Gl (X:Cx)(x:Str):Prop:=X.env.kindOf x=some .globalImplicit
theorem FS {pos:Pos}{Q:Value->Shared->Prop}(I:Inv X pins σ H s)(hg:Gl X x)(hm:X.mg x=some u)(h:Q u s)
 (hd:(x == ("__debug__" : Str))=false:=by decide):wpAny (model X.prog X.w) X.A (eval (.Name x pos) X.env) Q E s:=
 Calls.Name_function_global I.ok.kind hg (Calls.loadGlobal_global (by rw [I.ok.glob];exact I.mod.glob.keeps I.bk) hm h) hd
theorem E4 {pos:Pos}{Q:Value->Shared->Prop}(I:Inv X pins σ H s)(hg:Gl X x)(hm:X.mg x=none)(hv:bootBuiltins x=some u)(h:Q u s)
 (hn:x≠"__name__":=by decide) (hd:(x == ("__debug__" : Str))=false:=by decide):wpAny (model X.prog X.w) X.A (eval (.Name x pos) X.env) Q E s:=by
 obtain ⟨mb,h1,h2⟩:=I.mod.blt;exact Calls.Name_function_global I.ok.kind hg (Calls.loadGlobal_builtin (by rw [I.ok.glob];exact I.mod.glob.keeps I.bk) hm (by rw [I.ok.blt];exact h1.keeps I.bk) ((h2 x hn).trans hv) h) hd
theorem Hq {pos:Pos}(hg:Gl X x)(hm:X.mg x=some u)(r:RelV v u)(hd:(x == ("__debug__" : Str))=false:=by decide):PE X (.Name x pos) (tC v):=
 λ_ _ _ H _ I h=>FS I hg hm ⟨v,H,I,r,h⟩ hd
theorem MW {pos:Pos}(hg:Gl X x)(hm:X.mg x=none)(hv:bootBuiltins x=some u)(r:RelV v u)(hn:x≠"__name__":=by decide)(hd:(x == ("__debug__" : Str))=false:=by decide):PE X (.Name x pos) (tC v):=
 λ_ _ _ H _ I h=>E4 I hg hm hv ⟨v,H,I,r,h⟩ hn hd
variable {a b:Expr}{ta tb:TE}{pos:Pos}
def tB (t:TE):TT:=λσ H Q=>t σ H λx H1=>∃c,x = .bl c/\Q c H1
theorem Wy {t:TE}(h:PE X e t)(he:∀whole,isTrue e X.env whole=(do let v <-whole;standAt e.pos;holding [v] (truthy v)):=by intro _;rfl):PT X e (tB t):=by
 intro pins s σ H Q I hw;refine isTrue_plain (thn (h pins s σ H _ I hw) λv s1 z9=>?_) (he _);obtain ⟨x,H1,I1,r1,q1⟩:=z9;obtain ⟨d,rfl,q⟩:=q1
 cases r1
 exact wpAny_truthy_bool ⟨H1,I1,q⟩
variable {tA tB':TT}{rest:List Expr}
def YY (t u:TT):TT:=λσ H Q=>t σ H λc H1=>if c=true then u σ H1 Q else Q false H1
def tOr (t u:TT):TT:=λσ H Q=>t σ H λc H1=>if c=true then Q true H1 else u σ H1 Q
def Y2 (t:TT):TT:=λσ H Q=>t σ H λc H1=>Q (!c) H1
theorem Uc (ha:PT X a tA):PW X (.BoolOp .And [a] pos) tA:=by
 intro wh pins s σ H Q I h;refine isTrue_and (thn (ha pins s σ H Q I h) λc s1 e=>?_)
 cases c with
 | true=>exact isTrue_and_nil e
 | false=>exact e
theorem WE (ha:PT X a tA):PW X (.BoolOp .Or [a] pos) tA:=by
 intro wh pins s σ H Q I h;refine isTrue_or (thn (ha pins s σ H Q I h) λc s1 e=>?_)
 cases c with
 | false=>exact isTrue_or_nil e
 | true=>exact e
theorem WD (ha:PT X a tA)(hb:PW X (.BoolOp .And (b :: rest) pos) tB'):PW X (.BoolOp .And (a :: b :: rest) pos) (YY tA tB'):=by
 intro wh pins s σ H Q I h;refine isTrue_and (thn (ha pins s σ H _ I h) λc s1 z9=>?_);obtain ⟨H1,I1,q1⟩:=z9
 cases c with
 | true=>exact hb wh pins s1 σ H1 Q I1 q1
 | false=>exact ⟨H1,I1,q1⟩
theorem XI (ha:PT X a tA)(hb:PW X (.BoolOp .Or (b :: rest) pos) tB'):PW X (.BoolOp .Or (a :: b :: rest) pos) (tOr tA tB'):=by
 intro wh pins s σ H Q I h;refine isTrue_or (thn (ha pins s σ H _ I h) λc s1 z9=>?_);obtain ⟨H1,I1,q1⟩:=z9
 cases c with
 | true=>exact ⟨H1,I1,q1⟩
 | false=>exact hb wh pins s1 σ H1 Q I1 q1
theorem Wx (ha:PT X a tA):PT X (.UnaryOp .Not a pos) (Y2 tA):=by
 intro pins s σ H Q I h;refine isTrue_not (thn (ha pins s σ H (λc H1=>Q (!c) H1) I h) λc s1 z=>?_);obtain ⟨H1,I1,q1⟩:=z;exact ⟨H1,I1,q1⟩
def XN (ta tb:TE):TE:=λσ H Q=>ta σ H λx H1=>∃c,x = .bl c/\if c=true then tb σ H1 Q else Q (.bl false) H1
def Y3 (ta tb:TE):TE:=λσ H Q=>ta σ H λx H1=>∃c,x = .bl c/\if c=true then Q (.bl true) H1 else tb σ H1 Q
def XS (ta:TE):TE:=λσ H Q=>ta σ H λx H1=>∃c,x = .bl c/\Q (.bl (!c)) H1
theorem Wp {op}{t:TE}(h:PE X a t):PE X (.BoolOp op [a] pos) t:=λpins s σ H Q I hw=>BoolOp_one (h pins s σ H Q I hw)
theorem Wk (ha:PE X a ta)(hb:PE X (.BoolOp .And (b :: rest) pos) tb):PE X (.BoolOp .And (a :: b :: rest) pos) (XN ta tb):=by
 intro pins s σ H Q I h;refine BoolOp_and (thn (ha pins s σ H _ I h) λv s1 z9=>?_);obtain ⟨x,H1,I1,r1,q1⟩:=z9;obtain ⟨c,rfl,q1⟩:=q1
 cases r1
 refine wpAny_truthy_bool ?_
 cases c with
 | true=>exact hb pins s1 σ H1 Q I1 q1
 | false=>exact ⟨.bl false,H1,I1,rfl,q1⟩
theorem XB (ha:PE X a ta)(hb:PE X (.BoolOp .Or (b :: rest) pos) tb):PE X (.BoolOp .Or (a :: b :: rest) pos) (Y3 ta tb):=by
 intro pins s σ H Q I h;refine BoolOp_or (thn (ha pins s σ H _ I h) λv s1 z9=>?_);obtain ⟨x,H1,I1,r1,q1⟩:=z9;obtain ⟨c,rfl,q1⟩:=q1
 cases r1
 refine wpAny_truthy_bool ?_
 cases c with
 | false=>exact hb pins s1 σ H1 Q I1 q1
 | true=>exact ⟨.bl true,H1,I1,rfl,q1⟩
theorem Wo (ha:PE X a ta):PE X (.UnaryOp .Not a pos) (XS ta):=by
 intro pins s σ H Q I h;refine UnaryOp_ (thn (ha pins s σ H _ I h) λv s1 z9=>?_);obtain ⟨x,H1,I1,r1,q1⟩:=z9;obtain ⟨c,rfl,q1⟩:=q1
 cases r1
 exact not_of (wpAny_truthy_bool ⟨.bl (!c),H1,I1,rfl,q1⟩)
end
def SqL (K:PySem.W.Frag)(H:Hp)(a:Addr)(xs:List V):Prop:=
 Rd H a (.lst xs)\/
  ∃(o:Obj) (its:Array Value) (n:Nat),K.lookup a=some o/\o.cls = .type "list"/\o.dict=none/\o.data = .seq its n/\its.size<=sizeLine/\Vals xs its.toList
def SqT (K:PySem.W.Frag)(H:Hp)(a:Addr)(xs:List V):Prop:=
 Rd H a (.tup xs)\/
  ∃(o:Obj) (its:Array Value) (n:Nat),K.lookup a=some o/\o.cls = .type "tuple"/\o.data = .seq its n/\its.size<=sizeLine/\Vals xs its.toList
noncomputable def YD:Value->Option V
 | .none=>some .non
 | .bool b=>some (.bl b)
 | .int i _=>some (.int i)
 | .str x _=>some (.str x)
 | .bytes b _=>some (.byt b)
 | .float b _=>some (.flt b)
 | .ref a=>some (.ref a)
 | .type n=>some (.ty n)
 | _=>none
theorem RelV.abs {x:V}(r:RelV x u):YD u=some x:=by
 cases x with
 | non=>cases r;rfl
 | bl _=>cases r;rfl
 | int _=>obtain ⟨t,rfl⟩:=r;rfl
 | str _=>obtain ⟨t,rfl⟩:=r;rfl
 | byt _=>obtain ⟨t,rfl⟩:=r;rfl
 | flt _=>obtain ⟨t,rfl⟩:=r;rfl
 | ref _=>cases r;rfl
 | ty _=>cases r;rfl
theorem RelV.inj {x y:V}{u:Value}(r:RelV x u)(q:RelV y u):x=y:=uk0 (r.abs.symm.trans q.abs)
theorem Vals.inj {xs ys:List V}{us:List Value}(a:Vals xs us)(b:Vals ys us):xs=ys:=by
 cases a with
 | nil=>
   cases b
   rfl
 | cons r t=>
   cases b with
   | cons r' t'=>rw [r.inj r',Vals.inj t t']
variable {K:PySem.W.Frag}
section
variable {X:Cx}{pins:List (Addr×Obj)}{σ:St}{H:Hp}{s:Shared}{a:Addr}{xs ys:List V}
theorem SqL.of (h:H a=some (.lst xs)):SqL K H a xs:=.inl (.inl h)
theorem SqT.of (h:H a=some (.tup xs)):SqT K H a xs:=.inl (.inl h)
theorem Inv.list (I:Inv X pins σ H s)(h:SqL X.K H a xs):∃its:List Value,Vals xs its/\PlainL s.heap a its.toArray/\xs.length<=sizeLine:=by
 rcases h with h | ⟨o,its,n,hk,hc,hd,hs,hz,r⟩
 ·obtain ⟨z,its,n,r,e⟩:=h.ok I.hok;exact ⟨its,r,⟨_,n,e,rfl,rfl,rfl⟩,z⟩
 ·refine ⟨its.toList,r,⟨o,n,I.kIn a o hk,hc,hd,by simpa using hs⟩,?_⟩;have e:=r.length;simp only [ue6] at e;lia
theorem Inv.tuple (I:Inv X pins σ H s)(h:SqT X.K H a xs):∃its:List Value,Vals xs its/\IsTup s.heap a its.toArray/\xs.length<=sizeLine:=by
 rcases h with h | ⟨o,its,n,hk,hc,hs,hz,r⟩
 ·obtain ⟨z,its,r,p⟩:=h.ok I.hok;exact ⟨its,r,p,z⟩
 ·refine ⟨its.toList,r,⟨o,I.kIn a o hk,hc,n,by simpa using hs⟩,?_⟩;have e:=r.length;simp only [ue6] at e;lia
theorem Inv.list_inj (I:Inv X pins σ H s)(h:SqL X.K H a xs)(h':SqL X.K H a ys):xs=ys:=by
 obtain ⟨its,r,⟨o,n,e,_,_,d⟩,_⟩:=I.list h;obtain ⟨its',r',⟨o',n',e',_,_,d'⟩,_⟩:=I.list h';rw [e] at e';cases e'
 rw [d] at d';injection d' with d1 _
 have:its=its':=by simpa using congrArg Array.toList d1
 subst this;exact r.inj r'
theorem Inv.tuple_inj (I:Inv X pins σ H s)(h:SqT X.K H a xs)(h':SqT X.K H a ys):xs=ys:=by
 obtain ⟨its,r,⟨o,e,_,n,d⟩,_⟩:=I.tuple h;obtain ⟨its',r',⟨o',e',_,n',d'⟩,_⟩:=I.tuple h';rw [e] at e';cases e'
 rw [d] at d';injection d' with d1 _
 have:its=its':=by simpa using congrArg Array.toList d1
 subst this;exact r.inj r'
end
abbrev Cx.wish (X:Cx)(E:Value->Shared->Prop):Cx:={ X with xe:=E }
abbrev Cx.nox (X:Cx):Cx:=X.wish λ_ _=>False
theorem Cx.Ok.wish {X:Cx}(ok:X.Ok)(E:Value->Shared->Prop):(X.wish E).Ok:=
 ⟨ok.mod,ok.kind,ok.glob,ok.blt,ok.above,ok.inj,ok.has,ok.cab,ok.hd,ok.frames,ok.stk,ok.exf,ok.bs,ok.bsz,ok.noex,ok.exfs,ok.funs,ok.frf⟩
theorem Cx.Ok.unwish (ok:(X.wish E).Ok):X.Ok:=
 ⟨ok.mod,ok.kind,ok.glob,ok.blt,ok.above,ok.inj,ok.has,ok.cab,ok.hd,ok.frames,ok.stk,ok.exf,ok.bs,ok.bsz,ok.noex,ok.exfs,ok.funs,ok.frf⟩
section
variable {X:Cx}{pins:List (Addr×Obj)}{σ:St}{H:Hp}{s:Shared}{E:Value->Shared->Prop}
theorem Inv.wish (I:Inv X pins σ H s)(E:Value->Shared->Prop):Inv (X.wish E) pins σ H s:=⟨I.ok.wish E,I.os,I.bare,I.base,I.loc,I.cell,I.free,I.freeC,I.pin,I.hok,I.len⟩
theorem Inv.unwish (I:Inv (X.wish E) pins σ H s):Inv X pins σ H s:=⟨I.ok.unwish,I.os,I.bare,I.base,I.loc,I.cell,I.free,I.freeC,I.pin,I.hok,I.len⟩
theorem SP.unwish {D:Ends}{f:Flow}{s':Shared}(h:SP (X.wish E) pins D f s'):SP X pins D f s':=by
 cases f with
 | next=>obtain ⟨σ',H',I,q⟩:=h;exact ⟨σ',H',I.unwish,q⟩
 | brk=>obtain ⟨σ',H',I,q⟩:=h;exact ⟨σ',H',I.unwish,q⟩
 | cont=>obtain ⟨σ',H',I,q⟩:=h;exact ⟨σ',H',I.unwish,q⟩
 | ret u=>obtain ⟨v,σ',H',I,r,q⟩:=h;exact ⟨v,σ',H',I.unwish,r,q⟩
theorem PSs.nox {st:List Stmt}{t:TS}(h:PSs X.nox st t):PSs X st t:=λpins s σ H D I hw=>
 uq0 (h pins s σ H D (I.wish _) hw) (λ_ _ q=>q.unwish) λ_ _ z=>False.elim z
end
section
variable {X:Cx}{st:Stmt}{rest:List Stmt}{t u:TS}{e:Expr}{te:TE}{pos:Pos}
def XR:TS:=λD σ H=>D.nx σ H
def Y5 (t u:TS):TS:=λD σ H=>t { D with nx:=u D } σ H
theorem Ua:PSs X [] XR:=λ_ _ σ H _ I h=>wpAny_execs_nil ⟨σ,H,I,h⟩
theorem Ra (h1:PS X st t)(h2:PSs X rest u):PSs X (st :: rest) (Y5 t u):=by
 intro pins s σ H D I h;refine wpAny_execs_cons (thn (h1 pins s σ H { D with nx:=u D } I h) λf s1 q=>?_)
 cases f with
 | next=>
   obtain ⟨σ',H',I',q⟩:=q;exact h2 pins s1 σ' H' D I' q
 | ret v=>exact q
 | brk=>exact q
 | cont=>exact q
theorem MZ (h1:PS X st t):PSs X [st] t:=by
 intro pins s σ H D I h;refine wpAny_execs_cons (thn (h1 pins s σ H D I h) λf s1 q=>?_)
 cases f with
 | next=>exact wpAny_execs_nil q
 | ret v=>exact q
 | brk=>exact q
 | cont=>exact q
theorem Inv.quiet (I:Inv X pins σ H s):interactive X.env=false:=by simp [interactive,I.ok.kind]
def Sx (te:TE):TS:=λD σ H=>te σ H λ_ H1=>D.nx σ H1
theorem FV (he:PE X e te)(hs:swapsWith e none pos.line X.env=pure false:=by rfl):PS X (.Expr e pos) (Sx te):=by
 intro pins s σ H D I h;exact wpAny_Expr_any (thn (he pins s σ H _ I h) λv s1 z9=>by obtain ⟨x,H1,I1,r1,q1⟩:=z9;exact ⟨σ,H1,I1,q1⟩) I.quiet hs
def Y4 (te:TE):TS:=λD σ H=>te σ H D.rt
theorem Jb (he:PE X e te):PS X (.Return (some e) pos) (Y4 te):=by
 intro pins s σ H D I h;exact wpAny_Return_some (thn (he pins s σ H _ I h) λv s1 z9=>by obtain ⟨x,H1,I1,r1,q1⟩:=z9;exact ⟨x,σ,H1,I1,r1,q1⟩)
def Y0 (c:TT)(t u:TS):TS:=λD σ H=>c σ H λb H1=>if b=true then t D σ H1 else u D σ H1
theorem XG {c:Expr}{a b:List Stmt}{tc:TT}(hc:PT X c tc)(ha:PSs X a t)(hb:PSs X b u):PS X (.If c a b pos) (Y0 tc t u):=by
 intro pins s σ H D I h;refine wpAny_If (thn (hc pins s σ H _ I h) λd s1 z9=>?_);obtain ⟨H1,I1,q1⟩:=z9
 cases d with
 | true=>exact ha pins s1 σ H1 D I1 q1
 | false=>exact hb pins s1 σ H1 D I1 q1
end
abbrev TG:=V->St->Hp->(St->Hp->Prop)->Prop
abbrev TGs:=List V->St->Hp->(St->Hp->Prop)->Prop
def PG (X:Cx)(target:Expr)(t:TG):Prop:=
 ∀(pins:List (Addr×Obj)) (s:Shared) (σ:St) (H:Hp) (v:V) (u:Value) (Q:St->Hp->Prop),Inv X pins σ H s->RelV v u->t v σ H Q->
  wpAny (model X.prog X.w) X.A (assign target X.env u) (λ_ s'=>∃σ' H',Inv X pins σ' H' s'/\Q σ' H') X.xe s
def PGs (X:Cx)(ts:List Expr)(t:TGs):Prop:=
 ∀(pins:List (Addr×Obj)) (s:Shared) (σ:St) (H:Hp) (vs:List V) (us:List Value) (Q:St->Hp->Prop),Inv X pins σ H s->Vals vs us->t vs σ H Q->
  wpAny (model X.prog X.w) X.A (assignInOrder ((assignEach ts X.env).map (·.2)) us) (λ_ s'=>∃σ' H',Inv X pins σ' H' s'/\Q σ' H') X.xe s
abbrev Qb:=V->V->V->Hp->(Hp->Prop)->Prop
def U4 (X:Cx)(t:Qb):Prop:=
 ∀(pins:List (Addr×Obj)) (s:Shared) (σ:St) (H:Hp) (o i v:V) (ov iv u:Value) (Q:Hp->Prop),Inv X pins σ H s->RelV o ov->RelV i iv->RelV v u->t o i v H Q->
  wpAny (model X.prog X.w) X.A (setItem ov iv u) (λ_ s'=>∃H',Inv X pins σ H' s'/\Q H') X.xe s
variable {k:Nat}{tg:Expr}
section
variable {X:Cx}{pos:Pos}
def IT (i:Nat):TG:=λv σ H Q=>Q (σ.set i (some v)) H
theorem T0 (hN:X.N.Nodup)(hi:X.N[i]?=some x)(hx:Loc X.env.scope x)(hf:X.fn x=true\/X.env.scope.names.lookup x=some .local:=by walk_at "h"):PG X (.Name x pos) (IT i):=by
 intro pins s σ H v u Q I r h;exact wpAny_assign_Name (GA I hN hi hx r (λs' I'=>⟨_,H,I',h⟩) hf)
def YL:TGs:=λvs σ H Q=>vs=[]/\Q σ H
def Sf (t:TG)(u:TGs):TGs:=λvs σ H Q=>∃v r,vs=v :: r/\t v σ H λσ' H'=>u r σ' H' Q
theorem T1:PGs X [] YL:=by
 intro pins s σ H vs us Q I r h;obtain ⟨e,h⟩:=h;subst e
 cases r
 exact assignInOrder_nil ⟨σ,H,I,h⟩
theorem Q1 {es:List Expr}{t:TG}{u:TGs}(h1:PG X e t)(h2:PGs X es u)
 (hs:(assignEach (e :: es) X.env).map (·.2)=assign e X.env :: (assignEach es X.env).map (·.2):=by rfl):PGs X (e :: es) (Sf t u):=by
 intro pins s σ H vs us Q I r h;obtain ⟨v,vr,e1,h⟩:=h;subst e1
 cases r with
 | cons r rr=>
   rw [hs];refine assignInOrder_cons (thn (h1 pins s σ H _ _ _ I r h) λ_ s1 z9=>?_);obtain ⟨σ1,H1,I1,q1⟩:=z9;exact h2 pins s1 σ1 H1 _ _ Q I1 rr q1
def YN (K:PySem.W.Frag)(n:Nat)(t:TGs):TG:=λv σ H Q=>∃a xs,v = .ref a/\SqT K H a xs/\xs.length=n/\t xs σ H Q
theorem Wr {es:List Expr}{t:TGs}{n:Nat}(hc:X.calm=true)(h:PGs X es t)
 (hn:(assignEach es X.env).length=n:=by rfl) (hst:(assignEach es X.env).findIdx? (·.1)=none:=by rfl):PG X (.Tuple es k pos) (YN X.K n t):=by
 intro pins s σ H v u Q I r hw;obtain ⟨a,xs,e1,hq,hl,hw⟩:=hw;subst e1
 cases r
 obtain ⟨its,rv,ht,hz⟩:=I.tuple hq;refine assign_Tuple_tuple (I.ok.hd hc) ht (by simp [hn,<-hl,rv.length]) hst λh' hx=>?_;have I1:Inv X pins σ H { s with heap:=h' }:=I.kept (t':=s.toks) λb o e=>hx b o (un5 (un4 e)) e;exact h pins _ σ H xs _ Q I1 (by simpa using rv) hw
def YM (to ti:TE)(t:Qb):TG:=λv σ H Q=>to σ H λo H1=>ti σ H1 λi H2=>t o i v H2 λH3=>Q σ H3
theorem Po {o i:Expr}{to ti:TE}{t:Qb}(ho:PE X o to)(hi:PE X i ti)(hs:U4 X t)
 (ha:∀v,assign (.Subscript o i pos) X.env v=(do
   let ov <-holding [v] (eval o X.env)
   let iv <-holding [v,ov] (eval i X.env)
   standAt pos
   holding [v,ov,iv] (setItem ov iv v)
   release [v,ov,iv] []):=by intro _;rfl):PG X (.Subscript o i pos) (YM to ti t):=by
 intro pins s σ H v u Q I r h;rw [ha];refine up8 (un3 (thn (ho pins s σ H _ I h) λov s1 z9=>?_));obtain ⟨x,H1,I1,r1,q1⟩:=z9;refine up8 (un3 (thn (hi pins s1 σ H1 _ I1 q1) λiv s2 z9=>?_));obtain ⟨y,H2,I2,r2,q2⟩:=z9;refine up8 (wpAny_standAt (up8 (un3 (thn (hs pins s2 σ H2 x y v ov iv u _ I2 r1 r2 r q2) λ_ s3 z9=>?_))));obtain ⟨H3,I3,q3⟩:=z9;exact wpAny_release ⟨σ,H3,I3,q3⟩
def Ma (te:TE)(g:TG):TS:=λD σ H=>te σ H λx H1=>g x σ H1 D.nx
theorem Px {te:TE}{g:TG}(he:PE X e te)(hg:PG X tg g)(hs:swapsWithSole [tg] e pos.line X.env=pure false:=by rfl)(hw:swappedStores [tg] e X.env=pure none:=by rfl)
 (h1:(assignEach [tg] X.env).map (·.2)=[assign tg X.env]:=by rfl):PS X (.Assign [tg] e pos) (Ma te g):=by
 intro pins s σ H D I h;refine wpAny_Assign_stores (thn (he pins s σ H _ I h) λv s1 z9=>?_) hs hw;obtain ⟨x,H1,I1,r1,q1⟩:=z9;rw [h1];exact thn (hg pins s1 σ H1 x v _ I1 r1 q1) λ_ s2 q=>q
theorem Pz {te:TE}{pos':Pos}(hN:X.N.Nodup)(hi:X.N[i]?=some x)(hx:Loc X.env.scope x)(he:PE X e te)(hs:swapsWith e (some (.Name x pos')) pos.line X.env=pure false:=by rfl)(hf:X.fn x=true\/X.env.scope.names.lookup x=some .local:=by walk_at "h") :
 PS X (.Assign [.Name x pos'] e pos) (Ma te (IT i)):=by
 intro pins s σ H D I h;refine wpAny_Assign_Name (thn (he pins s σ H _ I h) λv s1 z9=>?_) hs;obtain ⟨y,H1,I1,r1,q1⟩:=z9;exact GA I1 hN hi hx r1 (λs2 I2=>⟨_,H1,I2,q1⟩) hf
end
section
variable {X:Cx}{pos:Pos}
def PY (c:TT)(tb:TS):TS:=λD σ H=>∃W:Nat->St->Hp->Prop,(∃m,W m σ H)/\∀m σ H,W m σ H->
 c σ H λb H1=>if b=true then ∃N:St->Hp->Prop,(∀σ' H',N σ' H'->∃m',m' < m/\W m' σ' H')/\tb { D with nx:=N,ct:=N,bk:=D.nx } σ H1 else D.nx σ H1
theorem Q8 {c:Expr}{body:List Stmt}{tc:TT}{tb:TS}(hp:PassesOwn (model X.prog X.w) X.A X.env X.xe)(hc:PT X c tc)(hb:PSs X body tb):PS X (.While c body [] pos) (PY tc tb):=by
 intro pins s σ H D I h;obtain ⟨W,⟨m0,w0⟩,turn⟩:=h;refine wpAny_While (codeAny_whileLoop (λn s'=>∃σ' H',Inv X pins σ' H' s'/\W n σ' H') ?_ m0 ⟨σ,H,I,w0⟩);rintro n s1 ⟨σ1,H1,I1,w1⟩;refine wpAny_passesOwn hp (thn (hc pins s1 σ1 H1 _ I1 (turn n σ1 H1 w1)) λb s2 z9=>?_);obtain ⟨H2,I2,q2⟩:=z9
 cases b with
 | true=>
   obtain ⟨N,hN,q2⟩:=q2;rw [if_pos rfl];refine wpAny_passesOwn hp (thn (hb pins s2 σ1 H2 _ I2 q2) λf s3 q3=>?_)
   cases f with
   | next=>
     obtain ⟨σ3,H3,I3,n3⟩:=q3;obtain ⟨m',hm,w3⟩:=hN σ3 H3 n3;exact ⟨m',hm,σ3,H3,I3,w3⟩
   | cont=>
     obtain ⟨σ3,H3,I3,n3⟩:=q3;obtain ⟨m',hm,w3⟩:=hN σ3 H3 n3;exact ⟨m',hm,σ3,H3,I3,w3⟩
   | brk=>exact q3
   | ret v=>exact q3
 | false=>
   rw [if_neg uf7];exact wpAny_execs_nil ⟨σ1,H2,I2,q2⟩
end
structure It where
 go:Nat->Hp->Prop
 yld:Nat->Hp->V->Hp->Prop
 stop:Nat->Hp->Prop
def FpOk (X:Cx)(pins:List (Addr×Obj))(H:Hp)(b:Addr):Prop:=
 H b=none/\b≠X.env.locals/\b∉X.fs/\(b∈X.ex\/X.s₀.heap.objs.size<=b)/\(∀x c,X.env.cells.lookup x=some c->c≠b)/\∀p∈X.pn++pins,p.1≠b
theorem Inv.fpOk {H':Hp}(I:Inv X pins σ H s)(hb:s.heap.objs.size<=b)(hn:H' b=none):FpOk X pins H' b:=by
 refine ⟨hn,un8 (uf5 I.lt hb),I.nofs hb,.inr (un6 I.sz hb),λx c e z=>?_,λp hp z=>?_⟩
 ·obtain ⟨v,q⟩:=I.cell x c e;exact absurd (uf5 q.lt (by rw [z];exact hb)) (um4 _)
 ·exact absurd (uf5 (un4 (I.pin p hp).1) (by rw [z];exact hb)) (um4 _)
structure Turn (P:Program)(w:World)(K:PySem.W.Frag)(tg:Expr)(J:It)(fp:List Addr)(it:Addr)(tn:Nat->Heap->Prop):Prop where
 mem:it∈fp
 obj:∀i h,tn i h->∀b∈fp,∃o,h.get? b=some o/\∀v,o.data≠.cell v
 keep:∀i h h',tn i h->(∀b∈fp,∀o,h.get? b=some o->h'.get? b=some o)->tn i h'
 item:∀(X:Cx),X.prog=P->X.w=w->X.K=K->X.calm=true->∀(i:Nat) (pins:List (Addr×Obj)) (s:Shared) (σ:St) (H:Hp) (E:Value->Shared->Prop),Inv X pins σ H s->(∀b∈fp,FpOk X pins H b)->tn i s.heap->J.go i H->
  wpAny (model P w) X.A (pyNext (.ref it)) (λr s1=>∃u,r=some u/\
   wpAny (model P w) X.A (letOwnedTupleGo tg (.ref it) u) (λ_ s2=>∃x H',Inv X pins σ H' s2/\RelV x u/\J.yld i H x H'/\tn (i + 1) s2.heap/\∀b∈fp,H' b=none) E s1) E s
 done:∀(X:Cx),X.prog=P->X.w=w->X.K=K->X.calm=true->∀(i:Nat) (pins:List (Addr×Obj)) (s:Shared) (σ:St) (H:Hp) (E:Value->Shared->Prop),Inv X pins σ H s->(∀b∈fp,FpOk X pins H b)->tn i s.heap->J.stop i H->
  wpAny (model P w) X.A (pyNext (.ref it)) (λr s1=>r=none/\Inv X pins σ H s1) E s
 self:∀(A:Around) (i:Nat) (s:Shared) (Q:Value->Shared->Prop) (E:Value->Shared->Prop),tn i s.heap->Q (.ref it) s->wpAny (model P w) A (pyIter (.ref it)) Q E s
abbrev TI:=St->Hp->(It->Hp->Prop)->Prop
def PIE (X:Cx)(pins:List (Addr×Obj))(σ:St)(tg:Expr)(R:It->Hp->Prop)(itv:Value)(s2:Shared):Prop:=
 ∃(it:Addr) (fp:List Addr) (tn:Nat->Heap->Prop) (J:It) (H':Hp),itv = .ref it/\Inv X pins σ H' s2/\Turn X.prog X.w X.K tg J fp it tn/\tn 0 s2.heap/\(∀b∈fp,FpOk X pins H' b)/\R J H'
def PI (X:Cx)(tg iter:Expr)(wi:TI):Prop:=
 ∀(pins:List (Addr×Obj)) (s:Shared) (σ:St) (H:Hp) (R:It->Hp->Prop),Inv X pins σ H s->wi σ H R->
  wpAny (model X.prog X.w) X.A (eval iter X.env) (λv s1=>wpAny (model X.prog X.w) X.A (pyIter v) (PIE X pins σ tg R) X.xe s1) X.xe s
theorem KB {M:Model}{A:Around}{it:Addr}{n:String}{vs:Array Value}(ho:s.heap.get? it=some o)(hc:o.cls = .type n)(hd:o.data = .fields vs)
 (hn:["enumerate", "zip", "dict_itemiterator", "dict_reverseitemiterator", "odict_iterator", "itertools.zip_longest", "itertools.pairwise"].contains n=false) (hQ:Q () s):wpAny M A (letOwnedTupleGo tg (.ref it) u) Q E s:=by
 unfold letOwnedTupleGo
 cases tg <;> first
  | exact up9 hQ
  | (cases u <;> first
      | exact up9 hQ
      | (refine up8 (wpAny_load ho ?_)
         rw [hc,hd];show wpAny M A (if (["enumerate", "zip", "dict_itemiterator", "dict_reverseitemiterator", "odict_iterator", "itertools.zip_longest", "itertools.pairwise"].contains n && vs[0]? == some (rawInt _))=true then _ else _) Q E s;rw [if_neg (by intro h;rw [hn,ul8] at h;cases h)]
         exact up9 hQ))
def Itl (K:PySem.W.Frag)(a:Addr):It:=
 ⟨λi H=>∃xs x,SqL K H a xs/\xs[i]?=some x,λi H x H'=>H'=H/\∀xs,SqL K H a xs->xs[i]?=some x,λi H=>∃xs,SqL K H a xs/\xs.length<=i⟩
def Itt (K:PySem.W.Frag)(a:Addr):It:=
 ⟨λi H=>∃xs x,SqT K H a xs/\xs[i]?=some x,λi H x H'=>H'=H/\∀xs,SqT K H a xs->xs[i]?=some x,λi H=>∃xs,SqT K H a xs/\xs.length<=i⟩
noncomputable def Itr (lo:Int)(n:Nat):It:=⟨λi _=>i < n,λi H x H'=>H'=H/\x = .int (lo + i),λi _=>n<=i⟩
theorem P4 (a it:Addr):Turn P w K tg (Itl K a) [it] it (λi h=>h.IsListIter it a i) where
 mem:=by simp
 obj:=λi h st b hb=>by
  have e:b=it:=by simpa using hb
  subst e;obtain ⟨o,e,c,d⟩:=st;exact ⟨o,e,λv z=>by rw [d] at z;cases z⟩
 keep:=λi h h' st k=>st.at λo e=>k it (by simp) o e
 item:=by
  intro X hP hw hK hc i pins s σ H E I hf st hg;subst hP hw hK;obtain ⟨xs,x,hq,hx⟩:=hg;obtain ⟨its,rv,p,hz⟩:=I.list hq;obtain ⟨u,hu,ru⟩:=rv.get hx;obtain ⟨f0,f1,f2,f3,f4,f5⟩:=hf it (by simp);refine wpAny_pyNext_list_item st p.isList (x:=u) (by simpa using hu) λh' st' sb=>?_;have I1:Inv X pins σ H { s with heap:=h' }:=I.turned (t':=s.toks) (λb o hb e=>(sb.2 b hb).trans e) f0 f1 f3 f4 f5;obtain ⟨o,e,c,d⟩:=id st';exact ⟨u,rfl,KB (s:={ s with heap:=h' }) e c d (by decide) ⟨x,H,I1,ru,⟨rfl,λys hy=>by rw [I.list_inj hy hq];exact hx⟩,st',λb hb=>(hf b hb).1⟩⟩
 done:=by
  intro X hP hw hK hc i pins s σ H E I hf st hg;subst hP hw hK;obtain ⟨xs,hq,hx⟩:=hg;obtain ⟨its,rv,p,hz⟩:=I.list hq;obtain ⟨f0,f1,f2,f3,f4,f5⟩:=hf it (by simp);have hl:=rv.length;exact wpAny_pyNext_list_end (I.ok.hd hc) st p.isList (by simp;lia) λh' eb=>⟨rfl,I.turned (t':=s.toks) (λb o hb e=>eb b o hb e) f0 f1 f3 f4 f5⟩
 self:=λ_ _ _ _ _ st h=>wpAny_pyIter_listiter st h
theorem N7 (a it:Addr):Turn P w K tg (Itt K a) [it] it (λi h=>h.IsTupleIter it a i) where
 mem:=by simp
 obj:=λi h st b hb=>by
  have e:b=it:=by simpa using hb
  subst e;obtain ⟨o,e,c,d⟩:=st;exact ⟨o,e,λv z=>by rw [d] at z;cases z⟩
 keep:=λi h h' st k=>st.at λo e=>k it (by simp) o e
 item:=by
  intro X hP hw hK hc i pins s σ H E I hf st hg;subst hP hw hK;obtain ⟨xs,x,hq,hx⟩:=hg;obtain ⟨its,rv,p,hz⟩:=I.tuple hq;obtain ⟨u,hu,ru⟩:=rv.get hx;obtain ⟨f0,f1,f2,f3,f4,f5⟩:=hf it (by simp);refine wpAny_pyNext_tuple_item st (show s.heap.IsTuple a its.toArray from p) (x:=u) (by simpa using hu) λh' st' sb=>?_;have I1:Inv X pins σ H { s with heap:=h' }:=I.turned (t':=s.toks) (λb o hb e=>(sb.2 b hb).trans e) f0 f1 f3 f4 f5;obtain ⟨o,e,c,d⟩:=id st';exact ⟨u,rfl,KB (s:={ s with heap:=h' }) e c d (by decide) ⟨x,H,I1,ru,⟨rfl,λys hy=>by rw [I.tuple_inj hy hq];exact hx⟩,st',λb hb=>(hf b hb).1⟩⟩
 done:=by
  intro X hP hw hK hc i pins s σ H E I hf st hg;subst hP hw hK;obtain ⟨xs,hq,hx⟩:=hg;obtain ⟨its,rv,p,hz⟩:=I.tuple hq;obtain ⟨f0,f1,f2,f3,f4,f5⟩:=hf it (by simp);have hl:=rv.length;exact wpAny_pyNext_tuple_end (I.ok.hd hc) st (show s.heap.IsTuple a its.toArray from p) (by simp;lia) λh' eb=>⟨rfl,I.turned (t':=s.toks) (λb o hb e=>eb b o hb e) f0 f1 f3 f4 f5⟩
 self:=λ_ _ _ _ _ st h=>wpAny_pyIter_tupleiter st h
theorem N6 (it:Addr)(lo:Int)(n:Nat):Turn P w K tg (Itr lo n) [it] it (λi h=>IsRangeIter h it (lo + (i:Nat) * 1) ((n:Int) - (i:Nat)) 1) where
 mem:=by simp
 obj:=λi h st b hb=>by
  have e:b=it:=by simpa using hb
  subst e;exact ⟨_,st,λv z=>by
   have z':Data.fields _=Data.cell v:=z
   cases z'⟩
 keep:=λi h h' st k=>k it (by simp) _ st
 item:=by
  intro X hP hw hK hc i pins s σ H E I hf st hg;subst hP hw hK;obtain ⟨f0,f1,f2,f3,f4,f5⟩:=hf it (by simp);have W:=Walks.range (prog:=X.prog) (w:=X.w) (I.ok.hd hc) it lo 1 n;refine W.item i s _ _ hg st λv h' tk hv st' kk=>?_;obtain ⟨t,rfl⟩:=hv;have I1:Inv X pins σ H { s with heap:=h',toks:=tk }:=I.turned (λb o hb e=>kk b o (by simpa using hb) e) f0 f1 f3 f4 f5;refine ⟨_,rfl,KB (s:={ s with heap:=h',toks:=tk }) (n:="range_iterator") st' rfl rfl (by decide) ⟨.int (lo + i),H,I1,⟨t,?_⟩,⟨rfl,rfl⟩,st',λb hb=>(hf b hb).1⟩⟩;rw [Int.mul_one]
 done:=by
  intro X hP hw hK hc i pins s σ H E I hf st hg;subst hP hw hK;obtain ⟨f0,f1,f2,f3,f4,f5⟩:=hf it (by simp);exact wpAny_pyNext_range_end (I.ok.hd hc) st (by have:n<=i:=hg;lia) λh' eb=>⟨rfl,I.turned (t':=s.toks) (λb o hb e=>eb b o hb e) f0 f1 f3 f4 f5⟩
 self:=λ_ _ _ _ _ st h=>wpAny_pyIter_rangeiter st h
variable {fp:List Addr}
section
variable {X:Cx}{tg:Expr}
theorem LV {R:It->Hp->Prop}{lo hi:Int}{t u v:Tok}{tk:Nat}(I:Inv X pins σ H s)(h1 : -(2 ^ 62)<=lo)(h2:lo < 2 ^ 62)(h3 : -(2 ^ 62)<=hi)(h4:hi < 2 ^ 62)
 (q:R (Itr lo (hi - lo).toNat) H):wpAny (model X.prog X.w) X.A (pyIter (.ref s.heap.objs.size)) (PIE X pins σ tg R) E { s with heap:=s.heap.push { cls:=.type "range",data:=.fields #[.int lo t,.int hi u,.int 1 v] },toks:=tk }:=by
 refine wpAny_pyIter_range (IsRange.new ..) (small_one h1 h2 h3 h4) ?_;have I1:Inv X pins σ H { s with heap:=s.heap.push { cls:=.type "range",data:=.fields #[.int lo t,.int hi u,.int 1 v] },toks:=tk }:=I.kept λb o e=>ub9 _ e;refine ⟨(s.heap.push { cls:=.type "range",data:=.fields #[.int lo t,.int hi u,.int 1 v] }).objs.size,[(s.heap.push { cls:=.type "range",data:=.fields #[.int lo t,.int hi u,.int 1 v] }).objs.size],_,_,H,rfl,
  I1.kept (t':=tk) λb o e=>ub9 _ e,N6 _ lo (hi - lo).toNat,?_,λb hb=>?_,q⟩
 ·have e1:lo + ((0:Nat):Int) * 1=lo:=by simp
  have e2:(((hi - lo).toNat:Nat):Int) - ((0:Nat):Int)=Builtin.Range.rangeSize lo hi 1:=by rw [rangeSize_one];split <;> lia
  show IsRangeIter _ _ (lo + ((0:Nat):Int) * 1) ((((hi - lo).toNat:Nat):Int) - ((0:Nat):Int)) 1;rw [e1,e2];exact ue7 _ rfl
 ·have e:b=(s.heap.push { cls:=.type "range",data:=.fields #[.int lo t,.int hi u,.int 1 v] }).objs.size:=by simpa using hb
  subst e;exact I1.fpOk (up3 _) (I1.hok.fresh (up3 _))
def Xu (ta:TA):TI:=λσ H R=>ta σ H λvs H1=>∃j:Int,vs=[.int j]/\-(2 ^ 62)<=j/\j < 2 ^ 62/\R (Itr 0 j.toNat) H1
def Xv (ta:TA):TI:=λσ H R=>ta σ H λvs H1=>∃i j:Int,vs=[.int i,.int j]/\(-(2 ^ 62)<=i/\i < 2 ^ 62/\-(2 ^ 62)<=j/\j < 2 ^ 62)/\R (Itr i (j - i).toNat) H1
theorem Pq {a:Expr}{ta:TA}{p pos:Pos}(hg:Gl X "range")(hm:X.mg "range" = none)(ha:PA X [a] ta)(hs:starEach [a] X.env=[(false,eval a X.env)]:=by rfl):PI X tg (.Call (.Name "range" p) [a] [] pos) (Xu ta):=by
 intro pins s σ H R I h;refine Call_ (E4 I hg hm boot_range (ua2 (thn (ha pos pins s σ H _ I h) λus s1 z9=>?_) hs rfl));obtain ⟨vs,H1,I1,r1,q1⟩:=z9;obtain ⟨j,e,q1,q2,q⟩:=q1;subst e
 cases r1 with
 | cons r rr=>
   cases rr
   obtain ⟨t,rfl⟩:=r;exact call_range_1 (LV I1 (by lia) (by lia) q1 q2 (by simpa using q))
theorem Ps {a b:Expr}{ta:TA}{p pos:Pos}(hg:Gl X "range")(hm:X.mg "range" = none)(ha:PA X [a,b] ta)(hs:starEach [a,b] X.env=[(false,eval a X.env),(false,eval b X.env)]:=by rfl)(hs2:starEach [b] X.env=[(false,eval b X.env)]:=by rfl) :
 PI X tg (.Call (.Name "range" p) [a,b] [] pos) (Xv ta):=by
 intro pins s σ H R I h;refine Call_ (E4 I hg hm boot_range (ua2 (thn (ha pos pins s σ H _ I h) λus s1 z9=>?_) (by rw [hs,hs2]) (by rw [hs2];rfl)));obtain ⟨vs,H1,I1,r1,q1⟩:=z9;obtain ⟨i,j,e,⟨q1,q2,q3,q4⟩,q⟩:=q1;subst e
 cases r1 with
 | cons r rr=>
   cases rr with
   | cons r' rr=>
     cases rr
     obtain ⟨t,rfl⟩:=r;obtain ⟨t',rfl⟩:=r';exact call_range_2 (LV I1 q1 q2 q3 q4 q)
def Rz (wi:TI)(g:TG)(tb:TS):TS:=λD σ H=>wi σ H λJ H1=>∃W:Nat->Nat->St->Hp->Prop,(∃m,W 0 m σ H1)/\∀i m σ H,W i m σ H->
 (J.stop i H/\D.nx σ H)\/(J.go i H/\∃N:St->Hp->Prop,(∀σ' H',N σ' H'->∃m',m' < m/\W (i + 1) m' σ' H')/\∀x H',J.yld i H x H'->g x σ H' λσ2 H2=>tb { D with nx:=N,ct:=N,bk:=D.nx } σ2 H2)
noncomputable def G9 (fp:List Addr)(h:Heap):List (Addr×Obj):=fp.filterMap λb=>(h.get? b).map λo=>(b,o)
theorem EQ (hb:b∈fp)(e:h.get? b=some o):(b,o)∈G9 fp h:=List.mem_filterMap.mpr ⟨b,hb,by rw [e];rfl⟩
theorem Pe {p:Addr×Obj}(hp:p∈G9 fp h):p.1∈fp/\h.get? p.1=some p.2:=by
 obtain ⟨b,hb,e⟩:=List.mem_filterMap.mp hp
 cases q:h.get? b with
 | none=>rw [q] at e;cases e
 | some o=>
   rw [q] at e;have e':(b,o)=p:=uk0 e;subst e';exact ⟨hb,q⟩
theorem Inv.pinned (I:Inv X pins σ H s)(hf:∀b∈fp,FpOk X pins H b)(ho:∀b∈fp,∃o,s.heap.get? b=some o/\∀v,o.data≠.cell v):Inv X (pins++G9 fp s.heap) σ H s:=
 I.pins_of λp hp=>(uj9.mp hp).elim (λz=>I.pin p (uc8 _ z)) λz=>by
  obtain ⟨hb,e⟩:=Pe z;obtain ⟨f0,f1,f2,_⟩:=hf p.1 hb;obtain ⟨o,e',d⟩:=ho p.1 hb;rw [e] at e';cases e'
  exact ⟨e,f0,f1,f2,d⟩
theorem Inv.unpinned {pl:List (Addr×Obj)}(I:Inv X (pins++pl) σ H s):Inv X pins σ H s:=I.pins_of λp hp=>I.pin p (uc8 _ (ud7 _ hp))
theorem Py {iter:Expr}{body:List Stmt}{wi:TI}{g:TG}{tb:TS}{pos:Pos}(hp:PassesOwn (model X.prog X.w) X.A X.env X.xe)(hc:X.calm=true)(hi:PI X tg iter wi)(hg:PG X tg g)(hb:PSs X body tb)
 (hs:∀x,foldedSetIterable iter X.env x=pure x:=by intro _;rfl):PS X (.For tg iter body [] pos) (Rz wi g tb):=by
 intro pins s σ H D I h;refine wpAny_For (thn (hi pins s σ H _ I h) λv s1 h1=>thn h1 λitv s2 h2=>?_) hs;obtain ⟨it,fp,tn,J,H2,e,I2,T,st2,f2,W,⟨m0,w0⟩,turn⟩:=h2;subst e
 -- what stays true of the iterator's objects through the loop
 have stat:∀{H':Hp},(∀b∈fp,H' b=none)->∀b∈fp,FpOk X pins H' b:=λhn b hb=>⟨hn b hb,(f2 b hb).2⟩;refine codeAny_forLoop_any (λn s'=>∃i σ' H',Inv X pins σ' H' s'/\tn i s'.heap/\(∀b∈fp,H' b=none)/\W i n σ' H') ?_ m0 ⟨0,σ,H2,I2,st2,λb hb=>(f2 b hb).1,w0⟩;rintro n s3 ⟨i,σ3,H3,I3,st3,fr3,w3⟩;rcases turn i n σ3 H3 w3 with ⟨stop,qn⟩ | ⟨go,N,hN,step⟩
 ·refine wpAny_passesOwn hp (thn (T.done X rfl rfl rfl hc i pins s3 σ3 H3 X.xe I3 (stat fr3) st3 stop) λr s4 z9=>?_);obtain ⟨hr,I4⟩:=z9;subst hr;exact wpAny_execs_nil ⟨σ3,H3,I4,qn⟩
 ·refine wpAny_passesOwn hp (thn (T.item X rfl rfl rfl hc i pins s3 σ3 H3 X.xe I3 (stat fr3) st3 go) λr s4 z9=>?_);obtain ⟨u,hr,h4⟩:=z9;subst hr;refine wpAny_passesOwn hp (thn h4 λ_ s5 z9=>?_);obtain ⟨x,H5,I5,r5,y5,st5,fr5⟩:=z9;have I5':=I5.pinned (stat fr5) (T.obj _ _ st5);refine wpAny_passesOwn hp (thn (hg _ s5 σ3 H5 x u _ I5' r5 (step x H5 y5)) λ_ s6 z9=>?_);obtain ⟨σ6,H6,I6,q6⟩:=z9;refine wpAny_passesOwn hp (thn (hb _ s6 σ6 H6 _ I6 q6) λf s7 q7=>?_);have again:∀{σ7:St} {H7:Hp},Inv X (pins++G9 fp s5.heap) σ7 H7 s7->N σ7 H7->∃m,m < n/\∃i σ' H',Inv X pins σ' H' s7/\tn i s7.heap/\(∀b∈fp,H' b=none)/\W i m σ' H':=λ{σ7 H7} I7 n7=>by
   obtain ⟨m',hm,w7⟩:=hN σ7 H7 n7;refine ⟨m',hm,i + 1,σ7,H7,I7.unpinned,T.keep _ _ _ st5 λb hb o e=>(I7.pin (b,o) (uc8 _ (uc8 _ (EQ hb e)))).1,λb hb=>?_,w7⟩;obtain ⟨o,e,d⟩:=T.obj _ _ st5 b hb;exact (I7.pin (b,o) (uc8 _ (uc8 _ (EQ hb e)))).2.1
  cases f with
  | next=>obtain ⟨σ7,H7,I7,n7⟩:=q7;exact again I7 n7
  | cont=>obtain ⟨σ7,H7,I7,n7⟩:=q7;exact again I7 n7
  | brk=>obtain ⟨σ7,H7,I7,q7⟩:=q7;exact ⟨σ7,H7,I7.unpinned,q7⟩
  | ret v=>obtain ⟨x7,σ7,H7,I7,r7,q7⟩:=q7;exact ⟨x7,σ7,H7,I7.unpinned,r7,q7⟩
end
abbrev R2:=V->V->Hp->VK->Prop
def OpR (X:Cx)(f:Value->Value->Sem Value)(r:R2):Prop:=
 ∀(pins:List (Addr×Obj)) (s:Shared) (σ:St) (H:Hp) (x y:V) (v u:Value) (Q:VK),Inv X pins σ H s->RelV x v->RelV y u->r x y H Q->
  wpAny (model X.prog X.w) X.A (f v u) (EP X pins σ Q) X.xe s
def UnR (X:Cx)(f:Value->Sem Value)(r:V->Hp->VK->Prop):Prop:=
 ∀(pins:List (Addr×Obj)) (s:Shared) (σ:St) (H:Hp) (x:V) (v:Value) (Q:VK),Inv X pins σ H s->RelV x v->r x H Q->
  wpAny (model X.prog X.w) X.A (f v) (EP X pins σ Q) X.xe s
def BA (X:Cx)(f:Value)(r:List V->Hp->VK->Prop):Prop:=
 ∀(pins:List (Addr×Obj)) (s:Shared) (σ:St) (H:Hp) (xs:List V) (us:List Value) (Q:VK),Inv X pins σ H s->Vals xs us->r xs H Q->
  wpAny (model X.prog X.w) X.A (call f us) (EP X pins σ Q) X.xe s
def tOp (r:R2)(ta tb:TE):TE:=λσ H Q=>ta σ H λx H1=>tb σ H1 λy H2=>r x y H2 Q
def tUn (r:V->Hp->VK->Prop)(ta:TE):TE:=λσ H Q=>ta σ H λx H1=>r x H1 Q
def rI (C:Int->Int->Prop)(g:Int->Int->V):R2:=λx y H Q=>∃i j,x = .int i/\y = .int j/\C i j/\Q (g i j) H
def rI0 (g:Int->Int->V):R2:=λx y H Q=>∃i j,x = .int i/\y = .int j/\Q (g i j) H
def rU (g:Int->V):V->Hp->VK->Prop:=λx H Q=>∃i,x = .int i/\Q (g i) H
variable {r:R2}{f:Value->Value->Sem Value}
section
variable {X:Cx}{a b c:Expr}{ta tb tc:TE}{pos:Pos}
theorem Qg (ha:PE X a ta)(hb:PE X b tb){pins:List (Addr×Obj)}{s:Shared}{σ:St}{H:Hp}{R:V->V->Hp->Prop}(I:Inv X pins σ H s)
 (h:ta σ H λx H1=>tb σ H1 λy H2=>R x y H2) {Q:Value->Shared->Prop} {f:Value->Value->Sem Value}
 (hf:∀v u s2 x y H2,Inv X pins σ H2 s2->RelV x v->RelV y u->R x y H2->wpAny (model X.prog X.w) X.A (f v u) Q X.xe s2) :
 wpAny (model X.prog X.w) X.A (eval a X.env) (λv s₁=>wpAny (model X.prog X.w) X.A (eval b X.env) (λu s₂=>wpAny (model X.prog X.w) X.A (f v u) Q X.xe s₂) X.xe s₁) X.xe s:=by
 refine thn (ha pins s σ H _ I h) λv s1 z9=>?_;obtain ⟨x,H1,I1,r1,q1⟩:=z9;refine thn (hb pins s1 σ H1 _ I1 q1) λu s2 z9=>?_;obtain ⟨y,H2,I2,r2,q2⟩:=z9;exact hf v u s2 x y H2 I2 r1 r2 q2
theorem Sk {op:Operator}(ho:OpR X (binaryOp op) r)(ha:PE X a ta)(hb:PE X b tb):PE X (.BinOp a op b pos) (tOp r ta tb):=by
 intro pins s σ H Q I h;exact wpAny_BinOp (Qg ha hb I h λv u s2 x y H2 I2 rx ry q=>ho pins s2 σ H2 x y v u Q I2 rx ry q)
theorem XC {op:UnaryOp}{r:V->Hp->VK->Prop}(ho:UnR X (unaryOp op) r)(ha:PE X a ta):PE X (.UnaryOp op a pos) (tUn r ta):=by
 intro pins s σ H Q I h;exact UnaryOp_ (thn (ha pins s σ H _ I h) λv s1 z9=>by obtain ⟨x,H1,I1,r1,q1⟩:=z9;exact ho pins s1 σ H1 x v Q I1 r1 q1)
theorem opI {C:Int->Int->Prop}{g:Int->Int->Int}
 (rule:∀(i j:Int) (t u:Tok) (s:Shared) (Q:Value->Shared->Prop) (E:Value->Shared->Prop),C i j->Q (.int (g i j) s.toks) { s with toks:=s.toks + 1 }->wpAny (model X.prog X.w) X.A (f (.int i t) (.int j u)) Q E s) :
 OpR X f (rI C λi j=>.int (g i j)):=by
 intro pins s σ H x y v u Q I rx ry h;obtain ⟨i,j,rfl,rfl,hc,q⟩:=h;obtain ⟨t,rfl⟩:=rx;obtain ⟨t',rfl⟩:=ry;exact rule i j t t' s _ _ hc ⟨.int (g i j),H,I.tok _,⟨_,rfl⟩,q⟩
theorem V7 {g:Int->Int->Int}
 (rule:∀(i j:Int) (t u:Tok) (s:Shared) (Q:Value->Shared->Prop) (E:Value->Shared->Prop),Q (.int (g i j) s.toks) { s with toks:=s.toks + 1 }->wpAny (model X.prog X.w) X.A (f (.int i t) (.int j u)) Q E s) :
 OpR X f (rI0 λi j=>.int (g i j)):=by
 intro pins s σ H x y v u Q I rx ry h;obtain ⟨i,j,rfl,rfl,q⟩:=h;obtain ⟨t,rfl⟩:=rx;obtain ⟨t',rfl⟩:=ry;exact rule i j t t' s _ _ ⟨.int (g i j),H,I.tok _,⟨_,rfl⟩,q⟩
theorem NQ {g:Int->Int->Bool}
 (rule:∀(i j:Int) (t u:Tok) (s:Shared) (Q:Value->Shared->Prop) (E:Value->Shared->Prop),Q (.bool (g i j)) s->wpAny (model X.prog X.w) X.A (f (.int i t) (.int j u)) Q E s) :
 OpR X f (rI0 λi j=>.bl (g i j)):=by
 intro pins s σ H x y v u Q I rx ry h;obtain ⟨i,j,rfl,rfl,q⟩:=h;obtain ⟨t,rfl⟩:=rx;obtain ⟨t',rfl⟩:=ry;exact rule i j t t' s _ _ ⟨.bl (g i j),H,I,rfl,q⟩
def U0 (i j:Int):Prop:=0 < j/\j < 1073741824
def U1 (i j:Int):Prop:=0<=j/\j<=1000000/\i.natAbs < 2 ^ 64
def CMul (i j:Int):Prop:=(-(2 ^ 64) < i/\i < 2 ^ 64)\/(-(2 ^ 64) < j/\j < 2 ^ 64)
theorem CMul.ok {i j:Int}(h:CMul i j):IntMulOk i j:=by
 rcases h with ⟨h1,h2⟩ | ⟨h1,h2⟩
 ·exact .of_left (intBits_le_64 h1 h2)
 ·exact .of_right (intBits_le_64 h1 h2)
theorem two_pow_nn (k:Nat):(0:Int)<=2 ^ k:=by
 rw [two_pow_cast];exact uf8 _
theorem op_add:OpR X (binaryOp .Add) (rI0 λi j=>.int (i + j)):=V7 λ_ _ _ _ _ _ _ q=>add_int q
theorem Wg:OpR X (binaryOp .Sub) (rI0 λi j=>.int (i - j)):=V7 λ_ _ _ _ _ _ _ q=>sub_int q
theorem op_mul:OpR X (binaryOp .Mult) (rI CMul λi j=>.int (i * j)):=opI λ_ _ _ _ _ _ _ hc q=>mul_int q hc.ok
theorem TR:OpR X (binaryOp .FloorDiv) (rI U0 λi j=>.int (i / j)):=opI λi j _ _ _ _ _ hc q=>by
 have h1:(0:Int) < j:=hc.1;have h2:j < 1073741824:=hc.2;exact floordiv_int (by lia) (by rw [ua4 i (by lia)];exact q) (.inl (PyProof.noPylong_small (by lia)))
theorem Wa:OpR X (binaryOp .Mod) (rI (λ_ j=>0 < j) λi j=>.int (i % j)):=opI λi j _ _ _ _ _ hc q=>by
 have h1:(0:Int) < j:=hc;exact mod_int' (by lia) (by rw [Int.fmod_eq_emod_of_nonneg i (by lia)];exact q)
theorem Wb:OpR X (binaryOp .Pow) (rI U1 λi j=>.int (i ^ j.toNat)):=opI λ_ _ _ _ _ _ _ hc q=>pow_int_small hc.1 hc.2.1 hc.2.2 q
theorem We:OpR X (binaryOp .RShift) (rI (λ_ j=>0<=j) λi j=>.int (i / 2 ^ j.toNat)):=opI λi j _ _ _ _ _ hc q=>
 rshift_int hc (by rw [ua4 i (two_pow_nn _)];exact q)
theorem unI {f:Value->Sem Value}{g:Int->Int}
 (rule:∀(i:Int) (t:Tok) (s:Shared) (Q:Value->Shared->Prop) (E:Value->Shared->Prop),Q (.int (g i) s.toks) { s with toks:=s.toks + 1 }->wpAny (model X.prog X.w) X.A (f (.int i t)) Q E s) :
 UnR X f (rU λi=>.int (g i)):=by
 intro pins s σ H x v Q I rx h;obtain ⟨i,rfl,q⟩:=h;obtain ⟨t,rfl⟩:=rx;exact rule i t s _ _ ⟨.int (g i),H,I.tok _,⟨_,rfl⟩,q⟩
theorem W4:UnR X (unaryOp .USub) (rU λi=>.int (-i)):=unI λ_ _ _ _ _ q=>neg_int q
end
variable {r':R2}{op:CmpOp}{us:List Value}
section
variable {X:Cx}{a b c:Expr}{ta tb tc:TE}{pos:Pos}
theorem op_lt:OpR X (compareOp .Lt) (rI0 λi j=>.bl (decide (i < j))):=NQ λ_ _ _ _ _ _ _ q=>lt_int q
theorem op_le:OpR X (compareOp .LtE) (rI0 λi j=>.bl (decide (i<=j))):=NQ λ_ _ _ _ _ _ _ q=>le_int q
theorem op_gt:OpR X (compareOp .Gt) (rI0 λi j=>.bl (decide (j < i))):=NQ λ_ _ _ _ _ _ _ q=>gt_int q
theorem op_ge:OpR X (compareOp .GtE) (rI0 λi j=>.bl (decide (j<=i))):=NQ λ_ _ _ _ _ _ _ q=>ge_int q
theorem OpR.or (h:OpR X f r)(h':OpR X f r'):OpR X f (λx y H Q=>r x y H Q\/r' x y H Q):=by
 intro pins s σ H x y v u Q I rx ry q;rcases q with q | q
 ·exact h pins s σ H x y v u Q I rx ry q
 ·exact h' pins s σ H x y v u Q I rx ry q
theorem C7 (b:Expr){op:CmpOp}(h:op≠.In:=by decide)(h2:op≠.NotIn:=by decide):behindInMarks op b=false:=by
 have e1:(op == CmpOp.In)=false:=by cases op <;> first | rfl | exact absurd rfl h
 have e2:(op == CmpOp.NotIn)=false:=by cases op <;> first | rfl | exact absurd rfl h2
 cases b <;> simp [behindInMarks,e1,e2]
theorem TY (ho:OpR X (compareOp op) r)(ha:PE X a ta)(hb:PE X b tb)(hm:behindInMarks op b=false):PE X (.Compare a [op] [b] pos) (tOp r ta tb):=by
 intro pins s σ H Q I h;exact wpAny_Compare1 (Qg ha hb I h λv u s2 x y H2 I2 rx ry q=>ho pins s2 σ H2 x y v u Q I2 rx ry q) hm
def Sy (t:TE):TT:=λσ H Q=>t σ H λx H'=>∃k,x = .bl k/\Q k H'
theorem Ub (ho:OpR X (compareOp op) r)(ha:PE X a ta)(hb:PE X b tb)(hm:behindInMarks op b=false):PT X (.Compare a [op] [b] pos) (Sy (tOp r ta tb)):=by
 intro pins s σ H Q I h;refine wpAny_isTrue_Compare1 (thn (ha pins s σ H _ I h) λv s1 ⟨x,H1,I1,r1,q1⟩=>thn (hb pins s1 σ H1 _ I1 q1) λu s2 ⟨y,H2,I2,r2,q2⟩=>
  thn (ho pins s2 σ H2 x y v u _ I2 r1 r2 q2) λc s3 ⟨z,H3,I3,r3,k,e,q3⟩=>?_) hm
 subst e
 cases r3
 exact wpAny_truthy_bool ⟨H3,I3,q3⟩
def Mb (r r':R2)(ta tb tc:TE):TE:=λσ H Q=>ta σ H λx H1=>tb σ H1 λy H2=>r x y H2 λz H3=>∃k,z = .bl k/\
 (if k=true then tc σ H3 λw' H4=>r' y w' H4 Q else Q (.bl false) H3)
theorem QZ {op':CmpOp}(ho:OpR X (compareOp op) r)(ho':OpR X (compareOp op') r')(ha:PE X a ta)(hb:PE X b tb)(hc:PE X c tc)
 (hm:lastMarks [op,op'] [b,c]=false:=by with_unfolding_all rfl):PE X (.Compare a [op,op'] [b,c] pos) (Mb r r' ta tb tc):=by
 intro pins s σ H Q I h;refine Compare_chain (thn (ha pins s σ H _ I h) λv s1 ⟨x,H1,I1,r1,q1⟩=>chain_link (thn (hb pins s1 σ H1 _ I1 q1) λu s2 ⟨y,H2,I2,r2,q2⟩=>
  thn (ho pins s2 σ H2 x y v u _ I2 r1 r2 q2) λd s3 ⟨z,H3,I3,r3,k,e,q3⟩=>?_)) hm
 subst e
 cases r3
 refine wpAny_truthy_bool ?_
 cases k with
 | false=>exact ite_ff ⟨.bl false,H3,I3,rfl,q3⟩
 | true=>exact ite_tt (chain_last (thn (hc pins s3 σ H3 _ I3 q3) λw' s4 z9=>by obtain ⟨z',H4,I4,r4,q4⟩:=z9;exact ho' pins s4 σ H4 y z' u w' Q I4 r2 r4 q4))
theorem Rb {op':CmpOp}(ho:OpR X (compareOp op) r)(ho':OpR X (compareOp op') r')(ha:PE X a ta)(hb:PE X b tb)(hc:PE X c tc)
 (hm:lastMarks [op,op'] [b,c]=false:=by with_unfolding_all rfl):PT X (.Compare a [op,op'] [b,c] pos) (Sy (Mb r r' ta tb tc)):=by
 intro pins s σ H Q I h;refine isTrue_chain (thn (ha pins s σ H _ I h) λv s1 ⟨x,H1,I1,r1,q1⟩=>test_link (thn (hb pins s1 σ H1 _ I1 q1) λu s2 ⟨y,H2,I2,r2,q2⟩=>
  thn (ho pins s2 σ H2 x y v u _ I2 r1 r2 q2) λd s3 ⟨z,H3,I3,r3,k,e,q3⟩=>?_)) hm
 subst e
 cases r3
 refine wpAny_truthy_bool ?_
 cases k with
 | false=>
   obtain ⟨k',e',q'⟩:=q3
   cases e'
   exact ite_ff ⟨H3,I3,q'⟩
 | true=>
   refine ite_tt (test_last (thn (hc pins s3 σ H3 _ I3 q3) λw' s4 ⟨z',H4,I4,r4,q4⟩=>thn (ho' pins s4 σ H4 y z' u w' _ I4 r2 r4 q4) λd' s5 z9=>?_));obtain ⟨z2,H5,I5,r5,k2,e2,q5⟩:=z9;subst e2
   cases r5
   exact wpAny_truthy_bool ⟨H5,I5,q5⟩
theorem FT:(sizeLine:Nat) < 2 ^ 63:=by rw [sizeLine_eq];decide
theorem op_add_str:OpR X (binaryOp .Add) (λx y H Q=>∃i j,x = .str i/\y = .str j/\i.length + j.length<=sizeLine/\Q (.str (i++j)) H):=by
 intro pins s σ H x y v u Q I rx ry h;obtain ⟨i,j,rfl,rfl,hz,q⟩:=h;obtain ⟨t,rfl⟩:=rx;obtain ⟨t',rfl⟩:=ry;exact add_str (λt' tk=>⟨.str (i++j),H,I.tok _,⟨_,rfl⟩,q⟩) hz
theorem DY {x:V}(r:Vals [x] us):∃u,us=[u]/\RelV x u:=by
 cases r with
 | cons r1 r2=>cases r2;exact ⟨_,rfl,r1⟩
theorem Jg {x y:V}(r:Vals [x,y] us):∃u w',us=[u,w']/\RelV x u/\RelV y w':=by
 cases r with
 | cons r1 r2=>
   cases r2 with
   | cons r3 r4=>cases r4;exact ⟨_,_,rfl,r1,r3⟩
theorem Oz (hc:X.calm=true):BA X (.builtin "max") (λxs H Q=>∃i j,xs=[.int i,.int j]/\Q (.int (if j > i then j else i)) H):=by
 intro pins s σ H xs us Q I r h;obtain ⟨i,j,rfl,q⟩:=h;obtain ⟨u,w',rfl,⟨t,rfl⟩,⟨t',rfl⟩⟩:=Jg r;refine max_two_ints (I.ok.hd hc) λh' tk k=>⟨_,H,I.kept k,?_,q⟩
 by_cases hj:j > i
 ·rw [if_pos hj,if_pos hj];exact ⟨_,rfl⟩
 ·rw [if_neg hj,if_neg hj];exact ⟨_,rfl⟩
theorem OA (hc:X.calm=true):BA X (.builtin "min") (λxs H Q=>∃i j,xs=[.int i,.int j]/\Q (.int (if j < i then j else i)) H):=by
 intro pins s σ H xs us Q I r h;obtain ⟨i,j,rfl,q⟩:=h;obtain ⟨u,w',rfl,⟨t,rfl⟩,⟨t',rfl⟩⟩:=Jg r;refine min_two_ints (I.ok.hd hc) λh' tk k=>⟨_,H,I.kept k,?_,q⟩
 by_cases hj:j < i
 ·rw [if_pos hj,if_pos hj];exact ⟨_,rfl⟩
 ·rw [if_neg hj,if_neg hj];exact ⟨_,rfl⟩
theorem Ox:BA X (.type "int") (λxs H Q=>(∃i,xs=[.int i]/\Q (.int i) H)\/∃k,xs=[.bl k]/\Q (.int (if k then 1 else 0)) H):=by
 intro pins s σ H xs us Q I r h;rcases h with ⟨i,rfl,q⟩ | ⟨k,rfl,q⟩
 ·obtain ⟨u,rfl,t,rfl⟩:=DY r;exact call_int_int ⟨.int i,H,I,⟨_,rfl⟩,q⟩
 ·obtain ⟨u,rfl,r1⟩:=DY r
  cases r1
  exact call_int_bool ⟨.int (if k then 1 else 0),H,I.tok _,⟨_,rfl⟩,q⟩
theorem Qk:BA X (.builtin "ord") (λxs H Q=>∃x,xs=[.str x]/\x.length=1/\Q (.int (x.cps.getD 0 0:Nat)) H):=by
 intro pins s σ H xs us Q I r h;obtain ⟨x,rfl,hz,q⟩:=h;obtain ⟨u,rfl,t,rfl⟩:=DY r;exact ord_of_one hz ⟨.int _,H,I.tok _,⟨_,rfl⟩,q⟩
def U2 (K:PySem.W.Frag)(x:V)(H:Hp)(n:Nat):Prop:=
 match x with
 | .str y=>y.length<=sizeLine/\n=y.length
 | .byt y=>y.size<=sizeLine/\n=y.size
 | .ref p=>(∃xs,SqL K H p xs/\n=xs.length)\/∃xs,SqT K H p xs/\n=xs.length
 | _=>False
theorem Qj:BA X (.builtin "len") (λxs H Q=>∃x n,xs=[x]/\U2 X.K x H n/\Q (.int n) H):=by
 intro pins s σ H xs us Q I r h;obtain ⟨x,n,rfl,e,q⟩:=h;obtain ⟨u,rfl,rx⟩:=DY r;have hl:=FT;have hs:sizeLine=16777216:=sizeLine_eq
 cases x with
 | str y=>
   obtain ⟨t,rfl⟩:=rx;obtain ⟨hy,e'⟩:y.length<=sizeLine/\n=y.length:=e;subst e';exact len_str (by lia) ⟨.int _,H,I.tok _,⟨_,rfl⟩,q⟩
 | byt y=>
   obtain ⟨t,rfl⟩:=rx;obtain ⟨hy,e'⟩:y.size<=sizeLine/\n=y.size:=e;subst e';exact PySem.W.len_bytes (by lia) ⟨.int _,H,I.tok _,⟨_,rfl⟩,q⟩
 | ref p=>
   cases rx
   have e':(∃xs,SqL X.K H p xs/\n=xs.length)\/∃xs,SqT X.K H p xs/\n=xs.length:=e;rcases e' with ⟨xs,hx,e'⟩ | ⟨xs,hx,e'⟩
   ·subst e';obtain ⟨its,r',pl,hz⟩:=I.list hx;have hlen:=r'.length;exact Calls.call_len_list pl.isList (by simp only [ug7];lia) ⟨.int xs.length,H,I.tok _,⟨_,by simp only [ug7];rw [hlen]⟩,q⟩
   ·subst e';obtain ⟨its,r',pl,hz⟩:=I.tuple hx;have hlen:=r'.length;exact len_tuple pl (by simp only [ug7];lia) ⟨.int xs.length,H,I.tok _,⟨_,by simp only [ug7];rw [hlen]⟩,q⟩
 | _=>exact (show False from e).elim
end
structure ObjM (h:Heap)(x dx C:Addr)(mA:Str->Option Value):Prop where
 obj:h.get? x=some (PySem.W.instObj C dx)
 ns:h.Ns1 dx mA
 ne:dx≠x
theorem J6 {dx:Addr}{mA:Str->Option Value}(n:h.Ns1 dx mA):∃od,h.get? dx=some od/\∀name,PySem.W.lookIn name od=some (mA name):=by
 obtain ⟨o,es,ep,ho,hd,hk,_,hm⟩:=n;refine ⟨o,ho,λname=>?_⟩;have e:=hm name;unfold nsFind findBy at e;rw [<-Array.find?_toList] at e;unfold PySem.W.lookIn;rw [hd];dsimp only
 split
 ·rename_i y q;rw [q] at e;exact congrArg some e
 ·rename_i q;rw [q] at e;have a:es.toList.any (·.refKey)=false:=by
   rw [List.any_eq_false];intro y hy;obtain ⟨z,t,hkey⟩:=hk y (Array.mem_toList_iff.mp hy);simp [DictEntry.refKey,hkey]
  have a':¬es.toList.any (·.refKey)=true:=by rw [a];exact uf7
  rw [if_neg a'];exact congrArg some e
theorem ObjM.look {x dx C:Addr}{mA:Str->Option Value}(I:ObjM h x dx C mA):∃od,PySem.W.InstAt h x (PySem.W.instObj C dx) C (some od)/\∀name,PySem.W.lookIn name od=some (mA name):=
 let ⟨od,ho,hl⟩:=J6 I.ns
 ⟨od,⟨I.obj,rfl,rfl,ho⟩,hl⟩
section
variable {prog:Program}{w:World}{A:Around}{E:Value->Shared->Prop}{s:Shared}{K:PySem.W.Frag}{x dx C f:Addr}{mA:Str->Option Value}{name:Str}{v:Value}
end
section
variable {P:Program}{w:World}{H H':Hp}{h h':Heap}{a C dx:Addr}{fs fs':List (Str×V)}
theorem Tq (hok:HOk P w H h)(e:H a=some (.ins C dx fs)):∃mA,ObjM h a dx C mA/\(∀f,P9 (fs.lookup f) (mA f))/\PySem.Within mA (fs.map (·.1))/\fs.length<=1000/\H dx=some (.own a):=by
 obtain ⟨d,z,ne,ob,mA,n,r,q⟩:=(show ObjOk P w H h a (.ins C dx fs) from hok a _ e);exact ⟨mA,⟨ob,n,ne⟩,r,q,z,d⟩
end
structure Cls (K:PySem.W.Frag)(C:Addr):Prop where
 pg:PySem.W.plainGet K C Str.empty=true
 hd:PySem.W.hasDictIn K C=true
 po:PySem.W.plainOver K C=true
 sa:PySem.W.findIn K (.ref C) "__setattr__" = some (some (.builtin "object.__setattr__"))
theorem Cls.get {K:PySem.W.Frag}{C:Addr}(c:Cls K C)(f:Str):PySem.W.plainGet K C f=true:=c.pg
def U3 (K:PySem.W.Frag)(C:Addr)(f:Str):Prop:=PySem.W.findIn K (.ref C) f=some none
structure Con (K:PySem.W.Frag)(C:Addr)(f:Str)(v:V)(u:Value):Prop where
 at_:PySem.W.findIn K (.ref C) f=some (some u)
 rel:RelV v u
 get:PySem.W.specialIn K u "__get__" = some none
 cp:PySem.W.copiedNames.contains f=false
structure Meth (K:PySem.W.Frag)(C:Addr)(m:Str)(f:Addr):Prop where
 at_:PySem.W.findIn K (.ref C) m=some (some (.ref f))
 fn:PySem.W.isFn K (.ref f)=true
 kp:PySem.W.keepIn K (.ref f)=true
section
variable {X:Cx}{pins:List (Addr×Obj)}{σ:St}{H:Hp}{s:Shared}{a C dx:Addr}{fs:List (Str×V)}{f:Str}{v:V}{A:Around}{E:Value->Shared->Prop}
end
section
variable {X:Cx}{o e value:Expr}{f:Str}{pos pos' tpos:Pos}{ta tv:TE}
end
section
variable {X:Cx}{pins:List (Addr×Obj)}{σ:St}{H:Hp}{s:Shared}{A:Around}{E:Value->Shared->Prop}{Q:Value->Shared->Prop}{c:Value}{b:Bool}
inductive TyOf (K:PySem.W.Frag)(H:Hp):V->Value->Prop where
 | non:TyOf K H .non (.type "NoneType")
 | bl (x:Bool):TyOf K H (.bl x) (.type "bool")
 | int (i:Int):TyOf K H (.int i) (.type "int")
 | str (x:Str):TyOf K H (.str x) (.type "str")
 | flt (x:UInt64):TyOf K H (.flt x) (.type "float")
 | lst {a:Addr} {xs:List V} (e:H a=some (.lst xs)):TyOf K H (.ref a) (.type "list")
 | frz {a:Addr} {o:Obj} {xs:List V} (e:H a=some (.frz o (.lst xs))):TyOf K H (.ref a) (.type "list")
 | tup {a:Addr} {xs:List V} (e:H a=some (.tup xs)):TyOf K H (.ref a) (.type "tuple")
 | dK {a:Addr} {kvs:List (Key×V)} (e:H a=some (.dK kvs)):TyOf K H (.ref a) (.type "dict")
 | dT {a:Addr} {kvs:List (List Key×V)} (e:H a=some (.dT kvs)):TyOf K H (.ref a) (.type "dict")
 | ins {a C dx:Addr} {fs:List (Str×V)} (e:H a=some (.ins C dx fs)) (cl:Cls K C) (ha:PySem.W.findIn K (.ref C) "__class__" = some (some (.builtin "object.__class__")))
    (hn:PySem.W.specialIn K (.builtin "object.__class__") "__get__" = some (some (.builtin "getset_descriptor.__get__"))) (htk:PySem.W.takesIn K (.builtin "object.__class__")=some true)
    (hm:PySem.W.mroIn K C (.type "object")=some true):TyOf K H (.ref a) (.ref C)
theorem J3 {x:V}{t:Value}(I:Inv X pins σ H s)(rx:RelV x u)(ty:TyOf X.K H x t)(e:PySem.W.kitOne X.K t c=some b)(h:∀tk,Q (.bool b) { s with toks:=tk }) :
 wpAny (model X.prog X.w) A (call (.builtin "isinstance") [u,c]) Q E s:=by
 cases ty with
 | non=>cases (show u=Value.none from rx);exact uk1 PySem.W.kitx_none I.kIn True.intro e (λz=>nomatch z) h
 | bl y=>cases (show u=Value.bool y from rx);exact uk1 PySem.W.kitx_bool I.kIn True.intro e (λz=>nomatch z) h
 | int i=>obtain ⟨t,q⟩:=(show ∃t,u=Value.int i t from rx);cases q;exact uk1 PySem.W.kitx_int I.kIn True.intro e (λz=>nomatch z) h
 | str y=>obtain ⟨t,q⟩:=(show ∃t,u=Value.str y t from rx);cases q;exact uk1 PySem.W.kitx_str I.kIn True.intro e (λz=>nomatch z) h
 | flt y=>obtain ⟨t,q⟩:=(show ∃t,u=Value.float y t from rx);cases q;exact uk1 PySem.W.kitx_float I.kIn True.intro e (λz=>nomatch z) h
 | @lst a xs ea=>
   cases (show u=Value.ref a from rx)
   obtain ⟨_,_,n,_,h1⟩:=(show ObjOk X.prog X.w H s.heap a (.lst xs) from I.hok a _ ea);exact uk1 PySem.W.kitx_list I.kIn ⟨_,h1,rfl⟩ e (λz=>nomatch z) h
 | @frz a ob xs ea=>
   cases (show u=Value.ref a from rx)
   obtain ⟨_,_,_,n,_,h1⟩:=(show ObjOk X.prog X.w H s.heap a (.frz ob (.lst xs)) from I.hok a _ ea);exact uk1 PySem.W.kitx_list I.kIn ⟨_,h1,rfl⟩ e (λz=>nomatch z) h
 | @tup a xs ea=>
   cases (show u=Value.ref a from rx)
   obtain ⟨_,_,_,p⟩:=(show ObjOk X.prog X.w H s.heap a (.tup xs) from I.hok a _ ea);obtain ⟨o,h1,h2,_⟩:=p;exact uk1 PySem.W.kitx_tuple I.kIn ⟨o,h1,h2⟩ e (λz=>nomatch z) h
 | @dK a kvs ea=>
   cases (show u=Value.ref a from rx)
   obtain ⟨_,_,vs,_,p⟩:=(show ObjOk X.prog X.w H s.heap a (.dK kvs) from I.hok a _ ea);obtain ⟨o,es,ep,h1,h2,_⟩:=p;exact uk1 PySem.W.kitx_dict I.kIn ⟨o,h1,h2.1⟩ e (λz=>nomatch z) h
 | @dT a kvs ea=>
   cases (show u=Value.ref a from rx)
   obtain ⟨_,_,xs,_,o,es,ep,h1,h2,_⟩:=(show ObjOk X.prog X.w H s.heap a (.dT kvs) from I.hok a _ ea);exact uk1 PySem.W.kitx_dict I.kIn ⟨o,h1,h2.1⟩ e (λz=>nomatch z) h
 | @ins a C dx fs ea cl ha hn htk hm=>
   cases (show u=Value.ref a from rx)
   obtain ⟨mA,O,_⟩:=Tq I.hok ea;obtain ⟨od,J,_⟩:=O.look;exact uk1 (PySem.W.kitx_own (cl.get _) cl.hd ha hn htk hm) I.kIn J e (λz=>nomatch z) h
end
structure Room (k:Nat)(A:Around):Prop where
 hd:A.handled=none
 dp:A.depth + 3 * k + 5 < recursionLimit
 un:A.units + 16 * k + 200 < cLine
theorem Room.mono {j:Nat}{A:Around}(r:Room k A)(h:j<=k):Room j A:=⟨r.hd,by have:=r.dp;lia,by have:=r.un;lia⟩
theorem Room.deeper {k:Nat}{A:Around}(r:Room (k + 1) A)(env:Env):Room k (A.deeper env):=
 ⟨r.hd,by have:=r.dp;show A.depth + 1 + 3 * k + 5 < _;lia,by have:=r.un;show A.units + 3 + 16 * k + 200 < _;lia⟩
theorem Room.in1 {k:Nat}{A:Around}(r:Room (k + 1) A):Room k A.in1:=
 ⟨r.hd,by have:=r.dp;show A.depth + 3 * k + 5 < _;lia,by have:=r.un;show A.units + 1 + 16 * k + 200 < _;lia⟩
theorem Room.depth {k:Nat}{A:Around}(r:Room k A):A.depth < recursionLimit:=by have:=r.dp;lia
theorem Room.units {k:Nat}{A:Around}(r:Room k A):A.units + 64 < cLine:=by have:=r.un;lia
def RB:TA:=λ_ H Q=>Q [] H
def KG (ta:TE)(tr:TA):TA:=λσ H Q=>ta σ H λx H1=>tr σ H1 λxs H2=>Q (x :: xs) H2
section
variable {X:Cx}{e:Expr}{es:List Expr}{te:TE}{t:TA}{pos:Pos}
theorem E9:PA X [] RB:=λ_ _ _ _ H Q I h=>Calls.spliced_nil ⟨[],H,I,.nil,h⟩
theorem CP (ha:PE X e te)(hr:PA X es t)(hs:starEach (e :: es) X.env=(false,eval e X.env) :: starEach es X.env:=by rfl):PA X (e :: es) (KG te t):=by
 intro pos pins s σ H Q I h;rw [hs];show wpAny _ _ (spliced ((false,eval e X.env) :: backTo pos (starEach es X.env))) _ _ s;refine Calls.spliced_cons (thn (ha pins s σ H _ I h) λu s1 z9=>?_);obtain ⟨x,H1,I1,r1,q1⟩:=z9;exact thn (hr pos pins s1 σ H1 _ I1 q1) λus s2 ⟨xs,H2,I2,r2,q2⟩=>⟨x :: xs,H2,I2,.cons r1 r2,q2⟩
def Y6 (t:TA):TE:=λσ H Q=>t σ H λxs H1=>xs.length<=sizeLine/\∀p,H1 p=none->Q (.ref p) (upd H1 p (.tup xs))
def Y1 (t:TA):TE:=λσ H Q=>t σ H λxs H1=>xs.length<=sizeLine/\∀p,H1 p=none->Q (.ref p) (upd H1 p (.lst xs))
theorem Pn {x1}(h:PA X es t):PE X (.Tuple es x1 pos) (Y6 t):=by
 intro pins s σ H Q I hq;refine wpAny_Tuple_spliced (thn (h pos pins s σ H _ I hq) λus s1 z9=>?_);obtain ⟨xs,H1,I1,r,z,q⟩:=z9;refine ⟨by rw [<-r.length];exact z,?_⟩;have hf:H1 s1.heap.objs.size=none:=I1.hok.fresh (up3 _);refine ⟨.ref s1.heap.objs.size,upd H1 s1.heap.objs.size (.tup xs),I1.laid (t':=s1.toks) (λb u e=>ub9 _ e) (up3 _) ?_,rfl,q _ hf⟩;exact ⟨z,us,r,⟨_,ue7 _ rfl,rfl,_,rfl⟩⟩
theorem Wm (h:PA X es t):PE X (.List es pos) (Y1 t):=by
 intro pins s σ H Q I hq;refine wpAny_List_spliced (thn (h pos pins s σ H _ I hq) λus s1 z9=>?_);obtain ⟨xs,H1,I1,r,z,q⟩:=z9;refine ⟨by rw [<-r.length];exact z,?_⟩;have hf:H1 s1.heap.objs.size=none:=I1.hok.fresh (up3 _);refine ⟨.ref s1.heap.objs.size,upd H1 s1.heap.objs.size (.lst xs),I1.laid (t':=s1.toks) (λb u e=>ub9 _ e) (up3 _) ?_,rfl,q _ hf⟩;exact ⟨z,us,0,r,ue7 _ rfl⟩
end
abbrev Sp:=List V->Hp->VK->XK->Prop
abbrev CXT:=List Env->Hp->Shared->XK->Value->Shared->Prop
structure Env0 (P:Program)(w:World)(K:PySem.W.Frag)(mg:Str->Option Value)(base:Heap)(A:Around)(outer:List Env)(s:Shared)(H:Hp):Prop where
 frames:A.frames=some outer
 mod:Mod K mg base
 bs:∀b o,base.get? b=some o->s.heap.get? b=some o/\H b=none
 bsz:base.objs.size<=s.heap.objs.size
 funs:s.heap.FunFrames base outer
 frf:∀b∈frs outer,H b=none
 hok:HOk P w H s.heap
 bare:AllBare s.gens
def CE (outer:List Env)(P:Program)(w:World)(H:Hp)(s:Shared)(Q:VK)(u:Value)(s':Shared):Prop:=
 ∃v H',s'.os=s.os/\AllBare s'.gens/\Un (frs outer) [] H H' s.heap s'.heap/\HOk P w H' s'.heap/\RelV v u/\Q v H'
def CR (CX:CXT)(outer:List Env)(P:Program)(w:World)(H:Hp)(s:Shared)(Q:VK)(E:XK)(r:Result)(s':Shared):Prop:=
 match r with
 | .ok (.ret u)=>CE outer P w H s Q u s'
 | .ok _=>False
 | .error e=>CX outer H s E e s'
structure FnOk (P:Program)(w:World)(K:PySem.W.Frag)(mg:Str->Option Value)(base:Heap)(CX:CXT)(k:Nat)(f:Addr)(fd:FuncData)(ps:List Str)(sp:Sp):Prop where
 len:∀vs H Q E,sp vs H Q E->vs.length=ps.length
 run:∀(A:Around) (outer:List Env) (s:Shared) (H:Hp) (args:Args) (us:List Value) (vs:List V) (Q:VK) (E:XK),Room k A->Env0 P w K mg base A outer s H->BindsTo s fd args (ps.zip us)->Vals vs us->sp vs H Q E->
  codeAny (model P w) A (.call (.ref f) args) (CR CX outer P w H s Q E) s
theorem FnOk.mono {P:Program}{w:World}{K:PySem.W.Frag}{mg:Str->Option Value}{base:Heap}{CX:CXT}{j k:Nat}{f:Addr}{fd:FuncData}{ps:List Str}{sp:Sp}(F:FnOk P w K mg base CX j f fd ps sp)(h:j<=k) :
 FnOk P w K mg base CX k f fd ps sp:=⟨F.len,λA outer s H args us vs Q E hr=>F.run A outer s H args us vs Q E (hr.mono h)⟩
theorem Env0.in1 {P:Program}{w:World}{K:PySem.W.Frag}{mg:Str->Option Value}{base:Heap}{A:Around}{outer:List Env}{s:Shared}{H:Hp}(e:Env0 P w K mg base A outer s H) :
 Env0 P w K mg base A.in1 outer s H:=⟨e.frames,e.mod,e.bs,e.bsz,e.funs,e.frf,e.hok,e.bare⟩
section
variable {X:Cx}{pins:List (Addr×Obj)}{σ:St}{H:Hp}{s s':Shared}
theorem Inv.env0 (I:Inv X pins σ H s):Env0 X.prog X.w X.K X.mg X.base X.A X.stack s H:=
 ⟨I.ok.frames,I.ok.mod,I.bs,un6 I.ok.bsz I.sz,I.stack,I.stkFree,I.hok,I.bare⟩
theorem Inv.after {Q:VK}(I:Inv X pins σ H s)(h:CE X.stack X.prog X.w H s Q u s'):EP X pins σ Q u s':=by
 obtain ⟨v,H',os,bare,un,hok,r,q⟩:=h;obtain ⟨hh,g,d,t,os'⟩:=s';obtain rfl:os'=s.os:=os;exact ⟨v,H',I.call (h':=hh) (g':=g) (d':=d) (t':=t) (ch:=[]) un hok bare (λb z=>absurd z (by simp)),r,q⟩
end
def XO (sp:Sp)(dvs:List V)(E:XK)(t:TA):TE:=λσ H Q=>t σ H λvs H1=>sp (vs++dvs) H1 Q E
def Binds (K:PySem.W.Frag)(fd:FuncData)(ps:List Str)(ds:List Value):Prop:=
 ∀(s:Shared) (us:List Value),K.In s.heap->(us++ds).length=ps.length->BindsTo s fd ⟨us,[]⟩ (ps.zip (us++ds))
theorem Binds.all {fd:FuncData}{ps:List Str}(h:∀us:List Value,us.length=ps.length->bindArgs fd ⟨us,[]⟩=pure (ps.zip us)):Binds K fd ps []:=λs us _ hl=>by
 rw [uk2] at hl ⊢;exact .of_eq (h us hl)
def KP (CX:CXT)(X:Cx)(E:XK):Prop:=∀(pins:List (Addr×Obj)) (σ:St) (H:Hp) (s:Shared) (e:Value) (s':Shared),Inv X pins σ H s->CX X.stack H s E e s'->X.xe e s'
section
variable {X:Cx}{CX:CXT}{k:Nat}{f C:Addr}{fd:FuncData}{ps:List Str}{sp:Sp}{dvs:List V}{ds:List Value}{E:XK}{x m:Str}{p pos apos:Pos}{e o:Expr}{es:List Expr}{ta:TE}{t:TA}
theorem WQ {Q:VK}{vs:List V}(F:FnOk X.prog X.w X.K X.mg X.base CX k f fd ps sp)(hr:Room k X.A)(hb:Binds X.K fd ps ds)(hd:Vals dvs ds)(hx:KP CX X E)
 (I:Inv X pins σ H s) (r:Vals vs us) (h:sp (vs++dvs) H Q E):wpAny (model X.prog X.w) X.A (call (.ref f) us) (EP X pins σ Q) X.xe s:=by
 have r2:Vals (vs++dvs) (us++ds):=r.append hd;have hl:(us++ds).length=ps.length:=by rw [<-r2.length];exact F.len _ _ _ _ h
 refine wpAny_call (codeAny_mono (F.run X.A X.stack s H ⟨us,[]⟩ (us++ds) (vs++dvs) Q E hr I.env0 (hb s us I.kIn hl) r2 h) λr s' hq=>?_)
 cases r with
 | error e=>exact hx pins σ H s e s' I hq
 | ok fl=>
   cases fl with
   | ret u=>exact I.after hq
   | next=>exact False.elim hq
   | brk=>exact False.elim hq
   | cont=>exact False.elim hq
theorem MX (F:FnOk X.prog X.w X.K X.mg X.base CX k f fd ps sp)(hr:Room k X.A)(hg:Gl X x)(hm:X.mg x=some (.ref f))(hk:PySem.W.keepIn X.K (.ref f)=true)(hb:Binds X.K fd ps ds)(hd:Vals dvs ds)(hx:KP CX X E)
 (ha:PA X (e :: es) t) (hdb:(x == ("__debug__" : Str))=false:=by decide) (he:starEach (e :: es) X.env=(false,eval e X.env) :: starEach es X.env:=by rfl) (hpl:(backTo pos (starEach es X.env)).any (·.1)=false:=by rfl) :
 PE X (.Call (.Name x p) (e :: es) [] pos) (XO sp dvs E t):=by
 intro pins s σ H Q I h;refine wpAny_Call_Name_kw (FS I hg hm ?_ hdb);refine uf9 (h₀:=X.base) I.ok.mod.kin hk (thn (ha pos pins s σ H _ I h) λus s1 z9=>?_) he hpl;obtain ⟨vs,H1,I1,r,q⟩:=z9;refine ⟨I1.kIn,?_⟩;exact WQ F hr hb hd hx I1 r q
structure Mk (K:PySem.W.Frag)(C f:Addr):Prop where
 makes:PySem.W.makesIn K C=true
 init:PySem.W.findIn K (.ref C) "__init__" = some (some (.ref f))
 fn:PySem.W.isFn K (.ref f)=true
 kp:PySem.W.keepIn K (.ref C)=true
end
def PK (X:Cx)(kws:List Keyword)(t:TA):Prop:=
 ∀(pos:Pos) (pins:List (Addr×Obj)) (s:Shared) (σ:St) (H:Hp) (Q:List V->Hp->Prop),Inv X pins σ H s->t σ H Q->wpAny (model X.prog X.w) X.A (evalAll ((backToKw pos (keywordEach kws X.env)).map (·.2))) (AP X pins σ Q) X.xe s
section
variable {X:Cx}{CX:CXT}{k:Nat}{f C:Addr}{fd:FuncData}{ps ks:List Str}{sp:Sp}{E:XK}{x m:Str}{p pos apos kpos:Pos}{e o:Expr}{es:List Expr}{kws:List Keyword}{te ta:TE}{t tk:TA}{nm:Option Str}
theorem Wt:PK X [] RB:=λ_ _ _ _ H Q I h=>wpAny_evalAll_nil ⟨[],H,I,.nil,h⟩
theorem T4 (ha:PE X e te)(hr:PK X kws t):PK X (⟨nm,e,kpos⟩ :: kws) (KG te t):=by
 intro pos pins s σ H Q I h;show wpAny _ _ (evalAll ((do let v <-eval e X.env;standAt pos;pure v) :: (backToKw pos (keywordEach kws X.env)).map (·.2))) _ _ s;refine wpAny_evalAll_cons (up8 (thn (ha pins s σ H _ I h) λu s1 ⟨x,H1,I1,r1,q1⟩=>up8 (wpAny_standAt (up9 ?_))));exact thn (hr pos pins s1 σ H1 _ I1 q1) λus s2 ⟨xs,H2,I2,r2,q2⟩=>⟨x :: xs,H2,I2,.cons r1 r2,q2⟩
structure KBinds (K:PySem.W.Frag)(fd:FuncData)(ps ks:List Str)(g:List Value->List Value->List Value)(gV:List V->List V->List V):Prop where
 to:∀(s:Shared) (us ws:List Value),K.In s.heap->(g us ws).length=ps.length->BindsTo s fd ⟨us,ks.zip ws⟩ (ps.zip (g us ws))
 rel:∀{vs:List V} {us:List Value} {zs:List V} {ws:List Value},Vals vs us->Vals zs ws->Vals (gV vs zs) (g us ws)
variable {g:List Value->List Value->List Value}{gV:List V->List V->List V}
end
structure FnScope (N P:List Str)(sc:Scope):Prop where
 kind:sc.kind = .function
 co:sc.isCoroutine=false
 gen:sc.isGenerator=false
 nd:N.Nodup
 pre:N.take P.length=P
 par:∀x∈P,sc.names.lookup x=some .local\/sc.names.lookup x=some .cell
 nofree:∀y∈sc.names,y.2≠.free
theorem JS {kindOf:Str->Option NameKind}{x:Str}:∀{binds:List (Str×Value)} {m:Str->Option Value},(∀v,(x,v)∉binds)->bindL kindOf binds m x=m x
 | [],_,_=>rfl
 | (n,v) :: r,m,h=>by
   unfold bindL;rw [JS λw hw=>h w (ud6 _ hw)]
   split
   ·have:x≠n:=by rintro rfl;exact h v uf6
    simp [this]
   ·rfl
theorem JQ {kindOf:Str->Option NameKind}{x:Str}:∀{binds:List (Str×Value)} {m:Str->Option Value},(∀v,(x,v)∉binds)->bindC kindOf binds m x=m x
 | [],_,_=>rfl
 | (n,v) :: r,m,h=>by
   unfold bindC;rw [JQ λw hw=>h w (ud6 _ hw)]
   split
   ·rfl
   ·have:x≠n:=by rintro rfl;exact h v uf6
    simp [this]
theorem JR {kindOf:Str->Option NameKind}{x:Str}{v:Value}:∀{P:List Str} {vs:List Value} {i:Nat} {m:Str->Option Value},P.Nodup->P[i]?=some x->vs[i]?=some v->kindOf x=some .local->
 bindL kindOf (P.zip vs) m x=some v
 | [],_,_,_,_,h,_,_=>by simp at h
 | _ :: _,[],_,_,_,_,h,_=>by simp at h
 | p :: P,w :: vs,0,m,nd,h1,h2,hk=>by
   simp at h1 h2;subst h1;subst h2;show bindL kindOf ((p,w) :: P.zip vs) m p=_;unfold bindL;rw [JS λv hv=>(uk3.mp nd).1 (uk4 hv).1,if_pos hk];simp
 | p :: P,w :: vs,i + 1,m,nd,h1,h2,hk=>by
   show bindL kindOf ((p,w) :: P.zip vs) m x=_;unfold bindL;exact JR (i:=i) (uk3.mp nd).2 (by simpa using h1) (by simpa using h2) hk
theorem JP {kindOf:Str->Option NameKind}{x:Str}{v:Value}:∀{P:List Str} {vs:List Value} {i:Nat} {m:Str->Option Value},P.Nodup->P[i]?=some x->vs[i]?=some v->kindOf x≠some .local->
 bindC kindOf (P.zip vs) m x=some v
 | [],_,_,_,_,h,_,_=>by simp at h
 | _ :: _,[],_,_,_,_,h,_=>by simp at h
 | p :: P,w :: vs,0,m,nd,h1,h2,hk=>by
   simp at h1 h2;subst h1;subst h2;show bindC kindOf ((p,w) :: P.zip vs) m p=_;unfold bindC;rw [JQ λv hv=>(uk3.mp nd).1 (uk4 hv).1,if_neg hk];simp
 | p :: P,w :: vs,i + 1,m,nd,h1,h2,hk=>by
   show bindC kindOf ((p,w) :: P.zip vs) m x=_;unfold bindC;exact JP (i:=i) (uk3.mp nd).2 (by simpa using h1) (by simpa using h2) hk
noncomputable def Dt (N:List Str)(vs:List V):St:=vs.map some++List.replicate (N.length - vs.length) none
noncomputable def D3 (CX:CXT)(P:Program)(w:World)(K:PySem.W.Frag)(mg:Str->Option Value)(base:Heap)(N:List Str)(qual:Str)(scope:Scope)(f:Addr)(cd:Value)(A:Around)(outer:List Env)(s:Shared)(H:Hp)(E:XK):Cx where
 prog:=P
 w:=w
 K:=K
 mg:=mg
 base:=base
 A:=A.deeper (envOfC qual scope s.heap.objs.size f cd)
 N:=N
 s₀:=s
 H₀:=H
 env:=envOfC qual scope s.heap.objs.size f cd
 outer:=outer
 stack:=envOfC qual scope s.heap.objs.size f cd :: outer
 ex:=[]
 calm:=true
 fn:=λ_=>true
 pn:=[]
 xe:=λe s'=>wpAny (model P w) (A.deeper (envOfC qual scope s.heap.objs.size f cd)) (leaving (envOfC qual scope s.heap.objs.size f cd) e) (λ_ s''=>CX outer H s E e s'') (λe' s''=>CX outer H s E e' s'') s'
theorem Ld {sc:Scope}{n:Nat}(h:sc.names.lookup x=some .cell):∃c,(cellsFrom n sc.names []).lookup x=some c:=by
 have q:=PySem.W.cellsFrom_some sc.names n [] (.inl h);exact Option.isSome_iff_exists.mp q
theorem OY {CX:CXT}{mg:Str->Option Value}{base:Heap}{N ps:List Str}{qual:Str}{scope:Scope}{f:Addr}{cd:Value}{A:Around}{outer:List Env}{s1:Shared}{E:XK}{vs:List V}
 (S:FnScope N ps scope) (hd:A.handled=none) (e0:Env0 P w K mg base A outer s H) (hl:vs.length=ps.length) (r:Vals vs us)
 (x:InCallC s s.heap.objs.size (bindL (envOfC qual scope s.heap.objs.size f cd).kindOf (ps.zip us) λ_=>none) (cellsFrom (s.heap.objs.size + 1) scope.names []) (bindC (envOfC qual scope s.heap.objs.size f cd).kindOf (ps.zip us) λ_=>none) s1) :
 Inv (D3 CX P w K mg base N qual scope f cd A outer s H E) [] (Dt N vs) H s1:=by
 have hpl:ps.length<=N.length:=by have:=congrArg List.length S.pre;rw [ui0] at this;lia
 obtain ⟨h1,tk,rfl,hk⟩:=x.done;have noA:∀b:Addr,b∉(D3 CX P w K mg base N qual scope f cd A outer s H E).ex:=λb z=>absurd (show b∈([]:List Addr) from z) (by simp);refine ⟨⟨e0.mod,S.kind,rfl,rfl,up3 _,λy z c h1 h2=>?_,λy hy=>?_,λy c _ h=>?_,λ_=>hd,Around.frames_deeper e0.frames,.inr ⟨rfl,rfl⟩,λb z=>absurd z (noA b),e0.bs,e0.bsz,λb _ _=>noA b,λb z=>absurd z (noA b),e0.funs,e0.frf⟩,
  rfl,e0.bare,Un.kept hk,⟨_,x.toInCall.ns,λi y v h1 h2 h3=>?_⟩,λy c h=>⟨_,x.cell y c h⟩,e0.hok.fresh (up3 _),λy c h=>?_,λp hp=>absurd (show p∈([]:List (Addr×Obj)) from hp) (by simp),e0.hok.kept hk,?_⟩
 ·exact name_of_addr x.apart (PySem.mem_of_lookup h1) (PySem.mem_of_lookup h2)
 ·have hy:scope.names.lookup y=some .cell\/scope.names.lookup y=some .free:=hy;rcases hy with hy | hy
  ·exact Ld hy
  ·exact absurd rfl (S.nofree _ (PySem.mem_of_lookup hy))
 ·exact un7 (x.above y c (PySem.mem_of_lookup h))
 ·have hi:i < vs.length:=by
   unfold Dt at h2
   by_cases hi:i < vs.length
   ·exact hi
   ·rw [ua5 (by simpa using hi)] at h2;rw [ub3] at h2
    split at h2 <;> cases h2
  have ha:vs[i]?=some v:=by
   unfold Dt at h2;rw [ua9 (by simpa using hi),ug8] at h2
   cases e:vs[i]? with
   | none=>rw [e] at h2;cases h2
   | some a=>rw [e] at h2;cases h2;rfl
  obtain ⟨u,hu,rv⟩:=r.get ha;have hp:ps[i]?=some y:=by
   rw [<-S.pre,List.getElem?_take_of_lt (by lia)];exact h1
  have ndP:ps.Nodup:=by rw [<-S.pre];exact S.nd.sublist (List.take_sublist _ _)
  refine ⟨u,rv,?_⟩;rcases S.par y (ud9 hp) with k | k
  ·exact .inl ⟨k,JR ndP hp hu k⟩
  ·obtain ⟨c,e⟩:=Ld (n:=s.heap.objs.size + 1) k;refine .inr ⟨.inl k,c,e,?_⟩;have q:=x.cell y c e;rw [JP ndP hp hu (by show scope.names.lookup y≠_;rw [k];decide)] at q;exact q
 ·exact e0.hok.fresh (un7 (x.above y c (PySem.mem_of_lookup h)))
 ·unfold Dt;show _=N.length;rw [ug0,uk5,uc9];lia
theorem Se {CX:CXT}{mg:Str->Option Value}{base:Heap}{f:Addr}{name qual:Str}{params:Arguments}{body:List Stmt}{scope:Scope}{dV kV doc pm cdv ct oc:Value}{an od:Option Addr}
 {osl:Array (Option Value)} {N ps:List Str} {sp:Sp} (lk:K.lookup f=some ⟨oc,od,.func (PySem.W.fnOf name qual params body scope dV kV doc pm an cdv ct),osl⟩) (hcd:codeIn K cdv qual=true) (S:FnScope N ps scope)
 (len:∀vs H Q E,sp vs H Q E->vs.length=ps.length)
 (hbody:∀(A:Around) (outer:List Env) (s:Shared) (H:Hp) (vs:List V) (Q:VK) (E:XK),Room k (A.deeper (envOfC qual scope s.heap.objs.size f cdv))->sp vs H Q E->
   ∃t,PSs (D3 CX P w K mg base N qual scope f cdv A outer s H E) body t/\t { nx:=λ_ H'=>Q .non H',rt:=Q } (Dt N vs) H) :
 FnOk P w K mg base CX (k + 1) f (PySem.W.fnOf name qual params body scope dV kV doc pm an cdv ct) ps sp:=by
 refine ⟨len,λA outer s H args us vs Q E hr e0 hb r hsp=>?_⟩;have hl:=len _ _ _ _ hsp;have KX:K.In s.heap:=e0.mod.kin.keeps λb o e=>(e0.bs b o e).1;have lim:s.heap.NoLimit:=e0.mod.nolimit.keeps λb o e=>(e0.bs b o e).1;have hkind:∀y∈ps.zip us,scope.names.lookup y.1=some .local\/(scope.names.lookup y.1=some .cell/\((cellsFrom (s.heap.objs.size + 1) scope.names []).lookup y.1).isSome=true):=λz9 hy=>by
  obtain ⟨n,v⟩:=z9;rcases S.par n (uk4 hy).1 with q | q
  ·exact .inl q
  ·exact .inr ⟨q,PySem.W.cellsFrom_some _ _ _ (.inl q)⟩
 refine codeAny_call_function hr.depth (KX _ _ lk) rfl S.co S.gen rfl (PySem.W.codeRec_of KX hcd) (hb _ _ _ _ ?_);refine wpAny_newFunctionEnv_cells S.kind hkind λenv he s1 x=>?_;subst he;refine ⟨lim.keeps x.toInCall.keep,codeAny_func ?_⟩;obtain ⟨t,ht,hq⟩:=hbody A outer s H vs Q E (hr.deeper _) hsp;have I:Inv (D3 CX P w K mg base N qual scope f cdv A outer s H E) [] (Dt N vs) H s1:=OY S hr.hd e0 hl r x;refine uq0 (ht [] s1 (Dt N vs) H _ I hq) (λfl s' hs=>?_) λe s' hs=>hs;have fin:∀{σ':St} {H':Hp} {v:V} {u:Value},Inv (D3 CX P w K mg base N qual scope f cdv A outer s H E) [] σ' H' s'->RelV v u->Q v H'->CE outer P w H s Q u s':=
  λ{σ' H' v u} J rv q=>⟨v,H',J.os,J.bare,J.base,J.hok,rv,q⟩
 cases fl with
 | ret u=>
   obtain ⟨v,σ',H',J,rv,q⟩:=hs;exact fin J rv q
 | next=>
   obtain ⟨σ',H',J,q⟩:=hs;exact fin (v:=V.non) (u:=Value.none) J rfl q
 | brk=>
   obtain ⟨_,_,_,q⟩:=hs;exact False.elim q
 | cont=>
   obtain ⟨_,_,_,q⟩:=hs;exact False.elim q
section
variable {X:Cx}{x:Str}{p pos:Pos}{e:Expr}{es:List Expr}{t:TA}{id T:String}{r:List V->Hp->VK->Prop}
def tCB (r:List V->Hp->VK->Prop)(t:TA):TE:=λσ H Q=>t σ H λvs H1=>r vs H1 Q
theorem Fa (hc:BA X (.builtin id) r)(hg:Gl X x)(hm:X.mg x=none)(hv:bootBuiltins x=some (.builtin id))(ha:PA X (e :: es) t)(hn:x≠"__name__":=by decide)(hdb:(x == ("__debug__" : Str))=false:=by decide)
 (he:starEach (e :: es) X.env=(false,eval e X.env) :: starEach es X.env:=by rfl) (hpl:(backTo pos (starEach es X.env)).any (·.1)=false:=by rfl):PE X (.Call (.Name x p) (e :: es) [] pos) (tCB r t):=by
 intro pins s σ H Q I h;refine wpAny_Call_Name_kw (E4 I hg hm hv ?_ hn hdb);exact PyProof.Rows.callWith_builtin1 (thn (ha pos pins s σ H _ I h) λus s1 z9=>by obtain ⟨vs,H1,I1,r1,q1⟩:=z9;exact hc pins s1 σ H1 vs us Q I1 r1 q1) he hpl
theorem Ka (hc:BA X (.type T) r)(hg:Gl X x)(hm:X.mg x=none)(hv:bootBuiltins x=some (.type T))(ha:PA X (e :: es) t)(hn:x≠"__name__":=by decide)(hdb:(x == ("__debug__" : Str))=false:=by decide)
 (he:starEach (e :: es) X.env=(false,eval e X.env) :: starEach es X.env:=by rfl) (hpl:(backTo pos (starEach es X.env)).any (·.1)=false:=by rfl):PE X (.Call (.Name x p) (e :: es) [] pos) (tCB r t):=by
 intro pins s σ H Q I h;refine wpAny_Call_Name_kw (E4 I hg hm hv ?_ hn hdb);exact ua2 (thn (ha pos pins s σ H _ I h) λus s1 z9=>by obtain ⟨vs,H1,I1,r1,q1⟩:=z9;exact hc pins s1 σ H1 vs us Q I1 r1 q1) he hpl
end
end L2
namespace HT
open PySem PyProof.Rows
section
open PySem.SeqAt
open PySem.AutoSeq1 (wpAny_loadPart')
open PySem.MeetsSeq PySem.MeetsSeq2 PySem.MeetsSeq3
end
section
variable {prog:Program}{w:World}{A:Around}{E:Value->Shared->Prop}{s:Shared}
theorem SO {t b:Addr}{vs ws:List Value}{Q:Value->Shared->Prop}(ht:IsTup s.heap t vs.toArray)(hb:IsTup s.heap b ws.toArray)(hv:vs≠[])
 (h1:ws=[]->Q (.ref t) s) (h2:ws≠[]->Q (.ref s.heap.objs.size) { s with heap:=s.heap.push { cls:=.type "tuple",data:=.seq (vs++ws).toArray } })
 (hsz:vs.length + ws.length<=sizeLine):wpAny (model prog w) A (binaryOp .Add (.ref t) (.ref b)) Q E s:=by
 obtain ⟨⟨cls,dd,data,sl⟩,ho,hc,n,hd⟩:=id ht;obtain ⟨⟨cls2,dd2,data2,sl2⟩,ho2,hc2,n2,hd2⟩:=id hb;simp only at hc hd hc2 hd2;subst hc hd hc2 hd2;have e:vs.toArray++ws.toArray=(vs++ws).toArray:=by simp
 by_cases hw:ws=[]
 ·exact concat_meets ⟨_,ho,rfl⟩ ⟨_,ho2,rfl⟩ noFill_tuple_add seq_tuple_add uc0 ub4 (ub1 _ _)
   (tuple_addW1 t b vs.toArray ws.toArray n n2 dd dd2 sl sl2 (by simpa using hv) (by simp [hw])) ⟨ho,ho2,h1 hw⟩
 ·refine concat_meets ⟨_,ho,rfl⟩ ⟨_,ho2,rfl⟩ noFill_tuple_add seq_tuple_add uc0 ub4 (ub1 _ _)
   (tuple_addW2 t b vs.toArray ws.toArray n n2 dd dd2 sl sl2 (by simpa using hv) (by simpa using hw) (by rw [ug7,ug7];exact hsz)) ⟨ho,ho2,?_⟩
  rw [e];exact h2 hw
noncomputable def sIx (n d:Nat):Option Int->Nat
 | none=>d
 | some v=>if v < 0 then (v + (n:Int)).toNat else min v.toNat n
theorem WS (n d:Nat)(hd:d<=n)(o:Option Int):sIx n d o<=n:=by
 cases o with
 | none=>exact hd
 | some v=>
   show (if v < 0 then (v + (n:Int)).toNat else min v.toNat n)<=n
   by_cases hv:v < 0
   ·rw [if_pos hv];lia
   ·rw [if_neg hv];exact Nat.min_le_right _ _
theorem MA (v:Int)(n d:Nat):(if v < 0 then max (v + (n:Int)) 0 else min v (n:Int))=((sIx n d (some v):Nat):Int):=by
 show (if v < 0 then max (v + (n:Int)) 0 else min v (n:Int))=(((if v < 0 then (v + (n:Int)).toNat else min v.toNat n):Nat):Int)
 by_cases hv:v < 0
 ·simp only [if_pos hv];lia
 ·simp only [if_neg hv];lia
theorem Nq (lo hi:Option Int)(n:Nat):Builtin.Slice.sliceAdjust lo hi 1 (n:Int)=(((sIx n 0 lo:Nat):Int),((sIx n n hi:Nat):Int)):=by
 have h1:¬((1:Int) < 0):=by lia
 unfold Builtin.Slice.sliceAdjust;simp only [h1,if_false];refine Prod.ext ?_ ?_
 ·cases lo with
  | none=>rfl
  | some v=>exact MA v n 0
 ·cases hi with
  | none=>rfl
  | some v=>exact MA v n n
theorem NR (i j:Nat):Builtin.Slice.slicePlaces (i:Int) (j:Int) 1=j - i:=by
 unfold Builtin.Slice.slicePlaces;have h1:(1:Int) > 0:=by lia
 simp only [h1,if_true,Int.ediv_one]
 split <;> lia
theorem Jd {v:Value}{o:Option Int}{Q:Option Int->Shared->Prop}(p:IsPart v o)(h:Q o s):wpAny (model prog w) A (Builtin.Slice.slicePartIndex v) Q E s:=by
 cases p with
 | none=>exact slicePart_none h
 | int i t=>exact slicePart_int h
theorem Fe {sl:Addr}{vl vu:Value}{lo hi:Option Int}{n:Nat}{Q:Int×Int×Nat->Shared->Prop}(hs:s.heap.IsSliceOf sl vl vu .none)(pl:IsPart vl lo)(pu:IsPart vu hi)
 (h:Q (((sIx n 0 lo:Nat):Int),1,sIx n n hi - sIx n 0 lo) s):wpAny (model prog w) A (Builtin.Slice.sliceApplied (.ref sl) (pure (n:Int))) Q E s:=by
 obtain ⟨os,hos,hcs,hds⟩:=id hs;unfold Builtin.Slice.sliceApplied Builtin.Slice.sliceFields;refine up8 (up8 (up7 hos hds (x:=vl) rfl (up8 (up7 hos hds (x:=vu) rfl (up8 (up7 hos hds (x:=.none) rfl (up9 ?_)))))));refine up8 (slicePart_none ?_);show wpAny _ _ (if ((1:Int) == 0)=true then _ else _) _ _ s;rw [if_neg (by decide)];refine up8 (Jd pl (up8 (Jd pu (up8 (up9 ?_)))));show wpAny _ _ (match Builtin.Slice.sliceAdjust lo hi 1 (n:Int) with | (lo,hi)=>pure (lo,(1:Int),Builtin.Slice.slicePlaces lo hi 1)) _ _ s;rw [Nq lo hi n];show wpAny _ _ (pure (((sIx n 0 lo:Nat):Int),(1:Int),Builtin.Slice.slicePlaces ((sIx n 0 lo:Nat):Int) ((sIx n n hi:Nat):Int) 1)) _ _ s;rw [NR];exact up9 h
theorem Q3 (xs:Array Value)(i k:Nat):((List.range k).filterMap λ(m:Nat)=>xs[((i:Int) + (m:Int) * 1).toNat]?).toArray=((xs.toList.drop i).take k).toArray:=by
 have e:(λ(m:Nat)=>xs[((i:Int) + (m:Int) * 1).toNat]?)=λm=>xs[i + m]?:=by
  funext m
  have:((i:Int) + (m:Int) * 1).toNat=i + m:=by lia
  rw [this]
 rw [e];have:=pick_run xs i k;rw [List.filterMap_map] at this;have e2:((λx=>xs[x]?) ∘ λx=>i + x)=λm=>xs[i + m]?:=rfl;rw [e2] at this;rw [this]
theorem HG {t sl:Addr}{items:Array Value}{vl vu:Value}{lo hi:Option Int}{Q:Value->Shared->Prop}(ht:IsTup s.heap t items)(hs:s.heap.IsSliceOf sl vl vu .none)(pl:IsPart vl lo)(pu:IsPart vu hi)
 (hw:¬(sIx items.size 0 lo=0/\sIx items.size items.size hi=items.size))
 (h:Q (.ref s.heap.objs.size) { s with heap:=s.heap.push { cls:=.type "tuple",data:=.seq ((items.toList.drop (sIx items.size 0 lo)).take (sIx items.size items.size hi - sIx items.size 0 lo)).toArray } })
 (hsz:items.size<=sizeLine):wpAny (model prog w) A (getItem (.ref t) (.ref sl)) Q E s:=by
 have htake:sizeOk (.seq ((items.toList.drop (sIx items.size 0 lo)).take (sIx items.size items.size hi - sIx items.size 0 lo)).toArray):=by
  show ((items.toList.drop (sIx items.size 0 lo)).take (sIx items.size items.size hi - sIx items.size 0 lo)).toArray.size<=sizeLine;rw [ug7,ui0,ui1,ue6];lia
 have hj:sIx items.size items.size hi<=items.size:=WS _ _ (up3 _) hi;obtain ⟨os,hos,hcs,hds⟩:=id hs;have hTs:s.TypeIs (.ref sl) "slice":=⟨os,hos,hcs⟩;unfold getItem
 try with_reducible refine un3 ?_
 first | refine up8 (up9 ?_) | skip
 refine up8 (wpAny_sequenceKey ht.typeIs (by decide) ?_);refine up8 (wpAny_callSpecial?_slot (name:=Str.ofString "__getitem__") ht.typeIs ua0
  (wpAny_call_entry ua0 ht.typeIs entry_tuple_getitem ?_ (args_tuple_getitem _ _)))
 show wpAny _ _ (Builtin.Tuple.tupleItemsOf (.ref t) >>= _) _ _ s;refine up8 (tupleItemsOf_ ht ?_);refine up8 (wpAny_typeOf hTs ?_);rw [if_pos (by decide)];refine up8 (Fe hs pl pu ?_);have hno:¬((((sIx items.size 0 lo:Nat):Int) == 0 && (1:Int) == 1 && (sIx items.size items.size hi - sIx items.size 0 lo) == items.size)=true):=by
  intro q;rw [ui2,ui2] at q;have q1:((sIx items.size 0 lo:Nat):Int)=0:=eq_of_beq q.1.1;have q2:sIx items.size items.size hi - sIx items.size 0 lo=items.size:=eq_of_beq q.2;exact hw ⟨by lia,by lia⟩
 show wpAny _ _ (if (((sIx items.size 0 lo:Nat):Int) == 0 && (1:Int) == 1 && (sIx items.size items.size hi - sIx items.size 0 lo) == items.size)=true then _ else _) _ _ s;rw [if_neg hno,Q3]
 first
  | exact up8 (m:=Builtin.Tuple.tupleExact _) (wpAny_newObj_type (up9 ⟨_,rfl,up9 h⟩) htake)
  | exact up8 (m:=Builtin.Tuple.tupleExact _) (wpAny_newObj_type (up8 (up9 (up9 ⟨_,rfl,up9 h⟩))) htake)
  | exact up8 (up8 (m:=Builtin.Tuple.tupleExact _) (wpAny_newObj_type (up9 (up9 ⟨_,rfl,up9 h⟩)) htake))
  | exact up8 (up8 (m:=Builtin.Tuple.tupleExact _) (wpAny_newObj_type (up9 ⟨_,rfl,up9 h⟩) htake))
end
end HT
namespace L2
open PySem PySem.Spec PyProof.Rows
abbrev TO:=St->Hp->(Option Int->Hp->Prop)->Prop
def PO (X:Cx)(e:Option Expr)(t:TO):Prop:=
 ∀(pins:List (Addr×Obj)) (s:Shared) (σ:St) (H:Hp) (Q:Option Int->Hp->Prop),Inv X pins σ H s->t σ H Q->
  wpAny (model X.prog X.w) X.A (evalPart e X.env) (λu s'=>∃o H',Inv X pins σ H' s'/\IsPart u o/\Q o H') X.xe s
def UF:TO:=λ_ H Q=>Q none H
def XT (t:TE):TO:=λσ H Q=>t σ H λx H1=>∃i,x = .int i/\Q (some i) H1
section
variable {X:Cx}{e:Expr}{te:TE}{lo hi:Option Expr}{tl th:TO}{pos p2:Pos}
theorem T7:PO X none UF:=by
 intro pins s σ H Q I h;rw [evalPart_none];exact up9 ⟨none,H,I,.none,h⟩
theorem T8 (h:PE X e te):PO X (some e) (XT te):=by
 intro pins s σ H Q I hw;rw [evalPart_some];refine thn (h pins s σ H _ I hw) λu s1 z9=>?_;obtain ⟨x,H1,I1,r1,q1⟩:=z9;obtain ⟨i,rfl,q⟩:=q1;obtain ⟨t,rfl⟩:=r1;exact ⟨some i,H1,I1,.int i t,q⟩
def SlR (X:Cx)(r:V->Option Int->Option Int->Hp->VK->Prop):Prop:=
 ∀(pins:List (Addr×Obj)) (s:Shared) (σ:St) (H:Hp) (x:V) (v vl vu:Value) (lo hi:Option Int) (sl:Addr) (Q:VK),Inv X pins σ H s->RelV x v->s.heap.IsSliceOf sl vl vu .none->IsPart vl lo->IsPart vu hi->r x lo hi H Q->
  ∃T id,typeLookup (.type T) "__getitem__" = pure (some (.builtin id))/\s.TypeIs v T/\wpAny (model X.prog X.w) X.A (getItem v (.ref sl)) (EP X pins σ Q) X.xe s
theorem SlR.or {r r':V->Option Int->Option Int->Hp->VK->Prop}(h:SlR X r)(h':SlR X r'):SlR X (λx lo hi H Q=>r x lo hi H Q\/r' x lo hi H Q):=by
 intro pins s σ H x v vl vu lo hi sl Q I rx hs pl pu q;rcases q with q | q
 ·exact h pins s σ H x v vl vu lo hi sl Q I rx hs pl pu q
 ·exact h' pins s σ H x v vl vu lo hi sl Q I rx hs pl pu q
def tSl (r:V->Option Int->Option Int->Hp->VK->Prop)(te:TE)(tl th:TO):TE:=λσ H Q=>te σ H λx H1=>tl σ H1 λl H2=>th σ H2 λu H3=>r x l u H3 Q
theorem Q0 {r:V->Option Int->Option Int->Hp->VK->Prop}(hr:SlR X r)(he:PE X e te)(hl:PO X lo tl)(hu:PO X hi th):PE X (.Subscript e (.Slice lo hi none p2) pos) (tSl r te tl th):=by
 intro pins s σ H Q I h;refine Subscript_ (thn (he pins s σ H _ I h) λv s1 z9=>?_);obtain ⟨x,H1,I1,r1,q1⟩:=z9;refine wpAny_Slice (thn (hl pins s1 σ H1 _ I1 q1) λvl s2 ⟨l,H2,I2,pl,q2⟩=>thn (hu pins s2 σ H2 _ I2 q2) λvu s3 z9=>?_);obtain ⟨u,H3,I3,pu,q3⟩:=z9;rw [evalPart_none];refine up9 ?_;have I4:Inv X pins σ H3 { s3 with heap:=s3.heap.push { cls:=.type "slice",data:=.fields #[vl,vu,.none] } }:=I3.kept (t':=s3.toks) λb ob q=>ub9 _ q;obtain ⟨T,id,hT,ht,hg⟩:=hr pins { s3 with heap:=s3.heap.push { cls:=.type "slice",data:=.fields #[vl,vu,.none] } } σ H3 x v vl vu l u s3.heap.objs.size Q I4 r1 (Heap.IsSliceOf.new ..) pl pu q3;show wpAny (model X.prog X.w) X.A (subscriptTail e (.Slice lo hi none p2) v (.ref s3.heap.objs.size)) (EP X pins σ Q) X.xe { s3 with heap:=s3.heap.push { cls:=.type "slice",data:=.fields #[vl,vu,.none] } };exact tail_any (ops:=[.ref s3.heap.objs.size,v]) ht hT hg (by with_unfolding_all rfl)
def Gb (xs:List V)(lo hi:Option Int):List V:=(xs.drop (HT.sIx xs.length 0 lo)).take (HT.sIx xs.length xs.length hi - HT.sIx xs.length 0 lo)
theorem HK (xs:List V)(lo hi:Option Int):(Gb xs lo hi).length<=xs.length:=by
 unfold Gb;rw [ui0,ui1];lia
def WM (K:PySem.W.Frag):V->Option Int->Option Int->Hp->VK->Prop:=λx lo hi H Q=>∃a xs,x = .ref a/\SqT K H a xs/\
 ¬(HT.sIx xs.length 0 lo=0/\HT.sIx xs.length xs.length hi=xs.length)/\∀p,H p=none->Q (.ref p) (upd H p (.tup (Gb xs lo hi)))
theorem WX:SlR X (WM X.K):=by
 intro pins s σ H x v vl vu lo hi sl Q I rx hs pl pu h;obtain ⟨a,xs,rfl,hx,hw,q⟩:=h
 cases rx
 obtain ⟨its,r,ht,hz⟩:=I.tuple hx;have hlen:its.toArray.size=xs.length:=by rw [ug7];exact r.length.symm
 refine ⟨"tuple",_,ua0.lookup,ht.typeIs,?_⟩;refine HT.HG ht hs pl pu (by rw [hlen];exact hw) ?_ (by rw [hlen];exact hz);rw [hlen];refine ⟨.ref s.heap.objs.size,_,I.laid (t':=s.toks) (o:=.tup (Gb xs lo hi)) (λb ob q=>ub9 _ q) (up3 _) ?_,rfl,q _ (I.hok.fresh (up3 _))⟩;exact ⟨un6 (HK xs lo hi) hz,_,(r.drop (HT.sIx xs.length 0 lo)).take (HT.sIx xs.length xs.length hi - HT.sIx xs.length 0 lo),IsTup.new _ _⟩
def So (K:PySem.W.Frag):R2:=λx y H Q=>∃a b xs ys,x = .ref a/\y = .ref b/\SqT K H a xs/\SqT K H b ys/\xs≠[]/\xs.length + ys.length<=sizeLine/\
 (ys=[]->Q (.ref a) H)/\(ys≠[]->∀p,H p=none->Q (.ref p) (upd H p (.tup (xs++ys))))
theorem Vals.nil_iff {xs:List V}{us:List Value}(r:Vals xs us):us=[]↔xs=[]:=by
 cases r with
 | nil=>simp
 | cons _ _=>simp
theorem TQ:OpR X (binaryOp .Add) (So X.K):=by
 intro pins s σ H x y v u Q I rx ry h;obtain ⟨a,b,xs,ys,rfl,rfl,ha,hb,hx,hz,q1,q2⟩:=h
 cases rx
 cases ry
 obtain ⟨its,r1,p1,_⟩:=I.tuple ha;obtain ⟨its2,r2,p2,_⟩:=I.tuple hb;refine HT.SO p1 p2 (λz=>hx (r1.nil_iff.mp z)) (λz=>⟨.ref a,H,I,rfl,q1 (r2.nil_iff.mp z)⟩) (λz=>?_) (by rw [<-r1.length,<-r2.length];exact hz);refine ⟨.ref s.heap.objs.size,_,I.laid (t':=s.toks) (o:=.tup (xs++ys)) (λb ob q=>ub9 _ q) (up3 _) ?_,rfl,q2 (λw=>z (r2.nil_iff.mpr w)) _ (I.hok.fresh (up3 _))⟩;exact ⟨by rw [ug0];exact hz,_,r1.append r2,IsTup.new _ _⟩
end
noncomputable def ixN (n:Nat)(i:Int):Option Nat:=if 0<=i then (if i < n then some i.toNat else none) else if -(n:Int)<=i then some (i + n).toNat else none
def atI {α:Type}(xs:List α)(i:Int):Option α:=(ixN xs.length i).bind λj=>xs[j]?
variable {n:Nat}
theorem MJ {i:Int}{j:Nat}(h:ixN n i=some j):seqIndex? i n=some j/\j < n/\-(n:Int)<=i/\i < n:=by
 unfold ixN at h
 by_cases h0:0<=i
 ·rw [if_pos h0] at h
  by_cases h1:i < n
  ·rw [if_pos h1] at h;have e:i.toNat=j:=uk0 h;exact ⟨by rw [seqIndex_of h0 h1,e],by lia,by lia,h1⟩
  ·rw [if_neg h1] at h;cases h
 ·rw [if_neg h0] at h
  by_cases h1 : -(n:Int)<=i
  ·rw [if_pos h1] at h;have e:(i + n).toNat=j:=uk0 h;exact ⟨by rw [seqIndex_neg (by lia) h1,e],by lia,h1,by lia⟩
  ·rw [if_neg h1] at h;cases h
theorem Jr {α:Type}{xs:List α}{i:Int}{v:α}(h:atI xs i=some v):∃j,seqIndex? i xs.length=some j/\xs[j]?=some v/\j < xs.length/\-(xs.length:Int)<=i/\i < xs.length:=by
 unfold atI at h
 cases e:ixN xs.length i with
 | none=>rw [e] at h;cases h
 | some j=>
   rw [e] at h;obtain ⟨h1,h2,h3,h4⟩:=MJ e;exact ⟨j,h1,h,h2,h3,h4⟩
def Jo (b:Expr):Prop:=∀o i,subscripted b false o i=operate [o,i] (getItem o i)
def IxR (X:Cx)(r:R2):Prop:=
 ∀(value slice:Expr) (pins:List (Addr×Obj)) (s:Shared) (σ:St) (H:Hp) (x y:V) (v u:Value) (Q:VK),Inv X pins σ H s->RelV x v->RelV y u->r x y H Q->
  subscripted slice false v u=operate [v,u] (getItem v u)->wpAny (model X.prog X.w) X.A (subscriptTail value slice v u) (EP X pins σ Q) X.xe s
def MtR (X:Cx)(id:String)(r:V->List V->Hp->VK->Prop):Prop:=
 ∀(pins:List (Addr×Obj)) (s:Shared) (σ:St) (H:Hp) (x:V) (xs:List V) (v:Value) (us:List Value) (Q:VK),Inv X pins σ H s->RelV x v->Vals xs us->r x xs H Q->
  wpAny (model X.prog X.w) X.A (call (.builtin id) (v :: us)) (EP X pins σ Q) X.xe s
variable {s:Shared}{its:List Value}{x:V}
section
variable {X:Cx}{a b:Expr}{ta tb:TE}{pos:Pos}
theorem IxR.or {r r':R2}(h:IxR X r)(h':IxR X r'):IxR X (λx y H Q=>r x y H Q\/r' x y H Q):=by
 intro value slice pins s σ H x y v u Q I rx ry q hs;rcases q with q | q
 ·exact h value slice pins s σ H x y v u Q I rx ry q hs
 ·exact h' value slice pins s σ H x y v u Q I rx ry q hs
theorem Sj {r:R2}(hr:IxR X r)(ha:PE X a ta)(hb:PE X b tb)(hs:Jo b):PE X (.Subscript a b pos) (tOp r ta tb):=by
 intro pins s σ H Q I h;exact Subscript_ (Qg ha hb I h λv u s2 x y H2 I2 rx ry q=>hr a b pins s2 σ H2 x y v u Q I2 rx ry q (hs _ _))
def WF (K:PySem.W.Frag):R2:=λx y H Q=>∃p xs i v,x = .ref p/\y = .int i/\SqL K H p xs/\atI xs i=some v/\Q v H
def WH (K:PySem.W.Frag):R2:=λx y H Q=>∃p xs i v,x = .ref p/\y = .int i/\SqT K H p xs/\atI xs i=some v/\Q v H
def WG:R2:=λx y H Q=>∃z i c,x = .str z/\y = .int i/\z.length<=sizeLine/\atI z.cps.toList i=some c/\Q (.str ⟨#[c]⟩) H
theorem ix_list:IxR X (WF X.K):=by
 intro value slice pins s σ H x y v u Q I rx ry h hs;obtain ⟨p,xs,i,z,rfl,rfl,hq,he,q⟩:=h
 cases rx
 obtain ⟨t,rfl⟩:=ry;obtain ⟨its,r,pl,hz⟩:=I.list hq;obtain ⟨j,h1,h2,h3,h4,h5⟩:=Jr he;obtain ⟨w,ew,rw'⟩:=r.get h2;have hl:=r.length;have hn:=FT;have fin:EP X pins σ Q w s:=⟨z,H,I,rw',q⟩
 by_cases h0:0<=i
 ·have hj:i.toNat=j:=by
   rw [seqIndex_of h0 h5] at h1;exact uk0 h1
  exact item_listR pl.isList h0 (by lia) (by rw [hj];simpa using ew) fin hs
 ·have hj:(i + (its.toArray.size:Int)).toNat=j:=by
   rw [seqIndex_neg (by lia) h4] at h1;rw [ug7,<-hl];exact uk0 h1
  exact subscriptTail_builtinR (x:=w) pl.isList.typeIs slot_list_getitem.lookup
   (wpAny_getItem_list_neg (Q:=λr s'=>r=w/\EP X pins σ Q r s') pl.isList (by lia) (by rw [ug7] <;> lia) (by lia) (by rw [hj];simpa using ew) ⟨rfl,fin⟩) hs
theorem ix_tup:IxR X (WH X.K):=by
 intro value slice pins s σ H x y v u Q I rx ry h hs;obtain ⟨p,xs,i,z,rfl,rfl,hq,he,q⟩:=h
 cases rx
 obtain ⟨t,rfl⟩:=ry;obtain ⟨its,r,pl,hz⟩:=I.tuple hq;obtain ⟨j,h1,h2,h3,h4,h5⟩:=Jr he;obtain ⟨w,ew,rw'⟩:=r.get h2;have hl:=r.length;have hn:=FT;have fin:EP X pins σ Q w s:=⟨z,H,I,rw',q⟩;exact subscriptTail_builtinR (x:=w) pl.typeIs slot_tuple_getitem.lookup
  (getItem_tuple (j:=j) (Q:=λr s'=>r=w/\EP X pins σ Q r s') pl (by lia) (by lia) (by rw [ug7,<-hl];exact h1) (by simpa using ew) ⟨rfl,fin⟩) hs
theorem VX:IxR X WG:=by
 intro value slice pins s σ H x y v u Q I rx ry h hs;obtain ⟨z,i,c,rfl,rfl,hz,he,q⟩:=h;obtain ⟨t,rfl⟩:=rx;obtain ⟨t',rfl⟩:=ry;obtain ⟨j,h1,h2,h3,h4,h5⟩:=Jr he;have hl:z.cps.toList.length=z.length:=by simp [Str.length]
 rw [hl] at h1 h4 h5;have hn:=FT;exact tail_any (typeIs_str s z t) slot_str_getitem.lookup (getItem_str (c:=c) (by
  have e1:decide (i < -(2 ^ 63:Int))=false:=ul6 (by lia);have e2:decide (i ≥ 2 ^ 63)=false:=ul6 (by lia);rw [e1,e2,Bool.or_false]) (by rw [h1];simpa using h2) ⟨.str ⟨#[c]⟩,H,I.tok _,⟨_,rfl⟩,q⟩) hs
def rIx (K:PySem.W.Frag):R2:=λx y H Q=>WF K x y H Q\/WH K x y H Q\/WG x y H Q
theorem VW:IxR X (rIx X.K):=ix_list.or (ix_tup.or VX)
theorem NK (its:List Value)(n j:Nat)(u:Value):Obj.mapSeq (·.setIfInBounds j u) { cls:=.type "list",data:=.seq its.toArray n } = { cls:=.type "list",data:=.seq (its.set j u).toArray n }:=by
 simp [Obj.mapSeq]
theorem Inv.lst {pins:List (Addr×Obj)}{σ:St}{H:Hp}{s:Shared}{p:Addr}{xs:List V}(I:Inv X pins σ H s)(h:H p=some (.lst xs)) :
 ∃(its:List Value) (n:Nat),Vals xs its/\s.heap.get? p=some { cls:=.type "list",data:=.seq its.toArray n }/\xs.length<=sizeLine:=by
 obtain ⟨z,its,n,r,e⟩:=I.hok p _ h;exact ⟨its,n,r,e,z⟩
theorem Inv.lstUpd {pins:List (Addr×Obj)}{σ:St}{H:Hp}{p:Addr}{xs ys:List V}{its':List Value}{n':Nat}{f:Obj->Obj}(I:Inv X pins σ H s)(h:H p=some (.lst xs))
 (ho:s.heap.get? p=some { cls:=.type "list",data:=.seq its.toArray n }) (hf:f { cls:=.type "list",data:=.seq its.toArray n } = { cls:=.type "list",data:=.seq its'.toArray n' }) (r:Vals ys its') (hz:ys.length<=sizeLine) (t:Nat) :
 Inv X pins σ (upd H p (.lst ys)) { s with heap:=s.heap.update p f,toks:=t }:=by
 have e:(s.heap.update p f).get? p=some { cls:=.type "list",data:=.seq its'.toArray n' }:=by
  rw [ud0 f ho (by rw [hf] <;> rfl),hf]
 refine I.write (x:=p) (e:=p) (by rw [h];trivial) (.inl rfl) (λb u hb q=>(uc1 _ _ (Ne.symm hb)).trans q) ⟨_,e⟩ ?_;exact ⟨hz,its',n',r,e⟩
def XJ:V->V->V->Hp->(Hp->Prop)->Prop:=λo i v H Q=>∃p xs k j,o = .ref p/\i = .int k/\H p=some (.lst xs)/\ixN xs.length k=some j/\Q (upd H p (.lst (xs.set j v)))
theorem L6:U4 X XJ:=by
 intro pins s σ H o i v ov iv u Q I ro ri rv h;obtain ⟨p,xs,k,j,rfl,rfl,hp,hj,q⟩:=h
 cases ro
 obtain ⟨t,rfl⟩:=ri;obtain ⟨its,n,r,ho,hz⟩:=I.lst hp;obtain ⟨h1,h2,h3,h4⟩:=MJ hj;have hl:=r.length;have hn:=FT;have I':Inv X pins σ (upd H p (.lst (xs.set j v))) { s with heap:=s.heap.update p (Obj.mapSeq (·.setIfInBounds j u)) }:=
  I.lstUpd hp ho (NK its n j u) (r.set rv j) (by rw [uk6];exact hz) s.toks
 by_cases h0:0<=k
 ·have hk:k.toNat=j:=by
   rw [seqIndex_of h0 h4] at h1;exact uk0 h1
  exact PySem.W.ki_setAt ho h0 (by lia) (by rw [ug7,<-hl];exact h4) (by rw [hk];exact ⟨_,I',q⟩)
 ·have hk:(k + (its.toArray.size:Int)).toNat=j:=by
   rw [seqIndex_neg (by lia) h3] at h1;rw [ug7,<-hl];exact uk0 h1
  exact PySem.W.ki_setBack ho (by lia) (by rw [ug7,<-hl];exact h3) (by lia) (by rw [hk];exact ⟨_,I',q⟩)
theorem L8 (lo hi:Option Int)(n:Nat):(sliceBounds lo hi none n).1=((HT.sIx n 0 lo:Nat):Int)/\(sliceBounds lo hi none n).2.1=((HT.sIx n n hi:Nat):Int)/\(sliceBounds lo hi none n).2.2=1:=by
 refine ⟨?_,?_,rfl⟩
 ·cases lo with
  | none=>simp [sliceBounds,HT.sIx]
  | some i=>
    simp only [sliceBounds,HT.sIx,Option.getD_none,show (1:Int) > 0 by decide,if_true]
    by_cases h:i < 0
    ·simp only [h,if_true] <;> lia
    ·simp only [h,if_false] <;> lia
 ·cases hi with
  | none=>simp [sliceBounds,HT.sIx]
  | some i=>
    simp only [sliceBounds,HT.sIx,Option.getD_none,show (1:Int) > 0 by decide,if_true]
    by_cases h:i < 0
    ·simp only [h,if_true] <;> lia
    ·simp only [h,if_false] <;> lia
theorem Ks (its:List Value)(lo hi:Option Int):slicePick its.toArray lo hi none=((its.drop (HT.sIx its.length 0 lo)).take (HT.sIx its.length its.length hi - HT.sIx its.length 0 lo)).toArray:=by
 obtain ⟨h1,h2,h3⟩:=L8 lo hi its.toArray.size;unfold slicePick;rw [h1,h2,h3];simp only [sliceRange_one,pick_run,ug7] <;> rfl
def WK (K:PySem.W.Frag):V->Option Int->Option Int->Hp->VK->Prop:=λx lo hi H Q=>∃a xs,x = .ref a/\SqL K H a xs/\∀p,H p=none->Q (.ref p) (upd H p (.lst (Gb xs lo hi)))
theorem sl_list:SlR X (WK X.K):=by
 intro pins s σ H x v vl vu lo hi sl Q I rx hs pl pu h;obtain ⟨a,xs,rfl,hx,q⟩:=h
 cases rx
 obtain ⟨its,r,ht,hz⟩:=I.list hx;have hlen:=r.length;refine ⟨"list",_,slot_list_getitem.lookup,ht.isList.typeIs,?_⟩;refine wpAny_getItem_list_slice ht.isList hs pl pu .none (by simp) ?_ (by rw [ug7] <;> lia);rw [Ks,<-hlen];refine ⟨.ref s.heap.objs.size,_,I.laid (t':=s.toks) (o:=.lst (Gb xs lo hi)) (λb ob q=>ub9 _ q) (up3 _) ?_,rfl,q _ (I.hok.fresh (up3 _))⟩;exact ⟨un6 (HK xs lo hi) hz,_,0,(r.drop (HT.sIx xs.length 0 lo)).take (HT.sIx xs.length xs.length hi - HT.sIx xs.length 0 lo),ue7 _ rfl⟩
noncomputable def EN:V->Bool
 | .non=>true
 | .bl _=>true
 | .int _=>true
 | .str _=>true
 | _=>false
noncomputable def eqV:V->V->Bool
 | .non,.non=>true
 | .bl a,.bl b=>a == b
 | .bl a,.int b=>(if a then 1 else 0) == b
 | .int a,.bl b=>a == (if b then 1 else 0)
 | .int a,.int b=>a == b
 | .str a,.str b=>a == b
 | _,_=>false
theorem Vn {A:Around}{y:V}{u v:Value}(ry:RelV y u)(rx:RelV x v)(fy:EN y=true)(fx:EN x=true):SeqAt.EqAt A s u v (eqV y x):=by
 cases y with
 | non=>
   cases ry
   cases x with
   | non=>cases rx;exact SeqAt.EqAt.same _
   | bl b=>cases rx;exact SeqAt.EqAt.none_bool b
   | int b=>obtain ⟨t,rfl⟩:=rx;exact SeqAt.EqAt.none_int b t
   | str b=>obtain ⟨t,rfl⟩:=rx;exact SeqAt.EqAt.none_str b t
   | _=>exact absurd (show false=true from fx) uf7
 | bl a=>
   cases ry
   cases x with
   | non=>cases rx;exact SeqAt.EqAt.bool_none a
   | bl b=>cases rx;exact SeqAt.EqAt.bool_bool a b
   | int b=>obtain ⟨t,rfl⟩:=rx;exact SeqAt.EqAt.bool_int a b t
   | str b=>obtain ⟨t,rfl⟩:=rx;exact SeqAt.EqAt.bool_str a b t
   | _=>exact absurd (show false=true from fx) uf7
 | int a=>
   obtain ⟨t',rfl⟩:=ry
   cases x with
   | non=>cases rx;exact SeqAt.EqAt.int_none a t'
   | bl b=>cases rx;exact SeqAt.EqAt.int_bool a t' b
   | int b=>obtain ⟨t,rfl⟩:=rx;exact SeqAt.EqAt.int_int a t' b t
   | str b=>obtain ⟨t,rfl⟩:=rx;exact SeqAt.EqAt.int_str a t' b t
   | _=>exact absurd (show false=true from fx) uf7
 | str a=>
   obtain ⟨t',rfl⟩:=ry
   cases x with
   | non=>cases rx;exact SeqAt.EqAt.str_none a t'
   | bl b=>cases rx;exact SeqAt.EqAt.str_bool a t' b
   | int b=>obtain ⟨t,rfl⟩:=rx;exact SeqAt.EqAt.str_int a t' b t
   | str b=>obtain ⟨t,rfl⟩:=rx;exact SeqAt.EqAt.str_str a t' b t
   | _=>exact absurd (show false=true from fx) uf7
 | _=>exact absurd (show false=true from fy) uf7
def eqU (x:V)(u:Value):Bool:=match u with
 | .none=>eqV .non x
 | .bool b=>eqV (.bl b) x
 | .int i _=>eqV (.int i) x
 | .str z _=>eqV (.str z) x
 | _=>false
theorem OH {y:V}{u:Value}(r:RelV y u)(f:EN y=true):eqU x u=eqV y x:=by
 cases y with
 | non=>cases r;rfl
 | bl b=>cases r;rfl
 | int i=>obtain ⟨t,rfl⟩:=r;rfl
 | str z=>obtain ⟨t,rfl⟩:=r;rfl
 | _=>exact absurd (show false=true from f) uf7
theorem FI {x:V}:∀{xs:List V} {us:List Value},Vals xs us->xs.all EN=true->us.any (eqU x)=xs.any λy=>eqV y x
 | _,_,.nil,_=>rfl
 | y :: xs,u :: us,.cons r t,f=>by
   rw [um6,ui2] at f;rw [um7,um7,OH r f.1,FI t f.2]
theorem E8 {A:Around}{s:Shared}{x:V}{v:Value}(rx:RelV x v)(fx:EN x=true):∀{xs:List V} {us:List Value},Vals xs us->xs.all EN=true->∀u∈us,SeqAt.EqAt A s u v (eqU x u)
 | _,_,.nil,_=>λu hu=>by cases hu
 | y :: xs,u :: us,.cons r t,f=>λu' hu=>by
   rw [um6,ui2] at f;rcases um5.mp hu with rfl | hu
   ·rw [OH r f.1];exact Vn r rx f.1 fx
   ·exact E8 rx fx t f.2 u' hu
def inV (x:V)(xs:List V):Bool:=xs.any λy=>eqV y x
def rIn (K:PySem.W.Frag)(neg:Bool):R2:=λx y H Q=>∃p xs,y = .ref p/\(SqL K H p xs\/SqT K H p xs)/\EN x=true/\xs.all EN=true/\Q (.bl (if neg then !inV x xs else inV x xs)) H
theorem Ph:OpR X (compareOp .In) (rIn X.K false):=by
 intro pins s σ H x y v u Q I rx ry h;obtain ⟨p,xs,rfl,hq,fx,fs,q⟩:=h
 cases ry
 rcases hq with hq | hq
 ·obtain ⟨its,r,pl,hz⟩:=I.list hq;refine SeqAt.in_listAt (eqU x) pl.isList (λw hw=>E8 rx fx r fs w (by simpa using hw)) ⟨.bl _,H,I,rfl,?_⟩;rw [show its.toArray.any (eqU x)=its.any (eqU x) by simp,FI r fs];exact q
 ·obtain ⟨its,r,pl,hz⟩:=I.tuple hq;refine SeqAt.in_tupleAt (eqU x) pl (λw hw=>E8 rx fx r fs w (by simpa using hw)) ⟨.bl _,H,I,rfl,?_⟩;rw [show its.toArray.any (eqU x)=its.any (eqU x) by simp,FI r fs];exact q
theorem LO:OpR X (compareOp .NotIn) (rIn X.K true):=by
 intro pins s σ H x y v u Q I rx ry h;obtain ⟨p,xs,rfl,hq,fx,fs,q⟩:=h
 cases ry
 rcases hq with hq | hq
 ·obtain ⟨its,r,pl,hz⟩:=I.list hq;refine SeqAt.notIn_listAt (eqU x) pl.isList (λw hw=>E8 rx fx r fs w (by simpa using hw)) ⟨.bl _,H,I,rfl,?_⟩;rw [show its.toArray.any (eqU x)=its.any (eqU x) by simp,FI r fs];exact q
 ·obtain ⟨its,r,pl,hz⟩:=I.tuple hq;refine SeqAt.notIn_tupleAt (eqU x) pl (λw hw=>E8 rx fx r fs w (by simpa using hw)) ⟨.bl _,H,I,rfl,?_⟩;rw [show its.toArray.any (eqU x)=its.any (eqU x) by simp,FI r fs];exact q
theorem Lb:BA X (.builtin "len") (λxs H Q=>∃p ys,xs=[.ref p]/\(SqL X.K H p ys\/SqT X.K H p ys)/\Q (.int ys.length) H):=by
 intro pins s σ H xs us Q I r h;obtain ⟨p,ys,rfl,hq,q⟩:=h;obtain ⟨u,rfl,rx⟩:=DY r
 cases rx
 have hn:=FT;rcases hq with hq | hq
 ·obtain ⟨its,r',pl,hz⟩:=I.list hq;have hlen:=r'.length;exact Calls.call_len_list pl.isList (by simp only [ug7] <;> lia) ⟨.int ys.length,H,I.tok _,⟨s.toks + 1,by rw [ug7,hlen]⟩,q⟩
 ·obtain ⟨its,r',pl,hz⟩:=I.tuple hq;have hlen:=r'.length;exact len_tuple pl (by simp only [ug7] <;> lia) ⟨.int ys.length,H,I.tok _,⟨s.toks + 1,by rw [ug7,hlen]⟩,q⟩
theorem Lc:BA X (.type "list") (λxs H Q=>∃p ys,xs=[.ref p]/\(SqL X.K H p ys\/SqT X.K H p ys)/\∀l,H l=none->Q (.ref l) (upd H l (.lst ys))):=by
 intro pins s σ H xs us Q I r h;obtain ⟨p,ys,rfl,hq,q⟩:=h;obtain ⟨u,rfl,rx⟩:=DY r
 cases rx
 have fin:∀(its:List Value),Vals ys its->ys.length<=sizeLine->∀(h':Heap) (c':Nat),(∀b o',s.heap.get? b=some o'->h'.get? b=some o')->
  h'.get? s.heap.objs.size=some { cls:=.type "list",dict:=none,data:=.seq its.toArray c',slots:=#[] }->EP X pins σ Q (.ref s.heap.objs.size) { s with heap:=h' }:=λits r' hz h' c' kp e=>
  ⟨.ref s.heap.objs.size,_,I.laid (t':=s.toks) kp (up3 _) (show ObjOk X.prog X.w _ h' _ (.lst ys) from ⟨hz,its,c',r',e⟩),rfl,q _ (I.hok.fresh (up3 _))⟩
 rcases hq with hq | hq
 ·obtain ⟨its,r',pl,hz⟩:=I.list hq;have hlen:=r'.length;obtain ⟨o,ho,hc,n,hd⟩:=pl.isList;exact call_list_seq p (.inl rfl) ho hc hd (λh' c' kp e=>fin its r' hz h' c' kp e) (by simp only [ug7] <;> lia)
 ·obtain ⟨its,r',pl,hz⟩:=I.tuple hq;have hlen:=r'.length;obtain ⟨o,ho,hc,n,hd⟩:=pl;exact call_list_seq p (.inr rfl) ho hc hd (λh' c' kp e=>fin its r' hz h' c' kp e) (by simp only [ug7] <;> lia)
theorem Kp:BA X (.type "tuple") (λxs H Q=>∃p ys,xs=[.ref p]/\((SqL X.K H p ys/\∀l,H l=none->Q (.ref l) (upd H l (.tup ys)))\/(SqT X.K H p ys/\Q (.ref p) H))):=by
 intro pins s σ H xs us Q I r h;obtain ⟨p,ys,rfl,h⟩:=h;obtain ⟨u,rfl,rx⟩:=DY r
 cases rx
 rcases h with ⟨hq,q⟩ | ⟨hq,q⟩
 ·obtain ⟨its,r',pl,hz⟩:=I.list hq;have hlen:=r'.length;refine call_tuple_list pl.isList (λh' kp=>?_) (by simp only [ug7] <;> lia);have I1:Inv X pins σ H { s with heap:=h' }:=I.kept (t':=s.toks) kp;have I2:Inv X pins σ (upd H h'.objs.size (.tup ys)) { s with heap:=h'.push { cls:=.type "tuple",data:=.seq its.toArray } }:=
   I1.laid (t':=s.toks) (λb o e=>ub9 _ e) (up3 _) (show ObjOk X.prog X.w _ _ _ (.tup ys) from ⟨hz,its,r',IsTup.new _ _⟩)
  exact ⟨.ref h'.objs.size,_,I2,rfl,q _ (I1.hok.fresh (up3 _))⟩
 ·obtain ⟨its,r',pl,hz⟩:=I.tuple hq;exact call_tuple_same pl ⟨.ref p,H,I,rfl,q⟩
def tyV (K:PySem.W.Frag)(T:String)(x:V)(H:Hp):Prop:=match x with
 | .str _=>T = "str"
 | .int _=>T = "int"
 | .ref p=>(T = "list"/\∃xs,SqL K H p xs)\/(T = "tuple"/\∃o,K.lookup p=some o/\o.cls = .type "tuple"/\o.dict=none)\/
    (T = "dict"/\((∃kvs,H p=some (.dK kvs))\/∃kvs,H p=some (.dT kvs)))\/(T = "set"/\∃S n,H p=some (.set S n))
 | _=>False
theorem W3 {pins:List (Addr×Obj)}{σ:St}{H:Hp}{T:String}{v:Value}(I:Inv X pins σ H s)(r:RelV x v)(ty:tyV X.K T x H) :
 s.TypeIs v T/\∀a,v = .ref a->∃ob,s.heap.get? a=some ob/\ob.dict=none:=by
 cases x with
 | str z=>
   obtain ⟨t,rfl⟩:=r
   cases (show T = "str" from ty)
   exact ⟨typeIs_str s z t,λ_ e=>nomatch e⟩
 | int i=>
   obtain ⟨t,rfl⟩:=r
   cases (show T = "int" from ty)
   exact ⟨typeIs_int s i t,λ_ e=>nomatch e⟩
 | ref p=>
   cases r
   rcases ty with ⟨rfl,xs,hq⟩ | ⟨rfl,o,hk,hc,hd⟩ | ⟨rfl,hk⟩ | ⟨rfl,S,n,hk⟩
   ·obtain ⟨its,_,pl,_⟩:=I.list hq;refine ⟨pl.isList.typeIs,λa e=>?_⟩
    cases e
    obtain ⟨o,n,e,c,hd,_⟩:=pl;exact ⟨o,e,hd⟩
   ·refine ⟨⟨o,I.kIn p o hk,hc⟩,λa e=>?_⟩
    cases e
    exact ⟨o,I.kIn _ o hk,hd⟩
   ·have z:∃o,s.heap.get? p=some o/\o.ExactDict:=by
     rcases hk with ⟨kvs,hk⟩ | ⟨kvs,hk⟩
     ·obtain ⟨_,_,_,_,o,_,_,e,ex,_⟩:=I.hok p _ hk;exact ⟨o,e,ex⟩
     ·obtain ⟨_,_,_,_,o,_,_,e,ex,_⟩:=I.hok p _ hk;exact ⟨o,e,ex⟩
    obtain ⟨o,e,ex⟩:=z;refine ⟨⟨o,e,ex.1⟩,λa e2=>?_⟩
    cases e2
    exact ⟨o,e,ex.2.1⟩
   ·obtain ⟨o,_,_,_,e,ex,_⟩:=I.hok p _ hk;refine ⟨⟨o,e,ex.1⟩,λa e2=>?_⟩
    cases e2
    exact ⟨o,e,ex.2.1⟩
 | _=>exact False.elim ty
def tBM (K:PySem.W.Frag)(T:String)(r:V->List V->Hp->VK->Prop)(to:TE)(t:TA):TE:=λσ H Q=>to σ H λx H1=>tyV K T x H1/\t σ H1 λxs H2=>r x xs H2 Q
variable {o e:Expr}{es:List Expr}{to:TE}{t:TA}{name:Str}{apos cpos:Pos}{T id:String}{r:V->List V->Hp->VK->Prop}
theorem KC (pa:PlainAttrs T)(slot:Slot T name id)(hty:typeOf (.builtin id)=pure (.type "method_descriptor"))(hm:MtR X id r)(ho:PE X o to)(ha:PA X (e :: es) t)
 (hbase:attributeBase o name X.env (eval o X.env)=eval o X.env:=by rfl)
 (hfew:((backTo cpos (starEach (e :: es) X.env)).all (λx=>!x.1) && (backToKw cpos (keywordEach [] X.env)).all (λx=>x.1.isSome)
   && decide ((e :: es).length + ([]:List Keyword).length + (if ([]:List Keyword).isEmpty then 0 else 1) < 30))=true:=by rfl)
 (hline:(apos.endLine == cpos.line)=true:=by rfl) (hs:starEach (e :: es) X.env=(false,eval e X.env) :: starEach es X.env:=by rfl) (hplain:(backTo cpos (starEach es X.env)).any (·.1)=false:=by rfl) :
 PE X (.Call (.Attribute o name apos) (e :: es) [] cpos) (tBM X.K T r to t):=by
 intro pins s σ H Q I h;refine wpAny_Call_method_late hbase hfew hline rfl (thn (ho pins s σ H _ I h) λv s1 z9=>?_);obtain ⟨x,H1,I1,r1,ty,q1⟩:=z9;obtain ⟨h1,h2⟩:=W3 I1 r1 ty;refine ⟨T,id,pa,slot,hty,h1,h2,?_⟩;have hA:=ha cpos pins s1 σ H1 _ I1 q1;rw [hs] at hA ⊢;refine Calls.callWith_builtin (by show (false || (backTo cpos (starEach es X.env)).any (·.1))=false;rw [hplain] <;> rfl) (Calls.evalArgs_plain ?_);exact thn hA λus s2 ⟨vs,H2,I2,r2,q2⟩=>hm pins s2 σ H2 x vs v us Q I2 r1 r2 q2
/- xs.append(e),list.index on a module's tuple .. are MtR facts of 06m -/
end
def MtM (X:Cx)(id:String)(r:V->List V->Hp->VK->Prop):Prop:=
 ∀(pins:List (Addr×Obj)) (s:Shared) (σ:St) (H:Hp) (x:V) (xs:List V) (v:Value) (us:List Value) (Q:VK),Inv X pins σ H s->RelV x v->Vals xs us->r x xs H Q->
  wpAny (model X.prog X.w) X.A (call (.builtin id) (v :: us)) (EP X pins σ Q) X.xe s
theorem Vals.one {us:List Value}(h:Vals [x] us):∃u,us=[u]/\RelV x u:=by
 cases h with
 | cons r t=>
   cases t
   exact ⟨_,rfl,r⟩
theorem Vals.rep {xs:List V}{us:List Value}(h:Vals xs us):∀k:Nat,Vals (List.replicate k xs).flatten (List.replicate k us).flatten
 | 0=>.nil
 | k + 1=>by
   rw [ue8,ue8,ug9,ug9];exact Vals.append h (Vals.rep h k)
theorem GV (its:List Value):∀(k:Nat) (acc:List Value),
 List.foldl (λx1 x2=>x1++x2) acc.toArray (List.replicate k its.toArray)=(acc++(List.replicate k its).flatten).toArray
 | 0,acc=>by simp
 | k + 1,acc=>by
   have e:acc.toArray++its.toArray=(acc++its).toArray:=by simp
   have e2:(acc++its)++(List.replicate k its).flatten=acc++(List.replicate (k + 1) its).flatten:=by
    rw [ue8,ug9,uh0]
   rw [<-e2,<-GV its k (acc++its),<-e,ue8,List.foldl_cons]
section
variable {X:Cx}{pins:List (Addr×Obj)}{σ:St}{H:Hp}{s:Shared}{l b:Addr}{xs ys zs:List V}
theorem Inv.lset {its':List Value}{f:Array Value->Array Value}{t':Nat}(I:Inv X pins σ H s)(hH:H l=some (.lst xs))
 (e:s.heap.get? l=some { cls:=.type "list",data:=.seq its.toArray n }) (hf:f its.toArray=its'.toArray) (hv:Vals ys its') (hz:ys.length<=sizeLine) :
 Inv X pins σ (upd H l (.lst ys)) { s with heap:=s.heap.update l (Obj.mapSeq f),toks:=t' }:=by
 have q:=PySem.IsL.update e f;rw [hf] at q;refine I.write (x:=l) (e:=l) (by rw [hH];exact trivial) (.inl rfl) (λb' u hb hu=>(uc1 s.heap (Obj.mapSeq f) (Ne.symm hb)).trans hu) ⟨_,q⟩ ?_;exact ⟨hz,its',_,hv,q⟩
theorem Inv.lnew {t':Nat}(I:Inv X pins σ H s)(hv:Vals ys its)(hz:ys.length<=sizeLine) :
 Inv X pins σ (upd H s.heap.objs.size (.lst ys)) { s with heap:=s.heap.push { cls:=.type "list",data:=.seq its.toArray },toks:=t' }:=
 I.laid (λ_ _ q=>ub9 _ q) (up3 _) ⟨hz,its,0,hv,ue7 _ rfl⟩
theorem Inv.fresh (I:Inv X pins σ H s):H s.heap.objs.size=none:=I.hok.fresh (up3 _)
theorem Inv.lstM (I:Inv X pins σ H s)(hH:H l=some (.lst xs)):xs.length<=sizeLine/\∃(its:List Value) (n:Nat),Vals xs its/\xs.length=its.length/\s.heap.get? l=some { cls:=.type "list",data:=.seq its.toArray n }:=by
 obtain ⟨z,its,n,r,e⟩:=I.hok l _ hH;exact ⟨z,its,n,r,r.length,e⟩
theorem Ip (h:n<=sizeLine):Builtin.List.listTooLong n=false:=by
 unfold Builtin.List.listTooLong;exact ul6 (by lia)
end
section
variable {X:Cx}
def M1:V->List V->Hp->VK->Prop:=λx vs H Q=>∃l xs y,x = .ref l/\vs=[y]/\H l=some (.lst xs)/\xs.length < sizeLine/\Q .non (upd H l (.lst (xs++[y])))
theorem J7:MtM X "list.append" M1:=by
 intro pins s σ H x vs v us Q I rx rv h;obtain ⟨l,xs,y,rfl,rfl,hH,hz,q⟩:=h
 cases rx
 obtain ⟨u,rfl,ru⟩:=rv.one;obtain ⟨z,its,n,r,hl,e⟩:=I.lstM hH;refine call_meets F.slot_list_append ⟨_,e,rfl⟩ F.entry_list_append (F.args_list_append_2 _ _) (PySem.list_append l its.toArray n u (by rw [ug7];lia)) ⟨e,?_⟩;refine ⟨.non,_,I.lset (its':=its++[u]) hH e (by simp) (r.append (.cons ru .nil)) ?_,rfl,q⟩;rw [ug0,ud1];lia
def M2:V->List V->Hp->VK->Prop:=λx vs H Q=>∃l b xs zs,x = .ref l/\vs=[.ref b]/\H l=some (.lst xs)/\H b=some (.lst zs)/\xs.length + zs.length<=sizeLine/\Q .non (upd H l (.lst (xs++zs)))
theorem mt_extend:MtM X "list.extend" M2:=by
 intro pins s σ H x vs v us Q I rx rv h;obtain ⟨l,b,xs,zs,rfl,rfl,hH,hB,hz,q⟩:=h
 cases rx
 obtain ⟨u,rfl,ru⟩:=rv.one
 cases ru
 obtain ⟨z,its,n,r,hl,e⟩:=I.lstM hH;obtain ⟨z2,its2,n2,r2,hl2,e2⟩:=I.lstM hB;have hsz:its.toArray.size + its2.toArray.size<=sizeLine:=by rw [ug7,ug7];lia
 have hlong:¬(!its.toArray.isEmpty && Builtin.List.listTooLong (its.toArray.size + its2.toArray.size))=true:=by
  rw [Ip hsz,ul9];exact uf7
 refine call_meets F.slot_list_extend ⟨_,e,rfl⟩ F.entry_list_extend (F.args_list_extend_2 _ _)
  (AutoSeq1.list_extend_list_list_0 l its.toArray n b its2.toArray n2 hlong (by rw [ug7];lia) (by lia)) ⟨e,e2,?_⟩
 refine ⟨.non,_,I.lset (its':=its++its2) hH e (by simp) (r.append r2) ?_,rfl,q⟩;rw [ug0];lia
def Rg:R2:=λx y H Q=>∃l b xs zs,x = .ref l/\y = .ref b/\H l=some (.lst xs)/\H b=some (.lst zs)/\xs.length + zs.length<=sizeLine/\∀p,H p=none->Q (.ref p) (upd H p (.lst (xs++zs)))
theorem op_cat:OpR X (binaryOp .Add) Rg:=by
 intro pins s σ H x y v u Q I rx ry h;obtain ⟨l,b,xs,zs,rfl,rfl,hH,hB,hz,q⟩:=h
 cases rx
 cases ry
 obtain ⟨z,its,n,r,hl,e⟩:=I.lstM hH;obtain ⟨z2,its2,n2,r2,hl2,e2⟩:=I.lstM hB;refine PySem.P.add_list e e2 ?_ (by rw [ug7,ug7];lia);have ea:its.toArray++its2.toArray=(its++its2).toArray:=by simp
 rw [ea];exact ⟨.ref _,_,I.lnew (t':=s.toks) (r.append r2) (by rw [ug0];lia),rfl,q _ I.fresh⟩
def WI:R2:=λx y H Q=>∃l k xs,x = .ref l/\y = .int k/\H l=some (.lst xs)/\-(2 ^ 63)<=k/\k < 2 ^ 63/\xs.length * k.toNat<=sizeLine/\
 ∀p,H p=none->Q (.ref p) (upd H p (.lst (List.replicate k.toNat xs).flatten))
theorem Jy {α:Type}(xs:List α)(k:Nat):(List.replicate k xs).flatten.length=k * xs.length:=by
 induction k with
 | zero=>simp
 | succ k ih=>rw [ue8,ug9,ug0,ih,un9,Nat.add_comm]
theorem Wc:OpR X (binaryOp .Mult) WI:=by
 intro pins s σ H x y v u Q I rx ry h;obtain ⟨l,k,xs,rfl,rfl,hH,h1,h2,hz,q⟩:=h
 cases rx
 obtain ⟨t,rfl⟩:=ry;obtain ⟨z,its,n,r,hl,e⟩:=I.lstM hH;have hlen:its.toArray.size * k.toNat<=sizeLine:=by rw [ug7,<-hl];exact hz
 have hcap:¬its.toArray.size * k.toNat > (2 ^ 63 - 1) / 8:=by
  have:(sizeLine:Nat)<=(2 ^ 63 - 1) / 8:=by decide
  lia
 have hfit:¬(!Builtin.List.listFitsIndex k)=true:=by
  rw [fitsIndex_both h1 h2];exact uf7
 have hlong:¬Builtin.List.listTooLong (its.toArray.size * k.toNat)=true:=by
  rw [Ip hlen];exact uf7
 have hnew:List.foldl (λx1 x2=>x1++x2) #[] (List.replicate (if its.toArray.isEmpty=true then 0 else k.toNat) its.toArray)=(List.replicate k.toNat its).flatten.toArray:=by
  have f0:∀m:Nat,List.foldl (λx1 x2=>x1++x2) #[] (List.replicate m its.toArray)=(List.replicate m its).flatten.toArray:=λm=>by
   have:=GV its m [];rw [uk7] at this;exact this
  rw [f0]
  cases its with
  | nil=>simp
  | cons a r'=>rw [if_neg (by simp)]
 refine wpAny_binaryOp_repeat_ref (T:="list") (U:="int") (by decide) ⟨_,e,rfl⟩ (λs'=>typeIs_int s' k t) noFill_list_mul F.fills_int_mul F.slot_int_rmul repeat_list F.slot_int_index.lookup
  (call_meets F.slot_int_rmul (typeIs_int s k t) F.entry_int_rmul (F.args_int_rmul_2 _ _) (int___rmul___int_list k t l its.toArray n)
    ⟨e,rfl,⟨_,e,rfl⟩,call_meets F.slot_list_mul ⟨_,e,rfl⟩ F.entry_list_mul (F.args_list_mul_2 _ _) (AutoListH.list___mul___list_int_3 l its.toArray n k t hfit hcap hlong) ⟨e,?_⟩⟩)
 rw [hnew];exact ⟨.ref _,_,I.lnew (t':=s.toks) (r.rep k.toNat) (by rw [Jy,uo0];exact hz),rfl,q _ I.fresh⟩
end
section
variable {prog:Program}{w:World}{A:Around}{E:Value->Shared->Prop}{s:Shared}
end
section
variable {X:Cx}
end
end L2
namespace Att
open PySem PySem.W PySem.Calls PyProof.Rows
theorem IV {P:Params}{h:Heap}:∀(ns:List Int) (vs:List Value),WellAll P h vs (ns.map WData.int)->IntsAre vs ns:=by
 intro ns
 induction ns with
 | nil=>
   intro vs w;rw [uo1] at w
   cases w
   exact .nil
 | cons n ns ih=>
   intro vs w;rw [um8] at w
   cases w with
   | cons a b=>
     cases a
     exact .cons _ _ (ih _ b)
theorem PP {l:OpenLaw}{n:Nat}(hn:l.most=some n){P:Params}{h:Heap}{args:List WData}{vals:List Value}
 (hpre:l.row.toRowW.claim.pre args=true) (hwl:WellAll P h vals args) :
 ∃a vs ns,vals=[Value.ref a]/\args=[WData.list (ns.map WData.int)]/\h.get? a=some { cls:=.type "list",data:=.seq vs.toArray }/\IntsAre vs ns/\ns.length<=n:=by
 have hsh:WShape.hasAll [] args [.list .int]=true:=(pre_splitW hpre).1;have hc:l.pre.holds [] { args:=args }=true:=(pre_splitW hpre).2;obtain ⟨d,r,rfl,h1,h2⟩:=hasAllW_cons hsh;obtain rfl:=hasAllW_nil h2;obtain ⟨xs,rfl,h3⟩:=hasW_list h1;obtain ⟨ns,rfl⟩:=items_int h3;have hlen:ns.length<=n:=by
  unfold OpenLaw.pre at hc;have h4:(WTm.not (.lt (.lit (.int (n:Int))) (.len (.arg 0)))).holds [] { args:=[.list (ns.map .int)] }=true:=by
   have h4:=(holds_andW hc).1;rw [hn] at h4;exact h4
  have h5:=condW_of h4 (w_not (w_lt w_lit (w_len_list (w_arg rfl))));rw [uk5] at h5;refine Nat.le_of_not_lt λq=>?_;have q':(n:Int) < ((ns.length:Nat):Int):=by lia
  first
   | (rw [um3 q'] at h5;exact absurd h5 (by decide))
   | (simp at h5;lia)
 cases hwl with
 | cons w1 w2=>
   cases w2
   cases w1 with
   | list ho hall=>exact ⟨_,_,ns,rfl,rfl,ho,IV ns _ hall,hlen⟩
theorem Pu (l:OpenLaw)(args:List WData):l.row.toRowW.claim.post args (.bool true) args=true:=
 postW_of (r:=l.row.toRowW) (X:=(true == true))
  (show WShape.has [] (.bool true) .bool=true by first | rfl | decide | simp [WShape.has,WShape.arms,WShape.armsAll])
  (show (WTm.eq .res (.lit (.bool true))).value [] { args:=args,res:=some (.bool true),after:=args }=some (.bool (true == true)) from w_eq_bool (w_res rfl) w_lit) rfl
theorem attach_call {l:OpenLaw}{n:Nat}{q:Program}{loose:List Str}{XP:(Str->Option Value)->Heap->Prop}{YP:World->Heap->Prop}{d:DefRec}
 (hn:l.most=some n) (hdf:d.params.defaults=[])
 (call:∀(w:World) (s₀ s₁:Shared) (mg mb:Str->Option Value) (fa:Addr) (o:Obj) (pm cd doc:Value) (a:Addr) (vs:List Value) (ns:List Int),
   Ground q loose [] XP w s₀ mg mb s₁.heap->YP w s₁.heap->
   s₁.heap.get? fa=some o->o.data = .func (docDef d.name d.params d.body d.scope pm cd doc)->s₁.heap.CodeRec cd d.name->mg d.name=some (.ref fa)->
   s₁.heap.get? a=some { cls:=.type "list",data:=.seq vs.toArray }->IntsAre vs ns->ns.length<=n->s₁.gens=#[]->
   codeAny (model l.prog w) callerA (.call (.ref fa) ⟨[.ref a],[]⟩) (λr s'=>r = .ok (.ret (.bool true))/\OldK s₁.heap s'.heap/\s'.os=s₁.os/\AllBare s'.gens) s₁) :
 WalkO q loose XP YP l.row.toRowW d [] (λf vs=>PySem.call f vs):=by
 intro w s₀ s₁ mg mb G Y fa o pm cd doc dV kV ho hd hcd hD hmg hg args vals as hpre hlay hrd hwl hlo;obtain rfl:dV = .none:=Dflts.none hD hdf;obtain rfl:kV = .none:=Dflts.noKw hD;obtain ⟨a,vs,ns,rfl,rfl,hobj,hints,hlen⟩:=PP hn hpre hwl;refine enter_call (codeAny_mono (call w s₀ s₁ mg mb fa o pm cd doc a vs ns G Y ho (fd_plain hd) hcd hmg hobj hints hlen hg) λr s' hq=>?_);obtain ⟨rfl,h2,h3,h4⟩:=hq;exact ⟨.inl ⟨.bool true,.bool true,[],rfl,λ_=>rfl,.bool true,Pu l _,λ_=>⟨List.Pairwise.nil,λ_ hm=>(nomatch hm)⟩⟩,h2,h3,h4⟩
section
variable {prog:Program}{w:World}{A:Around}{E:Value->Shared->Prop}{s:Shared}{K:Frag}
noncomputable def Z2 (h:Heap)(L d:Addr):List (Addr×Obj):=(List.range h.objs.size).filterMap λa=>if a=L\/a=d then none else (h.get? a).map λo=>(a,o)
end
end Att
namespace L2
open PySem PySem.Spec PyProof.Rows
theorem Kh:∀{vs:List Value} {ns:List Int},IntsAre vs ns->Vals (ns.map V.int) vs
 | _,_,.nil=>.nil
 | _,_,.cons n t h=>.cons ⟨t,rfl⟩ (Kh h)
def Ni (H:Hp):Prop:=∀b,H b=none\/∃o xs,H b=some (.frz o (.lst xs))
variable {k:Nat}{fd:FuncData}{x:Str}
theorem QK {P:Program}{w:World}{K:PySem.W.Frag}{mg mb:Str->Option Value}{CX:CXT}{fa a:Addr}{sp:Sp}{s₁:Shared}{vs:List Value}{ns:List Int}
 (KX:K.In s₁.heap) (hns:s₁.heap.Ns mainGlobals mg) (hb:s₁.heap.Ns builtinsNs mb) (hbb:∀x:Str,x≠"__name__"->mb x=bootBuiltins x) (hlim:s₁.heap.NoLimit) (hg:s₁.gens=#[])
 (ha:s₁.heap.get? a=some { cls:=.type "list",data:=.seq vs.toArray }) (hi:IntsAre vs ns) (hl:ns.length<=sizeLine) (hr:Room k callerA)
 (F:∀base:Heap,K.In base->base.Ns mainGlobals mg->FnOk P w K mg base CX k fa fd [x] sp) (hbind:∀(s:Shared) (u:Value),BindsTo s fd ⟨[u],[]⟩ [(x,u)])
 (hsp:∀H:Hp,Ni H->SqL K H a (ns.map V.int)->sp [.ref a] H (λv _=>v = .bl true) λ_ _ _=>False)
 (hCX:∀H e s',CX [] H s₁ (λ_ _ _=>False) e s'->False) :
 codeAny (model P w) callerA (.call (.ref fa) ⟨[.ref a],[]⟩) (λr s'=>r = .ok (.ret (.bool true))/\OldK s₁.heap s'.heap/\s'.os=s₁.os/\AllBare s'.gens) s₁:=by
 have rv:=Kh hi;have lenV:=hi.length
 -- from an abstract heap in which nothing but the script may be tracked
 have core:∀H:Hp,Ni H->SqL K H a (ns.map V.int)->HOk P w H s₁.heap->(∀b,H b≠none->b=a)->(H a≠none->K.lookup a=none)->
  codeAny (model P w) callerA (.call (.ref fa) ⟨[.ref a],[]⟩) (λr s'=>r = .ok (.ret (.bool true))/\OldK s₁.heap s'.heap/\s'.os=s₁.os/\AllBare s'.gens) s₁:=by
  intro H hO hS hok hA hK;have base_of:∀{b:Addr} {o:Obj},s₁.heap.get? b=some o->H b=none->(Gi s₁.heap H).get? b=some o:=λe n=>QF e n;have noA:∀{b:Addr} {o:Obj} {es:Array DictEntry} {ep:Nat},s₁.heap.get? b=some o->o.data = .dict es ep->H b=none:=λ{b o es ep} e d=>by
   cases q:H b with
   | none=>rfl
   | some u=>
     have e':b=a:=hA b (by rw [q];simp);subst e';rw [ha] at e;cases e
     have d':Data.seq vs.toArray _=Data.dict es ep:=d
     cases d'
  have nsK:∀{b:Addr} {m:Str->Option Value},s₁.heap.Ns b m->(Gi s₁.heap H).Ns b m:=λ{b m} ⟨o,es,ep,e,d,r⟩=>⟨o,es,ep,base_of e (noA e d),d,r⟩;have hKb:K.In (Gi s₁.heap H):=λb o e=>base_of (KX b o e) (by
   cases q:H b with
   | none=>rfl
   | some u=>
     have e':b=a:=hA b (by rw [q];simp);subst e';rw [hK (by rw [q];simp)] at e;cases e)
  have hM:Mod K mg (Gi s₁.heap H):=⟨hKb,nsK hns,⟨mb,nsK hb,hbb⟩,let ⟨mc,h1,h2⟩:=hlim;⟨mc,nsK h1,h2⟩⟩;have e0:Env0 P w K mg (Gi s₁.heap H) callerA [] s₁ H:=⟨rfl,hM,λb o e=>TL e,Nat.le_of_eq (OX _ _),trivial,λb hb=>absurd (show b∈([]:List Addr) from hb) (by simp),hok,.of_eq hg⟩;refine codeAny_mono ((F _ hKb (nsK hns)).run callerA [] s₁ H ⟨[.ref a],[]⟩ [.ref a] [.ref a] _ _ hr e0 (hbind s₁ (.ref a)) (.cons rfl .nil) (hsp H hO hS)) λr s' h=>?_
  cases r with
  | error e=>exact (hCX H e s' h).elim
  | ok fl=>
    cases fl with
    | next=>exact False.elim h
    | brk=>exact False.elim h
    | cont=>exact False.elim h
    | ret u=>
      obtain ⟨v,H',os,bare,un,hok',r',q⟩:=h;have q':v = .bl true:=q;subst q';obtain rfl:u=Value.bool true:=r';refine ⟨rfl,OldK.of_keep λb o e=>?_,os,bare⟩
      cases q:H b with
      | none=>exact un.keep b o e q (by intro z;exact absurd (show b∈([]:List Addr) from z) (by simp)) (by simp)
      | some u=>
        rcases hO b with z | ⟨ob,xs,z⟩
        ·rw [q] at z;cases z
        ·have z2:=un.frzs b ob _ z;obtain ⟨e1,_⟩:=hok b _ z;obtain ⟨e2,_⟩:=hok' b _ z2;rw [e] at e1;cases e1
         exact e2
 cases hk:K.lookup a with
 | some o=>
   -- the script is one of the module's own objects
   have e:=KX a o hk;rw [ha] at e
   cases e
   refine core (λ_=>none) (λ_=>.inl rfl) (.inr ⟨_,vs.toArray,_,hk,rfl,rfl,rfl,by rw [ug7,lenV];exact hl,by simpa using rv⟩) (λb u z=>by have z':(none:Option HO)=some u:=z;cases z') (λb z=>absurd rfl z) λz=>absurd rfl z
 | none=>
   refine core (λb=>if b=a then some (.frz { cls:=.type "list",data:=.seq vs.toArray } (.lst (ns.map V.int))) else none) (λb=>?_) (.inl (.inr ⟨{ cls:=.type "list",data:=.seq vs.toArray },if_pos rfl⟩)) (λb u z=>?_) (λb z=>?_) λ_=>hk
   ·by_cases hb:b=a
    ·exact .inr ⟨_,_,if_pos hb⟩
    ·exact .inl (if_neg hb)
   ·by_cases hb:b=a
    ·have z':=(if_pos hb).symm.trans z
     cases z'
     subst hb;exact ⟨ha,by rw [uk5];exact hl,vs,_,rv,ha⟩
    ·have z':=(if_neg hb).symm.trans z
     cases z'
   ·by_cases hb:b=a
    ·exact hb
    ·exact absurd (if_neg hb) z
theorem UT {l:PySem.W.OpenLaw}{n:Nat}{q:Program}{loose:List Str}{XP:(Str->Option Value)->Heap->Prop}{YP:World->Heap->Prop}{d:DefRec}{K:Params->PySem.W.Frag}{CX:World->CXT}{sp:World->Sp}
 (hn:l.most=some n) (hn2:n<=sizeLine) (hdf:d.params.defaults=[]) (hr:Room k callerA)
 (hY:∀(w:World) (h:Heap),YP w h->(K w.params).In h)
 (F:∀(w:World) (mg:Str->Option Value) (fa:Addr) (h:Heap),(K w.params).In h->h.Ns mainGlobals mg->mg d.name=some (.ref fa)->
   ∃fd:FuncData,(∀(s:Shared) (u:Value),BindsTo s fd ⟨[u],[]⟩ [(x,u)])/\
    ∀base:Heap,(K w.params).In base->base.Ns mainGlobals mg->FnOk l.prog w (K w.params) mg base (CX w) k fa fd [x] (sp w))
 (hsp:∀(w:World) (H:Hp) (a:Addr) (ns:List Int),ns.length<=n->Ni H->SqL (K w.params) H a (ns.map V.int)->sp w [.ref a] H (λv _=>v = .bl true) λ_ _ _=>False)
 (hCX:∀(w:World) (H:Hp) (s:Shared) (e:Value) (s':Shared),CX w [] H s (λ_ _ _=>False) e s'->False) :
 PySem.W.WalkO q loose XP YP l.row.toRowW d [] (λf vs=>PySem.call f vs):=by
 refine Att.attach_call hn hdf λw s₀ s₁ mg mb fa o pm cd doc a vs ns G Y ho hd hcd hmg hobj hints hlen hg=>?_;have KX:=hY w _ Y;obtain ⟨fd,hb,hF⟩:=F w mg fa _ KX G.T.g hmg;exact QK KX G.T.g G.T.b G.T.builtins G.T.nolimit hg hobj hints (un6 hlen hn2) hr hF hb (λH hO hS=>hsp w H a ns hlen hO hS) λH e s'=>hCX w H s₁ e s'
noncomputable def FL (s:Stmt):Arguments:=match s with
 | .FunctionDef _ a _ _ _ _ _ _ _ _=>a
 | _=>{ posonlyargs:=[],args:=[],vararg:=none,kwonlyargs:=[],kw_defaults:=[],kwarg:=none,defaults:=[] }
noncomputable def Cv (s:Stmt):List Stmt:=match s with
 | .FunctionDef _ _ b _ _ _ _ _ _ _=>b
 | _=>[]
noncomputable def Az (s:Stmt):Scope:=match s with
 | .FunctionDef _ _ _ _ _ _ sc _ _ _=>sc
 | _=>{ kind:=.function,names:=[],isGenerator:=false,isCoroutine:=false }
abbrev CX0:CXT:=λ_ _ _ _ _ _=>False
abbrev E0:XK:=λ_ _ _=>False
theorem Si {X:Cx}:KP CX0 X E0:=λ_ _ _ _ _ _ _ h=>h.elim
structure Fun (K:PySem.W.Frag)(x qual:Str)(st:Stmt)(f:Addr)(fd:FuncData):Prop where
 ex:∃(oc:Value) (od:Option Addr) (kV doc pm:Value) (an:Option Addr) (cdv ct:Value) (osl:Array (Option Value)),
  fd=PySem.W.fnOf x qual (FL st) (Cv st) (Az st) .none kV doc pm an cdv ct/\K.lookup f=some ⟨oc,od,.func fd,osl⟩/\codeIn K cdv qual=true
 kp:PySem.W.keepIn K (.ref f)=true
variable {qual:Str}{f:Addr}
section
variable {P:Program}{w:World}{K:PySem.W.Frag}{mg:Str->Option Value}{base:Heap}
theorem Fun.ok {st:Stmt}{N ps:List Str}{sp:Sp}(F:Fun K x qual st f fd)(S:FnScope N ps (Az st))(len:∀vs H Q E,sp vs H Q E->vs.length=ps.length)
 (hbody:∀(cdv:Value) (A:Around) (outer:List Env) (s:Shared) (H:Hp) (vs:List V) (Q:VK) (E:XK),Room k (A.deeper (envOfC qual (Az st) s.heap.objs.size f cdv))->sp vs H Q E->
   ∃t,PSs (D3 CX0 P w K mg base N qual (Az st) f cdv A outer s H E).nox (Cv st) t/\t { nx:=λ_ H'=>Q .non H',rt:=Q } (Dt N vs) H):FnOk P w K mg base CX0 (k + 1) f fd ps sp:=by
 obtain ⟨oc,od,kV,doc,pm,an,cdv,ct,osl,rfl,lk,hcd⟩:=F.ex;refine Se lk hcd S len λA outer s H vs Q E hr hsp=>?_;obtain ⟨t,h,q⟩:=hbody cdv A outer s H vs Q E hr hsp;exact ⟨t,h.nox,q⟩
theorem Fun.binds {st:Stmt}{ps:List Str}(F:Fun K x qual st f fd)
 (h:∀(kV doc pm:Value) (an:Option Addr) (cdv ct:Value) (us:List Value),us.length=ps.length->bindArgs (PySem.W.fnOf x qual (FL st) (Cv st) (Az st) .none kV doc pm an cdv ct) ⟨us,[]⟩=pure (ps.zip us)):Binds K fd ps []:=by
 obtain ⟨oc,od,kV,doc,pm,an,cdv,ct,osl,rfl,lk,hcd⟩:=F.ex;exact .all (h kV doc pm an cdv ct)
theorem OW {st:Stmt}{oc:Value}{od an:Option Addr}{osl:Array (Option Value)}{kV doc pm cdv ct:Value}(l:K.lookup f=some ⟨oc,od,.func (PySem.W.fnOf x qual (FL st) (Cv st) (Az st) .none kV doc pm an cdv ct),osl⟩)
 (c:codeIn K cdv qual=true) (k:PySem.W.keepIn K (.ref f)=true):Fun K x qual st f (PySem.W.fnOf x qual (FL st) (Cv st) (Az st) .none kV doc pm an cdv ct):=⟨⟨oc,od,kV,doc,pm,an,cdv,ct,osl,rfl,l,c⟩,k⟩
end
section
variable {X:Cx}
end
def ag (H H':Hp):Prop:=∀b o,H b=some o->H' b=some o
section
variable {κ:Type}[DecidableEq κ]
noncomputable def RM (kvs:List (κ×V))(k:κ):Option V:=(kvs.find? λkv=>decide (kv.1=k)).map (·.2)
noncomputable def WA (kvs:List (κ×V))(k:κ)(v:V):List (κ×V):=
 if (kvs.any λkv=>decide (kv.1=k))=true then kvs.map (λkv=>if kv.1=k then (kv.1,v) else kv) else kvs++[(k,v)]
end
abbrev KT (H:Hp):List (List Key×V)->List (List Key×Addr×Value)->Prop:=Paired λp q=>p.1=q.1/\H q.2.1=some (.tup (p.1.map kV))/\RelV p.2 q.2.2
section
variable {P:Program}{w:World}{H:Hp}{h:Heap}{a:Addr}
end
def aa (H:Hp)(a:Addr)(y:V)(r:Option V):Prop:=
 (∃kvs k,Rd H a (.dK kvs)/\y=kV k/\r=RM kvs k)\/∃kvs k b,Rd H a (.dT kvs)/\y = .ref b/\H b=some (.tup (k.map kV))/\r=RM kvs k
def ae (H:Hp)(a:Addr)(y v:V)(H':Hp):Prop:=
 (∃kvs k,H a=some (.dK kvs)/\y=kV k/\kvs.length < sizeLine/\H'=upd H a (.dK (WA kvs k v)))\/
 ∃kvs k b,H a=some (.dT kvs)/\y = .ref b/\H b=some (.tup (k.map kV))/\kvs.length < sizeLine/\H'=upd H a (.dT (WA kvs k v))
section
variable {X:Cx}{pins:List (Addr×Obj)}{σ:St}{H:Hp}{s:Shared}{a:Addr}{y v:V}{u r:Value}{o:Option V}{A:Around}{E:Value->Shared->Prop}
end
section
variable {X:Cx}{pins:List (Addr×Obj)}{σ:St}{H:Hp}{s:Shared}{a:Addr}{kvs:List (Key×V)}{k:Key}{u:Value}{A:Around}{E:Value->Shared->Prop}
end
section
variable {X:Cx}{o i e value:Expr}{pos pos' tpos:Pos}{td ty tv:TE}
end
section
variable {X:Cx}{pos:Pos}
end
theorem EY {env:Env}:∀(l:List (Str×NameKind)) (cs:List (Str×Addr)),(∀x c,cs.lookup x=some c->env.cells.lookup x=some c)->(∀y∈l,y.2 = .free->∃c,env.cells.lookup y.1=some c)->
 ∃cl,(forIn l cs λ(x:Str×NameKind) r=>(match x with | (name,kind)=>if (kind == NameKind.free)=true then do let c <-cellOf env name;pure (ForInStep.yield ((name,c) :: r)) else pure (ForInStep.yield r):Sem (ForInStep (List (Str×Addr)))))=pure cl/\
  (∀x c,cl.lookup x=some c->env.cells.lookup x=some c)/\(∀x c,cs.lookup x=some c->∃c',cl.lookup x=some c')/\∀y∈l,y.2 = .free->∃c,cl.lookup y.1=some c
 | [],cs,h,_=>⟨cs,rfl,h,λ_ c e=>⟨c,e⟩,λ_ z=>nomatch z⟩
 | (n,k) :: l,cs,h,hf=>by
   by_cases hk:k = .free
   ·subst hk;obtain ⟨c,hc⟩:=hf (n,.free) uf6 rfl;have hc':env.cells.lookup n=some c:=hc;have e:cellOf env n=pure c:=by unfold cellOf;rw [hc']
    obtain ⟨cl,e1,e2,e3,e4⟩:=EY l ((n,c) :: cs) (λx c' q=>by
     rw [ui3] at q
     by_cases hx:(x == n)=true
     ·rw [hx] at q;cases q;rw [eq_of_beq hx];exact hc'
     ·rw [uh1.mpr hx] at q;exact h x c' q) (λy hy=>hf y (ud6 _ hy))
    have self:((n,c) :: cs).lookup n=some c:=by rw [ui3,uj7]
    refine ⟨cl,?_,e2,λx c' q=>?_,λy hy hyf=>?_⟩
    ·rw [uk8];simp only [uj7,if_true,e];exact e1
    ·by_cases hx:(x == n)=true
     ·rw [eq_of_beq hx];exact e3 n c self
     ·exact e3 x c' (by rw [ui3,uh1.mpr hx];exact q)
    ·rcases um5.mp hy with z | z
     ·subst z;exact e3 n c self
     ·exact e4 y z hyf
   ·have hb:(k == NameKind.free)=false:=by simpa using hk
    obtain ⟨cl,e1,e2,e3,e4⟩:=EY l cs h (λy hy=>hf y (ud6 _ hy));refine ⟨cl,?_,e2,e3,λy hy hyf=>?_⟩
    ·rw [uk8];simp only [hb,ug1,if_false];exact e1
    ·rcases um5.mp hy with z | z
     ·subst z;exact absurd hyf hk
     ·exact e4 y z hyf
theorem IN {scope:Scope}{env:Env}(h:∀y∈scope.names,y.2 = .free->∃c,env.cells.lookup y.1=some c) :
 ∃cl,closureFor scope env=pure cl/\(∀x c,cl.lookup x=some c->env.cells.lookup x=some c)/\∀y∈scope.names,y.2 = .free->∃c,cl.lookup y.1=some c:=by
 obtain ⟨cl,e1,e2,_,e4⟩:=EY (env:=env) scope.names [] (λ_ _ q=>nomatch q) h;refine ⟨cl,?_,e2,e4⟩;simp only [closureFor]
 first | (rw [e1];rfl) | (simp only [e1];rfl) | (trace_state;exact e1)
theorem Lh {prog:Program}{w:World}{A:Around}{R:Result->Shared->Prop}{s:Shared}{elt target iter:Expr}{ifs:List Expr}{scope:Scope}{pos:Pos}{it acc:Value}{env:Env}(I:Nat->Shared->Prop)
 (turn:∀n s,I n s->wpAny (model prog w) A (pyNext it) (λr s₁=>match r with
   | none=>R (.ok .next) s₁
   | some v=>wpAny (model prog w) A (letOwnedTupleGo target it v) (λ_ s₁'=>wpAny (model prog w) A (assign target env v) (λ_ s₂=>
      wpAny (model prog w) A (forIn ifs true λc r=>if r=true then do let ok <-isTrue c env (eval c env);pure (ForInStep.yield ok) else pure (ForInStep.yield r)) (λok s₃=>
       if ok=true then wpAny (model prog w) A (eval elt env) (λx s₄=>
        wpAny (model prog w) A (call (.builtin "list.append") [acc,x]) (λ_ s₅=>∃m,m < n/\I m s₅) (λ_ _=>False) s₄) (λ_ _=>False) s₃
       else ∃m,m < n/\I m s₃) (λ_ _=>False) s₂) (λ_ _=>False) s₁') (λ_ _=>False) s₁) (λ_ _=>False) s)
 (n:Nat) (h:I n s) :
 codeAny (model prog w) A (.compLoop (.ListComp elt [⟨target,iter,ifs,0⟩] scope pos) 0 it acc env) R s:=by
 refine codeAny_loop rfl I (λn s hI=>?_) n h;show wpAny _ A ((compTurn (.ListComp elt [⟨target,iter,ifs,0⟩] scope pos) 0 it acc env).onRaise (λx=>do noteFrame x env;theTreesLotGoes x)) _ _ s;refine wpAny_noted ?_;rw [compTurn_list];refine up8 (wpAny_standAt (up8 (uq0 (turn n s hI) (λr s₁ h₁=>?_) λ_ _ h'=>h'.elim)))
 cases r with
 | none=>exact up9 h₁
 | some v=>
   refine up8 (uq0 h₁ (λ_ s₁' h₁'=>?_) λ_ _ h'=>h'.elim);refine up8 (uq0 h₁' (λ_ s₂ h₂=>up8 (uq0 h₂ (λok s₃ h₃=>?_) λ_ _ h'=>h'.elim)) λ_ _ h'=>h'.elim)
   cases ok with
   | false=>exact up9 ⟨rfl,h₃⟩
   | true=>
     exact up8 (up8 (uq0 h₃ (λx s₄ h₄=>up8 (uq0 h₄ (λ_ s₅ h₅=>up9 (up9 ⟨rfl,h₅⟩)) λ_ _ h'=>h'.elim)) λ_ _ h'=>h'.elim))
end L2
set_option maxHeartbeats 2000000
namespace L2
open PySem PySem.Spec PyProof.Rows
noncomputable def Bc (X:Cx)(N':List Str)(scope:Scope)(cl:List (Str×Addr))(C:Addr)(s2:Shared)(H2:Hp)(fp:List Addr):Cx where
 prog:=X.prog
 w:=X.w
 K:=X.K
 mg:=X.mg
 base:=X.base
 A:=X.A
 N:=N'
 s₀:=s2
 H₀:=H2
 env:=compEnvC scope cl C X.env
 outer:=X.stack
 stack:=X.stack
 ex:=fp
 fn:=λ_=>false
 calm:=X.calm
 pn:=[]
 xe:=λ_ _=>False
theorem HL (h:Str->NameKind->NameKind)(x:Str):∀l:List (Str×NameKind),(l.map λp=>(p.1,h p.1 p.2)).lookup x=(l.lookup x).map (h x)
 | []=>rfl
 | (n,k) :: l=>by
   show List.lookup x ((n,h n k) :: _)=_;rw [ui3,ui3]
   by_cases hx:(x == n)=true
   ·rw [hx,eq_of_beq hx];rfl
   ·rw [uh1.mpr hx];exact HL h x l
theorem FW (scope:Scope)(env:Env)(x:Str):(relabel scope env).names.lookup x=(scope.names.lookup x).map λk=>if (k == .free && env.scope.kind == .function && env.kindOf x == some .cell)=true then .cell else k:=by
 rw [<-HL (λn k=>if (k == NameKind.free && env.scope.kind == .function && env.kindOf n == some .cell)=true then .cell else k) x scope.names];unfold relabel;dsimp only
 congr 1
 apply ue9;intro p _;obtain ⟨n,k⟩:=p;dsimp only
 split <;> rfl
theorem Cz {x:Str}{k:NameKind}:∀{l:List (Str×NameKind)},l.lookup x=some k->(x,k)∈l
 | (n,k') :: l,h=>by
   rw [ui3] at h
   by_cases hx:(x == n)=true
   ·rw [hx] at h;cases h;rw [eq_of_beq hx];exact uf6
   ·rw [uh1.mpr hx] at h;exact ud6 _ (Cz h)
theorem LX {scope:Scope}{env:Env}{x:Str}(hcell:∀y∈scope.names,y.2≠.cell)(h:(relabel scope env).names.lookup x=some .cell\/(relabel scope env).names.lookup x=some .free):scope.names.lookup x=some .free:=by
 rw [FW] at h
 cases e:scope.names.lookup x with
 | none=>rw [e] at h;rcases h with h | h <;> cases h
 | some k=>
   by_cases hk:k = .free
   ·rw [hk]
   ·have hb:(k == NameKind.free)=false:=by simpa using hk
    rw [e] at h;simp only [uk9,hb,ul8,ug1,if_false] at h;rcases h with h | h
    ·cases h;exact absurd rfl (hcell _ (Cz e))
    ·cases h;exact absurd rfl hk
def PIf (X:Cx)(ifs:List Expr)(t:TT):Prop:=
 ∀(pins:List (Addr×Obj)) (s:Shared) (σ:St) (H:Hp) (Q:Bool->Hp->Prop),Inv X pins σ H s->t σ H Q->
  wpAny (model X.prog X.w) X.A (forIn ifs true λc r=>if r=true then do let ok <-isTrue c X.env (eval c X.env);pure (ForInStep.yield ok) else pure (ForInStep.yield r)) (TP X pins σ Q) X.xe s
def XU:TT:=λ_ H Q=>Q true H
theorem T2 {X:Cx}:PIf X [] XU:=λ_ _ _ H _ I h=>wpAny_tests_nil ⟨H,I,h⟩
theorem T3 {X:Cx}{c:Expr}{t:TT}(h:PT X c t):PIf X [c] t:=λpins s σ H Q I q=>wpAny_tests_one (h pins s σ H Q I q)
def PX (J:It)(g:TG)(tt:TT)(te:TE)(σ₀:St)(H1:Hp)(Fin:List V->Hp->Prop):Prop:=
 ∃W:Nat->Nat->List V->St->Hp->Prop,(∃m,W 0 m [] σ₀ H1)/\∀i m acc σ' H',W i m acc σ' H'->acc.length<=sizeLine/\
  ((J.stop i H'/\Fin acc H')\/
    (J.go i H'/\∀x H2,J.yld i H' x H2->g x σ' H2 λσ3 H3=>tt σ3 H3 λb H4=>if b=true then te σ3 H4 λv H5=>∃m',m' < m/\W (i + 1) m' (acc++[v]) σ3 H5 else ∃m',m' < m/\W (i + 1) m' acc σ3 H4))
def Je (wi:TI)(g:TG)(tt:TT)(te:TE)(σf:St->St):TE:=λσ H Q=>wi σ H λJ H1=>PX J g tt te (σf σ) H1 λacc H'=>∀p,H' p=none->acc.length<=sizeLine->Q (.ref p) (upd H' p (.lst acc))
structure CmpOk (X:Cx)(scope:Scope)(N':List Str)(σf:St->St):Prop where
 kind:scope.kind = .function
 cell:∀y∈scope.names,y.2≠.cell
 loc:∀y∈scope.names,y.2 = .local->scope.names.lookup y.1=some .local
 free:∀y∈scope.names,y.2 = .free->X.env.kindOf y.1=some .cell\/X.env.kindOf y.1=some .free
 len:∀σ:St,σ.length=X.N.length->(σf σ).length=N'.length
 vals:∀(σ:St) (j:Nat) (x:Str) (v:V),N'[j]?=some x->(σf σ)[j]?=some (some v)->∃i:Nat,X.N[i]?=some x/\σ[i]?=some (some v)/\scope.names.lookup x=some .free
variable {pins:List (Addr×Obj)}{σ:St}{H2:Hp}{s2:Shared}{cl:List (Str×Addr)}{fp:List Addr}
section
variable {X:Cx}{tg elt iter:Expr}{ifs:List Expr}{scope:Scope}{pos:Pos}{N':List Str}{wi:TI}{g:TG}{tt:TT}{te:TE}{σf:St->St}
theorem Vg {C:Addr}(O:CmpOk X scope N' σf)(I2:Inv X pins σ H2 s2)(f2:∀b∈fp,FpOk X pins H2 b)(hC:s2.heap.objs.size<=C)
 (hlt:∀b∈fp,b < s2.heap.objs.size) (e2:∀x c,cl.lookup x=some c->X.env.cells.lookup x=some c) (e4:∀y∈scope.names,y.2 = .free->∃c,cl.lookup y.1=some c):(Bc X N' scope cl C s2 H2 fp).Ok where
 mod:=I2.ok.mod
 kind:=O.kind
 glob:=I2.ok.glob
 blt:=I2.ok.blt
 above:=hC
 inj:=λx y c h1 h2=>I2.ok.inj x y c (e2 x c h1) (e2 y c h2)
 has:=λx h=>by
  have q:=LX (env:=X.env) (x:=x) O.cell h;exact e4 _ (Cz q) rfl
 cab:=λx c h _=>nomatch h
 hd:=I2.ok.hd
 frames:=I2.ok.frames
 stk:=.inl rfl
 exf:=λb hb=>⟨un5 (uf5 (hlt b hb) hC),λx c e=>(f2 b hb).2.2.2.2.1 x c (e2 x c e)⟩
 bs:=I2.bs
 bsz:=un6 I2.ok.bsz I2.sz
 noex:=λb o e hb=>by
  rcases (f2 b hb).2.2.2.1 with z | z
  ·exact I2.ok.noex b o e z
  ·exact absurd (uf5 (un4 (I2.ok.bs b o e).1) z) (um4 _)
 exfs:=λb hb z=>by
  rcases um5.mp (I2.stkSub b z) with q | q
  ·exact (f2 b hb).2.1 q
  ·exact (f2 b hb).2.2.1 q
 funs:=I2.stack
 frf:=I2.stkFree
theorem WY (I2:Inv X pins σ H2 s2){a:Addr}(h:s2.heap.objs.size<=a):a∉frs X.stack:=λhb=>by
 rcases um5.mp (I2.stkSub a hb) with q | q
 ·exact absurd (uf5 I2.lt h) (by rw [q];exact um4 _)
 ·exact I2.nofs h q
theorem K2 {it:Addr}{tn:Nat->Heap->Prop}{J:It}{Fin:List V->Hp->Prop}{RR:Value->Addr->Result->Shared->Prop}{E:Value->Shared->Prop}(O:CmpOk X scope N' σf)(hc:X.calm=true)
 (I2:Inv X pins σ H2 s2) (T:Turn X.prog X.w X.K tg J fp it tn) (st2:tn 0 s2.heap) (f2:∀b∈fp,FpOk X pins H2 b)
 (e2:∀x c,cl.lookup x=some c->X.env.cells.lookup x=some c) (e4:∀y∈scope.names,y.2 = .free->∃c,cl.lookup y.1=some c)
 (hg:∀C,PG (Bc X N' scope cl C s2 H2 fp) tg g) (ht:∀C,PIf (Bc X N' scope cl C s2 H2 fp) ifs tt) (he:∀C,PE (Bc X N' scope cl C s2 H2 fp) elt te)
 (B:PX J g tt te (σf σ) H2 Fin)
 (fin:∀C s' σ' H' acc m,s2.heap.objs.size<=C->C≠s2.heap.objs.size->Inv (Bc X N' scope cl C s2 H2 fp) [] σ' H' s'->H' s2.heap.objs.size=none->acc.length<=sizeLine->(∃its n,Vals acc its/\s'.heap.get? s2.heap.objs.size=some { cls:=.type "list",data:=.seq its.toArray n })->Fin acc H'->s'.heap.Ns C m->
   RR (.ref s2.heap.objs.size) C (.ok .next) s') :
 wpAny (model X.prog X.w) X.A (newList []) (λacc s₃=>wpAny (model X.prog X.w) X.A (newFunctionEnv scope X.env.globals cl [] X.env.qual none .none (some X.env)) (λcenv s₄=>
  codeAny (model X.prog X.w) X.A (.compStart (.ListComp elt [⟨tg,iter,ifs,0⟩] scope pos) 0 (.ref it) acc { cenv with scope:=relabel scope X.env }) (RR acc cenv.locals) s₄) E s₃) E s2:=by
 refine wpAny_newObj_type (wpAny_newFunctionEnv O.cell (by intro y hy;simp at hy) (λh₁ hns₁ hsb₁=>?_) O.kind);dsimp only at hns₁ hsb₁ ⊢;generalize hH2:s2.heap.push { cls:=.type "list",dict:=none,data:=.seq ([]:List Value).toArray }=HP at hns₁ hsb₁ ⊢;have hC:HP.objs.size=s2.heap.objs.size + 1:=by rw [<-hH2,um0]
 generalize hDD:s2.heap.objs.size=DD at *;generalize hCC:HP.objs.size=CC at *;have hDC:DD≠CC:=by rw [hC];exact un5 (ui4 _)
 have hCle:s2.heap.objs.size<=CC:=by rw [hC,hDD];exact up4 _
 have hlt:∀b∈fp,b < s2.heap.objs.size:=λb hb=>by obtain ⟨o,e,_⟩:=T.obj _ _ st2 b hb;exact un4 e
 have hlt':∀b∈fp,b < DD:=λb hb=>by rw [<-hDD];exact hlt b hb
 have below:∀b,b < DD->b≠CC/\b≠DD:=λb hb=>⟨by rw [hC];exact un5 (uh2 hb),un5 hb⟩;have old:∀b o,s2.heap.get? b=some o->h₁.get? b=some o:=λb o e=>hsb₁.extBut b o (below b (by rw [<-hDD];exact un4 e)).1 (ub9 _ (hH2 ▸ ub9 _ e));have hacc:h₁.get? DD=some { cls:=.type "list",data:=.seq ([]:List Value).toArray }:=by
  refine hsb₁.extBut _ _ hDC (ub9 _ ?_);rw [<-hH2,<-hDD];exact ue7 _ rfl
 have ok:=Vg (cl:=cl) (C:=CC) O I2 f2 hCle hlt e2 e4;have hfs:DD∉frs X.stack:=WY I2 (by rw [hDD];exact up3 _);obtain ⟨W,⟨m0,w0⟩,turn⟩:=B
 let X':Cx:=Bc X N' scope cl CC s2 H2 fp
 have I0:Inv X' [] (σf σ) H2 { s2 with heap:=h₁,toks:=s2.toks + ([]:List (Str×Value)).length }:=by
  refine ⟨ok,rfl,I2.bare,Un.kept old,⟨_,hns₁,λj x v q1 q2 q3=>?_⟩,λx c e=>?_,I2.hok.fresh hCle,λx c e=>I2.freeC x c (e2 x c e),(λp hp=>nomatch hp),I2.hok.kept old,O.len σ I2.len⟩
  ·obtain ⟨i,n1,n2,n3⟩:=O.vals σ j x v q1 q2;obtain ⟨m,_,hl⟩:=I2.loc;have hfr:=O.free _ (Cz n3) rfl;obtain ⟨u,r,l⟩:=hl i x v n1 n2 (.inr hfr);refine ⟨u,r,?_⟩;rcases l with ⟨k,_⟩ | ⟨_,c,ec,hcell⟩
   ·rcases hfr with z | z <;> (have z':=k.symm.trans z;cases z')
   ·obtain ⟨c',ec'⟩:=e4 _ (Cz n3) rfl;have z:=e2 _ _ ec';have ez:X.env.cells.lookup x=some c':=z;rw [ec] at ez
    cases ez
    refine .inr ⟨?_,c,ec',?_⟩
    ·show (relabel scope X.env).names.lookup x=some .cell\/(relabel scope X.env).names.lookup x=some .free;rw [FW,n3];simp only [uk9]
     split
     ·exact .inl rfl
     ·exact .inr rfl
    ·obtain ⟨o,ho,hd⟩:=hcell;exact ⟨o,old _ _ ho,hd⟩
  ·obtain ⟨v,o,ho,hd⟩:=I2.cell x c (e2 x c e);exact ⟨v,o,old _ _ ho,hd⟩
 have loop:∀s₃:Shared,s₃ = { s2 with heap:=h₁,toks:=s2.toks + ([]:List (Str×Value)).length }->
  codeAny (model X.prog X.w) X.A (.compLoop (.ListComp elt [⟨tg,iter,ifs,0⟩] scope pos) 0 (.ref it) (.ref DD) (compEnvC scope cl CC X.env)) (RR (.ref DD) CC) s₃:=by
  rintro s₃ rfl;refine Lh (λn s'=>∃i acc its nn σ' H',Inv X' [] σ' H' s'/\tn i s'.heap/\(∀b∈fp,H' b=none)/\Vals acc its/\s'.heap.get? DD=some { cls:=.type "list",data:=.seq its.toArray nn }/\H' DD=none/\W i n acc σ' H') ?_ m0
   ⟨0,[],[],0,σf σ,H2,I0,T.keep _ _ _ st2 (λb _ o e=>old b o e),λb hb=>(f2 b hb).1,.nil,hacc,I2.hok.fresh (by rw [hDD];exact up3 _),w0⟩
  rintro n s' ⟨i,acc,its,nn,σ3,H3,I3,st3,fr3,hv,hD,hDn,w3⟩;have I3p:Inv X' [(DD,({ cls:=.type "list",data:=.seq its.toArray nn }:Obj))] σ3 H3 s':=I3.pins_of λp hp=>by
   have e:p=(DD,({ cls:=.type "list",data:=.seq its.toArray nn }:Obj)):=by simpa using hp
   subst e;exact ⟨hD,hDn,hDC,hfs,λv z=>nomatch z⟩
  have stat:∀{pins':List (Addr×Obj)} {H':Hp},(∀p∈pins',p.1=DD)->(∀b∈fp,H' b=none)->∀b∈fp,FpOk X' pins' H' b:=λ{pins' H'} hp hn b hb=>
   ⟨hn b hb,(ok.exf b hb).1,ok.exfs b hb,.inl hb,(ok.exf b hb).2,λp hp' z=>by
    have e:p.1=DD:=hp p (by simpa [X',Bc] using hp');exact absurd (hlt' b hb) (by rw [<-z,e];exact um4 _)⟩
  have one:∀p∈[(DD,({ cls:=.type "list",data:=.seq its.toArray nn }:Obj))],p.1=DD:=λp hp=>by
   have e:p=(DD,({ cls:=.type "list",data:=.seq its.toArray nn }:Obj)):=by simpa using hp
   rw [e]
  obtain ⟨hz,tr⟩:=turn i n acc σ3 H3 w3;rcases tr with ⟨stop,qf⟩ | ⟨go,step⟩
  ·refine thn (T.done X' rfl rfl rfl hc i _ s' σ3 H3 (λ_ _=>False) I3p (stat one fr3) st3 stop) λr s4 z9=>?_;obtain ⟨hr,I4⟩:=z9;subst hr;obtain ⟨m4,hm4,_⟩:=I4.loc;have pD:=(I4.pin (DD,({ cls:=.type "list",data:=.seq its.toArray nn }:Obj)) (by simp [X',Bc])).1;have I4':Inv X' [] σ3 H3 s4:=I4.pins_of λp hp=>nomatch hp;exact fin CC s4 σ3 H3 acc m4 (by rw [hDD] at hCle;exact hCle) (Ne.symm hDC) I4' hDn hz ⟨its,nn,hv,pD⟩ qf hm4
  ·refine thn (T.item X' rfl rfl rfl hc i _ s' σ3 H3 (λ_ _=>False) I3p (stat one fr3) st3 go) λr s4 z9=>?_;obtain ⟨u,hr,h4⟩:=z9;subst hr;refine thn h4 λ_ s5 z9=>?_;obtain ⟨x,H5,I5,r5,y5,st5,fr5⟩:=z9;have I5':=I5.pinned (stat one fr5) (T.obj _ _ st5);refine thn (hg CC _ s5 σ3 H5 x u _ I5' r5 (step x H5 y5)) λ_ s6 z9=>?_;obtain ⟨σ6,H6,I6,q6⟩:=z9;refine thn (ht CC _ s6 σ6 H6 _ I6 q6) λb s7 z9=>?_;obtain ⟨H7,I7,q7⟩:=z9;have back:∀{H8:Hp} {s8:Shared},Inv X' ([(DD,({ cls:=.type "list",data:=.seq its.toArray nn }:Obj))]++G9 fp s5.heap) σ6 H8 s8->
    s8.heap.get? DD=some { cls:=.type "list",data:=.seq its.toArray nn }/\H8 DD=none/\tn (i + 1) s8.heap/\(∀b∈fp,H8 b=none)/\Inv X' [] σ6 H8 s8:=λ{H8 s8} I8=>by
    have p1:=I8.pin (DD,({ cls:=.type "list",data:=.seq its.toArray nn }:Obj)) (by simp [X',Bc]);refine ⟨p1.1,p1.2.1,T.keep _ _ _ st5 λb hb o e=>(I8.pin (b,o) (uc8 _ (uc8 _ (EQ hb e)))).1,λb hb=>?_,I8.pins_of λp hp=>nomatch hp⟩;obtain ⟨o,e,_⟩:=T.obj _ _ st5 b hb;exact (I8.pin (b,o) (uc8 _ (uc8 _ (EQ hb e)))).2.1
   cases b with
   | false=>
     rw [if_neg uf7] at q7 ⊢;obtain ⟨m',hm,w7⟩:=q7;obtain ⟨a1,a2,a3,a4,a5⟩:=back I7;exact ⟨m',hm,i + 1,acc,its,nn,σ6,H7,a5,a3,a4,hv,a1,a2,w7⟩
   | true=>
     rw [if_pos rfl] at q7 ⊢;refine thn (he CC _ s7 σ6 H7 _ I7 q7) λy s8 z9=>?_;obtain ⟨v8,H8,I8,r8,m',hm,w8⟩:=z9;obtain ⟨a1,a2,a3,a4,a5⟩:=back I8;have hsz:its.toArray.size<=sizeLine:=by
      have e:=hv.length;simpa [e] using hz
     refine wpAny_list_append_plain (hsz:=hsz) ⟨nn,a1⟩ λh9 hl9 hs9=>?_;obtain ⟨n9,e9⟩:=hl9;have e9':h9.get? DD=some { cls:=.type "list",data:=.seq (its++[y]).toArray n9 }:=by simpa using e9
     refine ⟨m',hm,i + 1,acc++[v8],its++[y],n9,σ6,H8,a5.turned (t':=s8.toks) (h':=h9) (it:=DD) (λb o hb e=>hs9.extBut b o hb e) a2 hDC (.inr (show s2.heap.objs.size<=DD by rw [hDD];exact up3 _)) (λx' c e z=>?_) (λp hp=>nomatch hp),T.keep _ _ _ a3 λb hb o e=>hs9.extBut b o (un5 (hlt' b hb)) e,a4,hv.append (.cons r8 .nil),e9',a2,w8⟩;obtain ⟨v,o,ho,hd⟩:=I2.cell x' c (e2 x' c e);have:=un4 ho;rw [hDD,z] at this;exact um4 _ this
 exact codeAny_compStart_list (loop _ rfl) (T.self _ 0 _ _ _ (T.keep _ _ _ st2 λb _ o e=>old b o e) (loop _ rfl))
end
section
variable {X:Cx}{tg elt iter:Expr}{ifs:List Expr}{scope:Scope}{pos:Pos}{N':List Str}{wi:TI}{g:TG}{tt:TT}{te:TE}{σf:St->St}
theorem JX {σ':St}{H':Hp}{s':Shared}{C:Addr}{acc:List V}{its:List Value}{n:Nat}{h':Heap}(I2:Inv X pins σ H2 s2)(f2:∀b∈fp,FpOk X pins H2 b)
 (hC:s2.heap.objs.size<=C) (hCD:C≠s2.heap.objs.size) (I':Inv (Bc X N' scope cl C s2 H2 fp) [] σ' H' s') (hDn:H' s2.heap.objs.size=none) (hz:acc.length<=sizeLine) (hv:Vals acc its)
 (hD:s'.heap.get? s2.heap.objs.size=some { cls:=.type "list",data:=.seq its.toArray n }) (hs:Heap.SameBut C s'.heap h') :
 Inv X pins σ (upd H' s2.heap.objs.size (.lst acc)) { s' with heap:=h' }:=by
 have U:=I'.base;have lt:∀b o,s2.heap.get? b=some o->b≠C/\b≠s2.heap.objs.size:=λb o e=>⟨un5 (uf5 (un4 e) hC),un5 (un4 e)⟩;have neD:∀b u,H' b=some u->b≠s2.heap.objs.size:=λb u e=>Ay e hDn;have neC:∀b u,H' b=some u->b≠C:=λb u e=>Ay e I'.free;refine I2.call' (s':={ s' with heap:=h' }) (ch:=fp) I'.os ⟨λb o e n hb hx=>?_,λb o e n hb hx=>?_,λb o e n hx=>?_,λb o e hx=>?_,λb xs e=>?_,λb o u e=>?_,λb ps e=>?_⟩ ?_ I'.bare λb hb=>⟨(f2 b hb).2.2.2.1,(f2 b hb).2.1,(f2 b hb).2.2.2.2.1,(f2 b hb).2.2.2.2.2⟩
 ·exact hs.extBut b o (lt b o e).1 (U.keep b o e n hb hx)
 ·obtain ⟨sl,q⟩:=U.slot b o e n hb hx;exact ⟨sl,hs.extBut b _ (lt b o e).1 q⟩
 ·rw [As (lt b o e).2];exact U.free b o e n hx
 ·obtain ⟨o',q⟩:=U.there b o e hx;exact ⟨o',hs.extBut b _ (lt b o e).1 q⟩
 ·have q:=U.tups b xs e;rw [As (neD b _ q)];exact q
 ·have q:=U.frzs b o u e;rw [As (neD b _ q)];exact q
 ·obtain ⟨m,q⟩:=U.tbls b ps e;exact ⟨m,by rw [As (neD b _ q)];exact q⟩
 ·intro b u e
  by_cases hb:b=s2.heap.objs.size
  ·subst hb;rw [AD] at e
   cases e
   exact ⟨hz,its,n,hv,hs.extBut _ _ (Ne.symm hCD) hD⟩
  ·rw [As hb] at e;refine (I'.hok b u e).stay (λc v hc q=>hs.extBut c v ?_ q) (λc q=>by rw [As (neD c _ q)];exact q) λc xs q=>by rw [As (neD c _ q)];exact q
   rcases hc with z | z
   ·rw [z];exact neC b u e
   ·exact neC c _ z
theorem MY (O:CmpOk X scope N' σf)(hc:X.calm=true)(hi:PI X tg iter wi)
 (hg:∀cl C s2 H2 fp,PG (Bc X N' scope cl C s2 H2 fp) tg g) (ht:∀cl C s2 H2 fp,PIf (Bc X N' scope cl C s2 H2 fp) ifs tt) (he:∀cl C s2 H2 fp,PE (Bc X N' scope cl C s2 H2 fp) elt te)
 (hs:∀x,foldedSetIterable iter X.env x=pure x:=by intro _;rfl):PE X (.ListComp elt [⟨tg,iter,ifs,0⟩] scope pos) (Je wi g tt te σf):=by
 intro pins s σ H Q I h;obtain ⟨cl,e1,e2,e4⟩:=IN (scope:=scope) (env:=X.env) λy hy hf=>I.ok.has y.1 (O.free y hy hf);rw [eval_ListComp];refine wpAny_comprehension_free (use:=none) rfl hs e1 O.kind O.loc (thn (hi pins s σ H _ I h) λv s1 h1=>thn h1 λitv s2 h2=>?_);obtain ⟨it,fp,tn,J,H2,rfl,I2,T,st2,f2,B⟩:=h2;refine K2 (RR:=λacc C=>compPost (model X.prog X.w) X.A X.xe none (EP X pins σ Q) acc C) O hc I2 T st2 f2 e2 e4 (λC=>hg cl C s2 H2 fp) (λC=>ht cl C s2 H2 fp) (λC=>he cl C s2 H2 fp) B ?_;intro C s' σ' H' acc m hC hCD I' hDn hz hL fin hn;obtain ⟨its,n,hv,hD⟩:=hL;refine ⟨m,hn,λh' hs'=>?_⟩;exact ⟨.ref s2.heap.objs.size,upd H' _ (.lst acc),JX I2 f2 hC hCD I' hDn hz hv hD hs',rfl,fin _ hDn hz⟩
theorem JC {i:Nat}{y:Str}{py spos:Pos}(O:CmpOk X scope N' σf)(hc:X.calm=true)(hN:X.N.Nodup)(hiN:X.N[i]?=some y)(hx:X.env.scope.names.lookup y=some .local)(hi:PI X tg iter wi)
 (hg:∀cl C s2 H2 fp,PG (Bc X N' scope cl C s2 H2 fp) tg g) (ht:∀cl C s2 H2 fp,PIf (Bc X N' scope cl C s2 H2 fp) ifs tt) (he:∀cl C s2 H2 fp,PE (Bc X N' scope cl C s2 H2 fp) elt te)
 (hsw:swapsWith (.ListComp elt [⟨tg,iter,ifs,0⟩] scope pos) (some (.Name y py)) spos.line X.env=pure true:=by rfl)
 (hs:∀x,foldedSetIterable iter X.env x=pure x:=by intro _;rfl):PS X (.Assign [.Name y py] (.ListComp elt [⟨tg,iter,ifs,0⟩] scope pos) spos) (Ma (Je wi g tt te σf) (IT i)):=by
 intro pins s σ H D I h;obtain ⟨cl,e1,e2,e4⟩:=IN (scope:=scope) (env:=X.env) λy hy hf=>I.ok.has y.1 (O.free y hy hf);rw [exec_Assign_Name_used _ _ _ _ hsw];refine up8 (wpAny_standAt (up8 ?_));show wpAny _ X.A (do let _ <-comprehension (.ListComp elt [⟨tg,iter,ifs,0⟩] scope pos) scope X.env _ (newList []) false (eval iter X.env) (some (assign (.Name y py) X.env))) _ _ s;refine up8 (thn (wpAny_comprehension_free (use:=some (assign (.Name y py) X.env)) (Q:=λ_ s'=>SP X pins D .next s') rfl hs e1 O.kind O.loc (thn (hi pins s σ H _ I h) λv s1 h1=>thn h1 λitv s2 h2=>?_)) (λ_ s' hq=>up9 (up9 hq)));obtain ⟨it,fp,tn,J,H2,rfl,I2,T,st2,f2,B⟩:=h2;refine K2 (RR:=λacc C=>compPost (model X.prog X.w) X.A X.xe (some (assign (.Name y py) X.env)) (λ_ s'=>SP X pins D .next s') acc C) O hc I2 T st2 f2 e2 e4 (λC=>hg cl C s2 H2 fp) (λC=>ht cl C s2 H2 fp) (λC=>he cl C s2 H2 fp) B ?_;intro C s' σ' H' acc m hC hCD I' hDn hz hL fin hn;obtain ⟨its,n,hv,hD⟩:=hL;show wpAny _ X.A (assign (.Name y py) X.env (.ref s2.heap.objs.size)) _ _ _;have I3:=JX I2 f2 hC hCD I' hDn hz hv hD (Heap.SameBut.refl ..);refine wpAny_assign_Name (Kf I3 hN hiN (.inl hx) (v:=.ref s2.heap.objs.size) rfl (λs4 I4 z9=>?_) (.inr hx));obtain ⟨a,hsb,ha⟩:=z9;have hCL:C≠X.env.locals:=un8 (uf5 I2.lt hC);have hCc:∀x c,X.env.cells.lookup x=some c->c≠C:=λx c e z=>by
  obtain ⟨v,q⟩:=I2.cell x c e;exact absurd (uf5 q.lt (by rw [z];exact hC)) (um4 _)
 have hCa:C≠a:=by
  rcases ha with z | z
  ·rw [z];exact hCL
  ·exact λq=>hCc _ _ z q.symm
 refine ⟨m,hn.sameBut hsb hCa,λh' hs'=>?_⟩;have hnC:(upd H' s2.heap.objs.size (.lst acc)) C=none:=by rw [As hCD];exact I'.free
 refine ⟨_,_,I4.turned (t':=s4.toks) (h':=h') (it:=C) (λb o hb e=>hs'.extBut b o hb e) hnC hCL (.inr (un6 I2.sz hC)) hCc (λp hp z=>?_),fin _ hDn hz⟩;exact absurd (uf5 (un4 (I2.pin p hp).1) (by rw [z];exact hC)) (um4 _)
end
end L2
set_option autoImplicit false
namespace F2
open PySem L2 PySem.Spec
inductive D where
 | non | bl (b:Bool) | int (i:Int) | str (x:Str) | tup (xs:List D) | lst (xs:List D) | scr (ns:List Int) | dic | obj (k:Nat) | ty (n:String) | exc (n:Str) (xs:List D)
structure Cf where
 ι:List Addr
 O:Addr->Prop
def Cf.A (c:Cf)(a:Addr):Prop:=a∈c.ι\/c.O a
def Scr (K:PySem.W.Frag)(c:Cf)(H:Hp)(a:Addr)(vs:List V):Prop:=
 ((∃o,H a=some (.frz o (.lst vs)))/\¬c.A a)\/
   ∃(o:Obj) (its:Array Value) (n:Nat),K.lookup a=some o/\o.cls = .type "list"/\o.dict=none/\o.data = .seq its n/\its.size<=sizeLine/\Vals vs its.toList
def XIs (qx:Bool)(x C:Addr)(dx:Option Addr)(h:Heap):Prop:=∃(o:Obj) (vs:Array Value),h.get? x=some o/\o.cls = .ref C/\o.dict=dx/\o.data = .fields vs/\(qx=true->vs[2]?=some .none/\4 < vs.size)
noncomputable def Qx (n:Str):List Str:=if n = "NoTalk" then ["at"] else if n = "Broken" then ["at", "side"] else []
def XFld (c:Cf)(H:Hp)(dx:Option Addr)(ns:List Str)(vs:List V):Prop:=match dx with
 | none=>vs=[]
 | some d=>H d=some (.xd (ns.zip vs))/\¬c.A d
mutual
inductive Rep (K:PySem.W.Frag)(c:Cf)(H:Hp):V->D->Prop where
 | non:Rep K c H .non .non
 | bl (b:Bool):Rep K c H (.bl b) (.bl b)
 | int (i:Int):Rep K c H (.int i) (.int i)
 | str (x:Str):Rep K c H (.str x) (.str x)
 | ty (n:String):Rep K c H (.ty n) (.ty n)
 | tup {a:Addr} {vs:List V} {ds:List D}:H a=some (.tup vs)->¬c.A a->Reps K c H vs ds->Rep K c H (.ref a) (.tup ds)
 | lst {a:Addr} {vs:List V} {ds:List D}:H a=some (.lst vs)->¬c.A a->Reps K c H vs ds->Rep K c H (.ref a) (.lst ds)
 | scr {a:Addr} {ns:List Int}:Scr K c H a (ns.map V.int)->Rep K c H (.ref a) (.scr ns)
 | dic {a:Addr}:H a=some (.dK [])->¬c.A a->Rep K c H (.ref a) .dic
 | obj {a:Addr} {k:Nat}:c.ι[k]?=some a->Rep K c H (.ref a) (.obj k)
 | exc {qx:Bool} {x C:Addr} {dx:Option Addr} {n:Str} {vs:List V} {ds:List D}:PySem.W.nsIn K mainGlobals n=some (some (.ref C))->H x=some (.ext (XIs qx x C dx))->¬c.A x->XFld c H dx (Qx n) vs->Reps K c H vs ds->Rep K c H (.ref x) (.exc n ds)
inductive Reps (K:PySem.W.Frag)(c:Cf)(H:Hp):List V->List D->Prop where
 | nil:Reps K c H [] []
 | cons {v:V} {d:D} {vs:List V} {ds:List D}:Rep K c H v d->Reps K c H vs ds->Reps K c H (v :: vs) (d :: ds)
end
structure Ext (c:Cf)(H:Hp)(c':Cf)(H':Hp):Prop where
 keep:∀b o,H b=some o->¬c.A b->H' b=some o
 av:∀b o,H b=some o->c'.A b->c.A b
 io:∀(k:Nat) (a:Addr),c.ι[k]?=some a->c'.ι[k]?=some a
variable {c:Cf}{H:Hp}
theorem Ext.refl:Ext c H c H:=⟨λ_ _ h _=>h,λ_ _ _ h=>h,λ_ _ h=>h⟩
theorem Ext.trans {c1 c2:Cf}{H1 H2:Hp}(a:Ext c H c1 H1)(b:Ext c1 H1 c2 H2):Ext c H c2 H2:=by
 refine ⟨λx o h n=>?_,λx o h n=>?_,λk x h=>b.io k x (a.io k x h)⟩
 ·exact b.keep x o (a.keep x o h n) λz=>n (a.av x o h z)
 ·by_cases q:c.A x
  ·exact q
  ·exact a.av x o h (b.av x o (a.keep x o h q) n)
variable {K:PySem.W.Frag}{a:Addr}{vs:List V}
theorem Scr.mono {c':Cf}{H':Hp}(e:Ext c H c' H')(h:Scr K c H a vs):Scr K c' H' a vs:=by
 rcases h with ⟨⟨o,h⟩,n⟩ | h
 ·exact .inl ⟨⟨o,e.keep _ _ h n⟩,λz=>n (e.av _ _ h z)⟩
 ·exact .inr h
theorem Scr.sq (h:Scr K c H a vs):SqL K H a vs:=by
 rcases h with ⟨h,_⟩ | h
 ·exact .inl (.inr h)
 ·exact .inr h
theorem XFld.mono {c':Cf}{H':Hp}{dx:Option Addr}{ns:List Str}(e:Ext c H c' H')(h:XFld c H dx ns vs):XFld c' H' dx ns vs:=by
 cases dx with
 | none=>exact h
 | some d=>exact ⟨e.keep _ _ h.1 h.2,λz=>h.2 (e.av _ _ h.1 z)⟩
mutual
theorem Rep.mono {K:PySem.W.Frag}{c c':Cf}{H H':Hp}(e:Ext c H c' H'){v:V}{d:D}(r:Rep K c H v d):Rep K c' H' v d:=by
 cases r with
 | non=>exact .non
 | bl b=>exact .bl b
 | int i=>exact .int i
 | str x=>exact .str x
 | ty n=>exact .ty n
 | tup h n r=>exact .tup (e.keep _ _ h n) (λz=>n (e.av _ _ h z)) (Reps.mono e r)
 | lst h n r=>exact .lst (e.keep _ _ h n) (λz=>n (e.av _ _ h z)) (Reps.mono e r)
 | scr h=>exact .scr (h.mono e)
 | dic h n=>exact .dic (e.keep _ _ h n) (λz=>n (e.av _ _ h z))
 | obj h=>exact .obj (e.io _ _ h)
 | exc g h n f r=>exact .exc g (e.keep _ _ h n) (λz=>n (e.av _ _ h z)) (f.mono e) (Reps.mono e r)
theorem Reps.mono {K:PySem.W.Frag}{c c':Cf}{H H':Hp}(e:Ext c H c' H'){vs:List V}{ds:List D}(r:Reps K c H vs ds):Reps K c' H' vs ds:=by
 cases r with
 | nil=>exact .nil
 | cons h t=>exact .cons (Rep.mono e h) (Reps.mono e t)
end
section
variable {K:PySem.W.Frag}{c:Cf}{H:Hp}
theorem Reps.length:∀{vs:List V} {ds:List D},Reps K c H vs ds->vs.length=ds.length
 | _,_,.nil=>rfl
 | _,_,.cons _ t=>by simp [Reps.length t]
theorem Reps.get:∀{vs:List V} {ds:List D} {i:Nat} {v:V} {d:D},Reps K c H vs ds->vs[i]?=some v->ds[i]?=some d->Rep K c H v d
 | _,_,_,_,_,.nil,e,_=>by simp at e
 | _,_,0,_,_,.cons r _,e,e'=>by simp at e e';subst e e';exact r
 | _,_,i + 1,_,_,.cons _ t,e,e'=>Reps.get (i:=i) t (by simpa using e) (by simpa using e')
theorem Reps.at:∀{vs:List V} {ds:List D} {i:Nat} {d:D},Reps K c H vs ds->ds[i]?=some d->∃v,vs[i]?=some v/\Rep K c H v d
 | _,_,_,_,.nil,e=>by simp at e
 | _,_,0,_,.cons r _,e=>by simp at e;subst e;exact ⟨_,rfl,r⟩
 | _,_,i + 1,_,.cons _ t,e=>by
   obtain ⟨v,h1,h2⟩:=Reps.at (i:=i) t (by simpa using e);exact ⟨v,by simpa using h1,h2⟩
theorem Reps.append {vs ws:List V}{ds es:List D}(r:Reps K c H vs ds)(s:Reps K c H ws es):Reps K c H (vs++ws) (ds++es):=by
 cases r with
 | nil=>exact s
 | cons r t=>exact .cons r (Reps.append t s)
theorem Reps.take:∀{vs:List V} {ds:List D} (n:Nat),Reps K c H vs ds->Reps K c H (vs.take n) (ds.take n)
 | _,_,0,_=>.nil
 | _,_,_ + 1,.nil=>.nil
 | _,_,n + 1,.cons r t=>.cons r (Reps.take n t)
theorem Reps.drop:∀{vs:List V} {ds:List D} (n:Nat),Reps K c H vs ds->Reps K c H (vs.drop n) (ds.drop n)
 | _,_,0,r=>r
 | _,_,_ + 1,.nil=>.nil
 | _,_,n + 1,.cons _ t=>Reps.drop n t
theorem Reps.set {v:V}{d:D}(r:Rep K c H v d):∀{vs:List V} {ds:List D} (i:Nat),Reps K c H vs ds->Reps K c H (vs.set i v) (ds.set i d)
 | _,_,_,.nil=>.nil
 | _,_,0,.cons _ t=>.cons r t
 | _,_,i + 1,.cons q t=>.cons q (Reps.set r i t)
theorem Reps.ints:∀ns:List Int,Reps K c H (ns.map V.int) (ns.map D.int)
 | []=>.nil
 | n :: r=>.cons (.int n) (Reps.ints r)
theorem Reps.rep {vs:List V}{ds:List D}(h:Reps K c H vs ds):∀k:Nat,Reps K c H (List.replicate k vs).flatten (List.replicate k ds).flatten
 | 0=>.nil
 | k + 1=>by
   rw [ue8,ue8,ug9,ug9];exact h.append (Reps.rep h k)
end
inductive Ob where
 | lst (xs:List D)
 | dct (kvs:List (Key×D))
 | ins (n:Str) (fs:List (Str×D))
inductive Sl where
 | val (d:D)
 | own (xs:List D)
structure T where
 env:List (Option Sl)
 S:List Ob
def KVR (K:PySem.W.Frag)(c:Cf)(H:Hp):List (Key×V)->List (Key×D)->Prop:=Paired λp q=>p.1=q.1/\Rep K c H p.2 q.2
def Ql:List Str:=["Reader", "Side", "Lasting", "Parley", "Listener", "Relay", "Desk"]
def atN:List Str:=["grammar", "standing", "wires", "places", "side", "said", "taken", "handed", "left", "right", "under_way", "grammars", "standings", "heard", "left_grammar", "right_grammar", "rows", "pair", "broken", "parley"]
def Yu (K:PySem.W.Frag)(c:Cf)(H:Hp):List (Str×V)->List (Str×D)->Prop:=Paired λp q=>p.1=q.1/\Rep K c H p.2 q.2
def ObR (K:PySem.W.Frag)(c:Cf)(H:Hp)(a:Addr):Ob->Prop
 | .lst ds=>∃vs,H a=some (.lst vs)/\Reps K c H vs ds
 | .dct kvs=>∃us,H a=some (.dK us)/\KVR K c H us kvs
 | .ins n fs=>(n∈Ql/\∀p∈fs,p.1∈atN)/\∃C dx us,PySem.W.nsIn K mainGlobals n=some (some (.ref C))/\H a=some (.ins C dx us)/\Yu K c H us fs
theorem ObR.mono {K:PySem.W.Frag}{c c':Cf}{H H':Hp}{a:Addr}{o:Ob}(e:Ext c H c' H')(h:ObR K c H a o)(ha:H' a=H a):ObR K c' H' a o:=by
 cases o with
 | lst ds=>obtain ⟨vs,h1,h2⟩:=h;exact ⟨vs,ha.trans h1,h2.mono e⟩
 | dct kvs=>obtain ⟨us,h1,h2⟩:=h;exact ⟨us,ha.trans h1,Paired.mapP h2 λ_ _ z=>⟨z.1,z.2.mono e⟩⟩
 | ins n fs=>obtain ⟨h0,C,dx,us,g,h1,h2⟩:=h;exact ⟨h0,C,dx,us,g,ha.trans h1,Paired.mapP h2 λ_ _ z=>⟨z.1,z.2.mono e⟩⟩
theorem ObR.some {o:Ob}(h:ObR K c H a o):∃u,H a=some u:=by
 cases o with
 | lst ds=>obtain ⟨vs,h1,_⟩:=h;exact ⟨_,h1⟩
 | dct kvs=>obtain ⟨us,h1,_⟩:=h;exact ⟨_,h1⟩
 | ins n fs=>obtain ⟨_,_,_,_,_,h1,_⟩:=h;exact ⟨_,h1⟩
structure SInv (K:PySem.W.Frag)(c:Cf)(S:List Ob)(H:Hp):Prop where
 len:c.ι.length=S.length
 nd:c.ι.Nodup
 obs:∀(k:Nat) (a:Addr) (o:Ob),c.ι[k]?=some a->S[k]?=some o->ObR K c H a o
 trk:∀b,c.O b->∃o,H b=some o
 dis:∀b,c.O b->b∉c.ι
variable {S:List Ob}
theorem SInv.trkA (s:SInv K c S H){b:Addr}(h:c.A b):∃o,H b=some o:=by
 rcases h with h | h
 ·obtain ⟨k,hk,e⟩:=List.mem_iff_getElem.mp h;have e1:c.ι[k]?=some b:=by rw [ub2 hk,e]
  have hk':k < S.length:=by rw [<-s.len];exact hk
  exact (s.obs k b _ e1 (ub2 hk')).some
 ·exact s.trk b h
theorem SInv.free (s:SInv K c S H){b:Addr}(h:H b=none):¬c.A b:=λz=>by
 obtain ⟨o,e⟩:=s.trkA z;rw [h] at e;cases e
structure FInv (K:PySem.W.Frag)(Oo:Addr->Prop)(c:Cf)(t:T)(σ:St)(H:Hp):Prop where
 s:SInv K c t.S H
 len:t.env.length=σ.length
 sub:∀b,Oo b->c.O b
 val:∀(i:Nat) (d:D),t.env[i]?=some (some (.val d))->∃v,σ[i]?=some (some v)/\Rep K c H v d
 own:∀(i:Nat) (ds:List D),t.env[i]?=some (some (.own ds))->∃a vs,σ[i]?=some (some (.ref a))/\c.O a/\¬Oo a/\H a=some (.lst vs)/\Reps K c H vs ds
 inj:∀(i j:Nat) (ds es:List D) (a:Addr),t.env[i]?=some (some (.own ds))->t.env[j]?=some (some (.own es))->σ[i]?=some (some (.ref a))->σ[j]?=some (some (.ref a))->i=j
structure Stp (Oo:Addr->Prop)(c:Cf)(H:Hp)(c':Cf)(H':Hp):Prop where
 ext:Ext c H c' H'
 oo:∀b,Oo b->H' b=H b
theorem Stp.refl {Oo:Addr->Prop}{c:Cf}{H:Hp}:Stp Oo c H c H:=⟨.refl,λ_ _=>rfl⟩
theorem Stp.trans {Oo:Addr->Prop}{c c1 c2:Cf}{H H1 H2:Hp}(a:Stp Oo c H c1 H1)(b:Stp Oo c1 H1 c2 H2):Stp Oo c H c2 H2:=
 ⟨a.ext.trans b.ext,λx h=>(b.oo x h).trans (a.oo x h)⟩
section
variable {K:PySem.W.Frag}{Oo:Addr->Prop}{c:Cf}{t:T}{σ:St}{H:Hp}
theorem Ext.laid (s:SInv K c S H){p:Addr}{o:HO}(h:H p=none):Ext c H c (upd H p o):=
 ⟨λb u e _=>by rw [As (Ay e h)];exact e,λ_ _ _ z=>z,λ_ _ e=>e⟩
theorem SInv.laid {S:List Ob}(s:SInv K c S H){p:Addr}{o:HO}(h:H p=none):SInv K c S (upd H p o):=
 ⟨s.len,s.nd,λk a u e1 e2=>by
  have q:=s.obs k a u e1 e2;obtain ⟨w,hw⟩:=q.some;exact q.mono (Ext.laid s h) (As (Ay hw h)),
  λb z=>by obtain ⟨u,e⟩:=s.trk b z;exact ⟨u,by rw [As (Ay e h)];exact e⟩,s.dis⟩
theorem FInv.laid (f:FInv K Oo c t σ H){p:Addr}{o:HO}(h:H p=none):FInv K Oo c t σ (upd H p o):=by
 have e:=Ext.laid (o:=o) f.s h;refine ⟨f.s.laid h,f.len,f.sub,λi d q=>?_,λi ds q=>?_,f.inj⟩
 ·obtain ⟨v,h1,h2⟩:=f.val i d q;exact ⟨v,h1,h2.mono e⟩
 ·obtain ⟨a,vs,h1,h2,h3,h4,h5⟩:=f.own i ds q;exact ⟨a,vs,h1,h2,h3,by rw [As (Ay h4 h)];exact h4,h5.mono e⟩
theorem FInv.stp_laid (f:FInv K Oo c t σ H){p:Addr}{o:HO}(h:H p=none):Stp Oo c H c (upd H p o):=
 ⟨Ext.laid f.s h,λb z=>by obtain ⟨u,e⟩:=f.s.trk b (f.sub b z);exact As (Ay e h)⟩
theorem FInv.set (f:FInv K Oo c t σ H){i:Nat}{v:V}{d:D}(r:Rep K c H v d):FInv K Oo c { t with env:=t.env.set i (some (.val d)) } (σ.set i (some v)) H:=by
 have neq:∀{j:Nat} {x:Sl},(t.env.set i (some (.val d)))[j]?=some (some x)->(j=i/\x = .val d/\j < t.env.length)\/(j≠i/\t.env[j]?=some (some x)):=λ{j x} q=>by
  by_cases h:j=i
  ·subst h;rw [uh3] at q
   split at q
   ·split at q
    ·next h1=>injection q with q;injection q with q;exact .inl ⟨rfl,q.symm,h1⟩
    ·cases q
   ·next h1=>exact absurd rfl h1
  ·rw [ud8 (Ne.symm h)] at q;exact .inr ⟨h,q⟩
 refine ⟨f.s,by simp [f.len],f.sub,λj e q=>?_,λj ds q=>?_,λj k ds es a q1 q2 q3 q4=>?_⟩
 ·rcases neq q with ⟨rfl,z,hl⟩ | ⟨h,q⟩
  ·cases z
   exact ⟨v,by rw [ub8 (by rw [<-f.len];exact hl)],r⟩
  ·obtain ⟨u,h1,h2⟩:=f.val j e q;exact ⟨u,by rw [ud8 (Ne.symm h)];exact h1,h2⟩
 ·rcases neq q with ⟨rfl,z,_⟩ | ⟨h,q⟩
  ·cases z
  ·obtain ⟨a,vs,h1,h2⟩:=f.own j ds q;exact ⟨a,vs,by rw [ud8 (Ne.symm h)];exact h1,h2⟩
 ·rcases neq q1 with ⟨_,z,_⟩ | ⟨h,q1⟩
  ·cases z
  rcases neq q2 with ⟨_,z,_⟩ | ⟨h',q2⟩
  ·cases z
  rw [ud8 (Ne.symm h)] at q3;rw [ud8 (Ne.symm h')] at q4;exact f.inj j k ds es a q1 q2 q3 q4
theorem FInv.setOwn (f:FInv K Oo c t σ H){i:Nat}{p:Addr}{vs:List V}{ds:List D}(h:H p=none)(r:Reps K c H vs ds) :
 ∃c',FInv K Oo c' { t with env:=t.env.set i (some (.own ds)) } (σ.set i (some (.ref p))) (upd H p (.lst vs))/\Stp Oo c H c' (upd H p (.lst vs)):=by
 let c':Cf:=⟨c.ι,λb=>c.O b\/b=p⟩
 have nA:¬c.A p:=f.s.free h;have ext:Ext c H c' (upd H p (.lst vs)):=by
  refine ⟨λb u e _=>by rw [As (Ay e h)];exact e,λb u e z=>?_,λ_ _ e=>e⟩;rcases z with z | z | z
  ·exact .inl z
  ·exact .inr z
  ·subst z;rw [h] at e;cases e
 have stp:Stp Oo c H c' (upd H p (.lst vs)):=⟨ext,λb z=>by obtain ⟨u,e⟩:=f.s.trk b (f.sub b z);exact As (Ay e h)⟩;have sinv:SInv K c' t.S (upd H p (.lst vs)):=by
  refine ⟨f.s.len,f.s.nd,λk a u e1 e2=>?_,λb z=>?_,λb z hb=>?_⟩
  ·have q:=f.s.obs k a u e1 e2;obtain ⟨w,hw⟩:=q.some;exact q.mono ext (As (Ay hw h))
  ·rcases z with z | z
   ·obtain ⟨u,e⟩:=f.s.trk b z;exact ⟨u,by rw [As (Ay e h)];exact e⟩
   ·subst z;exact ⟨_,AD⟩
  ·rcases z with z | z
   ·exact f.s.dis b z hb
   ·subst z;exact nA (.inl hb)
 have neq:∀{j:Nat} {x:Sl},(t.env.set i (some (.own ds)))[j]?=some (some x)->(j=i/\x = .own ds/\j < t.env.length)\/(j≠i/\t.env[j]?=some (some x)):=λ{j x} q=>by
  by_cases h:j=i
  ·subst h;rw [uh3] at q
   split at q
   ·split at q
    ·next h1=>injection q with q;injection q with q;exact .inl ⟨rfl,q.symm,h1⟩
    ·cases q
   ·next h1=>exact absurd rfl h1
  ·rw [ud8 (Ne.symm h)] at q;exact .inr ⟨h,q⟩
 have fresh:∀(j:Nat) (es:List D),t.env[j]?=some (some (.own es))->σ[j]?≠some (some (.ref p)):=λj es q z=>by
  obtain ⟨a,vs',h1,_,_,h4,_⟩:=f.own j es q;rw [h1] at z;injection z with z;injection z with z;injection z with z;subst z;rw [h] at h4;cases h4
 refine ⟨c',⟨sinv,by simp [f.len],λb z=>.inl (f.sub b z),λj e q=>?_,λj es q=>?_,λj k ds' es a q1 q2 q3 q4=>?_⟩,stp⟩
 ·rcases neq q with ⟨_,z,_⟩ | ⟨hn,q⟩
  ·cases z
  ·obtain ⟨u,h1,h2⟩:=f.val j e q;exact ⟨u,by rw [ud8 (Ne.symm hn)];exact h1,h2.mono ext⟩
 ·rcases neq q with ⟨rfl,z,hl⟩ | ⟨hn,q⟩
  ·cases z
   refine ⟨p,vs,by rw [ub8 (by rw [<-f.len];exact hl)],.inr rfl,λz=>?_,AD,r.mono ext⟩;obtain ⟨u,e⟩:=f.s.trk p (f.sub p z);rw [h] at e;cases e
  ·obtain ⟨a,ws,h1,h2,h3,h4,h5⟩:=f.own j es q;exact ⟨a,ws,by rw [ud8 (Ne.symm hn)];exact h1,.inl h2,h3,by rw [As (Ay h4 h)];exact h4,h5.mono ext⟩
 ·rcases neq q1 with ⟨z1,z2,l1⟩ | ⟨n1,r1⟩
  ·rcases neq q2 with ⟨y1,_,_⟩ | ⟨n2,r2⟩
   ·rw [z1,y1]
   ·subst z1;rw [ub8 (by rw [<-f.len];exact l1)] at q3;injection q3 with q3;injection q3 with q3;injection q3 with q3;subst q3
    rw [ud8 (Ne.symm n2)] at q4;exact absurd q4 (fresh k es r2)
  ·rcases neq q2 with ⟨y1,y2,l2⟩ | ⟨n2,r2⟩
   ·subst y1;rw [ub8 (by rw [<-f.len];exact l2)] at q4;injection q4 with q4;injection q4 with q4;injection q4 with q4;subst q4
    rw [ud8 (Ne.symm n1)] at q3;exact absurd q3 (fresh j ds' r1)
   ·rw [ud8 (Ne.symm n1)] at q3;rw [ud8 (Ne.symm n2)] at q4;exact f.inj j k ds' es a r1 r2 q3 q4
theorem FInv.frz (f:FInv K Oo c t σ H){i:Nat}{ds:List D}(q:t.env[i]?=some (some (.own ds))) :
 ∃c' v,FInv K Oo c' { t with env:=t.env.set i (some (.val (.lst ds))) } σ H/\Stp Oo c H c' H/\σ[i]?=some (some v)/\Rep K c' H v (.lst ds):=by
 obtain ⟨a,vs,h1,h2,h3,h4,h5⟩:=f.own i ds q
 let c':Cf:=⟨c.ι,λb=>c.O b/\b≠a⟩
 have ext:Ext c H c' H:=⟨λ_ _ e _=>e,λb u e z=>z.elim .inl λw=>.inr w.1,λ_ _ e=>e⟩;have sinv:SInv K c' t.S H:=⟨f.s.len,f.s.nd,λk b u e1 e2=>(f.s.obs k b u e1 e2).mono ext rfl,λb z=>f.s.trk b z.1,λb z=>f.s.dis b z.1⟩;have nA:¬c'.A a:=λz=>z.elim (λw=>f.s.dis a h2 w) λw=>w.2 rfl;have hσ:σ.set i (some (.ref a))=σ:=by
  apply List.ext_getElem?;intro j
  by_cases hj:j=i
  ·subst hj;rw [ub8 (by have:=(ua8.mp h1).1;exact this),h1]
  ·rw [ud8 (Ne.symm hj)]
 have r:Rep K c' H (.ref a) (.lst ds):=.lst h4 nA (h5.mono ext);have f0:FInv K Oo c' { t with env:=t.env.set i (some (.val (.lst ds))) } σ H:=by
  have neq:∀{j:Nat} {x:Sl},(t.env.set i (some (.val (.lst ds))))[j]?=some (some x)->(j=i/\x = .val (.lst ds))\/(j≠i/\t.env[j]?=some (some x)):=λ{j x} q=>by
   by_cases h:j=i
   ·subst h;rw [uh3] at q
    split at q
    ·split at q
     ·injection q with q;injection q with q;exact .inl ⟨rfl,q.symm⟩
     ·cases q
    ·next h1=>exact absurd rfl h1
   ·rw [ud8 (Ne.symm h)] at q;exact .inr ⟨h,q⟩
  refine ⟨sinv,by simp [f.len],λb z=>⟨f.sub b z,λw=>h3 (w ▸ z)⟩,λj e q'=>?_,λj es q'=>?_,λj k ds' es b q1 q2 q3 q4=>?_⟩
  ·rcases neq q' with ⟨rfl,z⟩ | ⟨hn,q'⟩
   ·cases z;exact ⟨_,h1,r⟩
   ·obtain ⟨u,w1,w2⟩:=f.val j e q';exact ⟨u,w1,w2.mono ext⟩
  ·rcases neq q' with ⟨_,z⟩ | ⟨hn,q'⟩
   ·cases z
   ·obtain ⟨b,ws,w1,w2,w3,w4,w5⟩:=f.own j es q';refine ⟨b,ws,w1,⟨w2,λz=>?_⟩,w3,w4,w5.mono ext⟩;subst z;exact hn (f.inj j i es ds b q' q w1 h1)
  ·rcases neq q1 with ⟨_,z⟩ | ⟨_,q1⟩
   ·cases z
   rcases neq q2 with ⟨_,z⟩ | ⟨_,q2⟩
   ·cases z
   exact f.inj j k ds' es b q1 q2 q3 q4
 exact ⟨c',_,f0,⟨ext,λ_ _=>rfl⟩,h1,r⟩
theorem FInv.wrOwn (f:FInv K Oo c t σ H){i:Nat}{ds ds':List D}{vs':List V}{a:Addr}(q:t.env[i]?=some (some (.own ds)))(h1:σ[i]?=some (some (.ref a)))(r:Reps K c H vs' ds') :
 FInv K Oo c { t with env:=t.env.set i (some (.own ds')) } σ (upd H a (.lst vs'))/\Stp Oo c H c (upd H a (.lst vs')):=by
 obtain ⟨a',vs,g1,h2,h3,h4,h5⟩:=f.own i ds q;rw [h1] at g1;injection g1 with g1;injection g1 with g1;injection g1 with g1;subst g1
 have ext:Ext c H c (upd H a (.lst vs')):=⟨λb u e n=>by rw [As (λ(z:b=a)=>n (.inr (by rw [z];exact h2)))];exact e,λ_ _ _ z=>z,λ_ _ e=>e⟩;have stp:Stp Oo c H c (upd H a (.lst vs')):=⟨ext,λb z=>As λw=>h3 (w ▸ z)⟩;have sinv:SInv K c t.S (upd H a (.lst vs')):=by
  refine ⟨f.s.len,f.s.nd,λk b u e1 e2=>(f.s.obs k b u e1 e2).mono ext (As λz=>f.s.dis a h2 (z ▸ ud9 e1)),λb z=>?_,f.s.dis⟩
  by_cases hb:b=a
  ·subst hb;exact ⟨_,AD⟩
  ·obtain ⟨u,e⟩:=f.s.trk b z;exact ⟨u,by rw [As hb];exact e⟩
 have neq:∀{j:Nat} {x:Sl},(t.env.set i (some (.own ds')))[j]?=some (some x)->(j=i/\x = .own ds')\/(j≠i/\t.env[j]?=some (some x)):=λ{j x} q=>by
  by_cases h:j=i
  ·subst h;rw [uh3] at q
   split at q
   ·split at q
    ·injection q with q;injection q with q;exact .inl ⟨rfl,q.symm⟩
    ·cases q
   ·next h1=>exact absurd rfl h1
  ·rw [ud8 (Ne.symm h)] at q;exact .inr ⟨h,q⟩
 refine ⟨⟨sinv,by simp [f.len],f.sub,λj e q'=>?_,λj es q'=>?_,λj k es es' b q1 q2 q3 q4=>?_⟩,stp⟩
 ·rcases neq q' with ⟨_,z⟩ | ⟨_,q'⟩
  ·cases z
  ·obtain ⟨u,w1,w2⟩:=f.val j e q';exact ⟨u,w1,w2.mono ext⟩
 ·rcases neq q' with ⟨rfl,z⟩ | ⟨hn,q'⟩
  ·cases z;exact ⟨a,vs',h1,h2,h3,AD,r.mono ext⟩
  ·obtain ⟨b,ws,w1,w2,w3,w4,w5⟩:=f.own j es q';have hb:b≠a:=λz=>by subst z;exact hn (f.inj j i es ds b q' q w1 h1)
   exact ⟨b,ws,w1,w2,w3,by rw [As hb];exact w4,w5.mono ext⟩
 ·have old:∀{j:Nat} {x:List D},(t.env.set i (some (.own ds')))[j]?=some (some (.own x))->∃y,t.env[j]?=some (some (.own y)):=λ{j x} q'=>by
   rcases neq q' with ⟨rfl,_⟩ | ⟨_,q'⟩
   ·exact ⟨ds,q⟩
   ·exact ⟨x,q'⟩
  obtain ⟨y1,z1⟩:=old q1;obtain ⟨y2,z2⟩:=old q2;exact f.inj j k y1 y2 b z1 z2 q3 q4
theorem FInv.wrObj (f:FInv K Oo c t σ H){k:Nat}{a:Addr}{o:Ob}{u:HO}(e:c.ι[k]?=some a)(r:∀c' H',Ext c H c' H'->H' a=some u->ObR K c' H' a o) :
 FInv K Oo c { t with S:=t.S.set k o } σ (upd H a u)/\Stp Oo c H c (upd H a u):=by
 have hA:a∈c.ι:=ud9 e;have ext:Ext c H c (upd H a u):=⟨λb w h n=>by rw [As (λ(z:b=a)=>n (.inl (by rw [z];exact hA)))];exact h,λ_ _ _ z=>z,λ_ _ e=>e⟩;have neO:∀b,c.O b->b≠a:=λb z w=>f.s.dis b z (w ▸ hA);have stp:Stp Oo c H c (upd H a u):=⟨ext,λb z=>As (neO b (f.sub b z))⟩;have sinv:SInv K c (t.S.set k o) (upd H a u):=by
  refine ⟨by simp [f.s.len],f.s.nd,λj b o' e1 e2=>?_,λb z=>?_,f.s.dis⟩
  ·by_cases hj:j=k
   ·subst hj;rw [e] at e1;cases e1
    have hl:j < t.S.length:=by rw [<-f.s.len];exact (ua8.mp e).1
    rw [ub8 hl] at e2;cases e2
    exact r c _ ext AD
   ·rw [ud8 (Ne.symm hj)] at e2;refine (f.s.obs j b o' e1 e2).mono ext (As λz=>?_);subst z;obtain ⟨l1,g1⟩:=ua8.mp e1;obtain ⟨l2,g2⟩:=ua8.mp e;exact hj ((uh9 f.s.nd).mp (g1.trans g2.symm))
  ·obtain ⟨w,h⟩:=f.s.trk b z;exact ⟨w,by rw [As (neO b z)];exact h⟩
 refine ⟨⟨sinv,f.len,f.sub,λi d q=>?_,λi ds q=>?_,f.inj⟩,stp⟩
 ·obtain ⟨v,h1,h2⟩:=f.val i d q;exact ⟨v,h1,h2.mono ext⟩
 ·obtain ⟨b,vs,h1,h2,h3,h4,h5⟩:=f.own i ds q;exact ⟨b,vs,h1,h2,h3,by rw [As (neO b h2)];exact h4,h5.mono ext⟩
theorem FInv.newObj (f:FInv K Oo c t σ H){p:Addr}{o:Ob}{u:HO}(h:H p=none)(r:∀c' H',Ext c H c' H'->H' p=some u->ObR K c' H' p o) :
 ∃c',FInv K Oo c' { t with S:=t.S++[o] } σ (upd H p u)/\Stp Oo c H c' (upd H p u)/\c'.ι[t.S.length]?=some p:=by
 let c':Cf:=⟨c.ι++[p],c.O⟩
 have nA:¬c.A p:=f.s.free h;have ext:Ext c H c' (upd H p u):=by
  refine ⟨λb w e _=>by rw [As (Ay e h)];exact e,λb w e z=>?_,λk a e=>?_⟩
  ·rcases z with z | z
   ·rcases uj9.mp z with z | z
    ·exact .inl z
    ·rw [ug2] at z;subst z;rw [h] at e;cases e
   ·exact .inr z
  ·show (c.ι++[p])[k]?=some a;rw [ua9 (ua8.mp e).1];exact e
 have stp:Stp Oo c H c' (upd H p u):=⟨ext,λb z=>by obtain ⟨w,e⟩:=f.s.trk b (f.sub b z);exact As (Ay e h)⟩;have at_:(c.ι++[p])[t.S.length]?=some p:=by rw [<-f.s.len,ua5 (up3 _)];simp
 have sinv:SInv K c' (t.S++[o]) (upd H p u):=by
  refine ⟨by simp [c',f.s.len],?_,λj b o' e1 e2=>?_,λb z=>?_,λb z hb=>?_⟩
  ·show (c.ι++[p]).Nodup;exact List.nodup_append.mpr ⟨f.s.nd,by simp,λx hx y hy z=>by rw [ug2] at hy;subst z;subst hy;exact nA (.inl hx)⟩
  ·have hlt:j < (t.S++[o]).length:=(ua8.mp e2).1
   by_cases hj:j < t.S.length
   ·have e1':c.ι[j]?=some b:=by
     have q:(c.ι++[p])[j]?=some b:=e1;rw [ua9 (by rw [f.s.len];exact hj)] at q;exact q
    rw [ua9 hj] at e2;have q:=f.s.obs j b o' e1' e2;obtain ⟨w,hw⟩:=q.some;exact q.mono ext (As (Ay hw h))
   ·have hj':j=t.S.length:=by simp at hlt;lia
    subst hj';rw [at_] at e1;cases e1
    rw [ua5 (up3 _)] at e2;simp at e2;subst e2;exact r c' _ ext AD
  ·obtain ⟨w,e⟩:=f.s.trk b z;exact ⟨w,by rw [As (Ay e h)];exact e⟩
  ·rcases uj9.mp hb with w | w
   ·exact f.s.dis b z w
   ·rw [ug2] at w;subst w;exact nA (.inr z)
 refine ⟨c',⟨sinv,f.len,f.sub,λi d q=>?_,λi ds q=>?_,f.inj⟩,stp,at_⟩
 ·obtain ⟨v,h1,h2⟩:=f.val i d q;exact ⟨v,h1,h2.mono ext⟩
 ·obtain ⟨b,vs,h1,h2,h3,h4,h5⟩:=f.own i ds q;exact ⟨b,vs,h1,h2,h3,by rw [As (Ay h4 h)];exact h4,h5.mono ext⟩
theorem FInv.after (f:FInv K Oo c t σ H){c':Cf}{S':List Ob}{H':Hp}(s:SInv K c' S' H')(st:Stp c.O c H c' H')(ho:∀b,c'.O b↔c.O b):FInv K Oo c' { t with S:=S' } σ H'/\Stp Oo c H c' H':=by
 refine ⟨⟨s,f.len,λb z=>(ho b).mpr (f.sub b z),λi d q=>?_,λi ds q=>?_,f.inj⟩,st.ext,λb z=>st.oo b (f.sub b z)⟩
 ·obtain ⟨v,h1,h2⟩:=f.val i d q;exact ⟨v,h1,h2.mono st.ext⟩
 ·obtain ⟨b,vs,h1,h2,h3,h4,h5⟩:=f.own i ds q;exact ⟨b,vs,h1,(ho b).mpr h2,h3,(st.oo b h2).trans h4,h5.mono st.ext⟩
end
abbrev M (α:Type):=T->Option (α×T)
inductive Out where
 | next | brk | cont | ret (d:D)
noncomputable def ret {α:Type}(a:α):M α:=λt=>some (a,t)
noncomputable def fail {α:Type}:M α:=λ_=>none
noncomputable def bnd {α β:Type}(f:M α)(g:α->M β):M β:=λt=>match f t with
 | some (a,t1)=>g a t1
 | none=>none
variable {t:T}
theorem Ah {α β:Type}{f:M α}{g:α->M β}{z:β×T}(h:bnd f g t=some z):∃a t1,f t=some (a,t1)/\g a t1=some z:=by
 unfold bnd at h
 cases e:f t with
 | none=>rw [e] at h;cases h
 | some p=>obtain ⟨a,t1⟩:=p;rw [e] at h;exact ⟨a,t1,rfl,h⟩
noncomputable def LIM:Nat:=100000
theorem Bu:LIM<=sizeLine:=by unfold LIM;decide
section
variable (K:PySem.W.Frag)
inductive RE (f:M D)(σ:L2.St)(H:Hp)(Q:VK):Prop where
 | mk (Oo:Addr->Prop) (c:Cf) (t:T) (fi:FInv K Oo c t σ H) (r:D) (t':T) (e:f t=some (r,t')) (k:∀v H' c',FInv K Oo c' t' σ H'->Stp Oo c H c' H'->Rep K c' H' v r->Q v H'):RE f σ H Q
inductive RT (f:M Bool)(σ:L2.St)(H:Hp)(Q:Bool->Hp->Prop):Prop where
 | mk (Oo:Addr->Prop) (c:Cf) (t:T) (fi:FInv K Oo c t σ H) (r:Bool) (t':T) (e:f t=some (r,t')) (k:∀H' c',FInv K Oo c' t' σ H'->Stp Oo c H c' H'->Q r H'):RT f σ H Q
inductive RA (f:M (List D))(σ:L2.St)(H:Hp)(Q:List V->Hp->Prop):Prop where
 | mk (Oo:Addr->Prop) (c:Cf) (t:T) (fi:FInv K Oo c t σ H) (r:List D) (t':T) (e:f t=some (r,t')) (k:∀vs H' c',FInv K Oo c' t' σ H'->Stp Oo c H c' H'->Reps K c' H' vs r->Q vs H'):RA f σ H Q
inductive RF (f:M (List D))(σ:L2.St)(H:Hp)(Q:VK):Prop where
 | mk (Oo:Addr->Prop) (c:Cf) (t:T) (fi:FInv K Oo c t σ H) (ds:List D) (t':T) (e:f t=some (ds,t')) (k:∀p vs H' c',FInv K Oo c' t' σ H'->Stp Oo c H c' H'->Reps K c' H' vs ds->H' p=none->Q (.ref p) (upd H' p (.lst vs))):RF f σ H Q
inductive RSg (μ:Cf->Hp->D->(V->Hp->Prop)->Prop)(f:M Out)(E:Ends)(σ:L2.St)(H:Hp):Prop where
 | mk (Oo:Addr->Prop) (c:Cf) (t:T) (fi:FInv K Oo c t σ H) (o:Out) (t':T) (e:f t=some (o,t')) (k:∀σ' H' c',FInv K Oo c' t' σ' H'->Stp Oo c H c' H'->
 match (generalizing:=false) o with
 | .next=>E.nx σ' H'
 | .brk=>E.bk σ' H'
 | .cont=>E.ct σ' H'
 | .ret r=>μ c' H' r E.rt):RSg μ f E σ H
def μR:Cf->Hp->D->(V->Hp->Prop)->Prop:=λc H r rt=>∀v,Rep K c H v r->rt v H
def μF:Cf->Hp->D->(V->Hp->Prop)->Prop:=λc H r rt=>match r with
 | .lst ds=>∀p us,H p=none->Reps K c H us ds->rt (.ref p) (upd H p (.lst us))
 | _=>False
abbrev RS (f:M Out):TS:=RSg K (μR K) f
inductive RG (f:D->M Unit)(v:V)(σ:L2.St)(H:Hp)(Q:L2.St->Hp->Prop):Prop where
 | mk (Oo:Addr->Prop) (c:Cf) (t:T) (d:D) (fi:FInv K Oo c t σ H) (r:Rep K c H v d) (t':T) (e:f d t=some ((),t')) (k:∀σ' H' c',FInv K Oo c' t' σ' H'->Stp Oo c H c' H'->Q σ' H'):RG f v σ H Q
structure ItOk (J:It)(c:Cf)(H:Hp)(ds:List D):Prop where
 go:∀c' H' (i:Nat),Ext c H c' H'->i < ds.length->J.go i H'
 yld:∀c' H' (i:Nat) x H'' d,Ext c H c' H'->ds[i]?=some d->J.yld i H' x H''->H''=H'/\Rep K c' H' x d
 stop:∀c' H',Ext c H c' H'->J.stop ds.length H'
inductive RI (f:M (List D))(σ:L2.St)(H:Hp)(R:It->Hp->Prop):Prop where
 | mk (Oo:Addr->Prop) (c:Cf) (t:T) (fi:FInv K Oo c t σ H) (ds:List D) (t':T) (e:f t=some (ds,t')) (k:∀J H' c',FInv K Oo c' t' σ H'->Stp Oo c H c' H'->ItOk K J c' H' ds->R J H'):RI f σ H R
def U6 (R:V->Hp->VK->Prop)(h:D->M D):Prop:=∀{Oo:Addr->Prop} {c:Cf} {t:T} {σ:L2.St} {H:Hp} {x:V} {dx r:D} {t':T} {Q:VK},FInv K Oo c t σ H->Rep K c H x dx->h dx t=some (r,t')->
 (∀v H' c',FInv K Oo c' t' σ H'->Stp Oo c H c' H'->Rep K c' H' v r->Q v H')->R x H Q
def A1 (R:R2)(h:D->D->M D):Prop:=∀{Oo:Addr->Prop} {c:Cf} {t:T} {σ:L2.St} {H:Hp} {x y:V} {dx dy r:D} {t':T} {Q:VK},FInv K Oo c t σ H->Rep K c H x dx->Rep K c H y dy->h dx dy t=some (r,t')->
 (∀v H' c',FInv K Oo c' t' σ H'->Stp Oo c H c' H'->Rep K c' H' v r->Q v H')->R x y H Q
def Du (R:List V->Hp->VK->Prop)(h:List D->M D):Prop:=∀{Oo:Addr->Prop} {c:Cf} {t:T} {σ:L2.St} {H:Hp} {xs:List V} {ds:List D} {r:D} {t':T} {Q:VK},FInv K Oo c t σ H->Reps K c H xs ds->h ds t=some (r,t')->
 (∀v H' c',FInv K Oo c' t' σ H'->Stp Oo c H c' H'->Rep K c' H' v r->Q v H')->R xs H Q
def Nl (R:R2)(h:D->D->M (List D)):Prop:=∀{Oo:Addr->Prop} {c:Cf} {t:T} {σ:L2.St} {H:Hp} {x y:V} {dx dy:D} {r:List D} {t':T} {Q:VK},FInv K Oo c t σ H->Rep K c H x dx->Rep K c H y dy->h dx dy t=some (r,t')->
 (∀p vs H' c',FInv K Oo c' t' σ H'->Stp Oo c H c' H'->Reps K c' H' vs r->H' p=none->Q (.ref p) (upd H' p (.lst vs)))->R x y H Q
def Ku (R:List V->Hp->VK->Prop)(h:List D->M (List D)):Prop:=∀{Oo:Addr->Prop} {c:Cf} {t:T} {σ:L2.St} {H:Hp} {xs:List V} {ds r:List D} {t':T} {Q:VK},FInv K Oo c t σ H->Reps K c H xs ds->h ds t=some (r,t')->
 (∀p vs H' c',FInv K Oo c' t' σ H'->Stp Oo c H c' H'->Reps K c' H' vs r->H' p=none->Q (.ref p) (upd H' p (.lst vs)))->R xs H Q
end
variable {tg:Expr}{j i:Nat}{x:Str}{f g w:M D}{h h':D->D->M D}{R R':R2}{op:CmpOp}{σ:L2.St}
section
variable {X:Cx}{e a b:Expr}{pos:Pos}
theorem AH {t t':TE}(h:PE X e t)(i:∀σ H Q,t' σ H Q->t σ H Q):PE X e t':=λpins s σ H Q I q=>h pins s σ H Q I (i σ H Q q)
theorem IF {t t':TT}(h:PT X e t)(i:∀σ H Q,t' σ H Q->t σ H Q):PT X e t':=λpins s σ H Q I q=>h pins s σ H Q I (i σ H Q q)
theorem Om {t t':TT}(h:PW X e t)(i:∀σ H Q,t' σ H Q->t σ H Q):PW X e t':=λw pins s σ H Q I q=>h w pins s σ H Q I (i σ H Q q)
theorem Oj {es:List Expr}{t t':TA}(h:PA X es t)(i:∀σ H Q,t' σ H Q->t σ H Q):PA X es t':=λpos pins s σ H Q I q=>h pos pins s σ H Q I (i σ H Q q)
theorem A3 {st:Stmt}{t t':TS}(h:PS X st t)(i:∀E σ H,t' E σ H->t E σ H):PS X st t':=λpins s σ H E I q=>h pins s σ H E I (i E σ H q)
theorem Mv {st:List Stmt}{t t':TS}(h:PSs X st t)(i:∀E σ H,t' E σ H->t E σ H):PSs X st t':=λpins s σ H E I q=>h pins s σ H E I (i E σ H q)
theorem ID {t t':TG}(h:PG X e t)(i:∀v σ H Q,t' v σ H Q->t v σ H Q):PG X e t':=λpins s σ H v u Q I r q=>h pins s σ H v u Q I r (i v σ H Q q)
theorem GJ {t t':TI}(h:PI X tg e t)(i:∀σ H R,t' σ H R->t σ H R):PI X tg e t':=λpins s σ H R I q=>h pins s σ H R I (i σ H R q)
def fC (d:D):M D:=ret d
theorem Ju {v:V}{d:D}(h:PE X e (tC v))(r:∀c H,Rep X.K c H v d):PE X e (RE X.K (fC d)):=
 AH h λσ H Q z9=>by
  obtain ⟨Oo,c,t,f,r',t',eq,k⟩:=z9
  cases eq
  exact k v H c f .refl (r c H)
theorem Vr {i:Int}:PE X (.Constant (.int i) j pos) (RE X.K (fC (.int i))):=Ju Wl λ_ _=>.int i
theorem Xi {i:Bool}:PE X (.Constant (.bool i) j pos) (RE X.K (fC (.bl i))):=Ju XA λ_ _=>.bl i
theorem Vw {i:Str}:PE X (.Constant (.str i) j pos) (RE X.K (fC (.str i))):=Ju Wq λ_ _=>.str i
theorem Vs:PE X (.Constant .none j pos) (RE X.K (fC .non)):=Ju Wn λ_ _=>.non
theorem Jv {i:Int}{tk:Tok}(hg:Gl X x)(hm:X.mg x=some (.int i tk))(hd:(x == ("__debug__" : Str))=false:=by decide):PE X (.Name x pos) (RE X.K (fC (.int i))):=
 Ju (Hq hg hm (v:=.int i) ⟨tk,rfl⟩ hd) λ_ _=>.int i
theorem IQ {n:String}(hg:Gl X x)(hm:X.mg x=none)(hv:bootBuiltins x=some (.type n))(hn:x≠"__name__":=by decide)(hd:(x == ("__debug__" : Str))=false:=by decide):PE X (.Name x pos) (RE X.K (fC (.ty n))):=
 Ju (MW hg hm hv (v:=.ty n) rfl hn hd) λ_ _=>.ty n
noncomputable def Ab (i:Nat):M D:=λt=>match t.env[i]? with
 | some (some (.val d))=>some (d,t)
 | some (some (.own ds))=>some (.lst ds,{ t with env:=t.env.set i (some (.val (.lst ds))) })
 | _=>none
theorem Ny {t':T}{r:D}(h:Ab i t=some (r,t')):(t.env[i]?=some (some (.val r))/\t'=t)\/∃ds,t.env[i]?=some (some (.own ds))/\r = .lst ds/\t' = { t with env:=t.env.set i (some (.val (.lst ds))) }:=by
 unfold Ab at h
 cases e:t.env[i]? with
 | none=>rw [e] at h;cases h
 | some o=>
   cases o with
   | none=>rw [e] at h;cases h
   | some sl=>
     cases sl with
     | val d=>rw [e] at h;cases h;exact .inl ⟨rfl,rfl⟩
     | own ds=>rw [e] at h;cases h;exact .inr ⟨ds,rfl,rfl,rfl⟩
theorem Vy (i:Nat){x:Str}(hN:X.N[i]?=some x:=by rfl)(hv:Vis X.env.scope x:=by walk_at "h")(hd:(x == ("__debug__" : Str))=false:=by decide)
 (hcd:(x == ("__classdict__" : Str))=false:=by decide):PE X (.Name x pos) (RE X.K (Ab i)):=
 AH (EA hN hv hd hcd) λσ H Q z9=>by
  obtain ⟨Oo,c,t,f,r,t',eq,k⟩:=z9;rcases Ny eq with ⟨q,rfl⟩ | ⟨ds,q,rfl,rfl⟩
  ·obtain ⟨v,h1,h2⟩:=f.val i r q;exact ⟨v,h1,k v H c f .refl h2⟩
  ·obtain ⟨c',v,f',st,h1,h2⟩:=f.frz q;exact ⟨v,h1,k v H c' f' st h2⟩
def Ac (f g:M D)(h:D->D->M D):M D:=bnd f λx=>bnd g λy=>h x y
theorem RE.two (s:A1 K R h){σ:L2.St}{H:Hp}{Q:VK}(q:RE K (Ac f g h) σ H Q):tOp R (RE K f) (RE K g) σ H Q:=by
 obtain ⟨Oo,c,t,fi,r,t',eq,k⟩:=q;obtain ⟨dx,t1,e1,eq⟩:=Ah eq;obtain ⟨dy,t2,e2,eq⟩:=Ah eq;exact ⟨Oo,c,t,fi,dx,t1,e1,λx H1 c1 f1 s1 rx=>⟨Oo,c1,t1,f1,dy,t2,e2,λy H2 c2 f2 s2 ry=>s f2 (rx.mono s2.ext) ry eq λv H' c' f' s' rv=>k v H' c' f' ((s1.trans s2).trans s') rv⟩⟩
theorem EM {op:Operator}(ho:OpR X (binaryOp op) R)(s:A1 X.K R h)(ha:PE X a (RE X.K f))(hb:PE X b (RE X.K g)):PE X (.BinOp a op b pos) (RE X.K (Ac f g h)):=
 AH (Sk ho ha hb) λ_ _ _ q=>RE.two s q
theorem EZ (ho:OpR X (compareOp op) R)(s:A1 X.K R h)(ha:PE X a (RE X.K f))(hb:PE X b (RE X.K g))(hm:behindInMarks op b=false):PE X (.Compare a [op] [b] pos) (RE X.K (Ac f g h)):=
 AH (TY ho ha hb hm) λ_ _ _ q=>RE.two s q
theorem Xj (hr:IxR X R)(s:A1 X.K R h)(ha:PE X a (RE X.K f))(hb:PE X b (RE X.K g))(hs:Jo b):PE X (.Subscript a b pos) (RE X.K (Ac f g h)):=
 AH (Sj hr ha hb hs) λ_ _ _ q=>RE.two s q
def fUn (f:M D)(h:D->M D):M D:=bnd f h
theorem Xl {op:UnaryOp}{R:V->Hp->VK->Prop}{h:D->M D}(ho:UnR X (unaryOp op) R)(s:U6 X.K R h)(ha:PE X a (RE X.K f)):PE X (.UnaryOp op a pos) (RE X.K (fUn f h)):=
 AH (XC ho ha) λσ H Q z9=>by
  obtain ⟨Oo,c,t,fi,r,t',eq,k⟩:=z9;obtain ⟨dx,t1,e1,eq⟩:=Ah eq;exact ⟨Oo,c,t,fi,dx,t1,e1,λx H1 c1 f1 s1 rx=>s f1 rx eq λv H' c' f' s' rv=>k v H' c' f' (s1.trans s') rv⟩
def toB:D->M Bool
 | .bl b=>ret b
 | _=>fail
def Aj (f:M D):M Bool:=bnd f toB
theorem Iw {d:D}{z:Bool×T}(h:toB d t=some z):∃b,d = .bl b/\z=(b,t):=by
 cases d with
 | bl b=>cases h;exact ⟨b,rfl,rfl⟩
 | _=>cases h
theorem RT.val {Q:Bool->Hp->Prop}(q:RT K (Aj f) σ H Q):RE K f σ H λx H1=>∃k,x = .bl k/\Q k H1:=by
 obtain ⟨Oo,c,t,fi,r,t',eq,k⟩:=q;obtain ⟨d,t1,e1,eq⟩:=Ah eq;obtain ⟨b,rfl,z⟩:=Iw eq
 cases z
 refine ⟨Oo,c,t,fi,_,t',e1,λv H1 c1 f1 s1 rv=>?_⟩
 cases rv
 exact ⟨r,rfl,k H1 c1 f1 s1⟩
theorem VO (h:PE X e (RE X.K f))(he:∀whole,isTrue e X.env whole=(do let v <-whole;standAt e.pos;holding [v] (truthy v)):=by intro _;rfl):PT X e (RT X.K (Aj f)):=
 IF (Wy h he) λ_ _ _ q=>RT.val q
theorem FN (ho:OpR X (compareOp op) R)(s:A1 X.K R h)(ha:PE X a (RE X.K f))(hb:PE X b (RE X.K g))(hm:behindInMarks op b=false):PT X (.Compare a [op] [b] pos) (RT X.K (Aj (Ac f g h))):=
 IF (Ub ho ha hb hm) λσ H Q q=>RE.two s (RT.val q)
def Ci (f g w:M D)(h h':D->D->M D):M D:=bnd f λx=>bnd g λy=>bnd (Aj (h x y)) λk=>if k=true then bnd w λz=>h' y z else ret (.bl false)
theorem RE.chain (s:A1 K R h)(s':A1 K R' h'){σ:L2.St}{H:Hp}{Q:VK}(q:RE K (Ci f g w h h') σ H Q):Mb R R' (RE K f) (RE K g) (RE K w) σ H Q:=by
 obtain ⟨Oo,c,t,fi,r,t',eq,k⟩:=q;obtain ⟨dx,t1,e1,eq⟩:=Ah eq;obtain ⟨dy,t2,e2,eq⟩:=Ah eq;obtain ⟨kb,t3,e3,eq⟩:=Ah eq;obtain ⟨d3,t3',e3',e3⟩:=Ah e3;obtain ⟨b3,rfl,z⟩:=Iw e3
 cases z
 refine ⟨Oo,c,t,fi,dx,t1,e1,λx H1 c1 f1 s1 rx=>⟨Oo,c1,t1,f1,dy,t2,e2,λy H2 c2 f2 s2 ry=>s f2 (rx.mono s2.ext) ry e3' λv H3 c3 f3 s3 rv=>?_⟩⟩
 cases rv
 refine ⟨kb,rfl,?_⟩
 cases kb with
 | false=>
   rw [if_neg uf7] at eq ⊢
   cases eq
   exact k _ H3 c3 f3 ((s1.trans s2).trans s3) (.bl false)
 | true=>
   rw [if_pos rfl] at eq ⊢;obtain ⟨dz,t4,e4,eq⟩:=Ah eq;exact ⟨Oo,c3,t3,f3,dz,t4,e4,λw' H4 c4 f4 s4 rw'=>s' f4 (ry.mono (s3.trans s4).ext) rw' eq λv H' c' f' s' rv=>k v H' c' f' ((((s1.trans s2).trans s3).trans s4).trans s') rv⟩
theorem Lm {d:Expr}{op':CmpOp}(ho:OpR X (compareOp op) R)(ho':OpR X (compareOp op') R')(s:A1 X.K R h)(s':A1 X.K R' h')(ha:PE X a (RE X.K f))(hb:PE X b (RE X.K g))(hd:PE X d (RE X.K w))
 (hm:lastMarks [op,op'] [b,d]=false:=by with_unfolding_all rfl):PE X (.Compare a [op,op'] [b,d] pos) (RE X.K (Ci f g w h h')):=
 AH (QZ ho ho' ha hb hd hm) λ_ _ _ q=>RE.chain s s' q
theorem QD {d:Expr}{op':CmpOp}(ho:OpR X (compareOp op) R)(ho':OpR X (compareOp op') R')(s:A1 X.K R h)(s':A1 X.K R' h')(ha:PE X a (RE X.K f))(hb:PE X b (RE X.K g))(hd:PE X d (RE X.K w))
 (hm:lastMarks [op,op'] [b,d]=false:=by with_unfolding_all rfl):PT X (.Compare a [op,op'] [b,d] pos) (RT X.K (Aj (Ci f g w h h'))):=
 IF (Rb ho ho' ha hb hd hm) λσ H Q q=>RE.chain s s' (RT.val q)
def D4 (f g:M Bool):M Bool:=bnd f λk=>if k=true then g else ret false
def fOr (f g:M Bool):M Bool:=bnd f λk=>if k=true then ret true else g
def Br (f:M Bool):M Bool:=bnd f λk=>ret (!k)
def A5 (f g:M D):M D:=bnd (Aj f) λk=>if k=true then g else ret (.bl false)
def GU (f g:M D):M D:=bnd (Aj f) λk=>if k=true then ret (.bl true) else g
def EL (f:M D):M D:=bnd (Aj f) λk=>ret (.bl (!k))
def fIf (f:M Bool)(g h:M D):M D:=bnd f λk=>if k=true then g else h
variable {f g:M Bool}{u v w:M D}{rest:List Expr}
theorem Xs (h:PW X e (RT X.K f)):PT X e (RT X.K f):=h.pt
theorem Tk (ha:PT X a (RT X.K f)):PW X (.BoolOp .And [a] pos) (RT X.K f):=Uc ha
theorem VQ (ha:PT X a (RT X.K f)):PW X (.BoolOp .Or [a] pos) (RT X.K f):=WE ha
theorem VP (ha:PT X a (RT X.K f))(hb:PW X (.BoolOp .And (b :: rest) pos) (RT X.K g)):PW X (.BoolOp .And (a :: b :: rest) pos) (RT X.K (D4 f g)):=
 Om (WD ha hb) λσ H Q z9=>by
  obtain ⟨Oo,c,t,fi,r,t',eq,k⟩:=z9;obtain ⟨kb,t1,e1,eq⟩:=Ah eq;refine ⟨Oo,c,t,fi,kb,t1,e1,λH1 c1 f1 s1=>?_⟩
  cases kb with
  | false=>rw [if_neg uf7] at eq ⊢;cases eq;exact k H1 c1 f1 s1
  | true=>rw [if_pos rfl] at eq ⊢;exact ⟨Oo,c1,t1,f1,r,t',eq,λH2 c2 f2 s2=>k H2 c2 f2 (s1.trans s2)⟩
theorem Xt (ha:PT X a (RT X.K f))(hb:PW X (.BoolOp .Or (b :: rest) pos) (RT X.K g)):PW X (.BoolOp .Or (a :: b :: rest) pos) (RT X.K (fOr f g)):=
 Om (XI ha hb) λσ H Q z9=>by
  obtain ⟨Oo,c,t,fi,r,t',eq,k⟩:=z9;obtain ⟨kb,t1,e1,eq⟩:=Ah eq;refine ⟨Oo,c,t,fi,kb,t1,e1,λH1 c1 f1 s1=>?_⟩
  cases kb with
  | true=>rw [if_pos rfl] at eq ⊢;cases eq;exact k H1 c1 f1 s1
  | false=>rw [if_neg uf7] at eq ⊢;exact ⟨Oo,c1,t1,f1,r,t',eq,λH2 c2 f2 s2=>k H2 c2 f2 (s1.trans s2)⟩
theorem VN (ha:PT X a (RT X.K f)):PT X (.UnaryOp .Not a pos) (RT X.K (Br f)):=
 IF (Wx ha) λσ H Q z9=>by
  obtain ⟨Oo,c,t,fi,r,t',eq,k⟩:=z9;obtain ⟨kb,t1,e1,eq⟩:=Ah eq
  cases eq
  exact ⟨Oo,c,t,fi,kb,_,e1,λH1 c1 f1 s1=>k H1 c1 f1 s1⟩
theorem Ix {f:M D}{kb:Bool}{t1:T}(h:Aj f t=some (kb,t1)):f t=some (.bl kb,t1):=by
 obtain ⟨d,t2,e1,e2⟩:=Ah h;obtain ⟨b,rfl,z⟩:=Iw e2
 cases z
 exact e1
theorem Vv {op:PySem.BoolOp}(h:PE X a (RE X.K u)):PE X (.BoolOp op [a] pos) (RE X.K u):=Wp h
theorem Vq (ha:PE X a (RE X.K u))(hb:PE X (.BoolOp .And (b :: rest) pos) (RE X.K v)):PE X (.BoolOp .And (a :: b :: rest) pos) (RE X.K (A5 u v)):=
 AH (Wk ha hb) λσ H Q z9=>by
  obtain ⟨Oo,c,t,fi,r,t',eq,k⟩:=z9;obtain ⟨kb,t1,e1,eq⟩:=Ah eq;refine ⟨Oo,c,t,fi,_,t1,Ix e1,λx H1 c1 f1 s1 rx=>?_⟩
  cases rx
  refine ⟨kb,rfl,?_⟩
  cases kb with
  | false=>rw [if_neg uf7] at eq ⊢;cases eq;exact k _ H1 c1 f1 s1 (.bl false)
  | true=>rw [if_pos rfl] at eq ⊢;exact ⟨Oo,c1,t1,f1,r,t',eq,λy H2 c2 f2 s2 ry=>k y H2 c2 f2 (s1.trans s2) ry⟩
theorem Xk (ha:PE X a (RE X.K u))(hb:PE X (.BoolOp .Or (b :: rest) pos) (RE X.K v)):PE X (.BoolOp .Or (a :: b :: rest) pos) (RE X.K (GU u v)):=
 AH (XB ha hb) λσ H Q z9=>by
  obtain ⟨Oo,c,t,fi,r,t',eq,k⟩:=z9;obtain ⟨kb,t1,e1,eq⟩:=Ah eq;refine ⟨Oo,c,t,fi,_,t1,Ix e1,λx H1 c1 f1 s1 rx=>?_⟩
  cases rx
  refine ⟨kb,rfl,?_⟩
  cases kb with
  | true=>rw [if_pos rfl] at eq ⊢;cases eq;exact k _ H1 c1 f1 s1 (.bl true)
  | false=>rw [if_neg uf7] at eq ⊢;exact ⟨Oo,c1,t1,f1,r,t',eq,λy H2 c2 f2 s2 ry=>k y H2 c2 f2 (s1.trans s2) ry⟩
theorem Vt (ha:PE X a (RE X.K u)):PE X (.UnaryOp .Not a pos) (RE X.K (EL u)):=
 AH (Wo ha) λσ H Q z9=>by
  obtain ⟨Oo,c,t,fi,r,t',eq,k⟩:=z9;obtain ⟨kb,t1,e1,eq⟩:=Ah eq
  cases eq
  refine ⟨Oo,c,t,fi,_,_,Ix e1,λx H1 c1 f1 s1 rx=>?_⟩
  cases rx
  exact ⟨kb,rfl,k _ H1 c1 f1 s1 (.bl (!kb))⟩
end
variable {n:Nat}{p:Pos}
section
variable {X:Cx}{e a b:Expr}{es:List Expr}{pos:Pos}
def Ad:M (List D):=ret []
def Aa (f:M D)(g:M (List D)):M (List D):=bnd f λd=>bnd g λds=>ret (d :: ds)
theorem Vp:PA X [] (RA X.K Ad):=Oj E9 λσ H Q z9=>by
 obtain ⟨Oo,c,t,fi,r,t',eq,k⟩:=z9
 cases eq
 exact k [] H c fi .refl .nil
theorem SR {g:M (List D)}(ha:PE X e (RE X.K f))(hr:PA X es (RA X.K g))(hs:starEach (e :: es) X.env=(false,eval e X.env) :: starEach es X.env:=by rfl):PA X (e :: es) (RA X.K (Aa f g)):=
 Oj (CP ha hr hs) λσ H Q z9=>by
  obtain ⟨Oo,c,t,fi,r,t',eq,k⟩:=z9;obtain ⟨d,t1,e1,eq⟩:=Ah eq;obtain ⟨ds,t2,e2,eq⟩:=Ah eq
  cases eq
  exact ⟨Oo,c,t,fi,d,t1,e1,λx H1 c1 f1 s1 rx=>⟨Oo,c1,t1,f1,ds,_,e2,λxs H2 c2 f2 s2 rxs=>k _ H2 c2 f2 (s1.trans s2) (.cons (rx.mono s2.ext) rxs)⟩⟩
def lim {α:Type}(n:Nat)(a:α):M α:=λt=>if n<=LIM then some (a,t) else none
theorem Dv {α:Type}{a:α}{z:α×T}(h:lim n a t=some z):n<=LIM/\z=(a,t):=by
 unfold lim at h
 split at h
 ·next h1=>cases h;exact ⟨h1,rfl⟩
 ·cases h
def Av (f:M (List D)):M D:=bnd f λds=>lim ds.length (.tup ds)
theorem Vx {x1:Nat}{f:M (List D)}(h:PA X es (RA X.K f)):PE X (.Tuple es x1 pos) (RE X.K (Av f)):=
 AH (Pn h) λσ H Q z9=>by
  obtain ⟨Oo,c,t,fi,r,t',eq,k⟩:=z9;obtain ⟨ds,t1,e1,eq⟩:=Ah eq;obtain ⟨hl,z⟩:=Dv eq
  cases z
  refine ⟨Oo,c,t,fi,ds,_,e1,λxs H1 c1 f1 s1 rxs=>⟨by rw [rxs.length];exact un6 hl Bu,λp hp=>?_⟩⟩;exact k _ _ c1 (f1.laid hp) (s1.trans (f1.stp_laid hp)) (.tup AD (f1.s.free hp) (rxs.mono (Ext.laid f1.s hp)))
def AI (f:M (List D)):M (List D):=bnd f λds=>lim ds.length ds
theorem Vz {f:M (List D)}(h:PA X es (RA X.K f)):PE X (.List es pos) (RF X.K (AI f)):=
 AH (Wm h) λσ H Q z9=>by
  obtain ⟨Oo,c,t,fi,r,t',eq,k⟩:=z9;obtain ⟨ds,t1,e1,eq⟩:=Ah eq;obtain ⟨hl,z⟩:=Dv eq
  cases z
  exact ⟨Oo,c,t,fi,_,_,e1,λxs H1 c1 f1 s1 rxs=>⟨by rw [rxs.length];exact un6 hl Bu,λp hp=>k p xs H1 c1 f1 s1 rxs hp⟩⟩
def Ap (f:M (List D)):M D:=bnd f λds=>ret (.lst ds)
theorem SY {f:M (List D)}(h:PE X e (RF X.K f)):PE X e (RE X.K (Ap f)):=
 AH h λσ H Q z9=>by
  obtain ⟨Oo,c,t,fi,r,t',eq,k⟩:=z9;obtain ⟨ds,t1,e1,eq⟩:=Ah eq
  cases eq
  exact ⟨Oo,c,t,fi,ds,_,e1,λp xs H1 c1 f1 s1 rxs hp=>k _ _ c1 (f1.laid hp) (s1.trans (f1.stp_laid hp)) (.lst AD (f1.s.free hp) (rxs.mono (Ext.laid f1.s hp)))⟩
noncomputable def NM (o:Ob):M D:=λt=>some (.obj t.S.length,{ t with S:=t.S++[o] })
def D5 (f:M (List D)):M D:=bnd f λds=>NM (.lst ds)
theorem Vu {f:M (List D)}(h:PE X e (RF X.K f)):PE X e (RE X.K (D5 f)):=
 AH h λσ H Q z9=>by
  obtain ⟨Oo,c,t,fi,r,t',eq,k⟩:=z9;obtain ⟨ds,t1,e1,eq⟩:=Ah eq
  cases eq
  refine ⟨Oo,c,t,fi,ds,_,e1,λp xs H1 c1 f1 s1 rxs hp=>?_⟩;obtain ⟨c2,f2,s2,e2⟩:=f1.newObj (o:=.lst ds) (u:=.lst xs) hp λc' H' ex hu=>⟨xs,hu,rxs.mono ex⟩;exact k _ _ c2 f2 (s1.trans s2) (.obj e2)
abbrev Fn:=List D->List Ob->Option (D×List Ob)
inductive spF (K:PySem.W.Frag)(f:Fn)(vs:List V)(H:Hp)(Q:VK)(E:XK):Prop where
 | mk (c:Cf) (ds:List D) (S:List Ob) (si:SInv K c S H) (rs:Reps K c H vs ds) (r:D) (S':List Ob) (e:f ds S=some (r,S')) (k:∀v H' c',SInv K c' S' H'->Stp c.O c H c' H'->(∀b,c'.O b↔c.O b)->Rep K c' H' v r->Q v H'):spF K f vs H Q E
def Ae (g:Fn)(f:M (List D)):M D:=bnd f λds t=>match g ds t.S with
 | some (r,S')=>some (r,{ t with S:=S' })
 | none=>none
theorem JW {g:Fn}{ds:List D}{r:D}{t':T}(h:(match g ds t.S with | some (r,S')=>some (r,{ t with S:=S' }) | none=>none:Option (D×T))=some (r,t')):∃S',g ds t.S=some (r,S')/\t' = { t with S:=S' }:=by
 cases e:g ds t.S with
 | none=>rw [e] at h;cases h
 | some p=>obtain ⟨r',S'⟩:=p;rw [e] at h;cases h;exact ⟨S',rfl,rfl⟩
theorem ST {k:Nat}{fa:Addr}{fd:FuncData}{ps:List Str}{g:Fn}{f:M (List D)}(F:FnOk X.prog X.w X.K X.mg X.base CX0 k fa fd ps (spF X.K g))(hr:Room k X.A)(hg:Gl X x)(hm:X.mg x=some (.ref fa))(hk:PySem.W.keepIn X.K (.ref fa)=true)(hb:Binds X.K fd ps [])
 (ha:PA X (e :: es) (RA X.K f)) (hdb:(x == ("__debug__" : Str))=false:=by decide) (he:starEach (e :: es) X.env=(false,eval e X.env) :: starEach es X.env:=by rfl) (hpl:(backTo pos (starEach es X.env)).any (·.1)=false:=by rfl) :
 PE X (.Call (.Name x p) (e :: es) [] pos) (RE X.K (Ae g f)):=
 AH (MX F hr hg hm hk hb .nil Si ha hdb he hpl) λσ H Q z9=>by
  obtain ⟨Oo,c,t,fi,r,t',eq,kk⟩:=z9;obtain ⟨ds,t1,e1,eq⟩:=Ah eq;obtain ⟨S',e2,rfl⟩:=JW eq;refine ⟨Oo,c,t,fi,ds,t1,e1,λvs H1 c1 f1 s1 rvs=>?_⟩;show spF X.K g (vs++[]) H1 Q E0;rw [uk2];refine ⟨c1,ds,t1.S,f1.s,rvs,r,S',e2,λv H' c' si st ho rv=>?_⟩;obtain ⟨f2,s2⟩:=f1.after si st ho;exact kk v H' c' f2 (s1.trans s2) rv
def fB (f:M (List D))(h:List D->M D):M D:=bnd f h
theorem RE.callB {f:M (List D)}{h:List D->M D}{R:List V->Hp->VK->Prop}(s:Du K R h){σ:L2.St}{H:Hp}{Q:VK}(q:RE K (fB f h) σ H Q):tCB R (RA K f) σ H Q:=by
 obtain ⟨Oo,c,t,fi,r,t',eq,k⟩:=q;obtain ⟨ds,t1,e1,eq⟩:=Ah eq;exact ⟨Oo,c,t,fi,ds,t1,e1,λxs H1 c1 f1 s1 rxs=>s f1 rxs eq λv H' c' f' s' rv=>k v H' c' f' (s1.trans s') rv⟩
def fBF (f:M (List D))(h:List D->M (List D)):M (List D):=bnd f h
theorem RF.callB {f:M (List D)}{h:List D->M (List D)}{R:List V->Hp->VK->Prop}(s:Ku K R h){σ:L2.St}{H:Hp}{Q:VK}(q:RF K (fBF f h) σ H Q):tCB R (RA K f) σ H Q:=by
 obtain ⟨Oo,c,t,fi,r,t',eq,k⟩:=q;obtain ⟨ds,t1,e1,eq⟩:=Ah eq;exact ⟨Oo,c,t,fi,ds,t1,e1,λxs H1 c1 f1 s1 rxs=>s f1 rxs eq λp vs H' c' f' s' rv hp=>k p vs H' c' f' (s1.trans s') rv hp⟩
theorem RF.two {h:D->D->M (List D)}(s:Nl K R h){σ:L2.St}{H:Hp}{Q:VK}(q:RF K (bnd f λx=>bnd g λy=>h x y) σ H Q):tOp R (RE K f) (RE K g) σ H Q:=by
 obtain ⟨Oo,c,t,fi,r,t',eq,k⟩:=q;obtain ⟨dx,t1,e1,eq⟩:=Ah eq;obtain ⟨dy,t2,e2,eq⟩:=Ah eq;exact ⟨Oo,c,t,fi,dx,t1,e1,λx H1 c1 f1 s1 rx=>⟨Oo,c1,t1,f1,dy,t2,e2,λy H2 c2 f2 s2 ry=>s f2 (rx.mono s2.ext) ry eq λp vs H' c' f' s' rv hp=>k p vs H' c' f' ((s1.trans s2).trans s') rv hp⟩⟩
end
variable {μ:Cf->Hp->D->(V->Hp->Prop)->Prop}
section
variable {X:Cx}{e a b:Expr}{pos:Pos}{st:Stmt}{sts:List Stmt}
noncomputable def Ag (f g:M Out):M Out:=λt=>match f t with
 | some (.next,t1)=>g t1
 | z=>z
def Am:M Out:=ret .next
theorem Ti:PSs X [] (RSg X.K μ Am):=Mv Ua λE σ H z9=>by
 obtain ⟨Oo,c,t,fi,o,t',eq,k⟩:=z9
 cases eq
 exact k σ H c fi .refl
theorem QB {μ:Cf->Hp->D->(V->Hp->Prop)->Prop}{f g:M Out}(h1:PS X st (RSg X.K μ f))(h2:PSs X sts (RSg X.K μ g)):PSs X (st :: sts) (RSg X.K μ (Ag f g)):=
 Mv (Ra h1 h2) λE σ H z9=>by
  obtain ⟨Oo,c,t,fi,o,t',eq,k⟩:=z9;unfold Ag at eq
  cases e1:f t with
  | none=>rw [e1] at eq;cases eq
  | some p=>
    obtain ⟨o1,t1⟩:=p;rw [e1] at eq;refine ⟨Oo,c,t,fi,o1,t1,e1,λσ1 H1 c1 f1 s1=>?_⟩
    cases o1 with
    | next=>exact ⟨Oo,c1,t1,f1,o,t',eq,λσ2 H2 c2 f2 s2=>k σ2 H2 c2 f2 (s1.trans s2)⟩
    | brk=>cases eq;exact k σ1 H1 c1 f1 s1
    | cont=>cases eq;exact k σ1 H1 c1 f1 s1
    | ret d=>cases eq;exact k σ1 H1 c1 f1 s1
theorem Tj {μ:Cf->Hp->D->(V->Hp->Prop)->Prop}{f:M Out}(h1:PS X st (RSg X.K μ f)):PSs X [st] (RSg X.K μ f):=MZ h1
def Ak (f:M D):M Out:=bnd f λd=>ret (.ret d)
theorem OU (h:PE X e (RE X.K f)):PS X (.Return (some e) pos) (RS X.K (Ak f)):=
 A3 (Jb h) λE σ H z9=>by
  obtain ⟨Oo,c,t,fi,o,t',eq,k⟩:=z9;obtain ⟨d,t1,e1,eq⟩:=Ah eq
  cases eq
  exact ⟨Oo,c,t,fi,d,_,e1,λv H1 c1 f1 s1 rv=>k σ H1 c1 f1 s1 v rv⟩
def Dr (f:M D):M Out:=bnd f λ_=>ret .next
theorem ME (h:PE X e (RE X.K f))(hs:swapsWith e none pos.line X.env=pure false:=by rfl):PS X (.Expr e pos) (RSg X.K μ (Dr f)):=
 A3 (FV h hs) λE σ H z9=>by
  obtain ⟨Oo,c,t,fi,o,t',eq,k⟩:=z9;obtain ⟨d,t1,e1,eq⟩:=Ah eq
  cases eq
  exact ⟨Oo,c,t,fi,d,_,e1,λv H1 c1 f1 s1 rv=>k σ H1 c1 f1 s1⟩
def ifS (f:M Bool)(g h:M Out):M Out:=bnd f λk=>if k=true then g else h
theorem Xr {f:M Bool}{g h:M Out}{sa sb:List Stmt}(hc:PT X e (RT X.K f))(ha:PSs X sa (RSg X.K μ g))(hb:PSs X sb (RSg X.K μ h)):PS X (.If e sa sb pos) (RSg X.K μ (ifS f g h)):=
 A3 (XG hc ha hb) λE σ H z9=>by
  obtain ⟨Oo,c,t,fi,o,t',eq,k⟩:=z9;obtain ⟨kb,t1,e1,eq⟩:=Ah eq;refine ⟨Oo,c,t,fi,kb,t1,e1,λH1 c1 f1 s1=>?_⟩
  cases kb with
  | true=>rw [if_pos rfl] at eq ⊢;exact ⟨Oo,c1,t1,f1,o,t',eq,λσ2 H2 c2 f2 s2=>k σ2 H2 c2 f2 (s1.trans s2)⟩
  | false=>rw [if_neg uf7] at eq ⊢;exact ⟨Oo,c1,t1,f1,o,t',eq,λσ2 H2 c2 f2 s2=>k σ2 H2 c2 f2 (s1.trans s2)⟩
noncomputable def Ao (i:Nat)(d:D):M Unit:=λt=>some ((),{ t with env:=t.env.set i (some (.val d)) })
def Aq (i:Nat)(f:M D):M Out:=bnd f λd=>bnd (Ao i d) λ_=>ret .next
theorem RS.set {μ:Cf->Hp->D->(V->Hp->Prop)->Prop}{K:PySem.W.Frag}{i:Nat}{f:M D}{E:Ends}{σ:L2.St}{H:Hp}(q:RSg K μ (Aq i f) E σ H):Ma (RE K f) (IT i) E σ H:=by
 obtain ⟨Oo,c,t,fi,o,t',eq,k⟩:=q;obtain ⟨d,t1,e1,eq⟩:=Ah eq
 cases eq
 exact ⟨Oo,c,t,fi,d,t1,e1,λv H1 c1 f1 s1 rv=>k _ H1 c1 (f1.set rv) s1⟩
theorem VL {pos':Pos}(hN:X.N.Nodup)(hi:X.N[i]?=some x)(hx:Loc X.env.scope x)(he:PE X e (RE X.K f))(hs:swapsWith e (some (.Name x pos')) pos.line X.env=pure false:=by rfl)(hf:X.fn x=true\/X.env.scope.names.lookup x=some .local:=by walk_at "h") :
 PS X (.Assign [.Name x pos'] e pos) (RSg X.K μ (Aq i f)):=A3 (Pz hN hi hx he hs hf) λ_ _ _ q=>RS.set q
def Ce (i:Nat)(f:M (List D)):M Out:=bnd f λds t=>some (.next,{ t with env:=t.env.set i (some (.own ds)) })
theorem RS.own {f:M (List D)}{E:Ends}(q:RSg K μ (Ce i f) E σ H):Ma (RF K f) (IT i) E σ H:=by
 obtain ⟨Oo,c,t,fi,o,t',eq,k⟩:=q;obtain ⟨ds,t1,e1,eq⟩:=Ah eq
 cases eq
 refine ⟨Oo,c,t,fi,ds,t1,e1,λp vs H1 c1 f1 s1 rv hp=>?_⟩;obtain ⟨c2,f2,s2⟩:=f1.setOwn (i:=i) hp rv;exact k _ _ c2 f2 (s1.trans s2)
theorem VJ {f:M (List D)}{pos':Pos}(hN:X.N.Nodup)(hi:X.N[i]?=some x)(hx:Loc X.env.scope x)(he:PE X e (RF X.K f))(hs:swapsWith e (some (.Name x pos')) pos.line X.env=pure false:=by rfl)(hf:X.fn x=true\/X.env.scope.names.lookup x=some .local:=by walk_at "h") :
 PS X (.Assign [.Name x pos'] e pos) (RSg X.K μ (Ce i f)):=A3 (Pz hN hi hx he hs hf) λ_ _ _ q=>RS.own q
theorem Be (hN:X.N.Nodup)(hi:X.N[i]?=some x)(hx:Loc X.env.scope x)(hf:X.fn x=true\/X.env.scope.names.lookup x=some .local:=by walk_at "h"):PG X (.Name x pos) (RG X.K (Ao i)):=
 ID (T0 hN hi hx hf) λv σ H Q z9=>by
  obtain ⟨Oo,c,t,d,fi,rv,t',eq,k⟩:=z9
  cases eq
  exact k _ H c (fi.set rv) .refl
def EC (f:M D)(g:D->M Unit):M Out:=bnd f λd=>bnd (g d) λ_=>ret .next
theorem VH {g:D->M Unit}(he:PE X e (RE X.K f))(hg:PG X tg (RG X.K g))(hs:swapsWithSole [tg] e pos.line X.env=pure false:=by rfl)(hw:swappedStores [tg] e X.env=pure none:=by rfl)(hp:(assignEach [tg] X.env).map (·.2)=[assign tg X.env]:=by rfl) :
 PS X (.Assign [tg] e pos) (RSg X.K μ (EC f g)):=
 A3 (by first | exact Px he hg hs hw | exact Px he hg hs hw hp) λE σ H z9=>by
  obtain ⟨Oo,c,t,fi,o,t',eq,k⟩:=z9;obtain ⟨d,t1,e1,eq⟩:=Ah eq;obtain ⟨u,t2,e2,eq⟩:=Ah eq
  cases eq
  exact ⟨Oo,c,t,fi,d,t1,e1,λv H1 c1 f1 s1 rv=>⟨Oo,c1,t1,d,f1,rv,_,e2,λσ2 H2 c2 f2 s2=>k σ2 H2 c2 f2 (s1.trans s2)⟩⟩
inductive RGs (K:PySem.W.Frag)(f:List D->M Unit)(vs:List V)(σ:L2.St)(H:Hp)(Q:L2.St->Hp->Prop):Prop where
 | mk (Oo:Addr->Prop) (c:Cf) (t:T) (ds:List D) (fi:FInv K Oo c t σ H) (r:Reps K c H vs ds) (t':T) (e:f ds t=some ((),t')) (k:∀σ' H' c',FInv K Oo c' t' σ' H'->Stp Oo c H c' H'->Q σ' H'):RGs K f vs σ H Q
theorem Mt {ts:List Expr}{t t':TGs}(h:PGs X ts t)(i:∀v σ H Q,t' v σ H Q->t v σ H Q):PGs X ts t':=λpins s σ H vs us Q I r q=>h pins s σ H vs us Q I r (i vs σ H Q q)
def EB:List D->M Unit
 | []=>ret ()
 | _=>fail
def Bx (f:D->M Unit)(g:List D->M Unit):List D->M Unit
 | d :: ds=>bnd (f d) λ_=>g ds
 | []=>fail
theorem SZ:PGs X [] (RGs X.K EB):=Mt T1 λvs σ H Q z9=>by
 obtain ⟨Oo,c,t,ds,fi,rv,t',eq,k⟩:=z9
 cases rv with
 | nil=>cases eq;exact ⟨rfl,k σ H c fi .refl⟩
 | cons _ _=>cases eq
theorem RGs.cons {K:PySem.W.Frag}{f:D->M Unit}{g:List D->M Unit}{vs:List V}{σ:L2.St}{H:Hp}{Q:L2.St->Hp->Prop}(q:RGs K (Bx f g) vs σ H Q):Sf (RG K f) (RGs K g) vs σ H Q:=by
 obtain ⟨Oo,c,t,ds,fi,rv,t',eq,k⟩:=q
 cases rv with
 | nil=>cases eq
 | cons r rs=>
   obtain ⟨u,t1,e1,eq⟩:=Ah eq;exact ⟨_,_,rfl,Oo,c,t,_,fi,r,t1,e1,λσ1 H1 c1 f1 s1=>⟨Oo,c1,t1,_,f1,rs.mono s1.ext,t',eq,λσ2 H2 c2 f2 s2=>k σ2 H2 c2 f2 (s1.trans s2)⟩⟩
def unT (n:Nat)(g:List D->M Unit):D->M Unit
 | .tup ds=>if ds.length=n then g ds else fail
 | _=>fail
def CJ (st:D->M Unit)(b:M Out):List D->M Out
 | []=>ret .next
 | d :: r=>λt=>match st d t with
   | none=>none
   | some (_,t1)=>match b t1 with
     | some (.next,t2)=>CJ st b r t2
     | some (.cont,t2)=>CJ st b r t2
     | some (.brk,t2)=>some (.next,t2)
     | some (.ret x,t2)=>some (.ret x,t2)
     | none=>none
def CK (f:M (List D))(st:D->M Unit)(b:M Out):M Out:=bnd f λds=>CJ st b ds
theorem RS.for {f:M (List D)}{g:D->M Unit}{b:M Out}{E:Ends}(q:RSg K μ (CK f g b) E σ H):Rz (RI K f) (RG K g) (RSg K μ b) E σ H:=by
 obtain ⟨Oo,c,t,fi,o,t',eq,k⟩:=q;obtain ⟨ds,t1,e1,eq⟩:=Ah eq;refine ⟨Oo,c,t,fi,ds,t1,e1,λJ H1 c1 f1 s1 it=>?_⟩;refine ⟨λi m σ' H'=>m=ds.length - i/\i<=ds.length/\∃c' t2,FInv K Oo c' t2 σ' H'/\Stp Oo c1 H1 c' H'/\CJ g b (ds.drop i) t2=some (o,t'),⟨_,rfl,up5 _,c1,t1,f1,.refl,by rw [um1];exact eq⟩,?_⟩;rintro i m σ' H' ⟨rfl,hi,c',t2,f2,s2,e2⟩
 by_cases hlt:i < ds.length
 ·refine .inr ⟨it.go c' H' i s2.ext hlt,λσ3 H3=>∃c3 t3,FInv K Oo c3 t3 σ3 H3/\Stp Oo c1 H1 c3 H3/\CJ g b (ds.drop (i + 1)) t3=some (o,t'),λσ3 H3 h=>⟨ds.length - (i + 1),by lia,rfl,hlt,h⟩,λx H'' hy=>?_⟩;obtain ⟨rfl,rx⟩:=it.yld c' H' i x H'' _ s2.ext (ub2 hlt) hy;rw [ub0 hlt] at e2;unfold CJ at e2
  cases e3:g ds[i] t2 with
  | none=>rw [e3] at e2;cases e2
  | some p=>
    obtain ⟨u,t3⟩:=p;rw [e3] at e2
    try dsimp only at e2
    refine ⟨Oo,c',t2,_,f2,rx,t3,e3,λσ3 H3 c3 f3 s3=>?_⟩
    cases e4:b t3 with
    | none=>rw [e4] at e2;cases e2
    | some p=>
      obtain ⟨o4,t4⟩:=p;rw [e4] at e2
      try dsimp only at e2
      refine ⟨Oo,c3,t3,f3,o4,t4,e4,λσ5 H5 c5 f5 s5=>?_⟩;have s':=(s2.trans s3).trans s5
      cases o4 with
      | next=>exact ⟨c5,t4,f5,s',e2⟩
      | cont=>exact ⟨c5,t4,f5,s',e2⟩
      | brk=>cases e2;exact k σ5 H5 c5 f5 (s1.trans s')
      | ret r=>cases e2;exact k σ5 H5 c5 f5 (s1.trans s')
 ·have hi':i=ds.length:=by lia
  subst hi';rw [ui5] at e2
  cases e2
  exact .inl ⟨it.stop c' H' s2.ext,k σ' H' c' f2 (s1.trans s2)⟩
theorem VI {iter:Expr}{body:List Stmt}{f:M (List D)}{g:D->M Unit}{b:M Out}(hp:PassesOwn (model X.prog X.w) X.A X.env X.xe)(hc:X.calm=true)(hi:PI X tg iter (RI X.K f))(hg:PG X tg (RG X.K g))(hb:PSs X body (RSg X.K μ b))
 (hs:∀x,foldedSetIterable iter X.env x=pure x:=by intro _;rfl):PS X (.For tg iter body [] pos) (RSg X.K μ (CK f g b)):=
 A3 (Py hp hc hi hg hb hs) λ_ _ _ q=>RS.for q
theorem ItOk.lst {K:PySem.W.Frag}{c:Cf}{H:Hp}{p:Addr}{ds:List D}(r:∀c' H',Ext c H c' H'->∃vs,SqL K H' p vs/\Reps K c' H' vs ds):ItOk K (Itl K p) c H ds:=by
 refine ⟨λc' H' i ex hi=>?_,λc' H' i x H'' d ex hd hy=>?_,λc' H' ex=>?_⟩
 ·obtain ⟨vs,h1,h2⟩:=r c' H' ex;obtain ⟨v,e,_⟩:=h2.at (ub2 hi);exact ⟨vs,v,h1,e⟩
 ·obtain ⟨vs,h1,h2⟩:=r c' H' ex;obtain ⟨rfl,h⟩:=hy;exact ⟨rfl,h2.get (h vs h1) hd⟩
 ·obtain ⟨vs,h1,h2⟩:=r c' H' ex;exact ⟨vs,h1,by rw [h2.length];exact up3 _⟩
theorem ItOk.tup {K:PySem.W.Frag}{c:Cf}{H:Hp}{p:Addr}{ds:List D}(r:∀c' H',Ext c H c' H'->∃vs,SqT K H' p vs/\Reps K c' H' vs ds):ItOk K (Itt K p) c H ds:=by
 refine ⟨λc' H' i ex hi=>?_,λc' H' i x H'' d ex hd hy=>?_,λc' H' ex=>?_⟩
 ·obtain ⟨vs,h1,h2⟩:=r c' H' ex;obtain ⟨v,e,_⟩:=h2.at (ub2 hi);exact ⟨vs,v,h1,e⟩
 ·obtain ⟨vs,h1,h2⟩:=r c' H' ex;obtain ⟨rfl,h⟩:=hy;exact ⟨rfl,h2.get (h vs h1) hd⟩
 ·obtain ⟨vs,h1,h2⟩:=r c' H' ex;exact ⟨vs,h1,by rw [h2.length];exact up3 _⟩
end
theorem FInv.leave {Oo:Addr->Prop}(f:FInv K Oo c t σ H):SInv K ⟨c.ι,Oo⟩ t.S H/\Ext c H ⟨c.ι,Oo⟩ H:=by
 have ext:Ext c H ⟨c.ι,Oo⟩ H:=⟨λ_ _ e _=>e,λb o _ z=>z.elim .inl λw=>.inr (f.sub b w),λ_ _ e=>e⟩;exact ⟨⟨f.s.len,f.s.nd,λk a o e1 e2=>(f.s.obs k a o e1 e2).mono ext rfl,λb z=>f.s.trk b (f.sub b z),λb z=>f.s.dis b (f.sub b z)⟩,ext⟩
noncomputable def env0 (m:Nat)(ds:List D):List (Option Sl):=ds.map (λd=>some (.val d))++List.replicate (m - ds.length) none
def fnOf (n m:Nat)(g:M Out):Fn:=λds S=>if ds.length=n then (match g ⟨env0 m ds,S⟩ with
 | some (.ret r,t)=>some (r,t.S)
 | some (.next,t)=>some (.non,t.S)
 | _=>none) else none
theorem Gg {ds:List D}{N:List Str}(s:SInv K c S H)(r:Reps K c H vs ds):FInv K c.O c ⟨env0 N.length ds,S⟩ (L2.Dt N vs) H:=by
 have hlen:vs.length=ds.length:=r.length;have none_:∀{i:Nat} {x:Sl},(env0 N.length ds)[i]?=some (some x)->∃d,ds[i]?=some d/\x = .val d:=λ{i x} q=>by
  unfold env0 at q
  by_cases hi:i < ds.length
  ·rw [ua9 (by simpa using hi),ug8,ub2 hi] at q;simp at q;exact ⟨ds[i],ub2 hi,q.symm⟩
  ·rw [ua5 (by simpa using hi),ub3] at q
   split at q <;> simp at q
 refine ⟨s,by simp [env0,L2.Dt,hlen],λ_ z=>z,λi d q=>?_,λi es q=>?_,λi j es _ a q _ _ _=>?_⟩
 ·obtain ⟨d',h1,h2⟩:=none_ q
  cases h2
  obtain ⟨v,h3,h4⟩:=r.at h1;refine ⟨v,?_,h4⟩;unfold L2.Dt;have hi:=(ua8.mp h3).1;rw [ua9 (by simpa using hi),ug8,h3];rfl
 ·obtain ⟨_,_,h2⟩:=none_ q;cases h2
 ·obtain ⟨_,_,h2⟩:=none_ q;cases h2
theorem Xq {P:Program}{w:World}{mg:Str->Option Value}{base:Heap}{qual:Str}{st:Stmt}{fa:Addr}{fd:FuncData}{N ps:List Str}{k:Nat}{g:M Out}(F:Fun K x qual st fa fd)(S:FnScope N ps (Az st))
 (hb:∀(cdv:Value) (A:Around) (outer:List Env) (s:Shared) (H:Hp) (E:XK),Room k (A.deeper (PyProof.Rows.envOfC qual (Az st) s.heap.objs.size fa cdv))->
   PSs (D3 CX0 P w K mg base N qual (Az st) fa cdv A outer s H E).nox (Cv st) (RS K g)):FnOk P w K mg base CX0 (k + 1) fa fd ps (spF K (fnOf ps.length N.length g)):=by
 have hlen:∀{ds:List D} {S:List Ob} {z:D×List Ob},fnOf ps.length N.length g ds S=some z->ds.length=ps.length:=λ{ds S z} h=>by
  unfold fnOf at h
  split at h
  ·next h1=>exact h1
  ·cases h
 refine F.ok S (λvs H Q E h=>?_) (λcdv A outer s H vs Q E hr h=>?_)
 ·obtain ⟨c,ds,S,si,rs,r,S',e,_⟩:=h;rw [rs.length];exact hlen e
 obtain ⟨c,ds,S0,si,rs,r,S',e,kk⟩:=h;refine ⟨RS K g,hb cdv A outer s H E hr,?_⟩;have hl:=hlen e;unfold fnOf at e;rw [if_pos hl] at e
 cases eg:g ⟨env0 N.length ds,S0⟩ with
 | none=>rw [eg] at e;cases e
 | some p=>
   obtain ⟨o,t⟩:=p;rw [eg] at e;refine ⟨c.O,c,_,Gg si rs,o,t,eg,λσ' H' c' f' s'=>?_⟩;obtain ⟨si',ext'⟩:=f'.leave;have st':Stp c.O c H ⟨c'.ι,c.O⟩ H':=⟨s'.ext.trans ext',s'.oo⟩
   cases o with
   | next=>cases e;exact kk .non H' _ si' st' (λ_=>Iff.rfl) .non
   | ret d=>cases e;exact λv rv=>kk v H' _ si' st' (λ_=>Iff.rfl) (rv.mono ext')
   | brk=>cases e
   | cont=>cases e
variable {fr:List Nat}
section
variable {X:Cx}{e a b:Expr}{pos:Pos}
def items:D->M (List D)
 | .lst ds=>ret ds
 | .tup ds=>ret ds
 | .scr ns=>ret (ns.map .int)
 | _=>fail
noncomputable def Bs (lo:Int)(n:Nat):List D:=(List.range n).map λi=>.int (lo + (i:Nat))
theorem ItOk.rng {lo:Int}:ItOk K (Itr lo n) c H (Bs lo n):=by
 refine ⟨λc' H' i ex hi=>?_,λc' H' i x H'' d ex hd hy=>?_,λc' H' ex=>?_⟩
 ·have:i < n:=by simpa [Bs] using hi
  exact this
 ·obtain ⟨rfl,rfl⟩:=hy;refine ⟨rfl,?_⟩;have hi:i < n:=by
   have:=(ua8.mp hd).1;simpa [Bs] using this
  have:d = .int (lo + (i:Nat)):=by
   rw [Bs,ug8,List.getElem?_range hi] at hd;simpa using hd.symm
  rw [this];exact .int _
 ·show n<=(Bs lo n).length;simp [Bs]
noncomputable def BJ (i:Int):Bool:=decide (-(2 ^ 62)<=i) && decide (i < 2 ^ 62)
def JF:List D->M (List D)
 | [.int j]=>λt=>if BJ j=true then some (Bs 0 j.toNat,t) else none
 | _=>fail
def JG:List D->M (List D)
 | [.int i,.int j]=>λt=>if (BJ i && BJ j)=true then some (Bs i (j - i).toNat,t) else none
 | _=>fail
def BB (f:M (List D)):M (List D):=bnd f JF
def Fm (f:M (List D)):M (List D):=bnd f JG
theorem DI {i:Int}(h:BJ i=true) : -(2 ^ 62)<=i/\i < 2 ^ 62:=by
 unfold BJ at h;rw [ui2] at h;exact ⟨uh8 h.1,uh8 h.2⟩
theorem OP {f:M (List D)}(hg:Gl X "range")(hm:X.mg "range" = none)(ha:PA X [a] (RA X.K f))(hs:starEach [a] X.env=[(false,eval a X.env)]:=by rfl):PI X tg (.Call (.Name "range" p) [a] [] pos) (RI X.K (BB f)):=
 GJ (Pq hg hm ha hs) λσ H R z9=>by
  obtain ⟨Oo,c,t,fi,ds,t',eq,k⟩:=z9;obtain ⟨xs,t1,e1,eq⟩:=Ah eq;refine ⟨Oo,c,t,fi,xs,t1,e1,λvs H1 c1 f1 s1 rv=>?_⟩;unfold JF at eq
  split at eq
  ·next j=>
   split at eq
   ·next hs=>
    cases eq
    cases rv with
    | cons r rs=>
      cases rs
      cases r
      obtain ⟨h1,h2⟩:=DI hs;exact ⟨j,rfl,h1,h2,k _ H1 c1 f1 s1 ItOk.rng⟩
   ·cases eq
  ·cases eq
theorem OQ {f:M (List D)}(hg:Gl X "range")(hm:X.mg "range" = none)(ha:PA X [a,b] (RA X.K f))(hs:starEach [a,b] X.env=[(false,eval a X.env),(false,eval b X.env)]:=by rfl)(hs2:starEach [b] X.env=[(false,eval b X.env)]:=by rfl):PI X tg (.Call (.Name "range" p) [a,b] [] pos) (RI X.K (Fm f)):=
 GJ (Ps hg hm ha hs hs2) λσ H R z9=>by
  obtain ⟨Oo,c,t,fi,ds,t',eq,k⟩:=z9;obtain ⟨xs,t1,e1,eq⟩:=Ah eq;refine ⟨Oo,c,t,fi,xs,t1,e1,λvs H1 c1 f1 s1 rv=>?_⟩;unfold JG at eq
  split at eq
  ·next i j=>
   split at eq
   ·next hs=>
    cases eq
    rw [ui2] at hs
    cases rv with
    | cons r rs=>
      cases r
      cases rs with
      | cons r rs=>
        cases rs
        cases r
        obtain ⟨h1,h2⟩:=DI hs.1;obtain ⟨h3,h4⟩:=DI hs.2;exact ⟨i,j,rfl,⟨h1,h2,h3,h4⟩,k _ H1 c1 f1 s1 ItOk.rng⟩
   ·cases eq
  ·cases eq
def A9 (st:D->M Unit)(tst:M Bool)(elt:M D):List D->M (List D)
 | []=>ret []
 | d :: r=>bnd (st d) λ_=>bnd tst λk=>if k=true then bnd elt λx=>bnd (A9 st tst elt r) λxs=>ret (x :: xs) else A9 st tst elt r
noncomputable def XV:Option (Option Sl)->Option Sl
 | some (some (.val d))=>some (.val d)
 | _=>none
def cenv (n:Nat)(fr:List Nat)(env:List (Option Sl)):List (Option Sl):=List.replicate n none++fr.map λi=>XV env[i]?
noncomputable def DM (n:Nat)(fr:List Nat)(σ:L2.St):L2.St:=List.replicate n none++fr.map λi=>(σ[i]?).join
def AF (n:Nat)(fr:List Nat)(f:M (List D))(st:D->M Unit)(tst:M Bool)(elt:M D):M (List D):=bnd f λds t=>match A9 st tst elt ds ⟨cenv n fr t.env,t.S⟩ with
 | some (xs,t')=>if xs.length<=LIM then some (xs,{ t with S:=t'.S }) else none
 | none=>none
theorem HZ {env:List (Option Sl)}{x:Sl}(h:(cenv n fr env)[j]?=some (some x)):∃i d,n<=j/\fr[j - n]?=some i/\env[i]?=some (some (.val d))/\x = .val d:=by
 unfold cenv at h
 by_cases hj:j < n
 ·rw [ua9 (by simpa using hj),ub3] at h
  split at h <;> simp at h
 ·rw [ua5 (by simpa using hj),uc9,ug8] at h
  cases e:fr[j - n]? with
  | none=>rw [e] at h;simp at h
  | some i=>
    rw [e] at h;simp only [uk9,Option.some.injEq] at h
    cases e2:env[i]? with
    | none=>rw [e2] at h;cases h
    | some o=>
      cases o with
      | none=>rw [e2] at h;cases h
      | some sl=>
        cases sl with
        | own _=>rw [e2] at h;cases h
        | val d=>rw [e2] at h;cases h;exact ⟨i,d,by lia,rfl,e2,rfl⟩
theorem Gf {Oo:Addr->Prop}(f:FInv K Oo c t σ H):FInv K c.O c ⟨cenv n fr t.env,t.S⟩ (DM n fr σ) H:=by
 refine ⟨f.s,by simp [cenv,DM],λ_ z=>z,λj d q=>?_,λj es q=>?_,λj _ es _ _ q _ _ _=>?_⟩
 ·obtain ⟨i,d',h0,h1,h2,h3⟩:=HZ q
  cases h3
  obtain ⟨v,h4,h5⟩:=f.val i d h2;refine ⟨v,?_,h5⟩;unfold DM;rw [ua5 (by simpa using h0),uc9,ug8,h1];simp [h4]
 ·obtain ⟨_,_,_,_,_,h⟩:=HZ q;cases h
 ·obtain ⟨_,_,_,_,_,h⟩:=HZ q;cases h
theorem RF.comp {f:M (List D)}{st:D->M Unit}{tst:M Bool}{elt:M D}{Q:VK}(q:RF K (AF n fr f st tst elt) σ H Q):Je (RI K f) (RG K st) (RT K tst) (RE K elt) (DM n fr) σ H Q:=by
 obtain ⟨Oo,c,t,fi,xs,t',eq,k⟩:=q;obtain ⟨ds,t1,e1,eq⟩:=Ah eq;refine ⟨Oo,c,t,fi,ds,t1,e1,λJ H1 c1 f1 s1 it=>?_⟩
 cases e3:A9 st tst elt ds ⟨cenv n fr t1.env,t1.S⟩ with
 | none=>rw [e3] at eq;cases eq
 | some p=>
   obtain ⟨ys,t3⟩:=p;rw [e3] at eq;dsimp only at eq
   split at eq
   case isFalse=>cases eq
   next hl=>
   cases eq
   refine ⟨λi m acc σ' H'=>m=ds.length - i/\i<=ds.length/\∃c' t2 zs rest,FInv K c1.O c' t2 σ' H'/\Stp c1.O c1 H1 c' H'/\Reps K c' H' acc zs/\A9 st tst elt (ds.drop i) t2=some (rest,t3)/\xs=zs++rest,
    ⟨_,rfl,up5 _,c1,_,[],xs,Gf f1,.refl,.nil,by rw [um1];exact e3,rfl⟩,?_⟩
   rintro i m acc σ' H' ⟨rfl,hi,c',t2,zs,rest,f2,s2,ra,e2,ez⟩;have hacc:acc.length<=sizeLine:=by
    have:zs.length<=xs.length:=by rw [ez,ug0];exact ui6 _ _
    rw [ra.length];exact un6 this (un6 hl Bu)
   refine ⟨hacc,?_⟩
   by_cases hlt:i < ds.length
   ·refine .inr ⟨it.go c' H' i s2.ext hlt,λx H'' hy=>?_⟩;obtain ⟨rfl,rx⟩:=it.yld c' H' i x H'' _ s2.ext (ub2 hlt) hy;rw [ub0 hlt] at e2;unfold A9 at e2;obtain ⟨u,t4,e4,e2⟩:=Ah e2;obtain ⟨kb,t5,e5,e2⟩:=Ah e2;refine ⟨c1.O,c',t2,_,f2,rx,t4,e4,λσ3 H3 c3 f3 s3=>⟨c1.O,c3,t4,f3,kb,t5,e5,λH4 c4 f4 s4=>?_⟩⟩
    cases kb with
    | false=>
      rw [if_neg uf7] at e2 ⊢;exact ⟨ds.length - (i + 1),by lia,rfl,hlt,c4,t5,zs,rest,f4,(s2.trans s3).trans s4,ra.mono (s3.trans s4).ext,e2,ez⟩
    | true=>
      rw [if_pos rfl] at e2 ⊢;obtain ⟨x6,t6,e6,e2⟩:=Ah e2;obtain ⟨r7,t7,e7,e2⟩:=Ah e2
      cases e2
      refine ⟨c1.O,c4,t5,f4,x6,t6,e6,λv H5 c5 f5 s5 rv=>?_⟩;exact ⟨ds.length - (i + 1),by lia,rfl,hlt,c5,t6,zs++[x6],r7,f5,((s2.trans s3).trans s4).trans s5,(ra.mono ((s3.trans s4).trans s5).ext).append (.cons rv .nil),e7,by rw [ez,uh0];rfl⟩
   ·have hi':i=ds.length:=by lia
    subst hi';rw [ui5] at e2
    cases e2
    refine .inl ⟨it.stop c' H' s2.ext,λp hp _=>?_⟩;obtain ⟨si,ext⟩:=f2.leave;obtain ⟨f6,s6⟩:=f1.after si ⟨s2.ext.trans ext,s2.oo⟩ (λ_=>Iff.rfl);rw [uk2] at ez;subst ez;exact k p acc H' _ f6 (s1.trans s6) (ra.mono ext) hp
end
end F2
namespace F2
open PySem L2 PySem.Spec PySem.SeqAt
noncomputable def eq0:D->D->Option Bool
 | .int a,.int b=>some (a == b)
 | .str a,.str b=>some (a == b)
 | .bl a,.bl b=>some (a == b)
 | .non,.non=>some true
 | .int _,.str _=>some false
 | .str _,.int _=>some false
 | _,_=>none
noncomputable def CG (f:D->D->Option Bool):List D->List D->Option Bool
 | x :: xs,y :: ys=>match f x y,CG f xs ys with
   | some a,some b=>some (a && b)
   | _,_=>none
 | _,_=>some true
def eqN:Nat->D->D->Option Bool
 | 0,x,y=>eq0 x y
 | n + 1,.tup xs,.tup ys=>(CG (eqN n) xs ys).map λb=>b && xs.length == ys.length
 | n + 1,.lst xs,.lst ys=>if xs.length=ys.length then CG (eqN n) xs ys else some false
 | _ + 1,x,y=>eq0 x y
noncomputable def ej (f:D->D->Option Bool)(xs ys:List D)(j:Nat):Bool:=match xs[j]?,ys[j]? with
 | some d,some e=>(f d e).getD true
 | _,_=>true
theorem CU {f:D->D->Option Bool}:∀{xs ys:List D} {b:Bool},CG f xs ys=some b->b=(List.range (min xs.length ys.length)).all (ej f xs ys)/\∀(j:Nat) d e,xs[j]?=some d->ys[j]?=some e->∃k,f d e=some k
 | [],ys,b,h=>by
   have h:some true=some b:=by simpa [CG] using h
   cases h
   refine ⟨by simp,λj d e q _=>by simp at q⟩
 | x :: xs,[],b,h=>by
   have h:some true=some b:=by simpa [CG] using h
   cases h
   refine ⟨by simp,λj d e _ q=>by simp at q⟩
 | x :: xs,y :: ys,b,h=>by
   unfold CG at h
   cases e1:f x y with
   | none=>rw [e1] at h;cases h
   | some a=>
     cases e2:CG f xs ys with
     | none=>rw [e1,e2] at h;cases h
     | some c=>
       rw [e1,e2] at h
       cases h
       obtain ⟨h1,h2⟩:=CU e2;refine ⟨?_,λj d e q1 q2=>?_⟩
       ·have hm:min (x :: xs).length (y :: ys).length=min xs.length ys.length + 1:=by simp [Nat.succ_min_succ]
        rw [hm,List.range_succ_eq_map,um6,uo2,h1];have:ej f (x :: xs) (y :: ys) 0=a:=by simp [ej,e1]
        rw [this];rfl
       ·cases j with
        | zero=>simp at q1 q2;subst q1 q2;exact ⟨a,e1⟩
        | succ j=>exact h2 j d e (by simpa using q1) (by simpa using q2)
variable {P:Program}{w:World}{H:Hp}{vs:List V}
theorem Gj {h:Heap}{a:Addr}(o:HOk P w H h)(e:H a=some (.lst vs)):∃its:List Value,Vals vs its/\h.IsList a its.toArray:=by
 obtain ⟨_,its,n,r,q⟩:=o a _ e;exact ⟨its,r,_,q,rfl,n,rfl⟩
theorem Hk {h:Heap}{a:Addr}(o:HOk P w H h)(e:H a=some (.tup vs)):∃its:List Value,Vals vs its/\h.IsTuple a its.toArray:=by
 obtain ⟨_,its,r,q⟩:=o a _ e;exact ⟨its,r,q⟩
theorem Jf {its:List Value}{j:Nat}(r:Vals vs its)(h:j < its.toArray.size):∃v,vs[j]?=some v/\RelV v its.toArray[j]:=by
 have h':j < its.length:=by simpa using h
 have hl:j < vs.length:=by rw [r.length];exact h'
 obtain ⟨u,e1,e2⟩:=r.get (ub2 hl);refine ⟨vs[j],ub2 hl,?_⟩;rw [ub2 h'] at e1
 cases e1
 simpa using e2
variable {b:Bool}
theorem OG {f:D->D->Option Bool}{xs ys:List D}(h:CG f xs ys=some b)(ht:∀(j:Nat) d e k,xs[j]?=some d->ys[j]?=some e->f d e=some k->k=true):b=true:=by
 obtain ⟨h1,h2⟩:=CU h;rw [h1,ui7];intro j hj;have hj':=ul7.mp hj;have l1:j < xs.length:=by lia
 have l2:j < ys.length:=by lia
 obtain ⟨k,ek⟩:=h2 j _ _ (ub2 l1) (ub2 l2);have:=ht j _ _ k (ub2 l1) (ub2 l2) ek;unfold ej;rw [ub2 l1,ub2 l2];simp [ek,this]
theorem GP {x y:D}(e:eq0 x y=some b):(∃i j,x = .int i/\y = .int j/\(i == j)=b)\/(∃i j,x = .str i/\y = .str j/\(i == j)=b)\/(∃i j,x = .bl i/\y = .bl j/\(i == j)=b)\/(x = .non/\y = .non/\true=b)\/(∃i j,x = .int i/\y = .str j/\false=b)\/(∃i j,x = .str i/\y = .int j/\false=b):=by
 unfold eq0 at e
 split at e
 ·cases e;exact .inl ⟨_,_,rfl,rfl,rfl⟩
 ·cases e;exact .inr (.inl ⟨_,_,rfl,rfl,rfl⟩)
 ·cases e;exact .inr (.inr (.inl ⟨_,_,rfl,rfl,rfl⟩))
 ·cases e;exact .inr (.inr (.inr (.inl ⟨rfl,rfl,rfl⟩)))
 ·cases e;exact .inr (.inr (.inr (.inr (.inl ⟨_,_,rfl,rfl,rfl⟩))))
 ·cases e;exact .inr (.inr (.inr (.inr (.inr ⟨_,_,rfl,rfl,rfl⟩))))
 ·cases e
theorem GR {n:Nat}{x y:D}(e:eqN n x y=some b):eq0 x y=some b\/(∃m xs ys,n=m + 1/\x = .lst xs/\y = .lst ys/\(if xs.length=ys.length then CG (eqN m) xs ys else some false)=some b)\/∃m xs ys b',n=m + 1/\x = .tup xs/\y = .tup ys/\CG (eqN m) xs ys=some b'/\(b' && xs.length == ys.length)=b:=by
 unfold eqN at e
 split at e
 ·exact .inl e
 ·obtain ⟨b',e1,e2⟩:=uc2.mp e;exact .inr (.inr ⟨_,_,_,b',rfl,rfl,rfl,e1,e2⟩)
 ·exact .inr (.inl ⟨_,_,_,rfl,rfl,rfl,e⟩)
 ·exact .inl e
variable {K:PySem.W.Frag}{c:Cf}
theorem MC:∀(n:Nat) {v:V} {d e:D} {b:Bool},Rep K c H v d->Rep K c H v e->eqN n d e=some b->b=true
 :=by
  intro n
  induction n using Nat.strongRecOn with
  | ind n ih=>
  intro v d e b rd re q;have items:∀{m:Nat} {vs:List V} {ds es:List D} {b':Bool},n=m + 1->Reps K c H vs ds->Reps K c H vs es->CG (eqN m) ds es=some b'->b'=true:=λ{m vs ds es b'} hm r1 r2 e'=>
   OG e' λj d e k q1 q2 ek=>by
    obtain ⟨v,g1,g2⟩:=r1.at q1;exact ih m (by lia) g2 (r2.get g1 q2) ek
  rcases GR q with q0 | ⟨m,ds,es,hm,rfl,rfl,q0⟩ | ⟨m,ds,es,b',hm,rfl,rfl,q1,q2⟩
  ·rcases GP q0 with ⟨i,j,rfl,rfl,rfl⟩ | ⟨i,j,rfl,rfl,rfl⟩ | ⟨i,j,rfl,rfl,rfl⟩ | ⟨rfl,rfl,rfl⟩ | ⟨i,j,rfl,rfl,rfl⟩ | ⟨i,j,rfl,rfl,rfl⟩
   ·cases rd;cases re;simp
   ·cases rd;cases re;simp
   ·cases rd;cases re;simp
   ·cases rd;cases re;rfl
   ·cases rd;cases re
   ·cases rd;cases re
  ·cases rd with
   | lst h1 h2 h3=>
     cases re with
     | lst g1 g2 g3=>
       rw [h1] at g1;cases g1
       rw [if_pos (h3.length.symm.trans g3.length)] at q0;exact items hm h3 g3 q0
  ·cases rd with
   | tup h1 h2 h3=>
     cases re with
     | tup g1 g2 g3=>
       rw [h1] at g1;cases g1
       rw [<-q2,items hm h3 g3 q1,h3.length.symm.trans g3.length];simp
theorem MB {s:Shared}(hok:HOk P w H s.heap):∀(n:Nat) {A:Around} {x y:V} {u v:Value} {dx dy:D} {b:Bool},RelV x u->RelV y v->Rep K c H x dx->Rep K c H y dy->eqN n dx dy=some b->A.units + n < cLine->
 RcAt A s u v b/\(EqAt A s u v b)
 :=by
  intro n
  induction n using Nat.strongRecOn with
  | ind n ih=>
  intro A x y u v dx dy b ru rv rx ry e hu;have items:∀{m:Nat} {vs ws:List V} {is js:List Value} {ds es:List D} {b':Bool},n=m + 1->Vals vs is->Vals ws js->Reps K c H vs ds->Reps K c H ws es->CG (eqN m) ds es=some b'->
   ∀j (h1:j < is.toArray.size) (h2:j < js.toArray.size),EqAt A.in1 s is.toArray[j] js.toArray[j] (ej (eqN m) ds es j):=λ{m vs ws is js ds es b'} hm r1 r2 q1 q2 e' j h1 h2=>by
   obtain ⟨v1,a1,a2⟩:=Jf r1 h1;obtain ⟨v2,b1,b2⟩:=Jf r2 h2;obtain ⟨l1,g1⟩:=ua8.mp a1;obtain ⟨l2,g2⟩:=ua8.mp b1;have k1:ds[j]?=some (ds[j]'(by rw [<-q1.length];exact l1)):=ub2 _;have k2:es[j]?=some (es[j]'(by rw [<-q2.length];exact l2)):=ub2 _;obtain ⟨kk,ek⟩:=(CU e').2 j _ _ k1 k2;have:ej (eqN m) ds es j=kk:=by unfold ej;rw [k1,k2];simp [ek]
   rw [this];have hu':A.in1.units + m < cLine:=by
    have:A.in1.units=A.units + 1:=by first | rfl | exact Around.units_in1 _ | simp [Around.in1,Around.units]
    lia
   exact (ih m (by lia) a2 b2 (q1.get a1 k1) (q2.get b1 k2) ek hu').2
  have hu0:A.units < cLine:=by lia
  have conc:∀{p q:Addr} {k:Bool},p≠q->RcAt A s (.ref p) (.ref q) k->RcAt A s (.ref p) (.ref q) k/\EqAt A s (.ref p) (.ref q) k:=λhn h=>⟨h,EqAt.of_refs hn h⟩;rcases GR e with e0 | ⟨m,ds,es,hm,rfl,rfl,e0⟩ | ⟨m,ds,es,b',hm,rfl,rfl,e1,e2⟩
  ·rcases GP e0 with ⟨i,j,rfl,rfl,rfl⟩ | ⟨i,j,rfl,rfl,rfl⟩ | ⟨i,j,rfl,rfl,rfl⟩ | ⟨rfl,rfl,rfl⟩ | ⟨i,j,rfl,rfl,rfl⟩ | ⟨i,j,rfl,rfl,rfl⟩
   ·cases rx;cases ry;obtain ⟨t',rfl⟩:=ru;obtain ⟨t,rfl⟩:=rv;exact ⟨RcAt.int_int _ _ _ _,EqAt.int_int _ _ _ _⟩
   ·cases rx;cases ry;obtain ⟨t',rfl⟩:=ru;obtain ⟨t,rfl⟩:=rv;exact ⟨RcAt.str_str _ _ _ _,EqAt.str_str _ _ _ _⟩
   ·cases rx;cases ry;cases ru;cases rv;exact ⟨RcAt.bool_bool _ _,EqAt.bool_bool _ _⟩
   ·cases rx;cases ry;cases ru;cases rv;exact ⟨RcAt.none_none,EqAt.same _⟩
   ·cases rx;cases ry;obtain ⟨t',rfl⟩:=ru;obtain ⟨t,rfl⟩:=rv;exact ⟨RcAt.int_str _ _ _ _,EqAt.int_str _ _ _ _⟩
   ·cases rx;cases ry;obtain ⟨t',rfl⟩:=ru;obtain ⟨t,rfl⟩:=rv;exact ⟨RcAt.str_int _ _ _ _,EqAt.str_int _ _ _ _⟩
  ·cases rx with
   | @lst p vs _ g1 g2 g3=>
   cases ry with
   | @lst q ws _ h1 h2 h3=>
     cases ru
     cases rv
     obtain ⟨is,r1,l1⟩:=Gj hok g1;obtain ⟨js,r2,l2⟩:=Gj hok h1;have hs1:is.toArray.size=ds.length:=by rw [<-g3.length,r1.length];simp
     have hs2:js.toArray.size=es.length:=by rw [<-h3.length,r2.length];simp
     by_cases hl:ds.length=es.length
     ·rw [if_pos hl] at e0;have hsz:is.toArray.size=js.toArray.size:=by rw [hs1,hs2,hl]
      have rc:=RcAt.lists l1 l2 hsz hu0 (items hm r1 r2 g3 h3 e0);have eb:(List.range is.toArray.size).all (ej (eqN m) ds es)=b:=by rw [(CU e0).1,hs1,<-hl,Nat.min_self]
      rw [eb] at rc
      by_cases hpq:p=q
      ·refine ⟨rc,?_⟩;subst hpq;rw [MC n (Rep.lst g1 g2 g3) (Rep.lst h1 h2 h3) e];exact EqAt.same _
      ·exact conc hpq rc
     ·rw [if_neg hl] at e0
      cases e0
      have hsz:(is.toArray.size != js.toArray.size)=true:=by rw [hs1,hs2];simpa using hl
      refine conc (λz=>hl ?_) (RcAt.lists_lengths l1 l2 hsz hu0);subst z;rw [g1] at h1;cases h1
      rw [<-g3.length,<-h3.length]
  ·cases rx with
   | @tup p vs _ g1 g2 g3=>
   cases ry with
   | @tup q ws _ h1 h2 h3=>
     cases ru
     cases rv
     obtain ⟨is,r1,l1⟩:=Hk hok g1;obtain ⟨js,r2,l2⟩:=Hk hok h1;have hs1:is.toArray.size=ds.length:=by rw [<-g3.length,r1.length];simp
     have hs2:js.toArray.size=es.length:=by rw [<-h3.length,r2.length];simp
     have rc:=RcAt.tuples l1 l2 hu0 (items hm r1 r2 g3 h3 e1);have eb:((List.range (min is.toArray.size js.toArray.size)).all (ej (eqN m) ds es) && is.toArray.size == js.toArray.size)=b:=by rw [hs1,hs2,<-(CU e1).1];exact e2
     rw [eb] at rc
     by_cases hpq:p=q
     ·refine ⟨rc,?_⟩;subst hpq;rw [MC n (Rep.tup g1 g2 g3) (Rep.tup h1 h2 h3) e];exact EqAt.same _
     ·exact conc hpq rc
theorem TF {s:Shared}(hok:HOk P w H s.heap)(n:Nat){A:Around}{x y:V}{u v:Value}{dx dy:D}{b:Bool}(ru:RelV x u)(rv:RelV y v)(rx:Rep K c H x dx)(ry:Rep K c H y dy)(e:eqN n dx dy=some b)(hu:A.units + n < cLine) :
 RcNeAt A s u v (!b):=by
 have items:∀{m:Nat} {vs ws:List V} {is js:List Value} {ds es:List D} {b':Bool},n=m + 1->Vals vs is->Vals ws js->Reps K c H vs ds->Reps K c H ws es->CG (eqN m) ds es=some b'->
  ∀j (h1:j < is.toArray.size) (h2:j < js.toArray.size),EqAt A.in1 s is.toArray[j] js.toArray[j] (ej (eqN m) ds es j):=λ{m vs ws is js ds es b'} hm r1 r2 q1 q2 e' j h1 h2=>by
  obtain ⟨v1,a1,a2⟩:=Jf r1 h1;obtain ⟨v2,b1,b2⟩:=Jf r2 h2;obtain ⟨l1,g1⟩:=ua8.mp a1;obtain ⟨l2,g2⟩:=ua8.mp b1;have k1:ds[j]?=some (ds[j]'(by rw [<-q1.length];exact l1)):=ub2 _;have k2:es[j]?=some (es[j]'(by rw [<-q2.length];exact l2)):=ub2 _;obtain ⟨kk,ek⟩:=(CU e').2 j _ _ k1 k2;have:ej (eqN m) ds es j=kk:=by unfold ej;rw [k1,k2];simp [ek]
  rw [this];have hu':A.in1.units + m < cLine:=by
   have:A.in1.units=A.units + 1:=rfl;lia
  exact (MB hok m a2 b2 (q1.get a1 k1) (q2.get b1 k2) ek hu').2
 have hu0:A.units < cLine:=by lia
 rcases GR e with e0 | ⟨m,ds,es,hm,rfl,rfl,e0⟩ | ⟨m,ds,es,b',hm,rfl,rfl,e1,e2⟩
 ·rcases GP e0 with ⟨i,j,rfl,rfl,rfl⟩ | ⟨i,j,rfl,rfl,rfl⟩ | ⟨i,j,rfl,rfl,rfl⟩ | ⟨rfl,rfl,rfl⟩ | ⟨i,j,rfl,rfl,rfl⟩ | ⟨i,j,rfl,rfl,rfl⟩
  ·cases rx;cases ry;obtain ⟨t',rfl⟩:=ru;obtain ⟨t,rfl⟩:=rv;exact RcNeAt.int_int _ _ _ _
  ·cases rx;cases ry;obtain ⟨t',rfl⟩:=ru;obtain ⟨t,rfl⟩:=rv;exact RcNeAt.str_str _ _ _ _
  ·cases rx;cases ry;cases ru;cases rv;exact RcNeAt.bool_bool _ _
  ·cases rx;cases ry;cases ru;cases rv;exact RcNeAt.none_none
  ·cases rx;cases ry;obtain ⟨t',rfl⟩:=ru;obtain ⟨t,rfl⟩:=rv;exact RcNeAt.int_str _ _ _ _
  ·cases rx;cases ry;obtain ⟨t',rfl⟩:=ru;obtain ⟨t,rfl⟩:=rv;exact RcNeAt.str_int _ _ _ _
 ·cases rx with
  | @lst p vs _ g1 g2 g3=>
  cases ry with
  | @lst q ws _ h1 h2 h3=>
    cases ru
    cases rv
    obtain ⟨is,r1,l1⟩:=Gj hok g1;obtain ⟨js,r2,l2⟩:=Gj hok h1;have hs1:is.toArray.size=ds.length:=by rw [<-g3.length,r1.length];simp
    have hs2:js.toArray.size=es.length:=by rw [<-h3.length,r2.length];simp
    by_cases hl:ds.length=es.length
    ·rw [if_pos hl] at e0;have hsz:is.toArray.size=js.toArray.size:=by rw [hs1,hs2,hl]
     have rc:=RcNeAt.lists l1 l2 hsz hu0 (items hm r1 r2 g3 h3 e0);rw [show (List.range is.toArray.size).all (ej (eqN m) ds es)=b by rw [(CU e0).1,hs1,<-hl,Nat.min_self]] at rc;exact rc
    ·rw [if_neg hl] at e0
     cases e0
     exact RcNeAt.lists_lengths l1 l2 (by rw [hs1,hs2];simpa using hl) hu0
 ·cases rx with
  | @tup p vs _ g1 g2 g3=>
  cases ry with
  | @tup q ws _ h1 h2 h3=>
    cases ru
    cases rv
    obtain ⟨is,r1,l1⟩:=Hk hok g1;obtain ⟨js,r2,l2⟩:=Hk hok h1;have hs1:is.toArray.size=ds.length:=by rw [<-g3.length,r1.length];simp
    have hs2:js.toArray.size=es.length:=by rw [<-h3.length,r2.length];simp
    have rc:=RcNeAt.tuples l1 l2 hu0 (items hm r1 r2 g3 h3 e1);have eb:((List.range (min is.toArray.size js.toArray.size)).all (ej (eqN m) ds es) && is.toArray.size == js.toArray.size)=b:=by rw [hs1,hs2,<-(CU e1).1];exact e2
    rw [eb] at rc;exact rc
def EQD:Nat:=40
def neD (x y:D):M D:=λt=>(eqN EQD x y).map λb=>(.bl (!b),t)
def NV (K:PySem.W.Frag)(g:Bool->Bool):R2:=λx y H Q=>∃c dx dy b,Rep K c H x dx/\Rep K c H y dy/\eqN EQD dx dy=some b/\Q (.bl (g b)) H
theorem LN {X:Cx}(hu:X.A.units + 64 < cLine):OpR X (compareOp .Eq) (NV X.K id):=by
 intro pins s σ H x y v u Q I rx ry h;obtain ⟨c,dx,dy,b,q1,q2,e,q⟩:=h;have hu':X.A.units + EQD < cLine:=by unfold EQD;lia
 exact (MB I.hok EQD rx ry q1 q2 e hu').1 X.prog X.w _ _ ⟨.bl b,H,I,rfl,q⟩
theorem Pj {X:Cx}(hu:X.A.units + 64 < cLine):OpR X (compareOp .NotEq) (NV X.K (!·)):=by
 intro pins s σ H x y v u Q I rx ry h;obtain ⟨c,dx,dy,b,q1,q2,e,q⟩:=h;have hu':X.A.units + EQD < cLine:=by unfold EQD;lia
 exact TF I.hok EQD rx ry q1 q2 e hu' X.prog X.w _ _ ⟨.bl (!b),H,I,rfl,q⟩
end F2
set_option maxHeartbeats 4000000
namespace F2
open PySem L2 PySem.Spec
variable {g:Int->Int->D}{t:T}{z:D×T}{X:Cx}{c:Cf}{H:Hp}
section
variable {K:PySem.W.Frag}
def i2 (g:Int->Int->D):D->D->M D
 | .int i,.int j=>ret (g i j)
 | _,_=>fail
theorem VS {x y:D}(h:i2 g x y t=some z):∃i j,x = .int i/\y = .int j/\z=(g i j,t):=by
 cases x with
 | int i=>cases y with
   | int j=>cases h;exact ⟨i,j,rfl,rfl,rfl⟩
   | _=>cases h
 | _=>cases h
theorem WT {gV:Int->Int->V}(hr:∀i j c H,Rep K c H (gV i j) (g i j)):A1 K (rI0 gV) (i2 g):=λ{Oo c t σ H x y dx dy r t' Q} f rx ry eq k=>by
 obtain ⟨i,j,rfl,rfl,z⟩:=VS eq
 cases z
 cases rx
 cases ry
 exact ⟨i,j,rfl,rfl,k _ H c f .refl (hr i j c H)⟩
def i2C (C:Int->Int->Bool)(g:Int->Int->D):D->D->M D
 | .int i,.int j=>λt=>if C i j=true then some (g i j,t) else none
 | _,_=>fail
theorem To {C:Int->Int->Bool}{x y:D}(h:i2C C g x y t=some z):∃i j,x = .int i/\y = .int j/\C i j=true/\z=(g i j,t):=by
 cases x with
 | int i=>cases y with
   | int j=>
     unfold i2C at h;dsimp only at h
     by_cases hc:C i j=true
     ·rw [if_pos hc] at h;cases h;exact ⟨i,j,rfl,rfl,hc,rfl⟩
     ·rw [if_neg hc] at h;cases h
   | _=>cases h
 | _=>cases h
theorem EV {P:Int->Int->Prop}{C:Int->Int->Bool}{gV:Int->Int->V}(hP:∀i j,C i j=true->P i j)(hr:∀i j c H,Rep K c H (gV i j) (g i j)):A1 K (rI P gV) (i2C C g):=λ{Oo c t σ H x y dx dy r t' Q} f rx ry eq k=>by
 obtain ⟨i,j,rfl,rfl,hc,z⟩:=To eq
 cases z
 cases rx
 cases ry
 exact ⟨i,j,rfl,rfl,hP i j hc,k _ H c f .refl (hr i j c H)⟩
def Cs:=i2 λi j=>.int (i - j)
noncomputable def Ky (_ j:Int):Bool:=decide (0 < j) && decide (j < 1073741824)
def Fo:=i2C Ky λi j=>.int (i / j)
def EJ:=i2C (λ_ j=>decide (0 < j)) λi j=>.int (i % j)
noncomputable def KD (i j:Int):Bool:=decide (0<=j) && decide (j<=1000000) && decide (i.natAbs < 2 ^ 64)
def Fb:=i2C KD λi j=>.int (i ^ j.toNat)
noncomputable def Gr (i j:Int):Bool:=(decide (-(2 ^ 64) < i) && decide (i < 2 ^ 64)) || (decide (-(2 ^ 64) < j) && decide (j < 2 ^ 64))
def L7:=i2C (λ_ j=>decide (0<=j)) λi j=>.int (i / 2 ^ j.toNat)
theorem Uz:A1 K (rI0 λi j=>.int (i - j)) Cs:=WT λi j _ _=>.int _
theorem Rn:A1 K (rI U0 λi j=>.int (i / j)) Fo:=EV (λi j h=>by
 unfold Ky at h;rw [ui2] at h;exact ⟨uh8 h.1,uh8 h.2⟩) λi j _ _=>.int _
theorem Us:A1 K (rI (λ_ j=>0 < j) λi j=>.int (i % j)) EJ:=EV (λi j h=>uh8 h) λi j _ _=>.int _
theorem Uw:A1 K (rI U1 λi j=>.int (i ^ j.toNat)) Fb:=EV (λi j h=>by
 unfold KD at h;rw [ui2,ui2] at h;exact ⟨uh8 h.1.1,uh8 h.1.2,uh8 h.2⟩) λi j _ _=>.int _
theorem Ux:A1 K (rI (λ_ j=>0<=j) λi j=>.int (i / 2 ^ j.toNat)) L7:=EV (λi j h=>uh8 h) λi j _ _=>.int _
theorem Pa {i j:Int}(h:Gr i j=true):CMul i j:=by
 unfold Gr at h;rw [ul0,ui2,ui2] at h;rcases h with h | h
 ·exact .inl ⟨uh8 h.1,uh8 h.2⟩
 ·exact .inr ⟨uh8 h.1,uh8 h.2⟩
def Ik:D->M D
 | .int i=>ret (.int (-i))
 | _=>fail
theorem Uu:U6 K (rU λi=>.int (-i)) Ik:=λ{Oo c t σ H x dx r t' Q} f rx eq k=>by
 cases rx with
 | int i=>cases eq;exact ⟨i,rfl,k _ H c f .refl (.int _)⟩
 | _=>cases eq
def Qf:D->D->M D
 | .int i,.int j=>ret (.int (i + j))
 | .str x,.str y=>lim (x.length + y.length) (.str (x++y))
 | .lst xs,.lst ys=>lim (xs.length + ys.length) (.lst (xs++ys))
 | .tup xs,.tup ys=>λt=>if xs.isEmpty=false/\xs.length + ys.length<=LIM then some (.tup (xs++ys),t) else none
 | _,_=>fail
def Ud:R2:=λx y H Q=>∃i j,x = .str i/\y = .str j/\i.length + j.length<=sizeLine/\Q (.str (i++j)) H
def NU (K:PySem.W.Frag):R2:=λx y H Q=>rI0 (λi j=>.int (i + j)) x y H Q\/(Ud x y H Q\/(Rg x y H Q\/So K x y H Q))
theorem op_add4:OpR X (binaryOp .Add) (NU X.K):=op_add.or (op_add_str.or (op_cat.or TQ))
theorem Ui:A1 K (NU K) Qf:=λ{Oo c t σ H x y dx dy r t' Q} f rx ry eq k=>by
 cases rx with
 | int i=>
   cases ry with
   | int j=>cases eq;exact .inl ⟨i,j,rfl,rfl,k _ H c f .refl (.int _)⟩
   | _=>cases eq
 | str i=>
   cases ry with
   | str j=>
     obtain ⟨h,z⟩:=Dv eq
     cases z
     exact .inr (.inl ⟨i,j,rfl,rfl,un6 h Bu,k _ H c f .refl (.str _)⟩)
   | _=>cases eq
 | @lst a vs ds h1 h2 h3=>
   cases ry with
   | @lst b ws es g1 g2 g3=>
     obtain ⟨h,z⟩:=Dv eq
     cases z
     refine .inr (.inr (.inl ⟨a,b,vs,ws,rfl,rfl,h1,g1,?_,λp hp=>?_⟩))
     ·rw [h3.length,g3.length];exact un6 h Bu
     ·exact k _ _ c (f.laid hp) (f.stp_laid hp) (.lst AD (f.s.free hp) ((h3.append g3).mono (Ext.laid f.s hp)))
   | _=>cases eq
 | @tup a vs ds h1 h2 h3=>
   cases ry with
   | @tup b ws es g1 g2 g3=>
     unfold Qf at eq;dsimp only at eq
     split at eq
     ·next h=>
      cases eq
      have hne:vs≠[]:=λz=>by
       have:=h3.length;rw [z] at this;have h0:ds.length=0:=this.symm;have:ds=[]:=ub5.mp h0;rw [this] at h;simp at h
      refine .inr (.inr (.inr ⟨a,b,vs,ws,rfl,rfl,SqT.of h1,SqT.of g1,hne,?_,λz=>?_,λz p hp=>?_⟩))
      ·rw [h3.length,g3.length];exact un6 h.2 Bu
      ·subst z;have:es=[]:=ub5.mp g3.length.symm;subst this;rw [uk2] at k;exact k _ H c f .refl (.tup h1 h2 h3)
      ·exact k _ _ c (f.laid hp) (f.stp_laid hp) (.tup AD (f.s.free hp) ((h3.append g3).mono (Ext.laid f.s hp)))
     ·cases eq
   | _=>cases eq
 | _=>cases eq
def Fu:D->D->M (List D)
 | .lst xs,.lst ys=>lim (xs.length + ys.length) (xs++ys)
 | _,_=>fail
theorem Rm:Nl K Rg Fu:=λ{Oo c t σ H x y dx dy r t' Q} f rx ry eq k=>by
 cases rx with
 | @lst a vs ds h1 h2 h3=>
   cases ry with
   | @lst b ws es g1 g2 g3=>
     obtain ⟨h,z⟩:=Dv eq
     cases z
     refine ⟨a,b,vs,ws,rfl,rfl,h1,g1,?_,λp hp=>k p _ H c f .refl (h3.append g3) hp⟩;rw [h3.length,g3.length];exact un6 h Bu
   | _=>cases eq
 | _=>cases eq
def isC:D->D->M D
 | x,.non=>λt=>some (.bl (match x with | .non=>true | _=>false),t)
 | x,.bl b=>λt=>some (.bl (match x with | .bl c=>c == b | _=>false),t)
 | _,_=>fail
def OZ (x y:D):M D:=bnd (isC x y) λd=>match d with | .bl b=>ret (.bl (!b)) | _=>fail
def rIs (g:Bool->Bool):R2:=λx y H Q=>(y = .non\/∃b,y = .bl b)/\Q (.bl (g (decide (x=y)))) H
theorem SL {x y:V}{v u:Value}(rx:RelV x v)(ry:RelV y u)(hy:y = .non\/∃b,y = .bl b):plainIs v u=true/\(v == u)=decide (x=y):=by
 rcases hy with rfl | ⟨b,rfl⟩
 ·cases ry
  cases x with
  | non=>cases rx;exact ⟨rfl,by simp⟩
  | bl _=>cases rx;exact ⟨rfl,by simp⟩
  | int _=>obtain ⟨t,rfl⟩:=rx;exact ⟨rfl,by simp⟩
  | str _=>obtain ⟨t,rfl⟩:=rx;exact ⟨rfl,by simp⟩
  | byt _=>obtain ⟨t,rfl⟩:=rx;exact ⟨rfl,by simp⟩
  | flt _=>obtain ⟨t,rfl⟩:=rx;exact ⟨rfl,by simp⟩
  | ref _=>cases rx;exact ⟨rfl,by simp⟩
  | ty _=>cases rx;exact ⟨rfl,by simp⟩
 ·cases ry
  cases x with
  | non=>cases rx;exact ⟨rfl,by simp⟩
  | bl c=>cases rx;exact ⟨rfl,by simp;cases c <;> cases b <;> rfl⟩
  | int _=>obtain ⟨t,rfl⟩:=rx;exact ⟨rfl,by simp⟩
  | str _=>obtain ⟨t,rfl⟩:=rx;exact ⟨rfl,by simp⟩
  | byt _=>obtain ⟨t,rfl⟩:=rx;exact ⟨rfl,by simp⟩
  | flt _=>obtain ⟨t,rfl⟩:=rx;exact ⟨rfl,by simp⟩
  | ref _=>cases rx;exact ⟨rfl,by simp⟩
  | ty _=>cases rx;exact ⟨rfl,by simp⟩
theorem V9:OpR X (compareOp .Is) (rIs id):=by
 intro pins s σ H x y v u Q I rx ry h;obtain ⟨hy,q⟩:=h;obtain ⟨h1,h2⟩:=SL rx ry hy;exact wpAny_is_plain h1 ⟨.bl _,H,I,by rw [h2];rfl,q⟩
theorem Ts {x y:V}{dx dy:D}(rx:Rep K c H x dx)(ry:Rep K c H y dy)(eq:isC dx dy t=some z):(y = .non\/∃b,y = .bl b)/\z=(.bl (decide (x=y)),t):=by
 cases ry with
 | non=>
   refine ⟨.inl rfl,?_⟩
   cases rx <;> (cases eq;first | rfl | simp)
 | bl b=>
   refine ⟨.inr ⟨b,rfl⟩,?_⟩
   cases rx <;> (cases eq;first | rfl | simp)
   next a=>cases a <;> cases b <;> rfl
 | _=>cases eq
theorem WU:A1 K (rIs id) isC:=λ{Oo c t σ H x y dx dy r t' Q} f rx ry eq k=>by
 obtain ⟨h,z⟩:=Ts rx ry eq
 cases z
 exact ⟨h,k _ H c f .refl (.bl _)⟩
noncomputable def Fq:D->Bool
 | .non=>true | .bl _=>true | .int _=>true | .str _=>true | _=>false
def NY:D->Option (List D)
 | .lst ds=>some ds
 | .tup ds=>some ds
 | _=>none
noncomputable def toV:D->V
 | .bl b=>.bl b | .int i=>.int i | .str x=>.str x | _=>.non
theorem FX {v:V}{d:D}(r:Rep K c H v d)(h:Fq d=true):v=toV d:=by cases r <;> first | rfl | cases h
theorem Fc {c:Cf}{H:Hp}:∀{vs:List V} {ds:List D},Reps K c H vs ds->ds.all Fq=true->vs=ds.map toV
 | _,_,.nil,_=>rfl
 | _,_,.cons r t,h=>by
   rw [um6,ui2] at h;rw [um8,FX r h.1,Fc t h.2]
theorem Gh:∀d:D,EN (toV d)=true:=λd=>by cases d <;> rfl
def inD (neg:Bool)(x y:D):M D:=λt=>match NY y with
 | some ds=>if Fq x=true/\ds.all Fq=true then some (.bl (if neg then !inV (toV x) (ds.map toV) else inV (toV x) (ds.map toV)),t) else none
 | none=>none
theorem PR {neg:Bool}:A1 K (rIn K neg) (inD neg):=λ{Oo c t σ H x y dx dy r t' Q} f rx ry eq k=>by
 unfold inD at eq
 cases ry with
 | @lst a vs ds h1 h2 h3=>
   dsimp only [NY] at eq
   split at eq
   ·next h=>
    cases eq
    refine ⟨a,vs,rfl,.inl (SqL.of h1),?_,?_,?_⟩
    ·rw [FX rx h.1];exact Gh _
    ·rw [Fc h3 h.2,uo2,ui7];exact λd _=>Gh d
    ·rw [FX rx h.1,Fc h3 h.2];exact k _ H c f .refl (.bl _)
   ·cases eq
 | @tup a vs ds h1 h2 h3=>
   dsimp only [NY] at eq
   split at eq
   ·next h=>
    cases eq
    refine ⟨a,vs,rfl,.inr (SqT.of h1),?_,?_,?_⟩
    ·rw [FX rx h.1];exact Gh _
    ·rw [Fc h3 h.2,uo2,ui7];exact λd _=>Gh d
    ·rw [FX rx h.1,Fc h3 h.2];exact k _ H c f .refl (.bl _)
   ·cases eq
 | _=>cases eq
def ixD:D->D->M D
 | .lst ds,.int i=>λt=>(atI ds i).map λd=>(d,t)
 | .tup ds,.int i=>λt=>(atI ds i).map λd=>(d,t)
 | .scr ns,.int i=>λt=>(atI ns i).map λn=>(.int n,t)
 | .str x,.int i=>λt=>if x.length<=LIM then (atI x.cps.toList i).map λn=>(.str ⟨#[n]⟩,t) else none
 | .obj k,.int i=>λt=>match t.S[k]? with
   | some (.lst ds)=>(atI ds i).map λd=>(d,t)
   | _=>none
 | _,_=>fail
theorem F6 {vs:List V}{ds:List D}{i:Int}{d:D}(r:Reps K c H vs ds)(h:atI ds i=some d):∃v,atI vs i=some v/\Rep K c H v d:=by
 unfold atI at h ⊢;obtain ⟨j,h1,h2⟩:=Option.bind_eq_some_iff.mp h;obtain ⟨v,h3,h4⟩:=r.at h2;exact ⟨v,by rw [r.length,h1];exact h3,h4⟩
theorem SJ {α β:Type}(g:α->β)(xs:List α)(i:Int):atI (xs.map g) i=(atI xs i).map g:=by
 unfold atI;rw [uk5]
 cases ixN xs.length i with
 | none=>rfl
 | some j=>simp
theorem VV {dx dy r:D}{t':T}(eq:ixD dx dy t=some (r,t')):∃i,dy = .int i/\((∃ds,dx = .lst ds)\/(∃ds,dx = .tup ds)\/(∃ns,dx = .scr ns)\/(∃z,dx = .str z)\/∃k,dx = .obj k):=by
 unfold ixD at eq
 split at eq
 ·exact ⟨_,rfl,.inl ⟨_,rfl⟩⟩
 ·exact ⟨_,rfl,.inr (.inl ⟨_,rfl⟩)⟩
 ·exact ⟨_,rfl,.inr (.inr (.inl ⟨_,rfl⟩))⟩
 ·exact ⟨_,rfl,.inr (.inr (.inr (.inl ⟨_,rfl⟩)))⟩
 ·exact ⟨_,rfl,.inr (.inr (.inr (.inr ⟨_,rfl⟩)))⟩
 ·cases eq
theorem WV:A1 K (rIx K) ixD:=λ{Oo c t σ H x y dx dy r t' Q} f rx ry eq k=>by
 obtain ⟨i,rfl,hd⟩:=VV eq
 cases ry
 rcases hd with ⟨ds,rfl⟩ | ⟨ds,rfl⟩ | ⟨ns,rfl⟩ | ⟨z,rfl⟩ | ⟨kk,rfl⟩
 ·cases rx with
  | @lst a vs _ h1 h2 h3=>
    obtain ⟨d,e1,e2⟩:=uc2.mp eq
    cases e2
    obtain ⟨v,e3,e4⟩:=F6 h3 e1;exact .inl ⟨a,vs,i,v,rfl,rfl,SqL.of h1,e3,k _ H c f .refl e4⟩
 ·cases rx with
  | @tup a vs _ h1 h2 h3=>
    obtain ⟨d,e1,e2⟩:=uc2.mp eq
    cases e2
    obtain ⟨v,e3,e4⟩:=F6 h3 e1;exact .inr (.inl ⟨a,vs,i,v,rfl,rfl,SqT.of h1,e3,k _ H c f .refl e4⟩)
 ·cases rx with
  | @scr a _ h1=>
    obtain ⟨n,e1,e2⟩:=uc2.mp eq
    cases e2
    exact .inl ⟨a,_,i,.int n,rfl,rfl,h1.sq,by rw [SJ,e1];rfl,k _ H c f .refl (.int n)⟩
 ·cases rx
  unfold ixD at eq;dsimp only at eq
  split at eq
  ·next hl=>
   obtain ⟨n,e1,e2⟩:=uc2.mp eq
   cases e2
   exact .inr (.inr ⟨z,i,n,rfl,rfl,un6 hl Bu,e1,k _ H c f .refl (.str _)⟩)
  ·cases eq
 ·cases rx with
  | @obj a _ h1=>
    unfold ixD at eq;dsimp only at eq
    cases es:t.S[kk]? with
    | none=>rw [es] at eq;cases eq
    | some o=>
      rw [es] at eq
      cases o with
      | dct _ | ins _ _=>cases eq
      | lst ds=>
        obtain ⟨d,e1,e2⟩:=uc2.mp eq
        cases e2
        obtain ⟨vs,g1,g2⟩:=f.s.obs kk a _ h1 es;obtain ⟨v,e3,e4⟩:=F6 g2 e1;exact .inl ⟨a,vs,i,v,rfl,rfl,SqL.of g1,e3,k _ H c f .refl e4⟩
end
variable {f:M D}{id:String}{R:List V->Hp->VK->Prop}{x:Str}{p:Pos}
section
variable {X:Cx}{e a b:Expr}{es:List Expr}{pos:Pos}
inductive RO (K:PySem.W.Frag)(f:M (Option Int))(σ:L2.St)(H:Hp)(Q:Option Int->Hp->Prop):Prop where
 | mk (Oo:Addr->Prop) (c:Cf) (t:T) (fi:FInv K Oo c t σ H) (r:Option Int) (t':T) (e:f t=some (r,t')) (k:∀H' c',FInv K Oo c' t' σ H'->Stp Oo c H c' H'->Q r H'):RO K f σ H Q
theorem Ol {oe:Option Expr}{t t':TO}(h:PO X oe t)(i:∀σ H Q,t' σ H Q->t σ H Q):PO X oe t':=λpins s σ H Q I q=>h pins s σ H Q I (i σ H Q q)
def fNo:M (Option Int):=ret none
def asI:D->M (Option Int)
 | .int i=>ret (some i)
 | _=>fail
def Cd (f:M D):M (Option Int):=bnd f asI
theorem Tf:PO X none (RO X.K fNo):=Ol T7 λσ H Q z9=>by
 obtain ⟨Oo,c,t,fi,r,t',eq,k⟩:=z9
 cases eq
 exact k H c fi .refl
theorem Tg (h:PE X e (RE X.K f)):PO X (some e) (RO X.K (Cd f)):=Ol (T8 h) λσ H Q z9=>by
 obtain ⟨Oo,c,t,fi,r,t',eq,k⟩:=z9;obtain ⟨d,t1,e1,eq⟩:=Ah eq;refine ⟨Oo,c,t,fi,d,t1,e1,λv H1 c1 f1 s1 rv=>?_⟩
 cases rv with
 | int i=>cases eq;exact ⟨i,rfl,k H1 c1 f1 s1⟩
 | _=>cases eq
def Qa (K:PySem.W.Frag)(R:V->Option Int->Option Int->Hp->VK->Prop)(h:D->Option Int->Option Int->M D):Prop:=∀{Oo:Addr->Prop} {c:Cf} {t:T} {σ:L2.St} {H:Hp} {x:V} {dx r:D} {lo hi:Option Int} {t':T} {Q:VK},FInv K Oo c t σ H->Rep K c H x dx->h dx lo hi t=some (r,t')->
 (∀v H' c',FInv K Oo c' t' σ H'->Stp Oo c H c' H'->Rep K c' H' v r->Q v H')->R x lo hi H Q
def fSl (f:M D)(l u:M (Option Int))(h:D->Option Int->Option Int->M D):M D:=bnd f λx=>bnd l λlo=>bnd u λhi=>h x lo hi
theorem Qu {R:V->Option Int->Option Int->Hp->VK->Prop}{h:D->Option Int->Option Int->M D}{l u:M (Option Int)}{lo hi:Option Expr}{p2:Pos}(hr:SlR X R)(s:Qa X.K R h)(he:PE X e (RE X.K f))(hl:PO X lo (RO X.K l))(hu:PO X hi (RO X.K u)):PE X (.Subscript e (.Slice lo hi none p2) pos) (RE X.K (fSl f l u h)):=
 AH (Q0 hr he hl hu) λσ H Q z9=>by
  obtain ⟨Oo,c,t,fi,r,t',eq,k⟩:=z9;obtain ⟨d,t1,e1,eq⟩:=Ah eq;obtain ⟨ol,t2,e2,eq⟩:=Ah eq;obtain ⟨oh,t3,e3,eq⟩:=Ah eq;exact ⟨Oo,c,t,fi,d,t1,e1,λv H1 c1 f1 s1 rv=>⟨Oo,c1,t1,f1,ol,t2,e2,λH2 c2 f2 s2=>⟨Oo,c2,t2,f2,oh,t3,e3,λH3 c3 f3 s3=>
   s f3 (rv.mono (s2.trans s3).ext) eq λv H' c' f' s' rv'=>k v H' c' f' (((s1.trans s2).trans s3).trans s') rv'⟩⟩⟩
def Bh {α:Type}(xs:List α)(lo hi:Option Int):List α:=(xs.drop (HT.sIx xs.length 0 lo)).take (HT.sIx xs.length xs.length hi - HT.sIx xs.length 0 lo)
def slD:D->Option Int->Option Int->M D
 | .lst ds,lo,hi=>ret (.lst (Bh ds lo hi))
 | .scr ns,lo,hi=>ret (.lst ((Bh ns lo hi).map .int))
 | .tup ds,lo,hi=>λt=>if HT.sIx ds.length 0 lo=0/\HT.sIx ds.length ds.length hi=ds.length then none else some (.tup (Bh ds lo hi),t)
 | _,_,_=>fail
theorem Iu {K:PySem.W.Frag}{vs:List V}{ds:List D}(r:Reps K c H vs ds)(lo hi:Option Int):Reps K c H (Gb vs lo hi) (Bh ds lo hi):=by
 unfold Gb Bh;rw [r.length];exact (r.drop _).take _
theorem Qn {α β:Type}(g:α->β)(xs:List α)(lo hi:Option Int):Bh (xs.map g) lo hi=(Bh xs lo hi).map g:=by
 unfold Bh;rw [uk5,List.map_take,List.map_drop]
theorem OF (ns:List Int)(lo hi:Option Int):Gb (ns.map V.int) lo hi=(Bh ns lo hi).map V.int:=Qn V.int ns lo hi
def Ri (K:PySem.W.Frag):V->Option Int->Option Int->Hp->VK->Prop:=λx lo hi H Q=>WK K x lo hi H Q\/WM K x lo hi H Q
theorem sl2:SlR X (Ri X.K):=sl_list.or WX
theorem WW {K:PySem.W.Frag}:Qa K (Ri K) slD:=λ{Oo c t σ H x dx r lo hi t' Q} f rx eq k=>by
 cases rx with
 | @lst p vs ds h1 h2 h3=>
   cases eq
   exact .inl ⟨p,vs,rfl,SqL.of h1,λq hq=>k _ _ c (f.laid hq) (f.stp_laid hq) (.lst AD (f.s.free hq) ((Iu h3 lo hi).mono (Ext.laid f.s hq)))⟩
 | @scr p ns h1=>
   cases eq
   refine .inl ⟨p,_,rfl,h1.sq,λq hq=>k _ _ c (f.laid hq) (f.stp_laid hq) (.lst AD (f.s.free hq) ?_)⟩;rw [OF];exact Reps.ints _
 | @tup p vs ds h1 h2 h3=>
   unfold slD at eq;dsimp only at eq
   split at eq
   ·cases eq
   ·next hn=>
    cases eq
    exact .inr ⟨p,vs,rfl,SqT.of h1,by rw [h3.length];exact hn,λq hq=>k _ _ c (f.laid hq) (f.stp_laid hq) (.tup AD (f.s.free hq) ((Iu h3 lo hi).mono (Ext.laid f.s hq)))⟩
 | _=>cases eq
theorem YI {h:List D->M D}{f:M (List D)}(hc:BA X (.builtin id) R)(s:Du X.K R h)(hg:Gl X x)(hm:X.mg x=none)(hv:bootBuiltins x=some (.builtin id))(ha:PA X (e :: es) (RA X.K f))(hn:x≠"__name__":=by decide)(hdb:(x == ("__debug__" : Str))=false:=by decide)
 (he:starEach (e :: es) X.env=(false,eval e X.env) :: starEach es X.env:=by rfl) (hpl:(backTo pos (starEach es X.env)).any (·.1)=false:=by rfl):PE X (.Call (.Name x p) (e :: es) [] pos) (RE X.K (fB f h)):=
 AH (Fa hc hg hm hv ha hn hdb he hpl) λ_ _ _ q=>RE.callB s q
theorem YJ {h:List D->M D}{f:M (List D)}(hc:BA X (.type id) R)(s:Du X.K R h)(hg:Gl X x)(hm:X.mg x=none)(hv:bootBuiltins x=some (.type id))(ha:PA X (e :: es) (RA X.K f))(hn:x≠"__name__":=by decide)(hdb:(x == ("__debug__" : Str))=false:=by decide)
 (he:starEach (e :: es) X.env=(false,eval e X.env) :: starEach es X.env:=by rfl) (hpl:(backTo pos (starEach es X.env)).any (·.1)=false:=by rfl):PE X (.Call (.Name x p) (e :: es) [] pos) (RE X.K (fB f h)):=
 AH (Ka hc hg hm hv ha hn hdb he hpl) λ_ _ _ q=>RE.callB s q
theorem YK {h:List D->M (List D)}{f:M (List D)}(hc:BA X (.type id) R)(s:Ku X.K R h)(hg:Gl X x)(hm:X.mg x=none)(hv:bootBuiltins x=some (.type id))(ha:PA X (e :: es) (RA X.K f))(hn:x≠"__name__":=by decide)(hdb:(x == ("__debug__" : Str))=false:=by decide)
 (he:starEach (e :: es) X.env=(false,eval e X.env) :: starEach es X.env:=by rfl) (hpl:(backTo pos (starEach es X.env)).any (·.1)=false:=by rfl):PE X (.Call (.Name x p) (e :: es) [] pos) (RF X.K (fBF f h)):=
 AH (Ka hc hg hm hv ha hn hdb he hpl) λ_ _ _ q=>RF.callB s q
theorem Xn {op:Operator}{R:R2}{g:M D}{h:D->D->M (List D)}(ho:OpR X (binaryOp op) R)(s:Nl X.K R h)(ha:PE X a (RE X.K f))(hb:PE X b (RE X.K g)):PE X (.BinOp a op b pos) (RF X.K (bnd f λx=>bnd g λy=>h x y)):=
 AH (Sk ho ha hb) λ_ _ _ q=>RF.two s q
end
section
variable {K:PySem.W.Frag}
theorem Ds {xs:List V}{d:D}(r:Reps K c H xs [d]):∃v,xs=[v]/\Rep K c H v d:=by
 cases r with
 | cons r rs=>cases rs;exact ⟨_,rfl,r⟩
theorem KF {xs:List V}{d e:D}(r:Reps K c H xs [d,e]):∃v u,xs=[v,u]/\Rep K c H v d/\Rep K c H u e:=by
 cases r with
 | cons r rs=>
   obtain ⟨u,rfl,q⟩:=Ds rs;exact ⟨_,u,rfl,r,q⟩
def AC:List D->M D
 | [.lst ds]=>ret (.int ds.length)
 | [.tup ds]=>ret (.int ds.length)
 | [.scr ns]=>ret (.int ns.length)
 | [.str x]=>lim x.length (.int x.length)
 | [.obj k]=>λt=>match t.S[k]? with
   | some (.lst ds)=>some (.int ds.length,t)
   | _=>none
 | _=>fail
theorem Uo:Du K (λxs H Q=>∃x n,xs=[x]/\U2 K x H n/\Q (.int n) H) AC:=λ{Oo c t σ H xs ds r t' Q} f rx eq k=>by
 match ds,rx,eq with
 | [],_,eq=>cases eq
 | d0 :: _ :: _,_,eq=>cases d0 <;> cases eq
 | [d],rx,eq=>
   obtain ⟨v,rfl,rv⟩:=Ds rx
   cases rv with
   | @lst a vs ds h1 h2 h3=>cases eq;exact ⟨_,ds.length,rfl,.inl ⟨vs,SqL.of h1,h3.length.symm⟩,k _ H c f .refl (.int _)⟩
   | @tup a vs ds h1 h2 h3=>cases eq;exact ⟨_,ds.length,rfl,.inr ⟨vs,SqT.of h1,h3.length.symm⟩,k _ H c f .refl (.int _)⟩
   | @scr a ns h1=>cases eq;exact ⟨_,ns.length,rfl,.inl ⟨_,h1.sq,by simp⟩,k _ H c f .refl (.int _)⟩
   | str x=>
     obtain ⟨hl,z⟩:=Dv eq
     cases z
     exact ⟨_,x.length,rfl,⟨un6 hl Bu,rfl⟩,k _ H c f .refl (.int _)⟩
   | @obj a kk h1=>
     unfold AC at eq;dsimp only at eq
     cases es:t.S[kk]? with
     | none=>rw [es] at eq;cases eq
     | some o=>
       rw [es] at eq
       cases o with
       | dct _ | ins _ _=>cases eq
       | lst ds=>
         cases eq
         obtain ⟨vs,g1,g2⟩:=f.s.obs kk a _ h1 es;exact ⟨_,ds.length,rfl,.inl ⟨vs,SqL.of g1,g2.length.symm⟩,k _ H c f .refl (.int _)⟩
   | _=>cases eq
noncomputable def tyD:D->Option String
 | .non=>some "NoneType"
 | .bl _=>some "bool"
 | .int _=>some "int"
 | .str _=>some "str"
 | .lst _=>some "list"
 | .tup _=>some "tuple"
 | .dic=>some "dict"
 | _=>none
noncomputable def GW (n m:String):Option Bool:=match m with
 | "int"=>some (n == "int" || n == "bool")
 | "bool"=>some (n == "bool")
 | "str"=>some (n == "str")
 | "list"=>some (n == "list")
 | "tuple"=>some (n == "tuple")
 | "dict"=>some (n == "dict")
 | _=>none
def D8:List D->M D
 | [d,.ty m]=>λt=>match tyD d with
   | some n=>(GW n m).map λb=>(.bl b,t)
   | none=>none
 | _=>fail
theorem MM {d:D}{n m:String}{b:Bool}(h1:tyD d=some n)(h2:GW n m=some b):PySem.W.kitOne K (.type n) (.type m)=some b:=by
 have hm:m = "int"\/m = "bool"\/m = "str"\/m = "list"\/m = "tuple"\/m = "dict":=by
  unfold GW at h2
  split at h2 <;> simp_all
 have hn:n = "NoneType"\/n = "bool"\/n = "int"\/n = "str"\/n = "list"\/n = "tuple"\/n = "dict":=by
  cases d <;> simp [tyD] at h1 <;> simp [<-h1]
 rcases hm with rfl | rfl | rfl | rfl | rfl | rfl <;> rcases hn with rfl | rfl | rfl | rfl | rfl | rfl | rfl <;> (cases h2;rfl)
def Rh (K:PySem.W.Frag):List V->Hp->VK->Prop:=λxs H Q=>∃x n t b,xs=[x,.ty n]/\TyOf K H x t/\PySem.W.kitOne K t (.type n)=some b/\Q (.bl b) H
theorem La:BA X (.builtin "isinstance") (Rh X.K):=by
 intro pins s σ H xs us Q I r h;obtain ⟨x,n,t,b,rfl,ty,e,q⟩:=h;obtain ⟨u,w',rfl,rx,rt⟩:=Jg r
 cases rt
 exact J3 I rx ty e λtk=>⟨.bl b,H,I.tok tk,rfl,q⟩
theorem M8:Du K (Rh K) D8:=λ{Oo c t σ H xs ds r t' Q} f rx eq k=>by
 unfold D8 at eq
 split at eq
 ·next d m=>
  obtain ⟨v,u,rfl,rv,ru⟩:=KF rx
  cases ru
  cases et:tyD d with
  | none=>rw [et] at eq;cases eq
  | some n=>
    rw [et] at eq;obtain ⟨b,e1,e2⟩:=uc2.mp eq
    cases e2
    refine ⟨v,m,.type n,b,rfl,?_,MM et e1,k _ H c f .refl (.bl b)⟩
    cases rv <;> first | (cases et;first | exact .non | exact .bl _ | exact .int _ | exact .str _ | exact .lst ‹_› | exact .tup ‹_› | exact .dK ‹_›) | cases et
 ·cases eq
def GC:List D->M D
 | [.lst ds]=>ret (.tup ds)
 | [.tup ds]=>ret (.tup ds)
 | [.obj k]=>λt=>match t.S[k]? with
   | some (.lst ds)=>some (.tup ds,t)
   | _=>none
 | _=>fail
theorem UA:Du K (λxs H Q=>∃p ys,xs=[.ref p]/\((SqL K H p ys/\∀l,H l=none->Q (.ref l) (upd H l (.tup ys)))\/(SqT K H p ys/\Q (.ref p) H))) GC:=λ{Oo c t σ H xs ds r t' Q} f rx eq k=>by
 match ds,rx,eq with
 | [],_,eq=>cases eq
 | d0 :: _ :: _,_,eq=>cases d0 <;> cases eq
 | [d],rx,eq=>
   obtain ⟨v,rfl,rv⟩:=Ds rx
   cases rv with
   | @lst a vs ds h1 h2 h3=>cases eq;exact ⟨a,vs,rfl,.inl ⟨SqL.of h1,λq hq=>k _ _ c (f.laid hq) (f.stp_laid hq) (.tup AD (f.s.free hq) (h3.mono (Ext.laid f.s hq)))⟩⟩
   | @tup a vs ds h1 h2 h3=>cases eq;exact ⟨a,vs,rfl,.inr ⟨SqT.of h1,k _ H c f .refl (.tup h1 h2 h3)⟩⟩
   | @obj a kk h1=>
     unfold GC at eq;dsimp only at eq
     cases es:t.S[kk]? with
     | none=>rw [es] at eq;cases eq
     | some o=>
       rw [es] at eq
       cases o with
       | dct _ | ins _ _=>cases eq
       | lst ds=>
         cases eq
         obtain ⟨vs,g1,g2⟩:=f.s.obs kk a _ h1 es;exact ⟨a,vs,rfl,.inl ⟨SqL.of g1,λq hq=>k _ _ c (f.laid hq) (f.stp_laid hq) (.tup AD (f.s.free hq) (g2.mono (Ext.laid f.s hq)))⟩⟩
   | _=>cases eq
def Ih:List D->M (List D)
 | [.lst ds]=>ret ds
 | [.tup ds]=>ret ds
 | [.scr ns]=>ret (ns.map .int)
 | [.obj k]=>λt=>match t.S[k]? with
   | some (.lst ds)=>some (ds,t)
   | _=>none
 | _=>fail
theorem Up:Ku K (λxs H Q=>∃p ys,xs=[.ref p]/\(SqL K H p ys\/SqT K H p ys)/\∀l,H l=none->Q (.ref l) (upd H l (.lst ys))) Ih:=λ{Oo c t σ H xs ds r t' Q} f rx eq k=>by
 match ds,rx,eq with
 | [],_,eq=>cases eq
 | d0 :: _ :: _,_,eq=>cases d0 <;> cases eq
 | [d],rx,eq=>
   obtain ⟨v,rfl,rv⟩:=Ds rx
   cases rv with
   | @lst a vs ds h1 h2 h3=>cases eq;exact ⟨a,vs,rfl,.inl (SqL.of h1),λq hq=>k q vs H c f .refl h3 hq⟩
   | @tup a vs ds h1 h2 h3=>cases eq;exact ⟨a,vs,rfl,.inr (SqT.of h1),λq hq=>k q vs H c f .refl h3 hq⟩
   | @scr a ns h1=>cases eq;exact ⟨a,_,rfl,.inl h1.sq,λq hq=>k q _ H c f .refl (Reps.ints ns) hq⟩
   | @obj a kk h1=>
     unfold Ih at eq;dsimp only at eq
     cases es:t.S[kk]? with
     | none=>rw [es] at eq;cases eq
     | some o=>
       rw [es] at eq
       cases o with
       | dct _ | ins _ _=>cases eq
       | lst ds=>
         cases eq
         obtain ⟨vs,g1,g2⟩:=f.s.obs kk a _ h1 es;exact ⟨a,vs,rfl,.inl (SqL.of g1),λq hq=>k q vs H c f .refl g2 hq⟩
   | _=>cases eq
def Jx:List D->M D
 | [.int i]=>ret (.int i)
 | [.bl b]=>ret (.int (if b then 1 else 0))
 | _=>fail
theorem Um:Du K (λxs H Q=>(∃i,xs=[.int i]/\Q (.int i) H)\/∃k,xs=[.bl k]/\Q (.int (if k then 1 else 0)) H) Jx:=λ{Oo c t σ H xs ds r t' Q} f rx eq k=>by
 match ds,rx,eq with
 | [],_,eq=>cases eq
 | d0 :: _ :: _,_,eq=>cases d0 <;> cases eq
 | [d],rx,eq=>
   obtain ⟨v,rfl,rv⟩:=Ds rx
   cases rv with
   | int i=>cases eq;exact .inl ⟨i,rfl,k _ H c f .refl (.int _)⟩
   | bl b=>cases eq;exact .inr ⟨b,rfl,k _ H c f .refl (.int _)⟩
   | _=>cases eq
def YC:List D->M D
 | [.int i]=>ret (.int (if i < 0 then -i else i))
 | _=>fail
def Gp:List D->M D
 | [.int i,.int j]=>ret (.int (if j < i then j else i))
 | _=>fail
def Ii:List D->M D
 | [.int i,.int j]=>ret (.int (if j > i then j else i))
 | _=>fail
theorem Ur:Du K (λxs H Q=>∃i j,xs=[.int i,.int j]/\Q (.int (if j < i then j else i)) H) Gp:=λ{Oo c t σ H xs ds r t' Q} f rx eq k=>by
 unfold Gp at eq
 split at eq
 ·next i j=>
  obtain ⟨v,u,rfl,rv,ru⟩:=KF rx
  cases rv;cases ru;cases eq
  exact ⟨i,j,rfl,k _ H c f .refl (.int _)⟩
 ·cases eq
theorem Uq:Du K (λxs H Q=>∃i j,xs=[.int i,.int j]/\Q (.int (if j > i then j else i)) H) Ii:=λ{Oo c t σ H xs ds r t' Q} f rx eq k=>by
 unfold Ii at eq
 split at eq
 ·next i j=>
  obtain ⟨v,u,rfl,rv,ru⟩:=KF rx
  cases rv;cases ru;cases eq
  exact ⟨i,j,rfl,k _ H c f .refl (.int _)⟩
 ·cases eq
def Gu:List D->M D
 | [.str x]=>λt=>if x.length=1 then some (.int (x.cps.getD 0 0:Nat),t) else none
 | _=>fail
theorem Uv:Du K (λxs H Q=>∃x,xs=[.str x]/\x.length=1/\Q (.int (x.cps.getD 0 0:Nat)) H) Gu:=λ{Oo c t σ H xs ds r t' Q} f rx eq k=>by
 match ds,rx,eq with
 | [],_,eq=>cases eq
 | d0 :: _ :: _,_,eq=>cases d0 <;> cases eq
 | [d],rx,eq=>
   obtain ⟨v,rfl,rv⟩:=Ds rx
   cases rv with
   | str x=>
     unfold Gu at eq;dsimp only at eq
     split at eq
     ·next h=>cases eq;exact ⟨x,rfl,h,k _ H c f .refl (.int _)⟩
     ·cases eq
   | _=>cases eq
end
end F2
namespace L2
open PySem PySem.Spec PyProof.Rows
open AutoSeq1 (wpAny_loadPart')
def Sn (K:PySem.W.Frag):R2:=λx y H Q=>∃a b ys,x = .ref a/\y = .ref b/\SqT K H a []/\SqT K H b ys/\Q (.ref b) H
theorem TN {X:Cx}:OpR X (binaryOp .Add) (Sn X.K):=by
 intro pins s σ H x y v u Q I rx ry h;obtain ⟨a,b,ys,rfl,rfl,h1,h2,q⟩:=h
 cases rx
 cases ry
 obtain ⟨its,r,⟨⟨cls,dd,data,sl⟩,ho,hc,n,hd⟩,z⟩:=I.tuple h1;obtain ⟨its2,r2,⟨⟨cls2,dd2,data2,sl2⟩,ho2,hc2,n2,hd2⟩,z2⟩:=I.tuple h2;simp only at hc hd hc2 hd2;subst hc hd hc2 hd2
 cases r
 exact concat_meets ⟨_,ho,rfl⟩ ⟨_,ho2,rfl⟩ noFill_tuple_add seq_tuple_add uc0 ub4 (ub1 _ _)
  (tuple_addW0 a b #[] its2.toArray n n2 dd dd2 sl sl2 rfl) ⟨ho,ho2,.ref b,H,I,rfl,q⟩
theorem Il:fillsNumberSlot (.type "tuple") "mul" = pure false:=
 PySem.fillsNumberSlot_seq (id:="tuple.__mul__") (r:=some (.builtin "tuple.__rmul__")) F.slot_tuple_mul.lookup (by decide +kernel) F.slot_tuple_rmul.lookup (by decide +kernel)
theorem LZ:seqRepeat? (.type "tuple")=pure (some (.builtin "tuple.__mul__")):=by
 unfold seqRepeat?;rw [PySem.seqSlot_of (T:="tuple") (name:="__mul__") (id:="tuple.__mul__") F.slot_tuple_mul.lookup (by decide +kernel),PySem.seqSlot_of (T:="tuple") (name:="__rmul__") (id:="tuple.__rmul__") F.slot_tuple_rmul.lookup (by decide +kernel)];rfl
theorem JE (a:Int)(t:Tok)(l:Addr)(items:Array Value)(n:Nat)(dd:Option Addr)(sl:Array (Option Value)) :
 Meets (Builtin.«int.__rmul__» ⟨[.int a t,.ref l],[]⟩) (λ_ R s=>s.heap.get? l=some { cls:=.type "tuple",dict:=dd,data:=.seq items n,slots:=sl }/\R (.ok (.ret Value.notImplemented)) s):=
 .of_wp λprog w A R s h=>by obtain ⟨hp,g,d,tk,os⟩:=s;obtain ⟨hl,h⟩:=h;wp_walk;exact ⟨_,rfl,h⟩
theorem Mo (l:Addr)(items:Array Value)(n:Nat)(dd:Option Addr)(sl:Array (Option Value))(x:Int)(u:Tok)(hc0:(decide (x < -(2 ^ 63)) || decide (x ≥ 2 ^ 63))=false)(hc1:(items.isEmpty || x == 1)=true) :
 Meets (Builtin.«tuple.__mul__» ⟨[.ref l,.int x u],[]⟩) (λ_ R s=>s.heap.get? l=some { cls:=.type "tuple",dict:=dd,data:=.seq items n,slots:=sl }/\R (.ok (.ret (Value.ref l))) s):=
 .of_wp λprog w A R s h=>by
  obtain ⟨hp,g,d,tk,os⟩:=s;obtain ⟨hl,h⟩:=h;have f1:=AutoSeq1.idx_int;have f2:=AutoSeq1.sub_tuple_tuple;have f3:=AutoSeq1.sub_list_list;have f4:=AutoSeq1.sub_tuple_list;have f5:=AutoSeq1.sub_list_tuple
  wp_walk using wpAny_loadPart' hl
  refine wpAny_ite_split (λz=>absurd z (by rw [hc0];decide)) λ_=>?_
  wp_walk using wpAny_loadPart' hl
  exact ⟨_,rfl,h⟩
theorem Mp (l:Addr)(items:Array Value)(n:Nat)(dd:Option Addr)(sl:Array (Option Value))(x:Int)(u:Tok)(hc0:(decide (x < -(2 ^ 63)) || decide (x ≥ 2 ^ 63))=false)(hc1:(items.isEmpty || x == 1)=false)(hc2:(decide (x<=0) || items.isEmpty)=true) :
 Meets (Builtin.«tuple.__mul__» ⟨[.ref l,.int x u],[]⟩) (λ_ R s=>s.heap.get? l=some { cls:=.type "tuple",dict:=dd,data:=.seq items n,slots:=sl }/\R (.ok (.ret (Value.ref s.heap.objs.size))) { s with heap:=s.heap.push { cls:=Value.type "tuple",data:=Data.seq #[] },toks:=s.toks }):=
 .of_wp λprog w A R s h=>by
  obtain ⟨hp,g,d,tk,os⟩:=s;obtain ⟨hl,h⟩:=h;have f1:=AutoSeq1.idx_int;have f2:=AutoSeq1.sub_tuple_tuple;have f3:=AutoSeq1.sub_list_list;have f4:=AutoSeq1.sub_tuple_list;have f5:=AutoSeq1.sub_list_tuple
  wp_walk using wpAny_loadPart' hl
  refine wpAny_ite_split (λz=>absurd z (by rw [hc0];decide)) λ_=>?_
  wp_walk using wpAny_loadPart' hl
  exact ⟨_,rfl,h⟩
theorem Mq (l:Addr)(items:Array Value)(n:Nat)(dd:Option Addr)(sl:Array (Option Value))(x:Int)(u:Tok)(hc0:(decide (x < -(2 ^ 63)) || decide (x ≥ 2 ^ 63))=false)(hc1:(items.isEmpty || x == 1)=false)(hc2:(decide (x<=0) || items.isEmpty)=false)
 (hc3:¬(items.size:Int) * x > (2 ^ 63 - 1) / 8) (hc4:Builtin.Tuple.tupleTooMany ((items.size:Int) * x)=false) (hsz:(List.foldl (λx1 x2=>x1++x2) #[] (List.replicate x.toNat items)).size<=sizeLine) :
 Meets (Builtin.«tuple.__mul__» ⟨[.ref l,.int x u],[]⟩) (λ_ R s=>s.heap.get? l=some { cls:=.type "tuple",dict:=dd,data:=.seq items n,slots:=sl }/\R (.ok (.ret (Value.ref s.heap.objs.size))) { s with heap:=s.heap.push { cls:=Value.type "tuple",data:=Data.seq (List.foldl (λx1 x2=>x1++x2) #[] (List.replicate x.toNat items)) },toks:=s.toks }):=
 .of_wp λprog w A R s h=>by
  obtain ⟨hp,g,d,tk,os⟩:=s;obtain ⟨hl,h⟩:=h;have f1:=AutoSeq1.idx_int;have f2:=AutoSeq1.sub_tuple_tuple;have f3:=AutoSeq1.sub_list_list;have f4:=AutoSeq1.sub_tuple_list;have f5:=AutoSeq1.sub_list_tuple
  wp_walk using wpAny_loadPart' hl
  refine wpAny_ite_split (λz=>absurd z (by rw [hc0];decide)) λ_=>?_
  wp_walk using wpAny_loadPart' hl
  refine wpAny_ite_split (λz=>absurd z hc3) λ_=>?_
  wp_walk using wpAny_loadPart' hl
  exact ⟨_,rfl,h⟩
end L2
namespace L2
open PySem PySem.Spec PyProof.Rows
open AutoSeq1 (wpAny_loadPart')
def Sw (K:PySem.W.Frag):R2:=λx y H Q=>∃a k xs,x = .ref a/\y = .int k/\SqT K H a xs/\-(2 ^ 62)<=k/\k < 2 ^ 62/\xs.length * k.toNat<=sizeLine/\
 ((xs=[]\/k=1)->Q (.ref a) H)/\(¬(xs=[]\/k=1)->∀p,H p=none->Q (.ref p) (upd H p (.tup (List.replicate k.toNat xs).flatten)))
theorem Inv.tnew {X:Cx}{pins:List (Addr×Obj)}{σ:L2.St}{H:Hp}{s:Shared}{ys:List V}{its:List Value}{t':Nat}(I:Inv X pins σ H s)(hv:Vals ys its)(hz:ys.length<=sizeLine) :
 Inv X pins σ (upd H s.heap.objs.size (.tup ys)) { s with heap:=s.heap.push { cls:=.type "tuple",data:=.seq its.toArray },toks:=t' }:=
 I.laid (λb u e=>ub9 _ e) (up3 _) ⟨hz,its,hv,⟨_,ue7 _ rfl,rfl,_,rfl⟩⟩
theorem op_mulT {X:Cx}:OpR X (binaryOp .Mult) (Sw X.K):=by
 intro pins s σ H x y v u Q I rx ry h;obtain ⟨a,k,xs,rfl,rfl,hq,h1,h2,hz,q1,q2⟩:=h
 cases rx
 obtain ⟨t,rfl⟩:=ry;obtain ⟨its,r,⟨⟨cls,dd,data,sl⟩,ho,hc,n,hd⟩,z⟩:=I.tuple hq;simp only at hc hd;subst hc hd;have hl:=r.length;have hc0:(decide (k < -(2 ^ 63)) || decide (k ≥ 2 ^ 63))=false:=by
  rw [ue0];exact ⟨ul6 (by lia),ul6 (by lia)⟩
 refine wpAny_binaryOp_repeat_ref (T:="tuple") (U:="int") (by decide) ⟨_,ho,rfl⟩ (λs'=>typeIs_int s' k t) Il F.fills_int_mul F.slot_int_rmul LZ F.slot_int_index.lookup
  (call_meets F.slot_int_rmul (typeIs_int s k t) F.entry_int_rmul (F.args_int_rmul_2 _ _) (JE k t a its.toArray n dd sl) ⟨ho,rfl,⟨_,ho,rfl⟩,?_⟩)
 by_cases hs:xs=[]\/k=1
 ·have hc1:(its.toArray.isEmpty || k == 1)=true:=by
   rw [ul0];rcases hs with z | z
   ·subst z;cases r;exact .inl rfl
   ·exact .inr (by simp [z])
  exact call_meets F.slot_tuple_mul ⟨_,ho,rfl⟩ F.entry_tuple_mul (F.args_tuple_mul_2 _ _) (Mo a its.toArray n dd sl k t hc0 hc1) ⟨ho,.ref a,H,I,rfl,q1 hs⟩
 ·have hne:its≠[]:=λz=>hs (.inl (by subst z;cases r;rfl))
  have hk1:k≠1:=λz=>hs (.inr z);have hem:its.toArray.isEmpty=false:=by cases its with | nil=>exact absurd rfl hne | cons _ _=>rfl
  have hc1:(its.toArray.isEmpty || k == 1)=false:=by rw [hem];simpa using hk1
  by_cases hk:k<=0
  ·have hc2:(decide (k<=0) || its.toArray.isEmpty)=true:=by rw [um3 hk];rfl
   refine call_meets F.slot_tuple_mul ⟨_,ho,rfl⟩ F.entry_tuple_mul (F.args_tuple_mul_2 _ _) (Mp a its.toArray n dd sl k t hc0 hc1 hc2) ⟨ho,?_⟩;have hk0:k.toNat=0:=by lia
   refine ⟨.ref _,_,I.tnew (t':=s.toks) (ys:=[]) (its:=[]) .nil (up5 _),rfl,?_⟩;have:=q2 hs _ I.fresh;rw [hk0] at this;exact this
  ·have hc2:(decide (k<=0) || its.toArray.isEmpty)=false:=by rw [ul6 hk,hem];rfl
   have hsz:its.length * k.toNat<=sizeLine:=by rw [<-hl];exact hz
   have hmul:((its.toArray.size:Nat):Int) * k=((its.length * k.toNat:Nat):Int):=by
    rw [ug7,Int.natCast_mul,uf0 (by lia)]
   have hline:(sizeLine:Nat)<=(2 ^ 63 - 1) / 8:=by decide
   have hc3:¬(its.toArray.size:Int) * k > (2 ^ 63 - 1) / 8:=by rw [hmul];lia
   have hc4:Builtin.Tuple.tupleTooMany ((its.toArray.size:Int) * k)=false:=by
    unfold Builtin.Tuple.tupleTooMany;rw [hmul];exact ul6 (by lia)
   have f0:List.foldl (λx1 x2=>x1++x2) #[] (List.replicate k.toNat its.toArray)=(List.replicate k.toNat its).flatten.toArray:=by
    have:=GV its k.toNat [];rw [uk7] at this;exact this
   have hfz:(List.foldl (λx1 x2=>x1++x2) #[] (List.replicate k.toNat its.toArray)).size<=sizeLine:=by
    rw [f0,ug7,Jy,uo0];exact hsz
   refine call_meets F.slot_tuple_mul ⟨_,ho,rfl⟩ F.entry_tuple_mul (F.args_tuple_mul_2 _ _) (Mq a its.toArray n dd sl k t hc0 hc1 hc2 hc3 hc4 hfz) ⟨ho,?_⟩;rw [f0];exact ⟨.ref _,_,I.tnew (t':=s.toks) (r.rep k.toNat) (by rw [Jy,uo0];exact hz),rfl,q2 hs _ I.fresh⟩
theorem G0 (l:Addr)(items:Array Value)(n:Nat)(b:Addr)(items2:Array Value)(n2:Nat)(dd:Option Addr)(sl:Array (Option Value))(hs0:¬(!items.isEmpty && Builtin.List.listTooLong (items.size + items2.size))=true)(hs1:items.size<=sizeLine)(hs2:items.size + items2.size<=sizeLine + 1) :
 Meets (Builtin.«list.extend» ⟨[.ref l,.ref b],[]⟩) (λ_ R s=>s.heap.get? l=some { cls:=.type "list",dict:=none,data:=.seq items n,slots:=#[] }/\s.heap.get? b=some { cls:=.type "tuple",dict:=dd,data:=.seq items2 n2,slots:=sl }/\R (.ok (.ret Value.none)) { s with heap:=s.heap.update l (Obj.mapSeq λx=>x++items2),toks:=s.toks }):=
 .of_wp λprog w A R s h=>by
  obtain ⟨hp,g,d,tk,os⟩:=s;obtain ⟨hl,hb,h⟩:=h;have f1:=AutoSeq1.idx_int;have f2:=AutoSeq1.sub_tuple_tuple;have f3:=AutoSeq1.sub_list_list;have f4:=AutoSeq1.sub_tuple_list;have f5:=AutoSeq1.sub_list_tuple;have hz':(items++items2).size<=sizeLine + 1:=by rw [Array.size_append];exact hs2
  wp_walk using (wpAny_updateSeq hl rfl (hz:=hs1) (_hz':=hz')),wpAny_loadPart' hl,wpAny_loadPart' hb;exact ⟨_,rfl,h⟩
def LU (K:PySem.W.Frag):V->List V->Hp->VK->Prop:=λx vs H Q=>∃l b xs zs,x = .ref l/\vs=[.ref b]/\H l=some (.lst xs)/\SqT K H b zs/\xs.length + zs.length<=sizeLine/\Q .non (upd H l (.lst (xs++zs)))
theorem NL {X:Cx}:MtM X "list.extend" (LU X.K):=by
 intro pins s σ H x vs v us Q I rx rv h;obtain ⟨l,b,xs,zs,rfl,rfl,hH,hB,hz,q⟩:=h
 cases rx
 obtain ⟨u,rfl,ru⟩:=rv.one
 cases ru
 obtain ⟨z,its,n,r,hl,e⟩:=I.lstM hH;obtain ⟨its2,r2,⟨⟨cls,dd,data,sl⟩,ho,hc,n2,hd⟩,z2⟩:=I.tuple hB;simp only at hc hd;subst hc hd;have hl2:=r2.length;have hsz:its.toArray.size + its2.toArray.size<=sizeLine:=by rw [ug7,ug7];lia
 have hlong:¬(!its.toArray.isEmpty && Builtin.List.listTooLong (its.toArray.size + its2.toArray.size))=true:=by
  rw [Ip hsz,ul9];exact uf7
 refine call_meets F.slot_list_extend ⟨_,e,rfl⟩ F.entry_list_extend (F.args_list_extend_2 _ _)
  (G0 l its.toArray n b its2.toArray n2 dd sl hlong (by rw [ug7];lia) (by lia)) ⟨e,ho,?_⟩
 refine ⟨.non,_,I.lset (its':=its++its2) hH e (by simp) (r.append r2) ?_,rfl,q⟩;rw [ug0];lia
theorem MtM.or {X:Cx}{id:String}{r r':V->List V->Hp->VK->Prop}(h:MtM X id r)(h':MtM X id r'):MtM X id (λx xs H Q=>r x xs H Q\/r' x xs H Q):=by
 intro pins s σ H x xs v us Q I rx rv q;rcases q with q | q
 ·exact h pins s σ H x xs v us Q I rx rv q
 ·exact h' pins s σ H x xs v us Q I rx rv q
section
variable {X:Cx}{a b c d:Expr}{ta tb tc td:TE}{pos:Pos}
end
end L2
namespace F2
open PySem L2 PySem.Spec
section
variable {K:PySem.W.Frag}
def Aw (x y:D):M D:=match x,y with
 | .tup [],.tup ys=>ret (.tup ys)
 | x,y=>Qf x y
def Sm (K:PySem.W.Frag):R2:=λx y H Q=>NU K x y H Q\/Sn K x y H Q
theorem TM {X:Cx}:OpR X (binaryOp .Add) (Sm X.K):=op_add4.or TN
theorem Rk:A1 K (Sm K) Aw:=λ{Oo c t σ H x y dx dy r t' Q} f rx ry eq k=>by
 unfold Aw at eq
 split at eq
 ·next ys=>
  cases eq
  cases rx with
  | tup h1 h2 h3=>
    cases h3
    cases ry with
    | tup g1 g2 g3=>exact .inr ⟨_,_,_,rfl,rfl,SqT.of h1,SqT.of g1,k _ H c f .refl (.tup g1 g2 g3)⟩
 ·exact .inl (Ui f rx ry eq k)
def Ij:D->D->M D
 | .int i,.int j=>λt=>if Gr i j=true then some (.int (i * j),t) else none
 | .tup xs,.int k=>λt=>if BJ k=true/\xs.length * k.toNat<=LIM then some (.tup (List.replicate k.toNat xs).flatten,t) else none
 | .lst xs,.int k=>λt=>if BJ k=true/\xs.length * k.toNat<=LIM then some (.lst (List.replicate k.toNat xs).flatten,t) else none
 | _,_=>fail
def NX (K:PySem.W.Frag):R2:=λx y H Q=>rI CMul (λi j=>.int (i * j)) x y H Q\/(Sw K x y H Q\/WI x y H Q)
theorem op_mul3 {X:Cx}:OpR X (binaryOp .Mult) (NX X.K):=op_mul.or (op_mulT.or Wc)
theorem TD {dx dy r:D}{t t':T}(eq:Ij dx dy t=some (r,t')):∃j,dy = .int j/\((∃i,dx = .int i)\/(∃ds,dx = .tup ds)\/∃ds,dx = .lst ds):=by
 unfold Ij at eq
 split at eq
 ·exact ⟨_,rfl,.inl ⟨_,rfl⟩⟩
 ·exact ⟨_,rfl,.inr (.inl ⟨_,rfl⟩)⟩
 ·exact ⟨_,rfl,.inr (.inr ⟨_,rfl⟩)⟩
 ·cases eq
theorem Ut:A1 K (NX K) Ij:=λ{Oo c t σ H x y dx dy r t' Q} f rx ry eq k=>by
 obtain ⟨j,rfl,hd⟩:=TD eq
 cases ry
 rcases hd with ⟨i,rfl⟩ | ⟨ds,rfl⟩ | ⟨ds,rfl⟩
 ·cases rx
  unfold Ij at eq;dsimp only at eq
  split at eq
  ·next h=>cases eq;exact .inl ⟨i,j,rfl,rfl,Pa h,k _ H c f .refl (.int _)⟩
  ·cases eq
 ·cases rx with
  | @tup a vs _ h1 h2 h3=>
    unfold Ij at eq;dsimp only at eq
    split at eq
    ·next h=>
     cases eq
     obtain ⟨g1,g2⟩:=DI h.1;refine .inr (.inl ⟨a,j,vs,rfl,rfl,SqT.of h1,g1,g2,by rw [h3.length];exact un6 h.2 Bu,λhs=>?_,λhs p hp=>?_⟩)
     ·rcases hs with z | z
      ·subst z;have:ds=[]:=ub5.mp h3.length.symm;subst this;have e:(List.replicate j.toNat ([]:List D)).flatten=[]:=by simp
       rw [e] at k;exact k _ H c f .refl (.tup h1 h2 h3)
      ·subst z;have e:(List.replicate (1:Int).toNat ds).flatten=ds:=by simp
       rw [e] at k;exact k _ H c f .refl (.tup h1 h2 h3)
     ·exact k _ _ c (f.laid hp) (f.stp_laid hp) (.tup AD (f.s.free hp) ((h3.rep j.toNat).mono (Ext.laid f.s hp)))
    ·cases eq
 ·cases rx with
  | @lst a vs _ h1 h2 h3=>
    unfold Ij at eq;dsimp only at eq
    split at eq
    ·next h=>
     cases eq
     obtain ⟨g1,g2⟩:=DI h.1;refine .inr (.inr ⟨a,j,vs,rfl,rfl,h1,by lia,by lia,by rw [h3.length];exact un6 h.2 Bu,λp hp=>?_⟩);exact k _ _ c (f.laid hp) (f.stp_laid hp) (.lst AD (f.s.free hp) ((h3.rep j.toNat).mono (Ext.laid f.s hp)))
    ·cases eq
end
variable {K:PySem.W.Frag}{μ:Cf->Hp->D->(V->Hp->Prop)->Prop}
section
variable {X:Cx}{e a b:Expr}{pos:Pos}
def Dj (xs:List D):List D->Option (List D)
 | [d]=>if xs.length < LIM then some (xs++[d]) else none
 | _=>none
def Fw (xs:List D):List D->Option (List D)
 | [.lst ys]=>if xs.length + ys.length<=LIM then some (xs++ys) else none
 | [.tup ys]=>if xs.length + ys.length<=LIM then some (xs++ys) else none
 | _=>none
def ownM (i:Nat)(h:List D->List D->Option (List D))(g:M (List D)):M Out:=λt=>match t.env[i]? with
 | some (some (.own _))=>bnd g (λds t1=>match t1.env[i]? with
   | some (some (.own xs))=>(h xs ds).map λys=>(.next,{ t1 with env:=t1.env.set i (some (.own ys)) })
   | _=>none) t
 | _=>none
def KQ (K:PySem.W.Frag)(R:V->List V->Hp->VK->Prop)(h:List D->List D->Option (List D)):Prop:=∀{c:Cf} {S:List Ob} {H:Hp} {a:Addr} {vs us:List V} {xs ds ys:List D} {Q:VK},SInv K c S H->H a=some (.lst vs)->Reps K c H vs xs->Reps K c H us ds->h xs ds=some ys->
 (∀ws,Reps K c H ws ys->Q .non (upd H a (.lst ws)))->R (.ref a) us H Q
theorem M6:KQ K M1 Dj:=λ{c S H a vs us xs ds ys Q} s h r rs e k=>by
 unfold Dj at e
 split at e
 ·next d=>
  split at e
  ·next hl=>
   cases e
   obtain ⟨v,rfl,rv⟩:=Ds rs;exact ⟨a,vs,v,rfl,rfl,h,by rw [r.length];exact uf5 hl Bu,k _ (r.append (.cons rv .nil))⟩
  ·cases e
 ·cases e
def Sq (K:PySem.W.Frag):V->List V->Hp->VK->Prop:=λx xs H Q=>M2 x xs H Q\/LU K x xs H Q
theorem TB {X:Cx}:MtM X "list.extend" (Sq X.K):=mt_extend.or NL
theorem Uk:KQ K (Sq K) Fw:=λ{c S H a vs us xs ds ys Q} s h r rs e k=>by
 unfold Fw at e
 split at e
 ·split at e
  ·next hl=>
   cases e
   obtain ⟨v,rfl,rv⟩:=Ds rs
   cases rv with
   | lst h1 h2 h3=>exact .inl ⟨a,_,vs,_,rfl,rfl,h,h1,by rw [r.length,h3.length];exact un6 hl Bu,k _ (r.append h3)⟩
  ·cases e
 ·split at e
  ·next hl=>
   cases e
   obtain ⟨v,rfl,rv⟩:=Ds rs
   cases rv with
   | tup h1 h2 h3=>exact .inr ⟨a,_,vs,_,rfl,rfl,h,SqT.of h1,by rw [r.length,h3.length];exact un6 hl Bu,k _ (r.append h3)⟩
  ·cases e
 ·cases e
theorem RS.ownM {μ:Cf->Hp->D->(V->Hp->Prop)->Prop}{K:PySem.W.Frag}{i:Nat}{h:List D->List D->Option (List D)}{g:M (List D)}{R:V->List V->Hp->VK->Prop}(s:KQ K R h){E:Ends}{σ:L2.St}{H:Hp}(q:RSg K μ (F2.ownM i h g) E σ H):Sx (tBM K "list" R (W0 i) (RA K g)) E σ H:=by
 obtain ⟨Oo,c,t,fi,o,t',eq,k⟩:=q;unfold F2.ownM at eq
 split at eq
 ·next xs0 e0=>
  obtain ⟨ds,t1,e1,eq⟩:=Ah eq;obtain ⟨a,vs0,h1,h2,h3,h4,h5⟩:=fi.own i xs0 e0;refine ⟨.ref a,h1,.inl ⟨rfl,vs0,SqL.of h4⟩,Oo,c,t,fi,ds,t1,e1,λus H1 c1 f1 s1 rus=>?_⟩
  split at eq
  ·next xs ex=>
   obtain ⟨ys,ey,ez⟩:=uc2.mp eq
   cases ez
   obtain ⟨a',vs,g1,g2,g3,g4,g5⟩:=f1.own i xs ex;rw [h1] at g1;injection g1 with g1;injection g1 with g1;injection g1 with g1;subst g1
   refine s f1.s g4 g5 rus ey λws rws=>?_;obtain ⟨f2,s2⟩:=f1.wrOwn ex h1 rws;exact k σ _ c1 f2 (s1.trans s2)
  ·cases eq
 ·cases eq
theorem OR (i:Nat){x:Str}{es:List Expr}{g:M (List D)}{px apos cpos:Pos}(ha:PA X (e :: es) (RA X.K g))(hN:X.N[i]?=some x:=by rfl)(hv:Vis X.env.scope x:=by walk_at "h")(hd:(x == ("__debug__" : Str))=false:=by decide)
 (hcd:(x == ("__classdict__" : Str))=false:=by decide)
 (hbase:attributeBase (.Name x px) "append" X.env (eval (.Name x px) X.env)=eval (.Name x px) X.env:=by rfl)
 (hfew:((backTo cpos (starEach (e :: es) X.env)).all (λx=>!x.1) && (backToKw cpos (keywordEach [] X.env)).all (λx=>x.1.isSome) && decide ((e :: es).length + ([]:List Keyword).length + (if ([]:List Keyword).isEmpty then 0 else 1) < 30))=true:=by rfl)
 (hline:(apos.endLine == cpos.line)=true:=by rfl) (hs:starEach (e :: es) X.env=(false,eval e X.env) :: starEach es X.env:=by rfl) (hplain:(backTo cpos (starEach es X.env)).any (·.1)=false:=by rfl) :
 PS X (.Expr (.Call (.Attribute (.Name x px) "append" apos) (e :: es) [] cpos) pos) (RSg X.K μ (ownM i Dj g)):=
 A3 (FV (KC ub6 PySem.F.slot_list_append PySem.F.type_list_append J7 (EA hN hv hd hcd) ha hbase hfew hline hs hplain)) λ_ _ _ q=>RS.ownM M6 q
theorem OS (i:Nat){x:Str}{es:List Expr}{g:M (List D)}{px apos cpos:Pos}(ha:PA X (e :: es) (RA X.K g))(hN:X.N[i]?=some x:=by rfl)(hv:Vis X.env.scope x:=by walk_at "h")(hd:(x == ("__debug__" : Str))=false:=by decide)
 (hcd:(x == ("__classdict__" : Str))=false:=by decide)
 (hbase:attributeBase (.Name x px) "extend" X.env (eval (.Name x px) X.env)=eval (.Name x px) X.env:=by rfl)
 (hfew:((backTo cpos (starEach (e :: es) X.env)).all (λx=>!x.1) && (backToKw cpos (keywordEach [] X.env)).all (λx=>x.1.isSome) && decide ((e :: es).length + ([]:List Keyword).length + (if ([]:List Keyword).isEmpty then 0 else 1) < 30))=true:=by rfl)
 (hline:(apos.endLine == cpos.line)=true:=by rfl) (hs:starEach (e :: es) X.env=(false,eval e X.env) :: starEach es X.env:=by rfl) (hplain:(backTo cpos (starEach es X.env)).any (·.1)=false:=by rfl) :
 PS X (.Expr (.Call (.Attribute (.Name x px) "extend" apos) (e :: es) [] cpos) pos) (RSg X.K μ (ownM i Fw g)):=
 A3 (FV (KC ub6 PySem.F.slot_list_extend PySem.F.type_list_extend TB (EA hN hv hd hcd) ha hbase hfew hline hs hplain)) λ_ _ _ q=>RS.ownM Uk q
def objM (h:List D->List D->Option (List D))(f:M D)(g:M (List D)):M D:=bnd f λo=>match o with
 | .obj k=>λt=>match t.S[k]? with
   | some (.lst _)=>bnd g (λds t1=>match t1.S[k]? with
     | some (.lst xs)=>(h xs ds).map λys=>(.non,{ t1 with S:=t1.S.set k (.lst ys) })
     | _=>none) t
   | _=>none
 | _=>fail
theorem RE.objM {K:PySem.W.Frag}{h:List D->List D->Option (List D)}{f:M D}{g:M (List D)}{R:V->List V->Hp->VK->Prop}(s:KQ K R h){σ:L2.St}{H:Hp}{Q:VK}(q:RE K (F2.objM h f g) σ H Q):tBM K "list" R (RE K f) (RA K g) σ H Q:=by
 obtain ⟨Oo,c,t,fi,r,t',eq,k⟩:=q;obtain ⟨o,t0,e0,eq⟩:=Ah eq;refine ⟨Oo,c,t,fi,o,t0,e0,λx H0 c0 f0 s0 rx=>?_⟩
 cases rx with
 | @obj a kk hk=>
   dsimp only at eq
   split at eq
   ·next xs0 ex0=>
    obtain ⟨ds,t1,e1,eq⟩:=Ah eq;obtain ⟨vs0,g0,g0'⟩:=f0.s.obs kk a _ hk ex0;refine ⟨.inl ⟨rfl,vs0,SqL.of g0⟩,Oo,c0,t0,f0,ds,t1,e1,λus H1 c1 f1 s1 rus=>?_⟩
    split at eq
    ·next xs ex=>
     obtain ⟨ys,ey,ez⟩:=uc2.mp eq
     cases ez
     have hk1:=s1.ext.io _ _ hk;obtain ⟨vs,g1,g2⟩:=f1.s.obs kk a _ hk1 ex;refine s f1.s g1 g2 rus ey λws rws=>?_;obtain ⟨f2,s2⟩:=f1.wrObj (o:=.lst ys) (u:=.lst ws) hk1 λc' H' ext hu=>⟨ws,hu,rws.mono ext⟩;exact k _ _ c1 f2 ((s0.trans s1).trans s2) .non
    ·cases eq
   ·cases eq
 | _=>cases eq
theorem OL {o:Expr}{es:List Expr}{f:M D}{g:M (List D)}{apos cpos:Pos}(ho:PE X o (RE X.K f))(ha:PA X (e :: es) (RA X.K g))
 (hbase:attributeBase o "append" X.env (eval o X.env)=eval o X.env:=by rfl)
 (hfew:((backTo cpos (starEach (e :: es) X.env)).all (λx=>!x.1) && (backToKw cpos (keywordEach [] X.env)).all (λx=>x.1.isSome) && decide ((e :: es).length + ([]:List Keyword).length + (if ([]:List Keyword).isEmpty then 0 else 1) < 30))=true:=by rfl)
 (hline:(apos.endLine == cpos.line)=true:=by rfl) (hs:starEach (e :: es) X.env=(false,eval e X.env) :: starEach es X.env:=by rfl) (hplain:(backTo cpos (starEach es X.env)).any (·.1)=false:=by rfl) :
 PE X (.Call (.Attribute o "append" apos) (e :: es) [] cpos) (RE X.K (objM Dj f g)):=
 AH (KC ub6 PySem.F.slot_list_append PySem.F.type_list_append J7 ho ha hbase hfew hline hs hplain) λ_ _ _ q=>RE.objM M6 q
def FC (o i d:D):M Unit:=match o,i with
 | .obj k,.int j=>λt=>match t.S[k]? with
   | some (.lst xs)=>(ixN xs.length j).map λn=>((),{ t with S:=t.S.set k (.lst (xs.set n d)) })
   | _=>none
 | _,_=>fail
def stD (f g:M D)(d:D):M Unit:=bnd f λo=>bnd g λi=>FC o i d
theorem VA {o i:Expr}{f g:M D}(ho:PE X o (RE X.K f))(hi:PE X i (RE X.K g))
 (ha:∀v,assign (.Subscript o i pos) X.env v=(do
   let ov <-holding [v] (eval o X.env)
   let iv <-holding [v,ov] (eval i X.env)
   standAt pos
   holding [v,ov,iv] (setItem ov iv v)
   release [v,ov,iv] []):=by intro _;rfl):PG X (.Subscript o i pos) (RG X.K (stD f g)):=
 ID (Po ho hi L6 ha) λv σ H Q z9=>by
  obtain ⟨Oo,c,t,d,fi,rv,t',eq,k⟩:=z9;obtain ⟨d0,t1,e1,eq⟩:=Ah eq;obtain ⟨di,t2,e2,eq⟩:=Ah eq;refine ⟨Oo,c,t,fi,_,t1,e1,λx H1 c1 f1 s1 rx=>⟨Oo,c1,t1,f1,di,t2,e2,λy H2 c2 f2 s2 ry=>?_⟩⟩;unfold FC at eq
  split at eq
  ·cases ry with
   | int j=>
   cases rx with
   | @obj a kk hk=>
     split at eq
     ·next xs ex=>
      obtain ⟨n,en,ez⟩:=uc2.mp eq
      cases ez
      have hk2:=s2.ext.io _ _ hk;obtain ⟨vs,g1,g2⟩:=f2.s.obs _ a _ hk2 ex;refine ⟨a,vs,_,n,rfl,rfl,g1,by rw [g2.length];exact en,?_⟩;have rv2:=rv.mono (s1.trans s2).ext;obtain ⟨f3,s3⟩:=f2.wrObj (o:=.lst (xs.set n d)) (u:=.lst (vs.set n v)) hk2 λc' H' ext hu=>⟨_,hu,(Reps.set rv2 n g2).mono ext⟩;exact k σ _ c2 f3 ((s1.trans s2).trans s3)
     ·cases eq
  ·cases eq
end
variable {H:Hp}
section
variable {X:Cx}{e a b tg iter elt:Expr}{ifs:List Expr}{pos:Pos}{scope:Scope}{N':List Str}{n:Nat}{fr:List Nat}{f:M (List D)}{st:D->M Unit}{tst:M Bool}{el:M D}
def Bt:M Bool:=ret true
theorem Tb:PIf X [] (RT X.K Bt):=λpins s σ H Q I z9=>by
 obtain ⟨Oo,c,t,fi,r,t',eq,k⟩:=z9;exact T2 pins s σ H Q I (by cases eq;exact k H c fi .refl)
theorem Tc {g:M Bool}(h:PT X e (RT X.K g)):PIf X [e] (RT X.K g):=T3 h
theorem Dg (O:CmpOk X scope N' (DM n fr))(hc:X.calm=true)(hi:PI X tg iter (RI X.K f))
 (hg:∀cl C s2 H2 fp,PG (Bc X N' scope cl C s2 H2 fp) tg (RG X.K st)) (ht:∀cl C s2 H2 fp,PIf (Bc X N' scope cl C s2 H2 fp) ifs (RT X.K tst)) (he:∀cl C s2 H2 fp,PE (Bc X N' scope cl C s2 H2 fp) elt (RE X.K el))
 (hs:∀x,foldedSetIterable iter X.env x=pure x:=by intro _;rfl):PE X (.ListComp elt [⟨tg,iter,ifs,0⟩] scope pos) (RF X.K (AF n fr f st tst el)):=
 AH (MY O hc hi hg ht he hs) λ_ _ _ q=>RF.comp q
theorem RF.ofPure {f:M (List D)}{σ:L2.St}{Q:VK}(q:RE K (Ap f) σ H Q):RF K f σ H Q:=by
 obtain ⟨Oo,c,t,fi,r,t',eq,k⟩:=q;obtain ⟨ds,t1,e1,eq⟩:=Ah eq
 cases eq
 exact ⟨Oo,c,t,fi,ds,_,e1,λp xs H1 c1 f1 s1 rxs hp=>k _ _ c1 (f1.laid hp) (s1.trans (f1.stp_laid hp)) (.lst AD (f1.s.free hp) (rxs.mono (Ext.laid f1.s hp)))⟩
theorem MH {i:Nat}{y:Str}{py spos:Pos}(O:CmpOk X scope N' (DM n fr))(hc:X.calm=true)(hN:X.N.Nodup)(hiN:X.N[i]?=some y)(hx:X.env.scope.names.lookup y=some .local)(hi:PI X tg iter (RI X.K f))
 (hg:∀cl C s2 H2 fp,PG (Bc X N' scope cl C s2 H2 fp) tg (RG X.K st)) (ht:∀cl C s2 H2 fp,PIf (Bc X N' scope cl C s2 H2 fp) ifs (RT X.K tst)) (he:∀cl C s2 H2 fp,PE (Bc X N' scope cl C s2 H2 fp) elt (RE X.K el))
 (hsw:swapsWith (.ListComp elt [⟨tg,iter,ifs,0⟩] scope pos) (some (.Name y py)) spos.line X.env=pure true:=by rfl)
 (hs:∀x,foldedSetIterable iter X.env x=pure x:=by intro _;rfl):PS X (.Assign [.Name y py] (.ListComp elt [⟨tg,iter,ifs,0⟩] scope pos) spos) (RSg X.K μ (Aq i (Ap (AF n fr f st tst el)))):=
 A3 (JC O hc hN hiN hx hi hg ht he hsw hs) λE σ H q=>RF.comp (RF.ofPure (RS.set q))
theorem Jw {i:Nat}{y:Str}{py spos:Pos}(O:CmpOk X scope N' (DM n fr))(hc:X.calm=true)(hN:X.N.Nodup)(hiN:X.N[i]?=some y)(hx:X.env.scope.names.lookup y=some .local)(hi:PI X tg iter (RI X.K f))
 (hg:∀cl C s2 H2 fp,PG (Bc X N' scope cl C s2 H2 fp) tg (RG X.K st)) (ht:∀cl C s2 H2 fp,PIf (Bc X N' scope cl C s2 H2 fp) ifs (RT X.K tst)) (he:∀cl C s2 H2 fp,PE (Bc X N' scope cl C s2 H2 fp) elt (RE X.K el))
 (hsw:swapsWith (.ListComp elt [⟨tg,iter,ifs,0⟩] scope pos) (some (.Name y py)) spos.line X.env=pure true:=by rfl)
 (hs:∀x,foldedSetIterable iter X.env x=pure x:=by intro _;rfl):PS X (.Assign [.Name y py] (.ListComp elt [⟨tg,iter,ifs,0⟩] scope pos) spos) (RSg X.K μ (Ce i (AF n fr f st tst el))):=
 A3 (JC O hc hN hiN hx hi hg ht he hsw hs) λE σ H q=>RF.comp (RS.own q)
theorem Bv (tgs:List Str)(frn:List (Nat×Str))(hk:scope.kind = .function)(hcell:(scope.names.all λy=>y.2 != .cell)=true)(hloc:(scope.names.all λy=>y.2 != .local || scope.names.lookup y.1 == some .local)=true)
 (hfree:(scope.names.all λy=>y.2 != .free || X.env.kindOf y.1 == some .cell || X.env.kindOf y.1 == some .free)=true)
 (hf:(frn.all λp=>X.N[p.1]? == some p.2 && scope.names.lookup p.2 == some .free)=true):CmpOk X scope (tgs++frn.map (·.2)) (DM tgs.length (frn.map (·.1))):=by
 rw [ui7] at hcell hloc hfree hf;refine ⟨hk,λy hy=>by simpa using hcell y hy,λy hy hl=>?_,λy hy hl=>?_,λσ _=>by simp [DM],λσ j x v h1 h2=>?_⟩
 ·have:=hloc y hy;simpa [hl] using this
 ·have:=hfree y hy;simpa [hl] using this
 ·unfold DM at h2
  by_cases hj:j < tgs.length
  ·rw [ua9 (by simpa using hj),ub3] at h2
   split at h2 <;> simp at h2
  ·rw [ua5 (by simpa using hj),uc9,ug8,ug8] at h2;rw [ua5 (by simpa using hj),ug8] at h1
   cases e:frn[j - tgs.length]? with
   | none=>rw [e] at h1;cases h1
   | some p=>
     rw [e] at h1 h2;simp only [uk9,Option.some.injEq] at h1 h2;have hp:=hf p (ud9 e);rw [ui2] at hp;refine ⟨p.1,by rw [<-h1];simpa using hp.1,?_,by rw [<-h1];simpa using hp.2⟩
     cases e2:σ[p.1]? with
     | none=>rw [e2] at h2;cases h2
     | some o=>rw [e2] at h2;simpa using h2
end
mutual
noncomputable def Bg:D->Bool
 | .tup xs=>Gv xs
 | .lst xs=>Gv xs
 | .obj _=>false
 | .scr _=>false
 | .exc _ _=>false
 | _=>true
noncomputable def Gv:List D->Bool
 | []=>true
 | d :: r=>Bg d && Gv r
end
def c0:Cf:=⟨[],λ_=>False⟩
theorem GM (a:Addr):¬c0.A a:=λh=>h.elim (λz=>nomatch z) λz=>z
mutual
theorem Dp {K:PySem.W.Frag}{c:Cf}{H:Hp}{v:V}{d:D}(r:Rep K c H v d)(p:Bg d=true):Rep K c0 H v d:=by
 cases r with
 | non=>exact .non
 | bl b=>exact .bl b
 | int i=>exact .int i
 | str x=>exact .str x
 | ty n=>exact .ty n
 | tup h n r=>exact .tup h (GM _) (Ht r (by simpa [Bg] using p))
 | lst h n r=>exact .lst h (GM _) (Ht r (by simpa [Bg] using p))
 | scr h=>simp [Bg] at p
 | dic h n=>exact .dic h (GM _)
 | obj h=>simp [Bg] at p
 | exc _ _ _ _ _=>simp [Bg] at p
theorem Ht {K:PySem.W.Frag}{c:Cf}{H:Hp}{vs:List V}{ds:List D}(r:Reps K c H vs ds)(p:Gv ds=true):Reps K c0 H vs ds:=by
 cases r with
 | nil=>exact .nil
 | cons h t=>
   simp only [Gv,ui2] at p;exact .cons (Dp h p.1) (Ht t p.2)
end
noncomputable def Fd (S:List Ob):D->D
 | .obj k=>match S[k]? with
   | some (.lst ds)=>.lst ds
   | _=>.obj k
 | d=>d
noncomputable def Lw:D->Bool
 | .obj _=>true
 | _=>false
def eqS (g:Bool->Bool)(x y:D):M D:=λt=>
 if (Lw x || Lw y)=true then (if (Bg (Fd t.S x) && Bg (Fd t.S y))=true then (eqN EQD (Fd t.S x) (Fd t.S y)).map λb=>(.bl (g b),t) else none)
 else (eqN EQD x y).map λb=>(.bl (g b),t)
theorem LY {c:Cf}{S:List Ob}{v:V}{d:D}(s:SInv K c S H)(r:Rep K c H v d)(p:Bg (Fd S d)=true):Rep K c0 H v (Fd S d):=by
 cases r with
 | @obj a k hk=>
   unfold Fd at p ⊢;dsimp only at p ⊢
   split
   ·next ds e=>
    rw [e] at p;obtain ⟨vs,h1,h2⟩:=s.obs k a _ hk e;exact .lst h1 (GM _) (Ht h2 (by simpa [Bg] using p))
   ·next h=>
    split at p
    ·next ds e=>exact absurd e (h ds)
    ·simp [Bg] at p
 | non=>exact .non
 | bl b=>exact .bl b
 | int b=>exact .int b
 | str b=>exact .str b
 | ty b=>exact .ty b
 | tup h n q=>exact Dp (.tup h n q) p
 | lst h n q=>exact Dp (.lst h n q) p
 | scr h=>exact Dp (c:=c) (.scr h) p
 | dic h n=>exact Dp (.dic h n) p
 | exc a b n f q=>exact Dp (.exc a b n f q) p
theorem Hw {g:Bool->Bool}:A1 K (NV K g) (eqS g):=λ{Oo c t σ H x y dx dy r t' Q} f rx ry eq k=>by
 unfold eqS at eq
 split at eq
 ·split at eq
  ·next hp=>
   rw [ui2] at hp;obtain ⟨b,e1,e2⟩:=uc2.mp eq
   cases e2
   exact ⟨c0,_,_,b,LY f.s rx hp.1,LY f.s ry hp.2,e1,k _ H c f .refl (.bl (g b))⟩
  ·cases eq
 ·obtain ⟨b,e1,e2⟩:=uc2.mp eq
  cases e2
  exact ⟨c,dx,dy,b,rx,ry,e1,k _ H c f .refl (.bl (g b))⟩
theorem O2 {a:Addr}{ns:List Int}{f:Fn}{S':List Ob}(hO:Ni H)(hS:SqL K H a (ns.map V.int))(e:f [.scr ns] []=some (.bl true,S')):spF K f [.ref a] H (λv _=>v = .bl true) λ_ _ _=>False:=by
 refine ⟨c0,[.scr ns],[],⟨rfl,List.Pairwise.nil,λk a o h=>by simp [c0] at h,λb z=>z.elim,λb z=>z.elim⟩,.cons (.scr ?_) .nil,.bl true,S',e,λv H' c' _ _ _ rv=>by cases rv;rfl⟩;rcases hS with (h | h) | h
 ·rcases hO a with z | ⟨o,xs,z⟩
  ·rw [z] at h;cases h
  ·rw [z] at h;cases h
 ·exact .inl ⟨h,GM _⟩
 ·exact .inr h
end F2
namespace L2
open PySem PySem.Spec PyProof.Rows
section
variable {prog:Program}{w:World}{A:Around}{E:Value->Shared->Prop}{s:Shared}
theorem IP {it l:Addr}{items:Array Value}(hne:l≠it):∀(n i:Nat) (s:Shared) (Q:List Value->Shared->Prop),s.heap.IsListIter it l i->s.heap.IsList l items->i + n<=items.size->
 (∀h',h'.IsListIter it l (i + n)->Heap.SameBut it s.heap h'->Q ((items.toList.drop i).take n) { s with heap:=h' })->wpAny (model prog w) A (draw (.ref it) n) Q E s
 | 0,i,s,Q,hit,_,_,hQ=>up9 (by simpa using hQ s.heap hit (Heap.SameBut.refl ..))
 | n + 1,i,s,Q,hit,ht,hle,hQ=>by
   have hlt:i < items.size:=by lia
   refine up8 (wpAny_pyNext_list_item hit ht (x:=items[i]) (by simp [hlt]) λh1 hit1 hs1=>?_);refine up8 (un3 (IP hne n (i + 1) _ _ hit1 (ht.extBut hs1.extBut hne) (by lia) λh2 hit2 hs2=>up9 ?_));have hd:items.toList.drop i=items[i] :: items.toList.drop (i + 1):=by simp [ub0,hlt]
   have:=hQ h2 (by rw [show i + (n + 1)=i + 1 + n by lia];exact hit2) (hs1.trans hs2);rw [hd,List.take_succ_cons] at this;exact this
theorem Me {l:Addr}{items:Array Value}{targets:List (Bool×(Value->Sem Unit))}{Q:Unit->Shared->Prop}(hh:A.handled=none)(ht:s.heap.IsList l items)(hn:targets.length=items.size)(hstar:targets.findIdx? (·.1)=none)
 (h:∀h',Heap.ExtBut s.heap.objs.size s.heap h'->wpAny (model prog w) A (assignInOrder (targets.map (·.2)) items.toList) Q E { s with heap:=h' }):wpAny (model prog w) A (unpack (.ref l) targets) Q E s:=by
 have hlt:l≠s.heap.objs.size:=by obtain ⟨o,ho,_⟩:=ht;exact un5 (un4 ho)
 unfold unpack;rw [hn,hstar];refine up8 (un3 ?_);unfold unpackItems;refine up8 ?_;unfold notIterableAtAll;refine up8 (wpAny_specialOf ht.typeIs PySem.F.slot_list_iter.lookup ?_);refine up9 ?_;simp only [ug1,if_false];refine up8 (un3 (wpAny_pyIter_list ht ?_));have hp:Heap.IsList (s.heap.push { cls:=.type "list_iterator",data:=.fields #[.ref l,.int 0 0] }) l items:=by
  obtain ⟨o,ho,r⟩:=ht;exact ⟨o,ub9 _ ho,r⟩
 refine up8 (un3 (IP hlt items.size 0 _ _ ⟨_,ue7 _ rfl,rfl,rfl⟩ hp (by lia) λh1 hit1 hs1=>?_));have hall:List.take items.size (List.drop 0 items.toList)=items.toList:=by
  rw [um1];exact uc3 (by simp)
 rw [hall];rw [if_neg (by simp)];have ht1:Heap.IsList h1 l items:=hp.extBut hs1.extBut hlt;refine up8 (un3 (wpAny_pyNext_list_end hh hit1 ht1 (by simp) λh2 he2=>?_));simp only [Option.isSome_none,ug1,if_false];exact up9 (h h2 λb o hb e=>he2 b o hb (hs1.extBut b o hb (ub9 _ e)))
end
section
variable {X:Cx}{pos:Pos}
def gUn (K:PySem.W.Frag)(n:Nat)(t:TGs):TG:=λv σ H Q=>∃a xs,v = .ref a/\(SqT K H a xs\/SqL K H a xs)/\xs.length=n/\t xs σ H Q
theorem XD {es:List Expr}{k:Nat}{t:TGs}{n:Nat}(hc:X.calm=true)(h:PGs X es t)
 (hn:(assignEach es X.env).length=n:=by rfl) (hst:(assignEach es X.env).findIdx? (·.1)=none:=by rfl):PG X (.Tuple es k pos) (gUn X.K n t):=by
 intro pins s σ H v u Q I r hw;obtain ⟨a,xs,e1,hq | hq,hl,hw⟩:=hw
 ·exact Wr hc h hn hst pins s σ H v u Q I r ⟨a,xs,e1,hq,hl,hw⟩
 ·subst e1
  cases r
  obtain ⟨its,rv,ht,hz⟩:=I.list hq;rw [assign_Tuple];refine up8 (wpAny_standAt (Me (I.ok.hd hc) ht.isList (by simp [hn,<-hl,rv.length]) hst λh' hx=>?_));have I1:Inv X pins σ H { s with heap:=h' }:=I.kept (t':=s.toks) λb o e=>hx b o (un5 (un4 e)) e;exact h pins _ σ H xs _ Q I1 (by simpa using rv) hw
end
section
open HT
variable {prog:Program}{w:World}{A:Around}{E:Value->Shared->Prop}{s:Shared}
theorem GH {t sl:Addr}{items:Array Value}{vl vu:Value}{lo hi:Option Int}{Q:Value->Shared->Prop}(ht:IsTup s.heap t items)(hs:s.heap.IsSliceOf sl vl vu .none)(pl:IsPart vl lo)(pu:IsPart vu hi)
 (hw:sIx items.size 0 lo=0/\sIx items.size items.size hi=items.size) (h:Q (.ref t) s):wpAny (model prog w) A (getItem (.ref t) (.ref sl)) Q E s:=by
 obtain ⟨os,hos,hcs,hds⟩:=id hs;have hTs:s.TypeIs (.ref sl) "slice":=⟨os,hos,hcs⟩;unfold getItem
 try with_reducible refine un3 ?_
 first | refine up8 (up9 ?_) | skip
 refine up8 (wpAny_sequenceKey ht.typeIs (by decide) ?_);refine up8 (wpAny_callSpecial?_slot (name:=Str.ofString "__getitem__") ht.typeIs ua0
  (wpAny_call_entry ua0 ht.typeIs entry_tuple_getitem ?_ (args_tuple_getitem _ _)))
 show wpAny _ _ (Builtin.Tuple.tupleItemsOf (.ref t) >>= _) _ _ s;refine up8 (tupleItemsOf_ ht ?_);refine up8 (wpAny_typeOf hTs ?_);rw [if_pos (by decide)];refine up8 (Fe hs pl pu ?_);have hyes:(((sIx items.size 0 lo:Nat):Int) == 0 && (1:Int) == 1 && (sIx items.size items.size hi - sIx items.size 0 lo) == items.size)=true:=by
  rw [hw.1,hw.2];simp
 show wpAny _ _ (if (((sIx items.size 0 lo:Nat):Int) == 0 && (1:Int) == 1 && (sIx items.size items.size hi - sIx items.size 0 lo) == items.size)=true then _ else _) _ _ s;rw [if_pos hyes];refine up8 (m:=Builtin.Tuple.tupleIsExact _) ?_;unfold Builtin.Tuple.tupleIsExact;refine up8 (wpAny_typeOf ht.typeIs (up9 ?_));rw [if_pos (by decide)]
 first
  | exact up8 (wpAny_rule (up9 ⟨_,rfl,up9 h⟩))
  | exact up8 (wpAny_rule (up8 (up9 (up9 ⟨_,rfl,up9 h⟩))))
end
section
variable {X:Cx}
def WN (K:PySem.W.Frag):V->Option Int->Option Int->Hp->VK->Prop:=λx lo hi H Q=>∃a xs,x = .ref a/\SqT K H a xs/\(HT.sIx xs.length 0 lo=0/\HT.sIx xs.length xs.length hi=xs.length)/\Q (.ref a) H
theorem UD:SlR X (WN X.K):=by
 intro pins s σ H x v vl vu lo hi sl Q I rx hs pl pu h;obtain ⟨a,xs,rfl,hx,hw,q⟩:=h
 cases rx
 obtain ⟨its,r,ht,hz⟩:=I.tuple hx;have hlen:its.toArray.size=xs.length:=by rw [ug7];exact r.length.symm
 exact ⟨"tuple",_,ua0.lookup,ht.typeIs,GH ht hs pl pu (by rw [hlen];exact hw) ⟨.ref a,H,I,rfl,q⟩⟩
end
noncomputable def Its (z:Str):It:=⟨λi _=>i < z.cps.size,λi H x H'=>H'=H/\∃c,z.cps[i]?=some c/\x = .str ⟨#[c]⟩,λi _=>i=z.cps.size⟩
theorem Mc {P:Program}{w:World}{K:PySem.W.Frag}{tg:Expr}{T:String}{x:Str}{t:Tok}(it:Addr)(hT:["enumerate", "zip", "dict_itemiterator", "dict_reverseitemiterator", "odict_iterator", "itertools.zip_longest", "itertools.pairwise"].contains T=false)
 (W:∀A:Around,A.handled=none->Walks P w A it [it] [it] x.cps.size (SignAt x) (λi h=>h.IsStrIter it T x t i))
 (self:∀(A:Around) (i:Nat) (s:Shared) (Q:Value->Shared->Prop) (E:Value->Shared->Prop),s.heap.IsStrIter it T x t i->Q (.ref it) s->wpAny (model P w) A (pyIter (.ref it)) Q E s) :
 Turn P w K tg (Its x) [it] it (λi h=>h.IsStrIter it T x t i) where
 mem:=by simp
 obj:=λi h st b hb=>by
  have e:b=it:=by simpa using hb
  subst e;obtain ⟨o,e,c,d⟩:=st;exact ⟨o,e,λv z=>by rw [d] at z;cases z⟩
 keep:=λi h h' st k=>by
  obtain ⟨o,e,r⟩:=st;exact ⟨o,k it (by simp) o e,r⟩
 item:=by
  intro X hP hw hK hc i pins s σ H E I hf st hg;subst hP hw hK;obtain ⟨f0,f1,f2,f3,f4,f5⟩:=hf it (by simp);refine (W X.A (I.ok.hd hc)).item i s _ _ hg st λv h' tk hv st' kk=>?_;obtain ⟨c,u,hcc,rfl⟩:=hv;have I1:Inv X pins σ H { s with heap:=h',toks:=tk }:=I.turned (λb o hb e=>kk b o (by simpa using hb) e) f0 f1 f3 f4 f5;obtain ⟨o,e,ec,ed⟩:=id st';exact ⟨_,rfl,KB (s:={ s with heap:=h',toks:=tk }) e ec ed hT ⟨.str ⟨#[c]⟩,H,I1,⟨u,rfl⟩,⟨rfl,c,hcc,rfl⟩,st',λb hb=>(hf b hb).1⟩⟩
 done:=by
  intro X hP hw hK hc i pins s σ H E I hf st hg;subst hP hw hK;obtain ⟨f0,f1,f2,f3,f4,f5⟩:=hf it (by simp);have hg':i=x.cps.size:=hg;subst hg';exact (W X.A (I.ok.hd hc)).done s _ _ st λh' tk kk=>⟨rfl,I.turned (λb o hb e=>kk b o (by simpa using hb) e) f0 f1 f3 f4 f5⟩
 self:=λA i s Q E st h=>self A i s Q E st h
section
variable {X:Cx}{tg:Expr}{pos:Pos}
def YO (K:PySem.W.Frag)(tl:TE):TI:=λσ H R=>tl σ H λx H1=>(∃a,x = .ref a/\(∃xs,SqL K H1 a xs)/\R (Itl K a) H1)\/(∃a,x = .ref a/\(∃xs,SqT K H1 a xs)/\R (Itt K a) H1)\/∃z,x = .str z/\R (Its z) H1
theorem Pp {l:Expr}{tl:TE}(hl:PE X l tl):PI X tg l (YO X.K tl):=by
 intro pins s σ H R I h;refine thn (hl pins s σ H _ I h) λv s1 z9=>?_;obtain ⟨x,H1,I1,r1,q1⟩:=z9;have fp:∀b∈[s1.heap.objs.size],FpOk X pins H1 b:=λb hb=>by
  have e:b=s1.heap.objs.size:=by simpa using hb
  subst e;exact I1.fpOk (up3 _) (I1.hok.fresh (up3 _))
 rcases q1 with ⟨a,rfl,⟨xs,hq⟩,q⟩ | ⟨a,rfl,⟨xs,hq⟩,q⟩ | ⟨z,rfl,q⟩
 ·cases r1
  obtain ⟨its,rv,p,hz⟩:=I1.list hq;refine wpAny_pyIter_list p.isList ?_;exact ⟨s1.heap.objs.size,[s1.heap.objs.size],_,_,H1,rfl,I1.kept (t':=s1.toks) λb o e=>ub9 _ e,P4 a _,⟨_,ue7 _ rfl,rfl,rfl⟩,fp,q⟩
 ·cases r1
  obtain ⟨its,rv,p,hz⟩:=I1.tuple hq;refine wpAny_pyIter_tuple (show s1.heap.IsTuple a its.toArray from p) ?_;exact ⟨s1.heap.objs.size,[s1.heap.objs.size],_,_,H1,rfl,I1.kept (t':=s1.toks) λb o e=>ub9 _ e,N7 a _,⟨_,ue7 _ rfl,rfl,rfl⟩,fp,q⟩
 ·obtain ⟨t,rfl⟩:=r1
  cases ha:z.cps.all (· < 128)
  ·refine wpAny_pyIter_wide ha ?_;exact ⟨s1.heap.objs.size,[s1.heap.objs.size],_,_,H1,rfl,I1.kept (t':=s1.toks) λb o e=>ub9 _ e,Mc (T:="str_iterator") (x:=z) (t:=t) _ (by decide) (λA hA=>Walks.strWide hA _ z t) (λ_ _ _ _ _ st h=>wpAny_pyIter_striter_wide st h),⟨_,ue7 _ rfl,rfl,rfl⟩,fp,q⟩
  ·refine wpAny_pyIter_ascii ha ?_;exact ⟨s1.heap.objs.size,[s1.heap.objs.size],_,_,H1,rfl,I1.kept (t':=s1.toks) λb o e=>ub9 _ e,Mc (T:="str_ascii_iterator") (x:=z) (t:=t) _ (by decide) (λA hA=>Walks.strAscii hA _ z t) (λ_ _ _ _ _ st h=>wpAny_pyIter_striter_ascii st h),⟨_,ue7 _ rfl,rfl,rfl⟩,fp,q⟩
def Sv:R2:=λx y H Q=>∃z k,x = .str z/\y = .int k/\MulOk z k/\Q (.str (Txt.mul z k)) H
theorem TV:OpR X (binaryOp .Mult) Sv:=by
 intro pins s σ H x y v u Q I rx ry h;obtain ⟨z,k,rfl,rfl,hk,q⟩:=h;obtain ⟨t,rfl⟩:=rx;obtain ⟨t',rfl⟩:=ry;exact SB.mul hk λt2 tk=>⟨.str _,H,I.tok tk,⟨t2,rfl⟩,q⟩
def WL:V->Option Int->Option Int->Hp->VK->Prop:=λx lo hi H Q=>∃z,x = .str z/\z.length<=sizeLine/\Q (.str (Txt.slice z lo hi)) H
theorem sl_str:SlR X WL:=by
 intro pins s σ H x v vl vu lo hi sl Q I rx hs pl pu h;obtain ⟨z,rfl,hz,q⟩:=h;obtain ⟨t,rfl⟩:=rx;refine ⟨"str",_,PySem.F.slot_str_getitem.lookup,typeIs_str _ _ _,?_⟩;have part:∀{v:Value} {o:Option Int},IsPart v o->∃l:Option (Int×Tok),v=partValue l/\l.map (·.1)=o:=λ{v o} p=>by
  cases p with
  | none=>exact ⟨none,rfl,rfl⟩
  | int i t=>exact ⟨some (i,t),rfl,rfl⟩
 obtain ⟨l,rfl,el⟩:=part pl;obtain ⟨u,rfl,eu⟩:=part pu;refine wpAny_getItem_str_slice (l:=l) (u:=u) (st:=none) (by obtain ⟨o,h1,h2,h3⟩:=hs;exact ⟨o,h1,h2,h3⟩) rfl ?_;unfold sliceMade slicePicked;rw [el,eu];show (if ((1:Int) == 1 && (Builtin.Str.strSliceIndices lo hi 1 z.length).length == z.length)=true then Made.val (.str z t) else Made.str ⟨((Builtin.Str.strSliceIndices lo hi 1 z.length).filterMap (z.cps[·]?)).toArray⟩).post _ s;have hle:=Txt.slice_le z lo hi;unfold Txt.slice at q hle
 by_cases hc:((1:Int) == 1 && (Builtin.Str.strSliceIndices lo hi 1 z.length).length == z.length)=true
 ·rw [if_pos hc] at q ⊢;exact ⟨.str z,H,I,⟨t,rfl⟩,q⟩
 ·rw [if_neg hc] at q hle ⊢;exact ⟨un6 hle hz,.str _,H,I.tok _,⟨_,rfl⟩,q⟩
def Gy (g:Int->Int->Bool)(h:List Nat->List Nat->Bool):R2:=λx y H Q=>(∃i j,x = .int i/\y = .int j/\Q (.bl (g i j)) H)\/∃i j,x = .str i/\y = .str j/\Q (.bl (h i.cps.toList j.cps.toList)) H
theorem Pi:OpR X (compareOp .Lt) (Gy (λi j=>decide (i < j)) λi j=>decide (i < j)):=op_lt.or λpins s σ H x y v u Q I rx ry h=>by
 obtain ⟨i,j,rfl,rfl,q⟩:=h;obtain ⟨t,rfl⟩:=rx;obtain ⟨t',rfl⟩:=ry;exact P.lt_str ⟨.bl _,H,I,rfl,q⟩
theorem FU:OpR X (compareOp .LtE) (Gy (λi j=>decide (i<=j)) λi j=>!(decide (j < i))):=op_le.or λpins s σ H x y v u Q I rx ry h=>by
 obtain ⟨i,j,rfl,rfl,q⟩:=h;obtain ⟨t,rfl⟩:=rx;obtain ⟨t',rfl⟩:=ry;exact P.le_str ⟨.bl _,H,I,rfl,q⟩
theorem Pg:OpR X (compareOp .Gt) (Gy (λi j=>decide (j < i)) λi j=>decide (j < i)):=op_gt.or λpins s σ H x y v u Q I rx ry h=>by
 obtain ⟨i,j,rfl,rfl,q⟩:=h;obtain ⟨t,rfl⟩:=rx;obtain ⟨t',rfl⟩:=ry;exact P.gt_str ⟨.bl _,H,I,rfl,q⟩
theorem V8:OpR X (compareOp .GtE) (Gy (λi j=>decide (j<=i)) λi j=>!(decide (i < j))):=op_ge.or λpins s σ H x y v u Q I rx ry h=>by
 obtain ⟨i,j,rfl,rfl,q⟩:=h;obtain ⟨t,rfl⟩:=rx;obtain ⟨t',rfl⟩:=ry;exact P.ge_str ⟨.bl _,H,I,rfl,q⟩
end
end L2
namespace F2
open PySem L2 PySem.Spec
def Dn:D->M (List D)
 | .lst ds=>ret ds
 | .scr ns=>ret (ns.map .int)
 | .tup ds=>ret ds
 | .str x=>ret (x.cps.toList.map λc=>.str ⟨#[c]⟩)
 | _=>fail
def CW (f:M D):M (List D):=bnd f Dn
def EK:D->D->M D
 | .str x,.int k=>λt=>if BJ k=true/\x.length * k.toNat<=LIM/\k<=LIM/\x.length<=LIM then some (.str (Txt.mul x k),t) else none
 | x,y=>Ij x y
def BU:D->Option Int->Option Int->M D
 | .str x,lo,hi=>lim x.length (.str (Txt.slice x lo hi))
 | .tup ds,lo,hi=>ret (.tup (Bh ds lo hi))
 | x,lo,hi=>slD x lo hi
def Le (g:Int->Int->Bool)(h:List Nat->List Nat->Bool):D->D->M D
 | .int i,.int j=>ret (.bl (g i j))
 | .str x,.str y=>ret (.bl (h x.cps.toList y.cps.toList))
 | _,_=>fail
def ltA:=Le (λi j=>decide (i < j)) (λi j=>decide (i < j))
def leA:=Le (λi j=>decide (i<=j)) (λi j=>!(decide (j < i)))
def gtA:=Le (λi j=>decide (j < i)) (λi j=>decide (j < i))
def geA:=Le (λi j=>decide (j<=i)) (λi j=>!(decide (i < j)))
def unS (n:Nat)(g:List D->M Unit):D->M Unit
 | .tup ds=>if ds.length=n then g ds else fail
 | .lst ds=>if ds.length=n then g ds else fail
 | _=>fail
def YH:M D:=fC .dic
def Hz (i:Nat)(g:M D)(d:D):M Unit:=λt=>match t.env[i]? with
 | some (some (.own _))=>bnd g (λj t1=>match j,t1.env[i]? with
   | .int j,some (some (.own xs))=>(ixN xs.length j).map λn=>((),{ t1 with env:=t1.env.set i (some (.own (xs.set n d))) })
   | _,_=>none) t
 | _=>none
variable {tg:Expr}{K:PySem.W.Frag}{n k:Nat}{g:List D->M Unit}{es:List Expr}
section
variable {X:Cx}{e a b:Expr}{pos:Pos}{st:Stmt}
theorem ItOk.str {K:PySem.W.Frag}{c:Cf}{H:Hp}{x:Str}:ItOk K (Its x) c H (x.cps.toList.map λc=>.str ⟨#[c]⟩):=by
 refine ⟨λc' H' i ex hi=>?_,λc' H' i y H'' d ex hd hy=>?_,λc' H' ex=>?_⟩
 ·show i < x.cps.size;simpa using hi
 ·obtain ⟨rfl,n,hn,rfl⟩:=hy;refine ⟨rfl,?_⟩;have:d = .str ⟨#[n]⟩:=by
   rw [ug8] at hd;have hn':x.cps.toList[i]?=some n:=by simpa using hn
   rw [hn'] at hd;simpa using hd.symm
  rw [this];exact .str _
 ·show _=x.cps.size;simp
theorem VC {f:M D}(h:PE X e (RE X.K f)):PI X tg e (RI X.K (CW f)):=
 GJ (Pp h) λσ H R z9=>by
  obtain ⟨Oo,c,t,fi,ds,t',eq,k⟩:=z9;obtain ⟨d,t1,e1,eq⟩:=Ah eq;refine ⟨Oo,c,t,fi,d,t1,e1,λv H1 c1 f1 s1 rv=>?_⟩
  cases rv with
  | @lst p vs ds' h1 h2 h3=>
    cases eq
    exact .inl ⟨p,rfl,⟨vs,SqL.of h1⟩,k _ H1 c1 f1 s1 (ItOk.lst λc' H' ex=>⟨vs,SqL.of (ex.keep _ _ h1 h2),h3.mono ex⟩)⟩
  | @scr p ns h1=>
    cases eq
    exact .inl ⟨p,rfl,⟨_,h1.sq⟩,k _ H1 c1 f1 s1 (ItOk.lst λc' H' ex=>⟨_,(h1.mono ex).sq,Reps.ints ns⟩)⟩
  | @tup p vs ds' h1 h2 h3=>
    cases eq
    exact .inr (.inl ⟨p,rfl,⟨vs,SqT.of h1⟩,k _ H1 c1 f1 s1 (ItOk.tup λc' H' ex=>⟨vs,SqT.of (ex.keep _ _ h1 h2),h3.mono ex⟩)⟩)
  | str x=>
    cases eq
    exact .inr (.inr ⟨x,rfl,k _ H1 c1 f1 s1 ItOk.str⟩)
  | _=>cases eq
theorem RG.un {v:V}{σ:L2.St}{H:Hp}{Q:L2.St->Hp->Prop}(q:RG K (unS n g) v σ H Q):gUn K n (RGs K g) v σ H Q:=by
 obtain ⟨Oo,c,t,d,fi,rv,t',eq,k⟩:=q
 cases rv with
 | @tup a vs ds h1 h2 h3=>
   unfold unS at eq
   by_cases hn:ds.length=n
   ·dsimp only at eq;rw [if_pos hn] at eq;exact ⟨a,vs,rfl,.inl (SqT.of h1),by rw [h3.length];exact hn,Oo,c,t,ds,fi,h3,t',eq,k⟩
   ·dsimp only at eq;rw [if_neg hn] at eq;cases eq
 | @lst a vs ds h1 h2 h3=>
   unfold unS at eq
   by_cases hn:ds.length=n
   ·dsimp only at eq;rw [if_pos hn] at eq;exact ⟨a,vs,rfl,.inr (SqL.of h1),by rw [h3.length];exact hn,Oo,c,t,ds,fi,h3,t',eq,k⟩
   ·dsimp only at eq;rw [if_neg hn] at eq;cases eq
 | _=>cases eq
theorem Xo (hc:X.calm=true)(h:PGs X es (RGs X.K g))(hn:(assignEach es X.env).length=n:=by rfl)(hst:(assignEach es X.env).findIdx? (·.1)=none:=by rfl):PG X (.Tuple es k pos) (RG X.K (unS n g)):=
 ID (XD hc h hn hst) λ_ _ _ _ q=>RG.un q
theorem Qw {f:D->M Unit}(h1:PG X e (RG X.K f))(h2:PGs X es (RGs X.K g))(hs:(assignEach (e :: es) X.env).map (·.2)=assign e X.env :: (assignEach es X.env).map (·.2):=by rfl):PGs X (e :: es) (RGs X.K (Bx f g)):=
 Mt (Q1 h1 h2 hs) λ_ _ _ _ q=>RGs.cons q
theorem OO (i:Nat){x:Str}{ix:Expr}{g:M D}{px:Pos}(hi:PE X ix (RE X.K g))(hN:X.N[i]?=some x:=by rfl)(hv:Vis X.env.scope x:=by walk_at "h")(hd:(x == ("__debug__" : Str))=false:=by decide)
 (hcd:(x == ("__classdict__" : Str))=false:=by decide)
 (ha:∀v,assign (.Subscript (.Name x px) ix pos) X.env v=(do
   let ov <-holding [v] (eval (.Name x px) X.env)
   let iv <-holding [v,ov] (eval ix X.env)
   standAt pos
   holding [v,ov,iv] (setItem ov iv v)
   release [v,ov,iv] []):=by intro _;rfl):PG X (.Subscript (.Name x px) ix pos) (RG X.K (Hz i g)):=
 ID (Po (EA hN hv hd hcd) hi L6 ha) λv σ H Q z9=>by
  obtain ⟨Oo,c,t,d,fi,rv,t',eq,k⟩:=z9;unfold Hz at eq
  split at eq
  ·next xs0 e0=>
   obtain ⟨j,t1,e1,eq⟩:=Ah eq;obtain ⟨a,vs0,h1,h2,h3,h4,h5⟩:=fi.own i xs0 e0;refine ⟨.ref a,h1,Oo,c,t,fi,j,t1,e1,λy H1 c1 f1 s1 ry=>?_⟩
   split at eq
   ·next j' xs ex=>
    obtain ⟨n,en,ez⟩:=uc2.mp eq
    cases ez
    cases ry
    obtain ⟨a',vs,g1,g2,g3,g4,g5⟩:=f1.own i xs ex;rw [h1] at g1;injection g1 with g1;injection g1 with g1;injection g1 with g1;subst g1
    refine ⟨a,vs,j',n,rfl,rfl,g4,by rw [g5.length];exact en,?_⟩;obtain ⟨f2,s2⟩:=f1.wrOwn ex h1 (Reps.set (rv.mono s1.ext) n g5);exact k σ _ c1 f2 (s1.trans s2)
   ·cases eq
  ·cases eq
end
variable {x:Str}
section
variable {K:PySem.W.Frag}
def Su (K:PySem.W.Frag):R2:=λx y H Q=>NX K x y H Q\/Sv x y H Q
theorem TU {X:Cx}:OpR X (binaryOp .Mult) (Su X.K):=op_mul3.or TV
theorem Mn {k:Int}(h:BJ k=true/\x.length * k.toNat<=LIM/\k<=LIM/\x.length<=LIM):MulOk x k:=by
 obtain ⟨g1,g2⟩:=DI h.1;have hL:LIM=100000:=rfl;refine ⟨?_,λh1 _=>?_,λh1 _=>?_⟩
 ·rw [ue0];exact ⟨ul6 (by lia),ul6 (by lia)⟩
 ·have h2:k<=100000:=by have:=h.2.2.1;rw [hL] at this;exact this
  have h3:x.length<=100000:=by have:=h.2.2.2;rw [hL] at this;exact this
  have h4:(92233720368547:Int)<=(2 ^ 63 - 1) / k:=by
   rw [Int.le_ediv_iff_mul_le (by lia)];lia
  lia
 ·have h5:=h.2.1;rw [hL] at h5;unfold Builtin.Str.tooLong
  first | exact ul6 (by unfold sizeLine;lia) | (unfold sizeLine;exact ul6 (by lia))
theorem Rr:A1 K (Su K) EK:=λ{Oo c t σ H x y dx dy r t' Q} f rx ry eq k=>by
 unfold EK at eq
 split at eq
 ·next z kk=>
  split at eq
  ·next h=>
   cases eq
   cases rx
   cases ry
   exact .inr ⟨z,kk,rfl,rfl,Mn h,k _ H c f .refl (.str _)⟩
  ·cases eq
 ·exact .inl (Ut f rx ry eq k)
def WJ (K:PySem.W.Frag):V->Option Int->Option Int->Hp->VK->Prop:=λx lo hi H Q=>Ri K x lo hi H Q\/(WL x lo hi H Q\/WN K x lo hi H Q)
theorem sl3 {X:Cx}:SlR X (WJ X.K):=sl2.or (sl_str.or UD)
theorem Nw {α:Type}{xs:List α}{lo hi:Option Int}(h:HT.sIx xs.length 0 lo=0/\HT.sIx xs.length xs.length hi=xs.length):Bh xs lo hi=xs:=by
 unfold Bh;rw [h.1,h.2];simp
theorem Uy:Qa K (WJ K) BU:=λ{Oo c t σ H x dx r lo hi t' Q} f rx eq k=>by
 unfold BU at eq
 split at eq
 ·next z=>
  obtain ⟨h,e⟩:=Dv eq
  cases e
  cases rx
  exact .inr (.inl ⟨z,rfl,un6 h Bu,k _ H c f .refl (.str _)⟩)
 ·next ds=>
  cases eq
  cases rx with
  | @tup p vs ds h1 h2 h3=>
    by_cases hw:HT.sIx ds.length 0 lo=0/\HT.sIx ds.length ds.length hi=ds.length
    ·rw [Nw hw] at k;exact .inr (.inr ⟨p,vs,rfl,SqT.of h1,by rw [h3.length];exact hw,k _ H c f .refl (.tup h1 h2 h3)⟩)
    ·exact .inl (.inr ⟨p,vs,rfl,SqT.of h1,by rw [h3.length];exact hw,λq hq=>k _ _ c (f.laid hq) (f.stp_laid hq) (.tup AD (f.s.free hq) ((Iu h3 lo hi).mono (Ext.laid f.s hq)))⟩)
 ·exact .inl (WW f rx eq k)
theorem Hv {g:Int->Int->Bool}{h:List Nat->List Nat->Bool}:A1 K (Gy g h) (Le g h):=λ{Oo c t σ H x y dx dy r t' Q} f rx ry eq k=>by
 cases rx with
 | int i=>cases ry with
   | int j=>cases eq;exact .inl ⟨i,j,rfl,rfl,k _ H c f .refl (.bl _)⟩
   | _=>cases eq
 | str i=>cases ry with
   | str j=>cases eq;exact .inr ⟨i,j,rfl,rfl,k _ H c f .refl (.bl _)⟩
   | _=>cases eq
 | _=>cases eq
theorem M9:A1 K (Gy (λi j=>decide (i < j)) λi j=>decide (i < j)) ltA:=Hv
theorem EW:A1 K (Gy (λi j=>decide (i<=j)) λi j=>!(decide (j < i))) leA:=Hv
theorem M7:A1 K (Gy (λi j=>decide (j < i)) λi j=>decide (j < i)) gtA:=Hv
theorem Ul:A1 K (Gy (λi j=>decide (j<=i)) λi j=>!(decide (i < j))) geA:=Hv
end
variable {fa:Addr}{fd:FuncData}
theorem VG {P:Program}{w:World}{mg:Str->Option Value}{base:Heap}{qual:Str}{st:Stmt}{N ps:List Str}{m:Nat}{g:M Out}(e1:ps.length=n)(e2:N.length=m)(F:Fun K x qual st fa fd)(S:FnScope N ps (Az st))
 (hb:∀(cdv:Value) (A:Around) (outer:List Env) (s:Shared) (H:Hp) (E:XK),Room k (A.deeper (PyProof.Rows.envOfC qual (Az st) s.heap.objs.size fa cdv))->
   PSs (D3 CX0 P w K mg base N qual (Az st) fa cdv A outer s H E).nox (Cv st) (RS K g)):FnOk P w K mg base CX0 (k + 1) fa fd ps (spF K (fnOf n m g)):=by
 subst e1 e2;exact Xq F S hb
theorem WR {P:Program}{w:World}{mg:Str->Option Value}{base:Heap}{ps:List Str}{f g:Fn}(e:f=g)(h:FnOk P w K mg base CX0 k fa fd ps (spF K g)):FnOk P w K mg base CX0 k fa fd ps (spF K f):=by rw [e];exact h
theorem Ou:bootBuiltins "len" = some (.builtin "len"):=by decide +kernel
theorem CL:bootBuiltins "isinstance" = some (.builtin "isinstance"):=by decide +kernel
theorem Vc:bootBuiltins "ord" = some (.builtin "ord"):=by decide +kernel
theorem Vb:bootBuiltins "min" = some (.builtin "min"):=by decide +kernel
theorem Va:bootBuiltins "max" = some (.builtin "max"):=by decide +kernel
theorem Ve:bootBuiltins "sum" = some (.builtin "sum"):=by decide +kernel
theorem Ot:bootBuiltins "int" = some (.type "int"):=by decide +kernel
theorem Vd:bootBuiltins "str" = some (.type "str"):=by decide +kernel
theorem SM:bootBuiltins "bool" = some (.type "bool"):=by decide +kernel
theorem Mz:bootBuiltins "list" = some (.type "list"):=by decide +kernel
theorem K3:bootBuiltins "tuple" = some (.type "tuple"):=by decide +kernel
noncomputable def AM:Expr->Bool
 | .Starred _ _=>true
 | _=>false
theorem AA {e:Expr}{env:Env}(h:AM e=false):starEach (e :: es) env=(false,eval e env) :: starEach es env:=by
 cases e <;> first | rfl | cases h
def AX (es:List Expr):Bool:=es.all λe=>!AM e
theorem AK:∀{es:List Expr} {env:Env} {p:Pos},AX es=true->(backTo p (starEach es env)).any (·.1)=false/\(backTo p (starEach es env)).all (λx=>!x.1)=true
 | [],env,p,_=>⟨rfl,rfl⟩
 | e :: es,env,p,h=>by
   have h':AM e=false/\AX es=true:=by
    rw [AX,um6,ui2] at h;exact ⟨by simpa using h.1,h.2⟩
   obtain ⟨h1,h2⟩:=AK (es:=es) (env:=env) (p:=p) h'.2;rw [AA h'.1];refine ⟨?_,?_⟩
   ·show (false || (backTo p (starEach es env)).any (·.1))=false;rw [h1];rfl
   ·show (!false && (backTo p (starEach es env)).all (λx=>!x.1))=true;rw [h2];rfl
variable {f:M (List D)}{p:Pos}{id:String}{R:List V->Hp->VK->Prop}
section
variable {X:Cx}{e a b:Expr}{es:List Expr}{pos:Pos}
theorem Qs {f:M D}{g:M (List D)}(ha:PE X e (RE X.K f))(hr:PA X es (RA X.K g))(hs:AM e=false:=by rfl):PA X (e :: es) (RA X.K (Aa f g)):=SR ha hr (AA hs)
theorem Ll {ps:List Str}{g:Fn}(F:FnOk X.prog X.w X.K X.mg X.base CX0 k fa fd ps (spF X.K g))(hr:Room k X.A)(hg:Gl X x)(hm:X.mg x=some (.ref fa))(hk:PySem.W.keepIn X.K (.ref fa)=true)(hb:Binds X.K fd ps [])
 (ha:PA X (e :: es) (RA X.K f)) (hdb:(x == ("__debug__" : Str))=false:=by decide) (h1:AM e=false:=by rfl) (h2:AX es=true:=by rfl) :
 PE X (.Call (.Name x p) (e :: es) [] pos) (RE X.K (Ae g f)):=ST F hr hg hm hk hb ha hdb (AA h1) (AK h2).1
theorem Fp {h:List D->M D}(hc:BA X (.builtin id) R)(s:Du X.K R h)(hg:Gl X x)(hm:X.mg x=none)(hv:bootBuiltins x=some (.builtin id))(ha:PA X (e :: es) (RA X.K f))(hn:x≠"__name__":=by decide)(hdb:(x == ("__debug__" : Str))=false:=by decide)
 (h1:AM e=false:=by rfl) (h2:AX es=true:=by rfl):PE X (.Call (.Name x p) (e :: es) [] pos) (RE X.K (fB f h)):=YI hc s hg hm hv ha hn hdb (AA h1) (AK h2).1
theorem Sd {h:List D->M D}(hc:BA X (.type id) R)(s:Du X.K R h)(hg:Gl X x)(hm:X.mg x=none)(hv:bootBuiltins x=some (.type id))(ha:PA X (e :: es) (RA X.K f))(hn:x≠"__name__":=by decide)(hdb:(x == ("__debug__" : Str))=false:=by decide)
 (h1:AM e=false:=by rfl) (h2:AX es=true:=by rfl):PE X (.Call (.Name x p) (e :: es) [] pos) (RE X.K (fB f h)):=YJ hc s hg hm hv ha hn hdb (AA h1) (AK h2).1
theorem Xm {h:List D->M (List D)}(hc:BA X (.type id) R)(s:Ku X.K R h)(hg:Gl X x)(hm:X.mg x=none)(hv:bootBuiltins x=some (.type id))(ha:PA X (e :: es) (RA X.K f))(hn:x≠"__name__":=by decide)(hdb:(x == ("__debug__" : Str))=false:=by decide)
 (h1:AM e=false:=by rfl) (h2:AX es=true:=by rfl):PE X (.Call (.Name x p) (e :: es) [] pos) (RF X.K (fBF f h)):=YK hc s hg hm hv ha hn hdb (AA h1) (AK h2).1
theorem Nz (hg:Gl X "range")(hm:X.mg "range" = none)(ha:PA X [a] (RA X.K f))(h1:AM a=false:=by rfl):PI X tg (.Call (.Name "range" p) [a] [] pos) (RI X.K (BB f)):=OP hg hm ha (AA h1)
theorem NA (hg:Gl X "range")(hm:X.mg "range" = none)(ha:PA X [a,b] (RA X.K f))(h1:AM a=false:=by rfl)(h2:AM b=false:=by rfl):PI X tg (.Call (.Name "range" p) [a,b] [] pos) (RI X.K (Fm f)):=
 OQ hg hm ha (by rw [AA h1,AA h2];rfl) (AA h2)
theorem Ln {cpos:Pos}(h1:AM e=false)(h2:AX es=true)(h3:es.length < 20):((backTo cpos (starEach (e :: es) X.env)).all (λx=>!x.1) && (backToKw cpos (keywordEach [] X.env)).all (λx=>x.1.isSome) && decide ((e :: es).length + ([]:List Keyword).length + (if ([]:List Keyword).isEmpty then 0 else 1) < 30))=true:=by
 rw [(AK (es:=e :: es) (env:=X.env) (p:=cpos) (by rw [AX,um6,h1];exact h2)).2];show (true && true && decide (es.length + 1 + 0 + 0 < 30))=true;simp;lia
theorem NB {μ:Cf->Hp->D->(V->Hp->Prop)->Prop}(i:Nat){x:Str}{g:M (List D)}{px apos cpos:Pos}(ha:PA X (e :: es) (RA X.K g))(hN:X.N[i]?=some x:=by rfl)(hv:Vis X.env.scope x:=by walk_at "h")(hd:(x == ("__debug__" : Str))=false:=by decide)
 (hcd:(x == ("__classdict__" : Str))=false:=by decide) (hline:(apos.endLine == cpos.line)=true:=by rfl) (h1:AM e=false:=by rfl) (h2:AX es=true:=by rfl) (h3:es.length < 20:=by decide) :
 PS X (.Expr (.Call (.Attribute (.Name x px) "append" apos) (e :: es) [] cpos) pos) (RSg X.K μ (ownM i Dj g)):=OR i ha hN hv hd hcd rfl (Ln h1 h2 h3) hline (AA h1) (AK h2).1
theorem NC {μ:Cf->Hp->D->(V->Hp->Prop)->Prop}(i:Nat){x:Str}{g:M (List D)}{px apos cpos:Pos}(ha:PA X (e :: es) (RA X.K g))(hN:X.N[i]?=some x:=by rfl)(hv:Vis X.env.scope x:=by walk_at "h")(hd:(x == ("__debug__" : Str))=false:=by decide)
 (hcd:(x == ("__classdict__" : Str))=false:=by decide) (hline:(apos.endLine == cpos.line)=true:=by rfl) (h1:AM e=false:=by rfl) (h2:AX es=true:=by rfl) (h3:es.length < 20:=by decide) :
 PS X (.Expr (.Call (.Attribute (.Name x px) "extend" apos) (e :: es) [] cpos) pos) (RSg X.K μ (ownM i Fw g)):=OS i ha hN hv hd hcd rfl (Ln h1 h2 h3) hline (AA h1) (AK h2).1
end
end F2
namespace HT
open PySem PySem.Spec L2 PyProof.Rows
section
variable {prog:Program}{w:World}{A:Around}{E:Value->Shared->Prop}{s:Shared}
end
end HT
namespace L2
open PySem PySem.Spec PyProof.Rows
section
variable {X:Cx}{e ek:Expr}{p2 pos:Pos}{te:TE}{tk:TO}
end
section
variable {X:Cx}
end
section
variable {X:Cx}
end
section
variable {X:Cx}
end
end L2
namespace F2
open PySem L2 PySem.Spec
section
variable {X:Cx}{K:PySem.W.Frag}
def FO:List D->Option (List Int)
 | []=>some []
 | .int i :: r=>(FO r).map (i :: ·)
 | _=>none
theorem Lv {c:Cf}{H:Hp}:∀{ds:List D} {vs:List V} {ns:List Int},Reps K c H vs ds->FO ds=some ns->vs=ns.map V.int
 | [],_,ns,r,e=>by
   cases r
   cases e
   rfl
 | d :: ds,_,ns,r,e=>by
   cases r with
   | cons r1 r2=>
     cases r1 with
     | int i=>
       obtain ⟨zs,e1,rfl⟩:=uc2.mp e;rw [Lv r2 e1];rfl
     | _=>cases e
end
end F2
namespace L2
open PySem PySem.Spec PyProof.Rows
section
variable {X:Cx}
end
end L2
namespace F2
open PySem L2 PySem.Spec
noncomputable def Xx (kvs:List (Key×D))(k:Key):Option D:=(kvs.find? λkv=>decide (kv.1=k)).map (·.2)
def FM (i:Nat)(g:M D):M D:=λt=>match t.env[i]? with
 | some (some (.own _))=>bnd g (λj t1=>match j,t1.env[i]? with
   | .int j,some (some (.own xs))=>(atI xs j).map λd=>(d,t1)
   | _,_=>none) t
 | _=>none
section
variable {K:PySem.W.Frag}{c:Cf}{H:Hp}
end
section
variable {X:Cx}{pos:Pos}{e:Expr}
theorem Qt (i:Nat){x:Str}{ix:Expr}{g:M D}{px:Pos}(hi:PE X ix (RE X.K g))(hs:Jo ix)(hN:X.N[i]?=some x:=by rfl)(hv:Vis X.env.scope x:=by walk_at "h")(hd:(x == ("__debug__" : Str))=false:=by decide)
 (hcd:(x == ("__classdict__" : Str))=false:=by decide):PE X (.Subscript (.Name x px) ix pos) (RE X.K (FM i g)):=
 AH (Sj ix_list (EA hN hv hd hcd) hi hs) λσ H Q z9=>by
  obtain ⟨Oo,c,t,fi,r,t',eq,k⟩:=z9;unfold FM at eq
  split at eq
  ·next xs0 e0=>
   obtain ⟨j,t1,e1,eq⟩:=Ah eq;obtain ⟨a,vs0,h1,h2,h3,h4,h5⟩:=fi.own i xs0 e0;refine ⟨.ref a,h1,Oo,c,t,fi,j,t1,e1,λy H1 c1 f1 s1 ry=>?_⟩
   split at eq
   ·next j' xs ex=>
    obtain ⟨d,en,ez⟩:=uc2.mp eq
    cases ez
    cases ry
    obtain ⟨a',vs,g1,g2,g3,g4,g5⟩:=f1.own i xs ex;rw [h1] at g1;injection g1 with g1;injection g1 with g1;injection g1 with g1;subst g1
    obtain ⟨v,e3,e4⟩:=F6 g5 en;exact ⟨a,vs,j',v,rfl,rfl,SqL.of g4,e3,k _ H1 c1 f1 s1 e4⟩
   ·cases eq
  ·cases eq
end
end F2
namespace L2
open PySem PySem.Spec PyProof.Rows
section
variable {X:Cx}
end
end L2
namespace F2
open PySem L2 PySem.Spec
section
variable {X:Cx}{pos:Pos}{e:Expr}{es:List Expr}
end
end F2
namespace L2
open PySem PySem.Spec PyProof.Rows
section
variable {prog:Program}{w:World}{A:Around}{I:Addr}{fp wr:List Addr}{G:Array GenState->Array GenState->Prop}{n:Nat}{P:Nat->Value->Prop}{St:Nat->Shared->Prop}
end
section
variable {X:Cx}
end
end L2
namespace F2
open PySem L2 PySem.Spec PyProof.Rows
section
variable {X:Cx}{pos:Pos}{e:Expr}
end
end F2
namespace F2
open PySem L2 PySem.Spec
noncomputable def CO (f:M Bool)(b:M Out):Nat->M Out
 | 0=>λ_=>none
 | n + 1=>λt=>match f t with
   | none=>none
   | some (false,t1)=>some (.next,t1)
   | some (true,t1)=>match b t1 with
     | some (.next,t2)=>CO f b n t2
     | some (.cont,t2)=>CO f b n t2
     | some (.brk,t2)=>some (.next,t2)
     | some (.ret x,t2)=>some (.ret x,t2)
     | none=>none
def Kv:Nat:=1000000
def Mf (f:M Bool)(b:M Out):M Out:=CO f b Kv
theorem RS.while {μ:Cf->Hp->D->(V->Hp->Prop)->Prop}{K:PySem.W.Frag}{f:M Bool}{b:M Out}{E:Ends}{σ:L2.St}{H:Hp}(q:RSg K μ (Mf f b) E σ H):PY (RT K f) (RSg K μ b) E σ H:=by
 obtain ⟨Oo,c,t,fi,o,t',eq,k⟩:=q;refine ⟨λm σ' H'=>∃c' t2,FInv K Oo c' t2 σ' H'/\Stp Oo c H c' H'/\CO f b m t2=some (o,t'),⟨Kv,c,t,fi,.refl,eq⟩,?_⟩;rintro m σ' H' ⟨c',t2,f2,s2,e2⟩
 cases m with
 | zero=>cases e2
 | succ m=>
 rw [CO] at e2;dsimp only at e2
 cases ef:f t2 with
 | none=>rw [ef] at e2;cases e2
 | some p=>
 obtain ⟨r,t3⟩:=p;rw [ef] at e2;refine ⟨Oo,c',t2,f2,r,t3,ef,λH3 c3 f3 s3=>?_⟩
 cases r with
 | false=>
   cases e2
   exact k σ' H3 c3 f3 (s2.trans s3)
 | true=>
   rw [if_pos rfl];dsimp only at e2;refine ⟨λσ4 H4=>∃c4 t4,FInv K Oo c4 t4 σ4 H4/\Stp Oo c H c4 H4/\CO f b m t4=some (o,t'),λσ4 H4 h=>⟨m,ui4 m,h⟩,?_⟩
   cases eb:b t3 with
   | none=>rw [eb] at e2;cases e2
   | some p=>
   obtain ⟨ob,t4⟩:=p;rw [eb] at e2;refine ⟨Oo,c3,t3,f3,ob,t4,eb,λσ4 H4 c4 f4 s4=>?_⟩
   cases ob with
   | next=>exact ⟨c4,t4,f4,(s2.trans s3).trans s4,e2⟩
   | cont=>exact ⟨c4,t4,f4,(s2.trans s3).trans s4,e2⟩
   | brk=>
     cases e2
     exact k σ4 H4 c4 f4 ((s2.trans s3).trans s4)
   | ret x=>
     cases e2
     exact k σ4 H4 c4 f4 ((s2.trans s3).trans s4)
section
variable {X:Cx}{pos:Pos}
theorem QA {μ:Cf->Hp->D->(V->Hp->Prop)->Prop}{e:Expr}{body:List Stmt}{f:M Bool}{b:M Out}(hp:PassesOwn (model X.prog X.w) X.A X.env X.xe)(hc:PT X e (RT X.K f))(hb:PSs X body (RSg X.K μ b)):PS X (.While e body [] pos) (RSg X.K μ (Mf f b)):=
 A3 (Q8 hp hc hb) λ_ _ _ q=>RS.while q
end
end F2
namespace L2
open PySem PySem.Spec PyProof.Rows
theorem HR (ns:List Int):∀n:Nat,n<=ns.length->preSum (λi=>ns.getD i 0) n=(ns.take n).sum
 | 0,_=>by simp [preSum]
 | n + 1,h=>by
   rw [preSum,HR ns n (by lia),List.take_succ,ub2 (by lia),List.sum_append];simp [ua6,ub2 (show n < ns.length by lia)]
theorem OC {X:Cx}(hc:X.calm=true):BA X (.builtin "sum") (λxs H Q=>∃(p:Addr) (ns:List Int),xs=[.ref p]/\SqL X.K H p (ns.map V.int)/\Q (.int ns.sum) H):=by
 intro pins s σ H xs us Q I r h;obtain ⟨p,ns,rfl,hq,q⟩:=h;obtain ⟨u,rfl,rx⟩:=DY r
 cases rx
 obtain ⟨its,rv,pl,hz⟩:=I.list hq;have hl:=rv.length;rw [uk5] at hl;have hlist:=pl.isList;have lp:p < s.heap.objs.size:=by obtain ⟨o,ho,_⟩:=hlist;exact un4 ho
 refine call_sum_walkAnyS (wpAny_pyIter_list hlist ?_);refine ⟨s.heap.objs.size,_,_,_,_,_,_,λi=>ns.getD i 0,rfl,(Walks.list (by simp [I.ok.hd hc]) s.heap.objs.size p (un5 lp) its.toArray).toS,⟨⟨_,ue7 _ rfl,rfl,rfl⟩,hlist.push _⟩,?_,?_,?_⟩
 ·intro b hb;simp only [um5,ui8,or_false] at hb;show b < (s.heap.push _).objs.size;rw [um0];rcases hb with rfl | rfl
  ·exact ui4 _
  ·exact uh2 lp
 ·intro i v e;have e':its[i]?=some v:=by simpa using e
  obtain ⟨hi,_⟩:=ua8.mp e';have hy:(ns.map V.int)[i]?=some (.int (ns.getD i 0)):=by
   rw [ug8,ua6,ub2 (by lia)];rfl
  obtain ⟨w',ew,rw'⟩:=rv.get hy;rw [e'] at ew;cases ew
  exact rw'
 ·intro s' t' mv;obtain ⟨h',g',d',tk',os'⟩:=s';obtain rfl:g'=s.gens:=mv.gens;obtain rfl:d'=s.drawn:=mv.drawn;obtain rfl:os'=s.os:=mv.os;have e:preSum (λi=>ns.getD i 0) its.toArray.size=ns.sum:=by
   rw [HR ns _ (by simp;lia),uc3 (by simp;lia)]
  refine ⟨.int ns.sum,H,I.kept (t':=tk') λb o e=>?_,⟨t',by rw [e]⟩,q⟩;have lb:=un4 e;exact mv.heap b o (by simp only [um5,ui8,or_false];exact un5 lb) (ub9 _ e)
end L2
namespace F2
open PySem L2 PySem.Spec
def JH:List D->M D
 | [.lst ds]=>λt=>match FO ds with
   | some ns=>some (.int ns.sum,t)
   | none=>none
 | _=>fail
theorem Rt {K:PySem.W.Frag}:Du K (λxs H Q=>∃(p:Addr) (ns:List Int),xs=[.ref p]/\SqL K H p (ns.map V.int)/\Q (.int ns.sum) H) JH:=λ{Oo c t σ H xs ds r t' Q} f rx eq k=>by
 unfold JH at eq
 split at eq
 ·next es=>
  split at eq
  ·next ns e=>
   cases eq
   obtain ⟨v,rfl,rv⟩:=Ds rx
   cases rv with
   | @lst a ws es g1 g2 g3=>
   have:=Lv g3 e;subst this;exact ⟨a,ns,rfl,SqL.of g1,k _ H c f .refl (.int _)⟩
  ·cases eq
 ·cases eq
end F2
namespace L2
open PySem PySem.Spec PyProof.Rows
section
variable {X:Cx}{tg:Expr}
end
end L2
namespace F2
open PySem L2 PySem.Spec
section
variable {X:Cx}{pos:Pos}{e:Expr}{es:List Expr}
end
noncomputable def Ej (H:Hp)(a:Addr):Hp:=λb=>if b=a then none else H b
theorem QX {H:Hp}{a:Addr}{o:HO}(h:H a=some o):upd (Ej H a) a o=H:=by
 funext b
 by_cases e:b=a
 ·subst e;rw [AD];exact h.symm
 ·rw [As e];unfold Ej;rw [if_neg e]
section
variable {K:PySem.W.Frag}{Oo:Addr->Prop}{c:Cf}{t:T}{σ:L2.St}{H:Hp}
theorem FInv.out (f:FInv K Oo c t σ H){i:Nat}{ds:List D}(e:t.env[i]?=some (some (.own ds))){a:Addr}(ha:σ[i]?=some (some (.ref a))) :
 FInv K Oo ⟨c.ι,λb=>c.O b/\b≠a⟩ { t with env:=t.env.set i none } σ (Ej H a)/\Stp Oo c H ⟨c.ι,λb=>c.O b/\b≠a⟩ (Ej H a):=by
 obtain ⟨a',vs,g1,g2,g3,g4,g5⟩:=f.own i ds e;rw [ha] at g1;injection g1 with g1;injection g1 with g1;injection g1 with g1;subst g1
 have ni:a∉c.ι:=f.s.dis a g2;have ext:Ext c H ⟨c.ι,λb=>c.O b/\b≠a⟩ (Ej H a):=by
  refine ⟨λb o hb hn=>?_,λb o hb z=>?_,λk b h=>h⟩
  ·unfold Ej;rw [if_neg λz=>hn (by rw [z];exact .inr g2)];exact hb
  ·rcases z with z | z
   ·exact .inl z
   ·exact .inr z.1
 have stp:Stp Oo c H ⟨c.ι,λb=>c.O b/\b≠a⟩ (Ej H a):=⟨ext,λb hb=>by unfold Ej;rw [if_neg λz=>g3 (by rw [<-z];exact hb)]⟩;have old:∀{j:Nat} {x:Sl},(t.env.set i none)[j]?=some (some x)->j≠i/\t.env[j]?=some (some x):=λ{j x} q=>by
  by_cases h:j=i
  ·subst h;rw [uh3] at q
   split at q
   ·split at q <;> simp at q
   ·contradiction
  ·exact ⟨h,by rw [ud8 (Ne.symm h)] at q;exact q⟩
 refine ⟨⟨⟨f.s.len,f.s.nd,λk b o e1 e2=>?_,λb hb=>?_,λb hb=>f.s.dis b hb.1⟩,by simpa using f.len,λb hb=>⟨f.sub b hb,λz=>g3 (by rw [<-z];exact hb)⟩,λj d q=>?_,λj es q=>?_,λj k es fs b q1 q2 q3 q4=>?_⟩,stp⟩
 ·refine (f.s.obs k b o e1 e2).mono ext ?_;unfold Ej;rw [if_neg λz=>ni (by rw [<-z];exact ud9 e1)]
 ·obtain ⟨o,ho⟩:=f.s.trk b hb.1;exact ⟨o,by unfold Ej;rw [if_neg hb.2];exact ho⟩
 ·obtain ⟨v,h1,h2⟩:=f.val j d (old q).2;exact ⟨v,h1,h2.mono ext⟩
 ·obtain ⟨nj,q'⟩:=old q;obtain ⟨b,us,k1,k2,k3,k4,k5⟩:=f.own j es q';have nb:b≠a:=λz=>nj (f.inj j i es ds a q' e (by rw [k1,z]) ha);exact ⟨b,us,k1,⟨k2,nb⟩,k3,by unfold Ej;rw [if_neg nb];exact k4,k5.mono ext⟩
 ·exact f.inj j k es fs b (old q1).2 (old q2).2 q3 q4
end
noncomputable def FY (i:Nat):M Out:=λt=>match t.env[i]? with
 | some (some (.own xs))=>some (.ret (.lst xs),{ t with env:=t.env.set i none })
 | _=>none
def Gz (f:M (List D)):M Out:=bnd f λds=>ret (.ret (.lst ds))
variable {g:Fn}{k:Nat}{fa:Addr}{fd:FuncData}
section
variable {X:Cx}{pos:Pos}{e:Expr}{es:List Expr}
theorem MF {f:M (List D)}(h:PE X e (RF X.K f)):PS X (.Return (some e) pos) (RSg X.K (μF X.K) (Gz f)):=
 A3 (Jb h) λE σ H z9=>by
  obtain ⟨Oo,c,t,fi,o,t',eq,k⟩:=z9;obtain ⟨ds,t1,e1,eq⟩:=Ah eq
  cases eq
  exact ⟨Oo,c,t,fi,ds,_,e1,λp us H1 c1 f1 s1 ru hp=>k σ H1 c1 f1 s1 p us hp ru⟩
theorem OV (i:Nat){x:Str}{px:Pos}(hN:X.N[i]?=some x:=by rfl)(hv:Vis X.env.scope x:=by walk_at "h")(hd:(x == ("__debug__" : Str))=false:=by decide)
 (hcd:(x == ("__classdict__" : Str))=false:=by decide):PS X (.Return (some (.Name x px)) pos) (RSg X.K (μF X.K) (FY i)):=
 A3 (Jb (EA hN hv hd hcd)) λE σ H z9=>by
  obtain ⟨Oo,c,t,fi,o,t',eq,k⟩:=z9;unfold FY at eq
  split at eq
  ·next xs ex=>
   cases eq
   obtain ⟨a,vs,h1,h2,h3,h4,h5⟩:=fi.own i xs ex;refine ⟨.ref a,h1,?_⟩;obtain ⟨f2,s2⟩:=fi.out ex h1;have:=k σ (Ej H a) _ f2 s2 a vs (by unfold Ej;rw [if_pos rfl]) (h5.mono s2.ext);rw [QX h4] at this;exact this
  ·cases eq
inductive spFF (K:PySem.W.Frag)(f:Fn)(vs:List V)(H:Hp)(Q:VK)(E:XK):Prop where
 | mk (c:Cf) (ds:List D) (S:List Ob) (si:SInv K c S H) (rp:Reps K c H vs ds) (rs:List D) (S':List Ob) (e:f ds S=some (.lst rs,S')) (k:∀p us H' c',SInv K c' S' H'->Stp c.O c H c' H'->(∀b,c'.O b↔c.O b)->Reps K c' H' us rs->H' p=none->Q (.ref p) (upd H' p (.lst us))):spFF K f vs H Q E
def CV (g:Fn)(f:M (List D)):M (List D):=bnd f λds t=>match g ds t.S with
 | some (.lst rs,S')=>some (rs,{ t with S:=S' })
 | _=>none
theorem Nv {ds:List D}{t:T}{rs:List D}{t':T}(h:(match g ds t.S with | some (.lst rs,S')=>some (rs,{ t with S:=S' }) | _=>none:Option (List D×T))=some (rs,t')):∃S',g ds t.S=some (.lst rs,S')/\t' = { t with S:=S' }:=by
 split at h
 ·next rs' S' e=>cases h;exact ⟨S',e,rfl⟩
 ·cases h
theorem Qv {ps:List Str}{f:M (List D)}{x:Str}{p:Pos}(F:FnOk X.prog X.w X.K X.mg X.base CX0 k fa fd ps (spFF X.K g))(hr:Room k X.A)(hg:Gl X x)(hm:X.mg x=some (.ref fa))(hk:PySem.W.keepIn X.K (.ref fa)=true)(hb:Binds X.K fd ps [])
 (ha:PA X (e :: es) (RA X.K f)) (hdb:(x == ("__debug__" : Str))=false:=by decide) (h1:AM e=false:=by rfl) (h2:AX es=true:=by rfl) :
 PE X (.Call (.Name x p) (e :: es) [] pos) (RF X.K (CV g f)):=
 AH (MX F hr hg hm hk hb .nil Si ha hdb (AA h1) (AK h2).1) λσ H Q z9=>by
  obtain ⟨Oo,c,t,fi,rs,t',eq,kk⟩:=z9;obtain ⟨ds,t1,e1,eq⟩:=Ah eq;obtain ⟨S',e2,rfl⟩:=Nv eq;refine ⟨Oo,c,t,fi,ds,t1,e1,λvs H1 c1 f1 s1 rvs=>?_⟩;show spFF X.K g (vs++[]) H1 Q E0;rw [uk2];refine ⟨c1,ds,t1.S,f1.s,rvs,rs,S',e2,λp us H' c' si st ho ru hp=>?_⟩;obtain ⟨f2,s2⟩:=f1.after si st ho;exact kk p us H' c' f2 (s1.trans s2) ru hp
end
theorem Td {P:Program}{w:World}{K:PySem.W.Frag}{mg:Str->Option Value}{base:Heap}{x qual:Str}{st:Stmt}{N ps:List Str}{n m:Nat}{g:M Out}(e1:ps.length=n)(e2:N.length=m)(F:Fun K x qual st fa fd)(S:FnScope N ps (Az st))
 (hb:∀(cdv:Value) (A:Around) (outer:List Env) (s:Shared) (H:Hp) (E:XK),Room k (A.deeper (PyProof.Rows.envOfC qual (Az st) s.heap.objs.size fa cdv))->
   PSs (D3 CX0 P w K mg base N qual (Az st) fa cdv A outer s H E).nox (Cv st) (RSg K (μF K) g)):FnOk P w K mg base CX0 (k + 1) fa fd ps (spFF K (fnOf n m g)):=by
 subst e1 e2;have hlen:∀{ds:List D} {S:List Ob} {z:D×List Ob},fnOf ps.length N.length g ds S=some z->ds.length=ps.length:=λ{ds S z} h=>by
  unfold fnOf at h
  split at h
  ·next h1=>exact h1
  ·cases h
 refine F.ok S (λvs H Q E h=>?_) (λcdv A outer s H vs Q E hr h=>?_)
 ·obtain ⟨c,ds,S,si,rs,r,S',e,_⟩:=h;rw [rs.length];exact hlen e
 obtain ⟨c,ds,S0,si,rs,r,S',e,kk⟩:=h;refine ⟨RSg K (μF K) g,hb cdv A outer s H E hr,?_⟩;have hl:=hlen e;unfold fnOf at e;rw [if_pos hl] at e
 cases eg:g ⟨env0 N.length ds,S0⟩ with
 | none=>rw [eg] at e;cases e
 | some p=>
   obtain ⟨o,t⟩:=p;rw [eg] at e;refine ⟨c.O,c,_,Gg si rs,o,t,eg,λσ' H' c' f' s'=>?_⟩;obtain ⟨si',ext'⟩:=f'.leave;have st':Stp c.O c H ⟨c'.ι,c.O⟩ H':=⟨s'.ext.trans ext',s'.oo⟩
   cases o with
   | next=>cases e
   | ret d=>
     cases e
     exact λp us hp ru=>kk p us H' _ si' st' (λ_=>Iff.rfl) (ru.mono ext') hp
   | brk=>cases e
   | cont=>cases e
theorem Ug {P:Program}{w:World}{K:PySem.W.Frag}{mg:Str->Option Value}{base:Heap}{ps:List Str}{f:Fn}(e:f=g)(h:FnOk P w K mg base CX0 k fa fd ps (spFF K g)):FnOk P w K mg base CX0 k fa fd ps (spFF K f):=by rw [e];exact h
end F2
namespace L2
open PySem PySem.Spec PyProof.Rows
section
variable {X:Cx}
theorem TX {o:Expr}{to:TE}{apos cpos:Pos}(ho:PE X o to)(hbase:attributeBase o "bit_length" X.env (eval o X.env)=eval o X.env:=by rfl)(hline:(apos.endLine == cpos.line)=true:=by rfl) :
 PE X (.Call (.Attribute o "bit_length" apos) [] [] cpos) (λσ H Q=>to σ H λv H1=>∃i,v = .int i/\Q (.int (Builtin.Int.intBits i:Nat)) H1):=by
 intro pins s σ H Q I h;refine Call_method0 hbase hline (thn (ho pins s σ H _ I h) λu s1 z9=>?_);obtain ⟨v,H1,I1,rv,i,ex,q⟩:=z9;subst ex;obtain ⟨t,rfl⟩:=rv;exact ⟨"int", "int.bit_length",PySem.F.plainAttrs_int,ua3,PySem.F.type_int_bit_length,typeIs_int _ _ _,(λ_ e=>nomatch e),
  method0_gives ua3 PySem.F.entry_int_bit_length (typeIs_int _ _ _) (PySem.F.args_int_bit_length_1 _) (PySem.AutoIntG2.int_bit_length_int_0 i t) ⟨.int (Builtin.Int.intBits i:Nat),H1,I1.tok _,⟨_,rfl⟩,q⟩⟩
def Sr:V->List V->Hp->VK->Prop:=λx vs H Q=>∃l xs y,x = .ref l/\vs=[.int 0,y]/\H l=some (.lst xs)/\xs.length < sizeLine/\Q .non (upd H l (.lst (y :: xs)))
theorem TC:MtM X "list.insert" Sr:=by
 intro pins s σ H x vs v us Q I rx rv h;obtain ⟨l,xs,y,rfl,rfl,hH,hz,q⟩:=h
 cases rx
 cases rv with
 | cons r0 rv=>
 cases rv with
 | cons ru rv=>
 rename_i u _
 cases rv
 obtain ⟨t,rfl⟩:=r0;obtain ⟨z,its,n,r,hl,e⟩:=I.lstM hH;refine call_meets PySem.F.slot_list_insert ⟨_,e,rfl⟩ PySem.F.entry_list_insert (PySem.F.args_list_insert_3 _ _ _) (PySem.AutoListH.list_insert_list_int_val_1 l its.toArray n 0 t u (by decide) (by rw [ug7];lia)) ⟨e,?_⟩;refine ⟨.non,_,I.lset (its':=u :: its) hH e (by simp) (.cons ru r) ?_,rfl,q⟩;rw [ui9];lia
end
end L2
namespace F2
open PySem L2 PySem.Spec
def IH:D->M D
 | .int i=>ret (.int (Builtin.Int.intBits i:Nat))
 | _=>fail
def Ie (xs:List D):List D->Option (List D)
 | [.int i,d]=>if i=0/\xs.length < LIM then some (d :: xs) else none
 | _=>none
theorem Ro {K:PySem.W.Frag}:KQ K Sr Ie:=λ{c S H a vs us xs ds ys Q} s h r rs e k=>by
 unfold Ie at e
 split at e
 ·next i d=>
  split at e
  ·next hl=>
   obtain ⟨rfl,hl⟩:=hl
   cases e
   cases rs with
   | cons r1 rs=>
   cases r1
   obtain ⟨v,rfl,rv⟩:=Ds rs;exact ⟨a,vs,v,rfl,rfl,h,by rw [r.length];exact uf5 hl Bu,k _ (.cons rv r)⟩
  ·cases e
 ·cases e
section
variable {X:Cx}{pos:Pos}{e:Expr}{es:List Expr}
theorem OM {o:Expr}{f:M D}{apos cpos:Pos}(ho:PE X o (RE X.K f))(hbase:attributeBase o "bit_length" X.env (eval o X.env)=eval o X.env:=by rfl)(hline:(apos.endLine == cpos.line)=true:=by rfl) :
 PE X (.Call (.Attribute o "bit_length" apos) [] [] cpos) (RE X.K (fUn f IH)):=
 AH (TX ho hbase hline) λσ H Q z9=>by
  obtain ⟨Oo,c,t,fi,r,t',eq,k⟩:=z9;obtain ⟨d,t1,e1,eq⟩:=Ah eq;refine ⟨Oo,c,t,fi,d,t1,e1,λx H1 c1 f1 s1 rx=>?_⟩;unfold IH at eq
  split at eq
  ·next i=>
   cases eq
   cases rx
   exact ⟨i,rfl,k _ H1 c1 f1 s1 (.int _)⟩
  ·cases eq
theorem ND {μ:Cf->Hp->D->(V->Hp->Prop)->Prop}(i:Nat){x:Str}{g:M (List D)}{px apos cpos:Pos}(ha:PA X (e :: es) (RA X.K g))(hN:X.N[i]?=some x:=by rfl)(hv:Vis X.env.scope x:=by walk_at "h")(hd:(x == ("__debug__" : Str))=false:=by decide)
 (hcd:(x == ("__classdict__" : Str))=false:=by decide) (hline:(apos.endLine == cpos.line)=true:=by rfl) (h1:AM e=false:=by rfl) (h2:AX es=true:=by rfl) (h3:es.length < 20:=by decide)
 (hbase:attributeBase (.Name x px) "insert" X.env (eval (.Name x px) X.env)=eval (.Name x px) X.env:=by rfl) :
 PS X (.Expr (.Call (.Attribute (.Name x px) "insert" apos) (e :: es) [] cpos) pos) (RSg X.K μ (ownM i Ie g)):=
 A3 (FV (KC ub6 PySem.F.slot_list_insert PySem.F.type_list_insert TC (EA hN hv hd hcd) ha hbase (Ln h1 h2 h3) hline (AA h1) (AK h2).1)) λ_ _ _ q=>RS.ownM Ro q
end
section
variable {X:Cx}{b elt:Expr}{pos:Pos}
end
end F2
namespace L2
open PySem PySem.Spec PyProof.Rows
theorem Inv.turnedL {X:Cx}{pins:List (Addr×Obj)}{σ:St}{H:Hp}{s:Shared}{h':Heap}{t':Nat}(fp:List Addr)(I:Inv X pins σ H s)(hf:∀b∈fp,FpOk X pins H b)(k:∀b o,b∉fp->s.heap.get? b=some o->h'.get? b=some o):Inv X pins σ H { s with heap:=h',toks:=t' }:=by
 have nit:∀b u,H b=some u->b∉fp:=λb u e z=>by rw [(hf b z).1] at e;cases e
 refine I.step (g':=s.gens) (d':=s.drawn) (ch:=fp) (λb hb=>?_) (λb o _ _ hc e _=>k b o hc e) (λb o _ _ hc e _=>⟨o.slots,k b o hc e⟩) (λ_ _ _ _ n=>n)
  (λb o hc e=>⟨o,k b o hc e⟩) (λ_ _ e=>e) (λ_ _ _ e=>e) (λb ps e=>⟨#[],by rw [e];simp⟩) (λm hm=>?_) (λb u e=>?_) I.bare
 ·obtain ⟨_,h1,_,h3,h4,h5⟩:=hf b hb;exact ⟨h3,h1,h4,h5⟩
 ·obtain ⟨o,es,ep,ho,r⟩:=hm;exact ⟨o,es,ep,k _ o (λz=>(hf _ z).2.1 rfl) ho,r⟩
 ·refine (I.hok b u e).stay (λc v hc q=>k c v ?_ q) (λ_ q=>q) λ_ _ q=>q;rcases hc with z | z
  ·rw [z];exact nit b u e
  ·exact nit c _ z
end L2
namespace F2
open PySem L2 PySem.Spec
structure ItOk2 (K:PySem.W.Frag)(J:It)(c:Cf)(H:Hp)(ds:List D):Prop where
 go:∀c' H' (i:Nat),Ext c H c' H'->i < ds.length->J.go i H'
 yld:∀c' H' (i:Nat) x H'' d,Ext c H c' H'->ds[i]?=some d->J.yld i H' x H''->∃p vs es,x = .ref p/\H' p=none/\H''=upd H' p (.tup vs)/\d = .tup es/\Reps K c' H' vs es
 stop:∀c' H',Ext c H c' H'->J.stop ds.length H'
inductive RI2 (K:PySem.W.Frag)(f:M (List D))(σ:L2.St)(H:Hp)(R:It->Hp->Prop):Prop where
 | mk (Oo:Addr->Prop) (c:Cf) (t:T) (fi:FInv K Oo c t σ H) (ds:List D) (t':T) (e:f t=some (ds,t')) (k:∀J H' c',FInv K Oo c' t' σ H'->Stp Oo c H c' H'->ItOk2 K J c' H' ds->R J H'):RI2 K f σ H R
section
variable {X:Cx}{pos:Pos}{e:Expr}
end
end F2
namespace L2
open PySem PySem.Spec PyProof.Rows
section
variable {X:Cx}
end
end L2
namespace F2
open PySem L2 PySem.Spec
section
variable {X:Cx}{pos:Pos}{e:Expr}{es:List Expr}
end
end F2
namespace L2
open PySem PySem.Spec PyProof.Rows
section
variable {X:Cx}{e ek:Expr}{p2 pos:Pos}{te:TE}{tk:TO}
end
end L2
namespace F2
open PySem L2 PySem.Spec
section
variable {X:Cx}
end
end F2
namespace L2
open PySem PySem.Spec PyProof.Rows
section
variable {X:Cx}
theorem Ov (hc:X.calm=true):BA X (.builtin "all") (λxs H Q=>∃(p:Addr) (bs:List Bool),xs=[.ref p]/\SqL X.K H p (bs.map V.bl)/\Q (.bl (bs.all id)) H):=by
 intro pins s σ H xs us Q I r h;obtain ⟨p,bs,rfl,hq,q⟩:=h;obtain ⟨u,rfl,rx⟩:=DY r
 cases rx
 obtain ⟨its,rv,pl,hz⟩:=I.list hq;have hl:=rv.length;rw [uk5] at hl;have hlist:=pl.isList;have lp:p < s.heap.objs.size:=by obtain ⟨o,ho,_⟩:=hlist;exact un4 ho
 refine call_all_walkS (wpAny_pyIter_list hlist ?_);refine ⟨s.heap.objs.size,_,_,_,_,_,_,λi=>bs.getD i true,rfl,(Walks.list (by simp [I.ok.hd hc]) s.heap.objs.size p (un5 lp) its.toArray).toS,⟨⟨_,ue7 _ rfl,rfl,rfl⟩,hlist.push _⟩,?_,?_⟩
 ·intro i v s2 Q2 E2 e hQ;have e':its[i]?=some v:=by simpa using e
  obtain ⟨hi,_⟩:=ua8.mp e';have hy:(bs.map V.bl)[i]?=some (.bl (bs.getD i true)):=by
   rw [ug8,ua6,ub2 (by lia)];rfl
  obtain ⟨w',ew,rw'⟩:=rv.get hy;rw [e'] at ew;cases ew
  cases rw'
  exact wpAny_truthy_bool hQ
 ·intro s' mv;obtain ⟨h',g',d',tk',os'⟩:=s';obtain rfl:g'=s.gens:=mv.gens;obtain rfl:d'=s.drawn:=mv.drawn;obtain rfl:os'=s.os:=mv.os;have e:(List.range its.toArray.size).all (λi=>bs.getD i true)=bs.all id:=by
   rw [ug7,<-hl];clear q hq rv hl hz;rw [ul1,ui7,ui7];constructor
   ·intro h b hb;obtain ⟨i,hi,rfl⟩:=List.mem_iff_getElem.mp hb;have:=h i (ul7.mpr hi);rw [ua6,ub2 hi] at this;exact this
   ·intro h i hi;rw [ul7] at hi;rw [ua6,ub2 hi];exact h _ (uj0 hi)
  refine ⟨.bl (bs.all id),H,I.kept (t':=tk') λb o e=>?_,by rw [e];rfl,q⟩;have lb:=un4 e;exact mv.heap b o (by simp only [um5,ui8,or_false];exact un5 lb) (ub9 _ e)
end
end L2
namespace F2
open PySem L2 PySem.Spec
def F7:List D->Option (List Bool)
 | []=>some []
 | .bl b :: r=>(F7 r).map (b :: ·)
 | _=>none
theorem My {K:PySem.W.Frag}{c:Cf}{H:Hp}:∀{ds:List D} {vs:List V} {bs:List Bool},Reps K c H vs ds->F7 ds=some bs->vs=bs.map V.bl
 | [],_,bs,r,e=>by cases r;cases e;rfl
 | d :: ds,_,bs,r,e=>by
   cases r with
   | cons r1 r2=>
     cases r1 with
     | bl b=>
       rw [F7] at e;obtain ⟨bs',e1,rfl⟩:=uc2.mp e;rw [um8,My r2 e1]
     | _=>cases e
def Jq:List D->M D
 | [.lst ds]=>λt=>match F7 ds with
   | some bs=>some (.bl (bs.all id),t)
   | none=>none
 | _=>fail
theorem Rl {K:PySem.W.Frag}:Du K (λxs H Q=>∃(p:Addr) (bs:List Bool),xs=[.ref p]/\SqL K H p (bs.map V.bl)/\Q (.bl (bs.all id)) H) Jq:=λ{Oo c t σ H xs ds r t' Q} f rx eq k=>by
 unfold Jq at eq
 split at eq
 ·next es=>
  split at eq
  ·next bs e=>
   cases eq
   obtain ⟨v,rfl,rv⟩:=Ds rx
   cases rv with
   | @lst a ws es g1 g2 g3=>
   have:=My g3 e;subst this;exact ⟨a,bs,rfl,SqL.of g1,k _ H c f .refl (.bl _)⟩
  ·cases eq
 ·cases eq
theorem U9:bootBuiltins "all" = some (.builtin "all"):=by decide +kernel
section
variable {X:Cx}{pos:Pos}
end
end F2
namespace L2
open PySem PySem.Spec PyProof.Rows
theorem Kr {x y:Int}(h0:0 < y)(h1:y < 18446744073709551616):Builtin.divisionGoesByPylong x y=false:=by
 unfold Builtin.divisionGoesByPylong;have hl:y.natAbs.log2 < 64:=(Nat.log2_lt (by lia)).mpr (by show y.natAbs < 2 ^ 64;lia);have e:(y == 0)=false:=by rw [beq_eq_false_iff_ne];lia
 simp only [e,ug1,if_false];rw [ud2];left;rw [decide_eq_false_iff_not];lia
def R4 (i j:Int):Prop:=0 < j/\j < 18446744073709551616
section
variable {X:Cx}
theorem JT {i:Int}(h:i.natAbs < 2 ^ 512):Builtin.Int.intBits i<=2 ^ 20:=by
 unfold Builtin.Int.intBits
 split
 ·exact up5 _
 ·next z=>
  have hz:i.natAbs≠0:=by
   intro e;have:i=0:=by lia
   subst this;exact z rfl
  have:=(Nat.log2_lt hz).mpr h;lia
def R5 (i j:Int):Prop:=i.natAbs < 2 ^ 512/\j.natAbs < 2 ^ 512
theorem TW:OpR X (binaryOp .Mult) (rI R5 λi j=>.int (i * j)):=opI λ_ _ _ _ _ _ _ hc q=>mul_int q (IntMulOk.of_bits (JT hc.1) (JT hc.2))
theorem QV:OpR X (binaryOp .FloorDiv) (rI R4 λi j=>.int (i / j)):=opI λi j _ _ _ _ _ hc q=>by
 have h1:(0:Int) < j:=hc.1;exact floordiv_int (by lia) (by rw [ua4 i (by lia)];exact q) (.inl (Kr hc.1 hc.2))
end
end L2
namespace F2
open PySem L2 PySem.Spec
noncomputable def Lj (i j:Int):Bool:=decide (0 < j) && decide (j < 18446744073709551616)
def Hj:=i2C Lj λi j=>.int (i / j)
theorem PQ {K:PySem.W.Frag}:A1 K (rI R4 λi j=>.int (i / j)) Hj:=EV (λi j h=>by
 unfold Lj at h;rw [ui2,uh7,uh7] at h;exact h) λ_ _ _ _=>.int _
noncomputable def LJ (i j:Int):Bool:=decide (i.natAbs < 2 ^ 512) && decide (j.natAbs < 2 ^ 512)
def FB:=i2C LJ λi j=>.int (i * j)
theorem Rs {K:PySem.W.Frag}:A1 K (rI R5 λi j=>.int (i * j)) FB:=EV (λi j h=>by
 unfold LJ at h;rw [ui2] at h;exact ⟨uh8 h.1,uh8 h.2⟩) λ_ _ _ _=>.int _
end F2
namespace L2
open PySem PySem.Spec PyProof.Rows
variable {n:Nat}{R:Value->Shared->Prop}{z i1 t1 t2:Addr}{xs ys:Array Value}{x y:Value}
section
variable {P:Program}{w:World}{A:Around}{E:Value->Shared->Prop}{s:Shared}
theorem Gs {j t:Addr}{its:Array Value}{v:Value}(a:s.heap.IsTupleIter j t n)(b:s.heap.IsTuple t its)(c:its[n]?=some v)
 (k:∀g,g.IsTupleIter j t (n + 1)->Heap.SameBut j s.heap g->R v { s with heap:=g }):wpAny (model P w) A (Builtin.SmallTypes.nextOf (.ref j)) R E s:=by
 obtain ⟨q,hq,hqc,hqd⟩:=id a;obtain ⟨ot,hot,_,nt,hod⟩:=b;unfold Builtin.SmallTypes.nextOf;refine up8 (wpAny_callSpecial?_slot (name:=Str.ofString "__next__") a.typeIs F.slot_tuple_iterator_next (wpAny_call_entry F.slot_tuple_iterator_next a.typeIs F.entry_tuple_iterator_next ?_ (F.args_tuple_iterator_next_1 _)))
 change wpAny _ _ (field (.ref j) 0 >>= _) _ _ s
 refine up8 (up7 hq hqd (x:=.ref t) rfl ?_)
 change wpAny _ _ (if (Value.ref t == Value.none)=true then _ else _) _ _ s
 rw [if_neg (show ¬((Value.ref t == Value.none)=true) from λq=>Bool.noConfusion q)]
 change wpAny _ _ (field (.ref j) 1 >>= _) _ _ s
 refine up8 (up7 hq hqd (x:=.int n 0) rfl ?_)
 change wpAny _ _ (seqItems? (.ref t) >>= _) _ _ s
 refine up8 (wpAny_seqItems hot hod ?_);simp only [uh4,c];refine up8 (wpAny_setField hq hqd (by simp) (up9 ⟨v,rfl,up9 (k _ ?_ (uf1 ..))⟩));exact ⟨_,ud0 _ hq (Obj.isFreed_of_fields (Obj.data_mapFields hqd _)),(Obj.cls_mapFields ..).trans hqc,by rw [Obj.data_mapFields hqd];simp [rawInt]⟩
theorem HN {j t:Addr}{its:Array Value}(hA:A.handled=none)(a:s.heap.IsTupleIter j t n)(b:s.heap.IsTuple t its)(c:its[n]?=none)
 (k:∀g e,Heap.ExtBut j s.heap g->(∃o,g.get? e=some o/\o.cls = .type "StopIteration")->E (.ref e) { s with heap:=g }):wpAny (model P w) A (Builtin.SmallTypes.nextOf (.ref j)) R E s:=by
 obtain ⟨q,hq,hqc,hqd⟩:=id a;obtain ⟨ot,hot,_,nt,hod⟩:=b;unfold Builtin.SmallTypes.nextOf;refine up8 (wpAny_callSpecial?_slot (name:=Str.ofString "__next__") a.typeIs F.slot_tuple_iterator_next (wpAny_call_entry F.slot_tuple_iterator_next a.typeIs F.entry_tuple_iterator_next ?_ (F.args_tuple_iterator_next_1 _)))
 change wpAny _ _ (field (.ref j) 0 >>= _) _ _ s
 refine up8 (up7 hq hqd (x:=.ref t) rfl ?_)
 change wpAny _ _ (if (Value.ref t == Value.none)=true then _ else _) _ _ s
 rw [if_neg (show ¬((Value.ref t == Value.none)=true) from λq=>Bool.noConfusion q)]
 change wpAny _ _ (field (.ref j) 1 >>= _) _ _ s
 refine up8 (up7 hq hqd (x:=.int n 0) rfl ?_)
 change wpAny _ _ (seqItems? (.ref t) >>= _) _ _ s
 refine up8 (wpAny_seqItems hot hod ?_);simp only [uh4,c];refine up8 (wpAny_rule (up8 (wpAny_setField hq hqd (by simp) ?_)))
 change wpAny _ _ (newExc (.type "StopIteration") [] >>= _) _ _ _
 refine up8 ?_;simp only [newExc,newTuple];refine up8 (wpAny_newObj_type ?_ (by size_fits));refine up8 (m:=firstArgMember _ _) (wpAny_of_eq (a:=Value.none) (by first | rfl | (unfold firstArgMember;rfl)) ?_);refine wpAny_newObj_type ?_ (by size_fits);simp only [raiseNew];refine up8 (wpAny_handled ?_);first | rw [show A.in1.handled=none from hA] | rw [hA]
 refine up8 (up9 (wpAny_throw ?_));exact k _ _ (((uf1 ..).extBut.push _).push _) ⟨_,ue7 _ rfl,rfl⟩
structure ZT (h:Heap)(z TI TO i1 i2 t1 t2:Addr)(n:Nat):Prop where
 zz:IsZip h z TI TO .none
 ti:IsPair h TI (.ref i1) (.ref i2)
 ot:∃a b,IsPair h TO a b
 p1:h.IsTupleIter i1 t1 n
 p2:h.IsTupleIter i2 t2 n
theorem UX {TI TO i2:Addr}(D:ZipApart z TI TO i1 i2 t1 t2)(st:ZT s.heap z TI TO i1 i2 t1 t2 n)
 (c1:s.heap.IsTuple t1 xs) (c2:s.heap.IsTuple t2 ys) (e1:xs[n]?=some x) (e2:ys[n]?=some y)
 (k:∀g,IsZip g z TI TO (rawInt s.heap.objs.size)->IsPair g TI (.ref i1) (.ref i2)->(∃a b,IsPair g TO a b)->g.IsTupleIter i1 t1 (n + 1)->g.IsTupleIter i2 t2 (n + 1)->IsPair g s.heap.objs.size x y->(∀c o,c≠z->c≠TO->c≠i1->c≠i2->s.heap.get? c=some o->g.get? c=some o)->R (.ref s.heap.objs.size) { s with heap:=g }) :
 wpAny (model P w) A (Builtin.«zip.__next__» ⟨[.ref z],[]⟩) (λfin s'=>∃v,fin = .done (.ret v)/\R v s') E s:=by
 obtain ⟨hz,hI,⟨a,b,hO⟩,q1,q2⟩:=st
 change wpAny _ _ (field (.ref z) 2 >>= _) _ _ _
 refine up8 (up7 hz rfl (x:=.bool false) rfl ?_);change wpAny _ _ (field (.ref z) 3 >>= _) _ _ _;refine up8 (up7 hz rfl (x:=.ref TI) rfl ?_);refine up8 (wpAny_seqItems hI rfl ?_)
 change wpAny _ _ (Builtin.SmallTypes.ownedTupleIsFree (.ref z) >>= _) _ _ _
 refine up8 ?_;unfold Builtin.SmallTypes.ownedTupleIsFree;refine up8 (up7 hz rfl (x:=.none) rfl (up9 ?_));simp only [if_true];refine up8 (wpAny_rule (up8 (up7 hz rfl (x:=.ref TO) rfl ?_)));refine up8 (wpAny_setField_rec hz (by simp) λg1 z1 s1=>?_);replace z1:IsZip g1 z TI TO .ellipsis:=z1;refine up8 ?_;simp only [List.zipIdx_cons,List.zipIdx_nil,uk8,List.forIn_nil];refine up8 (up8 (wpAny_onRaise ?_))
 change wpAny _ _ (Builtin.SmallTypes.nextOf (.ref i1) >>= _) _ _ _
 refine up8 (Gs (q1.extBut s1.extBut D.i1z) (c1.extBut s1.extBut D.l1z) e1 λg2 r1 s2=>up9 ?_);have o2:IsPair g2 TO a b:=s2.extBut _ _ D.TOi1 (s1.extBut _ _ D.TOz hO);refine up8 (wpAny_seqItems o2 rfl ?_);refine up8 (wpAny_updateSeq_pair o2 λg3 o3 s3=>?_);replace o3:IsPair g3 TO x b:=o3;refine up8 (wpAny_letGo (up9 ?_));refine up8 (up8 (wpAny_onRaise ?_))
 change wpAny _ _ (Builtin.SmallTypes.nextOf (.ref i2) >>= _) _ _ _
 refine up8 (Gs (((q2.extBut s1.extBut D.i2z).extBut s2.extBut D.i12.symm).extBut s3.extBut D.TOi2.symm) (((c2.extBut s1.extBut D.l2z).extBut s2.extBut D.l2i1).extBut s3.extBut D.l2TO) e2 λg4 r2 s4=>up9 ?_);have o4:IsPair g4 TO x b:=s4.extBut _ _ D.TOi2 o3;refine up8 (wpAny_seqItems o4 rfl ?_);refine up8 (wpAny_updateSeq_pair o4 λg5 o5 s5=>?_);replace o5:IsPair g5 TO x y:=o5;refine up8 (wpAny_letGo (up9 (up9 ?_)));refine up8 (wpAny_seqItems o5 rfl (up8 (wpAny_newTuple ?_)));have sz:g5.objs.size=s.heap.objs.size:=by rw [s5.1,s4.1,s3.1,s2.1,s1.1]
 have keep:∀c o,c≠z->c≠TO->c≠i1->c≠i2->s.heap.get? c=some o->g5.get? c=some o:=λc o a1 a2 a3 a4 e=>s5.extBut _ _ a2 (s4.extBut _ _ a4 (s3.extBut _ _ a2 (s2.extBut _ _ a3 (s1.extBut _ _ a1 e))));have z5:IsZip g5 z TI TO .ellipsis:=s5.extBut _ _ D.TOz.symm (s4.extBut _ _ D.i2z.symm (s3.extBut _ _ D.TOz.symm (s2.extBut _ _ D.i1z.symm z1)));have w1:g5.IsTupleIter i1 t1 (n + 1):=((r1.extBut s3.extBut D.TOi1.symm).extBut s4.extBut D.i12).extBut s5.extBut D.TOi1.symm;have w2:g5.IsTupleIter i2 t2 (n + 1):=r2.extBut s5.extBut D.TOi2.symm;have zl:z < g5.objs.size:=un4 z5
 change wpAny _ _ (Builtin.SmallTypes.ownedTupleHandOut (.ref z) (.ref g5.objs.size) >>= _) _ _ _
 refine up8 ?_;unfold Builtin.SmallTypes.ownedTupleHandOut;have z6:IsZip (g5.push { cls:=.type "tuple",data:=.seq #[x,y] }) z TI TO .ellipsis:=ub9 _ z5;refine up8 (wpAny_setField_rec z6 (by simp) λg7 z7 s7=>?_);replace z7:IsZip g7 z TI TO (rawInt g5.objs.size):=z7;refine wpAny_setField_rec z7 (by simp) λg8 z8 s8=>?_;replace z8:IsZip g8 z TI TO (rawInt g5.objs.size):=z8;have up:∀c o,c≠z->g5.get? c=some o->g8.get? c=some o:=λc o a1 e=>s8.extBut _ _ a1 (s7.extBut _ _ a1 (ub9 _ e));have t8:IsPair g8 g5.objs.size x y:=s8.extBut _ _ (un8 zl) (s7.extBut _ _ (un8 zl) (ue7 _ rfl));rw [sz] at z8 t8;refine up9 ⟨_,rfl,?_⟩;change R (.ref g5.objs.size) _;rw [sz];exact k g8 z8 (up _ _ D.TIz (keep _ _ D.TIz D.TITO D.TIi1 D.TIi2 hI)) ⟨_,_,up _ _ D.TOz o5⟩ (let ⟨o,ho,r⟩:=w1;⟨o,up _ o D.i1z ho,r⟩) (let ⟨o,ho,r⟩:=w2;⟨o,up _ o D.i2z ho,r⟩) t8 λc o a1 a2 a3 a4 e=>up c o a1 (keep c o a1 a2 a3 a4 e)
theorem Xg {TI TO i2:Addr}{R:Fin->Shared->Prop}(hA:A.handled=none)(D:ZipApart z TI TO i1 i2 t1 t2)(st:ZT s.heap z TI TO i1 i2 t1 t2 n)
 (c1:s.heap.IsTuple t1 xs) (c2:s.heap.IsTuple t2 ys) (en:xs[n]?=none\/ys[n]?=none)
 (k:∀g e,(∀c o,c≠z->c≠TO->c≠i1->c≠i2->s.heap.get? c=some o->g.get? c=some o)->(∃o,g.get? e=some o/\o.cls = .type "StopIteration")->E (.ref e) { s with heap:=g }) :
 wpAny (model P w) A (Builtin.«zip.__next__» ⟨[.ref z],[]⟩) R E s:=by
 obtain ⟨hz,hI,⟨a,b,hO⟩,q1,q2⟩:=st
 change wpAny _ _ (field (.ref z) 2 >>= _) _ _ _
 refine up8 (up7 hz rfl (x:=.bool false) rfl ?_);change wpAny _ _ (field (.ref z) 3 >>= _) _ _ _;refine up8 (up7 hz rfl (x:=.ref TI) rfl ?_);refine up8 (wpAny_seqItems hI rfl ?_)
 change wpAny _ _ (Builtin.SmallTypes.ownedTupleIsFree (.ref z) >>= _) _ _ _
 refine up8 ?_;unfold Builtin.SmallTypes.ownedTupleIsFree;refine up8 (up7 hz rfl (x:=.none) rfl (up9 ?_));simp only [if_true];refine up8 (wpAny_rule (up8 (up7 hz rfl (x:=.ref TO) rfl ?_)));refine up8 (wpAny_setField_rec hz (by simp) λg1 z1 s1=>?_);replace z1:IsZip g1 z TI TO .ellipsis:=z1;refine up8 ?_;simp only [List.zipIdx_cons,List.zipIdx_nil,uk8,List.forIn_nil];refine up8 (up8 (wpAny_onRaise ?_))
 change wpAny _ _ (Builtin.SmallTypes.nextOf (.ref i1) >>= _) _ _ _
 cases e1:xs[n]? with
 | none=>
   refine up8 (HN hA (q1.extBut s1.extBut D.i1z) (c1.extBut s1.extBut D.l1z) e1 λg2 e s2 z9=>?_);obtain ⟨oe,he,hc⟩:=z9;have z2:IsZip g2 z TI TO .ellipsis:=s2 _ _ D.i1z.symm z1;have ne:e≠z:=λq=>by subst q;rw [z2] at he;cases he;simp at hc
   exact wpAny_setField_rec z2 (by simp) λg3 _ s3=>k g3 e (λc o a1 _ a3 _ q=>s3.extBut _ _ a1 (s2 _ _ a3 (s1.extBut _ _ a1 q))) ⟨oe,s3.extBut _ _ ne he,hc⟩
 | some x=>
   have e2:ys[n]?=none:=by
    rcases en with h | h
    ·rw [e1] at h;cases h
    ·exact h
   refine up8 (Gs (q1.extBut s1.extBut D.i1z) (c1.extBut s1.extBut D.l1z) e1 λg2 r1 s2=>up9 ?_);have o2:IsPair g2 TO a b:=s2.extBut _ _ D.TOi1 (s1.extBut _ _ D.TOz hO);refine up8 (wpAny_seqItems o2 rfl ?_);refine up8 (wpAny_updateSeq_pair o2 λg3 o3 s3=>?_);refine up8 (wpAny_letGo (up9 ?_));refine up8 (up8 (wpAny_onRaise ?_))
   change wpAny _ _ (Builtin.SmallTypes.nextOf (.ref i2) >>= _) _ _ _
   refine up8 (HN hA (((q2.extBut s1.extBut D.i2z).extBut s2.extBut D.i12.symm).extBut s3.extBut D.TOi2.symm) (((c2.extBut s1.extBut D.l2z).extBut s2.extBut D.l2i1).extBut s3.extBut D.l2TO) e2 λg4 e s4 z9=>?_);obtain ⟨oe,he,hc⟩:=z9;have z4:IsZip g4 z TI TO .ellipsis:=s4 _ _ D.i2z.symm (s3.extBut _ _ D.TOz.symm (s2.extBut _ _ D.i1z.symm z1));have ne:e≠z:=λq=>by subst q;rw [z4] at he;cases he;simp at hc
   exact wpAny_setField_rec z4 (by simp) λg5 _ s5=>k g5 e (λc o a1 a2 a3 a4 q=>s5.extBut _ _ a1 (s4 _ _ a4 (s3.extBut _ _ a2 (s2.extBut _ _ a3 (s1.extBut _ _ a1 q))))) ⟨oe,s5.extBut _ _ ne he,hc⟩
theorem TH {TI TO i2:Addr}{R:Option Value->Shared->Prop}(D:ZipApart z TI TO i1 i2 t1 t2)(st:ZT s.heap z TI TO i1 i2 t1 t2 n)
 (c1:s.heap.IsTuple t1 xs) (c2:s.heap.IsTuple t2 ys) (e1:xs[n]?=some x) (e2:ys[n]?=some y)
 (k:∀g,IsZip g z TI TO (rawInt s.heap.objs.size)->IsPair g TI (.ref i1) (.ref i2)->(∃a b,IsPair g TO a b)->g.IsTupleIter i1 t1 (n + 1)->g.IsTupleIter i2 t2 (n + 1)->IsPair g s.heap.objs.size x y->(∀c o,c≠z->c≠TO->c≠i1->c≠i2->s.heap.get? c=some o->g.get? c=some o)->R (some (.ref s.heap.objs.size)) { s with heap:=g }):wpAny (model P w) A (pyNext (.ref z)) R E s:=by
 have ty:s.TypeIs (.ref z) "zip":=⟨_,st.zz,rfl⟩;unfold pyNext;exact up8 (wpAny_attempt (wpAny_callSpecial?_slot (name:=Str.ofString "__next__") ty F.slot_zip_next (wpAny_call_entry F.slot_zip_next ty F.entry_zip_next (UX D st c1 c2 e1 e2 λg b1 b2 b3 b4 b5 b6 b7=>up9 (k g b1 b2 b3 b4 b5 b6 b7)) (F.args_zip_next_1 _))))
theorem Vm {TI TO i2:Addr}{R:Option Value->Shared->Prop}(hA:A.handled=none)(D:ZipApart z TI TO i1 i2 t1 t2)(st:ZT s.heap z TI TO i1 i2 t1 t2 n)
 (c1:s.heap.IsTuple t1 xs) (c2:s.heap.IsTuple t2 ys) (en:xs[n]?=none\/ys[n]?=none)
 (k:∀g,(∀c o,c≠z->c≠TO->c≠i1->c≠i2->s.heap.get? c=some o->g.get? c=some o)->R none { s with heap:=g }):wpAny (model P w) A (pyNext (.ref z)) R E s:=by
 have ty:s.TypeIs (.ref z) "zip":=⟨_,st.zz,rfl⟩;unfold pyNext;refine up8 (wpAny_attempt (wpAny_callSpecial?_slot (name:=Str.ofString "__next__") ty F.slot_zip_next (wpAny_call_entry F.slot_zip_next ty F.entry_zip_next (Xg hA D st c1 c2 en λg e hk ⟨o,ho,hc⟩=>?_) (F.args_zip_next_1 _))));exact up8 (wpAny_isInstance (T:="StopIteration") (b:=true) ⟨o,ho,hc⟩ isSubtype_stop (up9 (k _ hk)))
end
theorem LK (a b:Value):Builtin.SmallTypes.newClass "zip" { pos:=[Value.type "zip",a,b] }=pure (Value.type "zip",[a,b]):=rfl
theorem Mm {M:Model}{A:Around}{E:Value->Shared->Prop}{s:Shared}{Q:List Value->Shared->Prop}(h:wpAny M A (pyIter x) (λi1 s1=>wpAny M A (pyIter y) (λi2 s2=>Q [i1,i2] s2) E s1) E s):wpAny M A (Builtin.SmallTypes.iterAll [x,y]) Q E s:=by
 unfold Builtin.SmallTypes.iterAll;simp only [uk8,List.forIn_nil];refine up8 (up8 (up8 (un3 (L2.thn h λi1 s1 h1=>?_))));refine up9 ?_;refine up8 (up8 (un3 (L2.thn h1 λi2 s2 h2=>?_)));refine up9 ?_;refine up9 ?_;exact up9 h2
theorem NN {M:Model}{A:Around}{E:Value->Shared->Prop}{s:Shared}{T:String}{vs:List Value}{Q:Value->Shared->Prop}(hz:sizeOk (.fields vs.toArray))(h:Q (.ref s.heap.objs.size) { s with heap:=s.heap.push { cls:=.type T,data:=.fields vs.toArray } }):wpAny M A (Builtin.SmallTypes.newRecord (.type T) vs) Q E s:=
 wpAny_newObj_type h hz
def itO (t:Addr):Obj:={ cls:=.type "tuple_iterator",data:=.fields #[.ref t,.int 0 0] }
def DW (a b:Value):Obj:={ cls:=.type "tuple",data:=.seq #[a,b] }
def ZU (TI TO:Addr):Obj:={ cls:=.type "zip",data:=.fields #[.none,.bool false,.bool false,.ref TI,.ref TO] }
def JO (h:Heap)(t1 t2:Addr):Heap:=
 ((((h.push (itO t1)).push (itO t2)).push (DW (.ref h.objs.size) (.ref (h.push (itO t1)).objs.size))).push (DW .none .none)).push (ZU ((h.push (itO t1)).push (itO t2)).objs.size (((h.push (itO t1)).push (itO t2)).push (DW (.ref h.objs.size) (.ref (h.push (itO t1)).objs.size))).objs.size)
theorem Jz (t1 t2:Addr)(xs ys:Array Value):Meets (Builtin.«zip.__new__» { pos:=[Value.type "zip",Value.ref t1,Value.ref t2] }) λA R s=>s.heap.IsTuple t1 xs/\s.heap.IsTuple t2 ys/\∀z,z=((((s.heap.push (itO t1)).push (itO t2)).push (DW (.ref s.heap.objs.size) (.ref (s.heap.push (itO t1)).objs.size))).push (DW .none .none)).objs.size->R (Except.ok (Flow.ret (Value.ref z))) { s with heap:=JO s.heap t1 t2 }:=by
 intro prog w A R s ⟨h1,h2,hR⟩;unfold Builtin.«zip.__new__»;rw [LK];refine up8 (up9 ?_);refine up8 (Mm ?_);refine wpAny_pyIter_tuple h1 ?_;refine wpAny_pyIter_tuple (items:=ys) ?_ ?_
 ·obtain ⟨o,e,r⟩:=h2;exact ⟨o,ub9 _ e,r⟩
 refine up8 (wpAny_newTuple ?_);refine up8 (wpAny_newTuple ?_);refine up8 (NN (by first | trivial | exact Nat.le_of_ble_eq_true rfl) ?_);refine up9 ?_;exact hR _ rfl
section
variable {P:Program}{w:World}{A:Around}{E:Value->Shared->Prop}{s:Shared}
theorem OD (c1:s.heap.IsTuple t1 xs)(c2:s.heap.IsTuple t2 ys)
 (k:∀g,ZT g (s.heap.objs.size + 4) (s.heap.objs.size + 2) (s.heap.objs.size + 3) s.heap.objs.size (s.heap.objs.size + 1) t1 t2 0->(∀c o,s.heap.get? c=some o->g.get? c=some o)->R (.ref (s.heap.objs.size + 4)) { s with heap:=g }) :
 wpAny (model P w) A (call (.type "zip") [.ref t1,.ref t2]) R E s:=by
 refine callType_new F.called_zip (by decide) (F.typeCall_zip_2 _ _) (F.newCall_zip_2 _ _) (λo=>F.args_object_init_3 o _ _) F.entry_zip_new (Jz t1 t2 xs ys) ⟨c1,c2,λz ez=>?_⟩;have l1:(s.heap.push (itO t1)).objs.size=s.heap.objs.size + 1:=um0 ..;have l2:((s.heap.push (itO t1)).push (itO t2)).objs.size=s.heap.objs.size + 2:=by rw [um0,l1]
 have l3:(((s.heap.push (itO t1)).push (itO t2)).push (DW (.ref s.heap.objs.size) (.ref (s.heap.push (itO t1)).objs.size))).objs.size=s.heap.objs.size + 3:=by rw [um0,l2]
 have l4:((((s.heap.push (itO t1)).push (itO t2)).push (DW (.ref s.heap.objs.size) (.ref (s.heap.push (itO t1)).objs.size))).push (DW .none .none)).objs.size=s.heap.objs.size + 4:=by rw [um0,l3]
 have g5:(JO s.heap t1 t2).get? ((((s.heap.push (itO t1)).push (itO t2)).push (DW (.ref s.heap.objs.size) (.ref (s.heap.push (itO t1)).objs.size))).push (DW .none .none)).objs.size=some _:=ue7 _ rfl;have g4:(JO s.heap t1 t2).get? (((s.heap.push (itO t1)).push (itO t2)).push (DW (.ref s.heap.objs.size) (.ref (s.heap.push (itO t1)).objs.size))).objs.size=some _:=ub9 _ (ue7 _ rfl);have g3:(JO s.heap t1 t2).get? ((s.heap.push (itO t1)).push (itO t2)).objs.size=some _:=ub9 _ (ub9 _ (ue7 _ rfl));have g2:(JO s.heap t1 t2).get? (s.heap.push (itO t1)).objs.size=some _:=ub9 _ (ub9 _ (ub9 _ (ue7 _ rfl)));have g1:(JO s.heap t1 t2).get? s.heap.objs.size=some _:=ub9 _ (ub9 _ (ub9 _ (ub9 _ (ue7 _ rfl))));rw [l4,l3,l2] at g5;rw [l3] at g4;rw [l2,l1] at g3;rw [l1] at g2;rw [l4] at ez;subst ez;exact ⟨⟨_,g5,rfl⟩,k _ ⟨g5,g3,⟨_,_,g4⟩,⟨_,g1,rfl,rfl⟩,⟨_,g2,rfl,rfl⟩⟩ λc o x=>ub9 _ (ub9 _ (ub9 _ (ub9 _ (ub9 _ x))))⟩
end
def Itz (K:PySem.W.Frag)(a b:Addr):It:=
 ⟨λi H=>∃xs ys x y,SqT K H a xs/\SqT K H b ys/\xs[i]?=some x/\ys[i]?=some y,λi H v H'=>∃p x y,v = .ref p/\H p=none/\(∀xs,SqT K H a xs->xs[i]?=some x)/\(∀ys,SqT K H b ys->ys[i]?=some y)/\H'=upd H p (.tup [x,y]),λi H=>∃xs ys,SqT K H a xs/\SqT K H b ys/\(xs.length<=i\/ys.length<=i)⟩
theorem RK {P:Program}{w:World}{K:PySem.W.Frag}{elts:List Expr}{pos:Pos}(a b z TI TO i1 i2:Addr)(D:ZipApart z TI TO i1 i2 a b):Turn P w K (.Tuple elts n pos) (Itz K a b) [z,TI,TO,i1,i2] z (λi h=>ZT h z TI TO i1 i2 a b i) where
 mem:=by simp
 obj:=λi h st c hc=>by
  obtain ⟨h1,h2,⟨x,y,h3⟩,⟨o4,e4,_,d4⟩,⟨o5,e5,_,d5⟩⟩:=st;simp only [um5,ui8,or_false] at hc;rcases hc with rfl | rfl | rfl | rfl | rfl
  ·exact ⟨_,h1,λv q=>by have q':Data.fields _=Data.cell v:=q;cases q'⟩
  ·exact ⟨_,h2,λv q=>by have q':Data.seq _=Data.cell v:=q;cases q'⟩
  ·exact ⟨_,h3,λv q=>by have q':Data.seq _=Data.cell v:=q;cases q'⟩
  ·exact ⟨o4,e4,λv q=>by rw [d4] at q;cases q⟩
  ·exact ⟨o5,e5,λv q=>by rw [d5] at q;cases q⟩
 keep:=λi h h' st k=>by
  obtain ⟨h1,h2,⟨x,y,h3⟩,⟨o4,e4,r4⟩,⟨o5,e5,r5⟩⟩:=st;exact ⟨k z (by simp) _ h1,k TI (by simp) _ h2,⟨x,y,k TO (by simp) _ h3⟩,⟨o4,k i1 (by simp) _ e4,r4⟩,⟨o5,k i2 (by simp) _ e5,r5⟩⟩
 item:=by
  intro X hP hw hK hc i pins s σ H E I hf st hg;subst hP hw hK;obtain ⟨xs,ys,x,y,hq1,hq2,hx,hy⟩:=hg;obtain ⟨its,rv,⟨o1,p1,pc1,n1,pd1⟩,hz⟩:=I.tuple hq1;obtain ⟨jts,rv',⟨o2,p2,pc2,n2,pd2⟩,hz'⟩:=I.tuple hq2;obtain ⟨u,hu,ru⟩:=rv.get hx;obtain ⟨v,hv,ru'⟩:=rv'.get hy;have lz:z < s.heap.objs.size:=un4 st.zz;have lTI:TI < s.heap.objs.size:=un4 st.ti;have lTO:TO < s.heap.objs.size:=by obtain ⟨_,_,h⟩:=st.ot;exact un4 h
  have l1:i1 < s.heap.objs.size:=by obtain ⟨_,h,_⟩:=st.p1;exact un4 h
  have l2:i2 < s.heap.objs.size:=by obtain ⟨_,h,_⟩:=st.p2;exact un4 h
  refine TH D st (xs:=its.toArray) (ys:=jts.toArray) ⟨o1,p1,pc1,n1,pd1⟩ ⟨o2,p2,pc2,n2,pd2⟩ (x:=u) (y:=v) (by simpa using hu) (by simpa using hv) λg b1 b2 b3 b4 b5 b6 b7=>?_;refine ⟨_,rfl,?_⟩;refine wpAny_letOwnedTupleGo_zip b1 λg2 b1' sb=>?_;have hfr:H s.heap.objs.size=none:=I.hok.fresh (up3 _);have nz:∀c,c∈[z,TI,TO,i1,i2]->c≠s.heap.objs.size:=λc hc=>by
   simp only [um5,ui8,or_false] at hc;rcases hc with rfl | rfl | rfl | rfl | rfl <;> exact un5 (by assumption)
  have hT:g2.get? s.heap.objs.size=some { cls:=.type "tuple",data:=.seq #[u,v] }:=(sb.2 _ (un8 lz)).trans b6;have I1:Inv X pins σ (upd H s.heap.objs.size (.tup [x,y])) { s with heap:=s.heap.push { cls:=.type "tuple",data:=.seq #[u,v] },toks:=s.toks }:=
   I.laid (t':=s.toks) (λb u e=>ub9 _ e) (up3 _) ⟨by show 2<=sizeLine;decide,[u,v],.cons ru (.cons ru' .nil),⟨_,ue7 _ rfl,rfl,_,rfl⟩⟩
  have fp':∀b∈[z,TI,TO,i1,i2],FpOk X pins (upd H s.heap.objs.size (.tup [x,y])) b:=λb hb=>by
   obtain ⟨g0,g1⟩:=hf b hb;exact ⟨by rw [As (nz b hb)];exact g0,g1⟩
  refine ⟨.ref s.heap.objs.size,upd H s.heap.objs.size (.tup [x,y]),?_,rfl,⟨_,x,y,rfl,hfr,λzs hs=>by rw [I.tuple_inj hs hq1];exact hx,λzs hs=>by rw [I.tuple_inj hs hq2];exact hy,rfl⟩,?_,λb hb=>(fp' b hb).1⟩
  ·have I2:=Inv.turnedL (h':=g2) (t':=s.toks) [z,TI,TO,i1,i2] I1 fp' λb o hb eb=>(by
    simp only [um5,ui8,or_false,not_or] at hb;rcases Heap.get?_push_cases eb with ⟨rfl,rfl⟩ | eb'
    ·exact hT
    ·exact (sb.2 b hb.1).trans (b7 b o hb.1 hb.2.2.1 hb.2.2.2.1 hb.2.2.2.2 eb'))
   exact I2
  ·obtain ⟨x3,y3,b3⟩:=b3;exact ⟨b1',(sb.2 TI D.TIz).trans b2,⟨x3,y3,(sb.2 TO D.TOz).trans b3⟩,let ⟨o,e,r⟩:=b4;⟨o,(sb.2 i1 D.i1z).trans e,r⟩,let ⟨o,e,r⟩:=b5;⟨o,(sb.2 i2 D.i2z).trans e,r⟩⟩
 done:=by
  intro X hP hw hK hc i pins s σ H E I hf st hg;subst hP hw hK;obtain ⟨xs,ys,hq1,hq2,hl⟩:=hg;obtain ⟨its,rv,⟨o1,p1,pc1,n1,pd1⟩,hz⟩:=I.tuple hq1;obtain ⟨jts,rv',⟨o2,p2,pc2,n2,pd2⟩,hz'⟩:=I.tuple hq2;have e1:=rv.length;have e2:=rv'.length;refine Vm (I.ok.hd hc) D st (xs:=its.toArray) (ys:=jts.toArray) ⟨o1,p1,pc1,n1,pd1⟩ ⟨o2,p2,pc2,n2,pd2⟩ (by simp only [List.getElem?_toArray,List.getElem?_eq_none_iff];lia) λg hk=>⟨rfl,?_⟩;exact Inv.turnedL [z,TI,TO,i1,i2] (t':=s.toks) I hf λb o hb e=>(by
   simp only [um5,ui8,or_false,not_or] at hb;exact hk b o hb.1 hb.2.2.1 hb.2.2.2.1 hb.2.2.2.2 e)
 self:=λ_ _ _ _ _ st h=>wpAny_pyIter_zip st.zz h
theorem Oq {a b:Nat}(ha:a < n)(hb:b < n):ZipApart (n + 4) (n + 2) (n + 3) n (n + 1) a b:=by constructor <;> (show @Ne Nat _ _;lia)
def YQ (K:PySem.W.Frag)(ta:TA):TI:=λσ H R=>ta σ H λvs H1=>∃a b xs ys,vs=[.ref a,.ref b]/\SqT K H1 a xs/\SqT K H1 b ys/\R (Itz K a b) H1
theorem Ws {X:Cx}{e e':Expr}{ta:TA}{elts:List Expr}{tpos p pos:Pos}(hg:Gl X "zip")(hm:X.mg "zip" = none)(ha:PA X [e,e'] ta)(hs:starEach [e,e'] X.env=[(false,eval e X.env),(false,eval e' X.env)])(hs2:starEach [e'] X.env=[(false,eval e' X.env)]) :
 PI X (.Tuple elts n tpos) (.Call (.Name "zip" p) [e,e'] [] pos) (YQ X.K ta):=by
 intro pins s σ H R I h;refine Call_ (E4 I hg hm (by decide +kernel:bootBuiltins "zip" = some (.type "zip")) (ua2 (thn (ha pos pins s σ H _ I h) λus s1 z9=>?_) (by rw [hs,hs2]) (by rw [hs2];rfl)));obtain ⟨vs,H1,I1,r1,q1⟩:=z9;obtain ⟨a,b,xs,ys,ev,hq1,hq2,q⟩:=q1;subst ev
 cases r1 with
 | cons r rr=>
   cases rr with
   | cons r' rr=>
     cases rr
     cases r
     cases r'
     obtain ⟨its,rv,⟨o1,p1,pc1,n1,pd1⟩,hz⟩:=I1.tuple hq1;obtain ⟨jts,rv',⟨o2,p2,pc2,n2,pd2⟩,hz'⟩:=I1.tuple hq2;have la:a < s1.heap.objs.size:=un4 p1;have lb:b < s1.heap.objs.size:=un4 p2;refine OD (xs:=its.toArray) (ys:=jts.toArray) ⟨o1,p1,pc1,n1,pd1⟩ ⟨o2,p2,pc2,n2,pd2⟩ λg st kk=>?_;refine wpAny_pyIter_zip st.zz ?_;have hfp:∀c∈[s1.heap.objs.size + 4,s1.heap.objs.size + 2,s1.heap.objs.size + 3,s1.heap.objs.size,s1.heap.objs.size + 1],FpOk X pins H1 c:=λc hc=>by
      have hc':s1.heap.objs.size<=c:=by
       simp only [um5,ui8,or_false] at hc;lia
      exact I1.fpOk hc' (I1.hok.fresh hc')
     exact ⟨s1.heap.objs.size + 4,_,_,_,H1,rfl,I1.kept (t':=s1.toks) kk,RK a b _ _ _ _ _ (Oq la lb),st,hfp,q⟩
end L2
namespace F2
open PySem L2 PySem.Spec
noncomputable def Dc:List D->List D->List D
 | x :: xs,y :: ys=>.tup [x,y] :: Dc xs ys
 | _,_=>[]
theorem IB:∀(xs ys:List D),(Dc xs ys).length=min xs.length ys.length
 | [],ys=>by simp [Dc]
 | x :: xs,[]=>by simp [Dc]
 | x :: xs,y :: ys=>by rw [Dc,ui9,IB xs ys,ui9,ui9,Nat.succ_min_succ]
theorem Mg:∀(xs ys:List D) (j:Nat) (d:D),(Dc xs ys)[j]?=some d->∃x y,xs[j]?=some x/\ys[j]?=some y/\d = .tup [x,y]
 | [],ys,j,d,h=>by simp [Dc] at h
 | x :: xs,[],j,d,h=>by simp [Dc] at h
 | x :: xs,y :: ys,0,d,h=>by rw [Dc] at h;exact ⟨x,y,rfl,rfl,by simpa using h.symm⟩
 | x :: xs,y :: ys,j + 1,d,h=>by rw [Dc] at h;simpa using Mg xs ys j d (by simpa using h)
def Og:List D->M (List D)
 | [.tup xs,.tup ys]=>ret (Dc xs ys)
 | _=>fail
def Qr (f:M (List D)):M (List D):=bnd f Og
theorem ItOk2.zip {K:PySem.W.Frag}{c:Cf}{H:Hp}{p q:Addr}{ds es:List D}(r:∀c' H',Ext c H c' H'->∃vs,SqT K H' p vs/\Reps K c' H' vs ds)(r':∀c' H',Ext c H c' H'->∃vs,SqT K H' q vs/\Reps K c' H' vs es):ItOk2 K (Itz K p q) c H (Dc ds es):=by
 refine ⟨λc' H' i ex hi=>?_,λc' H' i x H'' d ex hd hy=>?_,λc' H' ex=>?_⟩
 ·obtain ⟨vs,h1,h2⟩:=r c' H' ex;obtain ⟨ws,h3,h4⟩:=r' c' H' ex;rw [IB] at hi;obtain ⟨v,e,_⟩:=h2.at (ub2 (uf5 hi (Nat.min_le_left _ _)));obtain ⟨w,e',_⟩:=h4.at (ub2 (uf5 hi (Nat.min_le_right _ _)));exact ⟨vs,ws,v,w,h1,h3,e,e'⟩
 ·obtain ⟨vs,h1,h2⟩:=r c' H' ex;obtain ⟨ws,h3,h4⟩:=r' c' H' ex;obtain ⟨a,v,w,rfl,hq,hs,hs',rfl⟩:=hy;obtain ⟨d1,d2,e1,e2,rfl⟩:=Mg _ _ _ _ hd;obtain ⟨v',g1,rv⟩:=h2.at e1;obtain ⟨w',g2,rw'⟩:=h4.at e2;rw [hs vs h1] at g1;rw [hs' ws h3] at g2
  cases g1
  cases g2
  exact ⟨a,_,_,rfl,hq,rfl,rfl,.cons rv (.cons rw' .nil)⟩
 ·obtain ⟨vs,h1,h2⟩:=r c' H' ex;obtain ⟨ws,h3,h4⟩:=r' c' H' ex;refine ⟨vs,ws,h1,h3,?_⟩;rw [IB,h2.length,h4.length];lia
theorem RF.comp2 {K:PySem.W.Frag}{n:Nat}{fr:List Nat}{f:M (List D)}{st:D->M Unit}{tst:M Bool}{elt:M D}{σ:L2.St}{H:Hp}{Q:VK}(q:RF K (AF n fr f st tst elt) σ H Q):Je (RI2 K f) (RG K st) (RT K tst) (RE K elt) (DM n fr) σ H Q:=by
 obtain ⟨Oo,c,t,fi,xs,t',eq,k⟩:=q;obtain ⟨ds,t1,e1,eq⟩:=Ah eq;refine ⟨Oo,c,t,fi,ds,t1,e1,λJ H1 c1 f1 s1 it=>?_⟩
 cases e3:A9 st tst elt ds ⟨cenv n fr t1.env,t1.S⟩ with
 | none=>rw [e3] at eq;cases eq
 | some p=>
   obtain ⟨ys,t3⟩:=p;rw [e3] at eq;dsimp only at eq
   split at eq
   case isFalse=>cases eq
   next hl=>
   cases eq
   refine ⟨λi m acc σ' H'=>m=ds.length - i/\i<=ds.length/\∃c' t2 zs rest,FInv K c1.O c' t2 σ' H'/\Stp c1.O c1 H1 c' H'/\Reps K c' H' acc zs/\A9 st tst elt (ds.drop i) t2=some (rest,t3)/\xs=zs++rest,
    ⟨_,rfl,up5 _,c1,_,[],xs,Gf f1,.refl,.nil,by rw [um1];exact e3,rfl⟩,?_⟩
   rintro i m acc σ' H' ⟨rfl,hi,c',t2,zs,rest,f2,s2,ra,e2,ez⟩;have hacc:acc.length<=sizeLine:=by
    have:zs.length<=xs.length:=by rw [ez,ug0];exact ui6 _ _
    rw [ra.length];exact un6 this (un6 hl Bu)
   refine ⟨hacc,?_⟩
   by_cases hlt:i < ds.length
   ·refine .inr ⟨it.go c' H' i s2.ext hlt,λx H'' hy=>?_⟩;obtain ⟨p,vs,es,rfl,hp,rfl,ed,rx⟩:=it.yld c' H' i x H'' _ s2.ext (ub2 hlt) hy;rw [ub0 hlt,ed] at e2;unfold A9 at e2;obtain ⟨u,t4,e4,e2⟩:=Ah e2;obtain ⟨kb,t5,e5,e2⟩:=Ah e2;have sL:=f2.stp_laid (o:=.tup vs) hp;have s2':=s2.trans sL;have ra':=ra.mono sL.ext;refine ⟨c1.O,c',t2,_,f2.laid hp,.tup AD (f2.s.free hp) (rx.mono (Ext.laid f2.s hp)),t4,e4,λσ3 H3 c3 f3 s3=>⟨c1.O,c3,t4,f3,kb,t5,e5,λH4 c4 f4 s4=>?_⟩⟩
    cases kb with
    | false=>
      rw [if_neg uf7] at e2 ⊢;exact ⟨ds.length - (i + 1),by lia,rfl,hlt,c4,t5,zs,rest,f4,(s2'.trans s3).trans s4,ra'.mono (s3.trans s4).ext,e2,ez⟩
    | true=>
      rw [if_pos rfl] at e2 ⊢;obtain ⟨x6,t6,e6,e2⟩:=Ah e2;obtain ⟨r7,t7,e7,e2⟩:=Ah e2
      cases e2
      refine ⟨c1.O,c4,t5,f4,x6,t6,e6,λv H5 c5 f5 s5 rv=>?_⟩;exact ⟨ds.length - (i + 1),by lia,rfl,hlt,c5,t6,zs++[x6],r7,f5,((s2'.trans s3).trans s4).trans s5,(ra'.mono ((s3.trans s4).trans s5).ext).append (.cons rv .nil),e7,by rw [ez,uh0];rfl⟩
   ·have hi':i=ds.length:=by lia
    subst hi';rw [ui5] at e2
    cases e2
    refine .inl ⟨it.stop c' H' s2.ext,λp hp _=>?_⟩;obtain ⟨si,ext⟩:=f2.leave;obtain ⟨f6,s6⟩:=f1.after si ⟨s2.ext.trans ext,s2.oo⟩ (λ_=>Iff.rfl);rw [uk2] at ez;subst ez;exact k p acc H' _ f6 (s1.trans s6) (ra.mono ext) hp
section
variable {X:Cx}{e a b tg iter elt:Expr}{ifs:List Expr}{pos:Pos}{scope:Scope}{N':List Str}{n:Nat}{fr:List Nat}{f:M (List D)}{st:D->M Unit}{tst:M Bool}{el:M D}
theorem Qz {μ:Cf->Hp->D->(V->Hp->Prop)->Prop}{i:Nat}{y:Str}{py spos:Pos}(O:CmpOk X scope N' (DM n fr))(hc:X.calm=true)(hN:X.N.Nodup)(hiN:X.N[i]?=some y)(hx:X.env.scope.names.lookup y=some .local)(hi:PI X tg iter (RI2 X.K f))
 (hg:∀cl C s2 H2 fp,PG (Bc X N' scope cl C s2 H2 fp) tg (RG X.K st)) (ht:∀cl C s2 H2 fp,PIf (Bc X N' scope cl C s2 H2 fp) ifs (RT X.K tst)) (he:∀cl C s2 H2 fp,PE (Bc X N' scope cl C s2 H2 fp) elt (RE X.K el))
 (hsw:swapsWith (.ListComp elt [⟨tg,iter,ifs,0⟩] scope pos) (some (.Name y py)) spos.line X.env=pure true:=by rfl)
 (hs:∀x,foldedSetIterable iter X.env x=pure x:=by intro _;rfl):PS X (.Assign [.Name y py] (.ListComp elt [⟨tg,iter,ifs,0⟩] scope pos) spos) (RSg X.K μ (Aq i (Ap (AF n fr f st tst el)))):=
 A3 (JC O hc hN hiN hx hi hg ht he hsw hs) λE σ H q=>RF.comp2 (RF.ofPure (RS.set q))
theorem VD {g:M (List D)}{elts:List Expr}{m:Nat}{tpos p:Pos}(hg:Gl X "zip")(hm:X.mg "zip" = none)(ha:PA X [a,b] (RA X.K g))(h1:AM a=false:=by rfl)(h2:AM b=false:=by rfl):PI X (.Tuple elts m tpos) (.Call (.Name "zip" p) [a,b] [] pos) (RI2 X.K (Qr g)):=
 GJ (Ws hg hm ha (by rw [AA h1,AA h2];rfl) (AA h2)) λσ H R z9=>by
  obtain ⟨Oo,c,t,fi,ds,t',eq,k⟩:=z9;obtain ⟨xs,t1,e1,eq⟩:=Ah eq;refine ⟨Oo,c,t,fi,xs,t1,e1,λvs H1 c1 f1 s1 rv=>?_⟩;unfold Og at eq
  split at eq
  ·next es es'=>
   cases eq
   cases rv with
   | cons r rs=>
     cases rs with
     | cons r' rs=>
       cases rs
       cases r with
       | @tup a ws _ g1 g2 g3=>
         cases r' with
         | @tup a' ws' _ g1' g2' g3'=>exact ⟨a,a',ws,ws',rfl,SqT.of g1,SqT.of g1',k _ H1 c1 f1 s1 (ItOk2.zip (λc' H' ex=>⟨ws,SqT.of (ex.keep _ _ g1 g2),g3.mono ex⟩) λc' H' ex=>⟨ws',SqT.of (ex.keep _ _ g1' g2'),g3'.mono ex⟩)⟩
  ·cases eq
def ES (i:Nat):M D:=λt=>match t.env[i]? with
 | some (some (.own xs))=>some (.int xs.length,t)
 | _=>none
theorem ON (i:Nat){x:Str}{p px:Pos}(hg:Gl X "len")(hm:X.mg "len" = none)(hv:bootBuiltins "len" = some (.builtin "len"))(hN:X.N[i]?=some x:=by rfl)(hvi:Vis X.env.scope x:=by walk_at "h")(hd:(x == ("__debug__" : Str))=false:=by decide)
 (hcd:(x == ("__classdict__" : Str))=false:=by decide):PE X (.Call (.Name "len" p) [.Name x px] [] pos) (RE X.K (ES i)):=
 AH (Fa Lb hg hm hv (CP (EA hN hvi hd hcd) E9 (AA (e:=.Name x px) rfl)) (by decide) (by decide) (AA (e:=.Name x px) rfl) (AK (es:=[]) (by simp [AX])).1) λσ H Q z9=>by
  obtain ⟨Oo,c,t,fi,r,t',eq,k⟩:=z9;unfold ES at eq
  split at eq
  ·next xs0 e0=>
   cases eq
   obtain ⟨a,vs0,q1,q2,q3,q4,q5⟩:=fi.own i xs0 e0;refine ⟨.ref a,q1,?_⟩;refine ⟨a,vs0,rfl,.inl (SqL.of q4),?_⟩;have h:=k (.int xs0.length) H c fi .refl (.int _);rw [<-q5.length] at h;exact h
  ·cases eq
end
end F2
namespace L2
open PySem PySem.Spec PyProof.Rows
section
variable {X:Cx}
end
section
variable {X:Cx}
end
section
variable {X:Cx}
end
end L2
namespace F2
open PySem L2 PySem.Spec
section
variable {X:Cx}{pos:Pos}{e:Expr}{es:List Expr}
end
end F2
namespace L2
open PySem PySem.Spec PyProof.Rows
section
variable {X:Cx}
end
end L2
namespace F2
open PySem L2 PySem.Spec
noncomputable def NG:List (Key×D)->Option (List Int)
 | []=>some []
 | (.inl k,_) :: r=>(NG r).map (k :: ·)
 | _=>none
section
variable {K:PySem.W.Frag}{c:Cf}{H:Hp}
end
section
variable {X:Cx}{pos:Pos}{e b:Expr}
end
end F2
namespace L2
open PySem PySem.Spec PyProof.Rows
noncomputable def tb (led:Bool)(pl:List Nat):SetTable:={ mask:=7,place:=pl.toArray,dummies:=#[],finger:=0,led:=led,moves:=0,plain:=true }
noncomputable def pls:Nat->List (List Nat)
 | 0=>[[]]
 | k + 1=>(pls k).flatMap λl=>(List.range 8).filterMap λj=>if l.all (· < j) then some (l++[j]) else none
section
variable {P:Program}{w:World}{A:Around}{E:Value->Shared->Prop}{s:Shared}
end
section
variable {P:Program}{w:World}{A:Around}{I:Addr}{fp wr:List Addr}{G:Array GenState->Array GenState->Prop}{n:Nat}{Pr:Nat->Value->Prop}{St:Nat->Shared->Prop}
end
section
variable {P:Program}{w:World}{A:Around}{E:Value->Shared->Prop}{s:Shared}
end
section
variable {prog:Program}{w:World}{A:Around}
end
section
variable {X:Cx}
end
end L2
namespace F2
open PySem L2 PySem.Spec PyProof.Rows
section
variable {X:Cx}{pos:Pos}{e:Expr}
end
end F2
namespace F2
open PySem L2 PySem.Spec
def Bw:List D->M D
 | [.obj k,.ty m]=>λt=>match t.S[k]? with
   | some (.lst _)=>(GW "list" m).map λb=>(.bl b,t)
   | _=>none
 | ds=>D8 ds
theorem Rp {K:PySem.W.Frag}:Du K (Rh K) Bw:=λ{Oo c t σ H xs ds r t' Q} f rx eq k=>by
 unfold Bw at eq
 split at eq
 ·next n m=>
  obtain ⟨v,u,rfl,rv,ru⟩:=KF rx
  cases ru
  cases rv with
  | @obj a kk hk=>
  split at eq
  ·next ds es=>
   obtain ⟨b,e1,e2⟩:=uc2.mp eq
   cases e2
   obtain ⟨us,g1,g2⟩:=f.s.obs _ a _ hk es;exact ⟨.ref a,m,.type "list",b,rfl,.lst g1,MM (d:=.lst []) rfl e1,k _ H c f .refl (.bl b)⟩
  ·cases eq
 ·exact M8 f rx eq k
section
variable {X:Cx}{elt:Expr}{pos:Pos}{e:Expr}{es:List Expr}
end
end F2
namespace L2
open PySem PySem.Spec PyProof.Rows
section
variable {X:Cx}{pins:List (Addr×Obj)}{σ:St}{H:Hp}{s:Shared}{a:Addr}{kvs:List (Key×V)}{o:Obj}
end
section
variable {X:Cx}
end
section
variable {X:Cx}
end
end L2
namespace F2
open PySem L2 PySem.Spec SeqAt
def Oh (K:PySem.W.Frag)(H:Hp)(v w:V):Prop:=∃c dv dw,Rep K c H v dv/\Rep K c H w dw/\eqN EQD dv dw=some true
def UY (K:PySem.W.Frag)(H:Hp)(v w:V):Prop:=Oh K H v w\/∃a b us ts,v = .ref a/\w = .ref b/\H a=some (.dK us)/\H b=some (.dK ts)/\us.length=ts.length/\(∀kv∈us,∃n:Int,kv.1=Sum.inl n)/\(∀kv∈ts,∃n:Int,kv.1=Sum.inl n)/\∀kv∈us,∃z,RM ts kv.1=some z/\Oh K H kv.2 z
def aj (K:PySem.W.Frag)(b:Bool):R2:=λx y H Q=>∃p q vs ws,x = .ref p/\y = .ref q/\H p=some (.lst vs)/\H q=some (.lst ws)/\vs.length=ws.length/\(∀(j:Nat) v w,vs[j]?=some v->ws[j]?=some w->UY K H v w)/\Q (.bl b) H
def K1 (S:List Ob)(x y:D):Bool:=Bg (Fd S x) && Bg (Fd S y) && decide (eqN EQD (Fd S x) (Fd S y)=some true)
def Z0 (S:List Ob)(x y:D):Bool:=match x,y with
 | .obj m,.obj n=>match S[m]?,S[n]? with
   | some (.dct kvs),some (.dct lvs)=>kvs.length == lvs.length && (NG kvs).isSome && (NG lvs).isSome && kvs.all (λkv=>match Xx lvs kv.1 with | some e=>K1 S kv.2 e | none=>false)
   | _,_=>K1 S x y
 | _,_=>K1 S x y
end F2
namespace F2
open PySem L2 PySem.Spec
section
variable {X:Cx}{pos:Pos}
end
end F2
namespace L2
open PySem PySem.Spec PyProof.Rows
structure ZL (h:Heap)(z TI TO i1 i2 t1 t2:Addr)(n:Nat):Prop where
 zz:IsZip h z TI TO .none
 ti:IsPair h TI (.ref i1) (.ref i2)
 ot:∃a b,IsPair h TO a b
 p1:h.IsListIter i1 t1 n
 p2:h.IsListIter i2 t2 n
end L2
namespace F2
open PySem L2 PySem.Spec
section
variable {X:Cx}{a b:Expr}{pos:Pos}
end
end F2
namespace L2
open PySem PySem.Spec PyProof.Rows PySem.W
section
variable {prog:Program}{w:World}{A:Around}{h:Heap}{g:Array GenState}{d:Drawn}{t:Nat}{os:OsState}{R:Result->Shared->Prop}
variable {nm q:Str}{C N fI:Addr}{bs bm bmB:List Value}{hdct:Bool}{sn:List Str}{sub:List Value}{ab:Bool}{col:Option Bool}{dd:Option Addr}{k0 k1 k2 k3 k5:Option Value}{B newId initId:String}{mN:Str->Option Value}
abbrev OI (C tp:Addr):Obj:={ cls:=.ref C,data:=.fields #[.ref tp,.none,.none,.none,.bool false,.none] }
abbrev IZ (h:Heap)(C:Addr)(us:List Value):Heap:=(h.push { cls:=.type "tuple",data:=.seq us.toArray }).push (OI C h.objs.size)
end
end L2
namespace L2
open PySem PySem.Spec PyProof.Rows PySem.W PySem.Builtin PySem.Builtin.ObjectAttr
section
variable {prog:Program}{w:World}{A:Around}{s:Shared}{K:PySem.W.Frag}{x C P tp:Addr}{R:Result->Shared->Prop}{name:Str}{v:Value}{tk:Tok}{cd:ClassData}
end
end L2
namespace L2
open PySem PySem.Spec PyProof.Rows PySem.W
variable {qx:Bool}
def XRec (qx:Bool)(h:Heap)(x C:Addr)(dx:Option Addr)(tb:Value):Prop:=∃(o:Obj) (vs:Array Value),h.get? x=some o/\o.cls = .ref C/\o.dict=dx/\o.data = .fields vs/\vs[1]?=some tb/\(qx=true->vs[2]?=some .none/\4 < vs.size)
theorem Vh {qx:Bool}{vs:Array Value}{v:Value}(h:qx=true->vs[2]?=some .none/\4 < vs.size):qx=true->(vs.setIfInBounds 1 v)[2]?=some .none/\4 < (vs.setIfInBounds 1 v).size:=λz=>by
 rw [Array.getElem?_setIfInBounds_ne (by decide),Array.size_setIfInBounds];exact h z
theorem XRec.to {qx:Bool}{h:Heap}{x C:Addr}{dx:Option Addr}{tb:Value}(r:XRec true h x C dx tb):XRec qx h x C dx tb:=by
 obtain ⟨o,vs,h1,h2,h3,h4,h5,h6⟩:=r;exact ⟨o,vs,h1,h2,h3,h4,h5,λ_=>h6 rfl⟩
def XTb (h:Heap)(T:Addr):Prop:=∃(o:Obj) (ts:Array Value),h.get? T=some o/\o.data = .fields ts/\ts[3]?=some .none
structure XKeep (fs ch:List Addr)(h h':Heap):Prop where
 keep:∀b o,b∉ch->b∉fs->h.get? b=some o->h'.get? b=some o
 slot:∀b o,b∉ch->h.get? b=some o->∃sl,h'.get? b=some { o with slots:=sl }
section
variable {M:Model}{A:Around}{E:Value->Shared->Prop}{s:Shared}{env:Env}{outer:List Env}{base:Heap}{L x C:Addr}{dx:Option Addr}{tb:Value}{Q:Unit->Shared->Prop}
theorem LF {o:Obj}{vs:Array Value}(hd:o.data = .fields vs)(f:Array Value->Array Value):(o.mapFields f).data = .fields (f vs)/\(o.mapFields f).cls=o.cls/\(o.mapFields f).dict=o.dict:=by
 obtain ⟨c,d,dt,sl⟩:=o
 cases hd
 exact ⟨rfl,rfl,rfl⟩
end
end L2
namespace L2
open PySem PySem.Spec PyProof.Rows PySem.W
variable {qx:Bool}
abbrev VE:List Value:=[.type "ValueError",.type "Exception",.type "BaseException",.type "object"]
structure XCl (K:PySem.W.Frag)(C:Addr)(bm:List Value):Prop where
 ex:∃cd dd k0 k1 k2 k3 k5,K.lookup C=some { cls:=.type "type",dict:=dd,data:=.cls cd,slots:=#[k0,k1,k2,k3,some (.builtin "ValueError.__new__"),k5] }/\cd.mro = .ref C :: bm/\cd.hasDel=false/\cd.hasDict=true/\nsOkIn K cd.ns=true
 tl:tailIn K VE bm=true
noncomputable def KI (K:PySem.W.Frag)(C:Addr)(bm:List Value):Bool:=tailIn K VE bm && match K.lookup C with
 | some ⟨.type "type",_,.cls cd,sl⟩=>(match sl.toList with
   | [_,_,_,_,some (.builtin n),_]=>n == "ValueError.__new__" && cd.mro == .ref C :: bm && !cd.hasDel && cd.hasDict && nsOkIn K cd.ns
   | _=>false)
 | _=>false
variable {K:PySem.W.Frag}{C:Addr}{bm:List Value}
theorem XCl.of_in (q:KI K C bm=true):XCl K C bm:=by
 unfold KI at q;rw [ui2] at q;refine ⟨?_,q.1⟩;have q:=q.2
 split at q
 ·rename_i dd cd sl ho
  split at q
  ·rename_i k0 k1 k2 k3 n k5 hs;simp only [ui2,beq_iff_eq,uh5] at q;obtain ⟨⟨⟨⟨rfl,h1⟩,h2⟩,h3⟩,h4⟩:=q;have hsl:sl=#[k0,k1,k2,k3,some (.builtin "ValueError.__new__"),k5]:=by
    cases sl
    exact congrArg Array.mk hs
   exact ⟨cd,dd,k0,k1,k2,k3,k5,by rw [ho,hsl],h1,h2,h3,h4⟩
  ·cases q
 ·cases q
theorem XCl.obj {K:PySem.W.Frag}{C:Addr}{bm:List Value}{h:Heap}(c:XCl K C bm)(X:K.In h):∃nm q N bs sn sub ab col dd k0 k1 k2 k3 k5,h.get? C=some (excClassObj nm q C N bs bm true sn sub ab col dd k0 k1 k2 k3 k5 "ValueError.__new__")/\h.Ns N (h.nsMap N):=by
 obtain ⟨⟨nm,bs,mro,ns,qn,hd,sn,sub,ab,col,del⟩,dd,k0,k1,k2,k3,k5,h1,h2,h3,h4,h5⟩:=c.ex;dsimp only at h2 h3 h4 h5;subst h2 h3 h4;exact ⟨nm,qn,ns,bs,sn,sub,ab,col,dd,k0,k1,k2,k3,k5,X _ _ h1,.of_isNs (isNs_of_in X h5)⟩
variable {h:Heap}
theorem XCl.tail (c:XCl K C bm)(X:K.In h):OwnTail h VE bm:=tail_of_in X c.tl
theorem XCl.has (c:XCl K C bm)(X:K.In h):(Value.ref C :: bm).contains (.type "BaseException")=true:=by
 rw [ug3,(c.tail X).hasType (b:=true) (by decide +kernel),uo3]
section
variable {M:Model}{A:Around}{E:Value->Shared->Prop}{env:Env}{K:PySem.W.Frag}{C:Addr}{bm:List Value}{s:Shared}
theorem Rj {t:Sem Value}{Q:Flow->Shared->Prop}(c:XCl K C bm)(hh:A.handled=none)
 (h:wpAny M A t (λv s1=>∃x dx,v = .ref x/\K.In s1.heap/\XRec qx s1.heap x C dx .none/\E v s1) E s):wpAny M A (raiseStmt env (some t) none) Q E s:=by
 unfold raiseStmt;refine up8 (uq0 h (λv s1 q=>?_) λ_ _ z=>z);obtain ⟨x,dx,rfl,X,⟨o,vs,hx,hc,hd,hdt,h1,_⟩,hE⟩:=q;obtain ⟨nm,q,N,bs,sn,sub,ab,col,dd,k0,k1,k2,k3,k5,hC,_⟩:=c.obj X;have hb:=c.has X;obtain ⟨hp,g,d,tk,os⟩:=s1
 repeat (first
  | (with_reducible refine wpAny_loadPart_at hx ?_;rw [hc])
  | with_reducible refine wpAny_loadPart_at hC ?_
  | (with_reducible refine wpAny_isSubtype_exc hC ?_;rw [hb])
  | with_reducible refine up7 hx hdt h1 ?_
  | wp_step)
 exact wpAny_raiseNew_none hh hE
end
def CX1 (qx:Bool)(P:Program)(w:World):CXT:=λouter H s E e s'=>∃(x C:Addr) (dx:Option Addr) (T:Addr) (H':Hp),e = .ref x/\s'.os=s.os/\AllBare s'.gens/\Un (frs outer) [] H H' s.heap s'.heap/\HOk P w H' s'.heap/\
 H' x=some (.ext (F2.XIs qx x C dx))/\s.heap.objs.size<=x/\s.heap.objs.size<=T/\T≠x/\H' T=none/\XRec qx s'.heap x C dx (.ref T)/\XTb s'.heap T/\E (.ref x) dx H'
variable {x:Addr}{dx:Option Addr}
theorem XRec.is {tb:Value}(r:XRec qx h x C dx tb):F2.XIs qx x C dx h:=by
 obtain ⟨o,vs,h1,h2,h3,h4,_,h5⟩:=r;exact ⟨o,vs,h1,h2,h3,h4,h5⟩
theorem XIs.stay {h1 h2:Heap}(r:F2.XIs qx x C dx h1)(k:∀o,h1.get? x=some o->h2.get? x=some o):F2.XIs qx x C dx h2:=by
 obtain ⟨o,vs,e,q⟩:=r;exact ⟨o,vs,k o e,q⟩
theorem OK {P:Program}{w:World}{H:Hp}(r:F2.XIs qx x C dx h):ObjOk P w H h x (.ext (F2.XIs qx x C dx)):=
 ⟨r,let ⟨o,_,e,_⟩:=r;⟨o,e⟩,λ_ _ q k=>XIs.stay q k⟩
section
variable {X:Cx}{pins:List (Addr×Obj)}{σ:St}{H H':Hp}{s s':Shared}{h':Heap}{x C T:Addr}{dx:Option Addr}{ch:List Addr}
theorem RL (k:XKeep (frs X.stack) ch s.heap h')(hT:∀b∈ch,b=x\/b=T):Un (frs X.stack) (x :: T :: []) H H s.heap h':=by
 have nch:∀b:Addr,b∉(x :: T :: [])->b∉ch:=λb hb z=>hb (by rcases hT b z with rfl | rfl <;> simp);refine ⟨λb o e n hb hx=>k.keep b o (nch b hx) hb e,λb o e n hb hx=>k.slot b o (nch b hx) e,λb o e n _=>n,λb o e hx=>?_,λ_ _ e=>e,λ_ _ _ e=>e,λb ps e=>⟨#[],by rw [e];simp⟩⟩;obtain ⟨sl,q⟩:=k.slot b o (nch b hx) e;exact ⟨_,q⟩
theorem Inv.left (I:Inv X pins σ H s)(hx:H x=some (.ext (F2.XIs qx x C dx)))(hT:H T=none)(nx:X.s₀.heap.objs.size<=x)(nT:X.s₀.heap.objs.size<=T)(k:XKeep (frs X.stack) ch s.heap h')(hc:∀b∈ch,b=x\/b=T)(r:F2.XIs qx x C dx h')
 (oT:∀y c,X.env.cells.lookup y=some c->c≠T) (lT:T≠X.env.locals) (pT:∀p∈X.pn++pins,p.1≠T):Inv X pins σ H { s with heap:=h' }:=by
 have nfr:∀b u,H b=some u->b∉frs X.stack:=λb u e z=>by rw [I.stkFree b z] at e;cases e
 refine I.call (g':=s.gens) (t':=s.toks) (d':=s.drawn) (ch:=[x,T]) (RL k hc) (λb u e=>?_) I.bare λb hb=>?_
 ·by_cases hb:b=x
  ·subst hb;rw [hx] at e;cases e;exact OK r
  ·refine (I.hok b u e).stay (λc v hcc q=>k.keep c v ?_ ?_ q) (λ_ q=>q) λ_ _ q=>q
   ·intro z;rcases hcc with rfl | hcc
    ·rcases hc c z with q | q
     ·exact hb q
     ·rw [q,hT] at e;cases e
    ·rcases hc c z with q | q
     ·rw [q,hx] at hcc;cases hcc
     ·rw [q,hT] at hcc;cases hcc
   ·rcases hcc with rfl | hcc
    ·exact nfr _ _ e
    ·exact nfr _ _ hcc
 ·have q:b=x\/b=T:=by simpa using hb
  rcases q with rfl | rfl
  ·exact ⟨.inr nx,(λz=>by rw [z,I.free] at hx;cases hx),(λy c e z=>by subst z;rw [I.freeC y c e] at hx;cases hx),λp hp z=>by rw [<-z,(I.pin p hp).2.1] at hx;cases hx⟩
  ·exact ⟨.inr nT,lT,oT,pT⟩
theorem Inv.raised (I:Inv X pins σ H s){E:XK}{e:Value}(q:CX1 qx X.prog X.w X.stack H s E e s'):∃(x C:Addr) (dx:Option Addr) (T:Addr) (H':Hp),e = .ref x/\Inv X pins σ H' s'/\H' x=some (.ext (F2.XIs qx x C dx))/\s.heap.objs.size<=x/\s.heap.objs.size<=T/\T≠x/\H' T=none/\XRec qx s'.heap x C dx (.ref T)/\XTb s'.heap T/\E (.ref x) dx H':=by
 obtain ⟨x,C,dx,T,H',he,os,bare,un,hok,hx,nx,nT,ne,hT,r,tb,q⟩:=q;obtain ⟨hh,g,d,t,os'⟩:=s';obtain rfl:os'=s.os:=os;exact ⟨x,C,dx,T,H',he,I.call (h':=hh) (g':=g) (d':=d) (t':=t) (ch:=[]) un hok bare (λb z=>absurd z (by simp)),hx,nx,nT,ne,hT,r,tb,q⟩
theorem Inv.newT (I:Inv X pins σ H s)(h:s.heap.objs.size<=T):T≠X.env.locals/\(∀y c,X.env.cells.lookup y=some c->c≠T)/\∀p∈X.pn++pins,p.1≠T:=by
 have far:∀b o,s.heap.get? b=some o->b≠T:=λb o e z=>absurd (uf5 (un4 e) h) (by rw [z];exact um4 _);refine ⟨λz=>absurd I.lt (by rw [<-z];exact Nat.not_lt.mpr h),λy c e=>?_,λp hp=>far _ _ (I.pin p hp).1⟩;obtain ⟨v,o,ho,_⟩:=I.cell y c e;exact far c o ho
end
section
variable {P:Program}{w:World}{K:PySem.W.Frag}{mg:Str->Option Value}{base:Heap}{N:List Str}{qual:Str}{scope:Scope}{f:Addr}{cd:Value}{A:Around}{outer:List Env}{s₀:Shared}{H₀:Hp}{E:XK}
end
end L2
namespace L2
open PySem PySem.Spec PyProof.Rows PySem.W
structure XAt (K:PySem.W.Frag)(C P:Addr)(f:Str):Prop where
 cl:XCl K C (.ref P :: VE)
 set:findIn K (.ref C) "__setattr__" = some (some (.builtin "object.__setattr__"))
 no:findIn K (.ref C) f=some none
theorem XCl.cls {K:PySem.W.Frag}{C:Addr}{bm:List Value}(c:XCl K C bm):∃cd,clsIn K C=some cd/\cd.mro = .ref C :: bm/\cd.hasDict=true:=by
 obtain ⟨cd,dd,k0,k1,k2,k3,k5,h1,h2,_,h4,_⟩:=c.ex;exact ⟨cd,by unfold clsIn;rw [h1],h2,h4⟩
variable {qx:Bool}
structure XMk (K:PySem.W.Frag)(C P f:Addr):Prop where
 cl:XCl K C (.ref P :: VE)
 init:∃cd,clsIn K C=some cd/\nsIn K cd.ns "__init__" = some (some (.ref f))
 fn:isFn K (.ref f)=true
 kp:keepIn K (.ref C)=true
section
variable {X:Cx}{k:Nat}{f C P:Addr}{fd:FuncData}{pins:List (Addr×Obj)}{σ:St}{H:Hp}{s:Shared}{Q:Value->Shared->Prop}{us:List Value}{vs:List V}{a:Str}{ps:List Str}{v:V}{u:Value}
end
end L2
namespace L2
open PySem PySem.Spec PyProof.Rows PySem.W
variable {qx:Bool}
section
variable {M:Model}{A:Around}{E:Value->Shared->Prop}{K:PySem.W.Frag}{s:Shared}{x C C':Addr}{bm bm':List Value}{dx:Option Addr}{tb:Value}
theorem QR {Q:Bool->Shared->Prop}(c:XCl K C bm)(c':XCl K C' bm')(X:K.In s.heap)(hx:XRec qx s.heap x C dx tb)(h:Q ((Value.ref C :: bm).contains (.ref C')) s):wpAny M A (excMatches (.ref x) (.ref C')) Q E s:=by
 obtain ⟨nm,q,N,bs,sn,sub,ab,col,dd,k0,k1,k2,k3,k5,hC,_⟩:=c.obj X;obtain ⟨nm',q',N',bs',sn',sub',ab',col',dd',k0',k1',k2',k3',k5',hC',_⟩:=c'.obj X;have hb:=c'.has X;obtain ⟨o,vs,ho,hc,hd,hdt,h1⟩:=hx;obtain ⟨hp,g,d,tk,os⟩:=s;have ty:(⟨hp,g,d,tk,os⟩:Shared).TypeIs (.ref C') "type":=⟨_,hC',rfl⟩;have nt:=tc_notTuple
 cases hbb:(Value.ref C :: bm).contains (.ref C') <;> (
  rw [hbb] at h;unfold excMatches
  repeat (first
   | (with_reducible refine wpAny_loadPart_at ho ?_;rw [hc])
   | with_reducible refine wpAny_loadPart_at hC' ?_
   | (with_reducible refine wpAny_isSubtype_exc hC' ?_;rw [hb])
   | (with_reducible refine wpAny_isSubtype_exc hC ?_;rw [hbb])
   | wp_step)
  exact h)
end
end L2
namespace L2
open PySem PySem.Spec PyProof.Rows PySem.W
variable {qx:Bool}
def Qe (h:Heap)(T:Addr)(fl:Value):Prop:=∃(o:Obj) (ts:Array Value),h.get? T=some o/\o.data = .fields ts/\ts[3]?=some fl
section
variable {M:Model}{A:Around}{E:Value->Shared->Prop}{s:Shared}{env:Env}{outer:List Env}{base:Heap}{L x C:Addr}{dx:Option Addr}{tb:Value}{Q:Unit->Shared->Prop}
theorem JZ {hadNext:Bool}{hd:Value}(hfr:A.frames=some (env :: outer))(hl:s.heap.FunFrames base (env :: outer))(hf:env.frame=some L)(hx:XRec qx s.heap x C dx tb)
 (h:∀h' T,s.heap.objs.size<=T->T≠x->XRec qx h' x C dx (.ref T)->Qe h' T (rawInt L)->XKeep (frs (env :: outer)) [x] s.heap h'->Q () { s with heap:=h' }) :
 wpAny M A (do let fo <-frameOf env;let at' <-entryPlaceOf L hadNext;let en <-EntryCells.newEntry hd fo .none (rawInt L) .none at';setField (.ref x) 1 en) Q E s:=by
 obtain ⟨ox,vs,gx,cx,dxe,dtx,tbx,xc⟩:=hx;have v1:1 < vs.size:=(ua7.mp tbx).1;have nfr:x∉frs (env :: outer):=λz=>by
  obtain ⟨_,o2,g2,n2⟩:=hl.mem z;rw [gx] at g2;cases g2
  exact n2 vs dtx
 refine up8 (wpAny_frameOf_fun hfr hl hf λh1 so=>?_);refine up8 (wpAny_entryPlaceOf λat' ip=>?_);unfold EntryCells.newEntry newFields;refine up8 (wpAny_newObj_type ?_ (ip.sizeOk5 _ _ _ _ _));generalize hne:(Obj.mk (Value.type "traceback") none (Data.fields ([hd,Value.ref L,Value.none,rawInt L,Value.none]++if at'.isEmpty=true then List.replicate 6 Value.none else at').toArray) #[])=nob;have dn:nob.data = .fields ([hd,Value.ref L,Value.none,rawInt L,Value.none]++if at'.isEmpty=true then List.replicate 6 Value.none else at').toArray:=by rw [<-hne]
 have gx1:h1.get? x=some ox:=(so.2.1 x nfr).trans gx;have gx2:(h1.push nob).get? x=some ox:=ub9 _ gx1;have nex:h1.objs.size≠x:=un8 (un4 gx1);refine wpAny_setField gx2 dtx v1 ?_;obtain ⟨m1,m2,m3⟩:=LF dtx (·.setIfInBounds 1 (Value.ref h1.objs.size));have gx3:=ud0 (Obj.mapFields (·.setIfInBounds 1 (Value.ref h1.objs.size))) gx2 (Obj.isFreed_of_fields m1);have gT2:(h1.push nob).get? h1.objs.size=some nob:=ue7 h1 (Obj.isFreed_of_fields dn);have gT3:=(uc1 (h1.push nob) (Obj.mapFields (·.setIfInBounds 1 (Value.ref h1.objs.size))) (Ne.symm nex)).trans gT2;have vx:(vs.setIfInBounds 1 (Value.ref h1.objs.size))[1]?=some (.ref h1.objs.size):=by simp [v1]
 have old:∀b o,b≠x->h1.get? b=some o->((h1.push nob).update x (Obj.mapFields (·.setIfInBounds 1 (Value.ref h1.objs.size)))).get? b=some o:=λb o hb e=>by
  rw [uc1 _ _ (Ne.symm hb)];exact ub9 _ e
 refine h _ h1.objs.size (Nat.le_of_eq so.1.symm) nex ⟨_,_,gx3,m2.trans cx,m3.trans dxe,m1,vx,Vh xc⟩ ⟨_,_,gT3,dn,?_⟩ ⟨λb o hb hbf e=>old b o (λz=>hb (by simp [z])) ((so.2.1 b hbf).trans e),λb o hb e=>?_⟩
 ·rw [List.getElem?_toArray];rfl
 ·obtain ⟨sl,e1⟩:=so.2.2 b o e;exact ⟨sl,old b _ (λz=>hb (by simp [z])) e1⟩
end
structure XOn (qx:Bool)(X:Cx)(pins:List (Addr×Obj))(H:Hp)(s:Shared)(x C:Addr)(dx:Option Addr)(T:Option Addr)(fl:Value):Prop where
 hx:H x=some (.ext (F2.XIs qx x C dx))
 nx:X.s₀.heap.objs.size<=x
 rc:XRec qx s.heap x C dx (match T with | some a=>.ref a | none=>.none)
 tb:∀a,T=some a->a≠x/\H a=none/\X.s₀.heap.objs.size<=a/\(a≠X.env.locals/\(∀y c,X.env.cells.lookup y=some c->c≠a)/\∀p∈X.pn++pins,p.1≠a)/\Qe s.heap a fl
 fo:fl = .none\/fl=rawInt X.env.locals
section
variable {M:Model}{A:Around}{Er:Value->Shared->Prop}{X:Cx}{pins:List (Addr×Obj)}{σ:St}{H:Hp}{s:Shared}{x C:Addr}{dx T:Option Addr}{fl:Value}{Q:Unit->Shared->Prop}
theorem Hx (fr:Option Addr)(I:Inv X pins σ H s){a:Addr}(o:XOn qx X pins H s x C dx (some a) fl)(hfr:fr=none\/fr=some X.env.locals)
 (k:∀h',Inv X pins σ H { s with heap:=h' }->XOn qx X pins H { s with heap:=h' } x C dx (some a) (fr.elim Value.none λf=>rawInt f)->Q () { s with heap:=h' }):wpAny M A (setFlight (.ref x) fr) Q Er s:=by
 obtain ⟨ox,vs,gx,cx,dxe,dtx,tbx,xc⟩:=id o.rc;obtain ⟨ne,hT,nT,oT,ot,ts,gT,dT,t3⟩:=o.tb a rfl;unfold setFlight;refine up8 (up7 gx dtx tbx ?_);rw [if_pos (show (Value.ref a != Value.none)=true from rfl)];refine wpAny_setField gT dT (ua7.mp t3).1 ?_;obtain ⟨m1,m2,m3⟩:=LF dT (·.setIfInBounds 3 (fr.elim Value.none λf=>rawInt f));have gT2:=ud0 (Obj.mapFields (·.setIfInBounds 3 (fr.elim Value.none λf=>rawInt f))) gT (Obj.isFreed_of_fields m1);have oth:∀b,b≠a->(s.heap.update a (Obj.mapFields (·.setIfInBounds 3 (fr.elim Value.none λf=>rawInt f)))).get? b=s.heap.get? b:=λb z=>uc1 _ _ (Ne.symm z);have rc':XRec qx (s.heap.update a (Obj.mapFields (·.setIfInBounds 3 (fr.elim Value.none λf=>rawInt f)))) x C dx (.ref a):=⟨ox,vs,(oth x (Ne.symm ne)).trans gx,cx,dxe,dtx,tbx,xc⟩;refine k _ (I.left o.hx hT o.nx nT (ch:=[a]) ⟨λb u hb _ e=>(oth b (by simpa using hb)).trans e,λb u hb e=>⟨u.slots,(oth b (by simpa using hb)).trans e⟩⟩ (λb hb=>.inr (by simpa using hb)) rc'.is oT.2.1 oT.1 oT.2.2) ⟨o.hx,o.nx,rc',λa' e=>?_,?_⟩
 ·cases e
  exact ⟨ne,hT,nT,oT,_,_,gT2,m1,by rw [Array.getElem?_setIfInBounds_self,if_pos (ua7.mp t3).1]⟩
 ·rcases hfr with rfl | rfl
  ·exact .inl rfl
  ·exact .inr rfl
theorem Iq (hA:A.frames=some X.stack)(I:Inv X pins σ H s)(hs:X.stack=X.env :: X.outer)(hf:X.env.frame=some X.env.locals)(o:XOn qx X pins H s x C dx T fl)
 (k:∀h' a,Inv X pins σ H { s with heap:=h' }->XOn qx X pins H { s with heap:=h' } x C dx (some a) (rawInt X.env.locals)->Q () { s with heap:=h' }):wpAny M A (noteFrame (.ref x) X.env) Q Er s:=by
 obtain ⟨ox,vs,gx,cx,dxe,dtx,tbx,xc⟩:=id o.rc;have fin:∀(s1:Shared) (hh:∃h1,s1 = { s with heap:=h1 }) (ch:List Addr) (h':Heap) (a:Addr),Inv X pins σ H s1->s1.heap.objs.size<=a->a≠x->XRec qx h' x C dx (.ref a)->Qe h' a (rawInt X.env.locals)->XKeep (frs (X.env :: X.outer)) [x] s1.heap h'->Q () { s1 with heap:=h' }:=by
  rintro s1 ⟨h1,rfl⟩ ch h' a I1 l1 l2 l3 l4 l5;obtain ⟨o1,o2,o3⟩:=I1.newT l1;have J:=I1.left o.hx (I1.hok.fresh l1) o.nx (un6 I1.sz l1) (ch:=[x]) (hs ▸ l5) (λb hb=>.inl (by simpa using hb)) l3.is o2 o1 o3;exact k h' a J ⟨o.hx,o.nx,l3,λa' e=>by cases e;exact ⟨l2,I1.hok.fresh l1,un6 I1.sz l1,⟨o1,o2,o3⟩,l4⟩,.inr rfl⟩
 unfold noteFrame;simp only [hf];refine up8 (up7 gx dtx tbx ?_)
 cases T with
 | none=>
   rw [if_neg (by decide)];exact JZ (hA.trans (congrArg some hs)) (hs ▸ I.stack) hf o.rc λh' a l1 l2 l3 l4 l5=>fin s ⟨s.heap,rfl⟩ [] h' a I l1 l2 l3 l4 l5
 | some T₀=>
   obtain ⟨ne,hT,nT,oT,ot,ts,gT,dT,t3⟩:=o.tb T₀ rfl;rw [if_pos (show (Value.ref T₀ != Value.none)=true from rfl)];refine up8 (up7 gT dT t3 ?_);rcases o.fo with rfl | rfl
   ·rw [if_neg (show ¬((Value.none == rawInt X.env.locals)=true) from by simp [rawInt])];refine up8 (wpAny_setField gT dT (ua7.mp t3).1 ?_);have oth:∀b,b≠T₀->(s.heap.update T₀ (Obj.mapFields (·.setIfInBounds 3 Value.none))).get? b=s.heap.get? b:=λb z=>uc1 _ _ (Ne.symm z);have rc':XRec qx (s.heap.update T₀ (Obj.mapFields (·.setIfInBounds 3 Value.none))) x C dx (.ref T₀):=⟨ox,vs,(oth x (Ne.symm ne)).trans gx,cx,dxe,dtx,tbx,xc⟩;have J:=I.left o.hx hT o.nx nT (ch:=[T₀]) ⟨λb u hb _ e=>(oth b (by simpa using hb)).trans e,λb u hb e=>⟨u.slots,(oth b (by simpa using hb)).trans e⟩⟩ (λb hb=>.inr (by simpa using hb)) rc'.is oT.2.1 oT.1 oT.2.2;exact JZ (s:={ s with heap:=s.heap.update T₀ (Obj.mapFields (·.setIfInBounds 3 Value.none)) }) (hA.trans (congrArg some hs)) (hs ▸ J.stack) hf rc' λh' a l1 l2 l3 l4 l5=>fin _ ⟨_,rfl⟩ [] h' a J l1 l2 l3 l4 l5
   ·rw [if_pos (show (rawInt X.env.locals == rawInt X.env.locals)=true from by first | (simp;done) | exact uj7 _)];exact up9 (k s.heap T₀ I ⟨o.hx,o.nx,o.rc,o.tb,.inr rfl⟩)
end
def XE (qx:Bool)(X:Cx)(E:St->XK):Value->Shared->Prop:=λe s=>∃pins σ H x C dx T fl,e = .ref x/\Inv X pins σ H s/\XOn qx X pins H s x C dx T fl/\E σ (.ref x) dx H
def ER (CX:CXT)(X:Cx)(E:St->XK):Prop:=∀(pins:List (Addr×Obj)) (σ:St) (H:Hp) (s:Shared) (e:Value) (s':Shared),Inv X pins σ H s->CX X.stack H s (E σ) e s'->X.xe e s'
section
variable {M:Model}{X:Cx}{E:St->XK}
theorem XE.own (hs:X.stack=X.env :: X.outer)(hf:X.env.frame=some X.env.locals):PassesOwn M X.A X.env (XE qx X E):=by
 rintro e s ⟨pins,σ,H,x,C,dx,T,fl,rfl,I,o,q⟩;refine Iq I.ok.frames I hs hf o λh' a I' o'=>?_;obtain ⟨ox,vs,gx,cx,dxe,dtx,tbx,xc⟩:=id o'.rc;unfold cameBackBy;refine up8 (up7 gx dtx tbx ?_);rw [if_neg (show ¬((Value.ref a == Value.none)=true) from by intro z;cases z)]
 rw [hf];exact Hx _ I' o' (.inr rfl) λh'' I'' o''=>⟨pins,σ,H,x,C,dx,some a,_,rfl,I'',o'',q⟩
theorem XE.pass:ER (CX1 qx X.prog X.w) (X.wish (XE qx X E)) E:=by
 intro pins σ H s e s' I q;obtain ⟨x,C,dx,T,H',rfl,J,hx,nx,nT,ne,hT,r,tb,q⟩:=I.unwish.raised q;exact ⟨pins,σ,H',x,C,dx,some T,.none,rfl,J,⟨hx,un6 I.sz nx,r,λa e=>by cases e;exact ⟨ne,hT,un6 I.sz nT,I.unwish.newT nT,tb⟩,.inl rfl⟩,q⟩
end
section
variable {P:Program}{w:World}{K:PySem.W.Frag}{mg:Str->Option Value}{base:Heap}
abbrev cxX (qx:Bool)(P:Program)(w:World)(K:PySem.W.Frag)(mg:Str->Option Value)(base:Heap)(N:List Str)(qual:Str)(scope:Scope)(f:Addr)(cd:Value)(A:Around)(outer:List Env)(s:Shared)(H:Hp)(E:XK):Cx:=
 (D3 (CX1 qx P w) P w K mg base N qual scope f cd A outer s H E).wish (XE qx (D3 (CX1 qx P w) P w K mg base N qual scope f cd A outer s H E) λ_=>E)
theorem XE.leaves {N:List Str}{qual:Str}{scope:Scope}{f:Addr}{cd:Value}{A:Around}{outer:List Env}{s₀:Shared}{H₀:Hp}{E:XK}{e:Value}{s:Shared}
 (h:XE qx (D3 (CX1 qx P w) P w K mg base N qual scope f cd A outer s₀ H₀ E) (λ_=>E) e s):(D3 (CX1 qx P w) P w K mg base N qual scope f cd A outer s₀ H₀ E).xe e s:=by
 obtain ⟨pins,σ,H,x,C,dx,T,fl,rfl,I,o,q⟩:=h;refine up8 (Iq I.ok.frames I rfl rfl o λh' a I' o'=>?_);refine Hx none I' o' (.inl rfl) λh'' I'' o''=>?_;obtain ⟨ne,hT,nT,oT,tb⟩:=o''.tb a rfl;exact ⟨x,C,dx,a,H,rfl,I''.os,I''.bare,I''.base,I''.hok,o''.hx,o''.nx,nT,ne,hT,o''.rc,tb,q⟩
theorem Fun.okX {x qual:Str}{st:Stmt}{f:Addr}{fd:FuncData}{N ps:List Str}{k:Nat}{sp:Sp}(F:Fun K x qual st f fd)(S:FnScope N ps (Az st))(len:∀vs H Q E,sp vs H Q E->vs.length=ps.length)
 (hbody:∀(cdv:Value) (A:Around) (outer:List Env) (s:Shared) (H:Hp) (vs:List V) (Q:VK) (E:XK),Room k (A.deeper (envOfC qual (Az st) s.heap.objs.size f cdv))->sp vs H Q E->
   ∃t,PSs (cxX qx P w K mg base N qual (Az st) f cdv A outer s H E) (Cv st) t/\t { nx:=λ_ H'=>Q .non H',rt:=Q } (Dt N vs) H):FnOk P w K mg base (CX1 qx P w) (k + 1) f fd ps sp:=by
 obtain ⟨oc,od,kV,doc,pm,an,cdv,ct,osl,rfl,lk,hcd⟩:=F.ex;refine Se lk hcd S len λA outer s H vs Q E hr hsp=>?_;obtain ⟨t,h,q⟩:=hbody cdv A outer s H vs Q E hr hsp;exact ⟨t,λpins s1 σ H1 D I hw=>uq0 (h pins s1 σ H1 D (I.wish _) hw) (λ_ _ q=>q.unwish) λ_ _ z=>z.leaves,q⟩
theorem FnOk.calm {k:Nat}{f:Addr}{fd:FuncData}{ps:List Str}{sp sp':Sp}(F:FnOk P w K mg base (CX1 qx P w) k f fd ps sp)(h:∀vs H Q E,sp' vs H Q E->sp vs H Q E0):FnOk P w K mg base CX0 k f fd ps sp':=by
 refine ⟨λvs H Q E q=>F.len vs H Q E0 (h _ _ _ _ q),λA outer s H args us vs Q E hr he hb hv hs=>codeAny_mono (F.run A outer s H args us vs Q E0 hr he hb hv (h _ _ _ _ hs)) λr s' q=>?_⟩
 cases r with
 | error e=>obtain ⟨_,_,_,_,_,_,_,_,_,_,_,_,_,_,_,_,_,z⟩:=q;exact z.elim
 | ok fl=>cases fl <;> exact q
end
section
variable {X:Cx}{CX:CXT}{k:Nat}{f:Addr}{fd:FuncData}{ps:List Str}{sp:Sp}{E:St->XK}{x:Str}{p pos:Pos}{e:Expr}{es:List Expr}{t:TA}
def WZ (sp:Sp)(E:St->XK)(t:TA):TE:=λσ H Q=>t σ H λvs H1=>sp vs H1 Q (E σ)
theorem QY (F:FnOk X.prog X.w X.K X.mg X.base CX k f fd ps sp)(hr:Room k X.A)(hg:Gl X x)(hm:X.mg x=some (.ref f))(hk:PySem.W.keepIn X.K (.ref f)=true)(hb:Binds X.K fd ps [])(hx:ER CX X E)
 (ha:PA X (e :: es) t) (hdb:(x == ("__debug__" : Str))=false:=by decide) (he:starEach (e :: es) X.env=(false,eval e X.env) :: starEach es X.env:=by rfl) (hpl:(backTo pos (starEach es X.env)).any (·.1)=false:=by rfl) :
 PE X (.Call (.Name x p) (e :: es) [] pos) (WZ sp E t):=by
 intro pins s σ H Q I h;refine wpAny_Call_Name_kw (FS I hg hm ?_ hdb);refine uf9 (h₀:=X.base) I.ok.mod.kin hk (thn (ha pos pins s σ H _ I h) λus s1 z9=>?_) he hpl;obtain ⟨vs,H1,I1,r,q⟩:=z9;refine ⟨I1.kIn,?_⟩;have hl:(us++[]).length=ps.length:=by rw [uk2,<-r.length];exact F.len _ _ _ _ q
 refine wpAny_call (codeAny_mono (F.run X.A X.stack s1 H1 ⟨us,[]⟩ us vs Q (E σ) hr I1.env0 (by have:=hb s1 us I1.kIn hl;rwa [uk2] at this) r q) λr s' hq=>?_)
 cases r with
 | error e=>exact hx pins σ H1 s1 e s' I1 hq
 | ok fl=>
   cases fl with
   | ret u=>exact I1.after hq
   | next=>exact False.elim hq
   | brk=>exact False.elim hq
   | cont=>exact False.elim hq
end
end L2
namespace L2
open PySem PySem.Spec PyProof.Rows PySem.W
variable {qx:Bool}
def PM (qx:Bool)(X:Cx)(e:Expr)(C:Addr)(t:St->Hp->(Addr->Option Addr->Hp->Prop)->Prop):Prop:=
 ∀(pins:List (Addr×Obj)) (s:Shared) (σ:St) (H:Hp) (Q:Addr->Option Addr->Hp->Prop),Inv X pins σ H s->t σ H Q->
  wpAny (model X.prog X.w) X.A (eval e X.env) (λv s1=>∃x dx H1,v = .ref x/\Inv X pins σ H1 s1/\H1 x=some (.ext (F2.XIs qx x C dx))/\X.s₀.heap.objs.size<=x/\XRec true s1.heap x C dx .none/\Q x dx H1) X.xe s
def IG (qx:Bool)(X:Cx)(E:St->XK):Prop:=∀(pins:List (Addr×Obj)) (σ:St) (H:Hp) (s:Shared) (x C:Addr) (dx:Option Addr),Inv X pins σ H s->XOn qx X pins H s x C dx none .none->E σ (.ref x) dx H->X.xe (.ref x) s
theorem XE.raises {X:Cx}{E:St->XK}:IG qx (X.wish (XE qx X E)) E:=λpins σ H s x C dx I o q=>⟨pins,σ,H,x,C,dx,none,.none,rfl,I.unwish,⟨o.hx,o.nx,o.rc,o.tb,o.fo⟩,q⟩
theorem Q7 {X:Cx}{e:Expr}{C:Addr}{bm:List Value}{t:St->Hp->(Addr->Option Addr->Hp->Prop)->Prop}{E:St->XK}{pos:Pos}(hc:X.calm=true)(c:XCl X.K C bm)(hx:IG qx X E)(h:PM qx X e C t)
 (ho:evalOpt (some e) X.env=some (eval e X.env):=by rfl):PS X (.Raise (some e) none pos) (λ_ σ H=>t σ H λx dx H1=>E σ (.ref x) dx H1):=by
 intro pins s σ H D I q;rw [arm_exec_Raise,ho];refine up8 (wpAny_standAt ?_);refine Rj (qx:=true) c (I.ok.hd hc) ?_;refine up8 (uq0 (h pins s σ H _ I q) (λv s1 z9=>?_) λ_ _ z=>z);obtain ⟨x,dx,H1,e1,I1,hx1,nx,r,q1⟩:=z9;subst e1;refine up8 (wpAny_standAt (up9 ⟨x,dx,rfl,I1.kIn,r,hx pins σ H1 s1 x C dx I1 ⟨hx1,nx,r.to,(λa e=>by cases e),.inl rfl⟩ q1⟩))
theorem NP {K:PySem.W.Frag}{h:Heap}{N:Addr}{m:Str->Option Value}{n:Str}(X:K.In h)(G:h.Ns N m)(e:nsIn K N n=some none):m n=none:=by
 obtain ⟨o,es,ep,ho,hd,_,hf⟩:=G;unfold nsIn at e
 split at e
 ·next c d es' n' sl q=>
  have z:=X _ _ q;rw [ho] at z
  cases z
  cases hd
  split at e
  ·cases e
  ·next he=>rw [<-hf];unfold nsFind findBy;rw [<-Array.find?_toList,he];rfl
 ·cases e
section
variable {prog:Program}{w:World}{A:Around}{E:Value->Shared->Prop}{h:Heap}{g:Array GenState}{d:Drawn}{t:Nat}{os:OsState}{Q:Value->Shared->Prop}
variable {nm q:Str}{C N:Addr}{bs bm bmB:List Value}{hdct:Bool}{sn:List Str}{sub:List Value}{ab:Bool}{col:Option Bool}{dd:Option Addr}{k0 k1 k2 k3 k5:Option Value}{B newId initId:String}{mN:Str->Option Value}
theorem O6 (F:ExcBaseFacts B newId initId bmB)(T:OwnTail h bmB bm){us:List Value}(hC:h.get? C=some (excClassObj nm q C N bs bm hdct sn sub ab col dd k0 k1 k2 k3 k5 newId))(hn:h.Ns N mN)(hni:mN "__init__" = none)(hus:us.length<=sizeLine)
 (hq:∀h' tp,(∀b o,h.get? b=some o->h'.get? b=some o)->h'.get? (h.objs.size + 1)=some (OI C tp)->Q (.ref (h.objs.size + 1)) ⟨h',g,d,t,os⟩) :
 wpAny (model prog w) A (call (.ref C) us) Q E ⟨h,g,d,t,os⟩:=by
 have c1:=tc_lookup;have c2:=tc_bind (.ref C);have ty:(⟨h,g,d,t,os⟩:Shared).TypeIs (.ref C) "type":=⟨_,hC,rfl⟩;refine wpAny_call (codeAny_of_tree ?_);show wpAny _ _ (callAny (.ref C) _) _ _ _
 repeat (any_goals (first
  | assumption
  | with_reducible refine wpAny_loadPart_at hC ?_
  | wp_step))
 refine ⟨rfl,codeAny_call_builtin_at (Code.quiet_builtin _ (by decide +kernel)) entry_typeCall (wpAny_check_type_call_sub hC ?_)⟩
 repeat (first
  | with_reducible refine wpAny_loadPart_at hC ?_
  | with_reducible refine wpAny_madeBy_exc hC ?_
  | wp_step)
 refine codeAny_call_builtin_code (Code.quiet_builtin _ F.quiet) (wpAny_check_new_subT F T hC (codeAny_exc_new_subT F T hC ?_ hus))
 change wpAny _ _ _ _ _ (Shared.mk (IZ h C us) g d t os)
 have kp:∀b o,h.get? b=some o->(IZ h C us).get? b=some o:=λb o e=>ub9 _ (ub9 _ e);have he:(IZ h C us).get? (h.objs.size + 1)=some { cls:=.ref C,data:=.fields #[.ref h.objs.size,.none,.none,.none,.bool false,.none] }:=by heap_get
 have n1:(IZ h C us).Ns N mN:=hn.keeps kp;have cC:(Value.ref C :: bm).contains (.ref C)=true:=by simp
 unfold isInstance
 repeat (first
  | with_reducible refine wpAny_loadPart_at he ?_
  | (with_reducible refine wpAny_isSubtype_exc (kp _ _ hC) ?_;rw [cC])
  | wp_step)
 show wpAny _ _ (typeLookup (.ref C) _) _ _ _;refine wpAny_typeLookup_tail (kp _ _ hC) n1 (T.keeps kp) F.mroIs F.init.lookup ?_;rw [hni];refine un3 (up8 (wpAny_of_eq (F.init.bind _) (up8 (wpAny_call (codeAny_call_builtin F.init.plain F.initEntry (wpAny_check_init_subT F (T.keeps kp) (kp _ _ hC) he rfl ?_))))))
 wp_walk
 refine hq _ ((IZ h C us).objs.size) (λb o hb=>?_) ?_
 ·rw [uc1 _ _ (un8 (uh2 (un4 hb)))];exact ub9 _ (kp b o hb)
 ·rw [ud0 _ (ub9 _ he) rfl];rfl
end
section
variable {X:Cx}{k:Nat}{f C P:Addr}{fd:FuncData}{a:Str}{ps:List Str}{n:Str}{p pos:Pos}{e:Expr}{es:List Expr}
theorem T5 {t:TA}{bm:List Value}{cd:ClassData}(c:XCl X.K C bm)(hk:keepIn X.K (.ref C)=true)(hcd:clsIn X.K C=some cd)(hni:nsIn X.K cd.ns "__init__" = some none)(hg:Gl X n)(hm:X.mg n=some (.ref C))(ha:PA X (e :: es) t)
 (hdb:(n == ("__debug__" : Str))=false:=by decide) (h1:starEach (e :: es) X.env=(false,eval e X.env) :: starEach es X.env:=by rfl) (hpl:(backTo pos (starEach es X.env)).any (·.1)=false:=by rfl) :
 PM qx X (.Call (.Name n p) (e :: es) [] pos) C (λσ H Q=>t σ H λvs H1=>vs.length<=1000/\∀x,H1 x=none->Q x none (upd H1 x (.ext (F2.XIs qx x C none)))):=by
 intro pins s σ H Q I h;refine wpAny_Call_Name_kw (FS I hg hm ?_ hdb);refine uf9 (h₀:=X.base) I.ok.mod.kin hk (thn (ha pos pins s σ H _ I h) λus s1 z9=>?_) h1 hpl;obtain ⟨vs,H1,I1,r,hl,q⟩:=z9;refine ⟨I1.kIn,?_⟩;obtain ⟨nm,q',N,bs,sn,sub,ab,col,dd,k0,k1,k2,k3,k5,hC,hN⟩:=c.obj I1.kIn;have hni':s1.heap.nsMap N "__init__" = none:=by
  unfold clsIn at hcd
  split at hcd
  ·next l=>
   cases hcd
   have z:=I1.kIn _ _ l;rw [hC] at z
   cases z
   exact NP I1.kIn hN hni
  ·cases hcd
 obtain ⟨hh,g,d,tk,os⟩:=s1;refine O6 PySem.F.excBase_ValueError (c.tail I1.kIn) hC hN hni' (by show us.length<=sizeLine;rw [<-r.length];exact un6 hl (by decide)) λh' tp kp ht=>?_;have xr:XRec true h' (hh.objs.size + 1) C none .none:=⟨_,_,ht,rfl,rfl,rfl,rfl,λ_=>⟨rfl,by show 4 < 6;decide⟩⟩;exact ⟨_,none,_,rfl,I1.laid (h':=h') (t':=tk) kp (up4 _) (OK xr.to.is),AD,un6 I1.sz (up4 _),xr,q _ (I1.hok.fresh (up4 _))⟩
end
end L2
namespace L2
open PySem PySem.Spec PyProof.Rows PySem.W
variable {qx:Bool}
abbrev Cx.mark (X:Cx)(x:Addr):Cx:={ X with A:=X.A.mark (some (.ref x)),calm:=false,xe:=λ_ _=>False }
section
variable {X:Cx}{pins:List (Addr×Obj)}{σ:St}{H:Hp}{s:Shared}{D:Ends}
theorem Inv.mark (I:Inv X pins σ H s)(x:Addr):Inv (X.mark x) pins σ H s:=
 ⟨⟨I.ok.mod,I.ok.kind,I.ok.glob,I.ok.blt,I.ok.above,I.ok.inj,I.ok.has,I.ok.cab,(λz=>by cases z),I.ok.frames,I.ok.stk,I.ok.exf,I.ok.bs,I.ok.bsz,I.ok.noex,I.ok.exfs,I.ok.funs,I.ok.frf⟩,I.os,I.bare,I.base,I.loc,I.cell,I.free,I.freeC,I.pin,I.hok,I.len⟩
theorem Inv.unmark {x:Addr}(J:X.Ok)(I:Inv (X.mark x) pins σ H s):Inv X pins σ H s:=⟨J,I.os,I.bare,I.base,I.loc,I.cell,I.free,I.freeC,I.pin,I.hok,I.len⟩
theorem Inv.repin {pn' pins':List (Addr×Obj)}{xe:Value->Shared->Prop}(I:Inv X pins σ H s)(h:∀p∈pn'++pins',p∈X.pn++pins):Inv { X with pn:=pn',xe:=xe } pins' σ H s:=
 ⟨⟨I.ok.mod,I.ok.kind,I.ok.glob,I.ok.blt,I.ok.above,I.ok.inj,I.ok.has,I.ok.cab,I.ok.hd,I.ok.frames,I.ok.stk,I.ok.exf,I.ok.bs,I.ok.bsz,I.ok.noex,I.ok.exfs,I.ok.funs,I.ok.frf⟩,I.os,I.bare,I.base,I.loc,I.cell,I.free,I.freeC,λp hp=>I.pin p (h p hp),I.hok,I.len⟩
theorem GD {M:Model}{A:Around}{E:Value->Shared->Prop}{i:Nat}{n:Str}{pos:Pos}{Q:Unit->Shared->Prop}(I:Inv X pins σ H s)(hN:X.N.Nodup)(hi:X.N[i]?=some n)(hk:X.env.scope.names.lookup n=some .local)
 (h:∀s',Inv X pins (σ.set i none) H s'->Q () s'):wpAny M A (do bindName X.env n .none;unbindBehindTheSuite X.env n pos) Q E s:=by
 refine up8 (wpAny_bindName (GA (v:=.non) I hN hi (.inl hk) rfl (λs1 I1=>?_) (.inr hk)));unfold unbindBehindTheSuite;have hiσ:i < σ.length:=by rw [I.len];exact (ua8.mp hi).1
 obtain ⟨m,hn,hl⟩:=id I1.loc;have hcls:(X.env.scope.kind == .class || (X.env.scope.kind == .module && X.env.locals != X.env.globals))=false:=by rw [I.ok.kind];rfl
 obtain ⟨u0,_,lk⟩:=hl i n .non hi (by rw [ub8 hiσ]) (.inl hk);have hv:m n=some u0:=by
  rcases lk with ⟨_,e⟩ | ⟨k,_⟩
  ·exact e
  ·have k:X.env.scope.names.lookup n=some .cell\/X.env.scope.names.lookup n=some .free:=k;rw [hk] at k;rcases k with k | k <;> cases k
 refine wpAny_onRaise (wpAny_unbindName_local hk hn hv hcls λh' u hn' hs=>?_);have cne:=I1.cne;have tracked:HOk X.prog X.w H h':=λb ob e=>by
  refine (I1.hok b ob e).stay (λc w' hc q=>(hs.2 c ?_).trans q) (λ_ q=>q) λ_ _ q=>q;rintro rfl;rcases hc with rfl | hc
  ·rw [I1.free] at e;cases e
  ·rw [I1.free] at hc;cases hc
 have far:∀b o,X.s₀.heap.get? b=some o->b≠X.env.locals:=λb o e=>un5 (uf5 (un4 e) I1.ok.above);refine h _ ⟨I1.ok,I1.os,I1.bare,⟨λb o e n hb hx=>?_,λb o e n hb hx=>?_,I1.base.free,λb o e hx=>?_,I1.base.tups,I1.base.frzs,I1.base.tbls⟩,⟨_,hn',λj y v' e1 e2 e3=>?_⟩,λy c e=>?_,I1.free,I1.freeC,λp hp=>?_,tracked,by simpa using I.len⟩
 ·exact (hs.2 b (far b o e)).trans (I1.base.keep b o e n hb hx)
 ·obtain ⟨sl,e1⟩:=I1.base.slot b o e n hb hx;exact ⟨sl,(hs.2 b (far b o e)).trans e1⟩
 ·obtain ⟨o',e1⟩:=I1.base.there b o e hx;exact ⟨o',(hs.2 b (far b o e)).trans e1⟩
 ·by_cases hj:j=i
  ·subst hj;rw [ub8 hiσ] at e2
   cases e2
  ·rw [ud8 (Ne.symm hj)] at e2;obtain ⟨u',r',q⟩:=hl j y v' e1 (by rw [ud8 (Ne.symm hj)];exact e2) e3;refine ⟨u',r',?_⟩;rcases q with ⟨k,e⟩ | ⟨k,c,e,z⟩
   ·refine .inl ⟨k,?_⟩;have:y≠n:=λe=>hj (Io hN e1 (e ▸ hi));simp [this,e]
   ·exact .inr ⟨k,c,e,z.sameBut hs (cne y c e)⟩
 ·obtain ⟨w',z⟩:=I1.cell y c e;exact ⟨w',z.sameBut hs (cne y c e)⟩
 ·obtain ⟨e,n,ne,nf,d⟩:=I1.pin p hp;exact ⟨(hs.2 p.1 ne).trans e,n,ne,nf,d⟩
end
def PH (qx:Bool)(X:Cx)(hs:List ExceptHandler)(th:Addr->Addr->Option Addr->TS):Prop:=∀(pins:List (Addr×Obj)) (s:Shared) (σ:St) (H:Hp) (x C:Addr) (dx:Option Addr) (T:Addr) (D:Ends),Inv X pins σ H s->XOn qx X pins H s x C dx (some T) .none->th x C dx D σ H->
 wpAny (model X.prog X.w) X.A (handleBy (.ref x) X.env hs) (SP X pins D) X.xe s
noncomputable def Ends.unset (D:Ends)(i:Nat):Ends:={ nx:=λσ H=>D.nx (σ.set i none) H,rt:=D.rt,bk:=λσ H=>D.bk (σ.set i none) H,ct:=λσ H=>D.ct (σ.set i none) H }
section
variable {X:Cx}{n v:Str}{C':Addr}{bm':List Value}{p pos:Pos}{b₀:Stmt}{suite:List Stmt}{rest:List ExceptHandler}{ts:Addr->TS}{tr:Addr->Addr->Option Addr->TS}{i:Nat}
def YZ (K:PySem.W.Frag)(C':Addr)(i:Nat)(ts:Addr->TS)(tr:Addr->Addr->Option Addr->TS):Addr->Addr->Option Addr->TS:=λx C dx D σ H=>∃bm,XCl K C bm/\
 if (Value.ref C :: bm).contains (.ref C')=true then ts x (D.unset i) (σ.set i (some (.ref x))) H else tr x C dx D σ H
theorem XF (hg:Gl X n)(hm:X.mg n=some (.ref C'))(c':XCl X.K C' bm')(hN:X.N.Nodup)(hi:X.N[i]?=some v)(hl:X.env.scope.names.lookup v=some .local)(hb:∀x,PSs (X.mark x) (b₀ :: suite) (ts x))(hr:PH qx X rest tr)
 (hdb:(n == ("__debug__" : Str))=false:=by decide):PH qx X (.ExceptHandler (some (.Name n p)) (some v) (b₀ :: suite) pos :: rest) (YZ X.K C' i ts tr):=by
 intro pins s σ H x C dx T D I o ⟨bm,c,q⟩;have Im:=I.mark x;refine wpAny_handleBy_cons (codeAny_handlers_test (FS Im hg hm ?_ hdb)) (by intro z;cases z)
 refine QR c c' I.kIn o.rc ?_
 cases hc:(Value.ref C :: bm).contains (.ref C') with
 | false=>
   rw [hc,if_neg (by decide)] at q;exact hr pins s σ H x C dx T D I o q
 | true=>
   rw [hc,if_pos rfl] at q;refine codeAny_handlers_suite_as ?_;refine Hx none I o (.inl rfl) λh1 I1 o1=>?_;refine GA (v:=.ref x) I1 hN hi (.inl hl) rfl (λs2 I2=>?_) (.inr hl);refine uq0 (hb x pins s2 _ H _ (I2.mark x) q) (λf s3 z=>?_) λ_ _ z=>z.elim;show wpAny _ _ _ _ _ _;have J:=I.ok
   cases f with
   | next=>obtain ⟨σ',H',I',q'⟩:=z;exact GD (I'.unmark J) hN hi hl λs4 I4=>⟨_,H',I4,q'⟩
   | brk=>obtain ⟨σ',H',I',q'⟩:=z;exact GD (I'.unmark J) hN hi hl λs4 I4=>⟨_,H',I4,q'⟩
   | cont=>obtain ⟨σ',H',I',q'⟩:=z;exact GD (I'.unmark J) hN hi hl λs4 I4=>⟨_,H',I4,q'⟩
   | ret u=>obtain ⟨w,σ',H',I',r,q'⟩:=z;exact GD (I'.unmark J) hN hi hl λs4 I4=>⟨w,_,H',I4,r,q'⟩
theorem Ww {body:List Stmt}{h₀:ExceptHandler}{hs:List ExceptHandler}{tb:(St->XK)->TS}{th:Addr->Addr->Option Addr->TS}(h1:X.stack=X.env :: X.outer)(h2:X.env.frame=some X.env.locals)
 (hb:∀(pn:List (Addr×Obj)) (E:St->XK),PSs { X with pn:=pn,xe:=XE qx { X with pn:=pn } E } body (tb E)) (hh:PH qx X (h₀ :: hs) th) :
 PS X (.Try body (h₀ :: hs) [] [] pos) (λD σ H=>tb (λσ' v dx H'=>∀x C,v = .ref x->H' x=some (.ext (F2.XIs qx x C dx))->(∃h,F2.XIs qx x C dx h)->th x C dx D σ' H') D σ H):=by
 intro pins s σ H D I q;refine wpAny_Try_except ?_;refine uq0 (hb (X.pn++pins) _ [] s σ H D (I.repin λp hp=>by simpa using hp) q) (λf s1 z=>?_) λe s1 z=>?_
 ·have back:∀{σ':St} {H':Hp},Inv { X with pn:=X.pn++pins,xe:=XE qx { X with pn:=X.pn++pins } (λσ' v dx H'=>∀x C,v = .ref x->H' x=some (.ext (F2.XIs qx x C dx))->(∃h,F2.XIs qx x C dx h)->th x C dx D σ' H') } [] σ' H' s1->Inv X pins σ' H' s1:=λJ=>J.repin (X:={ X with pn:=X.pn++pins,xe:=_ }) (pn':=X.pn) (pins':=pins) (xe:=X.xe) λp hp=>by simpa using hp
  cases f with
  | next=>obtain ⟨σ',H',J,q'⟩:=z;exact wpAny_execs_nil ⟨σ',H',back J,q'⟩
  | brk=>obtain ⟨σ',H',J,q'⟩:=z;exact ⟨σ',H',back J,q'⟩
  | cont=>obtain ⟨σ',H',J,q'⟩:=z;exact ⟨σ',H',back J,q'⟩
  | ret u=>obtain ⟨w,σ',H',J,r,q'⟩:=z;exact ⟨w,σ',H',back J,r,q'⟩
 ·obtain ⟨pins',σ',H',x,C,dx,T,fl,rfl,J,o,q'⟩:=z;have J1:Inv X pins σ' H' s1:=J.repin (X:={ X with pn:=X.pn++pins }) (pn':=X.pn) (pins':=pins) (xe:=X.xe) λp hp=>by
   simp only [uj9] at hp ⊢;exact .inl hp
  have o1:XOn qx X pins H' s1 x C dx T fl:=⟨o.hx,o.nx,o.rc,λa e=>by
   obtain ⟨z1,z2,z3,⟨y1,y2,y3⟩,z5⟩:=o.tb a e;exact ⟨z1,z2,z3,⟨y1,y2,λp hp=>y3 p (by simp only [uj9] at hp ⊢;exact .inl hp)⟩,z5⟩,o.fo⟩
  refine Iq J1.ok.frames J1 h1 h2 o1 λh' a I' o'=>Hx none I' o' (.inl rfl) λh'' I'' o''=>?_;exact hh pins _ σ' H' x C dx a D I'' o'' (q' x C rfl o.hx ⟨_,o.rc.is⟩)
end
end L2
namespace F2
open PySem L2 PySem.Spec
variable {qx:Bool}
noncomputable def A6:D->Bool
 | .exc _ _=>true
 | _=>false
def exE (E:XK)(v:V)(H:Hp):Prop:=∀x dx,v = .ref x->E (.ref x) dx H
section
variable (K:PySem.W.Frag)
inductive RX (E:L2.St->XK)(f:M D)(σ:L2.St)(H:Hp)(Q:VK):Prop where
 | mk (Oo:Addr->Prop) (c:Cf) (t:T) (fi:FInv K Oo c t σ H) (r:D) (t':T) (e:f t=some (r,t')) (k:∀v H' c',FInv K Oo c' t' σ H'->Stp Oo c H c' H'->Rep K c' H' v r->if A6 r=true then exE (E σ) v H' else Q v H'):RX E f σ H Q
def μX (E:XK):Cf->Hp->D->(V->Hp->Prop)->Prop:=λc H r rt=>∀v,Rep K c H v r->if A6 r=true then exE E v H else rt v H
inductive RSX (E:L2.St->XK)(f:M Out)(D:Ends)(σ:L2.St)(H:Hp):Prop where
 | mk (Oo:Addr->Prop) (c:Cf) (t:T) (fi:FInv K Oo c t σ H) (o:Out) (t':T) (e:f t=some (o,t')) (k:∀σ' H' c',FInv K Oo c' t' σ' H'->Stp Oo c H c' H'->
 match (generalizing:=false) o with
 | .next=>D.nx σ' H'
 | .brk=>D.bk σ' H'
 | .cont=>D.ct σ' H'
 | .ret r=>∀v,Rep K c' H' v r->if A6 r=true then exE (E σ') v H' else D.rt v H'):RSX E f D σ H
inductive spX (f:Fn)(vs:List V)(H:Hp)(Q:VK)(E:XK):Prop where
 | mk (c:Cf) (ds:List D) (S:List Ob) (si:SInv K c S H) (rs:Reps K c H vs ds) (r:D) (S':List Ob) (e:f ds S=some (r,S')) (k:∀v H' c',SInv K c' S' H'->Stp c.O c H c' H'->(∀b,c'.O b↔c.O b)->Rep K c' H' v r->if A6 r=true then exE E v H' else Q v H'):spX f vs H Q E
end
def Ei (g:Fn):Fn:=λds S=>match g ds S with
 | some (r,S')=>if A6 r=true then none else some (r,S')
 | none=>none
variable {g:Fn}{r:D}
theorem Pf {ds:List D}{S S':List Ob}(h:Ei g ds S=some (r,S')):g ds S=some (r,S')/\A6 r=false:=by
 unfold Ei at h
 split at h
 ·next r' S1 e=>
  by_cases hx:A6 r'=true
  ·rw [if_pos hx] at h;cases h
  ·rw [if_neg hx] at h;cases h;exact ⟨e,by simpa using hx⟩
 ·cases h
variable {k:Nat}{fa:Addr}{fd:FuncData}
section
variable {P:Program}{w:World}{K:PySem.W.Frag}{mg:Str->Option Value}{base:Heap}
theorem Xh {ps:List Str}(F:FnOk P w K mg base (CX1 qx P w) k fa fd ps (spX K g)):FnOk P w K mg base CX0 k fa fd ps (spF K (Ei g)):=
 F.calm λvs H Q E z9=>by
  obtain ⟨c,ds,S,si,rs,r,S',e,kk⟩:=z9;obtain ⟨e1,e2⟩:=Pf e;exact ⟨c,ds,S,si,rs,r,S',e1,λv H' c' a1 a2 a3 a4=>by rw [if_neg (by rw [e2];decide)];exact kk v H' c' a1 a2 a3 a4⟩
theorem Te {x qual:Str}{st:Stmt}{N ps:List Str}{n m:Nat}{g:M Out}(e1:ps.length=n)(e2:N.length=m)(F:Fun K x qual st fa fd)(S:FnScope N ps (Az st))
 (hb:∀(cdv:Value) (A:Around) (outer:List Env) (s:Shared) (H:Hp) (E:XK),Room k (A.deeper (PyProof.Rows.envOfC qual (Az st) s.heap.objs.size fa cdv))->
   ER (CX1 qx P w) (cxX qx P w K mg base N qual (Az st) fa cdv A outer s H E) (λ_=>E)->IG qx (cxX qx P w K mg base N qual (Az st) fa cdv A outer s H E) (λ_=>E)->
   PassesOwn (model P w) (cxX qx P w K mg base N qual (Az st) fa cdv A outer s H E).A (cxX qx P w K mg base N qual (Az st) fa cdv A outer s H E).env (cxX qx P w K mg base N qual (Az st) fa cdv A outer s H E).xe->
   PSs (cxX qx P w K mg base N qual (Az st) fa cdv A outer s H E) (Cv st) (RSg K (μX K E) g)):FnOk P w K mg base (CX1 qx P w) (k + 1) fa fd ps (spX K (fnOf n m g)):=by
 subst e1 e2;have hlen:∀{ds:List D} {S:List Ob} {z:D×List Ob},fnOf ps.length N.length g ds S=some z->ds.length=ps.length:=λ{ds S z} h=>by
  unfold fnOf at h
  split at h
  ·next h1=>exact h1
  ·cases h
 refine F.okX S (λvs H Q E h=>?_) (λcdv A outer s H vs Q E hr h=>?_)
 ·obtain ⟨c,ds,S,si,rs,r,S',e,_⟩:=h;rw [rs.length];exact hlen e
 obtain ⟨c,ds,S0,si,rs,r,S',e,kk⟩:=h;refine ⟨RSg K (μX K E) g,hb cdv A outer s H E hr XE.pass XE.raises (XE.own rfl rfl),?_⟩;have hl:=hlen e;unfold fnOf at e;rw [if_pos hl] at e
 cases eg:g ⟨env0 N.length ds,S0⟩ with
 | none=>rw [eg] at e;cases e
 | some p=>
   obtain ⟨o,t⟩:=p;rw [eg] at e;refine ⟨c.O,c,_,Gg si rs,o,t,eg,λσ' H' c' f' s'=>?_⟩;obtain ⟨si',ext'⟩:=f'.leave;have st':Stp c.O c H ⟨c'.ι,c.O⟩ H':=⟨s'.ext.trans ext',s'.oo⟩
   cases o with
   | next=>cases e;exact kk .non H' _ si' st' (λ_=>Iff.rfl) .non
   | ret d=>cases e;exact λv rv=>kk v H' _ si' st' (λ_=>Iff.rfl) (rv.mono ext')
   | brk=>cases e
   | cont=>cases e
theorem Uh {ps:List Str}{f:Fn}(e:f=g)(h:FnOk P w K mg base (CX1 qx P w) k fa fd ps (spX K g)):FnOk P w K mg base (CX1 qx P w) k fa fd ps (spX K f):=by rw [e];exact h
end
section
variable {X:Cx}{e a b:Expr}{es:List Expr}{pos:Pos}{E:L2.St->XK}{st:Stmt}
theorem XL {E:XK}{f:M Out}(h:PS X st (RSX X.K (λ_=>E) f)):PS X st (RSg X.K (μX X.K E) f):=A3 h λD σ H z9=>by
 obtain ⟨Oo,c,t,fi,o,t',eq,k⟩:=z9;refine ⟨Oo,c,t,fi,o,t',eq,λσ' H' c' f' s'=>?_⟩;have q:=k σ' H' c' f' s'
 cases o <;> exact q
theorem Tl {ps:List Str}{f:M (List D)}{x:Str}{p:Pos}(F:FnOk X.prog X.w X.K X.mg X.base (CX1 qx X.prog X.w) k fa fd ps (spX X.K g))(hr:Room k X.A)(hg:Gl X x)(hm:X.mg x=some (.ref fa))(hk:PySem.W.keepIn X.K (.ref fa)=true)(hb:Binds X.K fd ps [])
 (hx:ER (CX1 qx X.prog X.w) X E) (ha:PA X (e :: es) (RA X.K f)) (hdb:(x == ("__debug__" : Str))=false:=by decide) (h1:AM e=false:=by rfl) (h2:AX es=true:=by rfl) :
 PE X (.Call (.Name x p) (e :: es) [] pos) (RX X.K E (Ae g f)):=
 AH (QY F hr hg hm hk hb hx ha hdb (AA h1) (AK h2).1) λσ H Q z9=>by
  obtain ⟨Oo,c,t,fi,r,t',eq,kk⟩:=z9;obtain ⟨ds,t1,e1,eq⟩:=Ah eq;obtain ⟨S',e2,rfl⟩:=JW eq;refine ⟨Oo,c,t,fi,ds,t1,e1,λvs H1 c1 f1 s1 rvs=>?_⟩;refine ⟨c1,ds,t1.S,f1.s,rvs,r,S',e2,λv H' c' si st ho rv=>?_⟩;obtain ⟨f2,s2⟩:=f1.after si st ho;exact kk v H' c' f2 (s1.trans s2) rv
def nxD (f:M D):M D:=bnd f λd=>if A6 d=true then fail else ret d
theorem QT {f:M D}{t t':T}(h:nxD f t=some (r,t')):f t=some (r,t')/\A6 r=false:=by
 obtain ⟨d,t1,e1,h⟩:=Ah h
 by_cases hx:A6 d=true
 ·rw [if_pos hx] at h;cases h
 ·rw [if_neg hx] at h;cases h;exact ⟨e1,by simpa using hx⟩
theorem VT {A B:Prop}(h:A6 r=false)(q:if A6 r=true then A else B):B:=by rw [if_neg (by rw [h];decide)] at q;exact q
def Qi (g:M D)(h:D->M D):M D:=bnd g λy=>if A6 y=true then ret y else nxD (h y)
def Z8 (f g:M D)(h:D->D->M D):M D:=bnd f λx=>Qi g λy=>h x y
def Z9 (f g:M D)(h:D->D->M D):M D:=Qi f λx=>bnd g λy=>h x y
def Z1 (g:Fn)(f:M D):M D:=Qi f λd t=>match g [d] t.S with
 | some (r,S')=>some (r,{ t with S:=S' })
 | none=>none
def ak (i:Nat)(f:M D):M Out:=bnd f λd=>if A6 d=true then ret (.ret d) else bnd (Ao i d) λ_=>ret .next
def KA (f:M D):M Out:=bnd f λd=>if A6 d=true then ret (.ret d) else ret .next
theorem Qy {f:M D}(h:PE X e (RX X.K E f))(hs:swapsWith e none pos.line X.env=pure false:=by rfl):PS X (.Expr e pos) (RSX X.K E (KA f)):=
 A3 (FV h hs) λD σ H z9=>by
  obtain ⟨Oo,c,t,fi,o,t',eq,k⟩:=z9;obtain ⟨d,t1,e1,eq⟩:=Ah eq;refine ⟨Oo,c,t,fi,d,t1,e1,λv H1 c1 f1 s1 rv=>?_⟩
  by_cases hx:A6 d=true
  ·rw [if_pos hx] at eq ⊢
   cases eq
   have:=k σ H1 c1 f1 s1 v rv;rw [if_pos hx] at this;exact this
  ·rw [if_neg hx] at eq ⊢
   cases eq
   exact k σ H1 c1 f1 s1
def ah (f:M D)(g:D->M Unit):M Out:=bnd f λd=>if A6 d=true then ret (.ret d) else bnd (g d) λ_=>ret .next
theorem QC {f:M Out}(h:PS X st (RSX X.K E f)):PSs X [st] (RSX X.K E f):=MZ h
end
end F2
namespace L2
open PySem PySem.Spec PyProof.Rows PySem.W PySem.Builtin PySem.Builtin.ObjectAttr
structure XGet (K:PySem.W.Frag)(C:Addr):Prop where
 ga:findIn K (.ref C) "__getattribute__" = some (some (.builtin "BaseException.__getattribute__"))
 gt:findIn K (.ref C) "__getattr__" = some none
 mb:mroIn K C (.type "BaseException")=some true
 mo:mroIn K C (.type "object")=some true
 hd:hasDictIn K C=true
section
variable {prog:Program}{w:World}{A:Around}{E:Value->Shared->Prop}{s:Shared}{K:PySem.W.Frag}{x C:Addr}{ox:Obj}{od:Option Obj}{name:Str}{tk:Tok}{Q:Value->Shared->Prop}{R:Result->Shared->Prop}
theorem OJ {fill expr:Bool}(X:K.In s.heap)(I:InstAt s.heap x ox C od)(g:XGet K C)
 (h:codeAny (model prog w) A (.call (.builtin "BaseException.__getattribute__") ⟨[.ref x,.str name tk],[]⟩) (λr s'=>match r with | .ok (.ret v)=>wpAny (model prog w) A (handedOut v) Q E s' | _=>False) s) :
 wpAny (model prog w) A (getAttrBy (.ref x) (.str name tk) fill expr) Q E s:=by
 have L0:=I.type (M:=model prog w);have L1:=looks_findIn (M:=model prog w) X g.ga;have L2:=looks_findIn (M:=model prog w) X g.gt;have ne:(onTheHeap (Value.ref C) && Value.builtin "BaseException.__getattribute__" == Value.builtin "object.__getattribute__")=false:=by
  rw [show (Value.builtin "BaseException.__getattribute__" == Value.builtin "object.__getattribute__")=false from by decide +kernel];rfl
 unfold getAttrBy;refine un3 (up8 (L0.here (up8 (L1.here ?_))));show wpAny _ _ (if (onTheHeap (Value.ref C) && Value.builtin "BaseException.__getattribute__" == Value.builtin "object.__getattribute__")=true then _ else _) _ _ _;rw [if_neg (by rw [ne];decide)];unfold getAttrByItsOwn hookBefore;rw [if_pos (show onTheHeap (Value.ref C)=true from rfl)];refine up8 (L2.here (up8 (wpAny_attempt (un3 ?_))));unfold callGetattribute;rw [if_neg (show ¬((expr && onTheHeap (Value.builtin "BaseException.__getattribute__"))=true) from by cases expr <;> decide)];unfold boundAndCalled;refine up8 (wpAny_of_eq (PySem.F.excAttr_ValueError.ga.bind _) (wpAny_call (codeAny_mono h λr s' z=>?_)))
 cases r with
 | error e=>exact z.elim
 | ok f=>cases f <;> first | exact z | exact z.elim
theorem QE (X:K.In s.heap)(I:InstAt s.heap x ox C od)(g:XGet K C)
 (h:wpAny (model prog w) A.in1 («object.__getattribute__» ⟨[.ref x,.str name tk],[]⟩) (λfin s'=>match fin with | .done f=>R (.ok f) s' | .again c'=>c'.quiet=true/\codeAny (model prog w) A c' R s') (λe s'=>R (.error e) s') s) :
 codeAny (model prog w) A (.call (.builtin "BaseException.__getattribute__") ⟨[.ref x,.str name tk],[]⟩) R s:=by
 have ob:Looks (model prog w) s.heap (isInstance (.ref x) (.type "BaseException")) true:=I.type.andThen (looks_mroIn X g.mb);refine codeAny_call_builtin PySem.F.excAttr_ValueError.ga.plain PySem.F.entry_bexc_ga (@check_slot (model prog w) _ _ s "BaseException.__getattribute__" "BaseException" "__getattribute__" (.ref x) [.str name tk] [] _ (by decide +kernel) (by decide +kernel) ob (PySem.F.args_bexc_ga (.ref x) (.str name tk)) h)
theorem Tm {gg a:Value}(X:K.In s.heap)(I:InstAt s.heap x ox C od)(g:XGet K C)(hf:findObj K C od name=some (.bind gg a))(h:codeAny (model prog w) A.in1 (.call gg ⟨[a,.ref x,.ref C],[]⟩) (λr s'=>match r with | .ok (.ret v)=>R (.ok (.ret v)) s' | .ok _=>False | .error e=>R (.error e) s') s) :
 codeAny (model prog w) A (.call (.builtin "BaseException.__getattribute__") ⟨[.ref x,.str name tk],[]⟩) R s:=by
 refine QE X I g ?_;have L0:=I.type (M:=model prog w);have L1:=looks_find (M:=model prog w) X I hf;refine up8 (up9 (up8 (up9 (up8 (L0.here (up8 (L1.here ?_)))))));show wpAny _ _ (bindTo gg a (.ref x) (.ref C)) _ _ _;unfold bindTo;refine up8 (un3 (wpAny_call (codeAny_mono h λr s' z=>?_)))
 cases r with
 | error e=>exact z
 | ok f=>cases f <;> first | exact up9 z | exact z.elim
end
end L2
namespace L2
open PySem PySem.Spec PyProof.Rows PySem.W
theorem SQ (K:PySem.W.Frag):specialIn K (.builtin "object.__class__") "__get__" = some (some (.builtin "getset_descriptor.__get__")):=by kernel_rfl
theorem OE (K:PySem.W.Frag):takesIn K (.builtin "object.__class__")=some true:=by kernel_rfl
theorem Lo {K:PySem.W.Frag}{C:Addr}{od:Option Obj}(hc:(clsIn K C).isSome=true)(ha:findIn K (.ref C) "__class__" = some (some (.builtin "object.__class__"))):findObj K C od "__class__" = some (.bind (.builtin "getset_descriptor.__get__") (.builtin "object.__class__")):=by
 obtain ⟨cd,hc⟩:=Option.isSome_iff_exists.mp hc;unfold findObj;rw [hc,uj1,ha,uj1];simp [SQ,OE]
def Sa (x C:Addr)(h:Heap):Prop:=∃ox od,InstAt h x ox C od
theorem LA {K:PySem.W.Frag}{x C:Addr}(g:XGet K C)(ha:findIn K (.ref C) "__class__" = some (some (.builtin "object.__class__"))):KitX K (.ref x) (.ref C) (Sa x C) where
 ty:=λ_ _ _ ⟨_,_,I⟩=>I.type
 it:=λ_ _ X _=>by
  obtain ⟨cd,hc,_⟩:=any_some g.hd;unfold clsIn at hc
  split at hc
  ·next ho=>
   intro A' Q' E' s' k q;unfold isType loadHead;exact up8 (wpAny_loadPart (k _ _ (X _ _ ho)) (up9 q))
  ·cases hc
 ne:=λh tp dd its n sl X htp=>by
  obtain ⟨cd,hc,_⟩:=any_some g.hd;refine uh1.mpr λq=>?_;have e:C=tp:=Value.ref.inj (beq_iff_eq.mp q);subst e;unfold clsIn at hc
  split at hc
  ·next ho=>
   have z:=(X _ _ ho).symm.trans htp
   cases z
  ·cases hc
 ca:=λ{prog w A E Q s} X z9 k=>by
  obtain ⟨ox,od,I⟩:=z9;obtain ⟨cd,hc,_⟩:=any_some g.hd;unfold getAttr? getAttrBy?;refine up8 (wpAny_mkText (up8 (wpAny_attempt ?_)));refine OJ (s:={ s with toks:=s.toks + 1 }) X I g (Tm X I g (Lo (by rw [hc];rfl) ha) (class_get (s:={ s with toks:=s.toks + 1 }) X I g.mo ?_));exact handed_on rfl (up9 k)
end L2
namespace F2
open PySem L2 PySem.Spec PySem.W
variable {qx:Bool}
abbrev AU:List Str:=["NoValue", "Short", "Broken", "NoTalk", "NoName", "NoText", "NoRow"]
structure XM (K:PySem.W.Frag)(mg:Str->Option Value)(P:Addr)(ca:Str->Addr):Prop where
 pm:mg "ParleyError" = some (.ref P)
 pc:XCl K P VE
 ns:∀n∈AU,nsIn K mainGlobals n=some (some (.ref (ca n)))
 ms:∀n∈AU,mg n=some (.ref (ca n))
 cl:∀n∈AU,XCl K (ca n) (.ref P :: VE)
 inj:∀n∈AU,∀m∈AU,ca n=ca m->n=m
 np:∀n∈AU,ca n≠P
 kp:∀n∈AU,keepIn K (.ref (ca n))=true
 gt:∀n∈AU,XGet K (ca n)
 gc:∀n∈AU,findIn K (.ref (ca n)) "__class__" = some (some (.builtin "object.__class__"))
 na:∀n∈AU,findIn K (.ref (ca n)) "at" = some none
 nd:∀n∈AU,findIn K (.ref (ca n)) "side" = some none
noncomputable def DB (n m:Str):Bool:=m == "ParleyError" || m == "ValueError" || n == m
theorem DL {a b:Addr}{r:List Value}:(Value.ref a :: r).contains (.ref b)=(a == b || r.contains (.ref b)):=by
 rw [ug3]
 congr 1
 by_cases h:a=b
 ·subst h;simp
 ·rw [beq_eq_false_iff_ne.mpr h,beq_eq_false_iff_ne.mpr (λz:Value.ref b=Value.ref a=>h (Value.ref.inj z).symm)]
theorem U7 {b:Addr}:VE.contains (.ref b)=false:=rfl
section
variable {K:PySem.W.Frag}{mg:Str->Option Value}{P:Addr}{ca:Str->Addr}
theorem XM.subP (x:XM K mg P ca){n:Str}(hn:n∈AU):(Value.ref (ca n) :: .ref P :: VE).contains (.ref P)=DB n "ParleyError":=by
 rw [DL,DL,uj7,Bool.true_or,uo3];rfl
theorem XM.subE (x:XM K mg P ca){n m:Str}(hn:n∈AU)(hm:m∈AU):(Value.ref (ca n) :: .ref P :: VE).contains (.ref (ca m))=DB n m:=by
 rw [DL,DL,U7,beq_eq_false_iff_ne.mpr (Ne.symm (x.np m hm)),Bool.or_false,Bool.or_false];have h1:(m == ("ParleyError" : Str))=false/\(m == ("ValueError" : Str))=false:=by
  simp only [AU,um5,ui8,or_false] at hm;rcases hm with rfl | rfl | rfl | rfl | rfl | rfl | rfl <;> exact ⟨by decide,by decide⟩
 unfold DB;rw [h1.1,h1.2,Bool.false_or,Bool.false_or]
 by_cases h:n=m
 ·subst h;rw [uj7,uj7]
 ·rw [beq_eq_false_iff_ne.mpr h,beq_eq_false_iff_ne.mpr λz=>h (x.inj n hn m hm z)]
theorem XM.of (x:XM K mg P ca){n:Str}{C:Addr}(hn:n∈AU)(h:nsIn K mainGlobals n=some (some (.ref C))):C=ca n:=by
 rw [x.ns n hn] at h;injection h with h;injection h with h;injection h with h
 exact h.symm
end
theorem UV {q1 q2:Bool}{x C C':Addr}{dx dx':Option Addr}(h:XIs q1 x C dx=XIs q2 x C' dx')(e:∃h,XIs q1 x C dx h):C=C'/\dx=dx':=by
 obtain ⟨hh,o,vs,e1,e2,e3,e4⟩:=e;have q:XIs q2 x C' dx' hh:=by rw [<-h];exact ⟨o,vs,e1,e2,e3,e4⟩
 obtain ⟨o',vs',q1,q2,q3,q4⟩:=q;rw [e1] at q1;cases q1
 rw [e2] at q2;cases q2
 exact ⟨rfl,e3.symm.trans q3⟩
section
variable {X:Cx}{e:Expr}{es:List Expr}{pos p pos2:Pos}{E:L2.St->XK}{P:Addr}{ca:Str->Addr}
def Z3 (n:Str)(f:M (List D)):M Out:=bnd f λds=>match ds with
 | [d]=>ret (.ret (.exc n [d]))
 | _=>fail
def XN0 (K:PySem.W.Frag)(C:Addr):Prop:=∃cd,clsIn K C=some cd/\nsIn K cd.ns "__init__" = some none
def Ha (n:Str)(f:M (List D)):M Out:=bnd f λds=>if ds.length<=1000 then ret (.ret (.exc n [])) else fail
theorem OT {n:Str}{f:M (List D)}(x:XM X.K X.mg P ca)(hn:n∈AU)(hf:Qx n=[])(xn:XN0 X.K (ca n))(hc:X.calm=true)(hx:IG qx X E)(hg:Gl X n)(ha:PA X (e :: es) (RA X.K f))
 (hdb:(n == ("__debug__" : Str))=false:=by decide) (h1:AM e=false:=by rfl) (h2:AX es=true:=by rfl):PS X (.Raise (some (.Call (.Name n p) (e :: es) [] pos)) none pos2) (RSX X.K E (Ha n f)):=by
 obtain ⟨cd,hcd,hni⟩:=xn;refine A3 (Q7 hc (x.cl n hn) hx (T5 (x.cl n hn) (x.kp n hn) hcd hni hg (x.ms _ hn) ha hdb (AA h1) (AK h2).1)) λD σ H z9=>?_;obtain ⟨Oo,c,t,fi,o,t',eq,k⟩:=z9;obtain ⟨ds,t1,e1,eq⟩:=Ah eq;refine ⟨Oo,c,t,fi,ds,t1,e1,λvs H1 c1 f1 s1 rvs=>?_⟩
 split at eq
 ·next hl=>
  cases eq
  refine ⟨by rw [rvs.length];exact hl,λy hy=>?_⟩;have f3:=f1.laid (o:=.ext (XIs qx y (ca n) none)) hy;exact k σ _ c1 f3 (s1.trans (f1.stp_laid hy)) (.ref y) (.exc (x.ns _ hn) AD (f1.s.free hy) (vs:=[]) rfl .nil) y none rfl
 ·cases eq
end
section
variable {X:Cx}{pos p:Pos}{P:Addr}{ca:Str->Addr}{μ:Cf->Hp->D->(V->Hp->Prop)->Prop}
inductive RH (K:PySem.W.Frag)(ca:Str->Addr)(μ:Cf->Hp->D->(V->Hp->Prop)->Prop)(h:D->M Out)(x C:Addr)(dx:Option Addr)(E:Ends)(σ:L2.St)(H:Hp):Prop where
 | mk (Oo:Addr->Prop) (c:Cf) (t:T) (n:Str) (ds:List D) (fi:FInv K Oo c t σ H) (hn:n∈AU) (hC:C=ca n) (rp:Rep K c H (.ref x) (.exc n ds)) (o:Out) (t':T) (e:h (.exc n ds) t=some (o,t')) (k:∀σ' H' c',FInv K Oo c' t' σ' H'->Stp Oo c H c' H'->
   match (generalizing:=false) o with
   | .next=>E.nx σ' H'
   | .brk=>E.bk σ' H'
   | .cont=>E.ct σ' H'
   | .ret r=>μ c' H' r E.rt):RH K ca μ h x C dx E σ H
noncomputable def unE (i:Nat)(t:T):T:={ t with env:=t.env.set i none }
theorem FInv.unset {K:PySem.W.Frag}{Oo:Addr->Prop}{c:Cf}{t:T}{σ:L2.St}{H:Hp}(f:FInv K Oo c t σ H)(i:Nat):FInv K Oo c (unE i t) (σ.set i none) H:=by
 have neq:∀{j:Nat} {x:Sl},(t.env.set i none)[j]?=some (some x)->j≠i/\t.env[j]?=some (some x):=λ{j x} q=>by
  by_cases h:j=i
  ·subst h;rw [uh3] at q
   split at q
   ·split at q
    ·injection q with q;cases q
    ·cases q
   ·next h1=>exact absurd rfl h1
  ·rw [ud8 (Ne.symm h)] at q;exact ⟨h,q⟩
 refine ⟨f.s,by simp [unE,f.len],f.sub,λj e q=>?_,λj ds q=>?_,λj k ds es a q1 q2 q3 q4=>?_⟩
 ·obtain ⟨h,q⟩:=neq q;obtain ⟨u,h1,h2⟩:=f.val j e q;exact ⟨u,by rw [ud8 (Ne.symm h)];exact h1,h2⟩
 ·obtain ⟨h,q⟩:=neq q;obtain ⟨a,vs,h1,h2⟩:=f.own j ds q;exact ⟨a,vs,by rw [ud8 (Ne.symm h)];exact h1,h2⟩
 ·obtain ⟨h,q1⟩:=neq q1;obtain ⟨h',q2⟩:=neq q2;rw [ud8 (Ne.symm h)] at q3;rw [ud8 (Ne.symm h')] at q4;exact f.inj j k ds es a q1 q2 q3 q4
def hAs (n':Str)(i:Nat)(s:M Out)(r:D->M Out):D->M Out:=λe t=>match e with
 | .exc n ds=>if DB n n'=true then (match s { t with env:=t.env.set i (some (.val (.exc n ds))) } with
   | some (o,t2)=>some (o,unE i t2)
   | none=>none) else r (.exc n ds) t
 | _=>none
def hNo (n':Str)(s:M Out)(r:D->M Out):D->M Out:=λe t=>match e with
 | .exc n ds=>if DB n n'=true then s t else r (.exc n ds) t
 | _=>none
noncomputable def VR:D->M Out:=λ_ _=>none
theorem VB:PH qx X [] (RH X.K ca μ VR):=by
 rintro _ _ _ _ _ _ _ _ _ _ _ ⟨_,_,_,_,_,_,_,_,_,_,_,e,_⟩
 cases e
theorem Xp {n' v:Str}{C':Addr}{bm':List Value}{i:Nat}{b₀:Stmt}{suite:List Stmt}{rest:List ExceptHandler}{s:M Out}{r:D->M Out}(x:XM X.K X.mg P ca)(hg:Gl X n')(hm:X.mg n'=some (.ref C'))(c':XCl X.K C' bm')(hs:∀n∈AU,(Value.ref (ca n) :: .ref P :: VE).contains (.ref C')=DB n n')
 (hN:X.N.Nodup) (hi:X.N[i]?=some v) (hl:X.env.scope.names.lookup v=some .local) (hb:∀x,PSs (X.mark x) (b₀ :: suite) (RSg X.K μ s)) (hr:PH qx X rest (RH X.K ca μ r)) (hdb:(n' == ("__debug__" : Str))=false:=by decide) :
 PH qx X (.ExceptHandler (some (.Name n' p)) (some v) (b₀ :: suite) pos :: rest) (RH X.K ca μ (hAs n' i s r)):=by
 intro pins s0 σ H y C dx T D I o q;refine XF hg hm c' hN hi hl hb hr hdb pins s0 σ H y C dx T D I o ?_;obtain ⟨Oo,c,t,n,ds,fi,hn,rfl,rv,o1,t',eq,k⟩:=q;refine ⟨_,x.cl n hn,?_⟩;rw [hs n hn];unfold hAs at eq;dsimp only at eq
 by_cases hb':DB n n'=true
 ·rw [if_pos hb'] at eq ⊢
  cases e1:s { t with env:=t.env.set i (some (.val (.exc n ds))) } with
  | none=>rw [e1] at eq;cases eq
  | some z=>
    obtain ⟨o2,t2⟩:=z;rw [e1] at eq
    cases eq
    refine ⟨Oo,c,_,fi.set rv,o1,t2,e1,λσ' H' c2 f2 s2=>?_⟩;have:=k _ H' c2 (f2.unset i) s2
    cases o1 <;> exact this
 ·rw [if_neg hb'] at eq ⊢;exact ⟨Oo,c,t,n,ds,fi,hn,rfl,rv,o1,t',eq,k⟩
noncomputable def Fg (b:M Out)(h:D->M Out):M Out:=λt=>match b t with
 | some (.ret (.exc n ds),t1)=>if n∈AU then h (.exc n ds) t1 else none
 | z=>z
theorem VM {body:List Stmt}{h₀:ExceptHandler}{hs:List ExceptHandler}{b:M Out}{h:D->M Out}(x:XM X.K X.mg P ca)(hμ:∀c H r rt,A6 r=false->(∀v,Rep X.K c H v r->rt v H)=μ c H r rt)(h1:X.stack=X.env :: X.outer)(h2:X.env.frame=some X.env.locals)
 (hb:∀(pn:List (Addr×Obj)) (E:L2.St->XK),ER (CX1 qx X.prog X.w) { X with pn:=pn,xe:=XE qx { X with pn:=pn } E } E->PSs { X with pn:=pn,xe:=XE qx { X with pn:=pn } E } body (RSX X.K E b)) (hh:PH qx X (h₀ :: hs) (RH X.K ca μ h)):PS X (.Try body (h₀ :: hs) [] [] pos) (RSg X.K μ (Fg b h)):=
 A3 (Ww h1 h2 (λpn E=>hb pn E (XE.pass (X:={ X with pn:=pn }))) hh) λD σ H z9=>by
  obtain ⟨Oo,c,t,fi,o,t',eq,k⟩:=z9;unfold Fg at eq
  cases e1:b t with
  | none=>rw [e1] at eq;cases eq
  | some z=>
    obtain ⟨o1,t1⟩:=z;rw [e1] at eq;refine ⟨Oo,c,t,fi,o1,t1,e1,λσ1 H1 c1 f1 s1=>?_⟩
    cases o1 with
    | next=>cases eq;exact k σ1 H1 c1 f1 s1
    | brk=>cases eq;exact k σ1 H1 c1 f1 s1
    | cont=>cases eq;exact k σ1 H1 c1 f1 s1
    | ret r=>
      intro v rv
      cases hx:A6 r with
      | false=>
        rw [if_neg (by decide)];have eq':some (Out.ret r,t1)=some (o,t'):=by cases r <;> first | exact eq | cases hx
        cases eq'
        have q:=k σ1 H1 c1 f1 s1;have q:μ c1 H1 r D.rt:=q;rw [<-hμ _ _ _ _ hx] at q;exact q v rv
      | true=>
        rw [if_pos rfl];intro y dx hv y' C hy' hC hex
        cases rv with
        | @exc q0 x0 C0 dx0 n vs ds g hx0 hA fl rs=>
          cases hv
          cases hy'
          dsimp only at eq
          split at eq
          ·next hn=>
           rw [hx0] at hC;injection hC with hC;injection hC with hC
           obtain ⟨e2,e3⟩:=UV hC.symm hex;have:=x.of hn g;exact ⟨Oo,c1,t1,n,ds,f1,hn,e2.trans this,.exc g hx0 hA fl rs,o,t',eq,λσ' H' c' f' s'=>k σ' H' c' f' (s1.trans s')⟩
          ·cases eq
        | _=>cases hx
end
end F2
namespace F2
open PySem L2 PySem.Spec PySem.W
variable {qx:Bool}
def Fy (n:Str):D->M D
 | .exc m _=>if m∈AU then ret (.bl (DB m n)) else fail
 | .non=>ret (.bl false)
 | .bl _=>ret (.bl false)
 | .int _=>ret (.bl false)
 | .str _=>ret (.bl false)
 | .lst _=>ret (.bl false)
 | .tup _=>ret (.bl false)
 | .dic=>ret (.bl false)
 | _=>fail
def NW (K:PySem.W.Frag)(c:Value):List V->Hp->VK->Prop:=λxs H Q=>∃x y t b,xs=[x,y]/\(∀u,RelV y u->u=c)/\
 (TyOf K H x t\/∃q0 a C dx,x = .ref a/\t = .ref C/\H a=some (.ext (XIs q0 a C dx))/\(∀d,dx=some d->∃fs,H d=some (.xd fs))/\XGet K C/\findIn K (.ref C) "__class__" = some (some (.builtin "object.__class__")))/\kitOne K t c=some b/\Q (.bl b) H
variable {C:Addr}
theorem SG {X:Cx}{pins:List (Addr×Obj)}{σ:L2.St}{H:Hp}{s:Shared}{a:Addr}{dx:Option Addr}(I:Inv X pins σ H s)(h:H a=some (.ext (XIs qx a C dx)))(hd:∀d,dx=some d->∃fs,H d=some (.xd fs)):Sa a C s.heap:=by
 obtain ⟨o,vs,e1,e2,e3,e4,_⟩:=(I.hok a _ h).1;have nc:notCls o=true:=by unfold notCls;rw [e4]
 cases dx with
 | none=>exact ⟨o,none,e1,e2,nc,by rw [e3];trivial⟩
 | some d=>
   obtain ⟨fs,hf⟩:=hd d rfl;obtain ⟨mA,n,_⟩:=(show ObjOk X.prog X.w H s.heap d (.xd fs) from I.hok d _ hf);obtain ⟨od,ho,_⟩:=J6 n;exact ⟨o,some od,e1,e2,nc,by rw [e3];exact ho⟩
theorem JV {X:Cx}{c:Value}:BA X (.builtin "isinstance") (NW X.K c):=by
 intro pins s σ H xs us Q I r h;obtain ⟨x,y,t,b,rfl,hy,ty,e,q⟩:=h;obtain ⟨u,w',rfl,rx,rt⟩:=Jg r
 cases hy _ rt
 rcases ty with ty | ⟨q0,a,C,dx,rfl,rfl,ha,hd,g,gc⟩
 ·exact J3 I rx ty e λtk=>⟨.bl b,H,I.tok tk,rfl,q⟩
 ·cases (show u=Value.ref a from rx)
  exact kia_one (LA g gc) I.kIn (SG I ha hd) e (λz=>nomatch z) λtk=>⟨.bl b,H,I.tok tk,rfl,q⟩
variable {K:PySem.W.Frag}
theorem V4 {d:D}{T:String}{C':Addr}{bm':List Value}(h:tyD d=some T)(c':XCl K C' bm'):kitOne K (.type T) (.ref C')=some false:=by
 obtain ⟨cd,dd,k0,k1,k2,k3,k5,h1,h2,h3,h4,h5⟩:=c'.ex;have e1:clsIn K C'=some cd:=by unfold clsIn;rw [h1]
 have e2:typeIn K (.ref C')=some (.type "type"):=by
  show (K.lookup C').map _=_;rw [h1];rfl
 have z:((clsIn K C').isSome && typeIn K (.ref C') == some (.type "type"))=true:=by rw [e1,e2,Option.isSome_some,um9];decide
 have hT:T = "NoneType"\/T = "bool"\/T = "int"\/T = "str"\/T = "list"\/T = "tuple"\/T = "dict":=by
  cases d <;> simp [tyD] at h <;> simp [<-h]
 unfold kitOne kitCls;rw [if_neg (by intro q;cases beq_iff_eq.mp q)]
 dsimp only;rw [if_pos z];rcases hT with rfl | rfl | rfl | rfl | rfl | rfl | rfl <;> rfl
theorem Tu {d:D}{T:String}(h:tyD d=some T):kitOne K (.type T) (.type "ValueError")=some false:=by
 have hT:T = "NoneType"\/T = "bool"\/T = "int"\/T = "str"\/T = "list"\/T = "tuple"\/T = "dict":=by
  cases d <;> simp [tyD] at h <;> simp [<-h]
 rcases hT with rfl | rfl | rfl | rfl | rfl | rfl | rfl <;> rfl
theorem PV {bm:List Value}(c:XCl K C bm)(v:Value):subIn K (.ref C) v=some ((Value.ref C :: bm).contains v):=by
 obtain ⟨cd,h1,h2,_⟩:=c.cls;show mroIn K C v=_;unfold mroIn;rw [h1,uj1,h2];rfl
theorem ML {C':Addr}{bm bm':List Value}(c:XCl K C bm)(c':XCl K C' bm'):kitOne K (.ref C) (.ref C')=some ((Value.ref C :: bm).contains (.ref C')):=by
 obtain ⟨cd,dd,k0,k1,k2,k3,k5,h1,h2,h3,h4,h5⟩:=c'.ex;have e1:clsIn K C'=some cd:=by unfold clsIn;rw [h1]
 have e2:typeIn K (.ref C')=some (.type "type"):=by
  show (K.lookup C').map _=_;rw [h1];rfl
 have z:((clsIn K C').isSome && typeIn K (.ref C') == some (.type "type"))=true:=by rw [e1,e2,Option.isSome_some,um9];decide
 unfold kitOne kitCls
 by_cases h:C=C'
 ·subst h;rw [if_pos (by simp)];simp
 ·rw [if_neg (λq=>h (Value.ref.inj (beq_iff_eq.mp q)))];dsimp only;rw [if_pos z];exact PV c _
theorem Xw {P:Addr}(c:XCl K C (.ref P :: VE)):kitOne K (.ref C) (.type "ValueError")=some true:=by
 unfold kitOne kitCls;rw [if_neg (by intro q;cases beq_iff_eq.mp q)]
 dsimp only;rw [if_pos (by decide +kernel),PV c];rw [ug3,ug3,show VE.contains (.type "ValueError")=true from by decide +kernel,uo3,uo3]
section
variable {X:Cx}{P:Addr}{ca:Str->Addr}{a:Expr}{f:M D}{p pos q:Pos}
theorem MI {n:Str}{c:Value}{y:V}(x:XM X.K X.mg P ca)(hy:∀u,RelV y u->u=c)(k1:∀d T,tyD d=some T->kitOne X.K (.type T) c=some false)(k2:∀m∈AU,kitOne X.K (.ref (ca m)) c=some (DB m n)){σ:L2.St}{H:Hp}{Q:VK}(h:RE X.K (bnd f (Fy n)) σ H Q) :
 tCB (NW X.K c) (KG (RE X.K f) (KG (tC y) RB)) σ H Q:=by
 obtain ⟨Oo,c0,t,fi,r,t',eq,k⟩:=h;obtain ⟨d,t1,e1,eq⟩:=Ah eq;refine ⟨Oo,c0,t,fi,d,t1,e1,λv H1 c1 f1 s1 rv=>?_⟩;show NW X.K c [v,y] H1 Q
 cases rv with
 | @exc q0 x0 C0 dx0 m vs ds g hx0 hA fl rs=>
   unfold Fy at eq;dsimp only at eq
   split at eq
   ·next hm=>
    cases eq
    have hc:=x.of hm g;subst hc;refine ⟨_,_,_,_,rfl,hy,.inr ⟨_,x0,ca m,dx0,rfl,rfl,hx0,λd hd=>?_,x.gt m hm,x.gc m hm⟩,k2 m hm,k _ H1 c1 f1 s1 (.bl _)⟩;subst hd;exact ⟨_,fl.1⟩
   ·cases eq
 | non=>cases eq;exact ⟨_,_,_,_,rfl,hy,.inl .non,k1 .non _ rfl,k _ H1 c1 f1 s1 (.bl _)⟩
 | bl b=>cases eq;exact ⟨_,_,_,_,rfl,hy,.inl (.bl _),k1 (.bl b) _ rfl,k _ H1 c1 f1 s1 (.bl _)⟩
 | int i=>cases eq;exact ⟨_,_,_,_,rfl,hy,.inl (.int _),k1 (.int i) _ rfl,k _ H1 c1 f1 s1 (.bl _)⟩
 | str i=>cases eq;exact ⟨_,_,_,_,rfl,hy,.inl (.str _),k1 (.str i) _ rfl,k _ H1 c1 f1 s1 (.bl _)⟩
 | lst h1 h2 h3=>cases eq;exact ⟨_,_,_,_,rfl,hy,.inl (.lst h1),k1 (.lst []) _ rfl,k _ H1 c1 f1 s1 (.bl _)⟩
 | tup h1 h2 h3=>cases eq;exact ⟨_,_,_,_,rfl,hy,.inl (.tup h1),k1 (.tup []) _ rfl,k _ H1 c1 f1 s1 (.bl _)⟩
 | dic h1 h2=>cases eq;exact ⟨_,_,_,_,rfl,hy,.inl (.dK h1),k1 .dic _ rfl,k _ H1 c1 f1 s1 (.bl _)⟩
 | _=>cases eq
theorem SW {n:Str}(x:XM X.K X.mg P ca)(hn:n∈AU)(hg:Gl X "isinstance")(hm:X.mg "isinstance" = none)(hv:bootBuiltins "isinstance" = some (.builtin "isinstance"))(hgn:Gl X n)(ha:PE X a (RE X.K f))(hdb:(n == ("__debug__" : Str))=false:=by decide)(h1:AM a=false:=by rfl) :
 PE X (.Call (.Name "isinstance" p) [a,.Name n q] [] pos) (RE X.K (bnd f (Fy n))):=
 AH (Fa JV hg hm hv (CP ha (CP (Hq hgn (x.ms n hn) (v:=.ref (ca n)) rfl hdb) E9 (AA (e:=.Name n q) rfl)) (AA h1)) (by decide) (by decide) (AA h1) (AK (es:=[.Name n q]) rfl).1)
  λσ H Q h=>MI (n:=n) (c:=.ref (ca n)) (y:=.ref (ca n)) x (λu r=>r) (λd T e=>V4 e (x.cl n hn)) (λm hm=>by rw [ML (x.cl m hm) (x.cl n hn),x.subE hm hn]) h
theorem SV (x:XM X.K X.mg P ca)(hg:Gl X "isinstance")(hm:X.mg "isinstance" = none)(hv:bootBuiltins "isinstance" = some (.builtin "isinstance"))(hgn:Gl X "ValueError")(hmn:X.mg "ValueError" = none)(hvn:bootBuiltins "ValueError" = some (.type "ValueError"))(ha:PE X a (RE X.K f))(h1:AM a=false:=by rfl) :
 PE X (.Call (.Name "isinstance" p) [a,.Name "ValueError" q] [] pos) (RE X.K (bnd f (Fy "ValueError"))):=
 AH (Fa JV hg hm hv (CP ha (CP (MW hgn hmn hvn (v:=.ty "ValueError") rfl (by decide) (by decide)) E9 (AA (e:=.Name "ValueError" q) rfl)) (AA h1)) (by decide) (by decide) (AA h1) (AK (es:=[.Name "ValueError" q]) rfl).1)
  λσ H Q h=>MI (n:="ValueError") (c:=.type "ValueError") (y:=.ty "ValueError") x (λu r=>r) (λd T e=>Tu e) (λm hm=>by rw [Xw (x.cl m hm)];rfl) h
def ai (nm:Str):D->M D
 | .exc n ds=>if n∈AU then (match ((Qx n).zip ds).lookup nm with
   | some d=>ret d
   | none=>fail) else fail
 | _=>fail
theorem Kj:bootBuiltins "ValueError" = some (.type "ValueError"):=by decide +kernel
end
end F2
namespace F2
open PySem L2 PySem.Spec PySem.W
variable {qx:Bool}
def Of (K:PySem.W.Frag)(P c:Addr):Bool:=KI K c (.ref P :: VE) && keepIn K (.ref c) && findIn K (.ref c) "__getattribute__" == some (some (.builtin "BaseException.__getattribute__")) && findIn K (.ref c) "__getattr__" == some none && mroIn K c (.type "BaseException") == some true
 && mroIn K c (.type "object") == some true && hasDictIn K c && findIn K (.ref c) "__class__" == some (some (.builtin "object.__class__")) && findIn K (.ref c) "at" == some none && findIn K (.ref c) "side" == some none
structure XOne (K:PySem.W.Frag)(P c:Addr):Prop where
 cl:XCl K c (.ref P :: VE)
 kp:keepIn K (.ref c)=true
 gt:XGet K c
 gc:findIn K (.ref c) "__class__" = some (some (.builtin "object.__class__"))
 na:findIn K (.ref c) "at" = some none
 nd:findIn K (.ref c) "side" = some none
variable {K:PySem.W.Frag}
theorem Em {P c:Addr}(h:Of K P c=true):XOne K P c:=by
 unfold Of at h;simp only [ui2,beq_iff_eq] at h;obtain ⟨⟨⟨⟨⟨⟨⟨⟨⟨h1,h2⟩,h3⟩,h4⟩,h5⟩,h6⟩,h7⟩,h8⟩,h9⟩,h10⟩:=h;exact ⟨.of_in h1,h2,⟨h3,h4,h5,h6,h7⟩,h8,h9,h10⟩
noncomputable def Ft (c1 c2 c3 c4 c5 c6 c7:Addr):Str->Addr:=λn=>if n = "NoValue" then c1 else if n = "Short" then c2 else if n = "Broken" then c3 else if n = "NoTalk" then c4 else if n = "NoName" then c5 else if n = "NoText" then c6 else c7
theorem Ct {Q:Str->Prop}(h1:Q "NoValue")(h2:Q "Short")(h3:Q "Broken")(h4:Q "NoTalk")(h5:Q "NoName")(h6:Q "NoText")(h7:Q "NoRow"):∀n∈AU,Q n:=by
 intro n hn;simp only [AU,um5,ui8,or_false] at hn;rcases hn with rfl | rfl | rfl | rfl | rfl | rfl | rfl <;> assumption
def Oe (K:PySem.W.Frag)(P:Addr)(cs:List Addr):Bool:=KI K P VE && cs.all (Of K P)
theorem Yq {h:Heap}{mg:Str->Option Value}{P c1 c2 c3 c4 c5 c6 c7:Addr}(X:K.In h)(G:h.Ns mainGlobals mg)(p:nsIn K mainGlobals "ParleyError" = some (some (.ref P)))(a1:nsIn K mainGlobals "NoValue" = some (some (.ref c1)))(a2:nsIn K mainGlobals "Short" = some (some (.ref c2)))
 (a3:nsIn K mainGlobals "Broken" = some (some (.ref c3))) (a4:nsIn K mainGlobals "NoTalk" = some (some (.ref c4))) (a5:nsIn K mainGlobals "NoName" = some (some (.ref c5))) (a6:nsIn K mainGlobals "NoText" = some (some (.ref c6))) (a7:nsIn K mainGlobals "NoRow" = some (some (.ref c7)))
 (q:Oe K P [c1,c2,c3,c4,c5,c6,c7]=true) (nd:[P,c1,c2,c3,c4,c5,c6,c7].Nodup):XM K mg P (Ft c1 c2 c3 c4 c5 c6 c7):=by
 unfold Oe at q;simp only [um6,List.all_nil,un0,ui2] at q;obtain ⟨q0,q1,q2,q3,q4,q5,q6,q7⟩:=q;have o1:=Em q1;have o2:=Em q2;have o3:=Em q3;have o4:=Em q4;have o5:=Em q5;have o6:=Em q6;have o7:=Em q7;have inj:∀n∈AU,∀m∈AU,Ft c1 c2 c3 c4 c5 c6 c7 n=Ft c1 c2 c3 c4 c5 c6 c7 m->n=m:=by
  simp only [uk3,um5,ui8,or_false,not_or,List.nodup_nil,and_true] at nd;obtain ⟨⟨n1,n2,n3,n4,n5,n6,n7⟩,⟨m12,m13,m14,m15,m16,m17⟩,⟨m23,m24,m25,m26,m27⟩,⟨m34,m35,m36,m37⟩,⟨m45,m46,m47⟩,⟨m56,m57⟩,m67,_⟩:=nd;have h1:Ft c1 c2 c3 c4 c5 c6 c7 "NoValue" = c1:=rfl;have h2:Ft c1 c2 c3 c4 c5 c6 c7 "Short" = c2:=rfl;have h3:Ft c1 c2 c3 c4 c5 c6 c7 "Broken" = c3:=rfl;have h4:Ft c1 c2 c3 c4 c5 c6 c7 "NoTalk" = c4:=rfl;have h5:Ft c1 c2 c3 c4 c5 c6 c7 "NoName" = c5:=rfl;have h6:Ft c1 c2 c3 c4 c5 c6 c7 "NoText" = c6:=rfl;have h7:Ft c1 c2 c3 c4 c5 c6 c7 "NoRow" = c7:=rfl;refine Ct ?_ ?_ ?_ ?_ ?_ ?_ ?_ <;> refine Ct ?_ ?_ ?_ ?_ ?_ ?_ ?_ <;> intro e <;> first | rfl | (exfalso;rw [h1] at e) | (exfalso;rw [h2] at e) | (exfalso;rw [h3] at e) | (exfalso;rw [h4] at e) | (exfalso;rw [h5] at e) | (exfalso;rw [h6] at e) | (exfalso;rw [h7] at e)
  all_goals (first | rw [h1] at e | rw [h2] at e | rw [h3] at e | rw [h4] at e | rw [h5] at e | rw [h6] at e | rw [h7] at e)
  all_goals (first | contradiction | (have e:=e.symm;contradiction))
 refine ⟨mg_of X G p,.of_in q0,Ct a1 a2 a3 a4 a5 a6 a7,Ct (mg_of X G a1) (mg_of X G a2) (mg_of X G a3) (mg_of X G a4) (mg_of X G a5) (mg_of X G a6) (mg_of X G a7),Ct o1.cl o2.cl o3.cl o4.cl o5.cl o6.cl o7.cl,inj,?_,
  Ct o1.kp o2.kp o3.kp o4.kp o5.kp o6.kp o7.kp,Ct o1.gt o2.gt o3.gt o4.gt o5.gt o6.gt o7.gt,Ct o1.gc o2.gc o3.gc o4.gc o5.gc o6.gc o7.gc,Ct o1.na o2.na o3.na o4.na o5.na o6.na o7.na,Ct o1.nd o2.nd o3.nd o4.nd o5.nd o6.nd o7.nd⟩
 simp only [uk3,um5,ui8,or_false,not_or] at nd;obtain ⟨⟨n1,n2,n3,n4,n5,n6,n7⟩,_⟩:=nd;exact Ct (Ne.symm n1) (Ne.symm n2) (Ne.symm n3) (Ne.symm n4) (Ne.symm n5) (Ne.symm n6) (Ne.symm n7)
noncomputable def LL (K:PySem.W.Frag)(C:Addr):Bool:=match clsIn K C with
 | some cd=>nsIn K cd.ns "__init__" == some none
 | none=>false
theorem Xf {C:Addr}(h:LL K C=true):XN0 K C:=by
 unfold LL at h
 split at h
 ·next cd e=>exact ⟨cd,e,beq_iff_eq.mp h⟩
 ·cases h
end F2
namespace F2
open PySem L2 PySem.Spec PySem.W
inductive Kd where
 | pl | fr | ex | er
abbrev okK (k:Kd)(P:Program)(w:World)(K:PySem.W.Frag)(mg:Str->Option Value)(base:Heap)(n:Nat)(fa:Addr)(fd:FuncData)(ps:List Str)(f:Fn):Prop:=match k with
 | .pl=>FnOk P w K mg base CX0 n fa fd ps (spF K f)
 | .fr=>FnOk P w K mg base CX0 n fa fd ps (spFF K f)
 | .ex=>FnOk P w K mg base (CX1 true P w) n fa fd ps (spX K f)
 | .er=>FnOk P w K mg base (CX1 false P w) n fa fd ps (spX K f)
section
variable {X:Cx}{e a b:Expr}{pos:Pos}{f g:M D}
theorem MG {E:XK}(h:PE X e (RE X.K f)):PS X (.Return (some e) pos) (RSg X.K (μX X.K E) (Ak (nxD f))):=
 A3 (Jb h) λD σ H z9=>by
  obtain ⟨Oo,c,t,fi,o,t',eq,k⟩:=z9;obtain ⟨d,t1,e1,eq⟩:=Ah eq
  cases eq
  obtain ⟨e2,e3⟩:=QT e1;exact ⟨Oo,c,t,fi,d,_,e2,λv H1 c1 f1 s1 rv=>VT e3 (k σ H1 c1 f1 s1 v rv)⟩
end
theorem V5 {K:PySem.W.Frag}:∀(c:Cf) (H:Hp) (r:D) (rt:V->Hp->Prop),A6 r=false->(∀v,Rep K c H v r->rt v H)=μR K c H r rt:=λ_ _ _ _ _=>rfl
variable {qx:Bool}
def Ss (K:PySem.W.Frag)(cs:List Addr):List V->Hp->VK->Prop:=λxs H Q=>∃q0 a p C dx b,xs=[.ref a,.ref p]/\H p=some (.tup (cs.map V.ref))/\H a=some (.ext (XIs q0 a C dx))/\(∀d,dx=some d->∃fs,H d=some (.xd fs))/\XGet K C/\findIn K (.ref C) "__class__" = some (some (.builtin "object.__class__"))/\kitAny K (.ref C) (cs.map Value.ref)=some b/\Q (.bl b) H
theorem Ki:∀{cs:List Addr} {us:List Value},Vals (cs.map V.ref) us->us=cs.map Value.ref
 | [],_,.nil=>rfl
 | c :: cs,_,.cons r rs=>by rw [Ki rs,show _=Value.ref c from r];rfl
theorem Oy {X:Cx}{cs:List Addr}:BA X (.builtin "isinstance") (Ss X.K cs):=by
 intro pins s σ H xs us Q I r h;obtain ⟨q0,a,p,C,dx,b,rfl,hp,ha,hd,g,gc,e,q⟩:=h;obtain ⟨u,w',rfl,rx,rt⟩:=Jg r
 cases (show u=Value.ref a from rx)
 cases (show w'=Value.ref p from rt)
 obtain ⟨_,its,rv,hit⟩:=(show ObjOk X.prog X.w H s.heap p (.tup (cs.map V.ref)) from I.hok p _ hp);have hv:=Ki rv;subst hv;obtain ⟨o,h1,h2,n,h3⟩:=hit;obtain ⟨oc,od,oda,osl⟩:=o;dsimp only at h2 h3;subst h2 h3;exact kia_tup (LA g gc) I.kIn (SG I ha hd) h1 e (λz=>nomatch z) λtk=>⟨.bl b,H,I.tok tk,rfl,q⟩
def Hl (ns:List Str):D->M D
 | .exc m _=>if m∈AU then ret (.bl (ns.any λn=>DB m n)) else fail
 | _=>fail
section
variable {X:Cx}{P:Addr}{ca:Str->Addr}{a:Expr}{es:List Expr}{f:M D}{p pos q:Pos}{i:Nat}{ns:List Str}
def FAC (X:Cx)(ca:Str->Addr)(es:List Expr)(ns:List Str):Prop:=PA X es (λ_ H Q=>Q ((ns.map ca).map V.ref) H)/\∀n∈ns,n∈AU
theorem SS:FAC X ca [] []:=⟨E9,λ_ h=>nomatch h⟩
theorem D6 {n:Str}(x:XM X.K X.mg P ca)(hn:n∈AU)(hg:Gl X n)(h:FAC X ca es ns)(hdb:(n == ("__debug__" : Str))=false:=by decide):FAC X ca (.Name n q :: es) (n :: ns):=
 ⟨λpos pins s σ H Q I hq=>CP (Hq hg (x.ms n hn) (v:=.ref (ca n)) rfl hdb) h.1 (AA (e:=.Name n q) rfl) pos pins s σ H Q I hq,λm hm=>by
  rcases um5.mp hm with rfl | hm
  ·exact hn
  ·exact h.2 m hm⟩
theorem MK {K:PySem.W.Frag}{mg:Str->Option Value}(x:XM K mg P ca){m:Str}(hm:m∈AU):∀{ns:List Str},(∀n∈ns,n∈AU)->kitAny K (.ref (ca m)) ((ns.map ca).map Value.ref)=some (ns.any λn=>DB m n)
 | [],_=>rfl
 | n :: ns,h=>by
   have hn:=h n uf6;rw [um8,um8,kitAny,ML (x.cl m hm) (x.cl n hn),x.subE hm hn,um7]
   cases DB m n with
   | true=>rfl
   | false=>exact MK x hm λk hk=>h k (ud6 _ hk)
theorem SU (x:XM X.K X.mg P ca)(hg:Gl X "isinstance")(hm:X.mg "isinstance" = none)(hv:bootBuiltins "isinstance" = some (.builtin "isinstance"))(hc:FAC X ca es ns)(ha:PE X a (RE X.K f))(hl:ns.length<=1000:=by decide)(h1:AM a=false:=by rfl) :
 PE X (.Call (.Name "isinstance" p) [a,.Tuple es i q] [] pos) (RE X.K (bnd f (Hl ns))):=
 AH (Fa (Oy (cs:=ns.map ca)) hg hm hv (CP ha (CP (Pn hc.1) E9 (AA (e:=.Tuple es i q) rfl)) (AA h1)) (by decide) (by decide) (AA h1) (AK (es:=[.Tuple es i q]) rfl).1)
  λσ H Q z9=>by
   obtain ⟨Oo,c0,t,fi,r,t',eq,k⟩:=z9;obtain ⟨d,t1,e1,eq⟩:=Ah eq;refine ⟨Oo,c0,t,fi,d,t1,e1,λv H1 c1 f1 s1 rv=>⟨by rw [uk5,uk5];exact un6 hl (by decide),λpp hp=>?_⟩⟩;show Ss X.K (ns.map ca) [v,.ref pp] _ Q;have f2:=f1.laid (o:=.tup ((ns.map ca).map V.ref)) hp;have s2:=f1.stp_laid (o:=.tup ((ns.map ca).map V.ref)) hp
   cases rv with
   | @exc q0 x0 C0 dx0 m vs ds g hx0 hA fl rs=>
     unfold Hl at eq;dsimp only at eq
     split at eq
     ·next hm'=>
      cases eq
      have hcc:=x.of hm' g;subst hcc;refine ⟨_,x0,pp,ca m,dx0,_,rfl,AD,by rw [As (Ay hx0 hp)];exact hx0,λdd hd=>?_,x.gt m hm',x.gc m hm',MK x hm' hc.2,k _ _ c1 f2 (s1.trans s2) (.bl _)⟩;subst hd;exact ⟨_,by rw [As (Ay fl.1 hp)];exact fl.1⟩
     ·cases eq
   | _=>cases eq
end
end F2
namespace F2
open PySem L2 PySem.Spec SeqAt
end F2
namespace L2
open PySem PySem.Spec PyProof.Rows PySem.W PySem.Builtin PySem.Builtin.ObjectAttr
variable {qx:Bool}
section
variable {prog:Program}{w:World}{A:Around}{s:Shared}{K:PySem.W.Frag}{x C P dx:Addr}{ox:Obj}{od:Option Obj}{R:Result->Shared->Prop}{name:Str}{v:Value}{tk:Tok}{cd:ClassData}
end
section
variable {X:Cx}{k:Nat}{f C P:Addr}{fd:FuncData}{pins:List (Addr×Obj)}{σ:St}{H:Hp}{s:Shared}{Q:Value->Shared->Prop}{us:List Value}{vs:List V}{a b:Str}{ps:List Str}{v v2:V}{u u2:Value}
end
section
variable {X:Cx}{k:Nat}{f C P:Addr}{fd:FuncData}{a b:Str}{ps:List Str}{n:Str}{p pos:Pos}{e e':Expr}
end
end L2
namespace F2
open PySem L2 PySem.Spec PySem.W
variable {qx:Bool}
section
variable {X:Cx}{e e':Expr}{pos p pos2:Pos}{E:L2.St->XK}{P:Addr}{ca:Str->Addr}
def Z4 (n:Str)(f:M (List D)):M Out:=bnd f λds=>match ds with
 | [d,d']=>ret (.ret (.exc n [d,d']))
 | _=>fail
end
end F2
namespace L2
open PySem PySem.Spec PyProof.Rows PySem.W
end L2
namespace F2
open PySem L2 PySem.Spec
section
variable {X:Cx}{a b:Expr}{pos:Pos}
end
end F2
namespace L2
open PySem PySem.Spec PyProof.Rows PySem.W
section
variable {prog:Program}{w:World}{A:Around}{E:Value->Shared->Prop}{env:Env}{K:PySem.W.Frag}{C:Addr}{bm:List Value}{s:Shared}
end
section
variable {X:Cx}{pins:List (Addr×Obj)}{σ:St}{H:Hp}{s s':Shared}{qx:Bool}{x C:Addr}{dx T:Option Addr}{fl:Value}
end
section
variable {X:Cx}{n v:Str}{C' C2:Addr}{bm' bm2:List Value}{p pos p2:Pos}{e cN:Expr}{rest:List ExceptHandler}{t:St->Hp->(Addr->Option Addr->Hp->Prop)->Prop}{tr:Addr->Addr->Option Addr->TS}{i:Nat}{E:St->XK}
end
structure FnOkH (P:Program)(w:World)(K:PySem.W.Frag)(mg:Str->Option Value)(base:Heap)(CX:CXT)(k:Nat)(f:Addr)(fd:FuncData)(ps:List Str)(sp:Sp):Prop where
 len:∀vs H Q E,sp vs H Q E->vs.length=ps.length
 run:∀(z:Addr) (A:Around) (outer:List Env) (s:Shared) (H:Hp) (args:Args) (us:List Value) (vs:List V) (Q:VK) (E:XK),Room k A->Env0 P w K mg base A outer s H->BindsTo s fd args (ps.zip us)->Vals vs us->sp vs H Q E->
  codeAny (model P w) (A.mark (some (.ref z))) (.call (.ref f) args) (CR CX outer P w H s Q E) s
section
variable {qx:Bool}{X:Cx}{k:Nat}{f C P:Addr}{fd:FuncData}{pins:List (Addr×Obj)}{σ:St}{H:Hp}{s:Shared}{Q:Value->Shared->Prop}{us:List Value}{vs:List V}{a b:Str}{ps:List Str}{v v2:V}{u u2:Value}{n:Str}{p pos:Pos}{e e':Expr}
end
end L2
namespace F2
open PySem L2 PySem.Spec PySem.W
section
variable {X:Cx}{pos p p2 p3 p4:Pos}{P:Addr}{ca:Str->Addr}{E:XK}{e e' cN:Expr}
end
end F2
namespace L2
open PySem PySem.Spec PyProof.Rows
section
variable {prog:Program}{w:World}{A:Around}{E:Value->Shared->Prop}{s:Shared}
variable {I:Addr}{fp wr:List Addr}{G:Array GenState->Array GenState->Prop}{n:Nat}{P:Nat->Value->Prop}{St:Nat->Shared->Prop}
def ZY (prog:Program)(w:World)(h:Heap)(no:List Addr)(k:Key)(x v:Value):Prop:=∃(p:Addr) (o:Obj) (kv:Value) (q:Nat),v = .ref p/\p∉no/\h.get? p=some o/\o.cls = .type "tuple"/\o.data = .seq #[kv,x] q/\(JA prog w).is k kv=true
end
section
variable {X:Cx}
end
end L2
namespace F2
open PySem L2 PySem.Spec PyProof.Rows
section
variable {X:Cx}{pos:Pos}{e:Expr}
end
end F2
namespace L2
open PySem PySem.Spec PyProof.Rows
section
variable {X:Cx}
end
end L2
namespace F2
open PySem L2 PySem.Spec PyProof.Rows
section
variable {K:PySem.W.Frag}
end
section
variable {X:Cx}{pos:Pos}{e:Expr}
end
end F2
namespace F2
open PySem L2 PySem.Spec PySem.W
section
variable {X:Cx}
end
def CM (K:PySem.W.Frag):Prop:=∀n∈Ql,∀C,nsIn K mainGlobals n=some (some (.ref C))->Cls K C/\∀f∈atN,U3 K C f
section
variable {K:PySem.W.Frag}{c:Cf}{H:Hp}
end
end F2
namespace L2
open PySem PySem.Spec PySem.W PyProof.Rows
section
variable {X:Cx}{CX:CXT}{k:Nat}{f C:Addr}{fd:FuncData}{ps:List Str}{sp:Sp}{E:St->XK}{x m:Str}{p pos apos:Pos}{e o:Expr}{es:List Expr}{ta:TE}{t:TA}
structure ByCls (K:PySem.W.Frag)(C:Addr)(m:Str)(f:Addr):Prop where
 ga:specialIn K (.ref C) "__getattribute__" = some (some (.builtin "type.__getattribute__"))
 rd:readsIn K C (.type "type")=true
 at_:(match findCls K (.ref C) (.type "type") m with | some (.val (.ref g))=>g == f | _=>false)=true
 kp:keepIn K (.ref f)=true
end
end L2
namespace F2
open PySem L2 PySem.Spec PySem.W
section
variable {X:Cx}{e o a value:Expr}{es:List Expr}{pos pos' apos p:Pos}{f:Str}{g gv ga:M D}{fl:M (List D)}{C:Addr}
structure MAt (K:PySem.W.Frag)(n m:Str)(C fa:Addr):Prop where
 cl:n∈Ql
 at_:nsIn K mainGlobals n=some (some (.ref C))
 me:Meth K C m fa
 na:m∉atN
section
variable {k:Nat}{fa:Addr}{fd:FuncData}{ps:List Str}{h:Fn}{n m:Str}{qx:Bool}{E:L2.St->XK}
end
end
theorem V6 {k:Kd}{P:Program}{w:World}{K:PySem.W.Frag}{mg:Str->Option Value}{base:Heap}{n:Nat}{fa:Addr}{fd:FuncData}{ps:List Str}{f:Fn}(h:okK k P w K mg base n fa fd ps f):okK k P w K mg base (n + 1) fa fd ps f:=by
 cases k <;> exact FnOk.mono h (up4 _)
end F2
namespace L2
open PySem PySem.Spec PyProof.Rows
def mkT (sp:Sp)(K:PySem.W.Frag)(l:Addr)(all:List V):List V->V×Int->Hp->VK->Prop
 | [],b,H,Q=>Q b.1 H
 | x :: r,b,H,Q=>sp [x] H (λkv H'=>∃i,kv = .int i/\SqL K H' l all/\mkT sp K l all r (if i < b.2 then (x,i) else b) H' Q) E0
def Jc (sp:Sp)(K:PySem.W.Frag):List V->Hp->VK->Prop:=λxs H Q=>∃l x r,xs=[.ref l]/\SqL K H l (x :: r)/\sp [x] H (λkv H'=>∃i,kv = .int i/\SqL K H' l (x :: r)/\mkT sp K l (x :: r) r (x,i) H' Q) E0
section
variable {X:Cx}{k:Nat}{f l I S:Addr}{fd:FuncData}{ps:List Str}{sp:Sp}{pins:List (Addr×Obj)}{σ:St}{H:Hp}{s:Shared}{Q:VK}{oS oI oS' oI':Obj}{h':Heap}{t':Nat}
theorem M5 {u:Value}{x:V}{E:Value->Shared->Prop}(F:FnOk X.prog X.w X.K X.mg X.base CX0 k f fd ps sp)(hr:Room (k + 1) X.A)(hb:Binds X.K fd ps [])(i:Inv X pins σ H s)(r:RelV x u)(h:sp [x] H Q E0):wpAny (model X.prog X.w) X.A.in1 (call (.ref f) [u]) (EP X pins σ Q) E s:=by
 have r2:Vals [x] [u]:=.cons r .nil;have hl:([u]++[]).length=ps.length:=F.len _ _ _ _ h;refine wpAny_call (codeAny_mono (F.run X.A.in1 X.stack s H ⟨[u],[]⟩ ([u]++[]) [x] Q E0 hr.in1 i.env0.in1 (hb s [u] i.kIn hl) r2 h) λr s' hq=>?_)
 cases r with
 | error e=>exact False.elim hq
 | ok fl=>
   cases fl with
   | ret u=>exact i.after hq
   | next=>exact False.elim hq
   | brk=>exact False.elim hq
   | cont=>exact False.elim hq
theorem Hs (i:Inv X (pins++[(S,oS),(I,oI)]) σ H s):s.heap.get? S=some oS/\H S=none/\S≠X.env.locals/\S∉X.fs/\∀v,oS.data≠.cell v:=i.pin (S,oS) (uc8 _ (uc8 _ (.head _)))
theorem Hr (i:Inv X (pins++[(S,oS),(I,oI)]) σ H s):s.heap.get? I=some oI/\H I=none/\I≠X.env.locals/\I∉X.fs/\∀v,oI.data≠.cell v:=i.pin (I,oI) (uc8 _ (uc8 _ (.tail _ (.head _))))
def FpS (X:Cx)(pins:List (Addr×Obj))(b:Addr):Prop:=(b∈X.ex\/X.s₀.heap.objs.size<=b)/\(∀x c,X.env.cells.lookup x=some c->c≠b)/\∀p∈X.pn++pins,p.1≠b
theorem P2 (i:Inv X (pins++[(S,oS),(I,oI)]) σ H s)(fI:FpS X pins I)(hSI:S≠I)(k:∀b o,b∉[I]->s.heap.get? b=some o->h'.get? b=some o)(g:h'.get? I=some oI')(nc:∀v,oI'.data≠.cell v):Inv X (pins++[(S,oS),(I,oI')]) σ H { s with heap:=h',toks:=t' }:=by
 have pI:=Hr i;have pS:=Hs i;have i1:=i.unpinned.turned (t':=t') (it:=I) (λb o hb e=>k b o (by simpa using hb) e) pI.2.1 pI.2.2.1 fI.1 fI.2.1 fI.2.2;refine i1.pins_of λp hp=>?_;rcases uj9.mp hp with hp | hp
 ·exact i1.pin p (uc8 _ hp)
 ·rcases um5.mp hp with rfl | hp
  ·exact ⟨k S oS (by simpa using hSI) pS.1,pS.2⟩
  ·rw [ug2.mp hp];exact ⟨g,pI.2.1,pI.2.2.1,pI.2.2.2.1,nc⟩
theorem P3 (i:Inv X (pins++[(S,oS),(I,oI)]) σ H s)(fS:FpS X pins S)(hSI:S≠I)(k:∀b o,b≠S->s.heap.get? b=some o->h'.get? b=some o)(g:h'.get? S=some oS')(nc:∀v,oS'.data≠.cell v):Inv X (pins++[(S,oS'),(I,oI)]) σ H { s with heap:=h',toks:=t' }:=by
 have pI:=Hr i;have pS:=Hs i;have i1:=i.unpinned.turned (t':=t') (it:=S) k pS.2.1 pS.2.2.1 fS.1 fS.2.1 fS.2.2;refine i1.pins_of λp hp=>?_;rcases uj9.mp hp with hp | hp
 ·exact i1.pin p (uc8 _ hp)
 ·rcases um5.mp hp with rfl | hp
  ·exact ⟨g,pS.2.1,pS.2.2.1,pS.2.2.2.1,nc⟩
  ·rw [ug2.mp hp];exact ⟨k I oI (Ne.symm hSI) pI.1,pI.2⟩
theorem Fh {hp:Heap}{F:Obj->Obj}{b:Addr}{o:Obj}(hb:b≠S)(e:hp.get? b=some o):(hp.update S F).get? b=some o:=((uf1 hp S F).2 b hb).trans e
theorem O9 {all:List V}(F:FnOk X.prog X.w X.K X.mg X.base CX0 k f fd ps sp)(hr:Room (k + 1) X.A)(hb:Binds X.K fd ps [])(hlI:l≠I)(hSI:S≠I)(fI:FpS X pins I)(fS:FpS X pins S) :
 ∀(r:List V) (j:Nat) (b:V×Int) (H:Hp) (s:Shared) (vb:Value) (tb:Tok) (c:Nat) (oI:Obj),all.drop (j + 1)=r->j + 1<=all.length->Inv X (pins++[(S,seqObj "list" #[vb,.int b.2 tb] c),(I,oI)]) σ H s->SqL X.K H l all->RelV b.1 vb->s.heap.IsListIter I l (j + 1)->mkT sp X.K l all r b H Q->
  codeAny (model X.prog X.w) X.A (.builtin "min.loop" ⟨[.ref I,.ref f,.ref S],[]⟩) (λr s'=>match r with | .ok (.ret v)=>EP X pins σ Q v s' | .ok _=>False | .error e=>X.xe e s') s:=by
 have hname:(toString "min"++toString ".loop" : String) = "min.loop":=by decide
 have hh:X.A.handled=none:=hr.hd;intro r
 induction r with
 | nil=>
   intro j b H s vb tb c oI hd hj i hs rb hit h;obtain ⟨its,rv,pl,hz⟩:=i.list hs;have hlen:its.toArray.size=all.length:=by rw [ug7];exact rv.length.symm
   have hin:all.length=j + 1:=by have:=List.drop_eq_nil_iff.mp hd;lia
   have W:=Walks.list (prog:=X.prog) (w:=X.w) (A:=X.A.in1) hh I l hlI its.toArray;have pS:=Hs i;obtain ⟨hp,gn,dr,tk,os⟩:=s;refine codeAny_builtin uc4 ?_;rw [Around.under_plainId uc5 _];show wpAny _ X.A.in1 (seqItems? (.ref S) >>= _) _ _ _;refine up8 (wpAny_seqItems pS.1 rfl ?_);show wpAny _ X.A.in1 (tryCatch (pyNext (.ref I)) _ >>= _) _ _ _;refine up8 (wpAny_tryCatch (W.done _ _ _ ⟨by rw [hlen,hin];exact hit,pl.isList⟩ λh' tk' hk'=>?_));have i1:=i.unpinned.turned (t':=tk') (it:=I) (λb o hb e=>hk' b o (by simpa using hb) e) (Hr i).2.1 (Hr i).2.2.1 fI.1 fI.2.1 fI.2.2;have hS':=hk' S _ (by simpa using hSI) pS.1;show wpAny _ X.A.in1 (updateSeq S (λ_=>#[]) >>= _) _ _ _;refine up8 ?_;refine wpAny_updateSeq hS' rfl (up8 (wpAny_letGo (up9 ?_)));exact ⟨b.1,H,i1.turned (t':=_) (it:=S) (λb o hb e=>Fh hb e) pS.2.1 pS.2.2.1 fS.1 fS.2.1 fS.2.2,rb,h⟩
 | cons x r ih=>
   intro j b H s vb tb c oI hd hj i hs rb hit h;obtain ⟨its,rv,pl,hz⟩:=i.list hs;have hlen:its.toArray.size=all.length:=by rw [ug7];exact rv.length.symm
   have hx:all[j + 1]?=some x:=by rw [<-List.head?_drop,hd];rfl
   have hlt:j + 1 < all.length:=(ua8.mp hx).1;have hd2:all.drop (j + 1 + 1)=r:=by rw [<-List.drop_drop,hd];rfl
   have W:=Walks.list (prog:=X.prog) (w:=X.w) (A:=X.A.in1) hh I l hlI its.toArray;have pS:=Hs i;obtain ⟨hp,gn,dr,tk,os⟩:=s;refine codeAny_builtin uc4 ?_;rw [Around.under_plainId uc5 _];show wpAny _ X.A.in1 (seqItems? (.ref S) >>= _) _ _ _;refine up8 (wpAny_seqItems pS.1 rfl ?_);show wpAny _ X.A.in1 (tryCatch (pyNext (.ref I)) _ >>= _) _ _ _;refine up8 (wpAny_tryCatch (W.item (j + 1) _ _ _ (by rw [hlen];exact hlt) ⟨hit,pl.isList⟩ λv h' tk' hP hst' hk'=>?_));obtain ⟨v',ev,rv'⟩:=rv.get hx;have hv:v'=v:=by
    have e:its[j + 1]?=some v:=by simpa using hP
    rw [ev] at e;exact uk0 e
   subst hv;obtain ⟨oI',hoI',hoc,hod⟩:=id hst'.1;have i2:=P2 (t':=tk') i fI hSI hk' hoI' (by rw [hod];intro v z;cases z)
   show wpAny _ X.A.in1 (tryCatch (holding [v'] (call (.ref f) [v'])) _ >>= _) _ _ _;refine up8 (wpAny_tryCatch (un3 (uq0 (M5 F hr hb i2 rv' h) (λu s3 he=>?_) λ_ _ hF=>hF)));obtain ⟨kv,H3,i3,rk,n,rfl,hs3,h3⟩:=he;obtain ⟨t2,rfl⟩:=rk;have pS3:=Hs i3;have pI3:=Hr i3;have hit3:s3.heap.IsListIter I l (j + 1 + 1):=⟨oI',pI3.1,hoc,hod⟩;obtain ⟨hp3,gn3,dr3,tk3,os3⟩:=s3;show wpAny _ X.A.in1 (tryCatch (holding [v',.int n t2] (richCompare .Lt (.int n t2) (.int b.2 tb) >>= _)) _ >>= _) _ _ _;refine up8 (wpAny_tryCatch (un3 (up8 (CmpOf.ints_lt (prog:=X.prog) (w:=X.w) (A:=X.A.in1) (P:=λi v=>∃t,v = .int ([n,b.2].getD i 0) t) (λi=>[n,b.2].getD i 0) (λi v h=>h) 0 1 _ _ _ _ _ ⟨t2,rfl⟩ ⟨tb,rfl⟩ ?_))));refine up8 (un3 (wpAny_truthy_bool ?_));refine up8 (wpAny_letGo (up9 ?_));have e01:((λi=>[n,b.2].getD i 0) 0 < (λi=>[n,b.2].getD i 0) 1)↔n < b.2:=Iff.rfl
   by_cases hlt2:n < b.2
   ·rw [if_pos hlt2] at h3;have hlt3:(λi=>[n,b.2].getD i 0) 0 < (λi=>[n,b.2].getD i 0) 1:=hlt2;obtain ⟨c2,hc2⟩:∃c2,(hp3.update S (Obj.mapSeq λ_=>#[v',.int n t2])).get? S=some (seqObj "list" #[v',.int n t2] c2):=⟨_,get?_update_seq pS3.1 λ_=>#[v',.int n t2]⟩;simp only [hlt3,decide_true,if_true];refine up8 ?_;refine wpAny_updateSeq pS3.1 rfl (up8 (wpAny_letGo ?_));rw [hname];refine up9 ⟨plainId_quiet uc5 _,ih (j + 1) (x,n) H3 _ v' t2 c2 oI' hd2 hlt (P3 (t':=_) i3 fS hSI (λb o hb e=>Fh hb e) hc2 (by intro v z;cases z)) hs3 rv' ⟨oI',Fh (Ne.symm hSI) pI3.1,hoc,hod⟩ h3⟩
   ·rw [if_neg hlt2] at h3;have hlt3:¬(λi=>[n,b.2].getD i 0) 0 < (λi=>[n,b.2].getD i 0) 1:=hlt2;simp only [hlt3,decide_false,ug1,if_false];refine up8 (wpAny_letGo ?_);rw [hname];exact up9 ⟨plainId_quiet uc5 _,ih (j + 1) b H3 _ vb tb c oI' hd2 hlt (i3.tok _) hs3 rb hit3 h3⟩
theorem OB {u:Value}{x0:V}(F:FnOk X.prog X.w X.K X.mg X.base CX0 k f fd ps sp)(hr:Room (k + 1) X.A)(hb:Binds X.K fd ps [])(i:Inv X pins σ H s)(r0:RelV x0 u)(h:Jc sp X.K [x0] H Q):wpAny (model X.prog X.w) X.A (call (.builtin "min") [u] [(Str.ofString "key",.ref f)]) (EP X pins σ Q) X.xe s:=by
 have hname:(toString "min"++toString ".loop" : String) = "min.loop":=by decide
 have hh:X.A.handled=none:=hr.hd;obtain ⟨l,x,r,e0,hs,h⟩:=h
 cases e0
 obtain rfl:u = .ref l:=r0;obtain ⟨its,rv,pl,hz⟩:=i.list hs;have hls:=pl.isList;have hll:l < s.heap.objs.size:=by obtain ⟨o,ho,_⟩:=hls;exact un4 ho
 obtain ⟨hp,gn,dr,tk,os⟩:=s;refine kmk_tree PySem.F.kind_min PySem.F.plain_min PySem.F.entry_min (kmk_min_key _ _) ?_;show wpAny _ X.A.in1 (Builtin.Builtins.bindParams "min" ["key", "default"] 0 ⟨[],[(Str.ofString "key",.ref f)]⟩ >>= _) _ _ _;refine up8 (wpAny_of_eq (show Builtin.Builtins.bindParams "min" ["key", "default"] 0 ⟨[],[(Str.ofString "key",.ref f)]⟩=pure [some (.ref f),none] from rfl) ?_);refine up8 (up9 ?_);refine up8 (wpAny_pyIter_list hls ?_);refine up8 (wpAny_newList ?_ (up5 _));rw [hname];have hS:(hp.push { cls:=.type "list_iterator",data:=.fields #[.ref l,.int 0 0] }).objs.size=hp.objs.size + 1:=size_push' ..;have hlI:l≠hp.objs.size:=un5 hll;have hSI:(hp.push { cls:=.type "list_iterator",data:=.fields #[.ref l,.int 0 0] }).objs.size≠hp.objs.size:=by rw [hS];exact un8 (ui4 _)
 refine up9 ⟨plainId_quiet uc5 _,?_⟩;have gI:((hp.push { cls:=.type "list_iterator",data:=.fields #[.ref l,.int 0 0] }).push (seqObj "list" #[] 0)).get? hp.objs.size=some { cls:=.type "list_iterator",data:=.fields #[.ref l,.int 0 0] }:=
  ub9 _ (ue7 _ rfl)
 have gS:((hp.push { cls:=.type "list_iterator",data:=.fields #[.ref l,.int 0 0] }).push (seqObj "list" #[] 0)).get? (hp.push { cls:=.type "list_iterator",data:=.fields #[.ref l,.int 0 0] }).objs.size=some (seqObj "list" #[] 0):=ue7 _ rfl;have gl:((hp.push { cls:=.type "list_iterator",data:=.fields #[.ref l,.int 0 0] }).push (seqObj "list" #[] 0)).IsList l its.toArray:=(hls.push _).push _;have zI:H hp.objs.size=none:=i.hok.fresh (up3 _);have zS:H (hp.push { cls:=.type "list_iterator",data:=.fields #[.ref l,.int 0 0] }).objs.size=none:=i.hok.fresh (by rw [hS];exact up4 _);have fI:=i.fpOk (b:=hp.objs.size) (up3 _) zI;have fS:=i.fpOk (b:=(hp.push { cls:=.type "list_iterator",data:=.fields #[.ref l,.int 0 0] }).objs.size) (by rw [hS];exact up4 _) zS;generalize (hp.push { cls:=.type "list_iterator",data:=.fields #[.ref l,.int 0 0] }).objs.size=S at hSI gS zS fS ⊢;have ik:∀t',Inv X pins σ H { heap:=(hp.push { cls:=.type "list_iterator",data:=.fields #[.ref l,.int 0 0] }).push (seqObj "list" #[] 0),gens:=gn,drawn:=dr,toks:=t',os:=os }:=λt'=>i.kept (t':=t') λb o e=>ub9 _ (ub9 _ e);have i1:∀t',Inv X (pins++[(S,seqObj "list" #[] 0),(hp.objs.size,{ cls:=.type "list_iterator",data:=.fields #[.ref l,.int 0 0] })]) σ H { heap:=(hp.push { cls:=.type "list_iterator",data:=.fields #[.ref l,.int 0 0] }).push (seqObj "list" #[] 0),gens:=gn,drawn:=dr,toks:=t',os:=os }:=λt'=>(ik t').pins_of λp hp'=>by
  rcases uj9.mp hp' with hp' | hp'
  ·exact (ik t').pin p (uc8 _ hp')
  ·rcases um5.mp hp' with rfl | hp'
   ·exact ⟨gS,fS.1,fS.2.1,fS.2.2.1,by intro v z;cases z⟩
   ·rw [ug2.mp hp'];exact ⟨gI,fI.1,fI.2.1,fI.2.2.1,by intro v z;cases z⟩
 generalize (hp.push { cls:=.type "list_iterator",data:=.fields #[.ref l,.int 0 0] }).push (seqObj "list" #[] 0)=hq at gI gS gl i1 ⊢;generalize hp.objs.size=I at *;have W:=Walks.list (prog:=X.prog) (w:=X.w) (A:=X.A.in1) hh I l hlI its.toArray;refine codeAny_builtin uc4 ?_;rw [Around.under_plainId uc5 _];show wpAny _ X.A.in1 (seqItems? (.ref _) >>= _) _ _ _;refine up8 (wpAny_seqItems gS rfl ?_);show wpAny _ X.A.in1 (tryCatch (pyNext (.ref I)) _ >>= _) _ _ _;have hlen:its.length=r.length + 1:=by have:=rv.length;rw [ui9] at this;lia
 refine up8 (wpAny_tryCatch (W.item 0 _ _ _ (by rw [ug7,hlen];lia) ⟨⟨_,gI,rfl,rfl⟩,gl⟩ λv h' tk' hP hst' hk'=>?_));obtain ⟨v',ev,rv'⟩:=rv.get (i:=0) (x:=x) rfl;have hv:v'=v:=by
  have e:its[0]?=some v:=by simpa using hP
  rw [ev] at e;exact uk0 e
 subst hv;obtain ⟨oI',hoI',hoc,hod⟩:=id hst'.1;have i2:=P2 (t':=tk') (i1 _) fI.2.2.2 hSI hk' hoI' (by rw [hod];intro v z;cases z)
 show wpAny _ X.A.in1 (tryCatch (holding [v'] (call (.ref f) [v'])) _ >>= _) _ _ _;refine up8 (wpAny_tryCatch (un3 (uq0 (M5 F hr hb i2 rv' h) (λu s3 he=>?_) λ_ _ hF=>hF)));obtain ⟨kv,H3,i3,rk,n,rfl,hs3,h3⟩:=he;obtain ⟨t2,rfl⟩:=rk;have pS3:=Hs i3;have pI3:=Hr i3;obtain ⟨hp3,gn3,dr3,tk3,os3⟩:=s3;obtain ⟨c2,hc2⟩:∃c2,(hp3.update S (Obj.mapSeq λ_=>#[v',.int n t2])).get? S=some (seqObj "list" #[v',.int n t2] c2):=⟨_,get?_update_seq pS3.1 λ_=>#[v',.int n t2]⟩;show wpAny _ X.A.in1 (updateSeq S (λ_=>#[v',.int n t2]) >>= _) _ _ _;refine up8 ?_;refine wpAny_updateSeq pS3.1 rfl ?_;rw [hname];exact up9 ⟨plainId_quiet uc5 _,O9 F hr hb hlI hSI fI.2.2.2 fS.2.2.2 r 0 (x,n) H3 _ v' t2 c2 oI' rfl (by rw [ui9];lia) (P3 (t':=_) i3 fS.2.2.2 hSI (λb o hb e=>Fh hb e) hc2 (by intro v z;cases z)) hs3 rv' ⟨oI',Fh (Ne.symm hSI) pI3.1,hoc,hod⟩ h3⟩
def XQ (sp:Sp)(K:PySem.W.Frag)(t:TE):TE:=λσ H Q=>t σ H λv H1=>Jc sp K [v] H1 Q
theorem TZ {e:Expr}{te:TE}{y:Str}{p p2 kp pos:Pos}(F:FnOk X.prog X.w X.K X.mg X.base CX0 k f fd ps sp)(hr:Room (k + 1) X.A)(hg:Gl X "min")(hm:X.mg "min" = none)(hy:Gl X y)(hmy:X.mg y=some (.ref f))(hb:Binds X.K fd ps [])(ha:PE X e te)
 (hdy:(y == ("__debug__" : Str))=false:=by decide) (hst:starEach [e] X.env=(false,eval e X.env) :: starEach [] X.env:=by rfl) :
 PE X (.Call (.Name "min" p) [e] [⟨some "key",.Name y p2,kp⟩] pos) (XQ sp X.K te):=by
 intro pins s σ H Q i h;refine wpAny_Call_Name_kw (E4 i hg hm (u:=.builtin "min") rfl ?_ (by decide) (by decide));refine callWith_kw (id:="min") (e:=e) (rest:=[]) ?_ (by rw [hst];rfl) (by rw [hst];rfl) (by rfl) (by rfl);refine thn ((CP ha E9 hst) pos pins s σ H (λvs H1=>Jc sp X.K vs H1 Q) i h) λus s1 z9=>?_;obtain ⟨vs,H1,i1,r1,q1⟩:=z9;refine thn ((T4 (nm:=some "key") (kpos:=kp) (Hq hy hmy (v:=.ref f) rfl hdy (pos:=p2)) Wt) pos pins s1 σ H1 (λzs H2=>zs=[.ref f]/\Jc sp X.K vs H2 Q) i1 ⟨rfl,q1⟩) λws s2 z9=>?_;obtain ⟨zs,H2,i2,rz,ez,q2⟩:=z9;subst ez;obtain ⟨w,rfl,rw'⟩:=DY rz;obtain rfl:w = .ref f:=rw';obtain ⟨l,x,r,e0,q3⟩:=id q2;subst e0;obtain ⟨u,rfl,ru⟩:=DY r1;exact OB F hr hb i2 ru q2
end
end L2
namespace F2
open PySem L2 PySem.Spec PySem.W
def Ho (g:Fn):List D->D×Int->M D
 | [],b=>λt=>some (b.1,t)
 | x :: r,b=>λt=>match g [x] t.S with
   | some (.int i,S')=>Ho g r (if i < b.2 then (x,i) else b) { t with S:=S' }
   | _=>none
def I9 (g:Fn)(d:D):M D:=match d with
 | .lst (x :: r)=>λt=>match g [x] t.S with
   | some (.int i,S')=>Ho g r (x,i) { t with S:=S' }
   | _=>none
 | _=>fail
def Nx (g:Fn)(f:M D):M D:=bnd f (I9 g)
section
variable {K:PySem.W.Frag}{g:Fn}
theorem O8 {Oo:Addr->Prop}{l:Addr}{all:List V}{dall:List D}{σ:L2.St}{Q:VK}{r:D}{t':T}:∀{vs:List V} {ds:List D} {b:V×Int} {bd:D} {c:Cf} {t:T} {H:Hp},FInv K Oo c t σ H->Rep K c H (.ref l) (.lst dall)->H l=some (.lst all)->¬c.A l->Reps K c H vs ds->Rep K c H b.1 bd->Ho g ds (bd,b.2) t=some (r,t')->
 (∀v H' c',FInv K Oo c' t' σ H'->Stp Oo c H c' H'->Rep K c' H' v r->Q v H')->mkT (spF K g) K l all vs b H Q:=by
 intro vs
 induction vs with
 | nil=>
   intro ds b bd c t H f ra hl ha rs rb eq k
   cases rs
   cases eq
   exact k _ H c f .refl rb
 | cons x vs ih=>
   intro ds b bd c t H f ra hl ha rs rb eq k
   cases rs with
   | @cons _ d _ ds rx rs=>
   unfold Ho at eq
   split at eq
   ·next i S' e=>
    refine ⟨c,[d],t.S,f.s,.cons rx .nil,.int i,S',e,λv H' c' si st ho rv=>?_⟩
    cases rv
    obtain ⟨f2,s2⟩:=f.after si st ho;have hl2:H' l=some (.lst all):=s2.ext.keep l _ hl ha;have ha2:¬c'.A l:=λz=>ha (s2.ext.av l _ hl z);refine ⟨i,rfl,SqL.of hl2,ih (bd:=if i < b.2 then d else bd) f2 (ra.mono s2.ext) hl2 ha2 (rs.mono s2.ext) ?_ ?_ λv H3 c3 f3 s3 rv=>k v H3 c3 f3 (s2.trans s3) rv⟩
    ·split
     ·exact rx.mono s2.ext
     ·exact rb.mono s2.ext
    ·rw [<-eq]
     congr 1
     split <;> rfl
   ·cases eq
theorem O7 {Oo:Addr->Prop}{c:Cf}{t:T}{σ:L2.St}{H:Hp}{Q:VK}{v:V}{d r:D}{t':T}(f:FInv K Oo c t σ H)(rv:Rep K c H v d)(eq:I9 g d t=some (r,t'))(k:∀v H' c',FInv K Oo c' t' σ H'->Stp Oo c H c' H'->Rep K c' H' v r->Q v H'):Jc (spF K g) K [v] H Q:=by
 unfold I9 at eq
 split at eq
 ·next x rs=>
  split at eq
  ·next i S' e=>
   cases rv with
   | @lst a ws es g1 g2 g3=>
   cases g3 with
   | @cons x0 _ ws _ rx rs'=>
   refine ⟨a,x0,ws,rfl,SqL.of g1,c,[x],t.S,f.s,.cons rx .nil,.int i,S',e,λv H' c' si st ho rv=>?_⟩
   cases rv
   obtain ⟨f2,s2⟩:=f.after si st ho;have hl2:H' a=some (.lst (x0 :: ws)):=s2.ext.keep a _ g1 g2;have ha2:¬c'.A a:=λz=>g2 (s2.ext.av a _ g1 z);have rs2:=rs'.mono s2.ext;have rx2:=rx.mono s2.ext;exact ⟨i,rfl,SqL.of hl2,O8 f2 (.lst hl2 ha2 (.cons rx2 rs2)) hl2 ha2 rs2 rx2 eq λv H3 c3 f3 s3 rv=>k v H3 c3 f3 (s2.trans s3) rv⟩
  ·cases eq
 ·cases eq
theorem SX {X:Cx}{k:Nat}{fa:Addr}{fd:FuncData}{ps:List Str}{f:M D}{e:Expr}{y:Str}{p p2 kp pos:Pos}(F:FnOk X.prog X.w X.K X.mg X.base CX0 k fa fd ps (spF X.K g))(hr:Room (k + 1) X.A)(hg:Gl X "min")(hm:X.mg "min" = none)(hy:Gl X y)(hmy:X.mg y=some (.ref fa))(hb:Binds X.K fd ps [])(ha:PE X e (RE X.K f))(hdy:(y == ("__debug__" : Str))=false:=by decide)(h1:AM e=false:=by rfl) :
 PE X (.Call (.Name "min" p) [e] [⟨some "key",.Name y p2,kp⟩] pos) (RE X.K (Nx g f)):=
 AH (TZ F hr hg hm hy hmy hb ha hdy (AA h1)) λσ H Q z9=>by
  obtain ⟨Oo,c,t,fi,r,t',eq,kk⟩:=z9;obtain ⟨d,t1,e1,eq⟩:=Ah eq;exact ⟨Oo,c,t,fi,d,t1,e1,λv H1 c1 f1 s1 rv=>O7 f1 rv eq λv H' c' f' s' r'=>kk v H' c' f' (s1.trans s') r'⟩
end
end F2
namespace F2
open PySem L2 PySem.Spec PyProof.Rows
section
variable {K:PySem.W.Frag}
end
abbrev Gd:=Option (Nat×List D)
def Gon (g:Gd)(S:List Ob):Prop:=∀k xs,g=some (k,xs)->S[k]?=some (.lst xs)
def chk (g:Gd):M Unit:=λt=>@ite _ (Gon g t.S) (Classical.propDecidable _) (some ((),t)) none
theorem F8 {g:Gd}{t t':T}{u:Unit}(h:chk g t=some (u,t')):Gon g t.S/\t'=t:=by
 unfold chk at h
 split at h
 ·next q=>cases h;exact ⟨q,rfl⟩
 ·cases h
theorem GN {g:Gd}{t:T}(h:Gon g t.S):chk g t=some ((),t):=by unfold chk;rw [if_pos h]
def compG (g:Gd)(st:D->M Unit)(tst:M Bool)(elt:M D):List D->M (List D)
 | []=>bnd (chk g) λ_=>ret []
 | d :: r=>bnd (chk g) λ_=>bnd (st d) λ_=>bnd tst λk=>if k=true then bnd elt λx=>bnd (compG g st tst elt r) λxs=>ret (x :: xs) else compG g st tst elt r
def Dm (n:Nat)(fr:List Nat)(f:M (Gd×List D))(st:D->M Unit)(tst:M Bool)(elt:M D):M (List D):=bnd f λp t=>match compG p.1 st tst elt p.2 ⟨cenv n fr t.env,t.S⟩ with
 | some (xs,t')=>if xs.length<=LIM then some (xs,{ t with S:=t'.S }) else none
 | none=>none
structure ItOk3 (K:PySem.W.Frag)(J:It)(g:Gd)(c:Cf)(H:Hp)(ds:List D):Prop where
 go:∀c' H' S' (i:Nat),Ext c H c' H'->SInv K c' S' H'->Gon g S'->i < ds.length->J.go i H'
 yld:∀c' H' S' (i:Nat) x H'' d,Ext c H c' H'->SInv K c' S' H'->Gon g S'->ds[i]?=some d->J.yld i H' x H''->∃p vs es,x = .ref p/\H' p=none/\H''=upd H' p (.tup vs)/\d = .tup es/\Reps K c' H' vs es
 stop:∀c' H' S',Ext c H c' H'->SInv K c' S' H'->Gon g S'->J.stop ds.length H'
inductive RI3 (K:PySem.W.Frag)(f:M (Gd×List D))(σ:L2.St)(H:Hp)(R:It->Hp->Prop):Prop where
 | mk (Oo:Addr->Prop) (c:Cf) (t:T) (fi:FInv K Oo c t σ H) (p:Gd×List D) (t':T) (e:f t=some (p,t')) (k:∀J H' c',FInv K Oo c' t' σ H'->Stp Oo c H c' H'->ItOk3 K J p.1 c' H' p.2->R J H'):RI3 K f σ H R
section
variable {X:Cx}{e a b tg iter elt:Expr}{ifs:List Expr}{pos:Pos}{scope:Scope}{N':List Str}{n:Nat}{fr:List Nat}{st:D->M Unit}{tst:M Bool}{el:M D}
end
structure ItOkG (K:PySem.W.Frag)(J:It)(g:Gd)(c:Cf)(H:Hp)(ds:List D):Prop where
 go:∀c' H' S' (i:Nat),Ext c H c' H'->SInv K c' S' H'->Gon g S'->i < ds.length->J.go i H'
 yld:∀c' H' S' (i:Nat) x H'' d,Ext c H c' H'->SInv K c' S' H'->Gon g S'->ds[i]?=some d->J.yld i H' x H''->H''=H'/\Rep K c' H' x d
 stop:∀c' H' S',Ext c H c' H'->SInv K c' S' H'->Gon g S'->J.stop ds.length H'
theorem ItOk.toG {K:PySem.W.Frag}{J:It}{g:Gd}{c:Cf}{H:Hp}{ds:List D}(h:ItOk K J c H ds):ItOkG K J g c H ds:=
 ⟨λc' H' _ i e _ _=>h.go c' H' i e,λc' H' _ i x H'' d e _ _=>h.yld c' H' i x H'' d e,λc' H' _ e _ _=>h.stop c' H' e⟩
def RIG (K:PySem.W.Frag)(f:M (Gd×List D)):TI:=λσ H R=>∃Oo c t,FInv K Oo c t σ H/\∃p t',f t=some (p,t')/\∀J H' c',FInv K Oo c' t' σ H'->Stp Oo c H c' H'->ItOkG K J p.1 c' H' p.2->R J H'
def forG (g:Gd)(st:D->M Unit)(b:M Out):List D->M Out
 | []=>bnd (chk g) λ_=>ret .next
 | d :: r=>bnd (chk g) λ_=>bnd (st d) λ_=>bnd b λo=>match o with
   | .next=>forG g st b r
   | .cont=>forG g st b r
   | .brk=>ret .next
   | .ret x=>ret (.ret x)
def EO (f:M (Gd×List D))(st:D->M Unit)(b:M Out):M Out:=bnd f λp=>forG p.1 st b p.2
theorem RS.forG {μ:Cf->Hp->D->(V->Hp->Prop)->Prop}{K:PySem.W.Frag}{f:M (Gd×List D)}{st:D->M Unit}{b:M Out}{E:Ends}{σ:L2.St}{H:Hp}(q:RSg K μ (EO f st b) E σ H):Rz (RIG K f) (RG K st) (RSg K μ b) E σ H:=by
 obtain ⟨Oo,c,t,fi,o,t',eq,k⟩:=q;obtain ⟨pg,t1,e1,eq⟩:=Ah eq;refine ⟨Oo,c,t,fi,pg,t1,e1,λJ H1 c1 f1 s1 it=>?_⟩;obtain ⟨g,ds⟩:=pg;dsimp only at eq it;refine ⟨λi m σ' H'=>m=ds.length - i/\i<=ds.length/\∃c' t2,FInv K Oo c' t2 σ' H'/\Stp Oo c1 H1 c' H'/\F2.forG g st b (ds.drop i) t2=some (o,t'),⟨_,rfl,up5 _,c1,t1,f1,.refl,by rw [um1];exact eq⟩,?_⟩;rintro i m σ' H' ⟨rfl,hi,c',t2,f2,s2,e2⟩
 by_cases hlt:i < ds.length
 ·rw [ub0 hlt] at e2;unfold F2.forG at e2;obtain ⟨u0,t0,e0,e2⟩:=Ah e2;obtain ⟨hon,ht0⟩:=F8 e0;rw [ht0] at e2;clear e0 ht0;refine .inr ⟨it.go c' H' _ i s2.ext f2.s hon hlt,λσ3 H3=>∃c3 t3,FInv K Oo c3 t3 σ3 H3/\Stp Oo c1 H1 c3 H3/\F2.forG g st b (ds.drop (i + 1)) t3=some (o,t'),λσ3 H3 h=>⟨ds.length - (i + 1),by lia,rfl,hlt,h⟩,λx H'' hy=>?_⟩;obtain ⟨rfl,rx⟩:=it.yld c' H' _ i x H'' _ s2.ext f2.s hon (ub2 hlt) hy;obtain ⟨u,t3,e3,e2⟩:=Ah e2;obtain ⟨o4,t4,e4,e2⟩:=Ah e2;refine ⟨Oo,c',t2,_,f2,rx,t3,e3,λσ3 H3 c3 f3 s3=>?_⟩;refine ⟨Oo,c3,t3,f3,o4,t4,e4,λσ5 H5 c5 f5 s5=>?_⟩;have s':=(s2.trans s3).trans s5
  cases o4 with
  | next=>exact ⟨c5,t4,f5,s',e2⟩
  | cont=>exact ⟨c5,t4,f5,s',e2⟩
  | brk=>cases e2;exact k σ5 H5 c5 f5 (s1.trans s')
  | ret r=>cases e2;exact k σ5 H5 c5 f5 (s1.trans s')
 ·have hi':i=ds.length:=by lia
  subst hi';rw [ui5] at e2;unfold F2.forG at e2;obtain ⟨u0,t0,e0,e2⟩:=Ah e2;obtain ⟨hon,ht0⟩:=F8 e0;rw [ht0] at e2;clear e0 ht0
  cases e2
  exact .inl ⟨it.stop c' H' _ s2.ext f2.s hon,k σ' H' c' f2 (s1.trans s2)⟩
theorem RF.compG {K:PySem.W.Frag}{n:Nat}{fr:List Nat}{f:M (Gd×List D)}{st:D->M Unit}{tst:M Bool}{elt:M D}{σ:L2.St}{H:Hp}{Q:VK}(q:RF K (Dm n fr f st tst elt) σ H Q):Je (RIG K f) (RG K st) (RT K tst) (RE K elt) (DM n fr) σ H Q:=by
 obtain ⟨Oo,c,t,fi,xs,t',eq,k⟩:=q;obtain ⟨pg,t1,e1,eq⟩:=Ah eq;refine ⟨Oo,c,t,fi,pg,t1,e1,λJ H1 c1 f1 s1 it=>?_⟩;obtain ⟨g,ds⟩:=pg;dsimp only at eq it
 cases e3:F2.compG g st tst elt ds ⟨cenv n fr t1.env,t1.S⟩ with
 | none=>rw [e3] at eq;cases eq
 | some p=>
   obtain ⟨ys,t3⟩:=p;rw [e3] at eq;dsimp only at eq
   split at eq
   case isFalse=>cases eq
   next hl=>
   cases eq
   refine ⟨λi m acc σ' H'=>m=ds.length - i/\i<=ds.length/\∃c' t2 zs rest,FInv K c1.O c' t2 σ' H'/\Stp c1.O c1 H1 c' H'/\Reps K c' H' acc zs/\F2.compG g st tst elt (ds.drop i) t2=some (rest,t3)/\xs=zs++rest,
    ⟨_,rfl,up5 _,c1,_,[],xs,Gf f1,.refl,.nil,by rw [um1];exact e3,rfl⟩,?_⟩
   rintro i m acc σ' H' ⟨rfl,hi,c',t2,zs,rest,f2,s2,ra,e2,ez⟩;have hacc:acc.length<=sizeLine:=by
    have:zs.length<=xs.length:=by rw [ez,ug0];exact ui6 _ _
    rw [ra.length];exact un6 this (un6 hl Bu)
   refine ⟨hacc,?_⟩
   by_cases hlt:i < ds.length
   ·rw [ub0 hlt] at e2;unfold F2.compG at e2;obtain ⟨u0,t0,e0,e2⟩:=Ah e2;obtain ⟨hon,ht0⟩:=F8 e0;rw [ht0] at e2;clear e0 ht0;refine .inr ⟨it.go c' H' _ i s2.ext f2.s hon hlt,λx H'' hy=>?_⟩;obtain ⟨rfl,rx⟩:=it.yld c' H' _ i x H'' _ s2.ext f2.s hon (ub2 hlt) hy;obtain ⟨u,t4,e4,e2⟩:=Ah e2;obtain ⟨kb,t5,e5,e2⟩:=Ah e2;refine ⟨c1.O,c',t2,_,f2,rx,t4,e4,λσ3 H3 c3 f3 s3=>⟨c1.O,c3,t4,f3,kb,t5,e5,λH4 c4 f4 s4=>?_⟩⟩
    cases kb with
    | false=>
      rw [if_neg uf7] at e2 ⊢;exact ⟨ds.length - (i + 1),by lia,rfl,hlt,c4,t5,zs,rest,f4,(s2.trans s3).trans s4,ra.mono (s3.trans s4).ext,e2,ez⟩
    | true=>
      rw [if_pos rfl] at e2 ⊢;obtain ⟨x6,t6,e6,e2⟩:=Ah e2;obtain ⟨r7,t7,e7,e2⟩:=Ah e2
      cases e2
      refine ⟨c1.O,c4,t5,f4,x6,t6,e6,λv H5 c5 f5 s5 rv=>?_⟩;exact ⟨ds.length - (i + 1),by lia,rfl,hlt,c5,t6,zs++[x6],r7,f5,((s2.trans s3).trans s4).trans s5,(ra.mono ((s3.trans s4).trans s5).ext).append (.cons rv .nil),e7,by rw [ez,uh0];rfl⟩
   ·have hi':i=ds.length:=by lia
    subst hi';rw [ui5] at e2;unfold F2.compG at e2;obtain ⟨u0,t0,e0,e2⟩:=Ah e2;obtain ⟨hon,ht0⟩:=F8 e0;rw [ht0] at e2;clear e0 ht0
    cases e2
    refine .inl ⟨it.stop c' H' _ s2.ext f2.s hon,λp hp _=>?_⟩;obtain ⟨si,ext⟩:=f2.leave;obtain ⟨f6,s6⟩:=f1.after si ⟨s2.ext.trans ext,s2.oo⟩ (λ_=>Iff.rfl);rw [uk2] at ez;subst ez;exact k p acc H' _ f6 (s1.trans s6) (ra.mono ext) hp
def FP:D->M (Gd×List D)
 | .obj k=>λt=>match t.S[k]? with
   | some (.lst ds)=>some ((some (k,ds),ds),t)
   | _=>none
 | d=>bnd (Dn d) λds=>ret (none,ds)
def EF (f:M D):M (Gd×List D):=bnd f FP
theorem ItOkG.lst {K:PySem.W.Frag}{g:Gd}{c:Cf}{H:Hp}{p:Addr}{ds:List D}(r:∀c' H' S',Ext c H c' H'->SInv K c' S' H'->Gon g S'->∃vs,SqL K H' p vs/\Reps K c' H' vs ds):ItOkG K (Itl K p) g c H ds:=by
 refine ⟨λc' H' S' i ex si on hi=>?_,λc' H' S' i x H'' d ex si on hd hy=>?_,λc' H' S' ex si on=>?_⟩
 ·obtain ⟨vs,h1,h2⟩:=r c' H' S' ex si on;obtain ⟨v,e,_⟩:=h2.at (ub2 hi);exact ⟨vs,v,h1,e⟩
 ·obtain ⟨vs,h1,h2⟩:=r c' H' S' ex si on;obtain ⟨rfl,hx⟩:=hy;exact ⟨rfl,h2.get (hx vs h1) hd⟩
 ·obtain ⟨vs,h1,h2⟩:=r c' H' S' ex si on;exact ⟨vs,h1,by rw [h2.length];exact up3 _⟩
section
variable {X:Cx}{e a b tg iter elt:Expr}{ifs:List Expr}{pos:Pos}{scope:Scope}{N':List Str}{n:Nat}{fr:List Nat}{st:D->M Unit}{tst:M Bool}{el:M D}
theorem Th {μ:Cf->Hp->D->(V->Hp->Prop)->Prop}{body:List Stmt}{f:M (Gd×List D)}{b:M Out}(hp:PassesOwn (model X.prog X.w) X.A X.env X.xe)(hc:X.calm=true)(hi:PI X tg iter (RIG X.K f))(hg:PG X tg (RG X.K st))(hb:PSs X body (RSg X.K μ b))
 (hs:∀x,foldedSetIterable iter X.env x=pure x:=by intro _;rfl):PS X (.For tg iter body [] pos) (RSg X.K μ (EO f st b)):=
 A3 (Py hp hc hi hg hb hs) λ_ _ _ q=>RS.forG q
theorem Ic {f:M (Gd×List D)}(O:CmpOk X scope N' (DM n fr))(hc:X.calm=true)(hi:PI X tg iter (RIG X.K f))
 (hg:∀cl C s2 H2 fp,PG (Bc X N' scope cl C s2 H2 fp) tg (RG X.K st)) (ht:∀cl C s2 H2 fp,PIf (Bc X N' scope cl C s2 H2 fp) ifs (RT X.K tst)) (he:∀cl C s2 H2 fp,PE (Bc X N' scope cl C s2 H2 fp) elt (RE X.K el))
 (hs:∀x,foldedSetIterable iter X.env x=pure x:=by intro _;rfl):PE X (.ListComp elt [⟨tg,iter,ifs,0⟩] scope pos) (RF X.K (Dm n fr f st tst el)):=
 AH (MY O hc hi hg ht he hs) λ_ _ _ q=>RF.compG q
theorem Ta {f:M D}(h:PE X e (RE X.K f)):PI X tg e (RIG X.K (EF f)):=
 GJ (Pp h) λσ H R z=>by
  obtain ⟨Oo,c,t,fi,ds,t',eq,k⟩:=z;obtain ⟨d,t1,e1,eq⟩:=Ah eq;refine ⟨Oo,c,t,fi,d,t1,e1,λv H1 c1 f1 s1 rv=>?_⟩
  cases rv with
  | @obj a kk hk=>
    unfold FP at eq;dsimp only at eq
    split at eq
    ·next es hS=>
     cases eq
     obtain ⟨ws,g1,g3⟩:=f1.s.obs kk a _ hk hS;refine .inl ⟨a,rfl,⟨ws,SqL.of g1⟩,k _ H1 c1 f1 s1 (ItOkG.lst λc' H' S' ex si on=>?_)⟩;obtain ⟨us,q1,q2⟩:=si.obs kk a _ (ex.io _ _ hk) (on kk es rfl);exact ⟨us,SqL.of q1,q2⟩
    ·cases eq
  | @lst p vs ds' h1 h2 h3=>
    cases eq
    exact .inl ⟨p,rfl,⟨vs,SqL.of h1⟩,k _ H1 c1 f1 s1 (ItOk.toG (ItOk.lst λc' H' ex=>⟨vs,SqL.of (ex.keep _ _ h1 h2),h3.mono ex⟩))⟩
  | @scr p ns h1=>
    cases eq
    exact .inl ⟨p,rfl,⟨_,h1.sq⟩,k _ H1 c1 f1 s1 (ItOk.toG (ItOk.lst λc' H' ex=>⟨_,(h1.mono ex).sq,Reps.ints ns⟩))⟩
  | @tup p vs ds' h1 h2 h3=>
    cases eq
    exact .inr (.inl ⟨p,rfl,⟨vs,SqT.of h1⟩,k _ H1 c1 f1 s1 (ItOk.toG (ItOk.tup λc' H' ex=>⟨vs,SqT.of (ex.keep _ _ h1 h2),h3.mono ex⟩))⟩)
  | str x=>
    cases eq
    exact .inr (.inr ⟨x,rfl,k _ H1 c1 f1 s1 (ItOk.toG ItOk.str)⟩)
  | _=>cases eq
end
def BS (S:List Ob):Nat->D->D
 | 0,d=>d
 | n + 1,.obj k=>match S[k]? with
   | some (.lst ds)=>.lst (ds.map (BS S n))
   | _=>.obj k
 | n + 1,.tup ds=>.tup (ds.map (BS S n))
 | n + 1,.lst ds=>.lst (ds.map (BS S n))
 | _ + 1,d=>d
def eqO (g:Bool->Bool)(x y:D):M D:=λt=>if (Bg (BS t.S 16 x) && Bg (BS t.S 16 y))=true then (eqN EQD (BS t.S 16 x) (BS t.S 16 y)).map λb=>(.bl (g b),t) else none
theorem Ir {K:PySem.W.Frag}{c:Cf}{S:List Ob}{H:Hp}(s:SInv K c S H):∀(n:Nat) {v:V} {d:D},Rep K c H v d->Bg (BS S n d)=true->Rep K c0 H v (BS S n d)
 | 0,v,d,r,p=>Dp r (by simpa only [BS] using p)
 | n + 1,v,d,r,p=>by
   have row:∀{vs:List V} {ds:List D},Reps K c H vs ds->Gv (ds.map (BS S n))=true->Reps K c0 H vs (ds.map (BS S n)):=by
    intro vs ds q
    induction ds generalizing vs with
    | nil=>intro _;cases q;exact .nil
    | cons d ds ih=>
      intro p
      cases q with
      | cons a b=>
        rw [um8,Gv,ui2] at p;exact .cons (Ir s n a p.1) (ih b p.2)
   cases r with
   | @obj a k hk=>
     unfold BS at p ⊢
     split
     ·next ds e=>
      rw [e] at p;obtain ⟨vs,h1,h2⟩:=s.obs k a _ hk e;exact .lst h1 (GM _) (row h2 (by simpa [Bg] using p))
     ·next h=>
      split at p
      ·next ds e=>exact absurd e (h ds)
      ·simp [Bg] at p
   | tup h m q=>rw [BS] at p ⊢;exact .tup h (GM _) (row q (by simpa only [Bg] using p))
   | lst h m q=>rw [BS] at p ⊢;exact .lst h (GM _) (row q (by simpa only [Bg] using p))
   | non=>exact .non
   | bl b=>exact .bl b
   | int b=>exact .int b
   | str b=>exact .str b
   | ty b=>exact .ty b
   | scr h=>exact Dp (c:=c) (.scr h) p
   | dic h n=>exact Dp (.dic h n) p
   | exc a b n f q=>exact Dp (.exc a b n f q) p
theorem Uj {K:PySem.W.Frag}{g:Bool->Bool}:A1 K (NV K g) (eqO g):=λ{Oo c t σ H x y dx dy r t' Q} f rx ry eq k=>by
 unfold eqO at eq
 split at eq
 ·next hp=>
  rw [ui2] at hp;obtain ⟨b,e1,e2⟩:=uc2.mp eq
  cases e2
  exact ⟨c0,_,_,b,Ir f.s 16 rx hp.1,Ir f.s 16 ry hp.2,e1,k _ H c f .refl (.bl (g b))⟩
 ·cases eq
end F2
namespace LW
open PySem L2 F2
def C6 (K9:Fn):M Out:=
 (Ak (A5 (Ae K9 (Aa (Ab 0) Ad)) (Ci (Ab 1) (Ab 0) (Ab 2) leA leA)))
def LD (Js K7 K6 K8 CQ:Fn):M Out:=
 (Ag (Aq 2 (Ac (Ab 0) (fC (.int 0)) ixD))
 (Ag (ifS (Aj (Ac (Ab 2) (fC (.str "nothing")) (eqS id)))
   (Ak (Ac (Ab 1) (fC .non) isC))
   Am)
 (Ag (ifS (Aj (Ac (Ab 2) (fC (.str "number")) (eqS id)))
   (Ak (Ae CQ (Aa (Ab 1) (Aa (Ac (Ab 0) (fC (.int 1)) ixD) (Aa (Ac (Ab 0) (fC (.int 2)) ixD) Ad)))))
   Am)
 (Ag (ifS (Aj (Ac (Ab 2) (fC (.str "text")) (eqS id)))
   (Ak (Ae K8 (Aa (Ab 0) (Aa (Ab 1) Ad))))
   Am)
 (Ag (ifS (Aj (Ac (Ab 2) (fC (.str "list")) (eqS id)))
   (Ak (Ae K6 (Aa (Ab 0) (Aa (Ab 1) Ad))))
   Am)
 (Ag (ifS (Aj (Ac (Ab 2) (fC (.str "pair")) (eqS id)))
   (Ak (Ae K7 (Aa (Ab 0) (Aa (Ab 1) Ad))))
   Am)
 (Ak (Ae Js (Aa (Ab 0) (Aa (Ab 1) Ad))))))))))
def G2:M Out:=
 (Ak (A5 (Ci (fC (.int 32)) (Ab 0) (fC (.int 126)) leA leA) (Ac (Ab 0) (fC (.int 37)) (eqS λb=>!b))))
def EI:M Out:=
 (Ak (Ac (Ac (fUn (Ab 0) IH) (fC (.int 7)) Aw) (fC (.int 8)) Fo))
def Eh (Nu:Fn):M Out:=
 (Gz (AF 1 [0,1] (Fm (Aa (fC (.int 1)) (Aa (Ac (Ab 1) (fC (.int 1)) Aw) Ad))) (Ao 0) Bt (Ac (Ae Nu (Aa (Ab 1) (Aa (Ac (Ab 2) (Ab 0) Cs) Ad))) (fC (.int 256)) EJ)))
def G4:M Out:=
 (Ak (Ac (Ab 0) (Ac (fC (.int 8)) (Ab 1) EK) L7))
def FA (BH HJ:Fn):M Out:=
 (Ag (Aq 2 (Ac (Ab 0) (fC (.int 0)) ixD))
 (Ag (ifS (Aj (Ac (Ab 2) (Ac (Ab 1) (fC (.int 0)) ixD) (eqS λb=>!b)))
   (Ak (fC (.bl false)))
   Am)
 (Ag (ifS (Aj (Ac (Ab 2) (fC (.str "nothing")) (eqS id)))
   (Ak (fC (.bl true)))
   Am)
 (Ag (ifS (Aj (Ac (Ab 2) (fC (.str "number")) (eqS id)))
   (Ak (A5 (Ac (Ac (Ab 0) (fC (.int 1)) ixD) (Ac (Ab 1) (fC (.int 1)) ixD) (eqS id)) (A5 (Ac (Ae HJ (Aa (Ab 0) Ad)) (Ae HJ (Aa (Ab 1) Ad)) (eqS id)) (Ac (Ac (Ab 0) (fC (.int 2)) ixD) (Ac (Ab 1) (fC (.int 2)) ixD) leA))))
   Am)
 (Ag (ifS (Aj (Ac (Ab 2) (fC (.str "text")) (eqS id)))
   (Ak (Ac (Ac (Ab 0) (fC (.int 1)) ixD) (Ac (Ab 1) (fC (.int 1)) ixD) leA))
   Am)
 (Ag (ifS (Aj (Ac (Ab 2) (fC (.str "list")) (eqS id)))
   (Ak (A5 (Ac (Ac (Ab 0) (fC (.int 2)) ixD) (Ac (Ab 1) (fC (.int 2)) ixD) leA) (GU (Ac (Ac (Ab 0) (fC (.int 2)) ixD) (fC (.int 0)) (eqS id)) (Ae BH (Aa (Ac (Ab 0) (fC (.int 1)) ixD) (Aa (Ac (Ab 1) (fC (.int 1)) ixD) Ad))))))
   Am)
 (Ag (ifS (Aj (Ac (Ab 2) (fC (.str "pair")) (eqS id)))
   (Ak (A5 (Ae BH (Aa (Ac (Ab 0) (fC (.int 1)) ixD) (Aa (Ac (Ab 1) (fC (.int 1)) ixD) Ad))) (Ae BH (Aa (Ac (Ab 0) (fC (.int 2)) ixD) (Aa (Ac (Ab 1) (fC (.int 2)) ixD) Ad)))))
   Am)
 (Ak (A5 (Ac (fB (Aa (Ac (Ab 0) (fC (.int 1)) ixD) Ad) AC) (fB (Aa (Ac (Ab 1) (fC (.int 1)) ixD) Ad) AC) leA) (fB (Aa (Ap (AF 1 [0,1] (BB (Aa (fB (Aa (Ac (Ab 0) (fC (.int 1)) ixD) Ad) AC) Ad)) (Ao 0) Bt (Ae BH (Aa (Ac (Ac (Ab 1) (fC (.int 1)) ixD) (Ab 0) ixD) (Aa (Ac (Ac (Ab 2) (fC (.int 1)) ixD) (Ab 0) ixD) Ad))))) Ad) Jq))))))))))
def Go (D2:Fn):M Out:=
 (Ak (Ae D2 (Aa (Ac (Ac (Ab 0) (fC (.int 2)) ixD) (Ac (Ab 0) (fC (.int 1)) ixD) Cs) Ad)))
def E6:M Out:=
 (Ag (Aq 2 (fC (.int 0)))
 (Ag (ifS (Aj (Ac (Ab 1) (fB (Aa (Ab 0) Ad) AC) ltA))
   (Aq 2 (Ac (Ab 0) (Ab 1) ixD))
   Am)
 (Ag (ifS (Aj (Ac (Ab 2) (Ac (fC (.int 10)) (fC (.int 18)) Fb) geA))
   (Ak (D5 (AI (Aa (Ac (Ab 2) (Ac (fC (.int 10)) (fC (.int 18)) Fb) Cs) (Aa (fC (.int 1)) (Aa (fC (.int 0)) Ad))))))
   Am)
 (Ak (D5 (AI (Aa (Ab 2) (Aa (fC (.int 0)) (Aa (Ac (fC (.int 13)) (Ab 1) EK) Ad)))))))))
def DT:M Out:=
 (Ag (ifS (Aj (Ac (Ac (Ab 0) (fC (.int 1)) ixD) (fC (.int 1)) (eqS id)))
   (Ag (Aq 2 (Ac (Ac (Ab 0) (fC (.int 0)) ixD) (Ab 1) EJ))
 (Ag (EC (Ac (Ac (Ab 0) (fC (.int 0)) ixD) (Ab 1) Hj) (stD (Ab 0) (fC (.int 0))))
 (Ak (Ab 2))))
   Am)
 (Ag (EC (Ac (Ac (Ab 0) (fC (.int 2)) ixD) (fC (.int 1)) Aw) (stD (Ab 0) (fC (.int 2))))
 (Ag (Aq 3 (Ac (Ab 0) (fC (.int 2)) ixD))
 (Ag (Aq 4 (Ac (Ac (Ac (Ac (Ab 0) (fC (.int 0)) ixD) (fC (.int 9999999769)) EJ) (fC (.int 733)) Aw) (Ac (Ac (fC (.int 9)) (Ab 3) FB) (fC (.int 31)) Aw) FB))
 (Ag (Aq 4 (Ac (Ab 4) (Ac (Ac (fC (.int 2917)) (Ab 3) FB) (Ab 3) FB) Aw))
 (Ag (Aq 4 (Ac (Ac (Ab 4) (Ab 4) FB) (fC (.int 99999999821)) EJ))
 (Ak (Ac (Ac (Ac (Ac (Ab 4) (Ac (Ab 4) (fC (.int 17)) Aw) FB) (fC (.int 99999999947)) EJ) (fC (.int 61)) Hj) (Ab 1) EJ))))))))
def DQ (Ai:Fn):M Out:=
 (Ag (Aq 1 (Ae Ai (Aa (Ab 0) (Aa (fC (.int 6)) Ad))))
 (Ag (ifS (Aj (Ac (Ab 1) (fC (.int 0)) (eqS id)))
   (Ak (Av (Aa (fC (.str "nothing")) Ad)))
   Am)
 (Ag (ifS (Aj (Ac (Ab 1) (fC (.int 1)) (eqS id)))
   (Ak (Av (Aa (fC (.str "text")) (Aa (Ac (Ap (AI (Aa (Ae Ai (Aa (Ab 0) (Aa (fC (.int 4)) Ad))) (Aa (Ae Ai (Aa (Ab 0) (Aa (fC (.int 251)) Ad))) (Aa (fC (.int 250)) Ad))))) (Ae Ai (Aa (Ab 0) (Aa (fC (.int 3)) Ad))) ixD) Ad))))
   Am)
 (Ag (Aq 2 (Ac (Ap (AI (Aa (Ac (Ae Ai (Aa (Ab 0) (Aa (fC (.int 9)) Ad))) (fC (.int 4)) Cs) (Aa (Ac (Ae Ai (Aa (Ab 0) (Aa (Ac (fC (.int 2)) (Ac (fC (.int 10)) (fC (.int 17)) Fb) EK) Ad))) (Ac (fC (.int 10)) (fC (.int 17)) Fb) Cs) Ad)))) (Ae Ai (Aa (Ab 0) (Aa (fC (.int 2)) Ad))) ixD))
 (Ag (Aq 3 (Ap (AI (Aa (fC (.int 0)) (Aa (fC (.int 1)) (Aa (Ac (fC (.int 254)) (Ae Ai (Aa (Ab 0) (Aa (fC (.int 4)) Ad))) Aw) (Aa (Ac (fC (.int 65534)) (Ae Ai (Aa (Ab 0) (Aa (fC (.int 4)) Ad))) Aw) (Aa (Ae Ai (Aa (Ab 0) (Aa (fC (.int 1000)) Ad))) Ad))))))))
 (Ak (Av (Aa (fC (.str "number")) (Aa (Ab 2) (Aa (Ac (Ab 2) (Ac (Ac (Ab 3) (Ap (AI (Aa (Ae Ai (Aa (Ab 0) (Aa (Ac (fC (.int 10)) (fC (.int 17)) Fb) Ad))) Ad))) Aw) (Ae Ai (Aa (Ab 0) (Aa (fC (.int 6)) Ad))) ixD) Aw) Ad))))))))))
def Ea (AB:Fn):M Out:=
 (Ag (Aq 1 (Ae AB (Aa (Ab 0) Ad)))
 (Ag (CK (BB (Aa (fC (.int 3)) Ad)) (Ao 2)
   (Aq 1 (Av (Aa (fC (.str "pair")) (Aa (Ae AB (Aa (Ab 0) Ad)) (Aa (Ab 1) Ad))))))
 (Ak (Ab 1))))
def E5 (Ai De AB:Fn):M Out:=
 (Ag (Ce 1 (AI Ad))
 (Ag (CK (BB (Aa (Ac (fC (.int 4)) (Ae Ai (Aa (Ab 0) (Aa (fC (.int 5)) Ad))) Aw) Ad)) (Ao 2)
   (Ag (Aq 3 (Ae AB (Aa (Ab 0) Ad)))
 (Ag (Aq 4 (Ae AB (Aa (Ab 0) Ad)))
 (Ag (Aq 5 (Ap (AI (Aa (Ab 3) (Aa (Av (Aa (fC (.str "pair")) (Aa (Ab 3) (Aa (Ab 4) Ad)))) (Aa (Av (Aa (fC (.str "list")) (Aa (Ab 3) (Aa (Ae Ai (Aa (Ab 0) (Aa (fC (.int 4)) Ad))) Ad)))) (Aa (Av (Aa (fC (.str "choice")) (Aa (Av (Aa (Ab 3) (Aa (Ab 4) Ad))) Ad))) Ad)))))))
 (ownM 1 Dj (Aa (Ac (Ac (Ab 5) (Ap (AI (Aa (Ae De (Aa (Ab 0) Ad)) Ad))) Aw) (Ae Ai (Aa (Ab 0) (Aa (fC (.int 5)) Ad))) ixD) Ad))))))
 (Ak (Av (Aa (fC (.str "choice")) (Aa (fB (Aa (Ab 1) Ad) GC) Ad))))))
def Dz (Ai De AB DK:Fn):M Out:=
 (Ag (Aq 1 (Ae DK (Aa (Ab 0) (Aa (Ae Ai (Aa (Ab 0) (Aa (fC (.int 4)) Ad))) Ad))))
 (Ag (CK (BB (Aa (Ac (Ap (AI (Aa (fC (.int 0)) (Aa (fC (.int 0)) (Aa (fC (.int 1)) (Aa (fC (.int 2)) Ad)))))) (Ae Ai (Aa (Ab 0) (Aa (fC (.int 4)) Ad))) ixD) Ad)) (Ao 2)
   (Ag (Aq 3 (Ae AB (Aa (Ab 0) Ad)))
 (Ag (Aq 4 (Ap (AI (Aa (Av (Aa (fC (.str "list")) (Aa (Ab 1) (Aa (Ae Ai (Aa (Ab 0) (Aa (fC (.int 4)) Ad))) Ad)))) (Aa (Av (Aa (fC (.str "pair")) (Aa (Ab 3) (Aa (Ab 1) Ad)))) (Aa (Av (Aa (fC (.str "pair")) (Aa (Ab 1) (Aa (Ab 3) Ad)))) Ad))))))
 (Aq 1 (Ac (Ac (Ab 4) (Ap (AI (Aa (Av (Aa (fC (.str "choice")) (Aa (Av (Aa (Ab 3) (Aa (Ab 1) Ad))) Ad))) (Aa (Av (Aa (fC (.str "choice")) (Aa (Av (Aa (Ab 1) (Aa (Ab 3) Ad))) Ad))) Ad)))) Aw) (Ae Ai (Aa (Ab 0) (Aa (fC (.int 5)) Ad))) ixD)))))
 (Ag (ifS (Aj (Ac (Ae Ai (Aa (Ab 0) (Aa (fC (.int 8)) Ad))) (fC (.int 0)) (eqS id)))
   (Aq 1 (Av (Aa (fC (.str "pair")) (Aa (Ae De (Aa (Ab 0) Ad)) (Aa (Ae De (Aa (Ab 0) Ad)) Ad)))))
   Am)
 (Ak (Ab 1)))))
def Cy (Ai:Fn):M Out:=
 (Ag (Aq 3 (Ap (AI (Aa (Av (Aa (Ab 1) (Aa (Ac (Ab 2) (fC (.int 1)) Aw) Ad))) (Aa (Av (Aa (Ab 1) (Aa (Ac (Ab 2) (fC (.int 1)) Cs) Ad))) (Aa (Av (Aa (Ac (Ab 1) (fC (.int 1)) Cs) (Aa (Ab 2) Ad))) (Aa (Av (Aa (Ac (Ab 1) (fC (.int 1)) Aw) (Aa (Ab 2) Ad))) (Aa (Av (Aa (Ab 1) (Aa (Ac (Ab 2) (fC (.int 255)) Aw) Ad))) (Aa (Av (Aa (Ab 1) (Aa (Ab 1) Ad))) Ad)))))))))
 (Ag (EC (Ac (Ab 3) (Ae Ai (Aa (Ab 0) (Aa (fC (.int 6)) Ad))) ixD) (unS 2 (Bx (Ao 4) (Bx (Ao 5) EB))))
 (Ak (Av (Aa (fC (.str "number")) (Aa (fB (Aa (Ab 4) (Aa (Ab 5) Ad)) Gp) (Aa (Ab 5) Ad)))))))
def Cw (Bd Ai AB:Fn):M Out:=
 (Ag (Aq 2 (Ae Ai (Aa (Ab 0) (Aa (fC (.int 4)) Ad))))
 (Ag (ifS (D4 (Aj (Ac (Ab 2) (fC (.int 0)) (eqS id))) (Aj (Ac (fB (Aa (Ab 1) Ad) AC) (fC (.int 1)) gtA)))
   (Ak (Av (Aa (fC (.str "choice")) (Aa (fSl (Ab 1) fNo (Cd (fUn (fC (.int 1)) Ik)) BU) Ad))))
   Am)
 (Ag (ifS (D4 (Aj (Ac (Ab 2) (fC (.int 1)) (eqS id))) (Aj (Ac (fB (Aa (Ab 1) Ad) AC) (fC (.int 9)) ltA)))
   (Ak (Av (Aa (fC (.str "choice")) (Aa (Ac (Ab 1) (Av (Aa (Ae AB (Aa (Ab 0) Ad)) Ad)) Aw) Ad))))
   Am)
 (Ag (Aq 3 (Ae Ai (Aa (Ab 0) (Aa (fB (Aa (Ab 1) Ad) AC) Ad))))
 (Ag (CK (BB (Aa (fB (Aa (Ab 1) Ad) AC) Ad)) (Ao 4)
   (ifS (D4 (Aj (Ac (Ab 2) (fC (.int 2)) (eqS id))) (Aj (Ac (Ac (Ac (Ab 1) (Ab 4) ixD) (fC (.int 0)) ixD) (Ap (AI (Aa (fC (.str "list")) (Aa (fC (.str "pair")) (Aa (fC (.str "choice")) Ad))))) (inD false))))
   (Aq 3 (Ab 4))
   Am))
 (Ak (Av (Aa (fC (.str "choice")) (Aa (Ac (Ac (fSl (Ab 1) fNo (Cd (Ab 3)) BU) (Av (Aa (Ae Bd (Aa (Ab 0) (Aa (Ac (Ab 1) (Ab 3) ixD) Ad))) Ad)) Aw) (fSl (Ab 1) (Cd (Ac (Ab 3) (fC (.int 1)) Aw)) fNo BU) Aw) Ad)))))))))
def Eb (Ai Bd FJ FK AB:Fn):M Out:=
 (Ag (ifS (fOr (Aj (Ac (Ac (Ab 1) (fC (.int 0)) ixD) (fC (.str "nothing")) (eqS id))) (Aj (Ac (Ae Ai (Aa (Ab 0) (Aa (fC (.int 8)) Ad))) (fC (.int 0)) (eqS id))))
   (Ak (Ae AB (Aa (Ab 0) Ad)))
   Am)
 (Ag (ifS (Aj (Ac (Ac (Ab 1) (fC (.int 0)) ixD) (fC (.str "number")) (eqS id)))
   (Ak (Ae FK (Aa (Ab 0) (Aa (Ac (Ab 1) (fC (.int 1)) ixD) (Aa (Ac (Ab 1) (fC (.int 2)) ixD) Ad)))))
   Am)
 (Ag (ifS (Aj (Ac (Ac (Ab 1) (fC (.int 0)) ixD) (fC (.str "choice")) (eqS id)))
   (Ak (Ae FJ (Aa (Ab 0) (Aa (Ac (Ab 1) (fC (.int 1)) ixD) Ad))))
   Am)
 (Ag (ifS (Aj (Ac (Ac (Ab 1) (fC (.int 0)) ixD) (fC (.str "pair")) (eqS id)))
   (Ag (Aq 2 (Ac (fC (.int 1)) (Ae Ai (Aa (Ab 0) (Aa (fC (.int 2)) Ad))) Aw))
 (Ak (Ac (Ac (fSl (Ab 1) fNo (Cd (Ab 2)) BU) (Av (Aa (Ae Bd (Aa (Ab 0) (Aa (Ac (Ab 1) (Ab 2) ixD) Ad))) Ad)) Aw) (fSl (Ab 1) (Cd (Ac (Ab 2) (fC (.int 1)) Aw)) fNo BU) Aw)))
   Am)
 (Ag (ifS (D4 (Aj (Ac (Ac (Ab 1) (fC (.int 0)) ixD) (fC (.str "list")) (eqS id))) (Aj (Ac (Ae Ai (Aa (Ab 0) (Aa (fC (.int 3)) Ad))) (fC (.int 0)) gtA)))
   (Ak (Av (Aa (fC (.str "list")) (Aa (Ae Bd (Aa (Ab 0) (Aa (Ac (Ab 1) (fC (.int 1)) ixD) Ad))) (Aa (Ac (Ab 1) (fC (.int 2)) ixD) Ad)))))
   Am)
 (Ak (Ac (fSl (Ab 1) fNo (Cd (fUn (fC (.int 1)) Ik)) BU) (Av (Aa (fB (Aa (fC (.int 0)) (Aa (fB (Aa (fC (.int 250)) (Aa (Ac (Ac (Ac (Ab 1) (fUn (fC (.int 1)) Ik) ixD) (Ae Ai (Aa (Ab 0) (Aa (fC (.int 5)) Ad))) Aw) (fC (.int 2)) Cs) Ad)) Gp) Ad)) Ii) Ad)) Aw)))))))
def Dk:M Out:=
 (Ag (Aq 2 (fC (.int 0)))
 (Ag (Aq 3 (Ac (Ab 1) (Ab 0) Cs))
 (Ag (Mf (Aj (Ac (Ab 3) (fC (.int 0)) gtA))
   (Ag (Aq 3 (Ac (Ab 3) (fC (.int 256)) Fo))
 (Aq 2 (Ac (Ab 2) (fC (.int 1)) Aw))))
 (Ak (Ab 2)))))
def Ec (B2 Dd:Fn):M Out:=
 (Ag (ifS (Aj (Ac (Ac (Ab 0) (fC (.int 0)) ixD) (Ac (Ab 1) (fC (.int 0)) ixD) (eqS λb=>!b)))
   (Ak (fC (.bl false)))
   Am)
 (Ag (ifS (Aj (Ac (Ac (Ab 0) (fC (.int 0)) ixD) (fC (.str "number")) (eqS id)))
   (Ak (A5 (Ac (Ac (Ab 0) (fC (.int 1)) ixD) (Ac (Ab 1) (fC (.int 1)) ixD) (eqS id)) (A5 (Ac (Ac (Ab 0) (fC (.int 2)) ixD) (Ac (Ab 1) (fC (.int 2)) ixD) leA) (Ac (Ae Dd (Aa (Ac (Ab 0) (fC (.int 1)) ixD) (Aa (Ac (Ab 0) (fC (.int 2)) ixD) Ad))) (Ae Dd (Aa (Ac (Ab 1) (fC (.int 1)) ixD) (Aa (Ac (Ab 1) (fC (.int 2)) ixD) Ad))) (eqS id)))))
   Am)
 (Ag (ifS (Aj (Ac (Ac (Ab 0) (fC (.int 0)) ixD) (fC (.str "text")) (eqS id)))
   (Ak (Ac (Ac (Ab 0) (fC (.int 1)) ixD) (Ac (Ab 1) (fC (.int 1)) ixD) leA))
   Am)
 (Ag (ifS (Aj (Ac (Ac (Ab 0) (fC (.int 0)) ixD) (fC (.str "list")) (eqS id)))
   (Ak (A5 (Ac (Ac (Ab 0) (fC (.int 2)) ixD) (Ac (Ab 1) (fC (.int 2)) ixD) leA) (GU (Ac (Ac (Ab 0) (fC (.int 2)) ixD) (fC (.int 0)) (eqS id)) (Ae B2 (Aa (Ac (Ab 0) (fC (.int 1)) ixD) (Aa (Ac (Ab 1) (fC (.int 1)) ixD) Ad))))))
   Am)
 (Ag (ifS (Aj (Ac (Ac (Ab 0) (fC (.int 0)) ixD) (fC (.str "pair")) (eqS id)))
   (Ak (A5 (Ae B2 (Aa (Ac (Ab 0) (fC (.int 1)) ixD) (Aa (Ac (Ab 1) (fC (.int 1)) ixD) Ad))) (Ae B2 (Aa (Ac (Ab 0) (fC (.int 2)) ixD) (Aa (Ac (Ab 1) (fC (.int 2)) ixD) Ad)))))
   Am)
 (Ag (ifS (Aj (Ac (Ac (Ab 0) (fC (.int 0)) ixD) (fC (.str "choice")) (eqS id)))
   (Ag (Aq 2 (Ap (AF 2 [] (Qr (Aa (Ac (Ab 0) (fC (.int 1)) ixD) (Aa (Ac (Ab 1) (fC (.int 1)) ixD) Ad))) (unS 2 (Bx (Ao 0) (Bx (Ao 1) EB))) Bt (Ae B2 (Aa (Ab 0) (Aa (Ab 1) Ad))))))
 (Ak (A5 (Ac (fB (Aa (Ac (Ab 0) (fC (.int 1)) ixD) Ad) AC) (fB (Aa (Ac (Ab 1) (fC (.int 1)) ixD) Ad) AC) leA) (Ac (fC (.bl false)) (Ab 2) (inD true)))))
   Am)
 (Ak (fC (.bl true)))))))))
def Fz (Ai GG Bd:Fn):M Out:=
 (Ag (Aq 1 (Ae GG (Aa (Ab 0) Ad)))
 (Ag (Aq 2 (Ab 1))
 (Ag (CK (BB (Aa (Ae Ai (Aa (Ab 0) (Aa (fC (.int 4)) Ad))) Ad)) (Ao 3)
   (Aq 2 (Ae Bd (Aa (Ab 0) (Aa (Ab 2) Ad)))))
 (Ag (ifS (Aj (Ac (Ae Ai (Aa (Ab 0) (Aa (fC (.int 4)) Ad))) (fC (.int 0)) (eqS id)))
   (Aq 2 (Ae GG (Aa (Ab 0) Ad)))
   Am)
 (Ak (Ac (Ap (AI (Aa (Av (Aa (Ab 1) (Aa (Ab 2) Ad))) (Aa (Av (Aa (Ab 2) (Aa (Ab 1) Ad))) Ad)))) (Ae Ai (Aa (Ab 0) (Aa (fC (.int 2)) Ad))) ixD))))))
def EG (Ai Bd K4:Fn):M Out:=
 (Ag (Aq 1 (Ae K4 (Aa (Ab 0) Ad)))
 (Ag (Ce 2 (fBF (Aa (Ac (Ab 1) (fC (.int 1)) ixD) Ad) Ih))
 (Ag (CK (BB (Aa (Ac (fC (.int 1)) (Ae Ai (Aa (Ab 0) (Aa (fC (.int 2)) Ad))) Aw) Ad)) (Ao 3)
   (Ag (Aq 4 (Ae Ai (Aa (Ab 0) (Aa (ES 2) Ad))))
 (EC (Ae Bd (Aa (Ab 0) (Aa (FM 2 (Ab 4)) Ad))) (Hz 2 (Ab 4)))))
 (Ak (Av (Aa (Ab 1) (Aa (Av (Aa (fC (.str "choice")) (Aa (fB (Aa (Ab 2) Ad) GC) Ad))) Ad)))))))
def Ey (CT HY Fs BH:Fn):M Out:=
 (Ag (ifS (Aj (Ae BH (Aa (Ab 0) (Aa (Ab 1) Ad))))
   (Ha "NoValue" (Aa (fC (.str "each value of the shape has the same bytes by the other one")) Ad))
   Am)
 (Ak (nxD (Ae Fs (Aa (Ap (AF 1 [0,1] (CW (Ae CT (Aa (Ab 0) (Aa (Ab 1) Ad)))) (Ao 0) (Aj (Ae HY (Aa (Ab 1) (Aa (Ab 2) (Aa (Ab 0) Ad))))) (Ab 0))) Ad)))))
def DU (DH Bb:Fn):M Out:=
 (Ak (GU (EL (Ae DH (Aa (Ab 1) (Aa (Ab 2) Ad)))) (Ac (Ap (CV Bb (Aa (Ab 0) (Aa (Ab 2) Ad)))) (Ap (CV Bb (Aa (Ab 1) (Aa (Ab 2) Ad)))) (eqS λb=>!b))))
def Dh (IJ Ko Kn BH AL:Fn):M Out:=
 (Ag (Aq 2 (Ac (Ab 0) (fC (.int 0)) ixD))
 (Ag (ifS (Aj (Ac (Ab 2) (Ac (Ab 1) (fC (.int 0)) ixD) (eqS λb=>!b)))
   (Ak (Ap (AI (Aa (Ae AL (Aa (Ab 0) Ad)) Ad))))
   Am)
 (Ag (ifS (Aj (Ae BH (Aa (Ab 0) (Aa (Ab 1) Ad))))
   (Ak (Ap (AI Ad)))
   Am)
 (Ag (ifS (Aj (Ac (Ab 2) (fC (.str "number")) (eqS id)))
   (Ak (Ap (AI (Aa (Ac (Ab 0) (fC (.int 1)) ixD) (Aa (Ac (Ab 0) (fC (.int 2)) ixD) Ad)))))
   Am)
 (Ag (ifS (Aj (Ac (Ab 2) (fC (.str "text")) (eqS id)))
   (Ak (Ap (AI (Aa (Ac (fC (.str "a")) (Ac (Ac (Ab 1) (fC (.int 1)) ixD) (fC (.int 1)) Aw) EK) Ad))))
   Am)
 (Ag (ifS (Aj (Ac (Ab 2) (fC (.str "list")) (eqS id)))
   (Ak (Ae Kn (Aa (Ab 0) (Aa (Ab 1) Ad))))
   Am)
 (Ag (ifS (Aj (Ac (Ab 2) (fC (.str "pair")) (eqS id)))
   (Ak (Ae Ko (Aa (Ab 0) (Aa (Ab 1) Ad))))
   Am)
 (Ak (Ae IJ (Aa (Ab 0) (Aa (Ab 1) Ad)))))))))))
def E7 (CT AL:Fn):M Out:=
 (Ag (Ce 2 (AF 1 [0] (CW (Ae CT (Aa (Ac (Ab 0) (fC (.int 1)) ixD) (Aa (Ac (Ab 1) (fC (.int 1)) ixD) Ad)))) (Ao 0) Bt (Av (Aa (Ab 0) (Aa (Ae AL (Aa (Ac (Ab 1) (fC (.int 2)) ixD) Ad)) Ad)))))
 (Ag (ownM 2 Fw (Aa (Ap (AF 1 [0] (CW (Ae CT (Aa (Ac (Ab 0) (fC (.int 2)) ixD) (Aa (Ac (Ab 1) (fC (.int 2)) ixD) Ad)))) (Ao 0) Bt (Av (Aa (Ae AL (Aa (Ac (Ab 1) (fC (.int 1)) ixD) Ad)) (Aa (Ab 0) Ad))))) Ad))
 (Ak (Ab 2))))
def D9 (CT AL:Fn):M Out:=
 (Ag (Ce 2 (AF 1 [0] (Fm (Aa (fB (Aa (Ac (Ab 1) (fC (.int 1)) ixD) Ad) AC) (Aa (fB (Aa (Ac (Ab 0) (fC (.int 1)) ixD) Ad) AC) Ad))) (Ao 0) Bt (Av (Aa (fC (.str "of")) (Aa (Ab 0) (Aa (Ae AL (Aa (Ac (Ac (Ab 1) (fC (.int 1)) ixD) (Ab 0) ixD) Ad)) Ad))))))
 (Ag (CK (BB (Aa (fB (Aa (fB (Aa (Ac (Ab 0) (fC (.int 1)) ixD) Ad) AC) (Aa (fB (Aa (Ac (Ab 1) (fC (.int 1)) ixD) Ad) AC) Ad)) Gp) Ad)) (Ao 3)
   (ownM 2 Fw (Aa (Ap (AF 1 [3] (CW (Ae CT (Aa (Ac (Ac (Ab 0) (fC (.int 1)) ixD) (Ab 3) ixD) (Aa (Ac (Ac (Ab 1) (fC (.int 1)) ixD) (Ab 3) ixD) Ad)))) (Ao 0) Bt (Av (Aa (fC (.str "of")) (Aa (Ab 1) (Aa (Ab 0) Ad)))))) Ad)))
 (Ak (Ab 2))))
def Gn (Cu:Fn):M Out:=
 (Ak (Nx Cu (Ab 0)))
def Eg:M Out:=
 (Ak (A5 (fB (Aa (Ab 0) (Aa (fC (.ty "int")) Ad)) Bw) (EL (fB (Aa (Ab 0) (Aa (fC (.ty "bool")) Ad)) Bw))))
def Ef (Nt:Fn):M Out:=
 (Ag (ifS (fOr (Br (Aj (fB (Aa (Ab 1) (Aa (fC (.ty "str")) Ad)) Bw))) (Aj (Ac (fB (Aa (Ab 1) Ad) AC) (Ac (Ab 0) (fC (.int 1)) ixD) gtA)))
   (Ak (fC (.bl false)))
   Am)
 (Ag (CK (CW (Ab 1)) (Ao 2)
   (ifS (Br (Aj (Ae Nt (Aa (fB (Aa (Ab 2) Ad) Gu) Ad))))
   (Ak (fC (.bl false)))
   Am))
 (Ak (fC (.bl true)))))
def Ed (DH:Fn):M Out:=
 (Ag (ifS (fOr (Br (Aj (fB (Aa (Ab 1) (Aa (fC (.ty "list")) Ad)) Bw))) (Aj (Ac (fB (Aa (Ab 1) Ad) AC) (Ac (Ab 0) (fC (.int 2)) ixD) gtA)))
   (Ak (fC (.bl false)))
   Am)
 (Ag (EO (EF (Ab 1)) (Ao 2)
   (ifS (Br (Aj (Ae DH (Aa (Ac (Ab 0) (fC (.int 1)) ixD) (Aa (Ab 2) Ad)))))
   (Ak (fC (.bl false)))
   Am))
 (Ak (fC (.bl true)))))
def Ee (DH:Fn):M Out:=
 (Ag (ifS (fOr (Br (Aj (fB (Aa (Ab 1) (Aa (fC (.ty "tuple")) Ad)) Bw))) (Aj (Ac (fB (Aa (Ab 1) Ad) AC) (fC (.int 2)) (eqS λb=>!b))))
   (Ak (fC (.bl false)))
   Am)
 (Ak (A5 (Ae DH (Aa (Ac (Ab 0) (fC (.int 1)) ixD) (Aa (Ac (Ab 1) (fC (.int 0)) ixD) Ad))) (Ae DH (Aa (Ac (Ab 0) (fC (.int 2)) ixD) (Aa (Ac (Ab 1) (fC (.int 1)) ixD) Ad))))))
def DA (DH CQ:Fn):M Out:=
 (Ag (ifS (fOr (Br (Aj (fB (Aa (Ab 1) (Aa (fC (.ty "tuple")) Ad)) Bw))) (Aj (Ac (fB (Aa (Ab 1) Ad) AC) (fC (.int 3)) (eqS λb=>!b))))
   (Ak (fC (.bl false)))
   Am)
 (Ag (ifS (fOr (Br (Aj (fB (Aa (Ac (Ab 1) (fC (.int 0)) ixD) (Aa (fC (.ty "str")) Ad)) D8))) (Aj (Ac (Ac (Ab 1) (fC (.int 0)) ixD) (fC (.str "of")) (eqS λb=>!b))))
   (Ak (fC (.bl false)))
   Am)
 (Ag (ifS (Br (Aj (Ae CQ (Aa (Ac (Ab 1) (fC (.int 1)) ixD) (Aa (fC (.int 0)) (Aa (Ac (fB (Aa (Ac (Ab 0) (fC (.int 1)) ixD) Ad) AC) (fC (.int 1)) Cs) Ad))))))
   (Ak (fC (.bl false)))
   Am)
 (Ak (Ae DH (Aa (Ac (Ac (Ab 0) (fC (.int 1)) ixD) (Ac (Ab 1) (fC (.int 1)) ixD) ixD) (Aa (Ac (Ab 1) (fC (.int 2)) ixD) Ad)))))))
def C5 (Bb D2 IM:Fn):M Out:=
 (Ag (Aq 2 (Ac (Ab 0) (fC (.int 0)) ixD))
 (Ag (ifS (Aj (Ac (Ab 2) (fC (.str "nothing")) (eqS id)))
   (Gz (AI Ad))
   Am)
 (Ag (ifS (Aj (Ac (Ab 2) (fC (.str "number")) (eqS id)))
   (Gz (CV IM (Aa (Ac (Ab 1) (Ac (Ab 0) (fC (.int 1)) ixD) Cs) (Aa (Ae D2 (Aa (Ac (Ac (Ab 0) (fC (.int 2)) ixD) (Ac (Ab 0) (fC (.int 1)) ixD) Cs) Ad)) Ad))))
   Am)
 (Ag (ifS (Aj (Ac (Ab 2) (fC (.str "text")) (eqS id)))
   (Gz (bnd (Ap (AI (Aa (fB (Aa (Ab 1) Ad) AC) Ad))) λx=>bnd (Ap (AF 1 [] (CW (Ab 1)) (Ao 0) Bt (fB (Aa (Ab 0) Ad) Gu))) λy=>Fu x y))
   Am)
 (Ag (ifS (Aj (Ac (Ab 2) (fC (.str "list")) (eqS id)))
   (Ag (Ce 3 (AI (Aa (fB (Aa (Ab 1) Ad) AC) Ad)))
 (Ag (EO (EF (Ab 1)) (Ao 4)
   (ownM 3 Fw (Aa (Ap (CV Bb (Aa (Ac (Ab 0) (fC (.int 1)) ixD) (Aa (Ab 4) Ad)))) Ad)))
 (FY 3)))
   Am)
 (Ag (ifS (Aj (Ac (Ab 2) (fC (.str "pair")) (eqS id)))
   (Gz (bnd (Ap (CV Bb (Aa (Ac (Ab 0) (fC (.int 1)) ixD) (Aa (Ac (Ab 1) (fC (.int 0)) ixD) Ad)))) λx=>bnd (Ap (CV Bb (Aa (Ac (Ab 0) (fC (.int 2)) ixD) (Aa (Ac (Ab 1) (fC (.int 1)) ixD) Ad)))) λy=>Fu x y))
   Am)
 (Gz (bnd (Ap (AI (Aa (Ac (Ab 1) (fC (.int 1)) ixD) Ad))) λx=>bnd (Ap (CV Bb (Aa (Ac (Ac (Ab 0) (fC (.int 1)) ixD) (Ac (Ab 1) (fC (.int 1)) ixD) ixD) (Aa (Ac (Ab 1) (fC (.int 2)) ixD) Ad)))) λy=>Fu x y))))))))
def CS (AL CT:Fn):M Out:=
 (Ag (Ce 2 (AF 1 [] (CW (Ae CT (Aa (Ac (Ab 0) (fC (.int 1)) ixD) (Aa (Ac (Ab 1) (fC (.int 1)) ixD) Ad)))) (Ao 0) Bt (D5 (AI (Aa (Ab 0) Ad)))))
 (Ag (ifS (Aj (Ac (Ac (Ab 0) (fC (.int 2)) ixD) (Ac (Ab 1) (fC (.int 2)) ixD) gtA))
   (ownM 2 Dj (Aa (D5 (AF 1 [0] (BB (Aa (Ac (Ac (Ab 1) (fC (.int 2)) ixD) (fC (.int 1)) Aw) Ad)) (Ao 0) Bt (Ae AL (Aa (Ac (Ab 1) (fC (.int 1)) ixD) Ad)))) Ad))
   Am)
 (Ak (Ab 2))))
def A0 (AL Fs:Fn):M Out:=
 (Ag (Aq 1 (Ac (Ab 0) (fC (.int 0)) ixD))
 (Ag (ifS (Aj (Ac (Ab 1) (fC (.str "nothing")) (eqS id)))
   (Ak (fC .non))
   Am)
 (Ag (ifS (Aj (Ac (Ab 1) (fC (.str "number")) (eqS id)))
   (Ak (Ac (Ab 0) (fC (.int 1)) ixD))
   Am)
 (Ag (ifS (Aj (Ac (Ab 1) (fC (.str "text")) (eqS id)))
   (Ak (fC (.str "")))
   Am)
 (Ag (ifS (Aj (Ac (Ab 1) (fC (.str "list")) (eqS id)))
   (Ak (D5 (AI Ad)))
   Am)
 (Ag (ifS (Aj (Ac (Ab 1) (fC (.str "pair")) (eqS id)))
   (Ak (Av (Aa (Ae AL (Aa (Ac (Ab 0) (fC (.int 1)) ixD) Ad)) (Aa (Ae AL (Aa (Ac (Ab 0) (fC (.int 2)) ixD) Ad)) Ad))))
   Am)
 (Ak (Ae Fs (Aa (Ap (AF 1 [0] (BB (Aa (fB (Aa (Ac (Ab 0) (fC (.int 1)) ixD) Ad) AC) Ad)) (Ao 0) Bt (Av (Aa (fC (.str "of")) (Aa (Ab 0) (Aa (Ae AL (Aa (Ac (Ac (Ab 1) (fC (.int 1)) ixD) (Ab 0) ixD) Ad)) Ad)))))) Ad)))))))))
def Bf (Cu:Fn):M Out:=
 (Ag (ifS (Aj (fB (Aa (Ab 0) (Aa (fC (.ty "list")) Ad)) Bw))
   (Ak (Ac (fC (.int 1)) (fB (Aa (Ap (Dm 1 [] (EF (Ab 0)) (Ao 0) Bt (Ae Cu (Aa (Ab 0) Ad)))) Ad) JH) Aw))
   Am)
 (Ag (ifS (Br (Aj (fB (Aa (Ab 0) (Aa (fC (.ty "tuple")) Ad)) Bw)))
   (Ak (fC (.int 1)))
   Am)
 (Ag (ifS (Aj (Ac (fB (Aa (Ab 0) Ad) AC) (fC (.int 2)) (eqS id)))
   (Ak (Ac (Ac (fC (.int 1)) (Ae Cu (Aa (Ac (Ab 0) (fC (.int 0)) ixD) Ad)) Aw) (Ae Cu (Aa (Ac (Ab 0) (fC (.int 1)) ixD) Ad)) Aw))
   Am)
 (Ak (Ac (fC (.int 1)) (Ae Cu (Aa (Ac (Ab 0) (fC (.int 2)) ixD) Ad)) Aw)))))
def DR (Ai AB DK:Fn):M Out:=
 (Ag (Aq 2 (Ae Ai (Aa (Ab 0) (Aa (fC (.int 8)) Ad))))
 (Ag (ifS (fOr (Aj (Ac (Ab 1) (fC (.int 0)) (eqS id))) (Aj (Ac (Ab 2) (fC (.int 3)) ltA)))
   (Ak (Ae AB (Aa (Ab 0) Ad)))
   Am)
 (Ag (Aq 3 (Ae DK (Aa (Ab 0) (Aa (Ac (Ab 1) (fC (.int 1)) Cs) Ad))))
 (Ag (ifS (Aj (Ac (Ab 2) (fC (.int 3)) (eqS id)))
   (Ak (Av (Aa (fC (.str "list")) (Aa (Ab 3) (Aa (Ae Ai (Aa (Ab 0) (Aa (fC (.int 4)) Ad))) Ad)))))
   Am)
 (Ag (ifS (Aj (Ac (Ab 2) (fC (.int 6)) ltA))
   (Ak (Av (Aa (fC (.str "pair")) (Aa (Ab 3) (Aa (Ae DK (Aa (Ab 0) (Aa (Ac (Ab 1) (fC (.int 1)) Cs) Ad))) Ad)))))
   Am)
 (Ag (Aq 4 (Ap (AF 1 [0] (BB (Aa (Ae Ai (Aa (Ab 0) (Aa (fC (.int 9)) Ad))) Ad)) (Ao 0) Bt (Ae AB (Aa (Ab 1) Ad)))))
 (Ag (Aq 5 (Ae Ai (Aa (Ab 0) (Aa (Ac (fB (Aa (Ab 4) Ad) AC) (fC (.int 1)) Aw) Ad))))
 (Ak (Av (Aa (fC (.str "choice")) (Aa (fB (Aa (Ac (Ac (fSl (Ab 4) fNo (Cd (Ab 5)) BU) (Ap (AI (Aa (Ab 3) Ad))) Aw) (fSl (Ab 4) (Cd (Ab 5)) fNo BU) Aw) Ad) GC) Ad)))))))))))
def EH:M Out:=
 (Ak (Ac (Ap (AF 1 [] (CW (Ab 0)) (Ao 0) (fOr (Br (Aj (Ci (fC (.str " ")) (Ab 0) (fC (.str "~")) leA leA))) (Aj (Ac (fB (Aa (Ab 0) Ad) Gu) (fC (.int 37)) (eqS id)))) (Ab 0))) (Ap (AI Ad)) (eqS id)))
def DP (B5 Km:Fn):M Out:=
 (Ag (ifS (Aj (Ac (Ac (Ab 0) (fC (.int 0)) ixD) (fC (.str "nothing")) (eqS id)))
   (Ak (Ac (Ab 1) (fC .non) isC))
   Am)
 (Ag (ifS (Aj (Ac (Ac (Ab 0) (fC (.int 0)) ixD) (fC (.str "number")) (eqS id)))
   (Ak (A5 (fB (Aa (Ab 1) (Aa (fC (.ty "int")) Ad)) Bw) (A5 (EL (fB (Aa (Ab 1) (Aa (fC (.ty "bool")) Ad)) Bw)) (Ci (Ac (Ab 0) (fC (.int 1)) ixD) (Ab 1) (Ac (Ab 0) (fC (.int 2)) ixD) leA leA))))
   Am)
 (Ag (ifS (Aj (Ac (Ac (Ab 0) (fC (.int 0)) ixD) (fC (.str "text")) (eqS id)))
   (Ak (A5 (fB (Aa (Ab 1) (Aa (fC (.ty "str")) Ad)) Bw) (A5 (Ac (fB (Aa (Ab 1) Ad) AC) (Ac (Ab 0) (fC (.int 1)) ixD) leA) (Ae Km (Aa (Ab 1) Ad)))))
   Am)
 (Ag (ifS (Aj (Ac (Ac (Ab 0) (fC (.int 0)) ixD) (fC (.str "list")) (eqS id)))
   (Ag (ifS (fOr (Br (Aj (fB (Aa (Ab 1) (Aa (fC (.ty "list")) Ad)) Bw))) (Aj (Ac (fB (Aa (Ab 1) Ad) AC) (Ac (Ab 0) (fC (.int 2)) ixD) gtA)))
   (Ak (fC (.bl false)))
   Am)
 (Ak (Ac (Ap (Dm 1 [0] (EF (Ab 1)) (Ao 0) (Br (Aj (Ae B5 (Aa (Ac (Ab 1) (fC (.int 1)) ixD) (Aa (Ab 0) Ad))))) (Ab 0))) (Ap (AI Ad)) (eqS id))))
   Am)
 (Ag (ifS (fOr (Br (Aj (fB (Aa (Ab 1) (Aa (fC (.ty "tuple")) Ad)) Bw))) (Aj (Ac (fB (Aa (Ab 1) Ad) AC) (Ac (Ap (AI (Aa (fC (.int 3)) (Aa (fC (.int 2)) Ad)))) (fB (Aa (Ac (Ac (Ab 0) (fC (.int 0)) ixD) (fC (.str "pair")) (eqS id)) Ad) Jx) ixD) (eqS λb=>!b))))
   (Ak (fC (.bl false)))
   Am)
 (Ag (ifS (Aj (Ac (Ac (Ab 0) (fC (.int 0)) ixD) (fC (.str "pair")) (eqS id)))
   (Ak (A5 (Ae B5 (Aa (Ac (Ab 0) (fC (.int 1)) ixD) (Aa (Ac (Ab 1) (fC (.int 0)) ixD) Ad))) (Ae B5 (Aa (Ac (Ab 0) (fC (.int 2)) ixD) (Aa (Ac (Ab 1) (fC (.int 1)) ixD) Ad)))))
   Am)
 (Ag (ifS (fOr (Aj (Ac (Ac (Ab 1) (fC (.int 0)) ixD) (fC (.str "of")) (eqS λb=>!b))) (fOr (Br (Aj (fB (Aa (Ac (Ab 1) (fC (.int 1)) ixD) (Aa (fC (.ty "int")) Ad)) D8))) (Aj (fB (Aa (Ac (Ab 1) (fC (.int 1)) ixD) (Aa (fC (.ty "bool")) Ad)) D8))))
   (Ak (fC (.bl false)))
   Am)
 (Ak (A5 (Ci (fC (.int 0)) (Ac (Ab 1) (fC (.int 1)) ixD) (fB (Aa (Ac (Ab 0) (fC (.int 1)) ixD) Ad) AC) leA ltA) (Ae B5 (Aa (Ac (Ac (Ab 0) (fC (.int 1)) ixD) (Ac (Ab 1) (fC (.int 1)) ixD) ixD) (Aa (Ac (Ab 1) (fC (.int 2)) ixD) Ad))))))))))))
def Dx (BK Dd:Fn):M Out:=
 (Ag (ifS (Aj (Ac (Ac (Ab 0) (fC (.int 0)) ixD) (fC (.str "nothing")) (eqS id)))
   (Ak (Ap (AI Ad)))
   Am)
 (Ag (ifS (Aj (Ac (Ac (Ab 0) (fC (.int 0)) ixD) (fC (.str "number")) (eqS id)))
   (Ag (Ce 2 (AI Ad))
 (Ag (Aq 3 (Ac (Ab 1) (Ac (Ab 0) (fC (.int 1)) ixD) Cs))
 (Ag (CK (BB (Aa (Ae Dd (Aa (Ac (Ab 0) (fC (.int 1)) ixD) (Aa (Ac (Ab 0) (fC (.int 2)) ixD) Ad))) Ad)) (Ao 4)
   (Ag (ownM 2 Ie (Aa (fC (.int 0)) (Aa (Ac (Ab 3) (fC (.int 256)) EJ) Ad)))
 (Aq 3 (Ac (Ab 3) (fC (.int 256)) Fo))))
 (Ak (Ab 2)))))
   Am)
 (Ag (ifS (Aj (Ac (Ac (Ab 0) (fC (.int 0)) ixD) (fC (.str "text")) (eqS id)))
   (Ak (Ac (Ap (AI (Aa (fB (Aa (Ab 1) Ad) AC) Ad))) (Ap (AF 1 [] (CW (Ab 1)) (Ao 0) Bt (fB (Aa (Ab 0) Ad) Gu))) Aw))
   Am)
 (Ag (ifS (Aj (Ac (Ac (Ab 0) (fC (.int 0)) ixD) (fC (.str "list")) (eqS id)))
   (Ag (Ce 2 (AI (Aa (fB (Aa (Ab 1) Ad) AC) Ad)))
 (Ag (EO (EF (Ab 1)) (Ao 5)
   (Ce 2 (bnd (Ab 2) λx=>bnd (Ae BK (Aa (Ac (Ab 0) (fC (.int 1)) ixD) (Aa (Ab 5) Ad))) λy=>Fu x y)))
 (Ak (Ab 2))))
   Am)
 (Ag (ifS (Aj (Ac (Ac (Ab 0) (fC (.int 0)) ixD) (fC (.str "pair")) (eqS id)))
   (Ak (Ac (Ae BK (Aa (Ac (Ab 0) (fC (.int 1)) ixD) (Aa (Ac (Ab 1) (fC (.int 0)) ixD) Ad))) (Ae BK (Aa (Ac (Ab 0) (fC (.int 2)) ixD) (Aa (Ac (Ab 1) (fC (.int 1)) ixD) Ad))) Aw))
   Am)
 (Ak (Ac (Ap (AI (Aa (Ac (Ab 1) (fC (.int 1)) ixD) Ad))) (Ae BK (Aa (Ac (Ac (Ab 0) (fC (.int 1)) ixD) (Ac (Ab 1) (fC (.int 1)) ixD) ixD) (Aa (Ac (Ab 1) (fC (.int 2)) ixD) Ad))) Aw)))))))
def C4 (Df:Fn):M Out:=
 (Ag (Aq 2 (fC .non))
 (Ag (Fg (KA (Ae Df (Aa (Ab 0) (Aa (Ab 1) Ad)))) (hAs "ParleyError" 3 (Aq 2 (Ab 3)) VR))
 (Ag (ifS (fOr (Br (Aj (bnd (Ab 2) (Fy "NoValue")))) (Br (Aj (bnd (Ab 2) (Fy "ValueError")))))
   (Ak (fC (.bl false)))
   Am)
 (Ak (EL (bnd (Ab 2) (Hl ["Broken", "NoName", "NoRow", "NoTalk", "NoText", "Short"])))))))
def C3 (DJ:Fn):M Out:=
 (Ag (ifS (Aj (fB (Aa (Ab 0) (Aa (fC (.ty "list")) Ad)) Bw))
   (Ak (Ap (Dm 1 [] (EF (Ab 0)) (Ao 0) Bt (Ae DJ (Aa (Ab 0) Ad)))))
   Am)
 (Ag (ifS (Aj (fB (Aa (Ab 0) (Aa (fC (.ty "tuple")) Ad)) Bw))
   (Ak (fB (Aa (Ap (Dm 1 [] (EF (Ab 0)) (Ao 0) Bt (Ae DJ (Aa (Ab 0) Ad)))) Ad) GC))
   Am)
 (Ak (Ab 0))))
def B9 (EE:Fn):M Out:=
 (Ag (ifS (fOr (Aj (fB (Aa (Ab 0) (Aa (fC (.ty "list")) Ad)) Bw)) (Aj (fB (Aa (Ab 0) (Aa (fC (.ty "tuple")) Ad)) Bw)))
   (EO (EF (Ab 0)) (Ao 1)
   (Dr (Ae EE (Aa (Ab 1) Ad))))
   Am)
 (ifS (Aj (fB (Aa (Ab 0) (Aa (fC (.ty "list")) Ad)) Bw))
   (Dr (objM Dj (Ab 0) (Aa (fC (.str "x")) Ad)))
   Am))
def Dy (Df EE DJ B5 BK B2 IK:Fn):M Out:=
 (Ag (ifS (Aj (Ae B2 (Aa (Ab 0) (Aa (Ab 1) Ad))))
   (Ak (Ae IK (Aa (Ab 0) (Aa (Ab 1) Ad))))
   Am)
 (Ag (Aq 2 (Ae (Ei Df) (Aa (Ab 0) (Aa (Ab 1) Ad))))
 (Ag (ifS (fOr (Br (Aj (Ae B5 (Aa (Ab 0) (Aa (Ab 2) Ad))))) (D4 (Aj (Ae B5 (Aa (Ab 1) (Aa (Ab 2) Ad)))) (Aj (Ac (Ae BK (Aa (Ab 0) (Aa (Ab 2) Ad))) (Ae BK (Aa (Ab 1) (Aa (Ab 2) Ad))) (eqS id)))))
   (Ak (fC (.bl false)))
   Am)
 (Ag (Aq 3 (Ae DJ (Aa (Ab 2) Ad)))
 (Ag (Dr (Ae EE (Aa (Ab 2) Ad)))
 (Ak (Ac (Ae (Ei Df) (Aa (Ab 0) (Aa (Ab 1) Ad))) (Ab 3) (eqO id))))))))
def CN (ED:Fn):M Out:=
 (Ag (Ce 1 (AI Ad))
 (Ag (ifS (Aj (fB (Aa (Ab 0) (Aa (fC (.ty "list")) Ad)) Bw))
   (ownM 1 Dj (Aa (Ab 0) Ad))
   Am)
 (Ag (ifS (fOr (Aj (fB (Aa (Ab 0) (Aa (fC (.ty "list")) Ad)) Bw)) (Aj (fB (Aa (Ab 0) (Aa (fC (.ty "tuple")) Ad)) Bw)))
   (EO (EF (Ab 0)) (Ao 2)
   (Ce 1 (bnd (Ab 1) λx=>bnd (Ae ED (Aa (Ab 2) Ad)) λy=>Fu x y)))
   Am)
 (Ak (Ab 1)))))
def Dw (Df ED Ai AB:Fn):M Out:=
 (Ag (Aq 1 (Av (Aa (fC (.str "list")) (Aa (Ae AB (Aa (Ab 0) Ad)) (Aa (fC (.int 3)) Ad)))))
 (Ag (Aq 2 (Ap (AI (Aa (Ab 1) (Aa (Av (Aa (fC (.str "pair")) (Aa (Av (Aa (fC (.str "nothing")) Ad)) (Aa (Ab 1) Ad)))) (Aa (Av (Aa (fC (.str "pair")) (Aa (Ab 1) (Aa (Ab 1) Ad)))) (Aa (Av (Aa (fC (.str "choice")) (Aa (Av (Aa (Ab 1) (Aa (Ab 1) Ad))) Ad))) Ad)))))))
 (Ag (Aq 3 (Ac (Ab 2) (Ae Ai (Aa (Ab 0) (Aa (fC (.int 4)) Ad))) ixD))
 (Ag (Aq 4 (Ac (fC (.int 1)) (Ae Ai (Aa (Ab 0) (Aa (fC (.int 9)) Ad))) Aw))
 (Ag (Aq 5 (Av (Aa (fC (.str "list")) (Aa (Ab 3) (Aa (Ac (Ac (Ab 4) (fC (.int 1)) Aw) (Ae Ai (Aa (Ab 0) (Aa (fC (.int 5)) Ad))) Aw) Ad)))))
 (Ag (Aq 6 (Ae ED (Aa (Ae (Ei Df) (Aa (Ab 5) (Aa (Av (Aa (fC (.str "list")) (Aa (Ab 3) (Aa (Ab 4) Ad)))) Ad))) Ad)))
 (Ag (Aq 7 (Ap (AF 1 [] (CW (Ab 6)) (Ao 0) Bt (fB (Aa (Ab 0) Ad) AC))))
 (Ag (CK (CW (Ab 6)) (Ao 8)
   (Dr (objM Dj (Ab 8) (Aa (fC (.str "x")) Ad))))
 (Ak (A5 (Ac (fB (Aa (Ab 6) Ad) AC) (Ac (Ab 4) (fC (.int 1)) Aw) gtA) (Ac (Ap (AF 1 [] (CW (Ab 6)) (Ao 0) Bt (Ac (fB (Aa (Ab 0) Ad) AC) (fC (.int 1)) Cs))) (Ab 7) (eqS id))))))))))))
def DS (Ai:Fn):M Out:=
 (Ag (Aq 1 (Ac (Ap (AI (Aa (fC (.int 0)) (Aa (fC (.int 1)) (Aa (fC (.int 255)) (Aa (fC (.int 256)) (Aa (fC (.int 65535)) Ad))))))) (Ae Ai (Aa (Ab 0) (Aa (fC (.int 5)) Ad))) ixD))
 (Ag (Aq 2 (Av (Aa (fC (.str "number")) (Aa (fC (.int 0)) (Aa (Ab 1) Ad)))))
 (Ag (Aq 3 (Av (Aa (fC (.str "number")) (Aa (fC (.int 0)) (Aa (Ac (Ap (AI (Aa (fC (.int 255)) (Aa (fC (.int 256)) (Aa (fC (.int 65536)) Ad))))) (Ae Ai (Aa (Ab 0) (Aa (fC (.int 3)) Ad))) ixD) Ad)))))
 (Ak (Ap (AI (Aa (Av (Aa (fC (.str "pair")) (Aa (Ab 2) (Aa (Ab 3) Ad)))) (Aa (Av (Aa (fC (.str "pair")) (Aa (Ab 3) (Aa (Ab 2) Ad)))) Ad))))))))
def G3 (Ai Cg Kk AB Kl IL Mh K5:Fn):M Out:=
 (Ag (CK (BB (Aa (fB (Aa (fC (.int 1)) (Aa (fB (Aa (fC (.int 20)) (Aa (fB (Aa (Ab 0) Ad) AC) Ad)) Gp) Ad)) Ii) Ad)) (Ao 1)
   (Ag (Aq 2 (Ae K5 (Aa (Ab 0) (Aa (Ab 1) Ad))))
 (Ag (EC (Ae Mh (Aa (Ab 2) Ad)) (unS 2 (Bx (Ao 3) (Bx (Ao 4) EB))))
 (Ag (EC (Ae IL (Aa (Ab 2) Ad)) (unS 2 (Bx (Ao 5) (Bx (Ao 6) EB))))
 (Ag (EC (Ae Kl (Aa (Ab 2) Ad)) (unS 2 (Bx (Ao 7) (Bx (Ao 8) EB))))
 (Ag (ifS (fOr (Br (Aj (Ae Cg (Aa (Ab 7) (Aa (Ab 8) Ad))))) (Br (Aj (Ae Cg (Aa (Ab 8) (Aa (Ab 7) Ad))))))
   (Ak (fC (.bl false)))
   Am)
 (Ag (ifS (fOr (Br (Aj (Ae Cg (Aa (Ab 3) (Aa (Ab 4) Ad))))) (fOr (Br (Aj (Ae Cg (Aa (Ab 5) (Aa (Ab 6) Ad))))) (Br (Aj (Ae Cg (Aa (Ab 6) (Aa (Ab 5) Ad)))))))
   (Ak (fC (.bl false)))
   Am)
 (Ag (Aq 9 (Ae AB (Aa (Ab 2) Ad)))
 (Ag (ifS (Br (Aj (Ae Kk (Aa (Ab 2) Ad))))
   (Ak (fC (.bl false)))
   Am)
 (ifS (Br (Aj (Ae Cg (Aa (Av (Aa (fC (.str "list")) (Aa (Ab 9) (Aa (Ae Ai (Aa (Ab 2) (Aa (fC (.int 151)) Ad))) Ad)))) (Aa (Av (Aa (fC (.str "list")) (Aa (Ab 9) (Aa (Ae Ai (Aa (Ab 2) (Aa (fC (.int 151)) Ad))) Ad)))) Ad)))))
   (Ak (fC (.bl false)))
   Am))))))))))
 (Ak (fC (.bl true))))
end LW
namespace F2
open PySem L2
def W {α:Type}(m:M α)(t:T)(P:α->T->Prop):Prop:=∃a t',m t=some (a,t')/\P a t'
def Wf (g:Fn)(ds:List D)(S:List Ob)(P:D->List Ob->Prop):Prop:=∃r S',g ds S=some (r,S')/\P r S'
theorem W.mono {α:Type}{m:M α}{t:T}{P Q:α->T->Prop}(h:W m t P)(i:∀a t',P a t'->Q a t'):W m t Q:=by
 obtain ⟨a,t',e,p⟩:=h;exact ⟨a,t',e,i a t' p⟩
theorem Wf.mono {g:Fn}{ds:List D}{S:List Ob}{P Q:D->List Ob->Prop}(h:Wf g ds S P)(i:∀r S',P r S'->Q r S'):Wf g ds S Q:=by
 obtain ⟨a,t',e,p⟩:=h;exact ⟨a,t',e,i a t' p⟩
section
variable {α β:Type}
theorem Ar {m:M α}{t:T}{P:α->T->Prop}{a:α}{t':T}(e:m t=some (a,t')):W m t P↔P a t':=by
 constructor
 ·rintro ⟨a',t1,e',p⟩;rw [e] at e';cases e';exact p
 ·exact λp=>⟨a,t',e,p⟩
theorem Dl {m:M α}{t:T}{P:α->T->Prop}(e:m t=none):W m t P↔False:=by
 constructor
 ·rintro ⟨a',t1,e',p⟩;rw [e] at e';cases e'
 ·exact False.elim
@[simp] theorem W_ret {a:α} {t:T} {P:α->T->Prop}:W (ret a) t P↔P a t:=Ar rfl
@[simp] theorem W_fail {t:T} {P:α->T->Prop}:W (fail:M α) t P↔False:=Dl rfl
@[simp] theorem W_bnd {f:M α} {g:α->M β} {t:T} {P:β->T->Prop}:W (bnd f g) t P↔W f t λa t1=>W (g a) t1 P:=by
 constructor
 ·rintro ⟨b,t',e,p⟩;obtain ⟨a,t1,e1,e2⟩:=Ah e;exact ⟨a,t1,e1,b,t',e2,p⟩
 ·rintro ⟨a,t1,e1,b,t',e2,p⟩;exact ⟨b,t',by unfold bnd;rw [e1];exact e2,p⟩
@[simp] theorem R9 {c:Prop} [Decidable c] {f g:M α} {t:T} {P:α->T->Prop}:W (if c then f else g) t P↔if c then W f t P else W g t P:=by split <;> rfl
@[simp] theorem Z7 {n:Nat} {a:α} {t:T} {P:α->T->Prop}:W (lim n a) t P↔n<=LIM/\P a t:=by
 unfold lim;constructor
 ·rintro ⟨a',t',e,p⟩
  split at e
  ·cases e;exact ⟨by assumption,p⟩
  ·cases e
 ·rintro ⟨h,p⟩;exact ⟨a,t,by simp only [h,if_true],p⟩
end
variable {t:T}{env:List (Option Sl)}{S:List Ob}
@[simp] theorem W_fC {d:D} {P:D->T->Prop}:W (fC d) t P↔P d t:=Ar rfl
@[simp] theorem On {i:Nat} {P:D->T->Prop}:W (Ab i) t P↔match t.env[i]? with
 | some (some (.val d))=>P d t
 | some (some (.own ds))=>P (.lst ds) ⟨t.env.set i (some (.val (.lst ds))),t.S⟩
 | _=>False:=by
 cases e:t.env[i]? with
 | none=>exact Dl (by unfold Ab;simp [e])
 | some o=>
   cases o with
   | none=>exact Dl (by unfold Ab;simp [e])
   | some sl=>
     cases sl with
     | val d=>exact Ar (by unfold Ab;simp [e])
     | own ds=>exact Ar (by unfold Ab;simp [e])
@[simp] theorem W_fBin {f g:M D} {h:D->D->M D} {P:D->T->Prop}:W (Ac f g h) t P↔W f t λx t1=>W g t1 λy t2=>W (h x y) t2 P:=by simp [Ac]
@[simp] theorem W_fUn {f:M D} {h:D->M D} {P:D->T->Prop}:W (fUn f h) t P↔W f t λx t1=>W (h x) t1 P:=by simp [fUn]
@[simp] theorem W_toB {b:Bool} {P:Bool->T->Prop}:W (toB (.bl b)) t P↔P b t:=Ar rfl
@[simp] theorem W_fTst {f:M D} {P:Bool->T->Prop}:W (Aj f) t P↔W f t λx t1=>W (toB x) t1 P:=by simp [Aj]
@[simp] theorem W_fChain {f g w:M D} {h h':D->D->M D} {P:D->T->Prop}:W (Ci f g w h h') t P↔W f t λx t1=>W g t1 λy t2=>W (h x y) t2 λk t3=>W (toB k) t3 λk t4=>if k=true then W w t4 λz t5=>W (h' y z) t5 P else P (.bl false) t4:=by
 simp [Ci]
@[simp] theorem W_fAnd {f g:M Bool} {P:Bool->T->Prop}:W (D4 f g) t P↔W f t λk t1=>if k=true then W g t1 P else P false t1:=by simp [D4]
@[simp] theorem W_fOr {f g:M Bool} {P:Bool->T->Prop}:W (fOr f g) t P↔W f t λk t1=>if k=true then P true t1 else W g t1 P:=by simp [fOr]
@[simp] theorem W_fNot {f:M Bool} {P:Bool->T->Prop}:W (Br f) t P↔W f t λk t1=>P (!k) t1:=by simp [Br]
@[simp] theorem W_fAndV {f g:M D} {P:D->T->Prop}:W (A5 f g) t P↔W f t λx t1=>W (toB x) t1 λk t2=>if k=true then W g t2 P else P (.bl false) t2:=by simp [A5]
@[simp] theorem W_fOrV {f g:M D} {P:D->T->Prop}:W (GU f g) t P↔W f t λx t1=>W (toB x) t1 λk t2=>if k=true then P (.bl true) t2 else W g t2 P:=by simp [GU]
@[simp] theorem W_fNotV {f:M D} {P:D->T->Prop}:W (EL f) t P↔W f t λx t1=>W (toB x) t1 λk t2=>P (.bl (!k)) t2:=by simp [EL]
@[simp] theorem Z6 {f:M Bool} {g h:M D} {P:D->T->Prop}:W (fIf f g h) t P↔W f t λk t1=>if k=true then W g t1 P else W h t1 P:=by simp [fIf]
@[simp] theorem W_fNil {P:List D->T->Prop}:W Ad t P↔P [] t:=Ar rfl
@[simp] theorem W_fCons {f:M D} {g:M (List D)} {P:List D->T->Prop}:W (Aa f g) t P↔W f t λd t1=>W g t1 λds t2=>P (d :: ds) t2:=by simp [Aa]
@[simp] theorem W_fTup {f:M (List D)} {P:D->T->Prop}:W (Av f) t P↔W f t λds t1=>ds.length<=LIM/\P (.tup ds) t1:=by simp [Av]
@[simp] theorem W_fLst {f:M (List D)} {P:List D->T->Prop}:W (AI f) t P↔W f t λds t1=>ds.length<=LIM/\P ds t1:=by simp [AI]
@[simp] theorem W_fPure {f:M (List D)} {P:D->T->Prop}:W (Ap f) t P↔W f t λds t1=>P (.lst ds) t1:=by simp [Ap]
@[simp] theorem W_newOb {o:Ob} {P:D->T->Prop}:W (NM o) t P↔P (.obj t.S.length) ⟨t.env,t.S++[o]⟩:=Ar rfl
@[simp] theorem U8 {f:M (List D)} {P:D->T->Prop}:W (D5 f) t P↔W f t λds t1=>W (NM (.lst ds)) t1 P:=by simp [D5]
@[simp] theorem W_fCall {g:Fn} {f:M (List D)} {P:D->T->Prop}:W (Ae g f) t P↔W f t λds t1=>Wf g ds t1.S λr S'=>P r ⟨t1.env,S'⟩:=by
 unfold Ae;rw [W_bnd];constructor
 ·rintro ⟨ds,t1,e1,r,t',e2,p⟩;refine ⟨ds,t1,e1,?_⟩;dsimp only at e2
  cases e:g ds t1.S with
  | none=>rw [e] at e2;cases e2
  | some z=>obtain ⟨r',S'⟩:=z;rw [e] at e2;cases e2;exact ⟨r,_,e,p⟩
 ·rintro ⟨ds,t1,e1,r,S',e2,p⟩;exact ⟨ds,t1,e1,r,_,by simp only [e2],p⟩
@[simp] theorem W_fB {f:M (List D)} {h:List D->M D} {P:D->T->Prop}:W (fB f h) t P↔W f t λds t1=>W (h ds) t1 P:=by simp [fB]
@[simp] theorem W_fBF {f:M (List D)} {h:List D->M (List D)} {P:List D->T->Prop}:W (fBF f h) t P↔W f t λds t1=>W (h ds) t1 P:=by simp [fBF]
@[simp] theorem W_seqS {f g:M Out} {P:Out->T->Prop}:W (Ag f g) t P↔W f t λo t1=>match o with
 | .next=>W g t1 P
 | .brk=>P .brk t1
 | .cont=>P .cont t1
 | .ret d=>P (.ret d) t1:=by
 unfold Ag;constructor
 ·rintro ⟨o,t',e,p⟩;dsimp only at e
  cases e1:f t with
  | none=>rw [e1] at e;cases e
  | some z=>
    obtain ⟨o1,t1⟩:=z;rw [e1] at e;refine ⟨o1,t1,e1,?_⟩
    cases o1 with
    | next=>exact ⟨o,t',e,p⟩
    | brk=>cases e;exact p
    | cont=>cases e;exact p
    | ret d=>cases e;exact p
 ·rintro ⟨o,t1,e,p⟩
  cases o with
  | next=>obtain ⟨o,t',e',p⟩:=p;exact ⟨o,t',by simp only [e];exact e',p⟩
  | brk=>exact ⟨_,_,by simp only [e],p⟩
  | cont=>exact ⟨_,_,by simp only [e],p⟩
  | ret d=>exact ⟨_,_,by simp only [e],p⟩
@[simp] theorem W_skipS {P:Out->T->Prop}:W Am t P↔P .next t:=Ar rfl
@[simp] theorem W_retS {f:M D} {P:Out->T->Prop}:W (Ak f) t P↔W f t λd t1=>P (.ret d) t1:=by simp [Ak]
@[simp] theorem W_dropS {f:M D} {P:Out->T->Prop}:W (Dr f) t P↔W f t λd t1=>P .next t1:=by simp [Dr]
@[simp] theorem W_ifS {f:M Bool} {g h:M Out} {P:Out->T->Prop}:W (ifS f g h) t P↔W f t λk t1=>if k=true then W g t1 P else W h t1 P:=by simp [ifS]
@[simp] theorem W_putV {i:Nat} {d:D} {P:Unit->T->Prop}:W (Ao i d) t P↔P () ⟨t.env.set i (some (.val d)),t.S⟩:=Ar rfl
@[simp] theorem W_setS {i:Nat} {f:M D} {P:Out->T->Prop}:W (Aq i f) t P↔W f t λd t1=>P .next ⟨t1.env.set i (some (.val d)),t1.S⟩:=by
 simp only [Aq,W_bnd,W_ret,W_putV]
@[simp] theorem W_ownS {i:Nat} {f:M (List D)} {P:Out->T->Prop}:W (Ce i f) t P↔W f t λds t1=>P .next ⟨t1.env.set i (some (.own ds)),t1.S⟩:=by
 unfold Ce;rw [W_bnd];have:∀(ds:List D) (t1:T),W (λt:T=>some (Out.next,({ t with env:=t.env.set i (some (.own ds)) }:T))) t1 P↔P .next ⟨t1.env.set i (some (.own ds)),t1.S⟩:=λds t1=>Ar rfl;simp only [this]
@[simp] theorem W_asgS {f:M D} {g:D->M Unit} {P:Out->T->Prop}:W (EC f g) t P↔W f t λd t1=>W (g d) t1 λ_ t2=>P .next t2:=by simp [EC]
@[simp] theorem W_putNil {P:Unit->T->Prop}:W (EB []) t P↔P () t:=Ar rfl
@[simp] theorem W_putCons {f:D->M Unit} {g:List D->M Unit} {d:D} {ds:List D} {P:Unit->T->Prop}:W (Bx f g (d :: ds)) t P↔W (f d) t λ_ t1=>W (g ds) t1 P:=by simp [Bx]
@[simp] theorem W_unS_lst {n:Nat} {g:List D->M Unit} {ds:List D} {P:Unit->T->Prop}:W (unS n g (.lst ds)) t P↔ds.length=n/\W (g ds) t P:=by
 unfold unS;simp only [R9,W_fail];split <;> simp [*]
@[simp] theorem W_unS_tup {n:Nat} {g:List D->M Unit} {ds:List D} {P:Unit->T->Prop}:W (unS n g (.tup ds)) t P↔ds.length=n/\W (g ds) t P:=by
 unfold unS;simp only [R9,W_fail];split <;> simp [*]
@[simp] theorem W_forS {f:M (List D)} {st:D->M Unit} {b:M Out} {P:Out->T->Prop}:W (CK f st b) t P↔W f t λds t1=>W (CJ st b ds) t1 P:=by simp [CK]
@[simp] theorem W_forL_nil {st:D->M Unit} {b:M Out} {P:Out->T->Prop}:W (CJ st b []) t P↔P .next t:=Ar rfl
theorem W_forL_cons {st:D->M Unit}{b:M Out}{d:D}{r:List D}{P:Out->T->Prop}:W (CJ st b (d :: r)) t P↔W (st d) t λ_ t1=>W b t1 λo t2=>match o with
 | .next=>W (CJ st b r) t2 P
 | .cont=>W (CJ st b r) t2 P
 | .brk=>P .next t2
 | .ret x=>P (.ret x) t2:=by
 constructor
 ·rintro ⟨o,t',e,p⟩;unfold CJ at e
  cases e1:st d t with
  | none=>rw [e1] at e;cases e
  | some z=>
    obtain ⟨u,t1⟩:=z;rw [e1] at e
    try dsimp only at e
    refine ⟨u,t1,e1,?_⟩
    cases e2:b t1 with
    | none=>rw [e2] at e;cases e
    | some z=>
      obtain ⟨o2,t2⟩:=z;rw [e2] at e
      try dsimp only at e
      refine ⟨o2,t2,e2,?_⟩
      cases o2 with
      | next=>exact ⟨o,t',e,p⟩
      | cont=>exact ⟨o,t',e,p⟩
      | brk=>cases e;exact p
      | ret x=>cases e;exact p
 ·rintro ⟨u,t1,e1,o,t2,e2,p⟩
  cases o with
  | next=>obtain ⟨o,t',e',p⟩:=p;exact ⟨o,t',by unfold CJ;simp only [e1,e2];exact e',p⟩
  | cont=>obtain ⟨o,t',e',p⟩:=p;exact ⟨o,t',by unfold CJ;simp only [e1,e2];exact e',p⟩
  | brk=>exact ⟨_,_,by unfold CJ;simp only [e1,e2],p⟩
  | ret x=>exact ⟨_,_,by unfold CJ;simp only [e1,e2],p⟩
theorem Dq {st:D->M Unit}{b:M Out}{P:Out->T->Prop}(I:List D->T->Prop):∀(ds:List D) (t:T),I ds t->
 (∀d r t,I (d :: r) t->d∈ds->W (st d) t λ_ t1=>W b t1 λo t2=>match o with
   | .next=>I r t2
   | .cont=>I r t2
   | .brk=>P .next t2
   | .ret x=>P (.ret x) t2)->(∀t,I [] t->P .next t)->W (CJ st b ds) t P
 | [],t,h,_,fin=>W_forL_nil.mpr (fin t h)
 | d :: r,t,h,turn,fin=>by
   rw [W_forL_cons];refine (turn d r t h uf6).mono λ_ t1 h1=>h1.mono λo t2 h2=>?_
   cases o with
   | next=>exact Dq I r t2 h2 (λd' r' t' h' m=>turn d' r' t' h' (ud6 _ m)) fin
   | cont=>exact Dq I r t2 h2 (λd' r' t' h' m=>turn d' r' t' h' (ud6 _ m)) fin
   | brk=>exact h2
   | ret x=>exact h2
@[simp] theorem W_fComp {n:Nat} {fr:List Nat} {f:M (List D)} {st:D->M Unit} {tst:M Bool} {elt:M D} {P:List D->T->Prop}:W (AF n fr f st tst elt) t P↔W f t λds t1=>W (A9 st tst elt ds) ⟨cenv n fr t1.env,t1.S⟩ λxs t'=>xs.length<=LIM/\P xs ⟨t1.env,t'.S⟩:=by
 unfold AF;rw [W_bnd];constructor
 ·rintro ⟨ds,t1,e1,xs,t',e2,p⟩;refine ⟨ds,t1,e1,?_⟩;dsimp only at e2
  cases e:A9 st tst elt ds ⟨cenv n fr t1.env,t1.S⟩ with
  | none=>rw [e] at e2;cases e2
  | some z=>
    obtain ⟨ys,t3⟩:=z;rw [e] at e2;dsimp only at e2
    split at e2
    ·cases e2;exact ⟨_,_,e,by assumption,p⟩
    ·cases e2
 ·rintro ⟨ds,t1,e1,xs,t',e2,h,p⟩;exact ⟨ds,t1,e1,xs,_,by simp only [e2,h,if_true],p⟩
@[simp] theorem W_compL_nil {st:D->M Unit} {tst:M Bool} {elt:M D} {P:List D->T->Prop}:W (A9 st tst elt []) t P↔P [] t:=Ar rfl
theorem W_compL_cons {st:D->M Unit}{tst:M Bool}{elt:M D}{d:D}{r:List D}{P:List D->T->Prop}:W (A9 st tst elt (d :: r)) t P↔W (st d) t λ_ t1=>W tst t1 λk t2=>
 if k=true then W elt t2 λx t3=>W (A9 st tst elt r) t3 λxs t4=>P (x :: xs) t4 else W (A9 st tst elt r) t2 P:=by
 rw [A9];simp
theorem FG {st:D->M Unit}{tst:M Bool}{elt:M D}{P:List D->T->Prop}(I:List D->List D->T->Prop):∀(ds:List D) (acc:List D) (t:T),I acc ds t->
 (∀acc d r t,I acc (d :: r) t->d∈ds->W (st d) t λ_ t1=>W tst t1 λk t2=>if k=true then W elt t2 λx t3=>I (acc++[x]) r t3 else I acc r t2)->
 (∀acc t,I acc [] t->P acc t)->W (A9 st tst elt ds) t λxs t'=>P (acc++xs) t'
 | [],acc,t,h,_,fin=>W_compL_nil.mpr (by rw [uk2];exact fin acc t h)
 | d :: r,acc,t,h,turn,fin=>by
   rw [W_compL_cons];have turn':∀acc d' r' t',I acc (d' :: r') t'->d'∈r->_:=λacc d' r' t' h' m=>turn acc d' r' t' h' (ud6 _ m);refine (turn acc d r t h uf6).mono λ_ t1 h1=>h1.mono λk t2 h2=>?_
   cases k with
   | true=>
     rw [if_pos rfl] at h2 ⊢;refine h2.mono λx t3 h3=>(FG I r (acc++[x]) t3 h3 turn' fin).mono λxs t4 h4=>?_;rw [uh0] at h4;exact h4
   | false=>
     rw [if_neg uf7] at h2 ⊢;exact FG I r acc t2 h2 turn' fin
theorem Al {n m:Nat}{g:M Out}{ds:List D}{P:D->List Ob->Prop}(h:ds.length=n)(w:W g ⟨env0 m ds,S⟩ λo t=>match o with
 | .ret r=>P r t.S
 | .next=>P .non t.S
 | _=>False):Wf (fnOf n m g) ds S P:=by
 obtain ⟨o,t,e,p⟩:=w
 cases o with
 | ret r=>exact ⟨r,t.S,by unfold fnOf;rw [if_pos h,e],p⟩
 | next=>exact ⟨.non,t.S,by unfold fnOf;rw [if_pos h,e],p⟩
 | brk=>exact p.elim
 | cont=>exact p.elim
@[simp] theorem W_tTru {P:Bool->T->Prop}:W Bt t P↔P true t:=Ar rfl
@[simp] theorem ZZ {P:D->T->Prop}:W YH t P↔P .dic t:=Ar rfl
end F2
namespace F2
open PySem L2
variable {t:T}{P:D->T->Prop}
theorem Kw {α β:Type}{o:Option β}{g:β->α×T}{Q:α->T->Prop}{m:M α}(e:m t=o.map g):W m t Q↔∃b,o=some b/\Q (g b).1 (g b).2:=by
 constructor
 ·rintro ⟨a,t',e',p⟩;rw [e] at e';obtain ⟨b,h1,h2⟩:=uc2.mp e';exact ⟨b,h1,by rw [h2];exact p⟩
 ·rintro ⟨b,h,p⟩;exact ⟨_,_,by rw [e,h];rfl,p⟩
theorem Np {α:Type}{c:Prop}[Decidable c]{z:α×T}{Q:α->T->Prop}{m:M α}(e:m t=if c then some z else none):W m t Q↔c/\Q z.1 z.2:=by
 constructor
 ·rintro ⟨a,t',e',p⟩;rw [e] at e'
  split at e'
  ·cases e';exact ⟨by assumption,p⟩
  ·cases e'
 ·rintro ⟨h,p⟩;exact ⟨_,_,by rw [e,if_pos h],p⟩
theorem K0 {α β:Type}{o:Option β}(f:β->α){Q:α->T->Prop}{m:M α}(e:m t=o.map λb=>(f b,t)):W m t Q↔∃b,o=some b/\Q (f b) t:=Kw (g:=λb=>(f b,t)) e
theorem F5 {α:Type}{c:Prop}[Decidable c]{a:α}{Q:α->T->Prop}{m:M α}(e:m t=if c then some (a,t) else none):W m t Q↔c/\Q a t:=Np (z:=(a,t)) e
@[simp] theorem W_ix_tup {ds:List D} {i:Int}:W (ixD (.tup ds) (.int i)) t P↔∃d,atI ds i=some d/\P d t:=K0 id rfl
@[simp] theorem W_ix_lst {ds:List D} {i:Int}:W (ixD (.lst ds) (.int i)) t P↔∃d,atI ds i=some d/\P d t:=K0 id rfl
@[simp] theorem W_ix_scr {ns:List Int} {i:Int}:W (ixD (.scr ns) (.int i)) t P↔∃n,atI ns i=some n/\P (.int n) t:=K0 D.int rfl
@[simp] theorem W_ix_obj {k:Nat} {i:Int}:W (ixD (.obj k) (.int i)) t P↔∃ds,t.S[k]?=some (.lst ds)/\∃d,atI ds i=some d/\P d t:=by
 cases e:t.S[k]? with
 | none=>rw [Dl (by simp only [ixD,e])];simp
 | some o=>
   cases o with
   | dct _ | ins _ _=>rw [Dl (by simp only [ixD,e])];simp
   | lst ds=>
     have:ixD (.obj k) (.int i) t=(atI ds i).map λd=>(d,t):=by simp only [ixD,e]
     rw [Kw this];simp
@[simp] theorem Nr {α:Type} {a:α} {r:List α}:atI (a :: r) 0=some a:=by simp [atI,ixN]
@[simp] theorem Sb {α:Type} {a b:α} {r:List α}:atI (a :: b :: r) 1=some b:=by
 have:(1:Int) < ((a :: b :: r).length:Nat):=by simp;lia
 simp only [atI,ixN,this,if_true,show (0:Int)<=1 by decide];rfl
@[simp] theorem Sc {α:Type} {a b c:α} {r:List α}:atI (a :: b :: c :: r) 2=some c:=by
 have:(2:Int) < ((a :: b :: c :: r).length:Nat):=by simp;lia
 simp only [atI,ixN,this,if_true,show (0:Int)<=2 by decide];rfl
theorem SK {α:Type}{xs:List α}{i:Int}(h0:0<=i)(h1:i < xs.length):∃d,atI xs i=some d/\d∈xs/\xs[i.toNat]?=some d:=by
 have hl:i.toNat < xs.length:=by lia
 refine ⟨xs[i.toNat],?_,uj0 hl,ub2 hl⟩;simp [atI,ixN,h0,h1,hl]
@[simp] theorem W_len_lst {ds:List D}:W (AC [.lst ds]) t P↔P (.int ds.length) t:=Ar rfl
@[simp] theorem W_len_tup {ds:List D}:W (AC [.tup ds]) t P↔P (.int ds.length) t:=Ar rfl
@[simp] theorem W_len_scr {ds:List Int}:W (AC [.scr ds]) t P↔P (.int ds.length) t:=Ar rfl
@[simp] theorem W_len_str {x:Str}:W (AC [.str x]) t P↔x.length<=LIM/\P (.int x.length) t:=by simp [AC]
@[simp] theorem W_len_obj {k:Nat}:W (AC [.obj k]) t P↔∃ds,t.S[k]?=some (.lst ds)/\P (.int ds.length) t:=by
 cases e:t.S[k]? with
 | none=>rw [Dl (by simp only [AC,e])];simp
 | some o=>
   cases o with
   | dct _ | ins _ _=>rw [Dl (by simp only [AC,e])];simp
   | lst ds=>rw [Ar (a:=.int ds.length) (t':=t) (by simp only [AC,e])];simp
@[simp] theorem W_isi {d:D} {m:String}:W (D8 [d,.ty m]) t P↔∃n,tyD d=some n/\∃b,GW n m=some b/\P (.bl b) t:=by
 cases e:tyD d with
 | none=>rw [Dl (by simp only [D8,e])];simp
 | some n=>
   have:D8 [d,.ty m] t=(GW n m).map λb=>(.bl b,t):=by simp only [D8,e]
   rw [Kw this];simp
noncomputable def IW:D->Bool
 | .non=>true
 | _=>false
noncomputable def YR (b:Bool):D->Bool
 | .bl c=>c == b
 | _=>false
@[simp] theorem W_is_non {x:D}:W (isC x .non) t P↔P (.bl (IW x)) t:=Ar (by cases x <;> rfl)
@[simp] theorem ZX {x:D} {b:Bool}:W (isC x (.bl b)) t P↔P (.bl (YR b x)) t:=Ar (by cases x <;> rfl)
@[simp] theorem ZW {x y:D}:W (OZ x y) t P↔W (isC x y) t λd t1=>W (toB d) t1 λb t2=>P (.bl (!b)) t2:=by
 unfold OZ;rw [W_bnd];constructor
 ·exact λh=>h.mono λd t1 h1=>by
   cases d with
   | bl b=>simpa using h1
   | _=>exact (W_fail.mp h1).elim
 ·exact λh=>h.mono λd t1 h1=>by
   cases d with
   | bl b=>simpa using h1
   | _=>obtain ⟨_,_,e,_⟩:=h1;cases e
@[simp] theorem W_add_int {i j:Int}:W (Aw (.int i) (.int j)) t P↔P (.int (i + j)) t:=Ar rfl
@[simp] theorem W_sub_int {i j:Int}:W (Cs (.int i) (.int j)) t P↔P (.int (i - j)) t:=Ar rfl
@[simp] theorem W_lt_int {i j:Int}:W (ltA (.int i) (.int j)) t P↔P (.bl (decide (i < j))) t:=Ar rfl
@[simp] theorem W_le_int {i j:Int}:W (leA (.int i) (.int j)) t P↔P (.bl (decide (i<=j))) t:=Ar rfl
@[simp] theorem W_gt_int {i j:Int}:W (gtA (.int i) (.int j)) t P↔P (.bl (decide (j < i))) t:=Ar rfl
@[simp] theorem W_ge_int {i j:Int}:W (geA (.int i) (.int j)) t P↔P (.bl (decide (j<=i))) t:=Ar rfl
@[simp] theorem Yz {i j:Str}:W (ltA (.str i) (.str j)) t P↔P (.bl (decide (i.cps.toList < j.cps.toList))) t:=Ar rfl
@[simp] theorem Yw {i j:Str}:W (gtA (.str i) (.str j)) t P↔P (.bl (decide (j.cps.toList < i.cps.toList))) t:=Ar rfl
@[simp] theorem W_neg {i:Int}:W (Ik (.int i)) t P↔P (.int (-i)) t:=Ar rfl
@[simp] theorem W_fdiv {i j:Int}:W (Fo (.int i) (.int j)) t P↔(0 < j/\j < 1073741824)/\P (.int (i / j)) t:=by
 rw [Np (m:=Fo (.int i) (.int j)) (c:=Ky i j=true) (z:=(.int (i / j),t)) rfl];simp [Ky]
@[simp] theorem W_mod {i j:Int}:W (EJ (.int i) (.int j)) t P↔0 < j/\P (.int (i % j)) t:=by
 rw [Np (m:=EJ (.int i) (.int j)) (c:=decide (0 < j)=true) (z:=(.int (i % j),t)) rfl];simp
@[simp] theorem W_pow {i j:Int}:W (Fb (.int i) (.int j)) t P↔KD i j=true/\P (.int (i ^ j.toNat)) t:=F5 rfl
@[simp] theorem W_mul_int {i j:Int}:W (EK (.int i) (.int j)) t P↔Gr i j=true/\P (.int (i * j)) t:=F5 rfl
@[simp] theorem W_mul_str {x:Str} {k:Int}:W (EK (.str x) (.int k)) t P↔(BJ k=true/\x.length * k.toNat<=LIM/\k<=LIM/\x.length<=LIM)/\P (.str (Txt.mul x k)) t:=F5 rfl
theorem JB {i j:Int}(h1 : -18446744073709551616 < i)(h2:i < 18446744073709551616):Gr i j=true:=by simp [Gr,h1,h2]
theorem Cb {k:Int}(h1 : -4611686018427387904<=k)(h2:k < 4611686018427387904):BJ k=true:=by simp [BJ,h1,h2]
@[simp] theorem Yr {x y:Str}:W (Aw (.str x) (.str y)) t P↔x.length + y.length<=LIM/\P (.str (x++y)) t:=by
 have:Aw (.str x) (.str y)=lim (x.length + y.length) (.str (x++y)):=rfl;rw [this];simp
@[simp] theorem W_add_lst {x y:List D}:W (Aw (.lst x) (.lst y)) t P↔x.length + y.length<=LIM/\P (.lst (x++y)) t:=by
 have:Aw (.lst x) (.lst y)=lim (x.length + y.length) (.lst (x++y)):=rfl;rw [this];simp
@[simp] theorem W_add_tup {d:D} {x y:List D}:W (Aw (.tup (d :: x)) (.tup y)) t P↔x.length + 1 + y.length<=LIM/\P (.tup (d :: x++y)) t:=by
 have:Aw (.tup (d :: x)) (.tup y) t=if (d :: x).isEmpty=false/\(d :: x).length + y.length<=LIM then some (.tup (d :: x++y),t) else none:=rfl;rw [Np this];simp
@[simp] theorem W_add_tup0 {y:List D}:W (Aw (.tup []) (.tup y)) t P↔P (.tup y) t:=Ar rfl
@[simp] theorem W_cat {x y:List D} {Q:List D->T->Prop}:W (Fu (.lst x) (.lst y)) t Q↔x.length + y.length<=LIM/\Q (x++y) t:=by
 have:Fu (.lst x) (.lst y)=lim (x.length + y.length) (x++y):=rfl;rw [this];simp
@[simp] theorem Z5 {i:Int}:W (YC [.int i]) t P↔P (.int (if i < 0 then -i else i)) t:=Ar rfl
@[simp] theorem W_min {i j:Int}:W (Gp [.int i,.int j]) t P↔P (.int (if j < i then j else i)) t:=Ar rfl
@[simp] theorem W_max {i j:Int}:W (Ii [.int i,.int j]) t P↔P (.int (if j > i then j else i)) t:=Ar rfl
@[simp] theorem Ys {i:Int}:W (Jx [.int i]) t P↔P (.int i) t:=Ar rfl
@[simp] theorem W_int_bl {b:Bool}:W (Jx [.bl b]) t P↔P (.int (if b then 1 else 0)) t:=Ar rfl
@[simp] theorem W_ord {x:Str}:W (Gu [.str x]) t P↔x.length=1/\P (.int (x.cps.getD 0 0:Nat)) t:=F5 rfl
@[simp] theorem W_tup_lst {ds:List D}:W (GC [.lst ds]) t P↔P (.tup ds) t:=Ar rfl
@[simp] theorem Yt {ds:List D} {Q:List D->T->Prop}:W (Ih [.lst ds]) t Q↔Q ds t:=Ar rfl
@[simp] theorem W_lst_tup {ds:List D} {Q:List D->T->Prop}:W (Ih [.tup ds]) t Q↔Q ds t:=Ar rfl
@[simp] theorem W_eq_str {g:Bool->Bool} {x y:Str}:W (eqS g (.str x) (.str y)) t P↔P (.bl (g (x == y))) t:=Ar rfl
@[simp] theorem W_eq_int {g:Bool->Bool} {x y:Int}:W (eqS g (.int x) (.int y)) t P↔P (.bl (g (x == y))) t:=Ar rfl
@[simp] theorem ZV {g:Bool->Bool} {x y:Bool}:W (eqS g (.bl x) (.bl y)) t P↔P (.bl (g (x == y))) t:=Ar rfl
@[simp] theorem W_eq_nil {g:Bool->Bool} {x:List D}:W (eqS g (.lst x) (.lst [])) t P↔P (.bl (g x.isEmpty)) t:=by
 refine Ar ?_
 cases x <;> rfl
@[simp] theorem W_sl_lst {ds:List D} {lo hi:Option Int}:W (BU (.lst ds) lo hi) t P↔P (.lst (Bh ds lo hi)) t:=Ar rfl
@[simp] theorem YA {ds:List Int} {lo hi:Option Int}:W (BU (.scr ds) lo hi) t P↔P (.lst ((Bh ds lo hi).map .int)) t:=Ar rfl
@[simp] theorem YB {x:Str} {lo hi:Option Int}:W (BU (.str x) lo hi) t P↔x.length<=LIM/\P (.str (Txt.slice x lo hi)) t:=by
 have:BU (.str x) lo hi=lim x.length (.str (Txt.slice x lo hi)):=rfl;rw [this];simp
@[simp] theorem W_sl_tup {ds:List D} {lo hi:Option Int}:W (BU (.tup ds) lo hi) t P↔P (.tup (Bh ds lo hi)) t:=Ar rfl
@[simp] theorem W_fSl {f:M D} {l u:M (Option Int)} {h:D->Option Int->Option Int->M D}:W (fSl f l u h) t P↔W f t λx t1=>W l t1 λlo t2=>W u t2 λhi t3=>W (h x lo hi) t3 P:=by simp [fSl]
@[simp] theorem W_fNo {Q:Option Int->T->Prop}:W fNo t Q↔Q none t:=Ar rfl
@[simp] theorem W_asI {i:Int} {Q:Option Int->T->Prop}:W (asI (.int i)) t Q↔Q (some i) t:=Ar rfl
@[simp] theorem W_fPart {f:M D} {Q:Option Int->T->Prop}:W (Cd f) t Q↔W f t λx t1=>W (asI x) t1 Q:=by simp [Cd]
@[simp] theorem W_fItA {f:M D} {Q:List D->T->Prop}:W (CW f) t Q↔W f t λx t1=>W (Dn x) t1 Q:=by simp [CW]
@[simp] theorem W_it_lst {ds:List D} {Q:List D->T->Prop}:W (Dn (.lst ds)) t Q↔Q ds t:=Ar rfl
@[simp] theorem Yy {ds:List D} {Q:List D->T->Prop}:W (Dn (.tup ds)) t Q↔Q ds t:=Ar rfl
@[simp] theorem Yx {ds:List Int} {Q:List D->T->Prop}:W (Dn (.scr ds)) t Q↔Q (ds.map .int) t:=Ar rfl
@[simp] theorem W_it_str {x:Str} {Q:List D->T->Prop}:W (Dn (.str x)) t Q↔Q (x.cps.toList.map λc=>.str ⟨#[c]⟩) t:=Ar rfl
@[simp] theorem W_fRng1 {f:M (List D)} {Q:List D->T->Prop}:W (BB f) t Q↔W f t λx t1=>W (JF x) t1 Q:=by simp [BB]
@[simp] theorem W_fRng2 {f:M (List D)} {Q:List D->T->Prop}:W (Fm f) t Q↔W f t λx t1=>W (JG x) t1 Q:=by simp [Fm]
@[simp] theorem W_rng1 {j:Int} {Q:List D->T->Prop}:W (JF [.int j]) t Q↔BJ j=true/\Q (Bs 0 j.toNat) t:=F5 rfl
@[simp] theorem W_rng2 {i j:Int} {Q:List D->T->Prop}:W (JG [.int i,.int j]) t Q↔(BJ i && BJ j)=true/\Q (Bs i (j - i).toNat) t:=F5 rfl
@[simp] theorem W_in_lst {neg:Bool} {x:D} {ds:List D}:W (inD neg x (.lst ds)) t P↔(Fq x=true/\ds.all Fq=true)/\P (.bl (if neg then !inV (toV x) (ds.map toV) else inV (toV x) (ds.map toV))) t:=F5 rfl
@[simp] theorem W_ownM {i:Nat} {h:List D->List D->Option (List D)} {g:M (List D)} {Q:Out->T->Prop}:W (ownM i h g) t Q↔(∃xs,t.env[i]?=some (some (.own xs)))/\W g t λds t1=>∃xs,t1.env[i]?=some (some (.own xs))/\∃ys,h xs ds=some ys/\Q .next ⟨t1.env.set i (some (.own ys)),t1.S⟩:=by
 constructor
 ·rintro ⟨o,t',e,p⟩;unfold ownM at e
  split at e
  ·next xs e0=>
   refine ⟨⟨xs,e0⟩,?_⟩;obtain ⟨ds,t1,e1,e⟩:=Ah e;refine ⟨ds,t1,e1,?_⟩
   split at e
   ·next ys e2=>
    obtain ⟨zs,e3,e4⟩:=uc2.mp e
    cases e4
    exact ⟨ys,e2,zs,e3,p⟩
   ·cases e
  ·cases e
 ·rintro ⟨⟨xs,e0⟩,ds,t1,e1,ys,e2,zs,e3,p⟩;exact ⟨_,_,by unfold ownM bnd;simp only [e0,e1,e2,e3,uk9],p⟩
@[simp] theorem app1_one {xs:List D} {d:D} {ys:List D}:Dj xs [d]=some ys↔xs.length < LIM/\xs++[d]=ys:=by
 unfold Dj;split <;> simp [*]
@[simp] theorem W_stD {f g:M D} {d:D} {Q:Unit->T->Prop}:W (stD f g d) t Q↔W f t λo t1=>W g t1 λi t2=>W (FC o i d) t2 Q:=by simp [stD]
@[simp] theorem W_stOb {k:Nat} {j:Int} {d:D} {Q:Unit->T->Prop}:W (FC (.obj k) (.int j) d) t Q↔∃xs,t.S[k]?=some (.lst xs)/\∃n,ixN xs.length j=some n/\Q () ⟨t.env,t.S.set k (.lst (xs.set n d))⟩:=by
 cases e:t.S[k]? with
 | none=>rw [Dl (by simp only [FC,e])];simp
 | some o=>
   cases o with
   | dct _ | ins _ _=>rw [Dl (by simp only [FC,e])];simp
   | lst ds=>
     have:FC (.obj k) (.int j) d t=(ixN ds.length j).map λn=>((),{ t with S:=t.S.set k (.lst (ds.set n d)) }):=by simp only [FC,e]
     rw [Kw this];simp
end F2
namespace F2
open PySem L2
variable {t:T}{P:D->T->Prop}{Q:List D->T->Prop}{R:Out->T->Prop}{B:Bool->T->Prop}{U:Unit->T->Prop}
def E3 (k:Bool)(A B:Prop):Prop:=if k=true then A else B
variable {k:Bool}
theorem Ig {A B:Prop}(h:k=true)(a:A):E3 k A B:=by unfold E3;rw [if_pos h];exact a
theorem NF {A B:Prop}(h:k=false)(b:B):E3 k A B:=by unfold E3;rw [if_neg (by rw [h];exact uf7)];exact b
theorem AE {A B:Prop}(a:k=true->A)(b:k=false->B):E3 k A B:=by cases h:k with
 | true=>exact Ig rfl (a h)
 | false=>exact NF rfl (b h)
def Ru (g:M Out)(R:Out->T->Prop)(o:Out)(t1:T):Prop:=match o with
 | .next=>W g t1 R
 | o=>R o t1
variable {t1:T}
theorem Cn {g:M Out}(h:W g t1 R):Ru g R .next t1:=h
theorem Rv {g:M Out}{d:D}(h:R (.ret d) t1):Ru g R (.ret d) t1:=h
theorem ZB {f g:M Out}(h:W f t (Ru g R)):W (Ag f g) t R:=W_seqS.mpr (h.mono λo t1 h1=>by cases o <;> exact h1)
theorem HE (h:R .next t):W Am t R:=W_skipS.mpr h
variable {f:M D}
theorem ZA (h:W f t λd t1=>R (.ret d) t1):W (Ak f) t R:=W_retS.mpr h
theorem X3 (h:W f t λd t1=>R .next t1):W (Dr f) t R:=W_dropS.mpr h
theorem wIf {f:M Bool}{g h:M Out}(w:W f t λk t1=>E3 k (W g t1 R) (W h t1 R)):W (ifS f g h) t R:=W_ifS.mpr w
theorem ZC {i:Nat}(h:W f t λd t1=>R .next ⟨t1.env.set i (some (.val d)),t1.S⟩):W (Aq i f) t R:=W_setS.mpr h
theorem Zy {i:Nat}{f:M (List D)}(h:W f t λd t1=>R .next ⟨t1.env.set i (some (.own d)),t1.S⟩):W (Ce i f) t R:=W_ownS.mpr h
theorem Zb {g:D->M Unit}(h:W f t λd t1=>W (g d) t1 λ_ t2=>R .next t2):W (EC f g) t R:=W_asgS.mpr h
theorem Zf {f:M (List D)}{st:D->M Unit}{b:M Out}(h:W f t λds t1=>W (CJ st b ds) t1 R):W (CK f st b) t R:=W_forS.mpr h
theorem wC {d:D}(h:P d t):W (fC d) t P:=W_fC.mpr h
theorem DE {i:Nat}{d:D}(e:t.env[i]?=some (some (.val d)))(h:P d t):W (Ab i) t P:=by rw [On,e];exact h
variable {ds:List D}
theorem Yn {i:Nat}(e:t.env[i]?=some (some (.own ds)))(h:P (.lst ds) ⟨t.env.set i (some (.val (.lst ds))),t.S⟩):W (Ab i) t P:=by rw [On,e];exact h
variable {g:M D}
theorem JI {h:D->D->M D}(w:W f t λx t1=>W g t1 λy t2=>W (h x y) t2 P):W (Ac f g h) t P:=W_fBin.mpr w
theorem wUn {h:D->M D}(w:W f t λx t1=>W (h x) t1 P):W (fUn f h) t P:=W_fUn.mpr w
theorem Hd {α β:Type}{f:M α}{g:α->M β}{K:β->T->Prop}(w:W f t λx t1=>W (g x) t1 K):W (bnd f g) t K:=W_bnd.mpr w
theorem Oc {b:Bool}(h:B b t):W (toB (.bl b)) t B:=W_toB.mpr h
theorem Od (h:W f t λx t1=>W (toB x) t1 B):W (Aj f) t B:=W_fTst.mpr h
theorem W6 {w:M D}{h h':D->D->M D}(q:W f t λx t1=>W g t1 λy t2=>W (h x y) t2 λk t3=>W (toB k) t3 λk t4=>E3 k (W w t4 λz t5=>W (h' y z) t5 P) (P (.bl false) t4)):W (Ci f g w h h') t P:=W_fChain.mpr q
theorem Y8 {f g:M Bool}(h:W f t λk t1=>E3 k (W g t1 B) (B false t1)):W (D4 f g) t B:=W_fAnd.mpr h
theorem wOr {f g:M Bool}(h:W f t λk t1=>E3 k (B true t1) (W g t1 B)):W (fOr f g) t B:=W_fOr.mpr h
theorem Zv {f:M Bool}(h:W f t λk t1=>B (!k) t1):W (Br f) t B:=W_fNot.mpr h
theorem X0 (h:W f t λx t1=>W (toB x) t1 λk t2=>E3 k (W g t2 P) (P (.bl false) t2)):W (A5 f g) t P:=W_fAndV.mpr h
theorem Zx (h:W f t λx t1=>W (toB x) t1 λk t2=>E3 k (P (.bl true) t2) (W g t2 P)):W (GU f g) t P:=W_fOrV.mpr h
theorem Ye (h:W f t λx t1=>W (toB x) t1 λk t2=>P (.bl (!k)) t2):W (EL f) t P:=W_fNotV.mpr h
theorem JL (h:Q [] t):W Ad t Q:=W_fNil.mpr h
theorem Et {g:M (List D)}(h:W f t λd t1=>W g t1 λds t2=>Q (d :: ds) t2):W (Aa f g) t Q:=W_fCons.mpr h
def Gm (n:Nat)(A:Prop):Prop:=n<=LIM/\A
variable {n:Nat}
theorem AZ {A:Prop}(h:n<=LIM)(a:A):Gm n A:=⟨h,a⟩
theorem ZJ {f:M (List D)}(h:W f t λds t1=>Gm ds.length (P (.tup ds) t1)):W (Av f) t P:=W_fTup.mpr h
theorem Zq {f:M (List D)}(h:W f t λds t1=>Gm ds.length (Q ds t1)):W (AI f) t Q:=W_fLst.mpr h
theorem Yh {f:M (List D)}(h:W f t λds t1=>P (.lst ds) t1):W (Ap f) t P:=W_fPure.mpr h
theorem Zw {f:M (List D)}(h:W f t λds t1=>P (.obj t1.S.length) ⟨t1.env,t1.S++[.lst ds]⟩):W (D5 f) t P:=by rw [U8];exact h.mono λds t1 h=>W_newOb.mpr h
theorem Jh {g:Fn}{f:M (List D)}(h:W f t λds t1=>Wf g ds t1.S λr S'=>P r ⟨t1.env,S'⟩):W (Ae g f) t P:=W_fCall.mpr h
theorem wB {f:M (List D)}{h:List D->M D}(w:W f t λds t1=>W (h ds) t1 P):W (fB f h) t P:=W_fB.mpr w
theorem wBF {f:M (List D)}{h:List D->M (List D)}(w:W f t λds t1=>W (h ds) t1 Q):W (fBF f h) t Q:=W_fBF.mpr w
theorem FD {i:Nat}{d:D}(h:U () ⟨t.env.set i (some (.val d)),t.S⟩):W (Ao i d) t U:=W_putV.mpr h
theorem UP (h:U () t):W (EB []) t U:=W_putNil.mpr h
theorem RU {f:D->M Unit}{g:List D->M Unit}{d:D}(h:W (f d) t λ_ t1=>W (g ds) t1 U):W (Bx f g (d :: ds)) t U:=W_putCons.mpr h
theorem ZK {g:List D->M Unit}(e:ds.length=n)(h:W (g ds) t U):W (unS n g (.lst ds)) t U:=W_unS_lst.mpr ⟨e,h⟩
theorem ZM {g:List D->M Unit}(e:ds.length=n)(h:W (g ds) t U):W (unS n g (.tup ds)) t U:=W_unS_tup.mpr ⟨e,h⟩
theorem X2 {fr:List Nat}{f:M (List D)}{st:D->M Unit}{tst:M Bool}{elt:M D}(h:W f t λds t1=>W (A9 st tst elt ds) ⟨cenv n fr t1.env,t1.S⟩ λxs t'=>Gm xs.length (Q xs ⟨t1.env,t'.S⟩)):W (AF n fr f st tst elt) t Q:=W_fComp.mpr h
theorem Iy (h:B true t):W Bt t B:=W_tTru.mpr h
variable {i:Int}
theorem DC {d:D}(e:atI ds i=some d)(h:P d t):W (ixD (.tup ds) (.int i)) t P:=W_ix_tup.mpr ⟨d,e,h⟩
theorem Ek {d:D}(e:atI ds i=some d)(h:P d t):W (ixD (.lst ds) (.int i)) t P:=W_ix_lst.mpr ⟨d,e,h⟩
theorem JK {k:Nat}{d:D}(e0:t.S[k]?=some (.lst ds))(e:atI ds i=some d)(h:P d t):W (ixD (.obj k) (.int i)) t P:=W_ix_obj.mpr ⟨ds,e0,d,e,h⟩
theorem X9 (h:P (.int ds.length) t):W (AC [.lst ds]) t P:=W_len_lst.mpr h
theorem Yb (h:P (.int ds.length) t):W (AC [.tup ds]) t P:=W_len_tup.mpr h
theorem Ya {ds:List Int}(h:P (.int ds.length) t):W (AC [.scr ds]) t P:=W_len_scr.mpr h
theorem HB {k:Nat}(e:t.S[k]?=some (.lst ds))(h:P (.int ds.length) t):W (AC [.obj k]) t P:=W_len_obj.mpr ⟨ds,e,h⟩
variable {x:Str}
theorem KH (e:x.length<=LIM)(h:P (.int x.length) t):W (AC [.str x]) t P:=W_len_str.mpr ⟨e,h⟩
theorem Zl {d:D}{m n:String}{b:Bool}(e:tyD d=some n)(e':GW n m=some b)(h:P (.bl b) t):W (D8 [d,.ty m]) t P:=W_isi.mpr ⟨n,e,b,e',h⟩
theorem Zk {x:D}(h:P (.bl (IW x)) t):W (isC x .non) t P:=W_is_non.mpr h
variable {j:Int}
theorem XY (h:P (.int (i + j)) t):W (Aw (.int i) (.int j)) t P:=W_add_int.mpr h
theorem Yk (h:P (.int (i - j)) t):W (Cs (.int i) (.int j)) t P:=W_sub_int.mpr h
theorem Zr (h:P (.bl (decide (i < j))) t):W (ltA (.int i) (.int j)) t P:=W_lt_int.mpr h
theorem Zp (h:P (.bl (decide (i<=j))) t):W (leA (.int i) (.int j)) t P:=W_le_int.mpr h
theorem Zh (h:P (.bl (decide (j < i))) t):W (gtA (.int i) (.int j)) t P:=W_gt_int.mpr h
theorem Zg (h:P (.bl (decide (j<=i))) t):W (geA (.int i) (.int j)) t P:=W_ge_int.mpr h
theorem Zu (h:P (.int (-i)) t):W (Ik (.int i)) t P:=W_neg.mpr h
theorem Zd (h1:0 < j)(h2:j < 1073741824)(h:P (.int (i / j)) t):W (Fo (.int i) (.int j)) t P:=W_fdiv.mpr ⟨⟨h1,h2⟩,h⟩
theorem RQ (h1:0 < j)(h:P (.int (i % j)) t):W (EJ (.int i) (.int j)) t P:=W_mod.mpr ⟨h1,h⟩
theorem Zz (h1:KD i j=true)(h:P (.int (i ^ j.toNat)) t):W (Fb (.int i) (.int j)) t P:=W_pow.mpr ⟨h1,h⟩
theorem N9 (h1:Gr i j=true)(h:P (.int (i * j)) t):W (EK (.int i) (.int j)) t P:=W_mul_int.mpr ⟨h1,h⟩
theorem Yd {k:Int}(h1:BJ k=true/\x.length * k.toNat<=LIM/\k<=LIM/\x.length<=LIM)(h:P (.str (Txt.mul x k)) t):W (EK (.str x) (.int k)) t P:=W_mul_str.mpr ⟨h1,h⟩
variable {y:List D}
theorem XZ {x:List D}(h:Gm (x.length + y.length) (P (.lst (x++y)) t)):W (Aw (.lst x) (.lst y)) t P:=W_add_lst.mpr h
theorem SA {d:D}{x:List D}(h:Gm (x.length + 1 + y.length) (P (.tup (d :: x++y)) t)):W (Aw (.tup (d :: x)) (.tup y)) t P:=W_add_tup.mpr h
theorem P5 (h:P (.tup y) t):W (Aw (.tup []) (.tup y)) t P:=W_add_tup0.mpr h
theorem Zc {x:List D}(h:Gm (x.length + y.length) (Q (x++y) t)):W (Fu (.lst x) (.lst y)) t Q:=W_cat.mpr h
theorem Zt (h:P (.int (if j < i then j else i)) t):W (Gp [.int i,.int j]) t P:=W_min.mpr h
theorem Zs (h:P (.int (if j > i then j else i)) t):W (Ii [.int i,.int j]) t P:=W_max.mpr h
theorem X4 {i:Bool}(h:P (.int (if i then 1 else 0)) t):W (Jx [.bl i]) t P:=W_int_bl.mpr h
theorem Oa (e:x.length=1)(h:P (.int (x.cps.getD 0 0:Nat)) t):W (Gu [.str x]) t P:=W_ord.mpr ⟨e,h⟩
theorem Yl (h:P (.tup ds) t):W (GC [.lst ds]) t P:=W_tup_lst.mpr h
theorem Yc (h:Q ds t):W (Ih [.tup ds]) t Q:=W_lst_tup.mpr h
theorem RN {g:Bool->Bool}{y:Str}(h:P (.bl (g (x == y))) t):W (eqS g (.str x) (.str y)) t P:=W_eq_str.mpr h
theorem W8 {g:Bool->Bool}{x y:Int}(h:P (.bl (g (x == y))) t):W (eqS g (.int x) (.int y)) t P:=W_eq_int.mpr h
theorem W9 {g:Bool->Bool}{x:List D}(h:P (.bl (g x.isEmpty)) t):W (eqS g (.lst x) (.lst [])) t P:=W_eq_nil.mpr h
theorem ZE {lo hi:Option Int}(h:P (.lst (Bh ds lo hi)) t):W (BU (.lst ds) lo hi) t P:=W_sl_lst.mpr h
theorem ZF {lo hi:Option Int}(h:P (.tup (Bh ds lo hi)) t):W (BU (.tup ds) lo hi) t P:=W_sl_tup.mpr h
theorem wSl {l u:M (Option Int)}{h:D->Option Int->Option Int->M D}(w:W f t λx t1=>W l t1 λlo t2=>W u t2 λhi t3=>W (h x lo hi) t3 P):W (fSl f l u h) t P:=W_fSl.mpr w
variable {K:Option Int->T->Prop}
theorem wNo (h:K none t):W fNo t K:=W_fNo.mpr h
theorem Za (h:K (some i) t):W (asI (.int i)) t K:=W_asI.mpr h
theorem Yg (h:W f t λx t1=>W (asI x) t1 K):W (Cd f) t K:=W_fPart.mpr h
theorem Zm (h:W f t λx t1=>W (Dn x) t1 Q):W (CW f) t Q:=W_fItA.mpr h
theorem Zn (h:Q ds t):W (Dn (.lst ds)) t Q:=W_it_lst.mpr h
theorem Zo (h:Q (x.cps.toList.map λc=>.str ⟨#[c]⟩) t):W (Dn (.str x)) t Q:=W_it_str.mpr h
theorem Yi {f:M (List D)}(h:W f t λx t1=>W (JF x) t1 Q):W (BB f) t Q:=W_fRng1.mpr h
theorem Yj {f:M (List D)}(h:W f t λx t1=>W (JG x) t1 Q):W (Fm f) t Q:=W_fRng2.mpr h
theorem El (e:BJ j=true)(h:Q (Bs 0 j.toNat) t):W (JF [.int j]) t Q:=W_rng1.mpr ⟨e,h⟩
theorem RV (e:(BJ i && BJ j)=true)(h:Q (Bs i (j - i).toNat) t):W (JG [.int i,.int j]) t Q:=W_rng2.mpr ⟨e,h⟩
theorem Xa {neg:Bool}{x:D}(e:Fq x=true/\ds.all Fq=true)(h:P (.bl (if neg then !inV (toV x) (ds.map toV) else inV (toV x) (ds.map toV))) t):W (inD neg x (.lst ds)) t P:=W_in_lst.mpr ⟨e,h⟩
variable {xs:List D}
theorem Yf {i:Nat}{h:List D->List D->Option (List D)}{g:M (List D)}(e:t.env[i]?=some (some (.own xs)))(w:W g t λds t1=>∃xs,t1.env[i]?=some (some (.own xs))/\∃ys,h xs ds=some ys/\R .next ⟨t1.env.set i (some (.own ys)),t1.S⟩):W (ownM i h g) t R:=W_ownM.mpr ⟨⟨xs,e⟩,w⟩
theorem Y9 {i:Nat}{d:D}{A:List D->Prop}(e:t1.env[i]?=some (some (.own xs)))(w:Gm (xs.length + 1) (A (xs++[d]))):∃xs,t1.env[i]?=some (some (.own xs))/\∃ys,Dj xs [d]=some ys/\A ys:=
 ⟨xs,e,_,app1_one.mpr ⟨w.1,rfl⟩,w.2⟩
theorem ZG {d:D}(h:W f t λo t1=>W g t1 λi t2=>W (FC o i d) t2 U):W (stD f g d) t U:=W_stD.mpr h
theorem SF {k:Nat}{d:D}(e:t.S[k]?=some (.lst xs))(e':ixN xs.length j=some n)(h:U () ⟨t.env,t.S.set k (.lst (xs.set n d))⟩):W (FC (.obj k) (.int j) d) t U:=W_stOb.mpr ⟨xs,e,n,e',h⟩
end F2
namespace F2
open PySem L2
variable {i:Nat}{g:Fn}{d':D}
section
variable {t:T}{P:D->T->Prop}{B:Bool->T->Prop}{Q:List D->T->Prop}
theorem Ym {n:Int}{ds:List D}{d:D}(e:t.env[i]?=some (some (.val (.tup ds))))(a:atI ds n=some d)(h:P d t):W (Ac (Ab i) (fC (.int n)) ixD) t P:=JI (DE e (wC (DC a h)))
theorem X8 {x y:Str}{ds:List D}{g:Bool->Bool}(e:t.env[i]?=some (some (.val (.tup (.str y :: ds)))))(h:B (g (y == x)) t):W (Aj (Ac (Ac (Ab i) (fC (.int 0)) ixD) (fC (.str x)) (eqS g))) t B:=Od (JI (JI (DE e (wC (DC Nr (wC (RN (Oc h))))))))
theorem Xe {x y:Str}{g:Bool->Bool}(e:t.env[i]?=some (some (.val (.str y))))(h:B (g (y == x)) t):W (Aj (Ac (Ab i) (fC (.str x)) (eqS g))) t B:=Od (JI (DE e (wC (RN (Oc h)))))
theorem Xd {x y:Int}{g:Bool->Bool}(e:t.env[i]?=some (some (.val (.int y))))(h:B (g (y == x)) t):W (Aj (Ac (Ab i) (fC (.int x)) (eqS g))) t B:=Od (JI (DE e (wC (W8 (Oc h)))))
theorem UK {d:D}(e:t.env[i]?=some (some (.val d)))(h:Wf g [d] t.S λr S'=>P r ⟨t.env,S'⟩):W (Ae g (Aa (Ab i) Ad)) t P:=Jh (Et (DE e (JL h)))
theorem UL {j:Nat}{d:D}(e:t.env[i]?=some (some (.val d)))(e':t.env[j]?=some (some (.val d')))(h:Wf g [d,d'] t.S λr S'=>P r ⟨t.env,S'⟩):W (Ae g (Aa (Ab i) (Aa (Ab j) Ad))) t P:=Jh (Et (DE e (Et (DE e' (JL h)))))
theorem UN {d:D}(e:t.env[i]?=some (some (.val d)))(h:Wf g [d,d'] t.S λr S'=>P r ⟨t.env,S'⟩):W (Ae g (Aa (Ab i) (Aa (fC d') Ad))) t P:=Jh (Et (DE e (Et (wC (JL h)))))
theorem UM {j k:Nat}{d d'':D}(e:t.env[i]?=some (some (.val d)))(e':t.env[j]?=some (some (.val d')))(e'':t.env[k]?=some (some (.val d'')))(h:Wf g [d,d',d''] t.S λr S'=>P r ⟨t.env,S'⟩):W (Ae g (Aa (Ab i) (Aa (Ab j) (Aa (Ab k) Ad)))) t P:=Jh (Et (DE e (Et (DE e' (Et (DE e'' (JL h)))))))
end
end F2
set_option maxHeartbeats 1000000
namespace LW
open PySem L2 F2
set_option compiler.extract_closed false
local macro_rules | `(tactic| clear 31 $t*)=>`(tactic| with_reducible first $[| refine $t ?_]*)
local macro_rules | `(tactic| clear 32 $t*)=>`(tactic| ((with_reducible first $[| refine' $t ?wv ?_]*);(case wv=>exact rfl)))
local macro_rules | `(tactic| clear 33 $t*)=>`(tactic| ((with_reducible first $[| refine' $t ?wv ?_]*);(case wv=>decide)))
local macro_rules | `(tactic| walk_at "w1")=>`(tactic| first
 | clear 32 X8 Xe UK
 | clear 32 Xd UN
 | ((with_reducible refine' Ym ?wv ?wu ?_);(case wv=>exact rfl);(case wu=>first | exact rfl | exact Nr | exact Sb | exact Sc))
 | ((with_reducible refine' UL ?wv ?wu ?_);(case wv=>exact rfl);(case wu=>exact rfl))
 | ((with_reducible refine' UM ?wv ?wu ?wt ?_);(case wv=>exact rfl);(case wu=>exact rfl);(case wt=>exact rfl))
 | clear 31 ZB Cn Rv ZC JI wC Et JL wIf Od Oc ZA Jh RN W8 wEqB XY Yk HE wB wBF Yh ZJ Zq Zw Zb Zf Y8 wOr Zv X0 Zx Ye wIfE W6 wUn Zu Zk wIsB wIsNot Zr Zp Zh Zg wLtS wGtS X9 Yb Ya wAbs Zt Zs wInt X4 Yl wLstL Yc wAddS XZ SA P5 Zc W9 wSl wNo Yg Za ZE wSlR wSlS ZF Zm Zn wItT wItR Zo Yi Yj FD UP RU X2 Iy wDic Zy Hd X3 ZG
 | clear 32 DE Ig ZK Yf Y9
 | clear 32 NF Yn ZM
 | ((with_reducible first | refine' DC ?wv ?_ | refine' Ek ?wv ?_);(case wv=>first | exact rfl | exact Nr | exact Sb | exact Sc))
 | ((with_reducible refine AZ ?wv ?_);(case wv=>exact Nat.le_of_ble_eq_true rfl))
 | ((with_reducible refine' Zl ?wv ?wu ?_);(case wv=>exact rfl);(case wu=>exact rfl))
 | ((with_reducible refine Zd ?wv ?wu ?_);(case wv=>decide);(case wu=>decide))
 | clear 33 Zz RQ El RV)
local macro_rules | `(tactic| right)=>`(tactic| repeat (walk_at "w1"))
structure DeckAt (k c:Nat)(S:List Ob):Prop where
 ne:k≠c
 at_:∃(cells:List Int) (par pos:Int),S[k]?=some (.lst [.obj c,.int par,.int pos])/\S[c]?=some (.lst (cells.map .int))/\cells≠[]/\0<=pos
def af (k c:Nat)(S S':List Ob):Prop:=S'.length=S.length/\∀j:Nat,j≠k->j≠c->S'[j]?=S[j]?
variable {n:Nat}{i:Int}
theorem FQ (h0:0<=i)(h1:i < n):ixN n i=some i.toNat:=by simp [ixN,h0,h1]
variable {S:List Ob}{k:Nat}
theorem Tn {o o':Ob}(h:S[k]?=some o):(S.set k o')[k]?=some o':=by
 obtain ⟨hl,_⟩:=ua8.mp h;exact ub8 hl
inductive Sh where
 | nothing | number (lo hi:Int) | text (m:Int) | list (s:Sh) (m:Int) | pair (s r:Sh) | choice (ss:List Sh)
mutual
noncomputable def Sh.d:Sh->D
 | .nothing=>.tup [.str "nothing"]
 | .number lo hi=>.tup [.str "number",.int lo,.int hi]
 | .text m=>.tup [.str "text",.int m]
 | .list s m=>.tup [.str "list",s.d,.int m]
 | .pair s r=>.tup [.str "pair",s.d,r.d]
 | .choice ss=>.tup [.str "choice",.tup (shD ss)]
noncomputable def shD:List Sh->List D
 | []=>[]
 | s :: r=>s.d :: shD r
end
mutual
noncomputable def Sh.depth:Sh->Nat
 | .nothing=>1
 | .number _ _=>1
 | .text _=>1
 | .list s _=>s.depth + 1
 | .pair s r=>max s.depth r.depth + 1
 | .choice ss=>A7 ss + 1
noncomputable def A7:List Sh->Nat
 | []=>0
 | s :: r=>max s.depth (A7 r)
end
theorem AJ:∀ss:List Sh,(shD ss).length=ss.length
 | []=>rfl
 | s :: r=>by simp [shD,AJ r]
theorem Hy:∀(ss:List Sh) (k:Nat),(shD ss)[k]?=(ss[k]?).map Sh.d
 | [],k=>by simp [shD]
 | s :: r,0=>by simp [shD]
 | s :: r,k + 1=>by simp [shD,Hy r k]
theorem C9:∀(ss:List Sh) (k:Nat) (s:Sh),ss[k]?=some s->s.depth<=A7 ss
 | [],k,s,h=>by simp at h
 | s :: r,0,s',h=>by simp at h;subst h;simp [A7];lia
 | s :: r,k + 1,s',h=>by
   have:=C9 r k s' (by simpa using h);simp [A7];lia
theorem Sh.depth_pos (s:Sh):1<=s.depth:=by cases s <;> simp [Sh.depth]
noncomputable def BT (n:Nat):Bool:=decide (32<=n) && decide (n<=126) && decide (n≠37)
noncomputable def Gk:Str->Bool:=λo=>o == ("of" : Str)
mutual
def Af:Sh->D->Bool
 | .nothing,d=>IW d
 | .number lo hi,d=>match d with
   | .int i=>decide (lo<=i) && decide (i<=hi)
   | _=>false
 | .text m,d=>match d with
   | .str x=>decide ((x.length:Int)<=m) && x.cps.toList.all BT
   | _=>false
 | .list s m,d=>match d with
   | .lst ds=>decide ((ds.length:Int)<=m) && ds.all λe=>Af s e
   | _=>false
 | .pair s r,d=>match d with
   | .tup [a,b]=>Af s a && Af r b
   | _=>false
 | .choice ss,d=>match d with
   | .tup [.str o,.int k,x]=>Gk o && (decide (0<=k) && decide (k < ss.length)) && IS ss k.toNat x
   | _=>false
def IS:List Sh->Nat->D->Bool
 | [],_,_=>false
 | s :: _,0,d=>Af s d
 | _ :: r,k + 1,d=>IS r k d
end
theorem CB:∀(ss:List Sh) (k:Nat) (s:Sh) (d:D),ss[k]?=some s->IS ss k d=Af s d
 | [],k,s,d,h=>by simp at h
 | s :: r,0,s',d,h=>by simp at h;subst h;simp [IS]
 | s :: r,k + 1,s',d,h=>by rw [IS];exact CB r k s' d (by simpa using h)
mutual
noncomputable def okD:D->Bool
 | .str x=>decide (x.length<=90000)
 | .tup xs=>oks xs
 | .lst xs=>oks xs
 | .obj _=>false
 | .scr _=>false
 | .exc _ _=>false
 | .ty _=>false
 | _=>true
noncomputable def oks:List D->Bool
 | []=>true
 | d :: r=>okD d && oks r
end
abbrev Pure1 (f:Fn)(ds:List D)(r:D):Prop:=∀S,Wf f ds S λv S'=>v=r/\S'=S
variable {f:Fn}{ds:List D}
theorem Pure1.use {r:D}(h:Pure1 f ds r){S:List Ob}{P:D->List Ob->Prop}(p:P r S):Wf f ds S P:=(h S).mono λ_ _ ⟨e1,e2⟩=>by subst e1 e2;exact p
noncomputable def VU:D->Bool
 | .int _=>true
 | _=>false
noncomputable def EX (lo hi:Int):D->Bool
 | .int i=>decide (lo<=i) && decide (i<=hi)
 | _=>false
def KU (f:Fn):Prop:=∀n:Nat,Pure1 f [.int n] (.bl (BT n))
theorem NE:KU (fnOf 1 1 G2):=by
 intro n S;refine Al rfl ?_;unfold G2;right;have c1:decide ((32:Int)<=n)=decide (32<=n):=decide_eq_decide.mpr (by lia);have c2:decide ((n:Int)<=126)=decide (n<=126):=decide_eq_decide.mpr (by lia);have c3:(!((n:Int) == 37))=decide (n≠37):=by
  by_cases h:n=37
  ·subst h;rfl
  ·have:¬((n:Int)=37):=by lia
   simp [h,this]
 rw [c1];refine AE (λe=>?_) λe=>?_
 ·right;rw [c2];refine AE (λe'=>?_) λe'=>?_
  ·right;exact ⟨by simp only [BT,e,e',c3,um9],rfl⟩
  ·exact ⟨by simp only [BT,e,e',ul8,ul9],rfl⟩
 ·right;exact ⟨by simp only [BT,e,ul8],rfl⟩
theorem J2 (x:Array Nat):∀(n:Nat) (acc:Array Nat),((List.replicate n x).foldl (·++·) acc).toList=acc.toList++(List.replicate n x.toList).flatten
 | 0,acc=>by simp
 | n + 1,acc=>by
   rw [ue8,List.foldl_cons,J2 x n,ue8,ug9];simp
theorem Pb {x:Str}{k:Int}:(Txt.mul x k).cps.toList=(List.replicate k.toNat x.cps.toList).flatten:=by
 unfold Txt.mul
 split
 ·have:k.toNat=0:=by lia
  rw [this];rfl
 ·split
  ·next h=>
   rw [ul0] at h;rcases h with h | h
   ·have:k=1:=by simpa using h
    subst this;simp
   ·have:x.cps.toList=[]:=by
     have h':x.length=0:=by simpa using h
     exact ua1 (by simpa [Str.length] using h')
    rw [this];simp
  ·have:=J2 x.cps k.toNat #[];simpa using this
theorem GZ (x:Str):x.length=x.cps.toList.length:=by simp [Str.length]
variable {α:Type}
theorem Ue (a:α)(k:Nat):(List.replicate k [a]).flatten=List.replicate k a:=by
 induction k with
 | zero=>rfl
 | succ k ih=>rw [ue8,ug9,ih,ue8];rfl
variable {fr:List (Option Sl)}{elt:M D}{z:Option Sl}
theorem Ew {f:D->D}(h:∀d∈ds,W elt ⟨some (.val d) :: fr,S⟩ λx t'=>x=f d/\t'=⟨some (.val d) :: fr,S⟩) :
 W (A9 (Ao 0) Bt elt ds) ⟨z :: fr,S⟩ λxs t'=>xs=ds.map f/\t'.S=S:=by
 refine (FG (P:=λxs t'=>xs=ds.map f/\t'.S=S) (λacc r t=>acc++r.map f=ds.map f/\∃z,t=⟨z :: fr,S⟩) ds [] _ ⟨rfl,z,rfl⟩ ?_ ?_).mono λxs t' h=>h
 ·rintro acc d r t ⟨h1,z,rfl⟩ hm;refine FD (Iy ?_);rw [if_pos rfl];refine (h d hm).mono λx t' z9=>?_;obtain ⟨e1,e2⟩:=z9;subst e1 e2;exact ⟨by rw [uh0];exact h1,_,rfl⟩
 ·rintro acc t ⟨h1,z,rfl⟩;exact ⟨by simpa using h1,rfl⟩
variable {tst:M Bool}
theorem KY {p:D->Bool}(h:∀d∈ds,W tst ⟨some (.val d) :: fr,S⟩ λb t'=>b=p d/\t'=⟨some (.val d) :: fr,S⟩) :
 W (A9 (Ao 0) tst (Ab 0) ds) ⟨z :: fr,S⟩ λxs t'=>xs=ds.filter p/\t'.S=S:=by
 refine (FG (P:=λxs t'=>xs=ds.filter p/\t'.S=S) (λacc r t=>acc++r.filter p=ds.filter p/\∃z,t=⟨z :: fr,S⟩) ds [] _ ⟨rfl,z,rfl⟩ ?_ ?_).mono λxs t' h=>h
 ·rintro acc d r t ⟨h1,z,rfl⟩ hm;refine FD ((h d hm).mono λb t' z9=>?_);obtain ⟨e1,e2⟩:=z9;subst e1 e2
  by_cases hp:p d=true
  ·rw [if_pos hp];refine DE (d:=d) rfl ⟨?_,_,rfl⟩;rw [uj2,if_pos hp] at h1;rw [uh0];exact h1
  ·rw [if_neg hp];rw [uj2,if_neg hp] at h1;exact ⟨h1,_,rfl⟩
 ·rintro acc t ⟨h1,z,rfl⟩;exact ⟨by simpa using h1,rfl⟩
mutual
noncomputable def sz:D->Nat
 | .tup xs=>szs xs + 1
 | .lst xs=>szs xs + 1
 | _=>1
noncomputable def szs:List D->Nat
 | []=>0
 | d :: r=>sz d + szs r
end
mutual
noncomputable def wf:Sh->Bool
 | .nothing=>true
 | .number lo hi=>decide (-1000000000000000000 < lo) && decide (lo<=hi) && decide (hi < 1000000000000000000)
 | .text m=>decide (0<=m) && decide (m<=250)
 | .list s m=>decide (0<=m) && decide (m<=250) && wf s
 | .pair s r=>wf s && wf r
 | .choice ss=>decide (1<=ss.length) && decide (ss.length<=9) && wfs ss
noncomputable def wfs:List Sh->Bool
 | []=>true
 | s :: r=>wf s && wfs r
end
mutual
noncomputable def cnt:Sh->Nat
 | .list s _=>cnt s + 1
 | .pair s r=>cnt s + cnt r + 1
 | .choice ss=>AT ss + 1
 | _=>1
noncomputable def AT:List Sh->Nat
 | []=>0
 | s :: r=>cnt s + AT r
end
theorem A8:∀{ss:List Sh},wfs ss=true->∀s∈ss,wf s=true
 | x :: r,h,s,m=>by
   rw [wfs,ui2] at h;rcases um5.mp m with z | z
   ·subst z;exact h.1
   ·exact A8 h.2 s z
theorem P6:∀{ss:List Sh},(∀s∈ss,wf s=true)->wfs ss=true
 | [],_=>rfl
 | x :: r,h=>by rw [wfs,h x uf6,P6 λs m=>h s (ud6 _ m)];rfl
theorem C8:∀ss:List Sh,shD ss=ss.map Sh.d
 | []=>rfl
 | s :: r=>by rw [shD,C8 r];rfl
theorem AO:∀{ss:List Sh} {s:Sh},s∈ss->s.depth<=A7 ss
 | x :: r,s,m=>by
   rw [A7];rcases um5.mp m with z | z
   ·subst z;lia
   ·have:=AO z;lia
variable {xs:List D}
theorem pick (h0:0<=i)(h1:i < xs.length){p:D->Prop}(h:∀d∈xs,p d):∃d,atI xs i=some d/\p d:=by
 obtain ⟨d,e,m,_⟩:=SK h0 h1;exact ⟨d,e,h d m⟩
def Nh (k c l:Nat)(S S':List Ob):Prop:=S'.length=S.length/\∀j:Nat,j≠k->j≠c->j≠l->S'[j]?=S[j]?
noncomputable def NZ (deep:Int):Int:=if deep < 2 then 0 else 2 * deep + 4
def bd (deep x:Int):Int:=if deep < 2 then 1 else max x 1 + NZ deep - (if deep + 1<=x then 1 else 0)
def tb (deep y i:Int):Int:=if deep=2 then i else if i=0 then 0 else y + NZ (deep - 1) + i - 1 - (if deep<=y then 1 else 0)
structure ShapeRes (k c l:Nat)(S:List Ob)(deep x:Int)(s:Sh)(S':List Ob):Prop where
 w:wf s=true
 dep:(s.depth:Int)<=max deep 1
 lft:S'[l]?=some (.lst [.int (x - cnt s)])
 one:x<=1->cnt s=1
 few:(cnt s:Int)<=max x 1 + NZ deep
 deck:DeckAt k c S'
 kp:Nh k c l S S'
 few2:(cnt s:Int)<=bd deep x
theorem YU {k:Int}:(Txt.mul ⟨#[n]⟩ k).cps.toList=List.replicate k.toNat n:=by rw [Pb];exact Ue n k.toNat
structure Sep (ks:List (Nat×Nat)):Prop where
 sep:∀p∈ks,∀q∈ks,p=q\/(q.1≠p.1/\q.1≠p.2/\q.2≠p.1/\q.2≠p.2)
mutual
noncomputable def dpt:D->Nat
 | .lst ds=>Qp ds + 1
 | .tup ds=>Qp ds + 1
 | _=>1
noncomputable def Qp:List D->Nat
 | []=>0
 | d :: r=>max (dpt d) (Qp r)
end
mutual
noncomputable def smD:D->Bool
 | .str x=>decide (x.length<=300)
 | .int i=>decide (-1000000000000000000000000 < i) && decide (i < 1000000000000000000000000)
 | .tup xs=>decide (xs.length<=300) && sms xs
 | .lst xs=>decide (xs.length<=300) && sms xs
 | .obj _=>false
 | .scr _=>false
 | .ty _=>false
 | .exc _ _=>false
 | _=>true
noncomputable def sms:List D->Bool
 | []=>true
 | d :: r=>smD d && sms r
end
theorem GQ {f:D->D->Option Bool}:∀{xs:List D},(∀d∈xs,f d d=some true)->CG f xs xs=some true
 | [],_=>rfl
 | x :: r,h=>by
   rw [CG,h x uf6,GQ λd m=>h d (ud6 _ m)];rfl
theorem IU:∀ns:List Int,FO (ns.map .int)=some ns
 | []=>rfl
 | n :: r=>by rw [um8,FO,IU r];rfl
structure ValueRes (k c l:Nat)(S:List Ob)(s:Sh)(r:D)(S':List Ob):Prop where
 fit:Af s r=true
 lft:∃a b:Int,S'[l]?=some (.lst [.int a,.int b])
 deck:DeckAt k c S'
 kp:Nh k c l S S'
variable {t:T}
theorem HD {f:M (List D)}{P:Out->T->Prop}(h:W f t λds t1=>P (.ret (.lst ds)) t1):W (Gz f) t P:=W_bnd.mpr (h.mono λ_ _ p=>W_ret.mpr p)
theorem Fj {g:Fn}{f:M (List D)}{P:List D->T->Prop}(h:W f t λds t1=>Wf g ds t1.S λr S'=>∃rs,r = .lst rs/\P rs ⟨t1.env,S'⟩):W (CV g f) t P:=by
 refine W_bnd.mpr (h.mono λds t1 z9=>?_);obtain ⟨r,S',e,rs,er,p⟩:=z9;subst er;exact ⟨rs,⟨t1.env,S'⟩,by simp only [e],p⟩
theorem US {i:Nat}{P:Out->T->Prop}(e:t.env[i]?=some (some (.own xs)))(h:P (.ret (.lst xs)) ⟨t.env.set i none,t.S⟩):W (FY i) t P:=⟨_,_,by simp only [FY,e],h⟩
variable {P:D->T->Prop}
theorem X1 (h:P (.int (Builtin.Int.intBits i:Nat)) t):W (IH (.int i)) t P:=⟨_,_,rfl,h⟩
theorem ZD {j:Int}(h0:0<=j)(h:P (.int (i / 2 ^ j.toNat)) t):W (L7 (.int i) (.int j)) t P:=⟨_,_,by simp [L7,i2C,h0],h⟩
variable {t1:T}
theorem Zj {i:Nat}{d:D}{A:List D->Prop}(e:t1.env[i]?=some (some (.own xs)))(l:xs.length < LIM)(w:A (d :: xs)):∃xs,t1.env[i]?=some (some (.own xs))/\∃ys,Ie xs [.int 0,d]=some ys/\A ys:=
 ⟨xs,e,d :: xs,by simp [Ie,l],w⟩
variable {ys:List D}
theorem RP {i:Nat}{A:List D->Prop}(e:t1.env[i]?=some (some (.own xs)))(l:xs.length + ys.length<=LIM)(w:A (xs++ys)):∃xs,t1.env[i]?=some (some (.own xs))/\∃zs,Fw xs [.lst ys]=some zs/\A zs:=
 ⟨xs,e,xs++ys,by simp [Fw,l],w⟩
theorem HX {f:M Bool}{b:M Out}{P:Out->T->Prop}(I:Nat->T->Prop)(turn:∀n t,I n t->W f t λk t1=>match k with
 | true=>∃m,n=m + 1/\W b t1 λo t2=>match o with
   | .next=>I m t2
   | .cont=>I m t2
   | .brk=>P .next t2
   | .ret x=>P (.ret x) t2
 | false=>P .next t1):∀(fuel n:Nat) (t:T),n < fuel->I n t->W (CO f b fuel) t P
 | 0,n,t,h,_=>absurd h (ul2 _)
 | fuel + 1,n,t,h,i=>by
   obtain ⟨k,t1,e1,p⟩:=turn n t i
   cases k with
   | false=>exact ⟨_,_,by simp only [CO,e1],p⟩
   | true=>
     obtain ⟨m,rfl,o,t2,e2,p⟩:=p
     cases o with
     | next=>obtain ⟨o,t',e',p⟩:=HX I turn fuel m t2 (by lia) p;exact ⟨o,t',by simp only [CO,e1,e2];exact e',p⟩
     | cont=>obtain ⟨o,t',e',p⟩:=HX I turn fuel m t2 (by lia) p;exact ⟨o,t',by simp only [CO,e1,e2];exact e',p⟩
     | brk=>exact ⟨_,_,by simp only [CO,e1,e2],p⟩
     | ret x=>exact ⟨_,_,by simp only [CO,e1,e2],p⟩
noncomputable def wid (n:Nat):Nat:=if n=0 then 0 else n.log2 / 8 + 1
theorem O3 (h:2<=n):n.log2=(n / 2).log2 + 1:=by rw [Nat.log2_def,if_pos h]
theorem QQ (h:n < 2):n.log2=0:=by rw [Nat.log2_def,if_neg (by lia)]
theorem LC:∀(k:Nat) {n:Nat},2 ^ k<=n->n.log2=(n / 2 ^ k).log2 + k
 | 0,n,_=>by rw [Nat.pow_zero,Nat.div_one,Nat.add_zero]
 | k + 1,n,h=>by
   have h2:2 ^ k * 2<=n:=by rw [<-uo4];exact h
   have h3:2<=n / 2 ^ k:=(Nat.le_div_iff_mul_le (Nat.pow_pos (by decide))).mpr (by rw [uo0];exact h2);rw [LC k (un6 (Nat.le_mul_of_pos_right _ (by decide)) h2),O3 h3,Nat.div_div_eq_div_mul,<-uo4,un1,Nat.add_comm 1 k]
theorem QO (h:256<=n):n.log2=(n / 256).log2 + 8:=LC 8 h
theorem QP (h:n < 256):n.log2 < 8:=by
 by_cases z:n=0
 ·subst z;rw [QQ (by lia)];lia
 ·exact (Nat.log2_lt z).mpr h
theorem Fk (h:0 < n):wid n=wid (n / 256) + 1:=by
 unfold wid;rw [if_neg (by lia)]
 by_cases z:n < 256
 ·have:=QP z;rw [if_pos (by lia)];lia
 ·rw [if_neg (by lia),QO (by lia)];lia
theorem F0:∀(k n:Nat),n < 256 ^ k->wid n<=k
 | 0,n,h=>by
   have:n=0:=by simpa using h
   subst this;decide
 | k + 1,n,h=>by
   by_cases z:n=0
   ·subst z;exact up5 _
   ·rw [Fk (by lia)];have:=F0 k (n / 256) (Nat.div_lt_of_lt_mul (by rw [uo4] at h;lia));lia
theorem Qh (n:Nat):((Builtin.Int.intBits (n:Int):Nat) + 7) / 8=wid n:=by
 unfold Builtin.Int.intBits wid
 by_cases z:n=0
 ·subst z;rfl
 ·have:((n:Int) == 0)=false:=by simp;exact z
  rw [this,if_neg (by simp),if_neg z,Int.natAbs_natCast];lia
noncomputable def nb:Nat->Nat->List D
 | 0,_=>[]
 | w + 1,n=>nb w (n / 256)++[.int ((n % 256:Nat):Int)]
theorem DV:∀w n,(nb w n).length=w
 | 0,n=>rfl
 | w + 1,n=>by rw [nb,ug0,DV];rfl
theorem Pd:∀w n:Nat,(List.range w).map (λk=>D.int ((n / 2 ^ (8 * (w - 1 - k)) % 256:Nat):Int))=nb w n
 | 0,n=>rfl
 | w + 1,n=>by
   rw [List.range_succ,ul3,nb,<-Pd w (n / 256)]
   congr 1
   ·refine ue9 λk hk=>?_;rw [ul7] at hk;have e:8 * (w + 1 - 1 - k)=8 + 8 * (w - 1 - k):=by lia
    rw [e,Nat.pow_add,Nat.div_div_eq_div_mul]
   ·simp
mutual
def Au:Sh->D->List D
 | .nothing,_=>[]
 | .number lo hi,d=>match d with
   | .int i=>nb (wid (hi - lo).toNat) (i - lo).toNat
   | _=>[]
 | .text _,d=>match d with
   | .str x=>.int (x.length:Nat) :: x.cps.toList.map λn=>D.int (n:Nat)
   | _=>[]
 | .list s _,d=>match d with
   | .lst ds=>.int (ds.length:Nat) :: (ds.map λd=>Au s d).flatten
   | _=>[]
 | .pair s r,d=>match d with
   | .tup [a,b]=>Au s a++Au r b
   | _=>[]
 | .choice ss,d=>match d with
   | .tup [_,.int k,x]=>.int k :: II ss k.toNat x
   | _=>[]
def II:List Sh->Nat->D->List D
 | [],_,_=>[]
 | s :: _,0,d=>Au s d
 | _ :: r,k + 1,d=>II r k d
end
theorem Ch:∀(ss:List Sh) (k:Nat) (s:Sh) (d:D),ss[k]?=some s->II ss k d=Au s d
 | [],k,s,d,h=>by simp at h
 | s :: r,0,s',d,h=>by simp at h;subst h;simp [II]
 | s :: r,k + 1,s',d,h=>by rw [II];exact Ch r k s' d (by simpa using h)
def KM (f:Fn):Prop:=∀(n j:Nat),j<=1000->Pure1 f [.int n,.int j] (.int ((n / 2 ^ (8 * j):Nat):Int))
theorem Tv:KM (fnOf 2 2 G4):=by
 intro n j hj S;refine Al rfl ?_;unfold G4;right;refine N9 (JB (by decide) (by decide)) ?_;refine ZD (by lia) ?_;refine ⟨?_,rfl⟩;have:(8 * (j:Int)).toNat=8 * j:=by lia
 rw [this];simp
def Kx (f:Fn):Prop:=∀n:Nat,n < 256 ^ 9->Pure1 f [.int n] (.int (wid n:Nat))
theorem RY:Kx (fnOf 1 1 EI):=by
 intro n _ S;refine Al rfl ?_;unfold EI;right;refine X1 ?_;right;refine ⟨?_,rfl⟩;rw [<-Qh];simp
def KN (f:Fn):Prop:=∀(n w:Nat),w<=1000->Pure1 f [.int n,.int w] (.lst (nb w n))
theorem Hu (i:Int)(n:Nat):Bs i n=(List.range n).map λk:Nat=>D.int (i + k):=by
 rfl
variable {c:Fn}
theorem TK (hc:KM c):KN (fnOf 2 2 (Eh c)):=by
 intro n w hw S;have hL:LIM=100000:=rfl;refine Al rfl ?_;unfold Eh;refine HD ?_;right;refine RV (by rw [Cb (by decide) (by decide),Cb (by lia) (by lia)];rfl) ?_;refine (Ew (f:=λd=>match d with | .int k=>.int ((n / 2 ^ (8 * (w - k.toNat)) % 256:Nat):Int) | _=>d) (fr:=[some (.val (.int n)),some (.val (.int w))]) ?_).mono ?_
 ·intro d m;rw [Hu] at m;obtain ⟨k,hk,rfl⟩:=uo5.mp m;rw [ul7] at hk;right;have e:((w:Int) - (1 + (k:Int)))=((w - (1 + k):Nat):Int):=by lia
  rw [e];refine (hc n (w - (1 + k)) (by lia)).use ?_;right;refine ⟨?_,rfl⟩;have e2:(1 + (k:Int)).toNat=1 + k:=by lia
  dsimp only;rw [e2];simp
 ·rintro xs t' ⟨rfl,hS⟩;have hn:((w:Int) + 1 - 1).toNat=w:=by lia
  rw [Hu,hn];refine AZ (by simp only [uk5,List.length_range,hL];lia) ?_;refine ⟨?_,hS⟩;rw [<-Pd w n,uo6]
  congr 1
  refine ue9 λk hk=>?_;rw [ul7] at hk;have e2:(1 + (k:Int)).toNat=1 + k:=by lia
  have e3:w - (1 + k)=w - 1 - k:=by lia
  simp only [Function.comp,e2,e3]
variable {lo hi:Int}
theorem Na (h:wf (.number lo hi)=true):(hi - lo).toNat < 256 ^ 9:=by
 simp only [wf,ui2,uh7] at h;have:(256:Nat) ^ 9=4722366482869645213696:=by decide
 lia
theorem Ge {k:Int}(h0:0<=k)(h1:k<=xs.length):Bh xs none (some k)=xs.take k.toNat:=by
 have:HT.sIx xs.length xs.length (some k)=k.toNat:=by simp only [HT.sIx];rw [if_neg (by lia)];lia
 unfold Bh;rw [this];simp [HT.sIx]
theorem Gc {k:Int}(h0:0<=k)(h1:k<=xs.length):Bh xs (some k) none=xs.drop k.toNat:=by
 have:HT.sIx xs.length 0 (some k)=k.toNat:=by simp only [HT.sIx];rw [if_neg (by lia)];lia
 unfold Bh;rw [this];simp only [HT.sIx];rw [uc3 (by simp)]
theorem Xb {i:Nat}{g:M D}{xs0:List D}(e:t.env[i]?=some (some (.own xs0)))(h:W g t λj t1=>∃n xs d,j = .int n/\t1.env[i]?=some (some (.own xs))/\atI xs n=some d/\P d t1):W (FM i g) t P:=by
 obtain ⟨j,t1,e1,n,xs,d,rfl,e2,e3,p⟩:=h;refine ⟨d,t1,?_,p⟩;unfold FM;simp only [e];show bnd g _ t=_;unfold bnd;simp only [e1,e2,e3];rfl
theorem Xc {i:Nat}{g:M D}{d:D}{xs0:List D}{U:Unit->T->Prop}(e:t.env[i]?=some (some (.own xs0)))(h:W g t λj t1=>∃n xs k,j = .int n/\t1.env[i]?=some (some (.own xs))/\ixN xs.length n=some k/\U () { t1 with env:=t1.env.set i (some (.own (xs.set k d))) }):W (Hz i g d) t U:=by
 obtain ⟨j,t1,e1,n,xs,k,rfl,e2,e3,p⟩:=h;refine ⟨(),_,?_,p⟩;unfold Hz;simp only [e];show bnd g _ t=_;unfold bnd;simp only [e1,e2,e3];rfl
structure St where
 rest:Int
 mixed:Bool
 turn:Int
noncomputable def St.ob (s:St):Ob:=.dct [(.inr (Str.ofString "rest"),.int s.rest),(.inr (Str.ofString "mixed"),.bl s.mixed),(.inr (Str.ofString "turn"),.int s.turn)]
noncomputable def take (s:St)(m:Int):Int×St:=
 if s.mixed=false then (s.rest % m,⟨s.rest / m,s.mixed,s.turn⟩)
 else
  let stir:=(s.rest % 2147483579 + 70001 * (s.turn + 1)) % 2147483579
  let rest:=(stir * stir % 2147483563 * 50021 + 7) % 2147483579
  (rest / 5 % m,⟨rest,s.mixed,s.turn + 1⟩)
theorem AW (a:Int)(n:Nat):(Bs a n).length=n:=by simp [Bs]
inductive GS where
 | fin
 | st (side:Str) (ws:List (Str×Sh×Int))
def wdD (w:Str×Sh×Int):D:=.tup [.str w.1,w.2.1.d,.int w.2.2]
def GS.d:GS->D
 | .fin=>.tup [.str (Str.ofString "end")]
 | .st side ws=>.tup [.str side,.lst (ws.map wdD)]
noncomputable def GS.isFin:GS->Bool
 | .fin=>true
 | _=>false
variable {j:Nat}
theorem L4 {a:Int}{d:D}{r:List D}(e:d :: r=(Bs a n).drop j):d = .int (a + j)/\r=(Bs a n).drop (j + 1)/\j < n:=by
 have hj:j < (Bs a n).length:=by
  rcases Nat.lt_or_ge j (Bs a n).length with h | h
  ·exact h
  ·rw [List.drop_eq_nil_of_le h] at e;cases e
 rw [ub0 hj] at e;injection e with e1 e2
 rw [AW] at hj;refine ⟨?_,e2,hj⟩;rw [e1];simp [Bs]
mutual
def G6:Sh->Bool
 | .number lo hi=>decide (hi - lo < 1000000000)
 | .list s _=>G6 s
 | .pair s r=>G6 s && G6 r
 | .choice ss=>MR ss
 | _=>true
def MR:List Sh->Bool
 | []=>true
 | s :: r=>G6 s && MR r
end
def nmB (x:Str):Bool:=decide (1<=x.length) && decide (x.length<=8) && x.cps.toList.all λc=>decide (97<=c) && decide (c<=122)
structure WOk (n:Int)(w:Str×Sh×Int):Prop where
 ok:wf w.2.1=true
 dep:w.2.1.depth<=3
 nar:G6 w.2.1=true
 few:cnt w.2.1<=13
 lo:0<=w.2.2
 hi:w.2.2 < n
 nm:w.1.length<=90000
 isn:nmB w.1=true
inductive GSOk (n:Int):GS->Prop
 | fin:GSOk n .fin
 | st {side:Str} {ws:List (Str×Sh×Int)}:(side=Str.ofString "left"\/side=Str.ofString "right")->0 < ws.length->ws.length<=9->(ws.map (·.1)).Nodup->(∀w∈ws,WOk n w)->GSOk n (.st side ws)
def c3:Nat->Nat
 | 0=>1
 | d + 1=>1 + 3 * c3 d
structure GOk (g:List GS):Prop where
 ne:0 < g.length
 le:g.length<=30
 all:∀x∈g,GSOk g.length x
def GS.words:GS->D
 | .fin=>.tup []
 | .st _ ws=>.lst (ws.map wdD)
noncomputable def GS.ws:GS->List (Str×Sh×Int)
 | .fin=>[]
 | .st _ ws=>ws
noncomputable def GS.side:GS->Str
 | .fin=>Str.ofString "end"
 | .st s _=>s
noncomputable def Lu (g:List GS)(q:Nat):GS:=g.getD q .fin
def ZP (g:List GS)(q p:Nat):Str×Sh×Int:=(Lu g q).ws.getD p (Str.ofString "",.nothing,0)
structure MvOk (g:List GS)(q:Nat)(p:Nat)(v:D):Prop where
 lt:q < g.length
 pl:p < (Lu g q).ws.length
 fit:Af (ZP g q p).2.1 v=true
theorem ZH {ns:List Int}(e:FO ds=some ns)(h:P (.int ns.sum) t):W (JH [.lst ds]) t P:=⟨_,_,by simp only [JH,e],h⟩
theorem No {l:List α}{ι f:α->D}(h:∀a∈l,W elt ⟨some (.val (ι a)) :: fr,S⟩ λx t'=>x=f a/\t'=⟨some (.val (ι a)) :: fr,S⟩) :
 W (A9 (Ao 0) Bt elt (l.map ι)) ⟨z :: fr,S⟩ λxs t'=>xs=l.map f/\t'.S=S:=by
 induction l generalizing z with
 | nil=>exact W_compL_nil.mpr ⟨rfl,rfl⟩
 | cons a r ih=>
   rw [um8,W_compL_cons];refine FD (Iy ?_);rw [if_pos rfl];refine (h a uf6).mono λx t' z9=>?_;obtain ⟨e1,e2⟩:=z9;subst e1 e2;refine (ih (z:=some (.val (ι a))) λb hb=>h b (ud6 _ hb)).mono λxs t' z9=>?_;obtain ⟨e1,e2⟩:=z9;subst e1;exact ⟨rfl,e2⟩
abbrev Wd:=Str×Sh×Int
def ZO (g:List GS):Nat->Nat->List (List Str)
 | 0,s=>if (Lu g s).isFin then [[]] else []
 | n + 1,s=>((Lu g s).ws.map λw=>(ZO g n w.2.2.toNat).map (w.1 :: ·)).flatten
inductive Tr (g:List GS):Nat->List Str->List (Nat×Nat)->Nat->Prop
 | nil {s:Nat}:s < g.length->Tr g s [] [] s
 | cons {s p:Nat} {w:Wd} {r:List Str} {st:List (Nat×Nat)} {e:Nat}:s < g.length->(Lu g s).ws[p]?=some w->Tr g w.2.2.toNat r st e->Tr g s (w.1 :: r) ((s,p) :: st) e
mutual
def An:Sh->Sh->Bool
 | .nothing,r=>match r with
   | .nothing=>true
   | _=>false
 | .number l h,r=>match r with
   | .number l' h'=>decide (l=l') && ((wid (h - l).toNat == wid (h' - l').toNat) && decide (h<=h'))
   | _=>false
 | .text q,r=>match r with
   | .text q'=>decide (q<=q')
   | _=>false
 | .list s q,r=>match r with
   | .list s' q'=>decide (q<=q') && (decide (q=0) || An s s')
   | _=>false
 | .pair a b,r=>match r with
   | .pair a' b'=>An a a' && An b b'
   | _=>false
 | .choice ss,r=>match r with
   | .choice rs=>decide (ss.length<=rs.length) && Bz ss rs
   | _=>false
def Bz:List Sh->List Sh->Bool
 | [],_=>true
 | s :: ss,rs=>match rs with
   | r :: rs=>An s r && Bz ss rs
   | []=>true
end
def Ax:Sh->Nat
 | .nothing=>0
 | .number _ _=>1
 | .text _=>2
 | .list _ _=>3
 | .pair _ _=>4
 | .choice _=>5
def kinds:List Str:=["nothing", "number", "text", "list", "pair", "choice"]
def Hn (s:Sh):Str:=kinds.getD (Ax s) ""
theorem Lz (s:Sh):Ax s < 6:=by cases s <;> simp [Ax]
theorem QJ:kinds.Nodup:=by decide +kernel
variable {s r:Sh}
theorem GX (h:Hn s=Hn r):Ax s=Ax r:=by
 have h1:Ax s < kinds.length:=Lz s;have h2:Ax r < kinds.length:=Lz r;unfold Hn at h;rw [ua6,ub2 h1,ua6,ub2 h2] at h;exact (uh9 QJ).mp h
theorem DN (s:Sh):∃ds,s.d = .tup (.str (Hn s) :: ds):=by cases s <;> exact ⟨_,by rw [Sh.d];rfl⟩
theorem FE (h:Ax s≠Ax r):An s r=false:=by
 cases s <;> cases r <;> first | exact absurd rfl h | (unfold An;rfl)
theorem HU:∀{ss rs:List Sh} {k:Nat} {s r:Sh},Bz ss rs=true->ss[k]?=some s->rs[k]?=some r->An s r=true
 | s :: ss,r :: rs,0,s',r',h,e1,e2=>by
   rw [Bz,ui2] at h
   cases e1;cases e2;exact h.1
 | s :: ss,r :: rs,k + 1,s',r',h,e1,e2=>by
   rw [Bz,ui2] at h;exact HU h.2 (by simpa using e1) (by simpa using e2)
 | [],_,k,_,_,_,e1,_=>by simp at e1
 | _ :: _,[],k,_,_,_,_,e2=>by simp at e2
def Nn (f:Fn):Prop:=∀lo hi:Int,lo<=hi->hi - lo < 4000000000000000000->Pure1 f [.tup [.str "number",.int lo,.int hi]] (.int (wid (hi - lo).toNat:Nat))
variable {cw:Fn}
theorem Mr (hw:Kx cw):Nn (fnOf 1 1 (Go cw)):=by
 intro lo hi h h2 S;refine Al rfl ?_;unfold Go;right;have:=hw (hi - lo).toNat (by have:(256:Nat) ^ 9=4722366482869645213696:=(by decide);lia);rw [uf0 (by lia)] at this;exact this.use ⟨rfl,rfl⟩
def Eo (f:Fn)(n:Nat):Prop:=∀s r:Sh,s.depth<=n->wf s=true->wf r=true->Pure1 f [s.d,r.d] (.bl (An s r))
theorem Y7 {bs:List Bool}(e:F7 ds=some bs)(h:P (.bl (bs.all id)) t):W (Jq [.lst ds]) t P:=⟨_,_,by simp only [Jq,e],h⟩
theorem JU:∀bs:List Bool,F7 (bs.map D.bl)=some bs
 | []=>rfl
 | b :: r=>by rw [um8,F7,JU r];rfl
variable {ss:List Sh}
theorem Es (h:k < ss.length):atI (shD ss) (k:Int)=some (ss[k]).d:=by
 unfold atI;rw [FQ (by lia) (by rw [AJ];lia)];show (shD ss)[(k:Int).toNat]?=_;rw [uh4,Hy,ub2 h];rfl
theorem HS:∀{ss rs:List Sh},ss.length<=rs.length->((List.range ss.length).map λk=>An (ss.getD k .nothing) (rs.getD k .nothing)).all id=Bz ss rs
 | [],_,_=>by rw [Bz];rfl
 | s :: ss,[],h=>by simp at h
 | s :: ss,r :: rs,h=>by
   rw [Bz,ui9,List.range_succ_eq_map,um8,uo6,um6,<-HS (ss:=ss) (rs:=rs) (by simpa using h)];rfl
theorem Lx {ci:Fn}(hw:Nn cw)(hi:n=0\/Eo ci n):Eo (fnOf 2 3 (FA ci cw)) (n + 1):=by
 intro s r hd hs hr S;have hL:LIM=100000:=rfl;refine Al rfl ?_;unfold FA;have rec_:∀{a b:Sh},a.depth<=n->wf a=true->wf b=true->Pure1 ci [a.d,b.d] (.bl (An a b)):=λ{a b} h1 h2 h3=>by
  rcases hi with rfl | hi
  ·exact absurd a.depth_pos (by lia)
  ·exact hi a b h1 h2 h3
 by_cases hk:Ax s=Ax r
 ·cases s with
  | nothing=>
    cases r <;> first | (simp [Ax] at hk;done) | skip
    rw [Sh.d];right;exact ⟨by rw [An],rfl⟩
  | number l h=>
    cases r <;> first | (simp [Ax] at hk;done) | skip
    rename_i l' h';simp only [wf,ui2,uh7] at hs hr;rw [Sh.d,Sh.d];right;rw [An];refine AE (λz=>?_) λz=>?_
    ·have z':l=l':=by simpa using z
     right;refine (hw l h hs.1.2 (by lia)).use ?_;right;refine (hw l' h' hr.1.2 (by lia)).use ?_;right;refine AE (λy=>?_) λy=>?_
     ·have y':wid (h - l).toNat=wid (h' - l').toNat:=by have:=eq_of_beq y;lia
      right;exact ⟨by rw [um3 z',y'];simp,rfl⟩
     ·have y':¬wid (h - l).toNat=wid (h' - l').toNat:=λq=>(beq_eq_false_iff_ne.mp y) (by rw [q]);exact ⟨by rw [beq_eq_false_iff_ne.mpr y'];simp,rfl⟩
    ·have z':¬l=l':=by simpa using z
     exact ⟨by rw [ul6 z'];simp,rfl⟩
  | text q=>
    cases r <;> first | (simp [Ax] at hk;done) | skip
    rw [Sh.d,Sh.d];right;exact ⟨by rw [An],rfl⟩
  | list s q=>
    cases r <;> first | (simp [Ax] at hk;done) | skip
    rename_i s' q';rw [Sh.depth] at hd;simp only [wf,ui2,uh7] at hs hr;rw [Sh.d,Sh.d];right;rw [An];refine AE (λz=>?_) λz=>?_
    ·right;refine AE (λy=>?_) λy=>?_
     ·have y':q=0:=by simpa using y
      exact ⟨by rw [z,um3 y'];rfl,rfl⟩
     ·have y':¬q=0:=by simpa using y
      right;refine (rec_ (by lia) hs.2 hr.2).use ?_;exact ⟨by rw [z,ul6 y'];rfl,rfl⟩
    ·exact ⟨by rw [z];rfl,rfl⟩
  | pair a b=>
    cases r <;> first | (simp [Ax] at hk;done) | skip
    rename_i a' b';rw [Sh.depth] at hd;simp only [wf,ui2] at hs hr;rw [Sh.d,Sh.d];right;rw [An];refine (rec_ (by lia) hs.1 hr.1).use ?_;right;refine AE (λz=>?_) λz=>?_
    ·right;refine (rec_ (by lia) hs.2 hr.2).use ?_;exact ⟨by rw [z];rfl,rfl⟩
    ·exact ⟨by rw [z];rfl,rfl⟩
  | choice ss=>
    cases r <;> first | (simp [Ax] at hk;done) | skip
    rename_i rs;rw [Sh.depth] at hd;simp only [wf,ui2,uh7] at hs hr;rw [Sh.d,Sh.d];right;rw [AJ,AJ,An];refine AE (λz=>?_) λz=>?_
    ·have z':ss.length<=rs.length:=by have:=uh8 z;lia
     right;rw [AJ];refine El (Cb (by lia) (by lia)) ?_;rw [uh4];refine (No (l:=List.range ss.length) (ι:=λi:Nat=>D.int (0 + (i:Int))) (f:=λk=>.bl (An (ss.getD k .nothing) (rs.getD k .nothing))) (fr:=[some (.val (.tup [.str "choice",.tup (shD ss)])),some (.val (.tup [.str "choice",.tup (shD rs)]))]) ?_).mono ?_
     ·intro k hk;rw [ul7] at hk;have hk2:k < rs.length:=by lia
      rw [uo7];right;refine DC (Es hk) ?_;right;refine DC (Es hk2) ?_;right;refine (rec_ (un6 (AO (uj0 hk)) (by lia)) (A8 hs.2 _ (uj0 hk)) (A8 hr.2 _ (uj0 hk2))).use ?_;refine ⟨?_,rfl⟩;rw [ua6,ub2 hk,ua6,ub2 hk2];rfl
     ·rintro xs t' ⟨rfl,hS⟩;refine AZ (by rw [uk5,List.length_range,hL];lia) ?_;right;refine Y7 (bs:=(List.range ss.length).map λk=>An (ss.getD k .nothing) (rs.getD k .nothing)) ?_ ⟨?_,hS⟩
      ·rw [<-JU,uo6];rfl
      ·rw [HS z',um3 z'];rfl
    ·have z':¬ss.length<=rs.length:=by have:=of_decide_eq_false z;lia
     exact ⟨by rw [ul6 z'];rfl,rfl⟩
 ·obtain ⟨ds,e⟩:=DN s;obtain ⟨es,e'⟩:=DN r;rw [e,e'];right;refine Ig (by rw [uh5,beq_eq_false_iff_ne];exact λz=>hk (GX z)) ?_;right;exact ⟨by rw [FE hk],rfl⟩
def Room (k r:Nat)(S:List Ob):Prop:=∃a b c:Int,S[k]?=some (.lst [.int a,.int b,.int c])/\0<=c/\c + r<=1000000000000000000000000000000
theorem Room.mono {r r':Nat}(h:Room k r S)(e:r'<=r):Room k r' S:=by
 obtain ⟨a,b,c,h1,h2,h3⟩:=h;exact ⟨a,b,c,h1,h2,by lia⟩
variable {m:Nat}
theorem Room.drop {r:Nat}(h:Room k (r + m) S):Room k r S:=h.mono (ui6 _ _)
theorem HC {j:Int}(h1:i.natAbs < 2 ^ 512)(h2:j.natAbs < 2 ^ 512)(h:P (.int (i * j)) t):W (FB (.int i) (.int j)) t P:=
 ⟨_,_,by simp only [FB,i2C,LJ,um3 h1,um3 h2];rfl,h⟩
theorem SC {j:Int}(h1:0 < j)(h2:j < 18446744073709551616)(h:P (.int (i / j)) t):W (Hj (.int i) (.int j)) t P:=
 ⟨_,_,by simp only [Hj,i2C,Lj,um3 h1,um3 h2];rfl,h⟩
def PTakeOk (f:Fn):Prop:=∀(k r:Nat) (S:List Ob) (m:Int),0 < m->m < 4611686018427387904->Room k (r + 1) S->Wf f [.obj k,.int m] S λv S'=>(∃i,v = .int i/\0<=i/\i < m)/\Room k r S'
theorem PTakeOk.use (h:PTakeOk f){k r:Nat}{S:List Ob}{m:Int}(many:Int)(d:Room k (r + 1) S){P:D->List Ob->Prop}(p:∀i S',0<=i->i < many->Room k r S'->P (.int i) S')(e:m=many:=by first | rfl | decide)(h1:0 < many:=by decide)(h2:many < 4611686018427387904:=by decide):Wf f [.obj k,.int m] S P:=by
 subst e;exact (h k r S m h1 h2 d).mono λv S' ⟨⟨i,e,i0,i1⟩,q⟩=>by subst e;exact p i S' i0 i1 q
theorem LQ {o o':Ob}(h:S[k]?=some o):(S.set k o')[k]?=some o':=Tn h
theorem Ep (h0:0<=i)(h:i < 10000000000000000000000000000000000000000000000000000000000000000000000000000000):i.natAbs < 2 ^ 512:=by
 have:(10000000000000000000000000000000000000000000000000000000000000000000000000000000:Nat)<=2 ^ 512:=by decide
 lia
theorem Rc:PTakeOk (fnOf 2 5 DT):=by
 intro k n S m hm0 hm1 ⟨a,b,c,hS,c0,c1⟩;refine Al rfl ?_;unfold DT;right;refine JK hS (by rfl) ?_;right;refine AE (λz=>?_) λz=>?_
 ·right;refine JK hS (by rfl) ?_;right;refine RQ hm0 ?_;right;refine JK hS (by rfl) ?_;right;refine SC hm0 (by lia) ?_;right;refine SF (n:=0) hS (by rfl) ?_;right;exact ⟨⟨_,rfl,ul4 _ (by lia),ug4 _ hm0⟩,_,_,_,LQ hS,c0,by lia⟩
 ·right;refine JK hS (by rfl) ?_;right;refine SF (n:=2) hS (by rfl) ?_;have g1:(S.set k (.lst [.int a,.int b,.int (c + 1)]))[k]?=some (.lst [.int a,.int b,.int (c + 1)]):=LQ hS;refine Cn ?_
  change W _ ⟨[some (.val (.obj k)),some (.val (.int m)),none,none,none],S.set k (.lst [.int a,.int b,.int (c + 1)])⟩ _
  generalize S.set k (.lst [.int a,.int b,.int (c + 1)])=S1 at g1 ⊢;right;refine JK g1 (by rfl) ?_;right;refine JK g1 (by rfl) ?_;right;have a0:=ul4 a (b:=9999999769) (by decide);have a1:=ug4 a (b:=9999999769) (by decide);generalize a % 9999999769=x at a0 a1;obtain ⟨s,es⟩:∃s,s=c + 1:=⟨_,rfl⟩;rw [<-es];have s0:0<=s:=by lia
  have s1:s<=1000000000000000000000000000000:=by lia
  refine HC (by decide) (Ep s0 (by lia)) ?_;right;refine HC (Ep (by lia) (by lia)) (Ep (by lia) (by lia)) ?_;right;refine HC (by decide) (Ep s0 (by lia)) ?_;right;refine HC (Ep (by lia) (by lia)) (Ep s0 (by lia)) ?_;right;have p1:0<=(x + 733) * (9 * s + 31):=Int.mul_nonneg (by lia) (by lia);have p2:(x + 733) * (9 * s + 31)<=10000000502 * 9000000000000000000000000000031:=Int.mul_le_mul (by lia) (by lia) (by lia) (by lia);have p3:0<=2917 * s * s:=Int.mul_nonneg (by lia) s0;have p4:2917 * s * s<=2917000000000000000000000000000000 * 1000000000000000000000000000000:=Int.mul_le_mul (by lia) s1 s0 (by lia);generalize (x + 733) * (9 * s + 31)=y1 at p1 p2;generalize 2917 * s * s=y2 at p3 p4;refine HC (Ep (by lia) (by lia)) (Ep (by lia) (by lia)) ?_;right;have b0:=ul4 ((y1 + y2) * (y1 + y2)) (b:=99999999821) (by decide);have b1:=ug4 ((y1 + y2) * (y1 + y2)) (b:=99999999821) (by decide);generalize (y1 + y2) * (y1 + y2) % 99999999821=z1 at b0 b1;refine HC (Ep (by lia) (by lia)) (Ep (by lia) (by lia)) ?_;right;refine SC (by decide) (by decide) ?_;right;refine RQ hm0 ?_;exact ⟨⟨_,rfl,ul4 _ (by lia),ug4 _ hm0⟩,_,_,_,g1,by lia,by lia⟩
theorem Mw {x:Ob}:(S++[x])[S.length]?=some x:=by simp
def Jm (f:Fn):Prop:=∀(ns:List Int) (k:Nat) (S:List Ob),k<=1000->Wf f [.scr ns,.int k] S λr S'=>r = .obj S.length/\Room S.length 900000000000000000000000000000 S'
theorem Q6:Jm (fnOf 2 3 E6):=by
 intro ns k S hk;refine Al rfl ?_;unfold E6;right;have fin:∀c:Int,W (Ag (ifS (Aj (Ac (Ab 2) (Ac (fC (.int 10)) (fC (.int 18)) Fb) geA))
  (Ak (D5 (AI (Aa (Ac (Ab 2) (Ac (fC (.int 10)) (fC (.int 18)) Fb) Cs) (Aa (fC (.int 1)) (Aa (fC (.int 0)) Ad))))))
  Am)
 (Ak (D5 (AI (Aa (Ab 2) (Aa (fC (.int 0)) (Aa (Ac (fC (.int 13)) (Ab 1) EK) Ad))))))) ⟨[some (.val (.scr ns)),some (.val (.int k)),some (.val (.int c))],S⟩ λo t=>match o with
   | .ret r=>r = .obj S.length/\Room S.length 900000000000000000000000000000 t.S
   | .next=>D.non = .obj S.length/\Room S.length 900000000000000000000000000000 t.S
   | _=>False:=by
   intro c;right;refine AE (λz=>?_) λz=>?_
   ·right;exact ⟨rfl,_,_,_,Mw,Int.le_refl 0,by decide⟩
   ·right;refine N9 (JB (by decide) (by decide)) ?_;right;exact ⟨rfl,_,_,_,Mw,by lia,by lia⟩
 refine AE (λz=>?_) λz=>?_
 ·have z':k < ns.length:=by have:=uh8 z;lia
  right;refine W_ix_scr.mpr ⟨ns[k],?_,?_⟩
  ·unfold atI;rw [FQ (by lia) (by lia)];show ns[(k:Int).toNat]?=_;rw [uh4,ub2 z']
  ·refine Cn ?_;exact fin _
 ·refine HE ?_;refine Cn ?_;exact fin 0
mutual
def wfB (B:Int):Sh->Bool
 | .nothing=>true
 | .number lo hi=>decide (-B<=lo) && decide (lo<=hi) && decide (hi<=B)
 | .text m=>decide (0<=m) && decide (m<=250)
 | .list s m=>decide (0<=m) && decide (m<=250) && wfB B s
 | .pair s r=>wfB B s && wfB B r
 | .choice ss=>decide (1<=ss.length) && decide (ss.length<=9) && IA B ss
def IA (B:Int):List Sh->Bool
 | []=>true
 | s :: r=>wfB B s && IA B r
end
theorem GF {B:Int}:∀{ss:List Sh},IA B ss=true->∀s∈ss,wfB B s=true
 | x :: r,h,s,m=>by
   rw [IA,ui2] at h;rcases um5.mp m with e | m
   ·subst e;exact h.1
   ·exact GF h.2 s m
theorem JN {B:Int}:∀{ss:List Sh},(∀s∈ss,wfB B s=true)->IA B ss=true
 | [],_=>by rw [IA]
 | x :: r,h=>by rw [IA,h x uf6,JN λs m=>h s (ud6 _ m)];rfl
theorem A4 {B C:Int}(hBC:B<=C):∀(n:Nat) (s:Sh),s.depth<=n->wfB B s=true->wfB C s=true
 | 0,s,h,_=>absurd s.depth_pos (by lia)
 | n + 1,s,hd,h=>by
   cases s with
   | nothing=>rw [wfB]
   | number lo hi=>simp only [wfB,ui2,uh7] at h ⊢;lia
   | text q=>exact h
   | list s q=>
     rw [Sh.depth] at hd;simp only [wfB,ui2,uh7] at h ⊢;exact ⟨h.1,A4 hBC n s (by lia) h.2⟩
   | pair a b=>
     rw [Sh.depth] at hd;simp only [wfB,ui2] at h ⊢;exact ⟨A4 hBC n a (by lia) h.1,A4 hBC n b (by lia) h.2⟩
   | choice ss=>
     rw [Sh.depth] at hd;simp only [wfB,ui2,uh7] at h ⊢;exact ⟨h.1,JN λx m=>A4 hBC n x (un6 (AO m) (by lia)) (GF h.2 x m)⟩
theorem Db {B:Int}(hB:B < 1000000000000000000):∀(n:Nat) (s:Sh),s.depth<=n->wfB B s=true->wf s=true
 | 0,s,h,_=>absurd s.depth_pos (by lia)
 | n + 1,s,hd,h=>by
   cases s with
   | nothing=>rw [wf]
   | number lo hi=>simp only [wfB,wf,ui2,uh7] at h ⊢;lia
   | text q=>simp only [wfB,wf,ui2,uh7] at h ⊢;exact h
   | list s q=>
     rw [Sh.depth] at hd;simp only [wfB,wf,ui2,uh7] at h ⊢;exact ⟨h.1,Db hB n s (by lia) h.2⟩
   | pair a b=>
     rw [Sh.depth] at hd;simp only [wfB,wf,ui2] at h ⊢;exact ⟨Db hB n a (by lia) h.1,Db hB n b (by lia) h.2⟩
   | choice ss=>
     rw [Sh.depth] at hd;simp only [wfB,wf,ui2,uh7] at h ⊢;exact ⟨h.1,P6 λx m=>Db hB n x (un6 (AO m) (by lia)) (GF h.2 x m)⟩
def B0:Int:=300000000000000000
structure Drawn (k r:Nat)(dp:Nat)(v:D)(S':List Ob):Prop where
 ex:∃s:Sh,v=s.d/\s.depth<=dp/\wfB B0 s=true
 pool:Room k r S'
theorem IY {a b c:Int}(h:a < b)(h2:b<=c):a<=c:=uo8 (uo9 h) h2
def PLeafOk (f:Fn):Prop:=∀(k r:Nat) (S:List Ob),Room k (r + 20) S->Wf f [.obj k] S λv S'=>Drawn k r 1 v S'
variable {B:Int}
theorem Iz {m:Int}(h0:0<=m)(h1:m<=250):wfB B (.text m)=true:=by rw [wfB,um3 h0,um3 h1];rfl
theorem JM (h0 : -B<=lo)(h1:lo<=hi)(h2:hi<=B):wfB B (.number lo hi)=true:=by rw [wfB,um3 h0,um3 h1,um3 h2];rfl
theorem DF {m:Int}(h0:0<=m)(h1:m<=250)(h:wfB B s=true):wfB B (.list s m)=true:=by rw [wfB,um3 h0,um3 h1,h];rfl
variable {a b:Sh}
theorem Cc (h0:wfB B a=true)(h1:wfB B b=true):wfB B (.pair a b)=true:=by rw [wfB,h0,h1];rfl
theorem Hf (h0:1<=ss.length)(h1:ss.length<=9)(h:∀x∈ss,wfB B x=true):wfB B (.choice ss)=true:=by rw [wfB,um3 h0,um3 h1,JN h];rfl
theorem HF (h0:wfB B a=true)(h1:wfB B b=true):wfB B (.choice [a,b])=true:=Hf (by simp) (by simp) (by simp [h0,h1])
theorem Vi (m:Int):(Sh.text m).depth<=1:=by simp [Sh.depth]
theorem Jt (lo hi:Int):(Sh.number lo hi).depth<=1:=by simp [Sh.depth]
theorem Qo:Sh.nothing.depth<=1:=by simp [Sh.depth]
theorem GO {m:Int}(h:s.depth<=n):(Sh.list s m).depth<=n + 1:=by rw [Sh.depth];exact uj3 h
theorem Fv (h:a.depth<=n)(h2:b.depth<=n):(Sh.pair a b).depth<=n + 1:=by rw [Sh.depth];exact uj3 (Nat.max_le.mpr ⟨h,h2⟩)
theorem Lk (h:∀x∈ss,x.depth<=n):(Sh.choice ss).depth<=n + 1:=by
 rw [Sh.depth];refine uj3 ?_
 induction ss with
 | nil=>rw [A7];exact up5 _
 | cons x r ih=>rw [A7];exact Nat.max_le.mpr ⟨h x uf6,ih λy m=>h y (ud6 _ m)⟩
theorem Kz (h:a.depth<=n)(h2:b.depth<=n):(Sh.choice [a,b]).depth<=n + 1:=Lk (by simp [h,h2])
theorem Ez (h:s.depth<=1):s.depth<=n + 1:=un6 h (uj3 (up5 _))
variable {ct:Fn}
theorem Q4 (ht:PTakeOk ct):PLeafOk (fnOf 1 4 (DQ ct)):=by
 intro k r S hp;refine Al rfl ?_;unfold DQ;right;refine ht.use 6 hp λi S1 i0 i1 p1=>?_;right;refine AE (λz=>?_) λz=>?_
 ·right;exact ⟨⟨.nothing,by rw [Sh.d],Qo,by rw [wfB]⟩,p1.drop⟩
 right;refine AE (λy=>?_) λy=>?_
 ·right;refine ht.use 4 p1 λa S2 a0 a1 p2=>?_;right;refine ht.use 251 p2 λb S3 b0 b1 p3=>?_;right;refine ht.use 3 p3 λg S4 z0 z1 p4=>?_;obtain ⟨d,ed,m,rfl,m0,m1⟩:=pick (xs:=[D.int a,D.int b,D.int 250]) z0 (by simpa using z1) (p:=λd=>∃m:Int,d = .int m/\0<=m/\m<=250) (by
   simp only [ue1];exact ⟨⟨_,rfl,a0,IY a1 (by decide)⟩,⟨_,rfl,b0,ue2 b1⟩,⟨_,rfl,by decide,by decide⟩,λ_ z=>nomatch z⟩)
  refine Ek ed ?_;right;exact ⟨⟨.text m,by rw [Sh.d],Vi m,Iz m0 m1⟩,p4.drop⟩
 ·right;refine ht.use 9 p1 λa S2 a0 a1 p2=>?_;right;refine N9 (JB (by decide) (by decide)) ?_;right;refine ht.use 200000000000000000 p2 λb S3 b0 b1 p3=>?_;right;refine ht.use 2 p3 λg S4 z0 z1 p4=>?_;have e17:(10:Int) ^ (17:Int).toNat=100000000000000000:=by decide
  rw [e17];obtain ⟨d,ed,lo,rfl,l0,l1⟩:=pick (xs:=[D.int (a - 4),D.int (b - 100000000000000000)]) z0 (by simpa using z1) (p:=λd=>∃m:Int,d = .int m/\-100000000000000000<=m/\m<=100000000000000000) (by
   simp only [ue1];clear z0 z1 ht p4;exact ⟨⟨_,rfl,by lia,by lia⟩,⟨_,rfl,by lia,by lia⟩,λ_ z=>nomatch z⟩)
  refine Ek ed ?_;right;refine ht.use 4 p4 λu S5 u0 u1 p5=>?_;right;refine ht.use 4 p5 λv S6 v0 v1 p6=>?_;right;refine ht.use 1000 p6 λw S7 w0 w1 p7=>?_;right;refine ht.use 100000000000000000 p7 λx S8 x0 x1 p8=>?_;right;refine ht.use 6 p8 λh S9 h0 h1 p9=>?_;obtain ⟨d,ed,hi,rfl,m0,m1⟩:=pick (xs:=[D.int 0,D.int 1,D.int (254 + u),D.int (65534 + v),D.int w]++[D.int x]) h0 (by simpa using h1) (p:=λd=>∃m:Int,d = .int m/\0<=m/\m<=100000000000000000) (by
   simp only [uj4,uk7,ue1];exact ⟨⟨_,rfl,by decide,by decide⟩,⟨_,rfl,by decide,by decide⟩,⟨_,rfl,um2 (by decide) u0,uo8 (Int.add_le_add_left (uo9 u1) _) (by decide)⟩,⟨_,rfl,um2 (by decide) v0,uo8 (Int.add_le_add_left (uo9 v1) _) (by decide)⟩,⟨_,rfl,w0,IY w1 (by decide)⟩,⟨_,rfl,x0,uo9 x1⟩,λ_ z=>nomatch z⟩)
  refine Ek ed ?_;right;have hB:B0=300000000000000000:=rfl;refine ⟨⟨.number lo (lo + hi),by rw [Sh.d],Jt _ _,JM (uo8 (by decide) l0) (Int.le_add_of_nonneg_right m0) (uo8 (Int.add_le_add l1 m1) (by decide))⟩,p9.drop⟩
theorem PLeafOk.use (h:PLeafOk f){k r:Nat}{S:List Ob}(d:Room k (r + 20) S){P:D->List Ob->Prop}(p:∀s S',s.depth<=1->wfB B0 s=true->Room k r S'->P s.d S'):Wf f [.obj k] S P:=
 (h k r S d).mono λv S' ⟨⟨s,e,h1,h2⟩,q⟩=>by subst e;exact p s S' h1 h2 q
def pt:Nat->Nat
 | 0=>21
 | d + 1=>163 + pt d + pt d + 1
theorem Ff (h:n<=m)(hm:m<=1000:=by decide):BJ (n:Int)=true:=Cb (by lia) (by lia)
theorem XH:∀d,d < 4->pt d<=1316:=by decide
theorem Li {l:List α}{x:α}{c:Int}(h0:0<=c)(hc:c < (l.length:Int) + 1):(l.take c.toNat++[x]++l.drop c.toNat).length=l.length + 1:=by
 rw [ug0,ug0,ui0,ui1];simp only [ui9,ul5];lia
theorem Nb {a b l:Nat}(h:a<=b + 1)(h2:b + (l + 1)<=n):a + l<=n:=by lia
theorem Room.loop {r q:Nat}(h:Room k (r + q * (m + 1)) S):Room k (r + q * m + q) S:=by rw [Nat.mul_succ,<-un1] at h;exact h
theorem LB {l:List α}{x:α}(h:l.length + (m + 1)=n):(l++[x]).length + m=n:=by rw [ug0,<-h];simp only [ui9,ul5];lia
theorem EU {l:List α}{x:α}{p:α->Prop}(h:∀y∈l,p y)(hx:p x):∀y∈l++[x],p y:=λy hy=>by
 rcases uj9.mp hy with h' | h'
 ·exact h y h'
 ·rw [ug2] at h';subst h';exact hx
theorem MP {l:List α}{x:α}{p:α->Prop}{c:Nat}(h:∀y∈l,p y)(hx:p x):∀y∈l.take c++[x]++l.drop c,p y:=λy hy=>by
 rcases uj9.mp hy with h' | h'
 ·exact EU (λz hz=>h z (List.mem_of_mem_take hz)) hx y h'
 ·exact h y (List.mem_of_mem_drop h')
theorem Do {a:Nat}(h:a<=n)(hn:n<=100000:=by decide):a<=LIM:=un6 h hn
theorem t6m {a0 e2 e3 e4 e5:Option Sl}{X Y:List D}(h:X=Y):(⟨[a0,some (.own X),e2,e3,e4,e5],S⟩:T)=⟨[a0,some (.own Y),e2,e3,e4,e5],S⟩:=by subst h;rfl
def Fl (f:Fn):Prop:=∀lo hi:Int,lo<=hi->hi - lo < 4000000000000000000->Pure1 f [.int lo,.int hi] (.int (wid (hi - lo).toNat:Nat))
theorem NT:Fl (fnOf 2 4 Dk):=by
 intro lo hi h1 h2 S;have hb:(hi - lo).toNat < 256 ^ 9:=by
  have:(256:Nat) ^ 9=4722366482869645213696:=by decide
  lia
 have hn:wid (hi - lo).toNat < Kv:=ug5 (F0 9 _ hb) (by decide);refine Al rfl ?_;unfold Dk;right;have e0:hi - lo=((hi - lo).toNat:Int):=by lia
 rw [e0];generalize (hi - lo).toNat=n at hn;rw [uh4];refine HX (λk t=>∃m:Nat,k=wid m/\t=⟨[some (.val (.int lo)),some (.val (.int hi)),some (.val (.int ((wid n - wid m:Nat):Int))),some (.val (.int m))],S⟩/\wid m<=wid n) ?_ Kv (wid n) _ hn ⟨n,rfl,by rw [Nat.sub_self];rfl,up3 _⟩;rintro k t ⟨m,rfl,rfl,hm⟩;right
 by_cases z:0 < m
 ·rw [um3 (by lia:(0:Int) < m)];refine ⟨_,Fk z,?_⟩;have:=Fk z;right;refine ⟨m / 256,rfl,?_,by lia⟩;have e:((wid n - wid (m / 256):Nat):Int)=((wid n - wid m:Nat):Int) + 1:=by lia
  rw [e];rfl
 ·have:m=0:=by lia
  subst this;rw [ul6 (by lia)];right;exact ⟨by simp [wid],rfl⟩
theorem FZ {x y:List D}(hl:x.length + y.length<=LIM)(h:P (.tup (x++y)) t):W (Aw (.tup x) (.tup y)) t P:=by
 cases x with
 | nil=>exact P5 h
 | cons d x=>exact SA (AZ (by rw [ui9] at hl;exact hl) h)
variable {s':Sh}{q q':Int}
theorem YG (h:s'.depth<=s.depth):(Sh.list s' q').depth<=(Sh.list s q).depth:=by rw [Sh.depth,Sh.depth];exact uj3 h
theorem Vj {a' b':Sh}(h:a'.depth<=a.depth)(h2:b'.depth<=b.depth):(Sh.pair a' b').depth<=(Sh.pair a b).depth:=by rw [Sh.depth,Sh.depth];lia
theorem Vl (h:(Sh.list s q).depth<=m + 1):s.depth<=m:=by rw [Sh.depth] at h;exact uc6 h
theorem Qq (h:(Sh.pair a b).depth<=m + 1):a.depth<=m/\b.depth<=m:=by rw [Sh.depth] at h;lia
theorem Vk (h:(Sh.choice ss).depth<=m + 1):∀x∈ss,x.depth<=m:=λx hx=>by rw [Sh.depth] at h;exact un6 (AO hx) (uc6 h)
theorem ZQ (h:wfB B (.list s q)=true):0<=q/\q<=250/\wfB B s=true:=by simp only [wfB,ui2,uh7] at h;exact ⟨h.1.1,h.1.2,h.2⟩
theorem ZR (h:wfB B (.number lo hi)=true) : -B<=lo/\lo<=hi/\hi<=B:=by simp only [wfB,ui2,uh7] at h;exact ⟨h.1.1,h.1.2,h.2⟩
theorem ZS (h:wfB B (.pair a b)=true):wfB B a=true/\wfB B b=true:=by simp only [wfB,ui2] at h;exact h
theorem R0 (h:wfB B (.choice ss)=true):1<=ss.length/\ss.length<=9/\∀x∈ss,wfB B x=true:=by simp only [wfB,ui2,uh7] at h;exact ⟨h.1.1,h.1.2,GF h.2⟩
theorem Hb (h:1<=ss.length):1<=A7 ss:=by
 cases ss with
 | nil=>exact absurd h (by decide)
 | cons x r=>rw [A7];exact un6 x.depth_pos (Nat.le_max_left _ _)
structure Stepped (k r:Nat)(B:Int)(s:Sh)(v:D)(S':List Ob):Prop where
 ex:∃r':Sh,v=r'.d/\r'.depth<=s.depth/\wfB (B + 100) r'=true/\An s r'=true
 pool:Room k r S'
structure Vary (k r:Nat)(B:Int)(dp:Nat)(v:D)(S':List Ob):Prop where
 ex:∃r':Sh,v=r'.d/\r'.depth<=dp/\wfB (B + 255) r'=true
 pool:Room k r S'
def Jn (f:Fn):Prop:=∀(lo hi:Int) (k r:Nat) (B:Int) (S:List Ob),(-B<=lo/\lo<=hi/\hi<=B)->Room k (r + 1) S->Wf f [.obj k,.int lo,.int hi] S λv S'=>Vary k r B 1 v S'
theorem XX (h : -B<=lo/\lo<=hi/\hi<=B):(-(B + 255)<=lo/\-(B + 255)<=lo - 1/\-(B + 255)<=lo + 1/\lo<=B + 255)/\(-(B + 255)<=hi/\hi<=B + 255)/\(-(B + 255)<=hi + 1/\hi + 1<=B + 255)/\(-(B + 255)<=hi - 1/\hi - 1<=B + 255)/\-(B + 255)<=hi + 255/\hi + 255<=B + 255:=by (repeat' apply And.intro) <;> lia
theorem W5 {C a b:Int}(h1 : -C<=a)(h2 : -C<=b)(h3:b<=C):wfB C (.number (if b < a then b else a) b)=true:=JM (by split <;> assumption) (by split <;> lia) h3
theorem Rf (ht:PTakeOk ct):Jn (fnOf 3 6 (Cy ct)):=by
 intro lo hi k r B S h1 p0;refine Al rfl ?_;unfold Cy;right;refine ht.use 6 p0 λg S1 z0 z1 p1=>?_;obtain ⟨N1,N2,N3,N4,N5⟩:=XX h1;obtain ⟨d,ed,a,b,rfl,q1,q2,q3⟩:=pick (xs:=[D.tup [.int lo,.int (hi + 1)],D.tup [.int lo,.int (hi - 1)],D.tup [.int (lo - 1),.int hi],D.tup [.int (lo + 1),.int hi],D.tup [.int lo,.int (hi + 255)],D.tup [.int lo,.int lo]]) z0 (by simpa using z1) (p:=λd=>∃a b:Int,d = .tup [.int a,.int b]/\-(B + 255)<=a/\-(B + 255)<=b/\b<=B + 255) (by
  simp only [ue1];exact ⟨⟨_,_,rfl,N1.1,N3⟩,⟨_,_,rfl,N1.1,N4⟩,⟨_,_,rfl,N1.2.1,N2⟩,⟨_,_,rfl,N1.2.2.1,N2⟩,⟨_,_,rfl,N1.1,N5⟩,⟨_,_,rfl,N1.1,N1.1,N1.2.2.2⟩,λ_ z=>nomatch z⟩)
 refine Ek ed ?_;right;exact ⟨⟨.number (if b < a then b else a) b,by rw [Sh.d],by simp [Sh.depth],W5 q1 q2 q3⟩,p1⟩
theorem R1 (h:0<=i)(h1:i < 2):i=0\/i=1:=by lia
theorem Oi (h:B0<=B):B0<=B + 255:=by lia
theorem KK:B<=B + 255:=by lia
theorem Ib {l:List α}{x:α}{a:Nat}(h:a < l.length):(l.take a++[x]++l.drop (a + 1)).length=l.length:=by
 rw [ug0,ug0,ui0,ui1];simp only [ui9,ul5];lia
theorem LG {l:List α}{x:α}{p:α->Prop}{c d:Nat}(h:∀y∈l,p y)(hx:p x):∀y∈l.take c++[x]++l.drop d,p y:=λy hy=>by
 rcases uj9.mp hy with h' | h'
 ·exact EU (λz hz=>h z (List.mem_of_mem_take hz)) hx y h'
 ·exact h y (List.mem_of_mem_drop h')
theorem Hi {g:Int}:0<=(if (if q + g - 2 < 250 then q + g - 2 else 250) > 0 then (if q + g - 2 < 250 then q + g - 2 else 250) else 0)/\(if (if q + g - 2 < 250 then q + g - 2 else 250) > 0 then (if q + g - 2 < 250 then q + g - 2 else 250) else 0)<=250:=by (repeat' split) <;> lia
variable {x:D}
theorem Ia:Bh (xs++[x]) none (some (-1))=xs:=by
 have e:HT.sIx (xs++[x]).length (xs++[x]).length (some (-1))=xs.length:=by
  simp only [HT.sIx];rw [if_pos (by decide),ug0];simp only [ui9,ul5];lia
 have e0:HT.sIx (xs++[x]).length 0 none=0:=rfl;unfold Bh;rw [e,e0,Nat.sub_zero,um1,List.take_left'];rfl
theorem G7 (h:wf (.number lo hi)=true):lo<=hi/\0 < hi - lo + 1/\hi - lo + 1 < 4611686018427387904/\wid (hi - lo).toNat<=8:=by
 simp only [wf,ui2,uh7] at h;refine ⟨by lia,by lia,by lia,F0 8 _ ?_⟩;have:(256:Nat) ^ 8=18446744073709551616:=by decide
 lia
structure Val (k r:Nat)(s:Sh)(c:Nat)(v:D)(S':List Ob):Prop where
 fit:Af s v=true
 len:(Au s v).length<=c
 pool:Room k r S'
theorem J8:∀w n,∀x∈nb w n,∃i:Int,x = .int i
 | 0,n=>λx h=>by simp [nb] at h
 | w + 1,n=>λx h=>by
   rw [nb] at h;rcases uj9.mp h with h | h
   ·exact J8 w _ x h
   ·rw [ug2] at h;exact ⟨_,h⟩
theorem BV:∀(n:Nat) (s:Sh),s.depth<=n->∀d,Af s d=true->∀x∈Au s d,∃i:Int,x = .int i
 | 0,s,h,_,_=>absurd s.depth_pos (by lia)
 | n + 1,s,hs,d,hf=>by
   intro x hx
   cases s with
   | nothing=>simp [Au] at hx
   | number lo hi=>cases d <;> simp only [Au,ui8] at hx;exact J8 _ _ x hx
   | text q=>
     cases d <;> simp only [Au,ui8] at hx
     rcases um5.mp hx with h | h
     ·exact ⟨_,h⟩
     ·obtain ⟨k,_,e⟩:=uo5.mp h;exact ⟨_,e.symm⟩
   | list s q=>
     rw [Sh.depth] at hs
     cases d <;> simp only [Af,ug1] at hf
     simp only [ui2,ui7] at hf;rw [Au] at hx;rcases um5.mp hx with h | h
     ·exact ⟨_,h⟩
     ·obtain ⟨l,hl,hx⟩:=List.mem_flatten.mp h;obtain ⟨d',hd',rfl⟩:=uo5.mp hl;exact BV n s (by lia) d' (hf.2 d' hd') x hx
   | pair s r=>
     rw [Sh.depth] at hs;unfold Af at hf
     split at hf
     ·rw [ui2] at hf;rw [Au] at hx;rcases uj9.mp hx with h | h
      ·exact BV n s (by lia) _ hf.1 x h
      ·exact BV n r (by lia) _ hf.2 x h
     ·cases hf
   | choice ss=>
     rw [Sh.depth] at hs;unfold Af at hf
     split at hf
     ·next o k y=>
      simp only [ui2,uh7] at hf;have hk:k.toNat < ss.length:=by lia
      have e1:ss[k.toNat]?=some ss[k.toNat]:=ub2 hk;have h2:=hf.2;rw [CB ss _ _ _ e1] at h2;rw [Au,Ch ss _ _ _ e1] at hx;rcases um5.mp hx with h | h
      ·exact ⟨_,h⟩
      ·exact BV n _ (un6 (C9 ss _ _ e1) (by lia)) _ h2 x h
     ·cases hf
theorem m20 (n:Nat):∃m:Nat,(if (if (n:Int) < 20 then (n:Int) else 20) > 1 then (if (n:Int) < 20 then (n:Int) else 20) else 1)=m/\m<=20:=⟨(if (if (n:Int) < 20 then (n:Int) else 20) > 1 then (if (n:Int) < 20 then (n:Int) else 20) else 1).toNat,by (repeat' split) <;> lia⟩
theorem ZN {f:M (List D)}{P:List D->T->Prop}(h:W f t λds t1=>W (Og ds) t1 P):W (Qr f) t P:=W_bnd.mpr h
theorem Yo {P:List D->T->Prop}(h:P (Dc xs ys) t):W (Og [.tup xs,.tup ys]) t P:=⟨_,_,rfl,h⟩
theorem P7:∀(ss rs:List Sh),Dc (shD ss) (shD rs)=(ss.zip rs).map λp=>.tup [p.1.d,p.2.d]
 | [],rs=>by rw [shD,Dc,List.zip_nil_left];rfl;simp
 | s :: ss,[]=>by rw [shD,shD,Dc,List.zip_nil_right];rfl;simp
 | s :: ss,r :: rs=>by rw [shD,shD,Dc,P7 ss rs];rfl
theorem HV:∀{ss rs:List Sh},ss.length<=rs.length->Bz ss rs=(ss.zip rs).all λp=>An p.1 p.2
 | [],rs,_=>by rw [Bz];rfl
 | s :: ss,[],h=>by simp at h
 | s :: ss,r :: rs,h=>by rw [Bz,HV (uc6 h)];rfl
variable {rs:List Sh}
theorem UW {p:Sh×Sh}(h:p∈ss.zip rs):p.1∈ss/\p.2∈rs:=⟨(uk4 h).1,(uk4 h).2⟩
theorem NO (bs:List Bool):(!inV (toV (.bl false)) ((bs.map D.bl).map toV))=bs.all id:=by
 induction bs with
 | nil=>rfl
 | cons b r ih=>
   rw [um8,um8,inV,um7,Bool.not_or,um6]
   congr 1
   cases b <;> rfl
variable {cp:Fn}
theorem NJ {ci:Fn}(hp:Fl cp)(hi:n=0\/Eo ci n):Eo (fnOf 2 3 (Ec ci cp)) (n + 1):=by
 intro s r hd hs hr S;refine Al rfl ?_;unfold Ec;have rec_:∀{a b:Sh},a.depth<=n->wf a=true->wf b=true->Pure1 ci [a.d,b.d] (.bl (An a b)):=λ{a b} h1 h2 h3=>by
  rcases hi with rfl | hi
  ·exact absurd (uf5 a.depth_pos h1) (ul2 _)
  ·exact hi a b h1 h2 h3
 by_cases hk:Ax s=Ax r
 ·cases s with
  | nothing=>
    cases r <;> first | (simp [Ax] at hk;done) | skip
    rw [Sh.d];right;exact ⟨by rw [An],rfl⟩
  | number l h=>
    cases r <;> first | (simp [Ax] at hk;done) | skip
    rename_i l' h';have N:=G7 hs;have N':=G7 hr;simp only [wf,ui2,uh7] at hs hr;rw [Sh.d,Sh.d];right;rw [An];refine AE (λz=>?_) λz=>?_
    ·have z':l=l':=by simpa using z
     right;refine AE (λy=>?_) λy=>?_
     ·right;refine (hp l h N.1 (by lia)).use ?_;right;refine (hp l' h' N'.1 (by lia)).use ?_;right;refine ⟨?_,rfl⟩;rw [um3 z',y]
      by_cases x:wid (h - l).toNat=wid (h' - l').toNat
      ·rw [x];simp
      ·have x':¬(((wid (h - l).toNat:Nat):Int)=((wid (h' - l').toNat:Nat):Int)):=λq=>x (Int.ofNat.inj q);rw [beq_eq_false_iff_ne.mpr x,beq_eq_false_iff_ne.mpr x'];rfl
     ·exact ⟨by rw [y];simp,rfl⟩
    ·have z':¬l=l':=by simpa using z
     exact ⟨by rw [ul6 z'];simp,rfl⟩
  | text q=>
    cases r <;> first | (simp [Ax] at hk;done) | skip
    rw [Sh.d,Sh.d];right;exact ⟨by rw [An],rfl⟩
  | list s q=>
    cases r <;> first | (simp [Ax] at hk;done) | skip
    rename_i s' q';simp only [wf,ui2,uh7] at hs hr;rw [Sh.d,Sh.d];right;rw [An];refine AE (λz=>?_) λz=>?_
    ·right;refine AE (λy=>?_) λy=>?_
     ·have y':q=0:=by simpa using y
      exact ⟨by rw [z,um3 y'];rfl,rfl⟩
     ·have y':¬q=0:=by simpa using y
      right;refine (rec_ (Vl hd) hs.2 hr.2).use ?_;exact ⟨by rw [z,ul6 y'];rfl,rfl⟩
    ·exact ⟨by rw [z];rfl,rfl⟩
  | pair a b=>
    cases r <;> first | (simp [Ax] at hk;done) | skip
    rename_i a' b';simp only [wf,ui2] at hs hr;rw [Sh.d,Sh.d];right;rw [An];refine (rec_ (Qq hd).1 hs.1 hr.1).use ?_;right;refine AE (λz=>?_) λz=>?_
    ·right;refine (rec_ (Qq hd).2 hs.2 hr.2).use ?_;exact ⟨by rw [z];rfl,rfl⟩
    ·exact ⟨by rw [z];rfl,rfl⟩
  | choice ss=>
    cases r <;> first | (simp [Ax] at hk;done) | skip
    rename_i rs;simp only [wf,ui2,uh7] at hs hr;rw [Sh.d,Sh.d];right;refine ZN ?_;right;refine Yo ?_;rw [P7];refine (FG (P:=λxs t'=>xs=(ss.zip rs).map (λp=>.bl (An p.1 p.2))/\t'.S=S) (λacc q t=>∃(a b:List (Sh×Sh)) (z0 z1:Option Sl),ss.zip rs=a++b/\acc=a.map (λp=>.bl (An p.1 p.2))/\q=b.map (λp=>.tup [p.1.d,p.2.d])/\t=⟨[z0,z1],S⟩) _ [] _ ⟨[],_,_,_,rfl,rfl,rfl,rfl⟩ ?_ ?_).mono ?_
    ·rintro acc d q t ⟨a,b,z0,z1,e,rfl,hq,rfl⟩ _
     cases b with
     | nil=>cases hq
     | cons p b=>
       rw [um8] at hq;injection hq with e1 e2
       subst e1 e2;have hm:=UW (e ▸ uc8 a uf6:p∈ss.zip rs);right;rw [if_pos rfl];right;refine (rec_ (Vk hd _ hm.1) (A8 hs.2 _ hm.1) (A8 hr.2 _ hm.2)).use ?_;exact ⟨a++[p],b,_,_,by rw [e,uh0];rfl,by rw [ul3];rfl,rfl,rfl⟩
    ·rintro acc t ⟨a,b,z0,z1,e,rfl,hq,rfl⟩
     cases b with
     | nil=>rw [uk2] at e;rw [e];exact ⟨rfl,rfl⟩
     | cons p b=>cases hq
    ·rintro xs t' ⟨hx,hS⟩;rw [uk7] at hx;subst hx;refine AZ (Do (n:=9) (by rw [uk5,List.length_zip];exact un6 (Nat.min_le_left _ _) hs.1.2)) ?_;right;rw [AJ,AJ,An];refine AE (λz=>?_) λz=>?_
     ·have z':ss.length<=rs.length:=up0.mp (uh8 z);right;refine Xa ⟨rfl,by rw [uo2,ui7];exact λ_ _=>rfl⟩ ?_;refine ⟨?_,hS⟩;rw [HV z',um3 z'];show D.bl (!inV _ _)=_;rw [show ((ss.zip rs).map λp=>D.bl (An p.1 p.2))=((ss.zip rs).map λp=>An p.1 p.2).map D.bl from (uo6 ..).symm,NO,uo2];rfl
     ·have z':¬ss.length<=rs.length:=λq=>(of_decide_eq_false z) (up0.mpr q);exact ⟨by rw [ul6 z'];rfl,hS⟩
 ·obtain ⟨ds,e⟩:=DN s;obtain ⟨es,e'⟩:=DN r;rw [e,e'];right;refine Ig (by rw [uh5,beq_eq_false_iff_ne];exact λz=>hk (GX z)) ?_;right;exact ⟨by rw [FE hk],rfl⟩
theorem UO {i:Nat}(e:t.env[i]?=some (some (.own xs)))(h:P (.int xs.length) t):W (ES i) t P:=⟨_,_,by unfold ES;rw [e],h⟩
theorem QI {a:Nat}(h:a < m):ixN m (a:Int)=some a:=by
 have e:=FQ (n:=m) (uf8 a) (up1.mpr h);rw [uh4] at e;exact e
def B3:Int:=B0 + 765
theorem R3 (h:j<=3):B0 + 255 * (j:Int)<=B3:=by unfold B3;lia
theorem UZ:B0<=B0 + 255 * (j:Int):=by lia
theorem KL:B0 + 255 * ((j + 1:Nat):Int)=B0 + 255 * (j:Int) + 255:=by lia
theorem O0 {l:Nat}(h:j + (l + 1)=n):j + 1 + l=n:=by lia
theorem t5m {a0 a1 e3 e4:Option Sl}{X Y:List D}(h:X=Y):(⟨[a0,a1,some (.own X),e3,e4],S⟩:T)=⟨[a0,a1,some (.own Y),e3,e4],S⟩:=by subst h;rfl
section
variable {t:T}{P:D->T->Prop}{R:Out->T->Prop}
def W2 (h:D->M Out)(R:Out->T->Prop)(o:Out)(t1:T):Prop:=match o with
 | .ret (.exc n ds)=>n∈AU/\W (h (.exc n ds)) t1 R
 | o=>R o t1
theorem ZI {b:M Out}{h:D->M Out}(w:W b t (W2 h R)):W (Fg b h) t R:=by
 obtain ⟨o,t1,e,q⟩:=w;have rest:∀d,A6 d=false->o = .ret d->W (Fg b h) t R:=λd hd ho=>by
  subst ho;refine ⟨.ret d,t1,?_,?_⟩
  ·unfold Fg;rw [e];cases d <;> first | rfl | cases hd
  ·cases d <;> first | exact q | cases hd
 cases o with
 | next=>exact ⟨.next,t1,by unfold Fg;rw [e],q⟩
 | brk=>exact ⟨.brk,t1,by unfold Fg;rw [e],q⟩
 | cont=>exact ⟨.cont,t1,by unfold Fg;rw [e],q⟩
 | ret d=>
   cases d with
   | exc n ds=>
     obtain ⟨hn,o2,t2,e2,q2⟩:=q;exact ⟨o2,t2,by unfold Fg;rw [e];dsimp only;rw [if_pos hn,e2],q2⟩
   | _=>exact rest _ rfl rfl
theorem UJ {h:D->M Out}{n:Str}(e:n∈AU)(q:W (h (.exc n ds)) t1 R):W2 h R (.ret (.exc n ds)) t1:=⟨e,q⟩
def xK (d:D)(A B:Prop):Prop:=if A6 d=true then A else B
theorem Yp {d:D}{A B:Prop}(e:A6 d=true)(a:A):xK d A B:=by unfold xK;rw [if_pos e];exact a
theorem W7 {f:M D}(w:W f t λd t1=>xK d (R (.ret d) t1) (R .next t1)):W (KA f) t R:=by
 refine Hd (w.mono λd t1 q=>?_);unfold xK at q
 split at q
 ·next h=>rw [if_pos h];exact ⟨_,_,rfl,q⟩
 ·next h=>rw [if_neg h];exact ⟨_,_,rfl,q⟩
theorem wNx {f:M D}(w:W f t λd t1=>A6 d=false/\P d t1):W (nxD f) t P:=by
 refine Hd (w.mono λd t1 z9=>?_);obtain ⟨h,q⟩:=z9;rw [if_neg (by rw [h];decide)];exact ⟨_,_,rfl,q⟩
theorem UQ {n:Str}{f:M (List D)}(w:W f t λds t1=>ds.length<=1000/\R (.ret (.exc n [])) t1):W (Ha n f) t R:=
 Hd (w.mono λds t1 ⟨e,q⟩=>by rw [if_pos e];exact ⟨_,_,rfl,q⟩)
theorem UR {n:Str}{f:M D}(w:W f t λ_ t1=>R (.ret (.exc n [])) t1):W (Ha n (Aa f Ad)) t R:=UQ (Et (w.mono λd t1 q=>JL ⟨by show 1<=1000;decide,q⟩))
theorem Zi {n n':Str}{i:Nat}{s:M Out}{r:D->M Out}(e:DB n n'=true)(w:W s { t with env:=t.env.set i (some (.val (.exc n ds))) } λo t2=>R o (unE i t2)):W (hAs n' i s r (.exc n ds)) t R:=by
 obtain ⟨o,t2,e1,q⟩:=w;exact ⟨o,unE i t2,by unfold hAs;dsimp only;rw [if_pos e,e1],q⟩
theorem X7 {m n:Str}(e:m∈AU)(q:P (.bl (DB m n)) t):W (Fy n (.exc m ds)) t P:=⟨_,_,by unfold Fy;dsimp only;rw [if_pos e];rfl,q⟩
end
local macro_rules | `(tactic| walk_at "x1")=>`(tactic| first
 | walk_at "w1"
 | clear 31 ZI wSetX W7 wAsgX wNx wBinX wBinY wBndX wCallY tryK_next
 | clear 33 UJ | clear 32 xK_ok | clear 32 Yp
 | clear 31 wRaiseT UR | clear 33 Zi | clear 33 wHAsN | clear 33 wHNo | clear 33 wHNoN
 | clear 33 X7 | clear 31 wIsiXN | ((with_reducible refine' wAttX ?wv ?wu ?_);(case wv=>decide);(case wu=>exact rfl)))
local macro_rules | `(tactic| left)=>`(tactic| repeat (walk_at "x1"))
inductive Rd where
 | done (v:D)
 | need (ok:Nat->Bool) (nx:Nat->Rd)
inductive RR where
 | told (v:D) (a:Nat)
 | short
 | broken (a:Nat)
noncomputable def Rd.run:Rd->List Nat->Nat->RR
 | .done v,_,a=>.told v a
 | .need ok nx,w,a=>match w[a]? with
   | none=>.short
   | some b=>if ok b=true then (nx b).run w (a + 1) else .broken a
noncomputable def Rd.bnd:Rd->(D->Rd)->Rd
 | .done v,k=>k v
 | .need ok nx,k=>.need ok λb=>(nx b).bnd k
def RR.thn (r:RR)(w:List Nat)(k:D->Rd):RR:=match r with
 | .told v a=>(k v).run w a
 | .short=>.short
 | .broken a=>.broken a
noncomputable def Wi (lo:Int)(M:Nat):Nat->Nat->Rd
 | 0,x=>.done (.int (lo + x))
 | r + 1,x=>.need (λb=>decide (x * 256 + b<=M / 2 ^ (8 * r))) λb=>Wi lo M r (x * 256 + b)
def Wj:Nat->List Nat->Rd
 | 0,cs=>.done (.str ⟨cs.toArray⟩)
 | n + 1,cs=>.need BT λc=>Wj n (cs++[c])
def Wh (p:Rd):Nat->List D->Rd
 | 0,ds=>.done (.lst ds)
 | n + 1,ds=>p.bnd λv=>Wh p n (ds++[v])
def pSh:Nat->Sh->Rd
 | 0,_=>.done .non
 | _ + 1,.nothing=>.done .non
 | _ + 1,.number lo hi=>Wi lo (hi - lo).toNat (wid (hi - lo).toNat) 0
 | _ + 1,.text q=>.need (λb=>decide ((b:Int)<=q)) λb=>Wj b []
 | n + 1,.list s q=>.need (λb=>decide ((b:Int)<=q)) λb=>Wh (pSh n s) b []
 | n + 1,.pair s r=>(pSh n s).bnd λv=>(pSh n r).bnd λu=>.done (.tup [v,u])
 | n + 1,.choice ss=>.need (λb=>decide (b < ss.length)) λb=>(pSh n (ss.getD b .nothing)).bnd λv=>.done (.tup [.str "of",.int b,v])
theorem Pc:∀(w n m:Nat),n < 256 ^ w->m < 256 ^ w->nb w n=nb w m->n=m
 | 0,n,m,h1,h2,_=>by
   rw [Nat.pow_zero] at h1 h2;lia
 | w + 1,n,m,h1,h2,e=>by
   rw [nb,nb] at e;obtain ⟨e1,e2⟩:=List.append_inj e (by rw [DV,DV]);rw [uo4] at h1 h2;have h3:=Pc w (n / 256) (m / 256) (by lia) (by lia) e1;injection e2 with e3
   injection e3 with e4
   lia
mutual
noncomputable def plD:D->Bool
 | .lst xs=>pls xs
 | .tup xs=>pls xs
 | .obj _=>false
 | .scr _=>false
 | .ty _=>false
 | .exc _ _=>false
 | .dic=>false
 | _=>true
noncomputable def pls:List D->Bool
 | []=>true
 | d :: r=>plD d && pls r
end
noncomputable def pos (i:Int):Int:=if 0 < i then i else 0
structure ValueRes2 (k c l:Nat)(S:List Ob)(s:Sh)(a b:Int)(r:D)(S':List Ob):Prop where
 fit:Af s r=true
 lft:∃a' b':Int,S'[l]?=some (.lst [.int a',.int b'])/\((Au s r).length:Int)<=9 * (a - a') + (pos b - pos b')/\pos b'<=pos b/\1<=a - a'/\a - a'<=cnt s + (14 * (s.depth:Int)) * pos a
 deck:DeckAt k c S'
 kp:Nh k c l S S'
mutual
noncomputable def szE:D->Nat
 | .lst xs=>1 + Ry xs
 | .tup xs=>1 + Ry xs
 | _=>1
noncomputable def Ry:List D->Nat
 | []=>0
 | d :: r=>szE d + Ry r
end
structure VOk (s:Sh)(v:D):Prop where
 fit:Af s v=true
 len:(Au s v).length<=14809
local macro_rules | `(tactic| walk_at "y1")=>`(tactic| first | walk_at "x1" | clear 31 wRaiseB)
local macro_rules | `(tactic| symm)=>`(tactic| repeat (walk_at "y1"))
noncomputable def wD (w:List Nat):List D:=w.map λ(n:Nat)=>D.int (n:Int)
abbrev exS:D:=.exc "Short" []
abbrev exB (a:Nat):D:=.exc "Broken" [.int (a:Int),.non]
noncomputable def rrD:RR->D
 | .told v b=>.tup [v,.int (b:Int)]
 | .short=>exS
 | .broken a=>exB a
def RX (c:Fn)(s:Sh)(p:Rd):Prop:=∀(w:List Nat) (a:Nat),a<=w.length->Pure1 c [s.d,.lst (wD w),.int (a:Int)] (rrD (p.run w a))
noncomputable def seg (w:List Nat)(a b:Nat):List Nat:=(w.drop a).take (b - a)
def At (w:List Nat)(a:Nat)(xs:List D):Prop:=∃p q,wD w=p++(xs++q)/\p.length=a
theorem Ji:∀(k n:Nat),wid n<=k->n < 256 ^ k
 | 0,n,h=>by
   by_cases z:n=0
   ·subst z;decide
   ·rw [Fk (by lia)] at h;lia
 | k + 1,n,h=>by
   by_cases z:n=0
   ·subst z;exact Nat.pow_pos (by decide)
   ·rw [Fk (by lia)] at h;have:=Ji k (n / 256) (by lia);rw [Nat.div_lt_iff_lt_mul (by decide)] at this;rw [uo4];exact this
mutual
def vb:D->Nat
 | .int _=>8
 | .str x=>1 + x.length
 | .lst ds=>1 + vbs ds
 | .tup ds=>1 + vbs ds
 | _=>0
def vbs:List D->Nat
 | []=>0
 | d :: r=>vb d + vbs r
end
variable {v:D}
theorem B1 (h:Af .nothing v=true):v = .non:=by cases v <;> simp [Af,IW] at h <;> rfl
theorem Bm (h:Af (.number lo hi) v=true):∃i,v = .int i/\lo<=i/\i<=hi:=by
 cases v <;> simp [Af] at h
 exact ⟨_,rfl,h⟩
theorem B7 (h:Af (.text q) v=true):∃x,v = .str x/\(x.length:Int)<=q:=by
 cases v <;> simp only [Af,ug1] at h
 simp only [ui2,uh7] at h;exact ⟨_,rfl,h.1⟩
theorem BN (h:Af (.list s q) v=true):∃ds,v = .lst ds/\(ds.length:Int)<=q/\∀d∈ds,Af s d=true:=by
 cases v <;> simp only [Af,ug1] at h
 simp only [ui2,uh7,ui7] at h;exact ⟨_,rfl,h.1,h.2⟩
theorem B6 (h:Af (.pair a b) v=true):∃x y,v = .tup [x,y]/\Af a x=true/\Af b y=true:=by
 unfold Af at h
 split at h
 ·rw [ui2] at h;exact ⟨_,_,rfl,h.1,h.2⟩
 ·cases h
theorem Bl (h:Af (.choice ss) v=true):∃(k:Nat) (x:D) (hk:k < ss.length),v = .tup [.str ("of" : Str),.int (k:Nat),x]/\Af ss[k] x=true:=by
 unfold Af at h
 split at h
 ·next o k x=>
  simp only [ui2,uh7] at h;have hk:k.toNat < ss.length:=by lia
  have h2:=h.2;rw [CB ss _ _ _ (ub2 hk)] at h2;have ho:o=("of" : Str):=eq_of_beq h.1.1;subst ho;exact ⟨k.toNat,x,hk,by rw [uf0 h.1.2.1],h2⟩
 ·cases h
theorem MD {f:D->List D}:∀{ds:List D},(∀d∈ds,(f d).length<=vb d)->((ds.map f).flatten).length<=vbs ds
 | [],_=>up5 _
 | d :: r,h=>by
   rw [um8,ug9,ug0,vbs];exact Nat.add_le_add (h d uf6) (MD λx m=>h x (ud6 _ m))
theorem DG:∀(n:Nat) (s:Sh),s.depth<=n->wf s=true->∀v,Af s v=true->(Au s v).length<=vb v
 | 0,s,h,_,_,_=>absurd s.depth_pos (by lia)
 | n + 1,s,hd,hw,v,h=>by
   cases s with
   | nothing=>rw [Au];exact up5 _
   | number lo hi=>
     obtain ⟨i,rfl,_,_⟩:=Bm h;rw [Au,DV,vb];exact (G7 hw).2.2.2
   | text q=>
     obtain ⟨x,rfl,_⟩:=B7 h;rw [Au,vb,ui9,uk5];show x.cps.toList.length + 1<=1 + x.cps.toList.length;lia
   | list s q=>
     rw [Sh.depth] at hd;simp only [wf,ui2] at hw;obtain ⟨ds,rfl,_,hds⟩:=BN h;rw [Au,vb,ui9];have:=MD (f:=λd=>Au s d) (λd m=>DG n s (by lia) hw.2 d (hds d m));lia
   | pair a b=>
     rw [Sh.depth] at hd;simp only [wf,ui2] at hw;obtain ⟨x,y,rfl,h1,h2⟩:=B6 h;rw [Au,vb,vbs,vbs,vbs,ug0];have:=DG n a (by lia) hw.1 x h1;have:=DG n b (by lia) hw.2 y h2;lia
   | choice ss=>
     rw [Sh.depth] at hd;simp only [wf,ui2] at hw;obtain ⟨k,x,hk,rfl,h1⟩:=Bl h;rw [Au,vb,vbs,vbs,vbs,vbs,ui9,uh4,Ch ss k _ x (ub2 hk)];have:=DG n _ (un6 (AO (uj0 hk)) (by lia)) (A8 hw.2 _ (uj0 hk)) x h1;lia
mutual
def lb:Sh->Nat
 | .nothing=>0
 | .number _ _=>8
 | .text _=>1
 | .list _ _=>1
 | .pair a b=>1 + lb a + lb b
 | .choice ss=>12 + lbs ss
def lbs:List Sh->Nat
 | []=>0
 | s :: r=>lb s + lbs r
end
theorem MO:∀{ss:List Sh} {s:Sh},s∈ss->lb s<=lbs ss
 | s :: r,_,.head _=>by rw [lbs];lia
 | s :: r,x,.tail _ h=>by rw [lbs];have:=MO h;lia
theorem IR (hk:k < ss.length)(h:Af ss[k] x=true):Af (.choice ss) (.tup [.str ("of" : Str),.int (k:Nat),x])=true:=by
 rw [Af,uh4,CB ss k _ x (ub2 hk),h];simp only [un0,ui2,uh7];exact ⟨by decide +kernel,by lia,by lia⟩
theorem N8:vb (.tup [.str ("of" : Str),.int (k:Nat),x])=12 + vb x:=by
 rw [vb,vbs,vbs,vbs,vbs,vb,vb];rw [show (Str.ofString "of").length=2 from by decide +kernel];lia
mutual
def sub:Sh->Sh->Bool
 | .nothing,r=>match r with
   | .nothing=>true
   | _=>false
 | .number l h,r=>match r with
   | .number l' h'=>decide (l'<=l) && decide (h<=h')
   | _=>false
 | .text q,r=>match r with
   | .text q'=>decide (q<=q')
   | _=>false
 | .list s q,r=>match r with
   | .list s' q'=>decide (q<=q') && (decide (q=0) || sub s s')
   | _=>false
 | .pair a b,r=>match r with
   | .pair a' b'=>sub a a' && sub b b'
   | _=>false
 | .choice ss,r=>match r with
   | .choice rs=>decide (ss.length<=rs.length) && GB ss rs
   | _=>false
def GB:List Sh->List Sh->Bool
 | [],_=>true
 | s :: ss,rs=>match rs with
   | r :: rs=>sub s r && GB ss rs
   | []=>true
end
theorem Tt (h:An s r=true):Ax s=Ax r:=by
 by_cases z:Ax s=Ax r
 ·exact z
 ·rw [FE z] at h;cases h
theorem Iv:∀{ss rs:List Sh},(∀k (h1:k < ss.length) (h2:k < rs.length),sub ss[k] rs[k]=true)->GB ss rs=true
 | [],rs,_=>by rw [GB]
 | s :: ss,[],_=>by rw [GB]
 | s :: ss,r :: rs,h=>by
   rw [GB,ui2];exact ⟨h 0 (uj5 _) (uj5 _),Iv λk h1 h2=>h (k + 1) (uj6 h1) (uj6 h2)⟩
theorem Ls:∀{ss rs:List Sh},GB ss rs=true->∀k (h1:k < ss.length) (h2:k < rs.length),sub ss[k] rs[k]=true
 | s :: ss,r :: rs,h,0,_,_=>by rw [GB,ui2] at h;exact h.1
 | s :: ss,r :: rs,h,k + 1,h1,h2=>by rw [GB,ui2] at h;exact Ls h.2 k (uc7 h1) (uc7 h2)
 | [],_,_,k,h1,_=>absurd h1 (ul2 _)
 | _ :: _,[],_,k,_,h2=>absurd h2 (ul2 _)
theorem Jk:∀{ss rs:List Sh},(∀k (h1:k < ss.length) (h2:k < rs.length),An ss[k] rs[k]=true)->Bz ss rs=true
 | [],rs,_=>by rw [Bz]
 | s :: ss,[],_=>by rw [Bz]
 | s :: ss,r :: rs,h=>by
   rw [Bz,ui2];exact ⟨h 0 (uj5 _) (uj5 _),Jk λk h1 h2=>h (k + 1) (uj6 h1) (uj6 h2)⟩
theorem D1:∀(n:Nat) (s r:Sh),s.depth<=n->An s r=true->sub s r=true
 | 0,s,_,h,_=>absurd s.depth_pos (by lia)
 | n + 1,s,r,hd,h=>by
   have hk:=Tt h
   cases s with
   | nothing=>
     cases r <;> first | (simp [Ax] at hk;done) | skip
     rw [sub]
   | number l h'=>
     cases r <;> first | (simp [Ax] at hk;done) | skip
     rw [An,ui2,ui2,uh7,uh7] at h;rw [sub,ui2,uh7,uh7];exact ⟨by lia,h.2.2⟩
   | text q=>
     cases r <;> first | (simp [Ax] at hk;done) | skip
     rw [An] at h;rw [sub];exact h
   | list s q=>
     cases r <;> first | (simp [Ax] at hk;done) | skip
     rw [Sh.depth] at hd;rw [An,ui2,ul0] at h;rw [sub,ui2,ul0];exact ⟨h.1,h.2.imp id (D1 n _ _ (by lia))⟩
   | pair a b=>
     cases r <;> first | (simp [Ax] at hk;done) | skip
     rw [Sh.depth] at hd;rw [An,ui2] at h;rw [sub,ui2];exact ⟨D1 n _ _ (by lia) h.1,D1 n _ _ (by lia) h.2⟩
   | choice ss=>
     cases r <;> first | (simp [Ax] at hk;done) | skip
     rw [Sh.depth] at hd;rw [An,ui2] at h;rw [sub,ui2];exact ⟨h.1,Iv λk h1 h2=>D1 n _ _ (un6 (AO (uj0 h1)) (by lia)) (HU h.2 (ub2 h1) (ub2 h2))⟩
theorem RW {a b:Nat}(h:a<=b):wid a<=wid b:=F0 _ _ (ug5 h (Ji _ _ (up3 _)))
theorem Lr {f g:D->List D}:∀{ds:List D},(∀d∈ds,(f d).length<=(g d).length)->((ds.map f).flatten).length<=((ds.map g).flatten).length
 | [],_=>up3 _
 | d :: r,h=>by
   rw [um8,ug9,ug0,um8,ug9,ug0];exact Nat.add_le_add (h d uf6) (Lr λx m=>h x (ud6 _ m))
theorem Rx (h:sub s r=true):Ax s=Ax r:=by
 cases s <;> cases r <;> first | rfl | (unfold sub at h;cases h)
theorem Di:∀(n:Nat) (s r:Sh),s.depth<=n->sub s r=true->∀v,Af s v=true->Af r v=true/\(Au s v).length<=(Au r v).length
 | 0,s,_,h,_,_,_=>absurd s.depth_pos (by lia)
 | n + 1,s,r,hd,h,v,hf=>by
   have hk:=Rx h
   cases s with
   | nothing=>
     cases r <;> first | (simp [Ax] at hk;done) | skip
     exact ⟨hf,up3 _⟩
   | number l h'=>
     cases r <;> first | (simp [Ax] at hk;done) | skip
     rename_i l2 h2;rw [sub,ui2,uh7,uh7] at h;obtain ⟨i,rfl,i1,i2⟩:=Bm hf;refine ⟨by rw [Af,ui2,uh7,uh7];lia,?_⟩;rw [Au,Au,DV,DV];exact RW (by lia)
   | text q=>
     cases r <;> first | (simp [Ax] at hk;done) | skip
     rw [sub,uh7] at h;obtain ⟨x,rfl,hx⟩:=B7 hf;rw [Af,ui2] at hf;refine ⟨by rw [Af,ui2,uh7];exact ⟨by lia,hf.2⟩,?_⟩;rw [Au,Au];exact up3 _
   | list s q=>
     cases r <;> first | (simp [Ax] at hk;done) | skip
     rw [Sh.depth] at hd;rw [sub,ui2,ul0,uh7,uh7] at h;obtain ⟨ds,rfl,hl,hds⟩:=BN hf;have hs:∀d∈ds,Af s d=true->_:=λd m hd'=>(h.2.resolve_left (λz=>by
      have:ds.length=0:=by lia
      rw [ub5] at this;subst this;cases m))
     refine ⟨?_,?_⟩
     ·rw [Af,ui2,uh7,ui7];exact ⟨by lia,λd m=>(Di n _ _ (by lia) (hs d m (hds d m)) d (hds d m)).1⟩
     ·rw [Au,Au,ui9,ui9];exact uj3 (Lr λd m=>(Di n _ _ (by lia) (hs d m (hds d m)) d (hds d m)).2)
   | pair a b=>
     cases r <;> first | (simp [Ax] at hk;done) | skip
     rw [Sh.depth] at hd;rw [sub,ui2] at h;obtain ⟨x,y,rfl,h1,h2⟩:=B6 hf;have q1:=Di n _ _ (by lia) h.1 x h1;have q2:=Di n _ _ (by lia) h.2 y h2;refine ⟨by rw [Af,q1.1,q2.1];rfl,?_⟩;rw [Au,Au,ug0,ug0];lia
   | choice ss=>
     cases r <;> first | (simp [Ax] at hk;done) | skip
     rename_i rs;rw [Sh.depth] at hd;rw [sub,ui2,uh7] at h;obtain ⟨k,x,hk1,rfl,h1⟩:=Bl hf;have hk2:k < rs.length:=by lia
     have q:=Di n _ _ (un6 (AO (uj0 hk1)) (by lia)) (Ls h.2 k hk1 hk2) x h1;refine ⟨IR hk2 q.1,?_⟩;rw [Au,Au,ui9,ui9,uh4,Ch ss k _ x (ub2 hk1),Ch rs k _ x (ub2 hk2)];exact uj3 q.2
def Tp (s r:Sh)(vs:List D):Prop:=(∃v∈vs,Af r v=false)\/(sub s r=true/\(An s r=false->∃v∈vs,Au s v≠Au r v))
def Parts (s r:Sh)(v:D):Prop:=Af r v=false\/Au s v≠Au r v
variable {vs:List D}
theorem Tp.parts (h:Tp s r vs)(hw:An s r=false):∃v∈vs,Parts s r v:=by
 rcases h with ⟨v,m,e⟩ | ⟨_,h⟩
 ·exact ⟨v,m,.inl e⟩
 ·obtain ⟨v,m,e⟩:=h hw;exact ⟨v,m,.inr e⟩
theorem NH (hk:Ax s≠Ax r){v:D}(h:Af s v=true):Af r v=false:=by
 cases s with
 | nothing=>rw [B1 h];cases r <;> first | exact absurd rfl hk | rfl
 | number l h'=>obtain ⟨i,rfl,_⟩:=Bm h;cases r <;> first | exact absurd rfl hk | rfl
 | text q=>obtain ⟨x,rfl,_⟩:=B7 h;cases r <;> first | exact absurd rfl hk | rfl
 | list s q=>obtain ⟨ds,rfl,_⟩:=BN h;cases r <;> first | exact absurd rfl hk | rfl
 | pair a b=>obtain ⟨x,y,rfl,_⟩:=B6 h;cases r <;> first | exact absurd rfl hk | rfl | (unfold Af;rfl) | simp [Af]
 | choice ss=>obtain ⟨k,x,_,rfl,_⟩:=Bl h;cases r <;> first | exact absurd rfl hk | rfl
theorem P1 {l h l' h':Int}(w:l<=h):Tp (.number l h) (.number l' h') [.int l,.int h]:=by
 by_cases q1:l < l'
 ·exact .inl ⟨.int l,uf6,by rw [Af];simp;lia⟩
 ·by_cases q2:h' < h
  ·exact .inl ⟨.int h,ud6 _ uf6,by rw [Af];simp;lia⟩
  ·refine .inr ⟨by rw [sub,ui2,uh7,uh7];lia,λhw=>⟨.int l,uf6,λe=>?_⟩⟩;rw [Au,Au] at e;have hlen:=congrArg List.length e;rw [DV,DV] at hlen;rw [hlen] at e;have:=Pc _ _ _ (ug5 (show (l - l).toNat<=(h' - l').toNat by lia) (Ji _ _ (up3 _))) (ug5 (show (l - l').toNat<=(h' - l').toNat by lia) (Ji _ _ (up3 _))) e;have hl:l=l':=by lia
   have hww:An (.number l h) (.number l' h')=true:=by
    rw [An,ui2,ui2,uh7,uh7,beq_iff_eq];exact ⟨hl,hlen,by lia⟩
   rw [hww] at hw;cases hw
theorem Pw {x y x' y':List D}(e:x++y=x'++y')(h1:x.length<=x'.length)(h2:y.length<=y'.length):x=x'/\y=y':=by
 have hl:=congrArg List.length e;rw [ug0,ug0] at hl;exact List.append_inj e (by lia)
theorem UH {a' b':Sh}{va vb':List D}{y:D}(ha:Tp a a' va)(hb:Tp b b' vb')(hx:Af a x=true)(hy:Af b y=true)(ga:∀v∈va,Af a v=true)(gb:∀v∈vb',Af b v=true):Tp (.pair a b) (.pair a' b') (va.map (λv=>.tup [v,y])++vb'.map λv=>.tup [x,v]):=by
 by_cases q1:∃v∈va,Af a' v=false
 ·obtain ⟨v,m,e⟩:=q1;exact .inl ⟨.tup [v,y],ud7 _ (uf2 m),by rw [Af,e];rfl⟩
 ·by_cases q2:∃v∈vb',Af b' v=false
  ·obtain ⟨v,m,e⟩:=q2;exact .inl ⟨.tup [x,v],uc8 _ (uf2 m),by rw [Af,e,ul9]⟩
  ·obtain ⟨sa,ha⟩:=ha.resolve_left q1;obtain ⟨sb,hb⟩:=hb.resolve_left q2;refine .inr ⟨by rw [sub,sa,sb];rfl,λhw=>?_⟩;rw [An,ud2] at hw;rcases hw with hw | hw
   ·obtain ⟨v,m,e⟩:=ha hw;refine ⟨.tup [v,y],ud7 _ (uf2 m),λz=>e ?_⟩;rw [Au,Au] at z;exact (Pw z (Di _ _ _ (up3 _) sa v (ga v m)).2 (Di _ _ _ (up3 _) sb y hy).2).1
   ·obtain ⟨v,m,e⟩:=hb hw;refine ⟨.tup [x,v],uc8 _ (uf2 m),λz=>e ?_⟩;rw [Au,Au] at z;exact (Pw z (Di _ _ _ (up3 _) sa x hx).2 (Di _ _ _ (up3 _) sb v (gb v m)).2).2
theorem UG (hs:Tp s s' vs)(h1:1<=q)(h2:q<=q'):Tp (.list s q) (.list s' q') (vs.map λv=>.lst [v]):=by
 rcases hs with ⟨v,m,e⟩ | ⟨sa,h⟩
 ·exact .inl ⟨.lst [v],uf2 m,by rw [Af];simp [e]⟩
 ·refine .inr ⟨by rw [sub,sa];simp [h2],λhw=>?_⟩;rw [An,um3 h2,um9,ue0] at hw;obtain ⟨v,m,e⟩:=h hw.2;refine ⟨.lst [v],uf2 m,λz=>e ?_⟩;rw [Au,Au] at z;simpa using z
theorem RD (h0:0<=q')(hd:ds.length=(q' + 1).toNat):Tp (.list s q) (.list s' q') (vs++[.lst ds]):=
 .inl ⟨.lst ds,uc8 _ uf6,by rw [Af,ud2];exact .inl (by simp;lia)⟩
theorem P0 (hl:ss.length<=rs.length)(h:∀k (h1:k < ss.length) (h2:k < rs.length),∃ws,Tp ss[k] rs[k] ws/\∀w∈ws,.tup [.str ("of" : Str),.int (k:Nat),w]∈vs):Tp (.choice ss) (.choice rs) vs:=by
 by_cases q:∃v∈vs,Af (.choice rs) v=false
 ·exact .inl q
 ·have hs:∀k (h1:k < ss.length) (h2:k < rs.length),sub ss[k] rs[k]=true/\(An ss[k] rs[k]=false->∃w,.tup [.str ("of" : Str),.int (k:Nat),w]∈vs/\Au ss[k] w≠Au rs[k] w):=λk h1 h2=>by
   obtain ⟨ws,t,hm⟩:=h k h1 h2;obtain ⟨t1,t2⟩:=t.resolve_left (λ⟨v,m,e⟩=>q ⟨_,hm v m,by
    rw [Af,uh4,CB rs k _ v (ub2 h2),e,ul9]⟩)
   exact ⟨t1,λz=>let ⟨v,m,e⟩:=t2 z;⟨v,hm v m,e⟩⟩
  refine .inr ⟨by rw [sub,um3 hl,Iv λk h1 h2=>(hs k h1 h2).1];rfl,λhw=>?_⟩;rw [An,um3 hl,um9] at hw;have:∃k,∃(h1:k < ss.length) (h2:k < rs.length),An ss[k] rs[k]=false:=by
   refine Classical.byContradiction λz=>?_;rw [Jk λk h1 h2=>Classical.byContradiction λy=>z ⟨k,h1,h2,by simpa using y⟩] at hw
   cases hw
  obtain ⟨k,h1,h2,e⟩:=this;obtain ⟨w,m,ne⟩:=(hs k h1 h2).2 e;refine ⟨_,m,λz=>ne ?_⟩;rw [Au,Au,uh4,Ch ss k _ w (ub2 h1),Ch rs k _ w (ub2 h2)] at z;exact (List.cons.inj z).2
mutual
def tbq:Sh->Nat
 | .nothing=>0
 | .number _ _=>8
 | .text _=>252
 | .list s _=>1 + tbq s + 6 * lb s
 | .pair a b=>1 + tbq a + tbq b
 | .choice ss=>12 + W1 ss
def W1:List Sh->Nat
 | []=>0
 | s :: r=>tbq s + W1 r
end
mutual
theorem FR:∀s:Sh,lb s<=12 * cnt s
 | .nothing=>by rw [lb,cnt];lia;all_goals simp
 | .number _ _=>by rw [lb,cnt];lia;all_goals simp
 | .text _=>by rw [lb,cnt];lia;all_goals simp
 | .list s q=>by rw [lb,cnt];lia
 | .pair a b=>by rw [lb,cnt];have:=FR a;have:=FR b;lia
 | .choice ss=>by rw [lb,cnt];have:=MN ss;lia
theorem MN:∀ss:List Sh,lbs ss<=12 * AT ss
 | []=>up3 _
 | s :: r=>by rw [lbs,AT];have:=FR s;have:=MN r;lia
end
mutual
def mst:Sh->Nat
 | .list s q=>max (mst s) q.toNat
 | .pair a b=>max (mst a) (mst b)
 | .choice ss=>G5 ss
 | _=>0
def G5:List Sh->Nat
 | []=>0
 | s :: r=>max (mst s) (G5 r)
end
theorem Gq:∀{ss:List Sh} {s:Sh},s∈ss->mst s<=G5 ss
 | s :: r,_,.head _=>by rw [G5];lia
 | s :: r,x,.tail _ h=>by rw [G5];have:=Gq h;lia
theorem H9:∀{ss:List Sh} {s:Sh},s∈ss->cnt s<=AT ss
 | s :: r,_,.head _=>by rw [AT];lia
 | s :: r,x,.tail _ h=>by rw [AT];have:=H9 h;lia
theorem Vo {j:Int}:eqN n (.int i) (.int j)=some (i == j):=by cases n <;> rfl
theorem J0 {m:Nat}:∀{xs ys:List D},(∀x∈xs,∃i:Int,x = .int i)->(∀x∈ys,∃i:Int,x = .int i)->xs.length=ys.length->∃b,CG (eqN m) xs ys=some b/\(b=true↔xs=ys)
 | [],[],_,_,_=>⟨true,rfl,by simp⟩
 | x :: xs,y :: ys,h1,h2,hl=>by
   obtain ⟨i,rfl⟩:=h1 x uf6;obtain ⟨j,rfl⟩:=h2 y uf6;obtain ⟨b,e,q⟩:=J0 (m:=m) (λx m=>h1 x (ud6 _ m)) (λx m=>h2 x (ud6 _ m)) (up2 hl);refine ⟨(i == j) && b,by rw [CG,Vo,e],?_⟩;rw [ui2,beq_iff_eq,q];constructor
   ·rintro ⟨rfl,rfl⟩;rfl
   ·intro z;injection z with z1 z2;injection z1 with z1;exact ⟨z1,z2⟩
 | [],_ :: _,_,_,hl=>by cases hl
 | _ :: _,[],_,_,hl=>by cases hl
theorem JJ {g:Bool->Bool}(h1:∀x∈xs,∃i:Int,x = .int i)(h2:∀x∈ys,∃i:Int,x = .int i)(p:∀b,(b=true↔xs=ys)->P (.bl (g b)) t):W (eqS g (.lst xs) (.lst ys)) t P:=by
 by_cases hl:xs.length=ys.length
 ·obtain ⟨b,e,q⟩:=J0 (m:=39) h1 h2 hl;refine ⟨_,_,?_,p b q⟩;have:eqN EQD (.lst xs) (.lst ys)=some b:=by show eqN (39 + 1) _ _=_;rw [eqN,if_pos hl];exact e
  simp [eqS,Lw,this]
 ·refine ⟨_,_,?_,p false ⟨λz=>(by cases z),λz=>absurd (congrArg List.length z) hl⟩⟩;have:eqN EQD (.lst xs) (.lst ys)=some false:=by show eqN (39 + 1) _ _=_;rw [eqN,if_neg hl]
  simp [eqS,Lw,this]
def DX (s r:Sh)(v:D):Bool:=@decide (Parts s r v) (Classical.propDecidable _)
theorem partsB_iff:DX s r v=true↔Parts s r v:=by unfold DX;exact @decide_eq_true_iff _ (Classical.propDecidable _)
theorem Nd:∀{ds:List D} {m:Nat},(∀d∈ds,vb d<=m)->vbs ds<=ds.length * m
 | [],m,_=>by rw [vbs];exact up5 _
 | d :: r,m,h=>by
   rw [vbs,ui9,un9];have:=h d uf6;have:=Nd λx mm=>h x (ud6 _ mm);lia
theorem Lf (s:Sh):1<=cnt s:=by cases s <;> simp [cnt]
theorem Lg:∀ss:List Sh,ss.length<=AT ss
 | []=>up3 _
 | s :: r=>by rw [AT,ui9];have:=Lg r;have:=Lf s;lia
theorem BI:∀a b:List Sh,AT (a++b)=AT a + AT b
 | [],b=>by rw [uk7,AT,Nat.zero_add]
 | s :: r,b=>by rw [uj4,AT,AT,BI r b,un1]
theorem Sz:(Txt.mul (Str.ofString "a") (m:Int)).cps.toList=List.replicate m 97:=by
 rw [show (Str.ofString "a")=⟨#[97]⟩ from by decide +kernel,YU,uh4]
theorem X6 {m:Str}{ns:List Str}(e:m∈AU)(q:P (.bl (ns.any λn=>DB m n)) t):W (Hl ns (.exc m ds)) t P:=⟨_,_,by unfold Hl;dsimp only;rw [if_pos e];rfl,q⟩
def Gw (S S':List Ob):Prop:=S.length<=S'.length/\∀i,i < S.length->S'[i]?=S[i]?
theorem Gw.refl:Gw S S:=⟨up3 _,λ_ _=>rfl⟩
theorem Gw.trans {S S1 S2:List Ob}(a:Gw S S1)(b:Gw S1 S2):Gw S S2:=⟨un6 a.1 b.1,λi h=>(b.2 i (uf5 h a.1)).trans (a.2 i h)⟩
theorem Gw.app {ex:List Ob}:Gw S (S++ex):=⟨by rw [ug0];lia,λi h=>ua9 h⟩
theorem Gw.get {S S':List Ob}{k:Nat}{o:Ob}(a:Gw S S')(h:S[k]?=some o):S'[k]?=some o:=by rw [a.2 k (ua8.mp h).1];exact h
theorem Os {x:Ob}:(S++[x])[S.length]?=some x:=by simp
theorem SE {h:List D->List D->Option (List D)}{g:M (List D)}{f:M D}(w:W f t λo t1=>o = .obj k/\∃xs0,t1.S[k]?=some (.lst xs0)/\W g t1 λds t2=>∃xs ys,t2.S[k]?=some (.lst xs)/\h xs ds=some ys/\P .non ⟨t2.env,t2.S.set k (.lst ys)⟩):W (objM h f g) t P:=by
 unfold objM;refine W_bnd.mpr (w.mono λo t1 z9=>?_);obtain ⟨e,xs0,e1,w⟩:=z9;subst e;obtain ⟨ds,t2,e2,xs,ys,e3,e4,p⟩:=w;refine ⟨_,_,?_,p⟩;simp only [e1,bnd,e2,e3,e4];rfl
mutual
inductive Ow (S:List Ob):D->D->List Nat->Prop
 | non:Ow S .non .non []
 | int (i:Int):Ow S (.int i) (.int i) []
 | str (x:Str):Ow S (.str x) (.str x) []
 | tup {ds vs:List D} {fp:List Nat}:Ows S ds vs fp->Ow S (.tup ds) (.tup vs) fp
 | obj {k:Nat} {ds vs:List D} {fp:List Nat}:S[k]?=some (.lst ds)->Ows S ds vs fp->k∉fp->Ow S (.obj k) (.lst vs) (k :: fp)
inductive Ows (S:List Ob):List D->List D->List Nat->Prop
 | nil:Ows S [] [] []
 | cons {d v:D} {fp fp':List Nat} {ds vs:List D}:Ow S d v fp->Ows S ds vs fp'->(∀k∈fp,k∉fp')->Ows S (d :: ds) (v :: vs) (fp++fp')
end
mutual
theorem Ow.mono {S S':List Ob}{d v:D}{fp:List Nat}(h:∀k∈fp,S'[k]?=S[k]?)(r:Ow S d v fp):Ow S' d v fp:=by
 cases r with
 | non=>exact .non
 | int i=>exact .int i
 | str x=>exact .str x
 | tup o=>exact .tup (Ows.mono h o)
 | obj e o n=>exact .obj ((h _ uf6).trans e) (Ows.mono (λk hk=>h k (ud6 _ hk)) o) n
theorem Ows.mono {S S':List Ob}{ds vs:List D}{fp:List Nat}(h:∀k∈fp,S'[k]?=S[k]?)(r:Ows S ds vs fp):Ows S' ds vs fp:=by
 cases r with
 | nil=>exact .nil
 | cons a b n=>exact .cons (Ow.mono (λk hk=>h k (ud7 _ hk)) a) (Ows.mono (λk hk=>h k (uc8 _ hk)) b) n
end
mutual
theorem Ow.lt {S:List Ob}{d v:D}{fp:List Nat}(r:Ow S d v fp):∀k∈fp,k < S.length:=by
 cases r with
 | tup o=>exact Ows.lt o
 | obj e o n=>exact λk h=>(um5.mp h).elim (λz=>by rw [z];exact (ua8.mp e).1) (Ows.lt o k)
 | _=>exact λk h=>nomatch h
theorem Ows.lt {S:List Ob}{ds vs:List D}{fp:List Nat}(r:Ows S ds vs fp):∀k∈fp,k < S.length:=by
 cases r with
 | nil=>exact λk h=>nomatch h
 | cons a b n=>exact λk h=>(uj9.mp h).elim (Ow.lt a k) (Ows.lt b k)
end
theorem Ows.length {S:List Ob}{ds vs:List D}{fp:List Nat}(r:Ows S ds vs fp):ds.length=vs.length:=by
 cases r with
 | nil=>rfl
 | cons _ b _=>rw [ui9,ui9,Ows.length b]
variable {S':List Ob}{fp:List Nat}
theorem Ow.gr {d:D}(o:Ow S d v fp)(g:Gw S S'):Ow S' d v fp:=o.mono λk hk=>g.2 k (o.lt k hk)
theorem Ows.gr (o:Ows S ds vs fp)(g:Gw S S'):Ows S' ds vs fp:=o.mono λk hk=>g.2 k (o.lt k hk)
theorem X5 {d:D}{m:String}(e:Lw d=false)(h:W (D8 [d,.ty m]) t P):W (Bw [d,.ty m]) t P:=by
 cases d <;> first | exact h | cases e
theorem BO {m:String}{b:Bool}(e:t.S[k]?=some (.lst ds))(h:GW "list" m=some b)(q:P (.bl b) t):W (Bw [.obj k,.ty m]) t P:=⟨_,_,by simp only [Bw,e,h];rfl,q⟩
variable {g:Gd}
theorem HH {st:D->M Unit}{P:List D->T->Prop}(h:Gon g t.S)(q:P [] t):W (compG g st tst elt []) t P:=by
 unfold compG;exact W_bnd.mpr ⟨_,_,GN h,W_ret.mpr q⟩
theorem GL {st:D->M Unit}{d:D}{r:List D}{P:List D->T->Prop}(h:Gon g t.S)(q:W (st d) t λ_ t1=>W tst t1 λk t2=>
 if k=true then W elt t2 λx t3=>W (compG g st tst elt r) t3 λxs t4=>P (x :: xs) t4 else W (compG g st tst elt r) t2 P):W (compG g st tst elt (d :: r)) t P:=by
 rw [compG];refine W_bnd.mpr ⟨_,_,GN h,W_bnd.mpr (q.mono λ_ t1 q=>W_bnd.mpr (q.mono λk t2 q=>?_))⟩
 split
 ·next hk=>
  rw [if_pos hk] at q;exact W_bnd.mpr (q.mono λx t3 q=>W_bnd.mpr (q.mono λxs t4 q=>W_ret.mpr q))
 ·next hk=>
  rw [if_neg hk] at q;exact q
theorem He {fr:List Nat}{f:M (Gd×List D)}{st:D->M Unit}{P:List D->T->Prop}(h:W f t λp t1=>W (compG p.1 st tst elt p.2) ⟨cenv n fr t1.env,t1.S⟩ λxs t2=>Gm xs.length (P xs { t1 with S:=t2.S })):W (Dm n fr f st tst elt) t P:=by
 refine W_bnd.mpr (h.mono λp t1 h=>?_);obtain ⟨xs,t2,e,l,q⟩:=h;refine ⟨xs,_,?_,q⟩;simp only [e,if_pos l]
theorem D7:Gon none S:=λ_ _ z=>nomatch z
theorem CY (h:S[k]?=some (.lst xs)):Gon (some (k,xs)) S:=λ_ _ z=>by cases z;exact h
theorem Ows.at {S:List Ob}{ds vs:List D}{fp:List Nat}(r:Ows S ds vs fp)(i:Nat)(d v:D)(h1:ds[i]?=some d)(h2:vs[i]?=some v):∃f,Ow S d v f:=by
 cases r with
 | nil=>cases h1
 | cons a b n=>
   cases i with
   | zero=>cases h1;cases h2;exact ⟨_,a⟩
   | succ i=>exact Ows.at b i d v h1 h2
def Rq (n:Nat)(d:D):Prop:=∀m,n<=m->eqN m d d=some true
theorem PJ:Rq n (.int i):=λm _=>by cases m <;> (show some (i == i)=some true;rw [uj7])
theorem PN {i:Str}:Rq n (.str i):=λm _=>by cases m <;> (show some (i == i)=some true;rw [uj7])
theorem PL:Rq n .non:=λm _=>by cases m <;> rfl
theorem WP (h:∀x∈xs,Rq n x):Rq (n + 1) (.tup xs):=λm hm=>by
 obtain ⟨k,rfl⟩:∃k,m=k + 1:=Nat.exists_eq_add_of_le' (by lia);have e:CG (eqN k) xs xs=some true:=GQ λx hx=>h x hx k (by lia);rw [eqN,e];simp
theorem WO (h:∀x∈xs,Rq n x):Rq (n + 1) (.lst xs):=λm hm=>by
 obtain ⟨k,rfl⟩:∃k,m=k + 1:=Nat.exists_eq_add_of_le' (by lia);rw [eqN,if_pos rfl];exact GQ λx hx=>h x hx k (by lia)
def nvO:Nat->D->Bool
 | _,.non=>true
 | _,.int _=>true
 | _,.str _=>true
 | n + 1,.lst xs=>decide (xs.length<=1000) && xs.all (nvO n)
 | n + 1,.tup xs=>decide (xs.length<=1000) && xs.all (nvO n)
 | _,_=>false
theorem E1:∀(n:Nat) (s:Sh),s.depth<=n->wf s=true->∀v,Af s v=true->nvO n v=true
 | 0,s,h,_,_,_=>absurd s.depth_pos (by lia)
 | n + 1,s,hs,hw,v,hf=>by
   cases s with
   | nothing=>cases v <;> simp [Af,IW] at hf;rfl
   | number lo hi=>cases v <;> simp [Af] at hf;rfl
   | text q=>cases v <;> simp only [Af,ug1] at hf;rfl
   | list s q=>
     simp only [wf,ui2,uh7] at hw;rw [Sh.depth] at hs
     cases v <;> simp only [Af,ug1] at hf
     rename_i ds;simp only [ui2,uh7,ui7] at hf;rw [nvO,ui2,uh7,ui7];exact ⟨by lia,λd hd=>E1 n s (by lia) hw.2 d (hf.2 d hd)⟩
   | pair s r=>
     simp only [wf,ui2] at hw;rw [Sh.depth] at hs;unfold Af at hf
     split at hf
     ·rw [ui2] at hf;have h1:=E1 n s (by lia) hw.1 _ hf.1;have h2:=E1 n r (by lia) hw.2 _ hf.2;simp [nvO,h1,h2]
     ·cases hf
   | choice ss=>
     simp only [wf,ui2,uh7] at hw;rw [Sh.depth] at hs;unfold Af at hf
     split at hf
     ·next o k x=>
      simp only [ui2,uh7] at hf;obtain ⟨j,rfl⟩:=ub7 hf.1.2.1;have hj:j < ss.length:=by have:=hf.1.2.2;lia
      have e1:ss[j]?=some ss[j]:=ub2 hj;have h2:=hf.2;rw [uh4,CB ss _ _ _ e1] at h2;have h3:=E1 n _ (un6 (C9 ss _ _ e1) (by lia)) (A8 hw.2 _ (uj0 hj)) x h2;have g1:∀o:Str,nvO n (.str o)=true:=λo=>by cases n <;> rfl
      have g2:∀i:Int,nvO n (.int i)=true:=λo=>by cases n <;> rfl
      simp [nvO,h3,g1,g2]
     ·cases hf
theorem LM:∀(n:Nat) (v:D),nvO n v=true->nvO (n + 1) v=true
 | 0,v,h=>by cases v <;> first | rfl | (simp [nvO] at h;done)
 | n + 1,v,h=>by
   cases v <;> first | rfl | (simp [nvO] at h;done) | skip
   all_goals
    rw [nvO,ui2,ui7] at h;rw [nvO,ui2,ui7];exact ⟨h.1,λd hd=>LM n d (h.2 d hd)⟩
theorem MT {n:Nat}{v:D}(h:nvO n v=true):∀m,nvO (n + m) v=true
 | 0=>h
 | m + 1=>LM _ _ (MT h m)
theorem M0:∀{xs:List D},(∀x∈xs,Bg x=true)->Gv xs=true
 | [],_=>rfl
 | x :: r,h=>by rw [Gv,h x uf6,M0 λy m=>h y (ud6 _ m)];rfl
theorem LS:∀(n:Nat) (v:D),nvO n v=true->Bg v=true
 | 0,v,h=>by cases v <;> first | rfl | (simp [nvO] at h;done)
 | n + 1,v,h=>by
   cases v <;> first | rfl | (simp [nvO] at h;done) | skip
   all_goals
    rw [nvO,ui2,ui7] at h;rw [Bg];exact M0 λx hx=>LS n x (h.2 x hx)
theorem L5:∀(n:Nat) (v:D),nvO n v=true->Rq n v
 | 0,v,h=>by cases v <;> first | exact PL | exact PJ | exact PN | (simp [nvO] at h;done)
 | n + 1,v,h=>by
   cases v <;> first | exact PL | exact PJ | exact PN | (simp [nvO] at h;done) | skip
   ·rw [nvO,ui2,ui7] at h;exact WP λx hx=>L5 n x (h.2 x hx)
   ·rw [nvO,ui2,ui7] at h;exact WO λx hx=>L5 n x (h.2 x hx)
theorem JD {S:List Ob}{n:Nat}(ih:∀{d v:D} {fp:List Nat},Ow S d v fp->nvO n v=true->BS S n d=v):∀{ds vs:List D} {fp:List Nat},Ows S ds vs fp->(∀v∈vs,nvO n v=true)->ds.map (BS S n)=vs
 | _,_,_,.nil,_=>rfl
 | _,_,_,.cons a b _,h=>by rw [um8,ih a (h _ uf6),JD ih b λv hv=>h v (ud6 _ hv)]
theorem L3 {S:List Ob}:∀(n:Nat) {d v:D} {fp:List Nat},Ow S d v fp->nvO n v=true->BS S n d=v
 | 0,d,v,fp,o,h=>by
   cases o <;> first | rfl | (simp [nvO] at h;done)
 | n + 1,d,v,fp,o,h=>by
   cases o with
   | non=>rfl
   | int i=>rfl
   | str x=>rfl
   | tup o=>
     rw [nvO,ui2,ui7] at h;rw [BS,JD (λa b=>L3 n a b) o h.2]
   | obj e o _=>
     rw [nvO,ui2,ui7] at h;unfold BS;rw [e];dsimp only;rw [JD (λa b=>L3 n a b) o h.2]
theorem M3 {S:List Ob}:∀(n:Nat) (v:D),nvO n v=true->BS S n v=v
 | 0,v,h=>by cases v <;> first | rfl | (simp [nvO] at h;done)
 | n + 1,v,h=>by
   cases v <;> first | rfl | (simp [nvO] at h;done) | skip
   all_goals
    rw [nvO,ui2,ui7] at h;rw [BS]
    congr 1
    rw [ue9 λx hx=>M3 n x (h.2 x hx),List.map_id']
theorem Ze {g:Bool->Bool}{y d:D}(hx:BS t.S 16 x=d)(hy:BS t.S 16 y=d)(hn:nvO 16 d=true)(h:P (.bl (g true)) t):W (eqO g x y) t P:=
 ⟨_,_,by unfold eqO;rw [hx,hy,LS 16 d hn,L5 16 d hn EQD (by decide)];rfl,h⟩
theorem D0 {f:M D}{P:Gd×List D->T->Prop}(h:W f t λd t1=>W (FP d) t1 P):W (EF f) t P:=W_bnd.mpr h
theorem Fr {P:Gd×List D->T->Prop}(e:t.S[k]?=some (.lst ds))(h:P (some (k,ds),ds) t):W (FP (.obj k)) t P:=⟨_,_,by simp only [FP,e],h⟩
theorem HA {P:Gd×List D->T->Prop}(h:P (none,ds) t):W (FP (.tup ds)) t P:=⟨_,_,rfl,h⟩
theorem F4 {st:D->M Unit}{b:M Out}{P:Out->T->Prop}(h:Gon g t.S)(q:P .next t):W (forG g st b []) t P:=by
 unfold forG;exact W_bnd.mpr ⟨_,_,GN h,W_ret.mpr q⟩
theorem HI {st:D->M Unit}{b:M Out}{d:D}{r:List D}{P:Out->T->Prop}(h:Gon g t.S)(q:W (st d) t λ_ t1=>W b t1 λo t2=>o = .next/\W (forG g st b r) t2 P):W (forG g st b (d :: r)) t P:=by
 rw [forG];refine W_bnd.mpr ⟨_,_,GN h,W_bnd.mpr (q.mono λ_ t1 q=>W_bnd.mpr (q.mono λo t2 q=>?_))⟩;obtain ⟨rfl,q⟩:=q;exact q
local macro_rules | `(tactic| walk_at "y1")=>`(tactic| first | walk_at "x1" | clear 32 X5)
abbrev PureO (S:List Ob)(f:Fn)(ds:List D)(r:D):Prop:=Wf f ds S λx S'=>x=r/\S'=S
theorem PureO.use {r:D}(h:PureO S f ds r){P:D->List Ob->Prop}(p:P r S):Wf f ds S P:=Wf.mono h λ_ _ ⟨e1,e2⟩=>by subst e1 e2;exact p
theorem FH {g:Gd}{st:D->M Unit}{b:M Out}{P:Out->T->Prop}(I:List D->T->Prop)(hg:∀r t,I r t->Gon g t.S):∀(ds:List D) (t:T),I ds t->
 (∀d r t,I (d :: r) t->W (st d) t λ_ t1=>W b t1 λo t2=>match o with
   | .next=>I r t2
   | .cont=>I r t2
   | .brk=>P .next t2
   | .ret x=>P (.ret x) t2)->(∀t,I [] t->P .next t)->W (forG g st b ds) t P
 | [],t,h,_,fin=>F4 (hg _ _ h) (fin t h)
 | d :: r,t,h,turn,fin=>by
   rw [forG];refine W_bnd.mpr ⟨_,_,GN (hg _ _ h),W_bnd.mpr ((turn d r t h).mono λ_ t1 q=>W_bnd.mpr (q.mono λo t2 q=>?_))⟩
   cases o with
   | next=>exact FH I hg r t2 q turn fin
   | cont=>exact FH I hg r t2 q turn fin
   | brk=>exact W_ret.mpr q
   | ret x=>exact W_ret.mpr q
theorem DZ {f:M (Gd×List D)}{st:D->M Unit}{b:M Out}{P:Out->T->Prop}(h:W f t λp t1=>W (forG p.1 st b p.2) t1 P):W (EO f st b) t P:=W_bnd.mpr h
def P8 (f:Fn):Prop:=∀{S:List Ob} {d v:D} {fp:List Nat},Ow S d v fp->PureO S f [d] (.bl (VU v))
theorem Xy:P8 (fnOf 1 1 Eg):=by
 intro S d v fp o;refine Al rfl ?_;unfold Eg
 cases o with
 | obj e o n=>
   symm;refine BO e rfl ?_;symm;exact ⟨rfl,rfl⟩
 | _=>symm;exact ⟨rfl,rfl⟩
def Hh (f:Fn):Prop:=∀{S:List Ob} {d v:D} {fp:List Nat} (lo hi:Int),Ow S d v fp->PureO S f [d,.int lo,.int hi] (.bl (EX lo hi v))
theorem RZ (hc:P8 c):Hh (fnOf 3 3 (C6 c)):=by
 intro S d v fp lo hi o;refine Al rfl ?_;unfold C6;symm;refine (hc o).use ?_
 cases o with
 | int i=>
   symm;refine AE (λe=>?_) λe=>?_
   ·symm;exact ⟨by simp only [EX,e,um9],rfl⟩
   ·exact ⟨by simp only [EX,e,ul8],rfl⟩
 | _=>symm;exact ⟨rfl,rfl⟩
def RJ:List D->Bool
 | [_,_]=>true
 | [.str _,.int _,_]=>true
 | _=>false
mutual
def tm:D->Bool
 | .non=>true
 | .int _=>true
 | .str x=>decide (x.length<=90000)
 | .lst xs=>decide (xs.length<=1000) && tms xs
 | .tup xs=>tms xs && RJ xs
 | _=>false
def tms:List D->Bool
 | []=>true
 | d :: r=>tm d && tms r
end
theorem Nc:∀{xs:List D},tms xs=true->∀d∈xs,tm d=true
 | x :: r,h,d,m=>by
   rw [tms,ui2] at h;rcases um5.mp m with z | z
   ·subst z;exact h.1
   ·exact Nc h.2 d z
theorem PZ:∀{xs:List D},(∀d∈xs,tm d=true)->tms xs=true
 | [],_=>rfl
 | x :: r,h=>by
   rw [tms,ui2];exact ⟨h x uf6,PZ λd m=>h d (ud6 _ m)⟩
theorem B4:∀(n:Nat) (s:Sh),s.depth<=n->wf s=true->∀v,Af s v=true->tm v=true
 | 0,s,h,_,_,_=>absurd s.depth_pos (by lia)
 | n + 1,s,hs,hw,v,hf=>by
   cases s with
   | nothing=>rw [B1 hf];rfl
   | number lo hi=>obtain ⟨i,rfl,_⟩:=Bm hf;rfl
   | text q=>
     obtain ⟨x,rfl,hx⟩:=B7 hf;simp only [wf,ui2,uh7] at hw;rw [tm,uh7];lia
   | list s q=>
     rw [Sh.depth] at hs;simp only [wf,ui2,uh7] at hw;obtain ⟨ds,rfl,hl,h⟩:=BN hf;rw [tm,ui2,uh7];exact ⟨by lia,PZ λd m=>B4 n s (by lia) hw.2 d (h d m)⟩
   | pair a b=>
     rw [Sh.depth] at hs;simp only [wf,ui2] at hw;obtain ⟨x,y,rfl,h1,h2⟩:=B6 hf;rw [tm,tms,tms,tms,B4 n a (by lia) hw.1 x h1,B4 n b (by lia) hw.2 y h2];rfl
   | choice ss=>
     rw [Sh.depth] at hs;simp only [wf,ui2] at hw;obtain ⟨k,x,hk,rfl,h1⟩:=Bl hf;rw [tm,tms,tms,tms,tms,B4 n _ (un6 (AO (uj0 hk)) (by lia)) (A8 hw.2 _ (uj0 hk)) x h1,tm,tm];rw [show (Str.ofString "of").length=2 from by decide +kernel];rfl
theorem tm2 (h:tm (.tup vs)=true)(o:Ows S ds vs fp):(∃a b x y f1 f2,ds=[a,b]/\vs=[x,y]/\Ow S a x f1/\Ow S b y f2/\tm x=true/\tm y=true)\/∃(s:Str) (i:Int) (b y:D) (f2:List Nat),ds=[.str s,.int i,b]/\vs=[.str s,.int i,y]/\Ow S b y f2/\tm y=true:=by
 rw [tm,ui2] at h;obtain ⟨h1,h2⟩:=h
 cases o with
 | nil=>cases h2
 | cons a o _=>
   rw [tms,ui2] at h1
   cases o with
   | nil=>cases h2
   | cons b o _=>
     have h3:=h1.2;rw [tms,ui2] at h3
     cases o with
     | nil=>exact .inl ⟨_,_,_,_,_,_,rfl,rfl,a,b,h1.1,h3.1⟩
     | cons c o _=>
       have h4:=h3.2;rw [tms,ui2] at h4
       cases o with
       | nil=>
         unfold RJ at h2
         split at h2
         ·next e=>cases e
         ·next s i _ e=>
          cases e
          cases a
          cases b
          exact .inr ⟨_,_,_,_,_,rfl,rfl,c,h4.1⟩
         ·cases h2
       | cons _ _ _=>
         unfold RJ at h2
         split at h2
         ·next e=>cases e
         ·next e=>cases e
         ·cases h2
def Nm (f:Fn):Prop:=∀{S:List Ob} {d v:D} {fp:List Nat} (m:Int),Ow S d v fp->tm v=true->PureO S f [(Sh.text m).d,d] (.bl (Af (.text m) v))
theorem Ml (hc:KU c):Nm (fnOf 2 3 (Ef c)):=by
 intro S d v fp m o h;refine Al rfl ?_;unfold Ef;rw [Sh.d]
 cases o with
 | str x=>
   have hx:x.length<=LIM:=un6 (by simpa [tm] using h) (show 90000<=LIM by decide);symm;refine KH hx ?_;symm;refine AE (λe=>?_) λe=>?_
   ·symm;have:¬((x.length:Int)<=m):=by have:=uh8 e;lia
    exact ⟨by simp [Af,this],rfl⟩
   ·symm;have e':(x.length:Int)<=m:=by have:=of_decide_eq_false e;lia
    refine Dq (λr t=>t.S=S/\∃cs:List Nat,r=cs.map (λc=>D.str ⟨#[c]⟩)/\(x.cps.toList.all BT=cs.all BT)/\∃z,t.env=[some (.val (.tup [.str "text",.int m])),some (.val (.str x)),z]) _ _ ⟨rfl,x.cps.toList,rfl,rfl,_,rfl⟩ ?_ ?_
    ·rintro d r t ⟨hs,cs,hr,hall,z,ht⟩ _;obtain ⟨env,S2⟩:=t;subst hs ht
     cases cs with
     | nil=>simp at hr
     | cons c cs=>
       simp only [um8,List.cons.injEq] at hr;obtain ⟨rfl,rfl⟩:=hr;symm;refine Oa rfl ?_;symm;refine (hc c).use ?_;symm;refine AE (λq=>?_) λq=>?_
       ·symm;have q':BT c=false:=by simpa using q
        refine ⟨?_,rfl⟩;simp only [Af,hall,um6,q',ul8,ul9]
       ·symm;have q':BT c=true:=by simpa using q
        exact ⟨rfl,cs,rfl,by rw [hall,um6,q',um9],_,rfl⟩
    ·rintro t ⟨hs,cs,hr,hall,z,ht⟩;obtain ⟨env,S2⟩:=t;subst hs ht;have:cs=[]:=by cases cs with | nil=>rfl | cons _ _=>simp at hr
     subst this;symm;exact ⟨by simp [Af,e',hall],rfl⟩
 | obj e o n=>
   symm;refine BO e rfl ?_;symm;exact ⟨by simp [Af],rfl⟩
 | _=>symm;exact ⟨by simp [Af],rfl⟩
def En (f:Fn)(n:Nat):Prop:=∀(s:Sh),s.depth<=n->∀{S:List Ob} {d v:D} {fp:List Nat},Ow S d v fp->tm v=true->PureO S f [s.d,d] (.bl (Af s v))
def R6 (f:Fn)(n:Nat):Prop:=∀(s:Sh) (m:Int),s.depth<=n->∀{S:List Ob} {d v:D} {fp:List Nat},Ow S d v fp->tm v=true->PureO S f [(Sh.list s m).d,d] (.bl (Af (.list s m) v))
theorem Mi (hc:En c n):R6 (fnOf 2 3 (Ed c)) n:=by
 intro s m hs S d v fp o h;refine Al rfl ?_;unfold Ed;rw [Sh.d]
 cases o with
 | @obj k ds vs fp e o n=>
   have hx:tms vs=true:=by rw [tm,ui2] at h;exact h.2
   have hlen:=o.length;symm;refine BO e rfl ?_;symm;refine HB e ?_;symm;refine AE (λe=>?_) λe=>?_
   ·symm;have:¬((vs.length:Int)<=m):=by have:=uh8 e;lia
    exact ⟨by simp [Af,this],rfl⟩
   ·symm;have e':(vs.length:Int)<=m:=by have:=of_decide_eq_false e;lia
    refine DZ (D0 ?_);symm;refine Fr (by assumption) ?_;refine FH (λr t=>∃(us:List D) (fq:List Nat) (z:Option Sl),Ows S r us fq/\tms us=true/\(vs.all (λe=>Af s e)=us.all λe=>Af s e)/\t=⟨[some (.val (.tup [.str "list",s.d,.int m])),some (.val (.obj k)),z],S⟩) (λr t h=>?_) _ _ ⟨vs,fp,_,o,hx,rfl,rfl⟩ ?_ ?_
    ·obtain ⟨_,_,_,_,_,_,rfl⟩:=h;exact CY (by assumption)
    ·rintro d r t ⟨us,fq,z,oo,hu,hall,rfl⟩
     cases oo with
     | @cons _ u f1 f2 _ us a b _=>
       rw [tms,ui2] at hu;symm;refine (hc s hs a hu.1).use ?_;symm;refine AE (λq=>?_) λq=>?_
       ·symm;have q':Af s u=false:=by simpa using q
        refine ⟨?_,rfl⟩;simp only [Af,hall,um6,q',ul8,ul9]
       ·symm;have q':Af s u=true:=by simpa using q
        exact ⟨us,f2,_,b,hu.2,by rw [hall,um6,q',um9],rfl⟩
    ·rintro t ⟨us,fq,z,oo,hu,hall,rfl⟩
     cases oo
     symm;exact ⟨by simp only [Af,e',decide_true,hall,List.all_nil,um9],rfl⟩
 | _=>symm;exact ⟨by simp [Af],rfl⟩
def R8 (f:Fn)(n:Nat):Prop:=∀(s r:Sh),s.depth<=n->r.depth<=n->∀{S:List Ob} {d v:D} {fp:List Nat},Ow S d v fp->tm v=true->PureO S f [(Sh.pair s r).d,d] (.bl (Af (.pair s r) v))
theorem Mj (hc:En c n):R8 (fnOf 2 2 (Ee c)) n:=by
 intro s r hs hr S d v fp o h;refine Al rfl ?_;unfold Ee;rw [Sh.d]
 cases o with
 | @tup ds vs fp o=>
   rcases tm2 h o with ⟨a,b,x,y,f1,f2,rfl,rfl,oa,ob,hx,hy⟩ | ⟨s',i,b,y,f2,rfl,rfl,ob,hy⟩
   ·symm;refine (hc s hs oa hx).use ?_;symm;refine AE (λe=>?_) λe=>?_
    ·symm;refine (hc r hr ob hy).use ?_;exact ⟨by simp only [Af,e,um9],rfl⟩
    ·exact ⟨by simp only [Af,e,ul8],rfl⟩
   ·symm;exact ⟨by simp [Af],rfl⟩
 | obj e o n=>
   symm;refine BO e rfl ?_;symm;exact ⟨by simp [Af],rfl⟩
 | _=>symm;exact ⟨by simp [Af],rfl⟩
def Ms (f:Fn)(n:Nat):Prop:=∀(ss:List Sh),A7 ss<=n->∀{S:List Ob} {d v:D} {fp:List Nat},Ow S d v fp->tm v=true->PureO S f [(Sh.choice ss).d,d] (.bl (Af (.choice ss) v))
theorem Kq {c':Fn}(hc:En c n)(hw:Hh c'):Ms (fnOf 2 2 (DA c c')) n:=by
 intro ss hs S d v fp o h;refine Al rfl ?_;unfold DA;rw [Sh.d]
 cases o with
 | @tup ds vs fp o=>
   rcases tm2 h o with ⟨a,b,x,y,f1,f2,rfl,rfl,oa,ob,hx,hy⟩ | ⟨o',k,b,y,f2,rfl,rfl,ob,hy⟩
   ·symm;exact ⟨by simp [Af],rfl⟩
   ·symm;refine AE (λq=>?_) λq=>?_
    ·symm;have q':Gk o'=false:=by simpa [Gk] using q
     exact ⟨by simp only [Af,q',ul8],rfl⟩
    ·symm;have q':Gk o'=true:=by simpa [Gk] using q
     refine (hw 0 _ (.int k)).use ?_;symm;refine AE (λq=>?_) λq=>?_
     ·symm;refine ⟨?_,rfl⟩;have:(decide (0<=k) && decide (k < (ss.length:Int)))=false:=by
       have q2:k < 0\/((shD ss).length:Int) - 1 < k:=by simpa [EX] using q
       rw [AJ] at q2;simp;lia
      simp only [Af,this,ul8,ul9]
     ·have q2:0<=k/\k<=((shD ss).length:Int) - 1:=by simpa [EX] using q
      have q3:=q2;rw [AJ] at q3;have hk:k.toNat < ss.length:=by lia
      have e1:ss[k.toNat]?=some ss[k.toNat]:=ub2 hk;have e2:atI (shD ss) k=some (ss[k.toNat]).d:=by
       unfold atI;rw [AJ,FQ q3.1 (by lia)];simp [Hy,e1]
      symm;refine DC e2 ?_;symm;refine (hc _ (un6 (C9 ss _ _ e1) hs) ob hy).use ?_;refine ⟨?_,rfl⟩;have:(decide (0<=k) && decide (k < (ss.length:Int)))=true:=by simp;lia
      simp only [Af,q',this,um9,CB ss _ _ y e1]
 | obj e o n=>
   symm;refine BO e rfl ?_;symm;exact ⟨by simp [Af],rfl⟩
 | _=>symm;exact ⟨by simp [Af],rfl⟩
variable {cc cl:Fn}
theorem VF (h1:Ms cc n)(h2:R8 cp n)(h3:R6 cl n)(h4:Nm ct)(h5:Hh cw):En (fnOf 2 3 (LD cc cp cl ct cw)) (n + 1):=by
 intro s hs S d v fp o h;refine Al rfl ?_;unfold LD
 cases s with
 | nothing=>
   rw [Sh.d];symm;refine ⟨?_,rfl⟩
   cases o <;> rfl
 | number lo hi=>
   rw [Sh.d];symm;refine (h5 lo hi o).use ⟨?_,rfl⟩
   cases v <;> simp [Af,EX]
 | text m=>
   rw [Sh.d];symm;exact (h4 m o h).use ⟨rfl,rfl⟩
 | list s m=>
   rw [Sh.depth] at hs;have q:=h3 s m (by lia) o h;rw [Sh.d] at q ⊢;symm;exact PureO.use q ⟨rfl,rfl⟩
 | pair s r=>
   rw [Sh.depth] at hs;have q:=h2 s r (by lia) (by lia) o h;rw [Sh.d] at q ⊢;symm;exact PureO.use q ⟨rfl,rfl⟩
 | choice ss=>
   rw [Sh.depth] at hs;have q:=h1 ss (by lia) o h;rw [Sh.d] at q ⊢;symm;exact PureO.use q ⟨rfl,rfl⟩
def QW:D->D
 | .str y=>.int (y.cps.getD 0 0:Nat)
 | d=>d
theorem JY (x:Str):(x.cps.toList.map λc=>D.str ⟨#[c]⟩).map QW=x.cps.toList.map λn=>D.int (n:Nat):=by
 rw [uo6];refine ue9 λn _=>?_;rfl
def Eu (f:Fn)(n:Nat):Prop:=∀(s:Sh),s.depth<=n->wf s=true->∀{S:List Ob} {d v:D} {fp:List Nat},Ow S d v fp->Af s v=true->(Au s v).length<=LIM->PureO S f [s.d,d] (.lst (Au s v))
theorem SN {cn:Fn}(hc:Eu c n)(hw:Kx cw)(hn:KN cn):Eu (fnOf 2 5 (C5 c cw cn)) (n + 1):=by
 intro s hs hwf S d v fp o hf hlen;have hL:LIM=100000:=rfl;refine Al rfl ?_;unfold C5
 cases s with
 | nothing=>
   rw [Sh.d];symm;refine HD ?_;symm;exact ⟨by rw [Au],rfl⟩
 | number lo hi=>
   have hsp:=Na hwf;have hwd:=F0 9 _ hsp;simp only [wf,ui2,uh7] at hwf;obtain ⟨i,rfl,hi1,hi2⟩:=Bm hf
   cases o
   rw [Sh.d];symm;refine HD (Fj ?_);symm;have e1:hi - lo=(((hi - lo).toNat:Nat):Int):=by lia
   have e2:i - lo=(((i - lo).toNat:Nat):Int):=by lia
   rw [e1,e2];refine (hw _ hsp).use ?_;symm;refine (hn _ _ (by lia)).use ?_;exact ⟨_,rfl,by rw [Au],rfl⟩
 | text q=>
   simp only [wf,ui2,uh7] at hwf;obtain ⟨x,rfl,hx⟩:=B7 hf
   cases o
   rw [Sh.d];symm;refine HD ?_;refine Hd ?_;symm;refine KH (by rw [hL];lia) ?_;symm;refine (Ew (f:=QW) (fr:=[]) ?_).mono ?_
   ·intro d m;obtain ⟨k,hk,rfl⟩:=uo5.mp m;symm;refine Oa rfl ?_;exact ⟨rfl,rfl⟩
   ·rintro xs t' ⟨rfl,hS⟩;rw [JY];have hl:x.cps.toList.length<=250:=by rw [<-GZ];lia
    refine AZ (by rw [uk5,hL];lia) ?_;symm;refine AZ (by simp only [uk5,ui9,ul5,hL];lia) ?_;exact ⟨by rw [Au];rfl,hS⟩
 | list s q=>
   simp only [wf,ui2,uh7] at hwf;rw [Sh.depth] at hs;obtain ⟨vs,rfl,hl0,hds⟩:=BN hf
   cases o with
   | @obj k ds _ fp e o nk=>
     have hol:=o.length;rw [Au] at hlen ⊢;rw [Sh.d];symm;refine HB e ?_;symm;refine DZ (D0 ?_);symm;refine Fr e ?_;refine FH (λr t=>∃(z:Option Sl) (acc us:List D) (fq:List Nat),Ows S r us fq/\(∀u∈us,Af s u=true)/\t=⟨[some (.val (.tup [.str "list",s.d,.int q])),some (.val (.obj k)),some (.val (.str "list")),some (.own acc),z],S⟩/\acc++(us.map λd=>Au s d).flatten = .int (vs.length:Nat) :: (vs.map λd=>Au s d).flatten) (λr t h=>?_) _ _ ⟨_,_,vs,fp,o,hds,rfl,by rw [hol];rfl⟩ ?_ ?_
     ·obtain ⟨_,_,_,_,_,_,rfl,_⟩:=h;exact CY e
     ·rintro d r t ⟨z,acc,us,fq,oo,hu,rfl,hacc⟩
      cases oo with
      | @cons _ u f1 f2 _ us a b _=>
        rw [um8,ug9,<-uh0] at hacc;have hl:acc.length + (Au s u).length<=LIM:=by
         have:=congrArg List.length hacc;rw [ug0,ug0] at this;lia
        symm;refine Fj ?_;symm;refine (hc s (by lia) hwf.2 a (hu u uf6) (by lia)).use ⟨_,rfl,?_⟩;symm;refine RP rfl hl ?_;exact ⟨_,_,us,f2,b,λx m=>hu x (ud6 _ m),rfl,hacc⟩
     ·rintro t ⟨z,acc,us,fq,oo,hu,rfl,hacc⟩
      cases oo
      rw [uo1,List.flatten_nil,uk2] at hacc;symm;refine US rfl ?_;exact ⟨by rw [hacc],rfl⟩
 | pair s r=>
   simp only [wf,ui2] at hwf;rw [Sh.depth] at hs;have htm:=B4 _ _ (up3 _) (by simp only [wf,hwf.1,hwf.2,un0]) v hf;obtain ⟨x,y,rfl,h1,h2⟩:=B6 hf
   cases o with
   | tup o=>
     rcases tm2 htm o with ⟨a,b,x',y',f1,f2,rfl,e,oa,ob,_,_⟩ | ⟨o',k,b,y',f2,rfl,e,ob,_⟩
     ·cases e
      rw [Au] at hlen ⊢;rw [ug0] at hlen;rw [Sh.d];symm;refine HD ?_;refine Hd ?_;symm;refine Fj ?_;symm;refine (hc s (by lia) hwf.1 oa h1 (by lia)).use ⟨_,rfl,?_⟩;refine Hd ?_;symm;refine Fj ?_;symm;refine (hc r (by lia) hwf.2 ob h2 (by lia)).use ⟨_,rfl,?_⟩;symm;refine AZ (by lia) ?_;exact ⟨rfl,rfl⟩
     ·cases e
 | choice ss=>
   have htm:=B4 _ _ (up3 _) hwf v hf;simp only [wf,ui2,uh7] at hwf;rw [Sh.depth] at hs;obtain ⟨k,x,hk,rfl,h1⟩:=Bl hf
   cases o with
   | tup o=>
     rcases tm2 htm o with ⟨a,b,x',y',f1,f2,rfl,e,oa,ob,_,_⟩ | ⟨o',k',b,y',f2,rfl,e,ob,_⟩
     ·cases e
     ·cases e
      have e1:ss[k]?=some ss[k]:=ub2 hk;rw [Au,uh4] at hlen ⊢;rw [Ch ss _ _ _ e1] at hlen ⊢;rw [ui9] at hlen;rw [Sh.d];symm;refine HD ?_;symm;refine Fj ?_;symm;refine DC (Es hk) ?_;symm;refine (hc _ (un6 (C9 ss _ _ e1) (by lia)) (A8 hwf.2 _ (uj0 hk)) ob h1 (by lia)).use ⟨_,rfl,?_⟩;symm;refine AZ (by simp only [ui9,ul5];lia) ?_;exact ⟨rfl,rfl⟩
theorem KZ (hg:Gon g S){fn:D->D->Prop}:∀{ds vs ws:List D} {fp:List Nat} {z:Option Sl},Ows S ds vs fp->ws.length=vs.length->(∀(i:Nat) (v w:D),vs[i]?=some v->ws[i]?=some w->fn v w)->(∀d v w f,Ow S d v f->fn v w->W elt ⟨some (.val d) :: fr,S⟩ λx t'=>x=w/\t'=⟨some (.val d) :: fr,S⟩)->W (compG g (Ao 0) Bt elt ds) ⟨z :: fr,S⟩ λxs t'=>xs=ws/\t'.S=S:=by
 intro ds vs ws fp z o
 induction ds generalizing vs ws fp z with
 | nil=>
   cases o
   intro hl _ _;have:ws=[]:=ub5.mp hl;subst this;exact HH hg ⟨rfl,rfl⟩
 | cons d ds ih=>
   cases o with
   | @cons _ v f1 f2 _ vs a b _=>
     intro hl hf he
     cases ws with
     | nil=>cases hl
     | cons w ws=>
       refine GL hg ?_;refine FD (Iy ?_);rw [if_pos rfl];refine (he d v w f1 a (hf 0 v w rfl rfl)).mono ?_;rintro x t' ⟨rfl,rfl⟩;refine (ih b (up2 hl) (λi v w h1 h2=>hf (i + 1) v w h1 h2) he).mono ?_;rintro xs t' ⟨rfl,e⟩;exact ⟨rfl,e⟩
def KW (f:Fn)(n:Nat):Prop:=∀s:Sh,s.depth<=n->wf s=true->∀v,Af s v=true->∃i:Int,∀{S:List Ob} {d:D} {fp:List Nat},Ow S d v fp->PureO S f [d] (.int i)
theorem F9 {p:D->Int->Prop}:∀{vs:List D},(∀v∈vs,∃i,p v i)->∃is:List Int,is.length=vs.length/\∀(k:Nat) (v w:D),vs[k]?=some v->(is.map D.int)[k]?=some w->∃i,w = .int i/\p v i
 | [],_=>⟨[],rfl,λk v w h=>by cases h⟩
 | v :: vs,h=>by
   obtain ⟨i,hi⟩:=h v uf6;obtain ⟨is,hl,q⟩:=F9 λx m=>h x (ud6 _ m);refine ⟨i :: is,by rw [ui9,ui9,hl],λk x w h1 h2=>?_⟩
   cases k with
   | zero=>cases h1;cases h2;exact ⟨i,rfl,hi⟩
   | succ k=>exact q k x w h1 h2
theorem XW (hc:n=0\/KW c n):KW (fnOf 1 1 (Bf c)) (n + 1):=by
 intro s hs hw v hf;have hL:LIM=100000:=rfl;have hc':∀x:Sh,x.depth<=n->KW c n:=λx hx=>hc.resolve_left λz=>by subst z;exact absurd x.depth_pos (by lia)
 have htm:=B4 _ _ (up3 _) hw v hf
 cases s with
 | nothing=>
   rw [B1 hf];refine ⟨1,λ{S d fp} o=>Al rfl ?_⟩;unfold Bf
   cases o
   symm;exact ⟨rfl,rfl⟩
 | number lo hi=>
   obtain ⟨i,rfl,_,_⟩:=Bm hf;refine ⟨1,λ{S d fp} o=>Al rfl ?_⟩;unfold Bf
   cases o
   symm;exact ⟨rfl,rfl⟩
 | text q=>
   obtain ⟨x,rfl,_⟩:=B7 hf;refine ⟨1,λ{S d fp} o=>Al rfl ?_⟩;unfold Bf
   cases o
   symm;exact ⟨rfl,rfl⟩
 | list s q=>
   rw [Sh.depth] at hs;simp only [wf,ui2,uh7] at hw;obtain ⟨vs,rfl,hl,hds⟩:=BN hf;obtain ⟨is,hil,hq⟩:=F9 (λv m=>hc' s (by lia) s (by lia) hw.2 v (hds v m));refine ⟨1 + is.sum,λ{S d fp} o=>Al rfl ?_⟩;unfold Bf
   cases o with
   | @obj k ds _ fp e o nk=>
     symm;refine BO e rfl ?_;symm;refine He ?_;refine D0 ?_;symm;refine Fr e ?_;refine (KZ (fr:=[]) (CY e) (fn:=λv w=>∃i,w = .int i/\∀{S:List Ob} {d:D} {fp:List Nat},Ow S d v fp->PureO S c [d] (.int i)) o (by rw [uk5,hil]) hq ?_).mono ?_
     ·rintro d v w f ow ⟨i,rfl,hv⟩;symm;refine (hv ow).use ?_;exact ⟨rfl,rfl⟩
     ·rintro xs t' ⟨rfl,hS⟩;refine AZ (by rw [uk5,hil,hL];lia) ?_;symm;refine ZH (IU is) ?_;symm;exact ⟨rfl,hS⟩
 | pair a b=>
   rw [Sh.depth] at hs;simp only [wf,ui2] at hw;obtain ⟨x,y,rfl,h1,h2⟩:=B6 hf;obtain ⟨i,hi⟩:=hc' a (by lia) a (by lia) hw.1 x h1;obtain ⟨j,hj⟩:=hc' a (by lia) b (by lia) hw.2 y h2;refine ⟨1 + i + j,λ{S d fp} o=>Al rfl ?_⟩;unfold Bf
   cases o with
   | tup o=>
     rcases tm2 htm o with ⟨a,b,x',y',f1,f2,rfl,e,oa,ob,_,_⟩ | ⟨o',k,b,y',f2,rfl,e,ob,_⟩
     ·cases e
      symm;refine (hi oa).use ?_;symm;refine (hj ob).use ?_;symm;exact ⟨rfl,rfl⟩
     ·cases e
 | choice ss=>
   rw [Sh.depth] at hs;simp only [wf,ui2] at hw;obtain ⟨k,x,hk,rfl,h1⟩:=Bl hf;have hd:=un6 (AO (uj0 hk)) (show A7 ss<=n by lia);obtain ⟨i,hi⟩:=hc' _ hd _ hd (A8 hw.2 _ (uj0 hk)) x h1;refine ⟨1 + i,λ{S d fp} o=>Al rfl ?_⟩;unfold Bf
   cases o with
   | tup o=>
     rcases tm2 htm o with ⟨a,b,x',y',f1,f2,rfl,e,oa,ob,_,_⟩ | ⟨o',k,b,y',f2,rfl,e,ob,_⟩
     ·cases e
     ·cases e
      symm;refine (hi ob).use ?_;symm;exact ⟨rfl,rfl⟩
def pkO (x:D)(ds:List D):Option Nat->D->Prop
 | none,r=>r=x
 | some i,r=>ds[i]?=some r
def Wu:Option Nat->Nat
 | some k=>k + 1
 | none=>0
theorem LH {g:Fn}:∀(is:List Int) (m:Int),∃o:Option Nat,(∀i,o=some i->i < is.length)/\∀{S:List Ob} {ds:List D} {x:D} {env:List (Option Sl)} {P:D->T->Prop},ds.length=is.length->(∀(k:Nat) (d:D) (i:Int),ds[k]?=some d->is[k]?=some i->PureO S g [d] (.int i))->(∀r,pkO x ds o r->P r ⟨env,S⟩)->W (Ho g ds (x,m)) ⟨env,S⟩ P
 | [],m=>⟨none,(λ_ h=>nomatch h),λ{S ds x env P} hl _ h=>by
    have:ds=[]:=ub5.mp hl;subst this;exact ⟨_,_,rfl,h x rfl⟩⟩
 | i :: is,m=>by
   obtain ⟨o,h1,h2⟩:=LH (g:=g) is (if i < m then i else m);refine ⟨match o with | some k=>some (k + 1) | none=>if i < m then some 0 else none,λj hj=>?_,λ{S ds x env P} hl hk hp=>?_⟩
   ·cases o with
    | some k=>cases hj;exact uj6 (h1 k rfl)
    | none=>
      dsimp only at hj
      split at hj
      ·cases hj;exact uj5 _
      ·cases hj
   ·cases ds with
    | nil=>cases hl
    | cons d ds=>
      obtain ⟨v,S',e,e1,e2⟩:=hk 0 d i rfl rfl;rw [e1,e2] at e;have w:=h2 (S:=S) (ds:=ds) (x:=if i < m then d else x) (env:=env) (P:=P) (up2 hl) (λk d i q1 q2=>hk (k + 1) d i q1 q2) (λr hr=>hp r (by
       cases o with
       | some k=>exact hr
       | none=>
         have hr:r=if i < m then d else x:=hr
         by_cases z:i < m
         ·rw [if_pos z] at hr;show pkO x (d :: ds) (if i < m then some 0 else none) r;rw [if_pos z,hr];rfl
         ·rw [if_neg z] at hr;show pkO x (d :: ds) (if i < m then some 0 else none) r;rw [if_neg z];exact hr))
      obtain ⟨r',t',e',q⟩:=w;refine ⟨r',t',?_,q⟩;unfold Ho;simp only [e];rw [show (if i < m then (d,i) else (x,m))=((if i < m then d else x),(if i < m then i else m)) by split <;> rfl];exact e'
def SmO (f:Fn)(n:Nat):Prop:=∀s:Sh,s.depth<=n->wf s=true->∀vs,vs≠[]->(∀v∈vs,Af s v=true)->∃j,j < vs.length/\∀{S:List Ob} {ds:List D} {fp:List Nat},Ows S ds vs fp->Wf f [.lst ds] S λr S'=>S'=S/\ds[j]?=some r
theorem Ows.get {S:List Ob}{ds vs:List D}{fp:List Nat}(o:Ows S ds vs fp){k:Nat}{d:D}(h:ds[k]?=some d):∃v f,vs[k]?=some v/\Ow S d v f:=by
 have h1:=(ua8.mp h).1;rw [o.length] at h1;obtain ⟨f,q⟩:=o.at k d _ h (ub2 h1);exact ⟨_,f,ub2 h1,q⟩
theorem YW (hc:KW c n):SmO (fnOf 1 1 (Gn c)) n:=by
 intro s hs hw vs hne hf;obtain ⟨is,hil,hq⟩:=F9 (λv m=>hc s hs hw v (hf v m));have hq':∀(k:Nat) (v:D) (i:Int),vs[k]?=some v->is[k]?=some i->∀{S:List Ob} {d:D} {fp:List Nat},Ow S d v fp->PureO S c [d] (.int i):=λk v i h1 h2=>by
  obtain ⟨j,e,h⟩:=hq k v (.int i) h1 (by rw [ug8,h2];rfl)
  cases e
  exact h
 cases is with
 | nil=>exact absurd (ub5.mp hil.symm) hne
 | cons i is=>
   obtain ⟨o,h1,h2⟩:=LH (g:=c) is i;refine ⟨Wu o,?_,λ{S ds fp} oo=>Al rfl ?_⟩
   ·cases o with
    | some k=>rw [<-hil];exact uj6 (h1 k rfl)
    | none=>rw [<-hil];exact uj5 _
   ·have hol:=oo.length;unfold Gn;symm;refine Hd ?_;symm
    cases ds with
    | nil=>exact absurd (ub5.mp hol.symm) hne
    | cons d ds=>
      have hk:∀(k:Nat) (x:D) (j:Int),(d :: ds)[k]?=some x->(i :: is)[k]?=some j->PureO S c [x] (.int j):=λk x j q1 q2=>by
       obtain ⟨v,f,e,ow⟩:=oo.get q1;exact hq' k v j e q2 ow
      obtain ⟨v,S',e,e1,e2⟩:=hk 0 d i rfl rfl;rw [e1,e2] at e;have w:=h2 (S:=S) (ds:=ds) (x:=d) (env:=[some (.val (.lst (d :: ds)))]) (P:=λr t=>t=⟨[some (.val (.lst (d :: ds)))],S⟩/\(d :: ds)[Wu o]?=some r) (by rw [ui9] at hol hil;lia) (λk x j q1 q2=>hk (k + 1) x j q1 q2) (λr hr=>⟨rfl,by
       cases o with
       | some k=>exact hr
       | none=>rw [hr];rfl⟩)
      obtain ⟨r',t',e',rfl,q⟩:=w;refine ⟨r',⟨[some (.val (.lst (d :: ds)))],S⟩,?_,?_⟩
      ·show I9 c (.lst (d :: ds)) _=_;unfold I9;simp only [e];exact e'
      ·exact ⟨rfl,q⟩
def RetO (S S':List Ob)(x v:D):Prop:=Gw S S'/\∃fp,Ow S' x v fp/\∀k∈fp,S.length<=k
def RetsO (S S':List Ob)(ds vs:List D):Prop:=Gw S S'/\∃fp,Ows S' ds vs fp/\∀k∈fp,S.length<=k
theorem RetO.leaf (h:Ow S x x []):RetO S S x x:=⟨.refl,[],h,λ_ z=>nomatch z⟩
theorem RetsO.nil {S:List Ob}:RetsO S S [] []:=⟨.refl,[],.nil,λ_ z=>nomatch z⟩
theorem RetsO.cons {S S1 S2:List Ob}{d v:D}{ds vs:List D}(a:RetO S S1 d v)(b:RetsO S1 S2 ds vs):RetsO S S2 (d :: ds) (v :: vs):=by
 obtain ⟨g1,f1,o1,h1⟩:=a;obtain ⟨g2,f2,o2,h2⟩:=b;refine ⟨g1.trans g2,f1++f2,.cons (o1.gr g2) o2 λk hk z=>?_,λk hk=>?_⟩
 ·have:=o1.lt k hk;have:=h2 k z;lia
 ·rcases uj9.mp hk with z | z
  ·exact h1 k z
  ·exact un6 g1.1 (h2 k z)
theorem RetsO.tup {S S':List Ob}{ds vs:List D}(h:RetsO S S' ds vs):RetO S S' (.tup ds) (.tup vs):=by
 obtain ⟨g,f,o,q⟩:=h;exact ⟨g,f,.tup o,q⟩
theorem RetsO.obj {S S':List Ob}{ds vs:List D}(h:RetsO S S' ds vs):RetO S (S'++[.lst ds]) (.obj S'.length) (.lst vs):=by
 obtain ⟨g,f,o,q⟩:=h;refine ⟨g.trans .app,S'.length :: f,.obj Os (o.gr .app) (λz=>um4 _ (o.lt _ z)),λk hk=>?_⟩;rcases um5.mp hk with z | z
 ·rw [z];exact g.1
 ·exact q k z
theorem RetsO.app {S1 S2:List Ob}{es us:List D}(a:RetsO S S1 ds vs)(b:RetsO S1 S2 es us):RetsO S S2 (ds++es) (vs++us):=by
 obtain ⟨g1,f1,o1,h1⟩:=a;obtain ⟨g2,f2,o2,h2⟩:=b;have key:∀{ds vs:List D} {f1:List Nat},Ows S2 ds vs f1->(∀k∈f1,k∉f2)->Ows S2 (ds++es) (vs++us) (f1++f2):=by
  intro ds
  induction ds with
  | nil=>intro vs f1 o _;cases o;exact o2
  | cons d ds ih=>
    intro vs f1 o hn
    cases o with
    | cons a b n=>
      rw [uh0];exact .cons a (ih b λk hk=>hn k (uc8 _ hk)) λk hk z=>(uj9.mp z).elim (n k hk) (hn k (ud7 _ hk))
 refine ⟨g1.trans g2,f1++f2,key (o1.gr g2) (λk hk z=>?_),λk hk=>?_⟩
 ·have:=o1.lt k hk;have:=h2 k z;lia
 ·rcases uj9.mp hk with z | z
  ·exact h1 k z
  ·exact un6 g1.1 (h2 k z)
theorem F1 {fr:List (Option Sl)}{elt:M D}{p:D->D->Prop}:∀{ds:List D},(∀d∈ds,∃v,p d v/\∀S,W elt ⟨some (.val d) :: fr,S⟩ λx t'=>∃S',t'=⟨some (.val d) :: fr,S'⟩/\RetO S S' x v)->∃vs:List D,vs.length=ds.length/\(∀(i:Nat) (d v:D),ds[i]?=some d->vs[i]?=some v->p d v)/\∀S z,W (A9 (Ao 0) Bt elt ds) ⟨z :: fr,S⟩ λxs t'=>RetsO S t'.S xs vs
 | [],_=>⟨[],rfl,(λi d v h=>by cases h),λS z=>⟨_,_,rfl,RetsO.nil⟩⟩
 | d :: ds,h=>by
   obtain ⟨v,hp,hv⟩:=h d uf6;obtain ⟨vs,hl,hq,hw⟩:=F1 λx m=>h x (ud6 _ m);refine ⟨v :: vs,by rw [ui9,ui9,hl],λi x u h1 h2=>?_,λS z=>?_⟩
   ·cases i with
    | zero=>cases h1;cases h2;exact hp
    | succ i=>exact hq i x u h1 h2
   ·refine W_compL_cons.mpr ?_;refine FD (Iy ?_);rw [if_pos rfl];refine (hv S).mono ?_;rintro x t' ⟨S',rfl,r1⟩;exact (hw S' _).mono λxs t2 r2=>RetsO.cons r1 r2
theorem F3 {h:D->D}:∀{ds us:List D} {S:List Ob} {fp:List Nat} {z:Option Sl},(∀S d u f,Ow S d u f->u∈us->W elt ⟨some (.val d) :: fr,S⟩ λx t'=>∃S' f',t'=⟨some (.val d) :: fr,S'⟩/\Gw S S'/\Ow S' x (h u) f'/\∀k∈f',k∈f\/S.length<=k)->Ows S ds us fp->W (A9 (Ao 0) Bt elt ds) ⟨z :: fr,S⟩ λxs t'=>∃f',Gw S t'.S/\Ows t'.S xs (us.map h) f'/\∀k∈f',k∈fp\/S.length<=k:=by
 intro ds
 induction ds with
 | nil=>
   intro us S fp z _ o
   cases o
   exact ⟨_,_,rfl,[],.refl,.nil,λ_ z=>nomatch z⟩
 | cons d ds ih=>
   intro us S fp z he o
   cases o with
   | @cons _ u f1 f2 _ us a b n=>
     refine W_compL_cons.mpr ?_;refine FD (Iy ?_);rw [if_pos rfl];refine (he S d u f1 a uf6).mono ?_;rintro x t' ⟨S1,f1',rfl,g1,o1,q1⟩;refine (ih (λS d u f o m=>he S d u f o (ud6 _ m)) (b.gr g1)).mono ?_;rintro xs t2 ⟨f2',g2,o2,q2⟩;refine ⟨f1'++f2',g1.trans g2,.cons (o1.gr g2) o2 λk hk hz=>?_,λk hk=>?_⟩
     ·have l1:=o1.lt k hk;rcases q2 k hz with z2 | z2
      ·have l2:=b.lt k z2;rcases q1 k hk with z1 | z1
       ·exact n k z1 z2
       ·lia
      ·lia
     ·rcases uj9.mp hk with hz | hz
      ·rcases q1 k hz with z1 | z1
       ·exact .inl (ud7 _ z1)
       ·exact .inr z1
      ·rcases q2 k hz with z1 | z1
       ·exact .inl (uc8 _ z1)
       ·exact .inr (un6 g1.1 z1)
theorem Qd {q:D->Bool}:∀{ds us:List D} {fp:List Nat} {z:Option Sl},(∀d u f,Ow S d u f->u∈us->W tst ⟨some (.val d) :: fr,S⟩ λb t'=>b=q u/\t'=⟨some (.val d) :: fr,S⟩)->Ows S ds us fp->W (A9 (Ao 0) tst (Ab 0) ds) ⟨z :: fr,S⟩ λxs t'=>t'.S=S/\∃f',Ows S xs (us.filter q) f'/\∀k∈f',k∈fp:=by
 intro ds
 induction ds with
 | nil=>
   intro us fp z _ o
   cases o
   exact ⟨_,_,rfl,rfl,[],.nil,λ_ z=>nomatch z⟩
 | cons d ds ih=>
   intro us fp z he o
   cases o with
   | @cons _ u f1 f2 _ us a b n=>
     refine W_compL_cons.mpr ?_;refine FD ?_;refine (he d u f1 a uf6).mono ?_;rintro bb t' ⟨rfl,rfl⟩
     by_cases hq:q u=true
     ·rw [if_pos hq,List.filter_cons_of_pos hq];refine DE rfl ?_;refine (ih (λd u f o m=>he d u f o (ud6 _ m)) b).mono ?_;rintro xs t2 ⟨e,f2',o2,q2⟩;refine ⟨e,f1++f2',.cons a o2 (λk hk hz=>n k hk (q2 k hz)),λk hk=>?_⟩;rcases uj9.mp hk with hz | hz
      ·exact ud7 _ hz
      ·exact uc8 _ (q2 k hz)
     ·rw [if_neg hq,List.filter_cons_of_neg hq];refine (ih (λd u f o m=>he d u f o (ud6 _ m)) b).mono ?_;rintro xs t2 ⟨e,f2',o2,q2⟩;exact ⟨e,f2',o2,λk hk=>uc8 _ (q2 k hk)⟩
def Ev (f:Fn)(n:Nat):Prop:=∀s:Sh,s.depth<=n->wf s=true->∃v,(Af s v=true/\vb v<=lb s)/\∀S,Wf f [s.d] S λr S'=>RetO S S' r v
theorem Ows.pick (o:Ows S ds vs fp){k:Nat}{d:D}(h:ds[k]?=some d):∃v f,vs[k]?=some v/\Ow S d v f/\∀i∈f,i∈fp:=by
 induction ds generalizing vs fp k with
 | nil=>cases h
 | cons x ds ih=>
   cases o with
   | @cons _ u f1 f2 _ us a b n=>
     cases k with
     | zero=>cases h;exact ⟨u,f1,rfl,a,λi hi=>ud7 _ hi⟩
     | succ k=>
       obtain ⟨v,f,e,q,z⟩:=ih b h;exact ⟨v,f,e,q,λi hi=>uc8 _ (z i hi)⟩
variable {cs:Fn}
theorem Tx (hc:n=0\/Ev c n)(hs:SmO cs (n + 1)):Ev (fnOf 1 2 (A0 c cs)) (n + 1):=by
 intro s hd hw;have hL:LIM=100000:=rfl;have hc':∀x:Sh,x.depth<=n->Ev c n:=λx hx=>hc.resolve_left λz=>by subst z;exact absurd x.depth_pos (by lia)
 cases s with
 | nothing=>
   refine ⟨.non,⟨by rw [Af];rfl,by simp [vb]⟩,λS=>Al rfl ?_⟩;unfold A0;rw [Sh.d];symm;exact RetO.leaf .non
 | number lo hi=>
   have:=(G7 hw).1;refine ⟨.int lo,⟨by rw [Af];simp;lia,by rw [vb,lb];exact up3 _⟩,λS=>Al rfl ?_⟩;unfold A0;rw [Sh.d];symm;exact RetO.leaf (.int _)
 | text q=>
   simp only [wf,ui2,uh7] at hw;refine ⟨.str (Str.ofString ""),⟨?_,?_⟩,λS=>Al rfl ?_⟩
   ·rw [Af,show (Str.ofString "").length=0 from by decide +kernel,show (Str.ofString "").cps.toList=[] from by decide +kernel];simp;lia
   ·rw [vb,lb,show (Str.ofString "").length=0 from by decide +kernel];lia
   ·unfold A0;rw [Sh.d];symm;exact RetO.leaf (.str _)
 | list s q=>
   simp only [wf,ui2,uh7] at hw;refine ⟨.lst [],⟨by rw [Af];simp;lia,by rw [vb,lb,vbs];lia⟩,λS=>Al rfl ?_⟩;unfold A0;rw [Sh.d];symm;exact RetsO.obj .nil
 | pair a b=>
   rw [Sh.depth] at hd;simp only [wf,ui2] at hw;obtain ⟨x,⟨h1,h2⟩,hx⟩:=hc' a (by lia) a (by lia) hw.1;obtain ⟨y,⟨h3,h4⟩,hy⟩:=hc' a (by lia) b (by lia) hw.2;refine ⟨.tup [x,y],⟨by rw [Af,h1,h3];rfl,by rw [vb,vbs,vbs,vbs,lb];lia⟩,λS=>Al rfl ?_⟩;unfold A0;rw [Sh.d];symm;refine (hx S).mono λd1 S1 r1=>?_;symm;refine (hy S1).mono λd2 S2 r2=>?_;symm;exact (RetsO.cons r1 (RetsO.cons r2 .nil)).tup
 | choice ss=>
   have hw0:=hw;have hd0:=hd;rw [Sh.depth] at hd;simp only [wf,ui2,uh7] at hw;obtain ⟨vs,hl,hp,hv⟩:=F1 (fr:=[some (.val (Sh.choice ss).d)]) (elt:=(Av (Aa (fC (.str "of")) (Aa (Ab 0) (Aa (Ae c (Aa (Ac (Ac (Ab 1) (fC (.int 1)) ixD) (Ab 0) ixD) Ad)) Ad))))) (p:=λ_ x=>Af (.choice ss) x=true/\vb x<=lb (.choice ss)) (ds:=Bs 0 ss.length) (λd m=>by
    rw [Hu] at m;obtain ⟨k,hk,rfl⟩:=uo5.mp m;have hk:=ul7.mp hk;have hd2:=un6 (AO (uj0 hk)) (show A7 ss<=n by lia);obtain ⟨x,⟨h1,h2⟩,hx⟩:=hc' _ hd2 _ hd2 (A8 hw.2 _ (uj0 hk));rw [uo7];refine ⟨.tup [.str "of",.int (k:Nat),x],⟨IR hk h1,by rw [N8,lb];have:=MO (uj0 hk);lia⟩,λS=>?_⟩;rw [Sh.d];symm;refine DC (Es hk) ?_;symm;refine (hx S).mono λd1 S1 r1=>?_;symm;exact ⟨S1,rfl,(RetsO.cons (RetO.leaf (.str _)) (RetsO.cons (RetO.leaf (.int _)) (RetsO.cons r1 .nil))).tup⟩)
   rw [AW] at hl;have hall:∀v∈vs,Af (.choice ss) v=true/\vb v<=lb (.choice ss):=λv m=>by
    obtain ⟨i,hi⟩:=ud3.mp m;have hi1:=(ua8.mp hi).1;exact hp i _ v (ub2 (by rw [AW];lia)) hi
   obtain ⟨j,hj,hsm⟩:=hs _ hd0 hw0 vs (λz=>by rw [z] at hl;have:(0:Nat)=ss.length:=hl;lia) (λv m=>(hall v m).1);refine ⟨vs[j],hall _ (uj0 hj),λS=>Al rfl ?_⟩;unfold A0;rw [Sh.d] at hv ⊢;symm;rw [AJ];refine El (Cb (by lia) (by lia)) ?_;rw [uh4];refine (hv S _).mono λxs t' z9=>?_;obtain ⟨g,f,o,q⟩:=z9;have hol:=o.length;refine AZ (by rw [hL,hol,hl];lia) ?_;symm;refine (hsm o).mono λr S2 z9=>?_;obtain ⟨e,hr⟩:=z9;subst e;symm;obtain ⟨u,f',e1,o1,q1⟩:=o.pick hr;rw [ub2 hj] at e1
   cases e1
   exact ⟨g,f',o1,λk hk=>q k (q1 k hk)⟩
def Jp (A:Nat)(s r:Sh)(vs:List D):Prop:=vs.length<=2 * cnt s/\(∀v∈vs,Af s v=true/\vb v<=A * cnt s + 252)/\Tp s r vs
def FF (A:Nat)(f:Fn)(n:Nat):Prop:=∀s r:Sh,s.depth<=n->wf s=true->wf r=true->cnt s<=100->12 * (mst r + 2)<=A->∃vs,Jp A s r vs/\∀S,Wf f [s.d,r.d] S λx S'=>∃ds,x = .lst ds/\RetsO S S' ds vs
theorem QL {A:Nat}(h:12 * (m + 2)<=A)(s:Sh):lb s<=A * cnt s:=un6 (FR s) (ue3 _ (by lia))
theorem RetsO.up {S1 S2:List Ob}{f1 f2:List Nat}(g1:Gw S S1)(q1:∀k∈f1,S.length<=k)(g2:Gw S1 S2)(o2:Ows S2 ds vs f2)(q2:∀k∈f2,k∈f1\/S1.length<=k):RetsO S S2 ds vs:=
 ⟨g1.trans g2,f2,o2,λk hk=>(q2 k hk).elim (q1 k) (un6 g1.1)⟩
def LTO (A:Nat)(f:Fn)(n:Nat):Prop:=∀(s r:Sh) (q q':Int),s.depth<=n->wf (.list s q)=true->wf (.list r q')=true->cnt (.list s q)<=100->12 * (mst (.list r q') + 2)<=A->An (.list s q) (.list r q')=false->∃vs,Jp A (.list s q) (.list r q') vs/\∀S,Wf f [(Sh.list s q).d,(Sh.list r q').d] S λx S'=>∃ds,x = .lst ds/\RetsO S S' ds vs
theorem YT {A:Nat}(hl:Ev cl n)(ht:FF A ct n):LTO A (fnOf 2 3 (CS cl ct)) n:=by
 intro s r q q' hd hw hw' hc hm hn;have hL:LIM=100000:=rfl;simp only [wf,ui2,uh7] at hw hw';rw [cnt] at hc;rw [mst] at hm;have hq:1<=q:=by
  refine Classical.byContradiction λz=>?_;have:q=0:=by lia
  rw [An,this,ud2] at hn;simp at hn;lia
 obtain ⟨us,⟨h1,h2,h3⟩,hu⟩:=ht s r hd hw.2 hw'.2 (by lia) (by lia);have hA:A * cnt (.list s q)=A * cnt s + A:=by rw [cnt,up6,Nat.mul_one]
 have hf1:∀v∈us.map (λv=>D.lst [v]),Af (.list s q) v=true/\vb v<=A * cnt (.list s q) + 252:=λv mv=>by
  obtain ⟨u,mu,rfl⟩:=uo5.mp mv;have:=h2 u mu;refine ⟨by rw [Af];simp [this.1];lia,by rw [vb,vbs,vbs,hA];lia⟩
 have first:∀{S S1:List Ob} {ds:List D} {f1:List Nat} {z:Option Sl},Gw S S1->Ows S1 ds us f1->(∀k∈f1,S.length<=k)->W (A9 (Ao 0) Bt (D5 (AI (Aa (Ab 0) Ad))) ds) ⟨[z],S1⟩ λxs t'=>RetsO S t'.S xs (us.map λv=>.lst [v]):=by
  intro S S1 ds f1 z g1 o1 q1;refine (F3 (fr:=[]) (h:=λv=>.lst [v]) (λS d u f o m=>?_) o1).mono ?_
  ·symm;refine ⟨_,S.length :: (f++[]),rfl,.app,.obj Os (.cons (o.gr .app) .nil (λ_ _ z=>nomatch z)) (λz=>?_),λk hk=>?_⟩
   ·rw [uk2] at z;exact um4 _ (o.lt _ z)
   ·rw [uk2] at hk;rcases um5.mp hk with z | z
    ·exact .inr (by rw [z];exact up3 _)
    ·exact .inl z
  ·rintro xs t' ⟨f2,g2,o2,q2⟩;exact RetsO.up g1 q1 g2 o2 q2
 by_cases hqq:q' < q
 ·obtain ⟨y,⟨y1,y2⟩,hy⟩:=hl s hd hw.2;obtain ⟨m,hm1⟩:∃m:Nat,q' + 1=(m:Int):=⟨(q' + 1).toNat,by lia⟩;obtain ⟨ws,hwl,hwp,hww⟩:=F1 (fr:=[some (.val (Sh.list s q).d)]) (elt:=(Ae cl (Aa (Ac (Ab 1) (fC (.int 1)) ixD) Ad))) (p:=λ_ v=>v=y) (ds:=Bs 0 m) (λd md=>⟨y,rfl,λS=>by
   rw [Sh.d];symm;refine (hy S).mono λx S1 r1=>?_;exact ⟨S1,rfl,r1⟩⟩)
  rw [AW] at hwl;have hall:∀w∈ws,w=y:=λw mw=>by
   obtain ⟨i,hi⟩:=ud3.mp mw;have hi1:=(ua8.mp hi).1;exact hwp i _ w (ub2 (by rw [AW];lia)) hi
  refine ⟨us.map (λv=>.lst [v])++[.lst ws],⟨?_,?_,RD (by lia) (by rw [hwl];lia)⟩,λS=>Al rfl ?_⟩
  ·rw [ug0,uk5,ud1,cnt];lia
  ·intro v mv;rcases uj9.mp mv with mv | mv
   ·exact hf1 v mv
   ·rw [ug2.mp mv];refine ⟨?_,?_⟩
    ·rw [Af,ui2,uh7,ui7];exact ⟨by lia,λd md=>by rw [hall d md];exact y1⟩
    ·rw [vb,hA];have e1:=Nd (m:=lb s) λd md=>by rw [hall d md];exact y2
     have e2:ws.length * lb s<=A * cnt s:=by
      refine un6 (uf3 _ (FR s)) ?_;rw [<-Nat.mul_assoc];exact ue3 _ (by lia)
     lia
  ·unfold CS;rw [Sh.d,Sh.d] at *;symm;refine (hu S).mono ?_;rintro x S1 ⟨ds,rfl,g1,f1,o1,q1⟩;symm;refine (first g1 o1 q1).mono λxs t' r1=>?_;have hxl:xs.length=us.length:=by
    obtain ⟨_,_,o,_⟩:=r1;rw [o.length,uk5]
   refine AZ (by rw [hxl,hL];lia) ?_;symm;refine Ig (by simpa using hqq) ?_;symm;rw [hm1];refine El (Cb (by lia) (by lia)) ?_;rw [uh4];refine (hww _ _).mono λys t2 r2=>?_;have hyl:ys.length=m:=by
    obtain ⟨_,_,o,_⟩:=r2;rw [o.length,hwl]
   refine AZ (by rw [hyl,hL];lia) ?_;symm;refine AZ (by rw [hxl,hL];lia) ?_;symm;exact ⟨_,rfl,r1.app (RetsO.cons r2.obj .nil)⟩
 ·refine ⟨us.map (λv=>.lst [v]),⟨by rw [uk5,cnt];lia,hf1,UG h3 hq (by lia)⟩,λS=>Al rfl ?_⟩;unfold CS;rw [Sh.d,Sh.d];symm;refine (hu S).mono ?_;rintro x S1 ⟨ds,rfl,g1,f1,o1,q1⟩;symm;refine (first g1 o1 q1).mono λxs t' r1=>?_;have hxl:xs.length=us.length:=by
   obtain ⟨_,_,o,_⟩:=r1;rw [o.length,uk5]
  refine AZ (by rw [hxl,hL];lia) ?_;symm;refine NF (by simpa using hqq) ?_;symm;exact ⟨_,rfl,r1⟩
def PTO (A:Nat)(f:Fn)(n:Nat):Prop:=∀(a b a' b':Sh),a.depth<=n->b.depth<=n->wf (.pair a b)=true->wf (.pair a' b')=true->cnt (.pair a b)<=100->12 * (mst (.pair a' b') + 2)<=A->∃vs,Jp A (.pair a b) (.pair a' b') vs/\∀S,Wf f [(Sh.pair a b).d,(Sh.pair a' b').d] S λx S'=>∃ds,x = .lst ds/\RetsO S S' ds vs
theorem YV {A:Nat}(hl:Ev cl n)(ht:FF A ct n):PTO A (fnOf 2 3 (E7 ct cl)) n:=by
 intro a b a' b' hd hd2 hw hw' hc hm;have hL:LIM=100000:=rfl;simp only [wf,ui2] at hw hw';rw [cnt] at hc;rw [mst] at hm;obtain ⟨y,⟨y1,y2⟩,hy⟩:=hl b hd2 hw.2;obtain ⟨x,⟨x1,x2⟩,hx⟩:=hl a hd hw.1;obtain ⟨va,⟨h1,h2,h3⟩,hva⟩:=ht a a' hd hw.1 hw'.1 (by lia) (by lia);obtain ⟨vc,⟨h4,h5,h6⟩,hvc⟩:=ht b b' hd2 hw.2 hw'.2 (by lia) (by lia);have hA:A * cnt (.pair a b)=A * cnt a + A * cnt b + A:=by rw [cnt,up6,up6,Nat.mul_one]
 refine ⟨va.map (λv=>.tup [v,y])++vc.map λv=>.tup [x,v],⟨?_,?_,UH h3 h6 x1 y1 (λv m=>(h2 v m).1) (λv m=>(h5 v m).1)⟩,λS=>Al rfl ?_⟩
 ·rw [ug0,uk5,uk5,cnt];lia
 ·have l1:=QL (m:=mst (.pair a' b')) (by rw [mst];exact hm) a;have l2:=QL (m:=mst (.pair a' b')) (by rw [mst];exact hm) b;intro v mv;rcases uj9.mp mv with mv | mv
  ·obtain ⟨u,mu,rfl⟩:=uo5.mp mv;have:=h2 u mu;exact ⟨by rw [Af,this.1,y1];rfl,by rw [vb,vbs,vbs,vbs,hA];lia⟩
  ·obtain ⟨u,mu,rfl⟩:=uo5.mp mv;have:=h5 u mu;exact ⟨by rw [Af,this.1,x1];rfl,by rw [vb,vbs,vbs,vbs,hA];lia⟩
 ·unfold E7;rw [Sh.d,Sh.d];symm;refine (hva S).mono ?_;rintro z S1 ⟨ds,rfl,g1,f1,o1,q1⟩;symm;refine (F3 (h:=λv=>.tup [v,y]) (λS d u f o m=>?_) o1).mono ?_
  ·symm;refine (hy S).mono ?_;rintro d2 S2 ⟨g,f',o',q'⟩;symm;refine ⟨_,f++(f'++[]),rfl,g,.tup (.cons (o.gr g) (.cons o' .nil (λ_ _ z=>nomatch z)) λk hk z=>?_),λk hk=>?_⟩
   ·rw [uk2] at z;have:=o.lt k hk;have:=q' k z;lia
   ·rw [uk2] at hk;exact (uj9.mp hk).imp id (q' k)
  ·rintro xs t' ⟨f2,g2,o2,q2⟩;have r1:=RetsO.up g1 q1 g2 o2 q2;have hxl:=o2.length;rw [uk5] at hxl;refine AZ (by rw [hxl,hL];lia) ?_;symm;refine (hvc _).mono ?_;rintro z S3 ⟨es,rfl,g3,f3,o3,q3⟩;symm;refine (F3 (h:=λv=>.tup [x,v]) (λS d u f o m=>?_) o3).mono ?_
   ·symm;refine (hx S).mono ?_;rintro d2 S2 ⟨g,f',o',q'⟩;symm;refine ⟨_,f'++(f++[]),rfl,g,.tup (.cons o' (.cons (o.gr g) .nil (λ_ _ z=>nomatch z)) λk hk z=>?_),λk hk=>?_⟩
    ·rw [uk2] at z;have:=o.lt k z;have:=q' k hk;lia
    ·rw [uk2] at hk;exact (uj9.mp hk).elim (λz=>.inr (q' k z)) .inl
   ·rintro ys t2 ⟨f4,g4,o4,q4⟩;have r2:=RetsO.up g3 q3 g4 o4 q4;have hyl:=o4.length;rw [uk5] at hyl;refine AZ (by rw [hyl,hL];lia) ?_;symm;refine RP rfl (by rw [hxl,hyl,hL];lia) ?_;symm;exact ⟨_,rfl,r1.app r2⟩
def ofD (k:Nat)(v:D):D:=.tup [.str ("of" : Str),.int (k:Nat),v]
def ofs (ws:Nat->List D):Nat->List D
 | 0=>[]
 | j + 1=>ofs ws j++(ws j).map (ofD j)
theorem mem_ofs {ws:Nat->List D}:∀{j:Nat} {v:D},v∈ofs ws j↔∃k,k < j/\∃w∈ws k,v=ofD k w
 | 0,v=>⟨(λh=>by cases h),(λ⟨k,h,_⟩=>absurd h (ul2 _))⟩
 | j + 1,v=>by
   rw [ofs,uj9,mem_ofs,uo5];constructor
   ·rintro (⟨k,hk,w,m,e⟩ | ⟨w,m,e⟩)
    ·exact ⟨k,uh2 hk,w,m,e⟩
    ·exact ⟨j,ui4 _,w,m,e.symm⟩
   ·rintro ⟨k,hk,w,m,e⟩
    by_cases z:k=j
    ·subst z;exact .inr ⟨w,m,e.symm⟩
    ·exact .inl ⟨k,by lia,w,m,e⟩
theorem MU {ws:Nat->List D}{ss:List Sh}:∀{j:Nat},j<=ss.length->(∀k (h:k < ss.length),k < j->(ws k).length<=2 * cnt ss[k])->(ofs ws j).length<=2 * AT (ss.take j)
 | 0,_,_=>by rw [ofs];exact up5 _
 | j + 1,hj,h=>by
   rw [ofs,ug0,uk5,List.take_succ_eq_append_getElem (by lia),BI,AT,AT,Nat.add_zero];have:=MU (ss:=ss) (j:=j) (by lia) λk h1 h2=>h k h1 (by lia);have:=h j (by lia) (ui4 _);lia
def CTO (A:Nat)(f:Fn)(n:Nat):Prop:=∀(ss rs:List Sh),(∀x∈ss,x.depth<=n)->wf (.choice ss)=true->wf (.choice rs)=true->cnt (.choice ss)<=100->12 * (mst (.choice rs) + 2)<=A->∃vs,Jp A (.choice ss) (.choice rs) vs/\∀S,Wf f [(Sh.choice ss).d,(Sh.choice rs).d] S λx S'=>∃ds,x = .lst ds/\RetsO S S' ds vs
theorem YF {A:Nat}(hl:Ev cl n)(ht:FF A ct n):CTO A (fnOf 2 4 (D9 ct cl)) n:=by
 intro ss rs hd hw hw' hc hm;have hL:LIM=100000:=rfl;simp only [wf,ui2,uh7] at hw hw';rw [cnt] at hc;rw [mst] at hm;have hA:A * cnt (.choice ss)=A * AT ss + A:=by rw [cnt,up6,Nat.mul_one]
 have hA12:12<=A:=by lia
 have hAm:∀{s:Sh},s∈ss->A * cnt s<=A * AT ss:=λm=>uf3 _ (H9 m);obtain ⟨xs,hxl,hxp,hxw⟩:=F1 (fr:=[some (.val (Sh.choice ss).d)]) (elt:=(Av (Aa (fC (.str "of")) (Aa (Ab 0) (Aa (Ae cl (Aa (Ac (Ac (Ab 1) (fC (.int 1)) ixD) (Ab 0) ixD) Ad)) Ad))))) (p:=λ_ x=>(Af (.choice ss) x=true/\vb x<=A * cnt (.choice ss) + 252)/\Af (.choice rs) x=false) (ds:=Bs (rs.length:Nat) (ss.length - rs.length)) (λd m=>by
  rw [Hu] at m;obtain ⟨i,hi,rfl⟩:=uo5.mp m;have hi:=ul7.mp hi;obtain ⟨k,hk⟩:∃k:Nat,(rs.length:Int) + (i:Int)=(k:Int):=⟨rs.length + i,by lia⟩;have hk1:k < ss.length:=by lia
  rw [hk];obtain ⟨x,⟨h1,h2⟩,hx⟩:=hl _ (hd _ (uj0 hk1)) (A8 hw.2 _ (uj0 hk1));refine ⟨.tup [.str "of",.int (k:Nat),x],⟨⟨IR hk1 h1,?_⟩,?_⟩,λS=>?_⟩
  ·rw [N8,hA];have e1:=hAm (uj0 hk1);have e2:lb ss[k]<=A * cnt ss[k]:=un6 (FR _) (ue3 _ hA12);lia
  ·rw [Af];have:decide ((k:Int) < rs.length)=false:=ul6 (by lia);rw [this,ul9,ul9,ul8]
  ·rw [Sh.d];symm;refine DC (Es hk1) ?_;symm;refine (hx S).mono λd1 S1 r1=>?_;symm;exact ⟨S1,rfl,(RetsO.cons (RetO.leaf (.str _)) (RetsO.cons (RetO.leaf (.int _)) (RetsO.cons r1 .nil))).tup⟩)
 rw [AW] at hxl;have hxa:∀v∈xs,(Af (.choice ss) v=true/\vb v<=A * cnt (.choice ss) + 252)/\Af (.choice rs) v=false:=λv m=>by
  obtain ⟨i,hi⟩:=ud3.mp m;have hi1:=(ua8.mp hi).1;exact hxp i _ v (ub2 (by rw [AW];lia)) hi
 have hch:∀k:Nat,∃ws:List D,∀(h1:k < ss.length) (h2:k < rs.length),Jp A ss[k] rs[k] ws/\∀S,Wf ct [ss[k].d,rs[k].d] S λx S'=>∃ds,x = .lst ds/\RetsO S S' ds ws:=λk=>by
  by_cases h:k < ss.length/\k < rs.length
  ·have h1:=H9 (uj0 h.1);have h2:=Gq (uj0 h.2);obtain ⟨ws,q⟩:=ht ss[k] rs[k] (hd _ (uj0 h.1)) (A8 hw.2 _ (uj0 h.1)) (A8 hw'.2 _ (uj0 h.2)) (by lia) (by lia);exact ⟨ws,λ_ _=>q⟩
  ·exact ⟨[],λh1 h2=>absurd ⟨h1,h2⟩ h⟩
 obtain ⟨ws,hws⟩:=Classical.axiomOfChoice hch;have hN:(if (rs.length:Int) < (ss.length:Int) then (rs.length:Int) else (ss.length:Int))=((min ss.length rs.length:Nat):Int):=by split <;> lia
 have hlen:∀j,j<=min ss.length rs.length->(xs++ofs ws j).length<=2 * AT ss:=λj hj=>by
  have e1:=MU (ws:=ws) (ss:=ss) (j:=j) (by lia) λk h1 h2=>(hws k h1 (by lia)).1.1;have e2:=BI (ss.take j) (ss.drop j);rw [ud4] at e2;have e3:=Lg (ss.drop j);rw [ui1] at e3;rw [ug0];lia
 refine ⟨xs++ofs ws (min ss.length rs.length),⟨?_,?_,?_⟩,λS=>Al rfl ?_⟩
 ·have:=hlen _ (up3 _);rw [cnt];lia
 ·intro v mv;rcases uj9.mp mv with mv | mv
  ·exact (hxa v mv).1
  ·obtain ⟨k,hk,w,m,rfl⟩:=mem_ofs.mp mv;have hk1:k < ss.length:=by lia
   have q:=(hws k hk1 (by lia)).1.2.1 w m;refine ⟨IR hk1 q.1,?_⟩;show vb (.tup [.str ("of" : Str),.int (k:Nat),w])<=_;rw [N8,hA];have:=hAm (uj0 hk1);lia
 ·by_cases z:ss.length<=rs.length
  ·exact P0 z λk g1 g2=>⟨ws k,(hws k g1 g2).1.2.2,λw m=>uc8 _ (mem_ofs.mpr ⟨k,by lia,w,m,rfl⟩)⟩
  ·cases xs with
   | nil=>exact absurd hxl (by rw [ul5];lia)
   | cons x xs=>exact .inl ⟨x,ud7 _ uf6,(hxa x uf6).2⟩
 ·unfold D9;rw [Sh.d] at hxw;rw [Sh.d,Sh.d];symm;rw [AJ,AJ];refine RV (by rw [Cb (by lia) (by lia),Cb (by lia) (by lia)];rfl) ?_;rw [show ((ss.length:Int) - (rs.length:Int)).toNat=ss.length - rs.length by lia];refine (hxw S _).mono λxd t' r0=>?_;have hxd:xd.length=xs.length:=by
   obtain ⟨_,_,o,_⟩:=r0;exact o.length
  have h0:=hlen 0 (up5 _);rw [ofs,uk2] at h0;refine AZ (by rw [hxd,hL];lia) ?_;symm;rw [AJ,AJ,hN];refine El (Cb (by lia) (by lia)) ?_;rw [uh4];refine Dq (λq t=>∃(j:Nat) (ds:List D) (S':List Ob) (e3:Option Sl),q=(Bs 0 (min ss.length rs.length)).drop j/\j<=min ss.length rs.length/\RetsO S S' ds (xs++ofs ws j)/\t=⟨[some (.val (.tup [.str "choice",.tup (shD ss)])),some (.val (.tup [.str "choice",.tup (shD rs)])),some (.own ds),e3],S'⟩) _ _ ⟨0,xd,_,none,by rw [um1],up5 _,by rw [ofs,uk2];exact r0,rfl⟩ ?_ ?_
  ·rintro d q t ⟨j,ds,S1,e3,hq,hj,r1,rfl⟩ _;obtain ⟨rfl,hq',hjn⟩:=L4 hq;have hj1:j < ss.length:=by lia
   have hj2:j < rs.length:=by lia
   have hdl:ds.length=(xs++ofs ws j).length:=by
    obtain ⟨_,_,o,_⟩:=r1;exact o.length
   have hl1:=hlen j hj;have hl2:=hlen (j + 1) (by lia);rw [ofs,<-uh0,ug0,uk5] at hl2;rw [uo7];symm;refine DC (Es hj1) ?_;symm;refine DC (Es hj2) ?_;symm;refine ((hws j hj1 hj2).2 S1).mono ?_;rintro z S2 ⟨es,rfl,g2,f2,o2,q2⟩;symm;refine (F3 (h:=ofD j) (λS d u f o m=>?_) o2).mono ?_
   ·symm;exact ⟨_,[]++([]++(f++[])),rfl,.refl,.tup (.cons (.str _) (.cons (.int _) (.cons o .nil (λ_ _ z=>nomatch z)) (λ_ z=>nomatch z)) (λ_ z=>nomatch z)),λk hk=>by
     rw [uk7,uk7,uk2] at hk;exact .inl hk⟩
   ·rintro ys t2 ⟨f3,g3,o3,q3⟩;have r2:=RetsO.up g2 q2 g3 o3 q3;have hyl:=o3.length;rw [uk5] at hyl;refine AZ (by rw [hyl,hL];lia) ?_;symm;refine RP rfl (by rw [hyl,hdl,hL];lia) ?_;exact ⟨j + 1,_,_,_,hq',by lia,by rw [ofs,<-uh0];exact r1.app r2,rfl⟩
  ·rintro t ⟨j,ds,S1,e3,hq,hj,r1,rfl⟩;have hj':j=min ss.length rs.length:=by
    have:=congrArg List.length hq;rw [ul5,ui1,AW] at this;lia
   subst hj';symm;exact ⟨ds,rfl,r1⟩
theorem UI {A:Nat}{ce:Fn}(hc:CTO A cc n)(hp:PTO A cp n)(hl:LTO A cl n)(hw:Eo cw (n + 1))(he:Ev ce (n + 1)):FF A (fnOf 2 3 (Dh cc cp cl cw ce)) (n + 1):=by
 intro s r hd hs hr hcn hm;have hL:LIM=100000:=rfl;have hwi:=hw s r hd hs hr
 by_cases hk:Ax s=Ax r
 ·have triv:An s r=true->Jp A s r []:=λh=>⟨up5 _,(λ_ z=>nomatch z),.inr ⟨D1 _ _ _ (up3 _) h,λz=>(by rw [h] at z;cases z)⟩⟩
  by_cases hwt:An s r=true
  ·refine ⟨[],triv hwt,λS=>Al rfl ?_⟩;unfold Dh;rw [hwt] at hwi;obtain ⟨ds,e⟩:=DN s;obtain ⟨es,e'⟩:=DN r;rw [e,e'] at hwi;rw [e,e'];symm;have hks:Hn s=Hn r:=by cases s <;> cases r <;> first | rfl | (simp [Ax] at hk;done)
   refine NF (by rw [hks];simp) ?_;symm;refine hwi.use ?_;symm;exact ⟨_,rfl,.nil⟩
  ·have hwf:An s r=false:=by simpa using hwt
   rw [hwf] at hwi
   cases s with
   | nothing=>
     cases r <;> first | (simp [Ax] at hk;done) | skip
     rw [An] at hwf;cases hwf
   | number l h=>
     cases r <;> first | (simp [Ax] at hk;done) | skip
     rename_i l' h';have hn:=(G7 hs).1;refine ⟨[.int l,.int h],⟨by simp [cnt],?_,P1 hn⟩,λS=>Al rfl ?_⟩
     ·intro v mv;simp only [um5,ui8,or_false] at mv;rcases mv with rfl | rfl
      ·exact ⟨by rw [Af];simp;lia,by rw [vb];lia⟩
      ·exact ⟨by rw [Af];simp;lia,by rw [vb];lia⟩
     ·unfold Dh;rw [Sh.d,Sh.d] at hwi ⊢;symm;refine hwi.use ?_;symm;exact ⟨_,rfl,RetsO.cons (RetO.leaf (.int _)) (RetsO.cons (RetO.leaf (.int _)) .nil)⟩
   | text q=>
     cases r <;> first | (simp [Ax] at hk;done) | skip
     rename_i q';simp only [wf,ui2,uh7] at hs hr;rw [An,decide_eq_false_iff_not] at hwf;obtain ⟨m,hm1⟩:∃m:Nat,q' + 1=(m:Int):=⟨(q' + 1).toNat,by lia⟩;have hlen:(Txt.mul (Str.ofString "a") (m:Int)).length=m:=by
      show (Txt.mul (Str.ofString "a") (m:Int)).cps.toList.length=m;rw [Sz,uc9]
     refine ⟨[.str (Txt.mul (Str.ofString "a") (m:Int))],⟨by simp [cnt],?_,.inl ⟨_,uf6,?_⟩⟩,λS=>Al rfl ?_⟩
     ·intro v mv;rw [ug2.mp mv];refine ⟨?_,by rw [vb,hlen];lia⟩;rw [Af,hlen,Sz,ui2,uh7,ui7];exact ⟨by lia,λc hc=>by rw [List.eq_of_mem_replicate hc];decide⟩
     ·rw [Af,hlen,ud2];exact .inl (by simp;lia)
     ·unfold Dh;rw [Sh.d,Sh.d] at hwi ⊢;symm;refine hwi.use ?_;symm;rw [hm1];have h1:(Str.ofString "a").length=1:=by decide +kernel
      refine Yd ⟨Cb (by lia) (by lia),by rw [h1,uh4,hL];lia,by rw [hL];lia,by rw [h1,hL];lia⟩ ?_;symm;exact ⟨_,rfl,RetsO.cons (RetO.leaf (.str _)) .nil⟩
   | list a q=>
     cases r <;> first | (simp [Ax] at hk;done) | skip
     rename_i a' q';obtain ⟨vs,hv,hS⟩:=hl a a' q q' (by rw [Sh.depth] at hd;lia) hs hr hcn hm hwf;refine ⟨vs,hv,λS=>Al rfl ?_⟩;unfold Dh;have hS:=hS S;rw [Sh.d,Sh.d] at hwi hS ⊢;symm;refine hwi.use ?_;symm;refine hS.mono λx S1 h=>?_;symm;exact h
   | pair a b=>
     cases r <;> first | (simp [Ax] at hk;done) | skip
     rename_i a' b';obtain ⟨vs,hv,hS⟩:=hp a b a' b' (by rw [Sh.depth] at hd;lia) (by rw [Sh.depth] at hd;lia) hs hr hcn hm;refine ⟨vs,hv,λS=>Al rfl ?_⟩;unfold Dh;have hS:=hS S;rw [Sh.d,Sh.d] at hwi hS ⊢;symm;refine hwi.use ?_;symm;refine hS.mono λx S1 h=>?_;symm;exact h
   | choice ss=>
     cases r <;> first | (simp [Ax] at hk;done) | skip
     rename_i rs;obtain ⟨vs,hv,hS⟩:=hc ss rs (λx hx=>by rw [Sh.depth] at hd;have:=AO hx;lia) hs hr hcn hm;refine ⟨vs,hv,λS=>Al rfl ?_⟩;unfold Dh;have hS:=hS S;rw [Sh.d,Sh.d] at hwi hS ⊢;symm;refine hwi.use ?_;symm;refine hS.mono λx S1 h=>?_;symm;exact h
 ·obtain ⟨v,⟨h1,h2⟩,hv⟩:=he s hd hs;have hl1:=QL hm s;refine ⟨[v],⟨?_,?_,.inl ⟨v,uf6,NH hk h1⟩⟩,λS=>Al rfl ?_⟩
  ·have:=Lf s;rw [ud1];lia
  ·intro u mu;rw [ug2.mp mu];exact ⟨h1,by lia⟩
  ·unfold Dh;have hv:=hv S;obtain ⟨ds,e⟩:=DN s;obtain ⟨es,e'⟩:=DN r;rw [e] at hv;rw [e,e'];symm;refine Ig (by rw [uh5,beq_eq_false_iff_ne];exact λz=>hk (GX z)) ?_;symm;refine hv.mono λx S1 r1=>?_;symm;exact ⟨_,rfl,RetsO.cons r1 .nil⟩
def SPO (f:Fn)(n:Nat):Prop:=∀s r:Sh,s.depth<=n->r.depth<=n->wf s=true->wf r=true->∀v,Af s v=true->vb v<=LIM->∀{S:List Ob} {d:D} {fp:List Nat},Ow S d v fp->PureO S f [s.d,r.d,d] (.bl (DX s r v))
variable {cf:Fn}
theorem YX {cb:Fn}(hf:En cf n)(hb:Eu cb n):SPO (fnOf 3 3 (DU cf cb)) n:=by
 intro s r hs hr hw hw' v hv hl S d fp o;refine Al rfl ?_;unfold DU;symm;refine (hf r hr o (B4 n s hs hw v hv)).use ?_;symm
 by_cases q:Af r v=true
 ·rw [q];symm;refine Fj ?_;symm;refine (hb s hs hw o hv (un6 (DG n s hs hw v hv) hl)).use ⟨_,rfl,?_⟩;symm;refine Fj ?_;symm;refine (hb r hr hw' o q (un6 (DG n r hr hw' v q) hl)).use ⟨_,rfl,?_⟩;symm;refine JJ (BV n s hs v hv) (BV n r hr v q) λb hb'=>?_;symm;have e:(!b)=DX s r v:=by
   rw [ul1,partsB_iff];unfold Parts;rw [q]
   cases b with
   | true=>simp [hb'.mp rfl]
   | false=>simpa using λz=>by cases hb'.mpr z
  rw [e];exact ⟨rfl,rfl⟩
 ·rw [uh1.mpr q];symm;have e:DX s r v=true:=partsB_iff.mpr (.inl (uh1.mpr q));rw [e];exact ⟨rfl,rfl⟩
def Kt (f:Fn)(n:Nat):Prop:=∀s r:Sh,s.depth<=n->r.depth<=n->wf s=true->wf r=true->cnt s<=100->12 * (mst r + 2) * cnt s + 252<=LIM->An s r=false->∃v,(Af s v=true/\vb v<=LIM)/\Parts s r v/\∀S,Wf f [s.d,r.d] S λx S'=>A6 x=false/\RetO S S' x v
theorem Ow.noExc {d:D}(o:Ow S d v fp):A6 d=false:=by cases o <;> rfl
theorem Pk (ht:∀A,FF A ct n)(hp:SPO cp n)(hs:SmO cs n)(hw:Eo cw n):Kt (fnOf 2 2 (Ey ct cp cs cw)) n:=by
 intro s r hd hd' hws hwr hc hm hn;have hL:LIM=100000:=rfl;obtain ⟨vs,⟨h1,h2,h3⟩,hv⟩:=ht (12 * (mst r + 2)) s r hd hws hwr hc (up3 _);obtain ⟨u,mu,pu⟩:=h3.parts hn;have hall:∀d∈vs.filter (λv=>DX s r v),((Af s d=true/\vb d<=LIM)/\Parts s r d):=λd md=>by
  obtain ⟨m1,m2⟩:=uj8.mp md;have:=h2 d m1;exact ⟨⟨this.1,un6 this.2 hm⟩,partsB_iff.mp m2⟩
 have hne:vs.filter (λv=>DX s r v)≠[]:=List.ne_nil_of_mem (uj8.mpr ⟨mu,partsB_iff.mpr pu⟩);obtain ⟨j,hj,hsm⟩:=hs s hd hws _ hne (λd m=>(hall d m).1.1);have hq:=hall _ (uj0 hj);refine ⟨_,hq.1,hq.2,λS=>Al rfl ?_⟩;unfold Ey;symm;refine (hw s r hd hws hwr).use ?_;rw [hn];symm;refine (hv S).mono ?_;rintro x S1 ⟨ds,rfl,g1,f1,o1,q1⟩;symm;refine (Qd (q:=λv=>DX s r v) (λd u f o m=>?_) o1).mono ?_
 ·symm;refine (hp s r hd hd' hws hwr u (h2 u m).1 (un6 (h2 u m).2 hm) o).use ?_;symm;exact ⟨rfl,rfl⟩
 ·rintro xs t' ⟨e,f2,o2,q2⟩;have hxl:=o2.length;refine AZ (by have:=ud5 (λv=>DX s r v) vs;rw [hxl,hL];lia) ?_;symm;rw [e];refine (hsm o2).mono λy S2 z9=>?_;obtain ⟨e2,hy⟩:=z9;subst e2;obtain ⟨w,f',e1,o',q'⟩:=o2.pick hy;rw [ub2 hj] at e1
  cases e1
  symm;exact ⟨o'.noExc,o'.noExc,g1,f',o',λk hk=>q1 k (q2 k (q' k hk))⟩
theorem SD {i j:Str}(h:P (.bl (!(decide (j.cps.toList < i.cps.toList)))) t):W (leA (.str i) (.str j)) t P:=⟨_,_,rfl,h⟩
theorem UC (c:Nat):(!(decide ((⟨#[c]⟩:Str).cps.toList < (Str.ofString " ").cps.toList)) && !(decide ((Str.ofString "~").cps.toList < (⟨#[c]⟩:Str).cps.toList)))=(decide (32<=c) && decide (c<=126)):=by
 have e1:(Str.ofString " ").cps.toList=[32]:=by decide +kernel
 have e2:(Str.ofString "~").cps.toList=[126]:=by decide +kernel
 have e3:(⟨#[c]⟩:Str).cps.toList=[c]:=rfl;rw [e1,e2,e3];have h1:decide ([c] < [32])=decide (c < 32):=decide_eq_decide.mpr (by simp [List.cons_lt_cons_iff]);have h2:decide ([126] < [c])=decide (126 < c):=decide_eq_decide.mpr (by simp [List.cons_lt_cons_iff]);rw [h1,h2,ul1];simp only [ui2,uh5,decide_eq_false_iff_not,uh7];lia
def nsg:D->Bool
 | .str y=>!BT (y.cps.getD 0 0)
 | _=>false
def KR (f:Fn):Prop:=∀x:Str,x.length<=90000->Pure1 f [.str x] (.bl (x.cps.toList.all BT))
theorem MS:∀l:List Nat,((l.map λc=>D.str ⟨#[c]⟩).filter nsg).isEmpty=l.all BT
 | []=>rfl
 | c :: l=>by
   have ih:=MS l;rw [um8,uj2,um6];have e:nsg (.str ⟨#[c]⟩) = !BT c:=rfl;rw [e]
   cases BT c with
   | true=>simpa using ih
   | false=>rfl
theorem O5:KR (fnOf 1 1 EH):=by
 intro x hx S;have hL:LIM=100000:=rfl;refine Al rfl ?_;unfold EH;symm;refine (KY (p:=nsg) (fr:=[]) ?_).mono ?_
 ·intro d hd;obtain ⟨c,hc,rfl⟩:=uo5.mp hd;have sb:=UC c;have en:nsg (.str ⟨#[c]⟩) = !BT c:=rfl;symm;refine SD ?_;symm;refine AE (λq=>?_) λq=>?_
  ·rw [q,um9] at sb;symm;refine SD ?_;symm;refine AE (λq=>?_) λq=>?_
   ·symm;refine ⟨?_,rfl⟩;rw [en,BT,<-sb,show (!decide ((Str.ofString "~").cps.toList < (⟨#[c]⟩:Str).cps.toList))=false by simpa using q];rfl
   ·symm;refine Oa rfl ?_;symm;refine ⟨?_,rfl⟩;rw [en,BT,<-sb,show (!decide ((Str.ofString "~").cps.toList < (⟨#[c]⟩:Str).cps.toList))=true by simpa using q];show (((c:Nat):Int) == 37)=_
    by_cases h:c=37
    ·subst h;rfl
    ·have h2:¬((c:Int)=37):=by lia
     simp [h,h2]
  ·rw [q,ul8] at sb;symm;refine ⟨?_,rfl⟩;rw [en,BT,<-sb];rfl
 ·rintro xs t' ⟨rfl,hS⟩;refine AZ ?_ ?_
  ·refine un6 (ud5 _ _) ?_;rw [uk5,<-GZ,hL];lia
  ·symm;exact ⟨by rw [MS];rfl,hS⟩
theorem Qc {q:D->Bool}(hg:Gon g S):∀{ds us:List D} {fp:List Nat} {z:Option Sl},(∀d u f,Ow S d u f->u∈us->W tst ⟨some (.val d) :: fr,S⟩ λb t'=>b=q u/\t'=⟨some (.val d) :: fr,S⟩)->Ows S ds us fp->W (compG g (Ao 0) tst (Ab 0) ds) ⟨z :: fr,S⟩ λxs t'=>t'.S=S/\xs.length=(us.filter q).length:=by
 intro ds
 induction ds with
 | nil=>
   intro us fp z _ o
   cases o
   exact HH hg ⟨rfl,rfl⟩
 | cons d ds ih=>
   intro us fp z he o
   cases o with
   | @cons _ u f1 f2 _ us a b n=>
     refine GL hg ?_;refine FD ?_;refine (he d u f1 a uf6).mono ?_;rintro bb t' ⟨rfl,rfl⟩
     by_cases hq:q u=true
     ·rw [if_pos hq,List.filter_cons_of_pos hq];refine DE rfl ?_;refine (ih (λd u f o m=>he d u f o (ud6 _ m)) b).mono ?_;rintro xs t2 ⟨e,hl⟩;exact ⟨e,by rw [ui9,ui9,hl]⟩
     ·rw [if_neg hq,List.filter_cons_of_neg hq];exact ih (λd u f o m=>he d u f o (ud6 _ m)) b
theorem J9 {s:Sh}:∀vs:List D,(vs.filter λu=>!Af s u).isEmpty=vs.all λe=>Af s e
 | []=>rfl
 | u :: us=>by
   have ih:=J9 (s:=s) us;rw [uj2,um6]
   cases Af s u with
   | true=>simpa using ih
   | false=>rfl
theorem Ty (hc:n=0\/En c n)(hs:KR cs):En (fnOf 2 2 (DP c cs)) (n + 1):=by
 intro s hd S d v fp o h;have hL:LIM=100000:=rfl;have hc':∀{s':Sh} {d' v':D} {f':List Nat},s'.depth<=n->Ow S d' v' f'->tm v'=true->PureO S c [s'.d,d'] (.bl (Af s' v')):=λ{s' d' v' f'} h1 h2 h3=>by
  rcases hc with rfl | hc
  ·exact absurd s'.depth_pos (by lia)
  ·exact hc s' h1 h2 h3
 refine Al rfl ?_;unfold DP
 cases s with
 | nothing=>
   rw [Sh.d];symm;refine ⟨?_,rfl⟩
   cases o <;> rfl
 | number lo hi=>
   rw [Sh.d]
   cases o with
   | int i=>
     symm;refine AE (λq=>?_) λq=>?_
     ·symm;exact ⟨by simp only [Af,q,um9],rfl⟩
     ·symm;exact ⟨by simp only [Af,q,ul8],rfl⟩
   | obj e o n=>
     symm;refine BO e rfl ?_;symm;exact ⟨by simp [Af],rfl⟩
   | _=>symm;exact ⟨by simp [Af],rfl⟩
 | text b=>
   rw [Sh.d]
   cases o with
   | str x=>
     have hx:x.length<=90000:=by simpa [tm] using h
     symm;refine KH (by rw [hL];lia) ?_;symm;refine AE (λq=>?_) λq=>?_
     ·symm;refine (hs x hx).use ?_;exact ⟨by simp only [Af,q,um9],rfl⟩
     ·symm;exact ⟨by simp only [Af,q,ul8],rfl⟩
   | obj e o n=>
     symm;refine BO e rfl ?_;symm;exact ⟨by simp [Af],rfl⟩
   | _=>symm;exact ⟨by simp [Af],rfl⟩
 | list s b=>
   rw [Sh.depth] at hd;rw [Sh.d]
   cases o with
   | @obj k ds vs fp e o nk=>
     rw [tm,ui2,uh7] at h;have hx:∀u∈vs,tm u=true:=Nc h.2;have hol:=o.length;symm;refine BO e rfl ?_;symm;refine HB e ?_;symm;refine AE (λq=>?_) λq=>?_
     ·symm;have:¬((vs.length:Int)<=b):=by have:=uh8 q;lia
      exact ⟨by simp [Af,this],rfl⟩
     ·have q':(vs.length:Int)<=b:=by have:=of_decide_eq_false q;lia
      symm;refine He ?_;refine D0 ?_;symm;refine Fr e ?_;refine (Qc (CY e) (q:=λu=>!Af s u) (λd u f ow m=>?_) o).mono ?_
      ·symm;refine (hc' (by lia) ow (hx u m)).use ?_;symm;exact ⟨rfl,rfl⟩
      ·rintro xs t' ⟨hS,hl⟩;refine AZ (by rw [hl];refine un6 (ud5 _ _) ?_;rw [hL];lia) ?_;symm;refine ⟨?_,hS⟩;have e2:xs.isEmpty=vs.all λe=>Af s e:=by
        rw [<-J9]
        cases xs with
        | nil=>cases hf:vs.filter λu=>!Af s u with
          | nil=>rfl
          | cons _ _=>rw [hf] at hl;cases hl
        | cons _ _=>cases hf:vs.filter λu=>!Af s u with
          | nil=>rw [hf] at hl;cases hl
          | cons _ _=>rfl
       rw [e2];simp only [Af,um3 q',um9];rfl
   | _=>symm;exact ⟨by simp [Af],rfl⟩
 | pair s r=>
   rw [Sh.depth] at hd;rw [Sh.d]
   cases o with
   | tup o=>
     rcases tm2 h o with ⟨a,b,x,y,f1,f2,rfl,rfl,oa,ob,hx,hy⟩ | ⟨s',i,b,y,f2,rfl,rfl,ob,hy⟩
     ·symm;refine (hc' (by lia) oa hx).use ?_;symm;refine AE (λe=>?_) λe=>?_
      ·symm;refine (hc' (by lia) ob hy).use ?_;exact ⟨by simp only [Af,e,um9],rfl⟩
      ·exact ⟨by simp only [Af,e,ul8],rfl⟩
     ·symm;exact ⟨by simp [Af],rfl⟩
   | obj e o n=>
     symm;refine BO e rfl ?_;symm;exact ⟨by simp [Af],rfl⟩
   | _=>symm;exact ⟨by simp [Af],rfl⟩
 | choice ss=>
   rw [Sh.depth] at hd;rw [Sh.d]
   cases o with
   | tup o=>
     rcases tm2 h o with ⟨a,b,x,y,f1,f2,rfl,rfl,oa,ob,hx,hy⟩ | ⟨o',k,b,y,f2,rfl,rfl,ob,hy⟩
     ·symm;exact ⟨by simp [Af],rfl⟩
     ·symm;refine AE (λq=>?_) λq=>?_
      ·symm;have q':Gk o'=false:=by simpa [Gk] using q
       exact ⟨by simp only [Af,q',ul8],rfl⟩
      ·symm;have q':Gk o'=true:=by simpa [Gk] using q
       refine AE (λq1=>?_) λq1=>?_
       ·symm;rw [AJ];refine AE (λq2=>?_) λq2=>?_
        ·have k0:(0:Int)<=k:=uh8 q1;have k1:k < (ss.length:Int):=uh8 q2;have hk:k.toNat < ss.length:=by lia
         have e1:ss[k.toNat]?=some ss[k.toNat]:=ub2 hk;have e2:atI (shD ss) k=some (ss[k.toNat]).d:=by
          unfold atI;rw [AJ,FQ k0 (by lia)];simp [Hy,e1]
         symm;refine DC e2 ?_;symm;refine (hc' (un6 (C9 ss _ _ e1) (by lia)) ob hy).use ?_;refine ⟨?_,rfl⟩;simp only [Af,q',q1,q2,um9,CB ss _ _ y e1]
        ·symm;exact ⟨by simp only [Af,q2,ul8,ul9],rfl⟩
       ·symm;exact ⟨by simp only [Af,q1,ul8,ul9],rfl⟩
   | obj e o n=>
     symm;refine BO e rfl ?_;symm;exact ⟨by simp [Af],rfl⟩
   | _=>symm;exact ⟨by simp [Af],rfl⟩
theorem QM (hc:Eu c n)(hm:Fl cp):Eu (fnOf 2 6 (Dx c cp)) (n + 1):=by
 intro s hs hwf S d v fp o hf hlen;have hL:LIM=100000:=rfl;refine Al rfl ?_;unfold Dx
 cases s with
 | nothing=>
   rw [Sh.d];symm;exact ⟨by rw [Au],rfl⟩
 | number lo hi=>
   have hsp:=Na hwf;have hwd:=F0 9 _ hsp;simp only [wf,ui2,uh7] at hwf;obtain ⟨i,rfl,hi1,hi2⟩:=Bm hf
   cases o
   rw [Sh.d];have e2:i - lo=(((i - lo).toNat:Nat):Int):=by lia
   symm;rw [e2];refine (hm lo hi (by lia) (by lia)).use ?_;symm;refine El (Cb (by lia) (by lia)) ?_;refine Dq (λr t=>∃(z:Option Sl) (m:Nat) (acc:List D),t=⟨[some (.val (.tup [.str "number",.int lo,.int hi])),some (.val (.int i)),some (.own acc),some (.val (.int m)),z,none],S⟩/\nb r.length m++acc=nb (wid (hi - lo).toNat) (i - lo).toNat) _ _ ⟨_,_,_,rfl,by simp [Bs]⟩ ?_ ?_
   ·rintro d r t ⟨z,m,acc,rfl,hacc⟩ _;rw [ui9,nb,uh0] at hacc;have hl:acc.length < LIM:=by
     have:=congrArg List.length hacc;simp only [ug0,ui9,ul5,DV] at this;lia
    symm;refine Zj rfl hl ?_;symm;exact ⟨_,m / 256,_,rfl,hacc⟩
   ·rintro t ⟨z,m,acc,rfl,hacc⟩;rw [ul5,nb,uk7] at hacc;symm;exact ⟨by rw [hacc,Au],rfl⟩
 | text q=>
   simp only [wf,ui2,uh7] at hwf;obtain ⟨x,rfl,hx⟩:=B7 hf
   cases o
   rw [Sh.d];symm;refine KH (by rw [hL];lia) ?_;symm;refine (Ew (f:=QW) (fr:=[]) ?_).mono ?_
   ·intro d m;obtain ⟨k,hk,rfl⟩:=uo5.mp m;symm;refine Oa rfl ?_;exact ⟨rfl,rfl⟩
   ·rintro xs t' ⟨rfl,hS⟩;rw [JY];have hl:x.cps.toList.length<=250:=by rw [<-GZ];lia
    refine AZ (by rw [uk5,hL];lia) ?_;symm;refine AZ (by simp only [uk5,ui9,ul5,hL];lia) ?_;symm;exact ⟨by rw [Au];rfl,hS⟩
 | list s q=>
   simp only [wf,ui2,uh7] at hwf;rw [Sh.depth] at hs;obtain ⟨vs,rfl,hl0,hds⟩:=BN hf
   cases o with
   | @obj k ds _ fp e o nk=>
     have hol:=o.length;rw [Au] at hlen ⊢;rw [Sh.d];symm;refine HB e ?_;symm;refine DZ (D0 ?_);symm;refine Fr e ?_;refine FH (λr t=>∃(z:Option Sl) (acc us:List D) (fq:List Nat),Ows S r us fq/\(∀u∈us,Af s u=true)/\t=⟨[some (.val (.tup [.str "list",s.d,.int q])),some (.val (.obj k)),some (.own acc),none,none,z],S⟩/\acc++(us.map λd=>Au s d).flatten = .int (vs.length:Nat) :: (vs.map λd=>Au s d).flatten) (λr t h=>?_) _ _ ⟨_,_,vs,fp,o,hds,rfl,by rw [hol];rfl⟩ ?_ ?_
     ·obtain ⟨_,_,_,_,_,_,rfl,_⟩:=h;exact CY e
     ·rintro d r t ⟨z,acc,us,fq,oo,hu,rfl,hacc⟩
      cases oo with
      | @cons _ u f1 f2 _ us a b _=>
        rw [um8,ug9,<-uh0] at hacc;have hl:acc.length + (Au s u).length<=LIM:=by
         have:=congrArg List.length hacc;rw [ug0,ug0] at this;lia
        symm;refine (hc s (by lia) hwf.2 a (hu u uf6) (by lia)).use ?_;symm;refine AZ hl ?_;exact ⟨_,_,us,f2,b,λx m=>hu x (ud6 _ m),rfl,hacc⟩
     ·rintro t ⟨z,acc,us,fq,oo,hu,rfl,hacc⟩
      cases oo
      rw [uo1,List.flatten_nil,uk2] at hacc;symm;exact ⟨by rw [hacc],rfl⟩
 | pair s r=>
   simp only [wf,ui2] at hwf;rw [Sh.depth] at hs;have htm:=B4 _ _ (up3 _) (by simp only [wf,hwf.1,hwf.2,un0]) v hf;obtain ⟨x,y,rfl,h1,h2⟩:=B6 hf
   cases o with
   | tup o=>
     rcases tm2 htm o with ⟨a,b,x',y',f1,f2,rfl,e,oa,ob,_,_⟩ | ⟨o',k,b,y',f2,rfl,e,ob,_⟩
     ·cases e
      rw [Au] at hlen ⊢;rw [ug0] at hlen;rw [Sh.d];symm;refine (hc s (by lia) hwf.1 oa h1 (by lia)).use ?_;symm;refine (hc r (by lia) hwf.2 ob h2 (by lia)).use ?_;symm;refine AZ (by lia) ?_;symm;exact ⟨rfl,rfl⟩
     ·cases e
 | choice ss=>
   have htm:=B4 _ _ (up3 _) hwf v hf;simp only [wf,ui2,uh7] at hwf;rw [Sh.depth] at hs;obtain ⟨k,x,hk,rfl,h1⟩:=Bl hf
   cases o with
   | tup o=>
     rcases tm2 htm o with ⟨a,b,x',y',f1,f2,rfl,e,oa,ob,_,_⟩ | ⟨o',k',b,y',f2,rfl,e,ob,_⟩
     ·cases e
     ·cases e
      have e1:ss[k]?=some ss[k]:=ub2 hk;rw [Au,uh4] at hlen ⊢;rw [Ch ss _ _ _ e1] at hlen ⊢;rw [ui9] at hlen;rw [Sh.d];symm;refine DC (Es hk) ?_;symm;refine (hc _ (un6 (C9 ss _ _ e1) (by lia)) (A8 hwf.2 _ (uj0 hk)) ob h1 (by lia)).use ?_;symm;refine AZ (by simp only [ui9,ul5];lia) ?_;symm;exact ⟨rfl,rfl⟩
theorem HW (hg:Gon g S){ds vs:List D}{fp:List Nat}{z:Option Sl}(o:Ows S ds vs fp)(h:∀d v f,Ow S d v f->v∈vs->PureO S c [d] v):W (compG g (Ao 0) Bt (Ae c (Aa (Ab 0) Ad)) ds) ⟨[z],S⟩ λxs t'=>xs=vs/\t'.S=S:=by
 refine KZ (fr:=[]) hg (fn:=λv w=>v=w/\v∈vs) o rfl (λi v w h1 h2=>⟨by rw [h1] at h2;cases h2;rfl,ud9 h1⟩) ?_
 rintro d v w f ow ⟨rfl,hm⟩;symm;refine (h d v f ow hm).use ?_;exact ⟨rfl,rfl⟩
def IC (f:Fn)(n:Nat):Prop:=∀s:Sh,s.depth<=n->wf s=true->∀v,Af s v=true->∀{S:List Ob} {d:D} {fp:List Nat},Ow S d v fp->PureO S f [d] v
theorem VZ (hc:n=0\/IC c n)(hk:∀{S:List Ob} (x:D),Ow S x x []->(∀xs,x≠.tup xs)->PureO S c [x] x):IC (fnOf 1 1 (C3 c)) (n + 1):=by
 intro s hs hw v hf S d fp o;have hL:LIM=100000:=rfl;have hc':∀x:Sh,x.depth<=n->IC c n:=λx hx=>hc.resolve_left λz=>by subst z;exact absurd x.depth_pos (by lia)
 have htm:=B4 _ _ (up3 _) hw v hf;refine Al rfl ?_;unfold C3
 cases s with
 | nothing=>
   rw [B1 hf] at o ⊢
   cases o
   symm;exact ⟨rfl,rfl⟩
 | number lo hi=>
   obtain ⟨i,rfl,_,_⟩:=Bm hf
   cases o
   symm;exact ⟨rfl,rfl⟩
 | text q=>
   obtain ⟨x,rfl,_⟩:=B7 hf
   cases o
   symm;exact ⟨rfl,rfl⟩
 | list s q=>
   rw [Sh.depth] at hs;simp only [wf,ui2,uh7] at hw;obtain ⟨vs,rfl,hl,hds⟩:=BN hf
   cases o with
   | @obj k ds _ fp e o nk=>
     symm;refine BO e rfl ?_;symm;refine He ?_;refine D0 ?_;symm;refine Fr e ?_;refine (HW (CY e) o λd v f ow hm=>hc' s (by lia) s (by lia) hw.2 v (hds v hm) ow).mono ?_;rintro xs t' ⟨rfl,hS⟩;refine AZ (by rw [hL];lia) ?_;symm;exact ⟨rfl,hS⟩
 | pair a b=>
   rw [Sh.depth] at hs;simp only [wf,ui2] at hw;obtain ⟨x,y,rfl,h1,h2⟩:=B6 hf
   cases o with
   | tup o=>
     have hol:=o.length;symm;refine He ?_;refine D0 ?_;symm;refine HA ?_;refine (HW D7 o λd v f ow hm=>?_).mono ?_
     ·simp only [um5,ui8,or_false] at hm;rcases hm with rfl | rfl
      ·exact hc' a (by lia) a (by lia) hw.1 _ h1 ow
      ·exact hc' a (by lia) b (by lia) hw.2 _ h2 ow
     ·rintro xs t' ⟨rfl,hS⟩;symm;exact ⟨rfl,hS⟩
 | choice ss=>
   rw [Sh.depth] at hs;simp only [wf,ui2] at hw;obtain ⟨k,x,hk1,rfl,h1⟩:=Bl hf;have hd:=un6 (AO (uj0 hk1)) (show A7 ss<=n by lia)
   cases o with
   | tup o=>
     symm;refine He ?_;refine D0 ?_;symm;refine HA ?_;refine (HW D7 o λd v f ow hm=>?_).mono ?_
     ·simp only [um5,ui8,or_false] at hm;rcases hm with rfl | rfl | rfl
      ·cases ow;exact hk _ (.str _) (λ_ z=>nomatch z)
      ·cases ow;exact hk _ (.int _) (λ_ z=>nomatch z)
      ·exact hc' _ hd _ hd (A8 hw.2 _ (uj0 hk1)) _ h1 ow
     ·rintro xs t' ⟨rfl,hS⟩;symm;exact ⟨rfl,hS⟩
theorem O1 (x:D)(o:Ow S x x [])(hn:∀xs,x≠.tup xs):PureO S (fnOf 1 1 (C3 c)) [x] x:=by
 refine Al rfl ?_;unfold C3
 cases o with
 | tup _=>exact absurd rfl (hn _)
 | _=>symm;exact ⟨rfl,rfl⟩
def GK (f:Fn)(n:Nat):Prop:=∀s:Sh,s.depth<=n->wf s=true->∀v,Af s v=true->∀{S:List Ob} {d:D} {fp:List Nat},Ow S d v fp->Wf f [d] S λ_ S'=>S'.length=S.length/\∀k,k∉fp->S'[k]?=S[k]?
theorem N0 (x:D)(o:Ow S x x [])(hn:∀xs,x≠.tup xs):Wf (fnOf 1 2 (B9 c)) [x] S λ_ S'=>S'=S:=by
 refine Al rfl ?_;unfold B9
 cases o with
 | tup _=>exact absurd rfl (hn _)
 | _=>symm;exact rfl
theorem Hc {S0:List Ob}{fp0:List Nat}{e0:Option Sl}:∀{ds vs:List D} {S:List Ob} {fp:List Nat} {z:Option Sl},(∀S',(∀k,k∉fp0->S'[k]?=S0[k]?)->Gon g S')->Ows S ds vs fp->(∀k∈fp,k∈fp0)->S.length=S0.length->(∀k,k∉fp0->S[k]?=S0[k]?)->(∀{S:List Ob} {d v:D} {f:List Nat},Ow S d v f->v∈vs->Wf c [d] S λ_ S'=>S'.length=S.length/\∀k,k∉f->S'[k]?=S[k]?)->W (forG g (Ao 1) (Dr (Ae c (Aa (Ab 1) Ad))) ds) ⟨[e0,z],S⟩ λo t=>o = .next/\∃z S',t=⟨[e0,z],S'⟩/\S'.length=S0.length/\∀k,k∉fp0->S'[k]?=S0[k]?:=by
 intro ds
 induction ds with
 | nil=>
   intro vs S fp z hg o hf hl hk _;exact F4 (hg S hk) ⟨rfl,z,S,rfl,hl,hk⟩
 | cons d ds ih=>
   intro vs S fp z hg o hf hl hk hc
   cases o with
   | @cons _ u f1 f2 _ us a b n=>
     refine HI (hg S hk) ?_;symm;refine (hc a uf6).mono ?_;rintro x S1 ⟨l1,k1⟩;symm;refine ⟨rfl,?_⟩;refine ih hg (b.mono λk hk2=>k1 k λz=>n k z hk2) (λk hk2=>hf k (uc8 _ hk2)) (l1.trans hl) (λk hk2=>?_) (λo m=>hc o (ud6 _ m));rw [k1 k λz=>hk2 (hf k (ud7 _ z))];exact hk k hk2
theorem UE (hc:n=0\/GK c n)(hk:∀{S:List Ob} (x:D),Ow S x x []->(∀xs,x≠.tup xs)->Wf c [x] S λ_ S'=>S'=S):GK (fnOf 1 2 (B9 c)) (n + 1):=by
 intro s hs hw v hf S d fp o;have hL:LIM=100000:=rfl;have hc':∀x:Sh,x.depth<=n->GK c n:=λx hx=>hc.resolve_left λz=>by subst z;exact absurd x.depth_pos (by lia)
 refine Al rfl ?_;unfold B9
 cases s with
 | nothing=>
   rw [B1 hf] at o
   cases o
   symm;exact ⟨rfl,λ_ _=>rfl⟩
 | number lo hi=>
   obtain ⟨i,rfl,_,_⟩:=Bm hf
   cases o
   symm;exact ⟨rfl,λ_ _=>rfl⟩
 | text q=>
   obtain ⟨x,rfl,_⟩:=B7 hf
   cases o
   symm;exact ⟨rfl,λ_ _=>rfl⟩
 | list s q=>
   rw [Sh.depth] at hs;simp only [wf,ui2,uh7] at hw;obtain ⟨vs,rfl,hl,hds⟩:=BN hf
   cases o with
   | @obj k ds _ fp e o nk=>
     have hol:=o.length;symm;refine BO e rfl ?_;symm;refine DZ (D0 ?_);symm;refine Fr e ?_;refine (Hc (S0:=S) (fp0:=fp) (λS' h=>CY (by rw [h k nk];exact e)) o (λ_ z=>z) rfl (λ_ _=>rfl) (λo m=>hc' s (by lia) s (by lia) hw.2 _ (hds _ m) o)).mono ?_;rintro ot t ⟨rfl,z,S1,rfl,l1,k1⟩;have e1:S1[k]?=some (.lst ds):=by rw [k1 k nk];exact e
     symm;refine BO e1 rfl ?_;symm;refine SE (k:=k) ?_;symm;refine ⟨rfl,_,e1,?_⟩;symm;refine ⟨_,_,e1,if_pos (by rw [hol,hL];lia),?_⟩;refine ⟨by rw [uk6];exact l1,λj hj=>?_⟩;rw [ud8 (λz=>hj (by rw [z];exact uf6))];exact k1 j λz=>hj (ud6 _ z)
 | pair a b=>
   rw [Sh.depth] at hs;simp only [wf,ui2] at hw;obtain ⟨x,y,rfl,h1,h2⟩:=B6 hf
   cases o with
   | tup o=>
     symm;refine DZ (D0 ?_);symm;refine HA ?_;refine (Hc (S0:=S) (fp0:=fp) (λS' h=>D7) o (λ_ z=>z) rfl (λ_ _=>rfl) (λ{S d v f} ow m=>?_)).mono ?_
     ·simp only [um5,ui8,or_false] at m;rcases m with rfl | rfl
      ·exact hc' a (by lia) a (by lia) hw.1 _ h1 ow
      ·exact hc' a (by lia) b (by lia) hw.2 _ h2 ow
     ·rintro ot t ⟨rfl,z,S1,rfl,l1,k1⟩;symm;exact ⟨l1,k1⟩
 | choice ss=>
   rw [Sh.depth] at hs;simp only [wf,ui2] at hw;obtain ⟨k,x,hk1,rfl,h1⟩:=Bl hf;have hd:=un6 (AO (uj0 hk1)) (show A7 ss<=n by lia)
   cases o with
   | tup o=>
     symm;refine DZ (D0 ?_);symm;refine HA ?_;refine (Hc (S0:=S) (fp0:=fp) (λS' h=>D7) o (λ_ z=>z) rfl (λ_ _=>rfl) (λ{S d v f} ow m=>?_)).mono ?_
     ·simp only [um5,ui8,or_false] at m;rcases m with rfl | rfl | rfl
      ·cases ow;exact (hk _ (.str _) (λ_ z=>nomatch z)).mono λ_ _ e=>by subst e;exact ⟨rfl,λ_ _=>rfl⟩
      ·cases ow;exact (hk _ (.int _) (λ_ z=>nomatch z)).mono λ_ _ e=>by subst e;exact ⟨rfl,λ_ _=>rfl⟩
      ·exact hc' _ hd _ hd (A8 hw.2 _ (uj0 hk1)) _ h1 ow
     ·rintro ot t ⟨rfl,z,S1,rfl,l1,k1⟩;symm;exact ⟨l1,k1⟩
def GI (f:Fn)(n:Nat):Prop:=∀s:Sh,s.depth<=n->wf s=true->∀v,Af s v=true->∀{S:List Ob} {d:D} {fp:List Nat},Ow S d v fp->fp.length<=LIM->PureO S f [d] (.lst (fp.map .obj))
theorem NI (x:D)(o:Ow S x x [])(hn:∀xs,x≠.tup xs):PureO S (fnOf 1 3 (CN c)) [x] (.lst []):=by
 refine Al rfl ?_;unfold CN
 cases o with
 | tup _=>exact absurd rfl (hn _)
 | _=>symm;exact ⟨rfl,rfl⟩
theorem G1 {e0:Option Sl}(hg:Gon g S):∀{ds vs:List D} {fp:List Nat} {acc:List D} {z:Option Sl},Ows S ds vs fp->acc.length + fp.length<=LIM->(∀{d v:D} {f:List Nat},Ow S d v f->v∈vs->f.length<=LIM->PureO S c [d] (.lst (f.map .obj)))->W (forG g (Ao 2) (Ce 1 (bnd (Ab 1) λx=>bnd (Ae c (Aa (Ab 2) Ad)) λy=>Fu x y)) ds) ⟨[e0,some (.own acc),z],S⟩ λo t=>o = .next/\∃z,t=⟨[e0,some (.own (acc++fp.map .obj)),z],S⟩:=by
 intro ds
 induction ds with
 | nil=>
   intro vs fp acc z o hl _
   cases o
   refine F4 hg ⟨rfl,z,?_⟩;rw [uo1,uk2]
 | cons d ds ih=>
   intro vs fp acc z o hl hc
   cases o with
   | @cons _ u f1 f2 _ us a b n=>
     rw [ug0] at hl;refine HI hg ?_;symm;refine (hc a uf6 (by lia)).use ?_;symm;refine AZ (by rw [uk5];lia) ?_;refine ⟨rfl,?_⟩;refine (ih b (by rw [ug0,uk5];lia) (λo m=>hc o (ud6 _ m))).mono ?_;rintro ot t ⟨rfl,z,rfl⟩;exact ⟨rfl,z,by rw [ul3,uh0]⟩
theorem Tz (hc:n=0\/GI c n)(hk:∀{S:List Ob} (x:D),Ow S x x []->(∀xs,x≠.tup xs)->PureO S c [x] (.lst [])):GI (fnOf 1 3 (CN c)) (n + 1):=by
 intro s hs hw v hf S d fp o hfp;have hL:LIM=100000:=rfl;have hc':∀x:Sh,x.depth<=n->GI c n:=λx hx=>hc.resolve_left λz=>by subst z;exact absurd x.depth_pos (by lia)
 refine Al rfl ?_;unfold CN
 cases s with
 | nothing=>
   rw [B1 hf] at o
   cases o
   symm;exact ⟨rfl,rfl⟩
 | number lo hi=>
   obtain ⟨i,rfl,_,_⟩:=Bm hf
   cases o
   symm;exact ⟨rfl,rfl⟩
 | text q=>
   obtain ⟨x,rfl,_⟩:=B7 hf
   cases o
   symm;exact ⟨rfl,rfl⟩
 | list s q=>
   rw [Sh.depth] at hs;simp only [wf,ui2,uh7] at hw;obtain ⟨vs,rfl,hl,hds⟩:=BN hf
   cases o with
   | @obj k ds _ fp e o nk=>
     rw [ui9] at hfp;symm;refine BO e rfl ?_;symm;refine BO e rfl ?_;symm;refine DZ (D0 ?_);symm;refine Fr e ?_;refine (G1 (CY e) o (by show 1 + fp.length<=LIM;lia) (λow m hl=>hc' s (by lia) s (by lia) hw.2 _ (hds _ m) ow hl)).mono ?_;rintro ot t ⟨rfl,z,rfl⟩;symm;exact ⟨rfl,rfl⟩
 | pair a b=>
   rw [Sh.depth] at hs;simp only [wf,ui2] at hw;obtain ⟨x,y,rfl,h1,h2⟩:=B6 hf
   cases o with
   | tup o=>
     symm;refine DZ (D0 ?_);symm;refine HA ?_;refine (G1 D7 o (by rw [ul5];lia) (λ{d v f} ow m hl=>?_)).mono ?_
     ·simp only [um5,ui8,or_false] at m;rcases m with rfl | rfl
      ·exact hc' a (by lia) a (by lia) hw.1 _ h1 ow hl
      ·exact hc' a (by lia) b (by lia) hw.2 _ h2 ow hl
     ·rintro ot t ⟨rfl,z,rfl⟩;symm;exact ⟨rfl,rfl⟩
 | choice ss=>
   rw [Sh.depth] at hs;simp only [wf,ui2] at hw;obtain ⟨k,x,hk1,rfl,h1⟩:=Bl hf;have hd:=un6 (AO (uj0 hk1)) (show A7 ss<=n by lia)
   cases o with
   | tup o=>
     symm;refine DZ (D0 ?_);symm;refine HA ?_;refine (G1 D7 o (by rw [ul5];lia) (λ{d v f} ow m hl=>?_)).mono ?_
     ·simp only [um5,ui8,or_false] at m;rcases m with rfl | rfl | rfl
      ·cases ow;exact hk _ (.str _) (λ_ z=>nomatch z)
      ·cases ow;exact hk _ (.int _) (λ_ z=>nomatch z)
      ·exact hc' _ hd _ hd (A8 hw.2 _ (uj0 hk1)) _ h1 ow hl
     ·rintro ot t ⟨rfl,z,rfl⟩;symm;exact ⟨rfl,rfl⟩
def Nk (f:Fn)(n:Nat):Prop:=∀s r:Sh,s.depth<=n->wf s=true->wf r=true->An s r=true->∀S,Wf f [s.d,r.d] S λx S'=>x = .exc "NoValue" []/\S'=S
theorem Pl (hw:Eo cw n):Nk (fnOf 2 2 (Ey ct cp cs cw)) n:=by
 intro s r hd hws hwr hn S;refine Al rfl ?_;unfold Ey;symm;refine (hw s r hd hws hwr).use ?_;rw [hn];symm;exact ⟨rfl,rfl⟩
def U5 (f:Fn)(n:Nat):Prop:=∀s r:Sh,s.depth<=n->wf s=true->wf r=true->An s r=true->∀S,Wf f [s.d,r.d] S λx S'=>x = .bl true/\S'=S
theorem PC (hp:Nk cp n):U5 (fnOf 2 4 (C4 cp)) n:=by
 intro s r hd hws hwr hn S;refine Al rfl ?_;unfold C4;symm;refine (hp s r hd hws hwr hn S).mono ?_;rintro x S1 ⟨rfl,rfl⟩;symm;refine X6 (by decide) ?_;symm;exact ⟨rfl,rfl⟩
def RightO (f:Fn)(n:Nat):Prop:=∀s r:Sh,s.depth<=n->r.depth<=n->wf s=true->wf r=true->cnt s<=100->12 * (mst r + 2) * cnt s + 252<=LIM->∀S,Wf f [s.d,r.d] S λx S'=>x = .bl true/\Gw S S'
def PD (cp csp ck:Fn):M Out:=(Ag (Aq 3 (Ae ck (Aa (Ab 2) Ad)))
 (Ag (Dr (Ae csp (Aa (Ab 2) Ad)))
 (Ak (Ac (Ae (Ei cp) (Aa (Ab 0) (Aa (Ab 1) Ad))) (Ab 3) (eqO id)))))
variable {cr:Fn}
theorem Uf {csp ck cb:Fn}(hn16:n<=16)(hp:Kt cp n)(hsp:GK csp n)(hk:IC ck n)(hf:En cf n)(hb:Eu cb n)(hw:Eo cw n)(hr:U5 cr n):RightO (fnOf 2 4 (Dy cp csp ck cf cb cw cr)) n:=by
 intro s r hd hd' hws hwr hc hm S;refine Al rfl ?_;unfold Dy;symm;refine (hw s r hd hws hwr).use ?_
 cases hn:An s r with
 | true=>
   symm;refine (hr s r hd hws hwr hn S).mono ?_;rintro x S1 ⟨rfl,rfl⟩;symm;exact ⟨rfl,.refl⟩
 | false=>
   obtain ⟨v,⟨hv,hvl⟩,hpv,ht⟩:=hp s r hd hd' hws hwr hc hm hn;have htm:=B4 n s hd hws v hv;have ht':∀S,Wf (Ei cp) [s.d,r.d] S λx S'=>RetO S S' x v:=λS=>by
    obtain ⟨x,S',e,e1,e2⟩:=ht S;exact ⟨x,S',by unfold Ei;simp [e,e1],e2⟩
   have hnv:nvO 16 v=true:=by
    have h1:=MT (E1 n s hd hws v hv) (16 - n);rw [show n + (16 - n)=16 by lia] at h1;exact h1
   have fin:∀(d:D) (S1:List Ob) (f1:List Nat) (e3:Option Sl) (P:Out->T->Prop),Gw S S1->Ow S1 d v f1->(∀k∈f1,S.length<=k)->(∀(e:Option Sl) (S':List Ob),Gw S S'->P (.ret (.bl true)) ⟨[some (.val s.d),some (.val r.d),some (.val d),e],S'⟩)->F2.W (PD cp csp ck) ⟨[some (.val s.d),some (.val r.d),some (.val d),e3],S1⟩ P:=by
    intro d S1 f1 e3 P g1 o1 q1 hP;unfold PD;symm;refine (hk s hd hws v hv o1).use ?_;symm;refine (hsp s hd hws v hv o1).mono ?_;rintro x S2 ⟨l2,k2⟩;symm;refine (ht' S2).mono ?_;rintro d2 S3 ⟨g3,f3,o3,q3⟩;symm;refine Ze (d:=v) (L3 16 o3 hnv) (M3 16 v hnv) hnv ?_;symm;refine hP _ S3 (Gw.trans ⟨by rw [l2];exact g1.1,λk hk=>?_⟩ g3);rw [k2 k λz=>absurd (q1 k z) (by lia)];exact g1.2 k hk
   symm;refine (ht' S).mono ?_;rintro d S1 ⟨g1,f1,o1,q1⟩;symm;refine (hf s hd o1 htm).use ?_;rw [hv];symm;refine (hf r hd' o1 htm).use ?_
   by_cases hrv:Af r v=true
   ·rw [hrv];symm;refine (hb s hd hws o1 hv (un6 (DG n s hd hws v hv) hvl)).use ?_;symm;refine (hb r hd' hwr o1 hrv (un6 (DG n r hd' hwr v hrv) hvl)).use ?_;symm;refine JJ (BV n s hd v hv) (BV n r hd' v hrv) λb hb'=>?_;have hbf:b=false:=by
     cases b with
     | false=>rfl
     | true=>
       rcases hpv with z | z
       ·rw [hrv] at z;cases z
       ·exact absurd (hb'.mp rfl) z
    subst hbf
    repeat (first | exact fin d S1 f1 _ _ g1 o1 q1 λe S' g=>(show _/\_ from ⟨rfl,g⟩) | walk_at "y1")
   ·rw [uh1.mpr hrv]
    repeat (first | exact fin d S1 f1 _ _ g1 o1 q1 λe S' g=>(show _/\_ from ⟨rfl,g⟩) | walk_at "y1")
theorem ET (h1:s.depth<=1)(h2:wfB B s=true):cnt s<=1/\mst s<=0:=by
 cases s with
 | nothing=>exact ⟨by rw [cnt];all_goals simp,by rw [mst];exact up3 _;all_goals simp⟩
 | number lo hi=>exact ⟨by rw [cnt];all_goals simp,by rw [mst];exact up3 _;all_goals simp⟩
 | text m=>exact ⟨by rw [cnt];all_goals simp,by rw [mst];exact up3 _;all_goals simp⟩
 | list s q=>rw [Sh.depth] at h1;have:=s.depth_pos;lia
 | pair a b=>rw [Sh.depth] at h1;have:=a.depth_pos;lia
 | choice ss=>
   have:=Hb (R0 h2).1;rw [Sh.depth] at h1;lia
structure CM (c q:Nat)(s:Sh):Prop where
 c:cnt s<=c
 m:mst s<=q
theorem CM.mono {c q c' q':Nat}(h:CM c q s)(h1:c<=c')(h2:q<=q'):CM c' q' s:=⟨un6 h.c h1,un6 h.m h2⟩
theorem CM.leaf {c q:Nat}(h1:s.depth<=1)(h2:wfB B s=true)(hc:1<=c):CM c q s:=⟨un6 (ET h1 h2).1 hc,un6 (ET h1 h2).2 (up5 _)⟩
theorem CM.list {c q:Nat}{s:Sh}{m:Int}(h:CM c q s)(hm:m<=(q:Int)):CM (c + 1) q (.list s m):=⟨by rw [cnt];exact uj3 h.c,by rw [mst];have:=h.m;lia⟩
theorem CM.pair {c d q:Nat}{a b:Sh}(h:CM c q a)(h2:CM d q b):CM (c + d + 1) q (.pair a b):=⟨by rw [cnt];have:=h.c;have:=h2.c;lia,by rw [mst];have:=h.m;have:=h2.m;lia⟩
theorem Ga {c:Nat}:∀{ss:List Sh},(∀x∈ss,cnt x<=c)->AT ss<=ss.length * c
 | [],_=>by rw [AT];exact up5 _
 | s :: r,h=>by
   rw [AT,ui9,un9];have:=h s uf6;have:=Ga λx m=>h x (ud6 _ m);lia
theorem MQ {q:Nat}:∀{ss:List Sh},(∀x∈ss,mst x<=q)->G5 ss<=q
 | [],_=>by rw [G5];exact up5 _
 | s :: r,h=>by
   rw [G5];have:=h s uf6;have:=MQ λx m=>h x (ud6 _ m);lia
theorem CM.choice {c q:Nat}{ss:List Sh}(h:AT ss<=c)(h2:∀x∈ss,mst x<=q):CM (c + 1) q (.choice ss):=⟨by rw [cnt];exact uj3 h,by rw [mst];exact MQ h2⟩
theorem CM.two {c d q:Nat}(h:CM c q a)(h2:CM d q b):CM (c + d + 1) q (.choice [a,b]):=.choice (by rw [AT,AT,AT];have:=h.c;have:=h2.c;lia) (by simp [h.m,h2.m])
def pc:Nat->Nat
 | 0=>1
 | d + 1=>2 * pc d + 9
structure DrawnC (k r:Nat)(dp c:Nat)(v:D)(S':List Ob):Prop where
 ex:∃s:Sh,v=s.d/\s.depth<=dp/\wfB B0 s=true/\CM c 3 s
 pool:Room k r S'
def IE (f:Fn)(m:Nat):Prop:=∀(d k r:Nat) (S:List Ob),d < m->Room k (r + pt d) S->Wf f [.obj k,.int d] S λv S'=>DrawnC k r (d + 1) (pc d) v S'
theorem T9 (ht:PTakeOk ct)(hl:PLeafOk cl)(hp:m=0\/IE cp m):IE (fnOf 2 6 (DR ct cl cp)) (m + 1):=by
 intro d k r S hd p0;refine Al rfl ?_;unfold DR;right
 cases d with
 | zero=>
   change Room k (r + 20 + 1) S at p0
   refine ht.use 8 p0 λi S1 i0 i1 p1=>?_;right;exact hl.use p1 λs S2 h1 h2 p2=>⟨⟨s,rfl,h1,h2,.leaf h1 h2 (up3 _)⟩,p2⟩
 | succ d=>
   rw [pt,<-un1,<-un1,<-un1] at p0;refine ht.use 8 p0 λi S1 i0 i1 p1=>?_;have e0:(((d + 1:Nat):Int) - 1)=(d:Int):=by lia
   have hrec:∀{r':Nat} {S':List Ob} {P:D->List Ob->Prop},Room k (r' + pt d) S'->(∀s S'',s.depth<=d + 1->wfB B0 s=true->CM (pc d) 3 s->Room k r' S''->P s.d S'')->Wf cp [.obj k,.int d] S' P:=λ{r' S' P} q p=>by
    rcases hp with rfl | hp
    ·exact absurd (uc7 hd) (ul2 _)
    ·exact (hp d k r' S' (uc7 hd) q).mono λv S'' ⟨⟨s,e,h1,h2,h3⟩,q⟩=>by subst e;exact p s S'' h1 h2 h3 q
   right;refine AE (λz=>?_) λz=>?_
   ·right;exact hl.use (r:=r + 143) p1.drop.drop λs S2 h1 h2 p2=>⟨⟨s,rfl,Ez h1,h2,.leaf h1 h2 (by rw [pc];lia)⟩,p2.drop⟩
   right;rw [e0];refine hrec p1 λone S2 o1 o2 o3 p2=>?_;right;refine AE (λy=>?_) λy=>?_
   ·right;refine ht.use (r:=r + 162) 4 p2.drop λa S3 a0 a1 p3=>?_;right;exact ⟨⟨.list one a,by rw [Sh.d],GO o1,DF a0 (IY a1 (by decide)) o2,(o3.list (by lia)).mono (by rw [pc];lia) (up3 _)⟩,p3.drop⟩
   right;refine AE (λx=>?_) λx=>?_
   ·right;rw [e0];refine hrec p2 λtwo S3 t1 t2 t3 p3=>?_;right;exact ⟨⟨.pair one two,by rw [Sh.d],Fv o1 t1,Cc o2 t2,(o3.pair t3).mono (by rw [pc];lia) (up3 _)⟩,p3.drop⟩
   right;refine ht.use (r:=r + 162) 9 p2.drop λa S3 a0 a1 p3=>?_;right;obtain ⟨n,rfl⟩:=ub7 a0;have a8:n<=8:=by clear p0 p1 p2 p3;lia
   refine El (Ff a8) ?_;refine (FG (P:=λxs t'=>∃ss:List Sh,xs=ss.map Sh.d/\ss.length=n/\(∀s∈ss,s.depth<=1/\wfB B0 s=true)/\Room k (r + 2) t'.S) (λacc q t=>∃(ss:List Sh) (S':List Ob) (z:Option Sl),acc=ss.map Sh.d/\ss.length + q.length=n/\(∀s∈ss,s.depth<=1/\wfB B0 s=true)/\Room k (r + 2 + 20 * q.length) S'/\t=⟨[z,some (.val (.obj k))],S'⟩) _ [] _ ⟨[],S3,_,rfl,by simp [Bs],by simp,p3.mono (by rw [AW,uh4,un1];exact uf4 (uf4 (uf3 _ a8) _) _),rfl⟩ ?_ ?_).mono ?_
   ·rintro acc d' q t ⟨ss,S',z,rfl,h1,h2,h3,rfl⟩ _;rw [ui9] at h1 h3;refine FD (Iy ?_);rw [if_pos rfl];right;refine hl.use h3.loop λs S5 q1 q2 q3=>?_;exact ⟨ss++[s],S5,_,by rw [ul3];rfl,LB h1,EU h2 ⟨q1,q2⟩,q3,rfl⟩
   ·rintro acc t ⟨ss,S',z,rfl,h1,h2,h3,rfl⟩;exact ⟨ss,rfl,h1,h2,h3.drop⟩
   ·rintro xs t' ⟨ss,hxs,h1,h2,h3⟩;rw [uk7] at hxs;subst hxs;have h8:(ss.map Sh.d).length<=8:=by rw [uk5,h1];exact a8
    refine AZ (Do h8) ?_;right;rw [uk5];have s8:ss.length<=8:=by rw [h1];exact a8
    refine ht.use (r:=r + 1) ((ss.length:Int) + 1) h3 (λc S5 c0 c1 p5=>?_) rfl (by clear p0 p1 p2 p3;lia) (by clear p0 p1 p2 p3;lia);right;have c1':c < ((ss.map Sh.d).length:Int) + 1:=by rw [uk5];exact c1
    have cl:=Li (x:=one.d) c0 c1';rw [Ge c0 (ue2 c1')];refine AZ (Do (n:=9) (uj3 (un6 (List.length_take_le' _ _) h8))) ?_;right;rw [Gc c0 (ue2 c1')];refine AZ (Do (n:=9) (by rw [<-ug0,cl];exact uj3 h8)) ?_;right;have hmem:∀x∈ss.take c.toNat++[one]++ss.drop c.toNat,x.depth<=d + 1/\wfB B0 x=true:=MP (λx hx=>⟨Ez (h2 x hx).1,(h2 x hx).2⟩) ⟨o1,o2⟩;have cl':=Li (x:=one) c0 c1;refine ⟨⟨.choice (ss.take c.toNat++[one]++ss.drop c.toNat),?_,Lk λx hx=>(hmem x hx).1,Hf (by rw [cl'];exact uj3 (up5 _)) (by rw [cl'];exact uj3 s8) λx hx=>(hmem x hx).2,?_⟩,p5.drop⟩
    ·rw [Sh.d,C8,ul3,ul3,List.map_take,List.map_drop];rfl
    ·refine (CM.choice (c:=pc d + 8) ?_ (MP (λx hx=>un6 (ET (h2 x hx).1 (h2 x hx).2).2 (up5 _)) o3.m)).mono (by rw [pc];lia) (up3 _);rw [BI,BI,AT,AT];have e1:=BI (ss.take c.toNat) (ss.drop c.toNat);rw [ud4] at e1;have e2:=Ga (c:=1) λx hx=>(ET (h2 x hx).1 (h2 x hx).2).1;have e3:=o3.c;clear p0 p1 p2 p3 p5;lia
def PRecC (f:Fn):Prop:=∀(k r:Nat) (S:List Ob),Room k (r + 80) S->Wf f [.obj k] S λv S'=>DrawnC k r 4 7 v S'
theorem Wv (hl:PLeafOk cl):PRecC (fnOf 1 3 (Ea cl)):=by
 intro k r S p0;refine Al rfl ?_;unfold Ea;right;refine hl.use (r:=r + 60) p0 λs S1 h1 h2 p1=>?_;right;refine Dq (λq t=>∃(s:Sh) (S':List Ob) (e2:Option Sl),s.depth + q.length<=4/\wfB B0 s=true/\CM (7 - 2 * q.length) 0 s/\Room k (r + 20 * q.length) S'/\t=⟨[some (.val (.obj k)),some (.val s.d),e2],S'⟩) _ _ ⟨s,S1,none,ue4 h1 3,h2,.leaf h1 h2 (by rw [AW];decide),p1,rfl⟩ ?_ ?_
 ·rintro d q t ⟨s,S',e2,hd,hw,hc,p,rfl⟩ _;rw [ui9] at hd p hc;right;refine hl.use p.loop λl S5 q1 q2 q3=>?_;right;refine ⟨.pair l s,S5,some (.val d),Nb (Fv (un6 q1 s.depth_pos) (up3 _)) hd,Cc q2 hw,((CM.leaf q1 q2 (up3 _)).pair hc).mono (by have:=s.depth_pos;lia) (up3 _),q3,?_⟩;rw [Sh.d];rfl
 ·rintro t ⟨s,S',e2,hd,hw,hc,p,rfl⟩;right;exact ⟨⟨s,rfl,hd,hw,hc.mono (up3 _) (up5 _)⟩,p⟩
theorem PRecC.use (h:PRecC f){k r:Nat}{S:List Ob}(d:Room k (r + 80) S){P:D->List Ob->Prop}(p:∀s S',s.depth<=4->wfB B0 s=true->CM 7 3 s->Room k r S'->P s.d S'):Wf f [.obj k] S P:=
 (h k r S d).mono λv S' ⟨⟨s,e,h1,h2,h3⟩,q⟩=>by subst e;exact p s S' h1 h2 h3 q
def Mu (f:Fn):Prop:=∀(k r:Nat) (S:List Ob),Room k (r + 3000) S->Wf f [.obj k] S λv S'=>DrawnC k r 6 80 v S'
theorem Xz:∀d,d < 4->pc d<=71:=by decide
theorem Q9 (ht:PTakeOk ct)(hr:PRecC cr)(hl:PLeafOk cl)(hp:IE cp 4):Mu (fnOf 1 5 (Dz ct cr cl cp)):=by
 intro k r S p0;refine Al rfl ?_;unfold Dz;right;refine ht.use (r:=r + 2999) 4 p0 λi S1 i0 i1 p1=>?_;right;obtain ⟨d,rfl⟩:=ub7 i0;have d4:d < 4:=up1.mp i1;have hpt:=XH d d4;refine (hp d k (r + 300) S1 d4 (p1.mono (un1 r 300 _ ▸ uf4 (un6 (uf4 hpt 300) (by decide)) r))).mono λv S2 z9=>?_;obtain ⟨⟨s,e,h1,h2,h3⟩,p2⟩:=z9;subst e;have h71:=Xz d d4;right;refine ht.use (r:=r + 299) 4 p2 λg S3 z0 z1 p3=>?_;obtain ⟨dd,ed,m,rfl,m1⟩:=pick (xs:=[D.int 0,D.int 0,D.int 1,D.int 2]) z0 (by simpa using z1) (p:=λd=>∃m:Nat,d = .int m/\m<=2) (by
  simp only [ue1];exact ⟨⟨0,rfl,by decide⟩,⟨0,rfl,by decide⟩,⟨1,rfl,by decide⟩,⟨2,rfl,by decide⟩,λ_ z=>nomatch z⟩)
 refine Ek ed ?_;right;refine El (Ff m1) ?_;refine Dq (λq t=>∃(s:Sh) (S':List Ob) (e2 e3 e4:Option Sl),s.depth + q.length<=6/\wfB B0 s=true/\CM (80 - 2 * q.length) 3 s/\Room k (r + 200 + 22 * q.length) S'/\t=⟨[some (.val (.obj k)),some (.val s.d),e2,e3,e4],S'⟩) _ _ ⟨s,S3,none,none,none,by rw [AW,uh4];exact Nat.add_le_add (un6 h1 d4) m1,h2,h3.mono (by rw [AW,uh4];lia) (up3 _),p3.mono (by rw [AW,uh4,un1];exact uf4 (un6 (uf4 (uf3 _ m1) _) (by decide)) _),rfl⟩ ?_ ?_
 ·rintro d' q t ⟨s,S',e2,e3,e4,hd,hw,hc,p,rfl⟩ _;rw [ui9] at hd p hc;right;refine hl.use (r:=r + 200 + 22 * q.length + 2) p.loop λl S5 q1 q2 p5=>?_;right;refine ht.use (r:=r + 200 + 22 * q.length + 1) 4 p5 λq' S6 q0 q3 p6=>?_;right;refine ht.use 5 p6 λg2 S7 y0 y1 p7=>?_;obtain ⟨dd,ed,x,rfl,x1,x2,x3⟩:=pick (xs:=[(Sh.list s q').d,(Sh.pair l s).d,(Sh.pair s l).d]++[(Sh.choice [l,s]).d,(Sh.choice [s,l]).d]) y0 (by simpa using y1) (p:=λd=>∃y:Sh,d=y.d/\y.depth<=s.depth + 1/\wfB B0 y=true/\CM (80 - 2 * q.length) 3 y) (by
   have ls:=un6 q1 s.depth_pos;have ss:=up3 s.depth;have cl:=CM.leaf (c:=1) (q:=3) q1 q2 (up3 _);have hq2:q.length < 5:=by have:=s.depth_pos;clear p p5 p6 p7;lia
   have cw:∀{y:Sh},CM (80 - 2 * (q.length + 1) + 1 + 1) 3 y->CM (80 - 2 * q.length) 3 y:=λh=>h.mono (by clear p p5 p6 p7;lia) (up3 _);have cw':∀{y:Sh},CM (1 + (80 - 2 * (q.length + 1)) + 1) 3 y->CM (80 - 2 * q.length) 3 y:=λh=>h.mono (by clear p p5 p6 p7;lia) (up3 _);simp only [uj4,uk7,ue1];exact ⟨⟨_,rfl,GO ss,DF q0 (IY q3 (by decide)) hw,(hc.list (by lia)).mono (by clear p p5 p6 p7;lia) (up3 _)⟩,⟨_,rfl,Fv ls ss,Cc q2 hw,cw' (cl.pair hc)⟩,⟨_,rfl,Fv ss ls,Cc hw q2,cw (hc.pair cl)⟩,⟨_,rfl,Kz ls ss,HF q2 hw,cw' (cl.two hc)⟩,⟨_,rfl,Kz ss ls,HF hw q2,cw (hc.two cl)⟩,λ_ z=>nomatch z⟩)
  rw [Sh.d,Sh.d,Sh.d,Sh.d,Sh.d,shD,shD,shD,shD,shD] at ed;refine Ek ed ?_;right;exact ⟨x,S7,_,_,_,Nb x1 hd,x2,x3,p7,rfl⟩
 ·rintro t ⟨s,S',e2,e3,e4,hd,hw,hc,p,rfl⟩;replace p:Room k (r + 200) S':=p;right;refine ht.use (r:=r + 199) 8 p λg2 S7 y0 y1 p7=>?_;right;refine AE (λz=>?_) λz=>?_
  ·right;refine hr.use (r:=r + 119) p7 λa S8 a1 a2 a3 p8=>?_;right;refine hr.use (r:=r + 39) p8 λb S9 b1 b2 b3 p9=>?_;right;exact ⟨⟨.pair a b,by rw [Sh.d],Fv (uh6 a1) (uh6 b1),Cc a2 b2,(a3.pair b3).mono (by decide) (up3 _)⟩,p9.drop⟩
  ·right;exact ⟨⟨s,rfl,hd,hw,hc.mono (by lia) (up3 _)⟩,p7.drop⟩
def KO (f:Fn):Prop:=∀(k r:Nat) (S:List Ob),Room k (r + 3000) S->Wf f [.obj k] S λv S'=>(∃ss:List Sh,v = .tup [.str "choice",.tup (ss.map Sh.d)]/\4<=ss.length/\ss.length<=8/\∀x∈ss,x.depth<=5/\wfB B0 x=true/\CM 7 3 x)/\Room k r S'
theorem T6 (ht:PTakeOk ct)(hr:PRecC cr)(hl:PLeafOk cl):KO (fnOf 1 6 (E5 ct cr cl)):=by
 intro k r S p0;refine Al rfl ?_;unfold E5;right;refine ht.use (r:=r + 2999) 5 p0 λi S1 i0 i1 p1=>?_;right;obtain ⟨n,e⟩:=ub7 (um2 (by decide:(0:Int)<=4) i0);have n4:4<=n/\n<=8:=by clear p0 p1;lia
 rw [e];refine El (Ff n4.2) ?_;refine Dq (λq t=>∃(ss:List Sh) (S':List Ob) (e2 e3 e4 e5:Option Sl),ss.length + q.length=n/\(∀s∈ss,s.depth<=5/\wfB B0 s=true/\CM 7 3 s)/\Room k (r + 122 * q.length) S'/\t=⟨[some (.val (.obj k)),some (.own (ss.map Sh.d)),e2,e3,e4,e5],S'⟩) _ _ ⟨[],S1,none,none,none,none,by simp [Bs],by simp,p1.mono (by rw [AW,uh4];exact uf4 (un6 (uf3 _ n4.2) (by decide)) _),rfl⟩ ?_ ?_
 ·rintro d q t ⟨ss,S',e2,e3,e4,e5,hl1,hs,p,rfl⟩ _;rw [ui9] at hl1 p;right;refine hl.use (r:=r + 122 * q.length + 102) p.loop λa S2 a1 a2 p2=>?_;right;refine hl.use (r:=r + 122 * q.length + 82) p2 λb S3 b1 b2 p3=>?_;right;refine ht.use (r:=r + 122 * q.length + 81) 4 p3 λq' S4 q0 q1 p4=>?_;right;refine hr.use (r:=r + 122 * q.length + 1) p4 λc S5 c1 c2 c3 p5=>?_;right;refine ht.use 5 p5 λg S6 z0 z1 p6=>?_;obtain ⟨dd,ed,x,rfl,x1,x2,x3⟩:=pick (xs:=[a.d,(Sh.pair a b).d,(Sh.list a q').d,(Sh.choice [a,b]).d]++[c.d]) z0 (by simpa using z1) (p:=λd=>∃s:Sh,d=s.d/\s.depth<=5/\wfB B0 s=true/\CM 7 3 s) (by
   have ca:=CM.leaf (c:=1) (q:=3) a1 a2 (up3 _);have cb:=CM.leaf (c:=1) (q:=3) b1 b2 (up3 _);simp only [uj4,uk7,ue1];exact ⟨⟨_,rfl,Ez a1,a2,ca.mono (by decide) (up3 _)⟩,⟨_,rfl,Fv (Ez a1) (Ez b1),Cc a2 b2,(ca.pair cb).mono (by decide) (up3 _)⟩,⟨_,rfl,GO (Ez a1),DF q0 (IY q1 (by decide)) a2,(ca.list (by lia)).mono (by decide) (up3 _)⟩,⟨_,rfl,Kz (Ez a1) (Ez b1),HF a2 b2,(ca.two cb).mono (by decide) (up3 _)⟩,⟨_,rfl,uh6 c1,c2,c3⟩,λ_ z=>nomatch z⟩)
  rw [Sh.d,Sh.d,Sh.d,shD,shD,shD] at ed;refine Ek ed ?_;right;refine AZ (Do (n:=8) (by rw [uk5];exact un6 (uf4 (uj3 (up5 _)) _) (un6 (Nat.le_of_eq hl1) n4.2))) ?_;exact ⟨ss++[x],S6,_,_,_,_,LB hl1,EU hs ⟨x1,x2,x3⟩,p6,t6m (by rw [ul3];rfl)⟩
 ·rintro t ⟨ss,S',e2,e3,e4,e5,hl1,hs,p,rfl⟩;replace hl1:ss.length=n:=hl1;subst hl1;right;exact ⟨⟨ss,rfl,n4.1,n4.2,hs⟩,p.drop⟩
structure VaryC (k r:Nat)(B:Int)(dp c q:Nat)(v:D)(S':List Ob):Prop where
 ex:∃r':Sh,v=r'.d/\r'.depth<=dp/\wfB (B + 255) r'=true/\CM (c + 1) (q + 2) r'
 pool:Room k r S'
def Hg (f:Fn)(m:Nat):Prop:=∀(s:Sh) (k r:Nat) (B:Int) (S:List Ob),s.depth<=m->wfB B s=true->B0<=B->Room k (r + 60 * m) S->Wf f [.obj k,s.d] S λv S'=>VaryC k r B s.depth (cnt s) (mst s) v S'
def R7 (f:Fn)(m:Nat):Prop:=∀(ss:List Sh) (k r:Nat) (B:Int) (S:List Ob),(∀x∈ss,x.depth<=m/\wfB B x=true)->1<=ss.length->ss.length<=9->B0<=B->Room k (r + 60 * m + 30) S->Wf f [.obj k,.tup (shD ss)] S λv S'=>VaryC k r B (A7 ss + 1) (cnt (.choice ss)) (mst (.choice ss)) v S'
theorem Fi {r:Nat}{dp c q:Nat}(h1:1<=rs.length)(h2:rs.length<=9)(h:∀x∈rs,x.depth<=dp/\wfB (B + 255) x=true)(hc:AT rs<=c)(hq:∀x∈rs,mst x<=q + 2)(p:Room k r S'){ds:List D}(e:ds=rs.map Sh.d):VaryC k r B (dp + 1) c q (.tup [.str "choice",.tup ds]) S':=
 ⟨⟨.choice rs,by rw [Sh.d,C8,e],Lk λx hx=>(h x hx).1,Hf h1 h2 λx hx=>(h x hx).2,CM.choice hc hq⟩,p⟩
theorem LI {x:Sh}(h:x∈ss):mst x<=mst (.choice ss) + 2:=by rw [mst];exact uh6 (uh6 (Gq h))
theorem Qm {r':Sh}{a:Nat}(ha:a < ss.length)(h:cnt r'<=cnt ss[a] + 1):AT (ss.take a++[r']++ss.drop (a + 1))<=cnt (.choice ss):=by
 rw [BI,BI,AT,AT,cnt];have e1:=BI (ss.take a) (ss.drop a);rw [ud4,ub0 ha,AT] at e1;lia
variable {cv:Fn}
theorem WC (hv:Hg cv m)(ht:PTakeOk ct)(hl:PLeafOk cl):R7 (fnOf 2 5 (Cw cv ct cl)) m:=by
 intro ss k r B S hw h1 h9 hB0 p0;have hm1:=Hb h1;have hall:∀x∈ss,x.depth<=A7 ss/\wfB (B + 255) x=true:=λx hx=>⟨AO hx,A4 KK (A7 ss) x (AO hx) (hw x hx).2⟩;refine Al rfl ?_;unfold Cw;right;refine ht.use (r:=r + 60 * m + 29) 4 p0 λw S1 w0 w1 p1=>?_;have last:∀(a:Nat) (e4:Option Sl) (S5:List Ob),a < ss.length->Room k (r + 60 * m) S5->W (Ak (Av (Aa (fC (.str "choice")) (Aa (Ac (Ac (fSl (Ab 1) fNo (Cd (Ab 3)) BU) (Av (Aa (Ae cv (Aa (Ab 0) (Aa (Ac (Ab 1) (Ab 3) ixD) Ad))) Ad)) Aw) (fSl (Ab 1) (Cd (Ac (Ab 3) (fC (.int 1)) Aw)) fNo BU) Aw) Ad)))) ⟨[some (.val (.obj k)),some (.val (.tup (shD ss))),some (.val (.int w)),some (.val (.int a)),e4],S5⟩ λo t=>match o with
  | .ret v=>VaryC k r B (A7 ss + 1) (cnt (.choice ss)) (mst (.choice ss)) v t.S
  | .next=>VaryC k r B (A7 ss + 1) (cnt (.choice ss)) (mst (.choice ss)) .non t.S
  | _=>False:=by
  intro a e4 S5 ha p5;have hx:=uj0 ha;right;rw [Ge (uf8 a) (by rw [AJ];exact up0.mpr (un7 ha)),uh4];right;refine DC (Es ha) ?_;right;refine (hv ss[a] k r B S5 (hw _ hx).1 (hw _ hx).2 hB0 p5).mono λv S6 z9=>?_;obtain ⟨⟨r',e,g1,g2,g3⟩,p6⟩:=z9;subst e;right;refine FZ (Do (n:=10) (uj3 (un6 (List.length_take_le' _ _) (by rw [AJ];exact h9)))) ?_;right;rw [show (a:Int) + 1=((a + 1:Nat):Int) from rfl,Gc (uf8 _) (by rw [AJ];exact up0.mpr ha),uh4];refine FZ (Do (n:=9) (by rw [<-ug0,Ib (by rw [AJ];exact ha),AJ];exact h9)) ?_;right;refine Fi (rs:=ss.take a++[r']++ss.drop (a + 1)) (by rw [Ib ha];exact h1) (by rw [Ib ha];exact h9) (LG hall ⟨un6 g1 (AO hx),g2⟩) (Qm ha g3.c) (LG (λx hx=>LI hx) (un6 g3.m (ue4 (by rw [mst];exact Gq hx) 2))) p6 ?_
  ·rw [C8,ul3,ul3,List.map_take,List.map_drop];rfl
 have loop:∀(S3:List Ob),Room k (r + 60 * m + 1) S3->W (Ag (Aq 3 (Ae ct (Aa (Ab 0) (Aa (fB (Aa (Ab 1) Ad) AC) Ad))))
 (Ag (CK (BB (Aa (fB (Aa (Ab 1) Ad) AC) Ad)) (Ao 4)
   (ifS (D4 (Aj (Ac (Ab 2) (fC (.int 2)) (eqS id))) (Aj (Ac (Ac (Ac (Ab 1) (Ab 4) ixD) (fC (.int 0)) ixD) (Ap (AI (Aa (fC (.str "list")) (Aa (fC (.str "pair")) (Aa (fC (.str "choice")) Ad))))) (inD false))))
   (Aq 3 (Ab 4))
   Am))
 (Ak (Av (Aa (fC (.str "choice")) (Aa (Ac (Ac (fSl (Ab 1) fNo (Cd (Ab 3)) BU) (Av (Aa (Ae cv (Aa (Ab 0) (Aa (Ac (Ab 1) (Ab 3) ixD) Ad))) Ad)) Aw) (fSl (Ab 1) (Cd (Ac (Ab 3) (fC (.int 1)) Aw)) fNo BU) Aw) Ad)))))) ⟨[some (.val (.obj k)),some (.val (.tup (shD ss))),some (.val (.int w)),none,none],S3⟩ λo t=>match o with
   | .ret v=>VaryC k r B (A7 ss + 1) (cnt (.choice ss)) (mst (.choice ss)) v t.S
   | .next=>VaryC k r B (A7 ss + 1) (cnt (.choice ss)) (mst (.choice ss)) .non t.S
   | _=>False:=by
   intro S3 p3;right;rw [AJ];refine ht.use (ss.length:Int) p3 (λa S5 a0 a1 p5=>?_) rfl (up1.mpr h1) (Int.lt_of_le_of_lt (up0.mpr h9) (by decide));obtain ⟨a,rfl⟩:=ub7 a0;right;rw [AJ];refine El (Ff h9) ?_;refine Dq (λq t=>∃(j a:Nat) (e4:Option Sl),a < ss.length/\q=(Bs 0 ((ss.length:Nat):Int).toNat).drop j/\t=⟨[some (.val (.obj k)),some (.val (.tup (shD ss))),some (.val (.int w)),some (.val (.int a)),e4],S5⟩) _ _ ⟨0,a,none,up1.mp a1,rfl,rfl⟩ ?_ ?_
   ·rintro d q t ⟨j,b,e4,hb,hr,rfl⟩ _;obtain ⟨rfl,hr',hjn⟩:=L4 hr;rw [uh4] at hjn;rw [uo7];right;refine AE (λz=>?_) λz=>?_
    ·right;refine DC (Es hjn) ?_;obtain ⟨es,ee⟩:=DN ss[j];rw [ee];right;refine Xa ⟨rfl,rfl⟩ ?_;right;refine AE (λy=>?_) λy=>?_
     ·right;exact ⟨j + 1,j,_,hjn,hr',rfl⟩
     ·right;exact ⟨j + 1,b,_,hb,hr',rfl⟩
    ·right;exact ⟨j + 1,b,_,hb,hr',rfl⟩
   ·rintro t ⟨j,b,e4,hb,hr,rfl⟩;refine Cn ?_;exact last b e4 S5 hb p5
 have ends:W (Ag (ifS (D4 (Aj (Ac (Ab 2) (fC (.int 1)) (eqS id))) (Aj (Ac (fB (Aa (Ab 1) Ad) AC) (fC (.int 9)) ltA)))
  (Ak (Av (Aa (fC (.str "choice")) (Aa (Ac (Ab 1) (Av (Aa (Ae cl (Aa (Ab 0) Ad)) Ad)) Aw) Ad))))
  Am)
 (Ag (Aq 3 (Ae ct (Aa (Ab 0) (Aa (fB (Aa (Ab 1) Ad) AC) Ad))))
 (Ag (CK (BB (Aa (fB (Aa (Ab 1) Ad) AC) Ad)) (Ao 4)
   (ifS (D4 (Aj (Ac (Ab 2) (fC (.int 2)) (eqS id))) (Aj (Ac (Ac (Ac (Ab 1) (Ab 4) ixD) (fC (.int 0)) ixD) (Ap (AI (Aa (fC (.str "list")) (Aa (fC (.str "pair")) (Aa (fC (.str "choice")) Ad))))) (inD false))))
   (Aq 3 (Ab 4))
   Am))
 (Ak (Av (Aa (fC (.str "choice")) (Aa (Ac (Ac (fSl (Ab 1) fNo (Cd (Ab 3)) BU) (Av (Aa (Ae cv (Aa (Ab 0) (Aa (Ac (Ab 1) (Ab 3) ixD) Ad))) Ad)) Aw) (fSl (Ab 1) (Cd (Ac (Ab 3) (fC (.int 1)) Aw)) fNo BU) Aw) Ad))))))) ⟨[some (.val (.obj k)),some (.val (.tup (shD ss))),some (.val (.int w)),none,none],S1⟩ λo t=>match o with
   | .ret v=>VaryC k r B (A7 ss + 1) (cnt (.choice ss)) (mst (.choice ss)) v t.S
   | .next=>VaryC k r B (A7 ss + 1) (cnt (.choice ss)) (mst (.choice ss)) .non t.S
   | _=>False:=by
   right;refine AE (λz=>?_) λz=>?_
   ·right;rw [AJ];refine AE (λy=>?_) λy=>?_
    ·have y':ss.length < 9:=by have:=uh8 y;lia
     right;refine hl.use (r:=r + 60 * m + 9) p1 λl S2 l1 l2 p2=>?_;right;refine FZ (Do (n:=10) (by rw [AJ];exact uj3 h9)) ?_;right;have el:(ss++[l]).length=ss.length + 1:=by rw [ug0];rfl
     refine Fi (rs:=ss++[l]) (by rw [el];exact uj3 (up5 _)) (by rw [el];exact y') (EU hall ⟨un6 l1 hm1,A4 (Oi hB0) 1 l l1 l2⟩) (by rw [BI,AT,AT,cnt];have:=(ET l1 l2).1;lia) (EU (λx hx=>LI hx) (un6 (ET l1 l2).2 (up5 _))) p2.drop.drop ?_
     ·rw [C8,ul3];rfl
    ·refine HE ?_;refine Cn ?_;exact loop S1 (p1.drop (r:=r + 60 * m + 1) (m:=28))
   ·refine HE ?_;refine Cn ?_;exact loop S1 (p1.drop (r:=r + 60 * m + 1) (m:=28))
 right;refine AE (λz=>?_) λz=>?_
 ·right;rw [AJ];refine AE (λy=>?_) λy=>?_
  ·have y':1 < ss.length:=by have:=uh8 y;lia
   right;obtain ⟨xs,x,rfl⟩:∃xs x,ss=xs++[x]:=⟨ss.dropLast,ss.getLast (by intro e;rw [e] at h1;simp at h1),(List.dropLast_concat_getLast _).symm⟩;rw [C8,ul3,show (xs.map Sh.d++[x].map Sh.d)=xs.map Sh.d++[x.d] from rfl,Ia];rw [ug0] at y' h9;simp only [ui9,ul5] at y' h9;exact Fi (rs:=xs) (Nat.le_of_lt_succ y') (Nat.le_of_succ_le h9) (λy hy=>hall y (ud7 _ hy)) (by rw [cnt,BI];lia) (λy hy=>LI (ud7 _ hy)) p1.drop.drop rfl
  ·refine HE ?_;refine Cn ?_;exact ends
 ·refine HE ?_;refine Cn ?_;exact ends
theorem Vf {g:Int}(h0:0<=q)(h:g < 5):(if (if q + g - 2 < 250 then q + g - 2 else 250) > 0 then (if q + g - 2 < 250 then q + g - 2 else 250) else 0)<=q + 2:=by (repeat' split) <;> lia
theorem WB {cn:Fn}(ht:PTakeOk ct)(hv:m=0\/Hg cv m)(hc:R7 cc m)(hn:Jn cn)(hl:PLeafOk cl):Hg (fnOf 2 3 (Eb ct cv cc cn cl)) (m + 1):=by
 intro s k r B S hd hw hB0 p0;have rec_:∀{s':Sh} {r':Nat} {S':List Ob} {P:D->List Ob->Prop},s'.depth<=m->wfB B s'=true->Room k (r' + 60 * m) S'->(∀v S'',v.depth<=s'.depth->wfB (B + 255) v=true->CM (cnt s' + 1) (mst s' + 2) v->Room k r' S''->P v.d S'')->Wf cv [.obj k,s'.d] S' P:=λ{s' r' S' P} h1 h2 q p=>by
  rcases hv with rfl | hv
  ·exact absurd (uf5 s'.depth_pos h1) (ul2 _)
  ·exact (hv s' k r' B S' h1 h2 hB0 q).mono λv S'' ⟨⟨r',e,g1,g2,g3⟩,q⟩=>by subst e;exact p r' S'' g1 g2 g3 q
 have sp:=s.depth_pos;replace p0:=p0.loop;have leaf:∀{S':List Ob},Room k (r + 60 * m + 59) S'->Wf cl [.obj k] S' λv S''=>VaryC k r B s.depth (cnt s) (mst s) v S'':=λ{S'} q=>hl.use (r:=r + 60 * m + 39) q λl S'' l1 l2 p=>⟨⟨l,rfl,un6 l1 sp,A4 (Oi hB0) 1 l l1 l2,.leaf l1 l2 (uj3 (up5 _))⟩,p.drop.drop⟩;refine Al rfl ?_;unfold Eb
 cases s with
 | nothing=>
   rw [Sh.d];right;exact leaf (p0.drop (r:=r + 60 * m + 59) (m:=1))
 | number lo hi=>
   replace hw:=ZR hw;rw [Sh.d];right;refine ht.use (r:=r + 60 * m + 59) 8 p0 λg S1 z0 z1 p1=>?_;right;refine AE (λz=>?_) λz=>?_
   ·right;exact leaf p1
   right;exact (hn lo hi k (r + 60 * m + 58) B S1 hw p1).mono λv S2 ⟨⟨r',e,g1,g2⟩,p2⟩=>⟨⟨r',e,un6 g1 sp,g2,.leaf g1 g2 (uj3 (up5 _))⟩,p2.drop.drop⟩
 | text q=>
   rw [Sh.d];right;refine ht.use (r:=r + 60 * m + 59) 8 p0 λg S1 z0 z1 p1=>?_;right;refine AE (λz=>?_) λz=>?_
   ·right;exact leaf p1
   right;refine ht.use (r:=r + 60 * m + 58) 5 p1 λg2 S2 y0 y1 p2=>?_;right;rw [show Bh [D.str "text",D.int q] none (some (-1))=[D.str "text"] from Ia (xs:=[D.str "text"])];right;refine ⟨⟨.text (if (if q + g2 - 2 < 250 then q + g2 - 2 else 250) > 0 then (if q + g2 - 2 < 250 then q + g2 - 2 else 250) else 0),by rw [Sh.d];rfl,by simp [Sh.depth],Iz Hi.1 Hi.2,.leaf (Vi _) (Iz (B:=B) Hi.1 Hi.2) (uj3 (up5 _))⟩,p2.drop.drop⟩
 | list s q=>
   have hw':=ZQ hw;rw [Sh.d];right;refine ht.use (r:=r + 60 * m + 59) 8 p0 λg S1 z0 z1 p1=>?_;right;refine AE (λz=>?_) λz=>?_
   ·right;exact leaf p1
   right;refine ht.use (r:=r + 60 * m + 58) 3 p1 λg3 S3 x0 x1 p3=>?_;right;refine AE (λy=>?_) λy=>?_
   ·right;refine rec_ (Vl hd) hw'.2.2 p3.drop λr' S4 g1 g2 g3 p4=>?_;right;exact ⟨⟨.list r' q,by rw [Sh.d],YG g1,DF hw'.1 hw'.2.1 g2,⟨by rw [cnt,cnt];exact uj3 g3.c,by rw [mst,mst];have:=g3.m;lia⟩⟩,p4⟩
   ·right;refine ht.use (r:=r + 60 * m + 57) 5 p3 λg2 S2 y0 y1 p2=>?_;right;rw [show Bh [D.str "list",s.d,D.int q] none (some (-1))=[D.str "list",s.d] from Ia (xs:=[D.str "list",s.d])];right;refine ⟨⟨.list s (if (if q + g2 - 2 < 250 then q + g2 - 2 else 250) > 0 then (if q + g2 - 2 < 250 then q + g2 - 2 else 250) else 0),by rw [Sh.d];rfl,up3 _,DF Hi.1 Hi.2 (A4 KK s.depth s (up3 _) hw'.2.2),⟨by rw [cnt,cnt];lia,by rw [mst,mst];have:=Vf hw'.1 y1;lia⟩⟩,p2.drop.drop⟩
 | pair a b=>
   have DD:=Qq hd;replace hw:=ZS hw;rw [Sh.d];right;refine ht.use (r:=r + 60 * m + 59) 8 p0 λg S1 z0 z1 p1=>?_;right;refine AE (λz=>?_) λz=>?_
   ·right;exact leaf p1
   right;refine ht.use (r:=r + 60 * m + 58) 2 p1 λi S2 i0 i1 p2=>?_;have hi:=R1 i0 i1;rcases hi with rfl | rfl
   ·right;refine rec_ DD.1 hw.1 p2.drop λr' S4 g1 g2 g3 p4=>?_;right;rw [show Bh [D.str "pair",a.d,b.d] none (some (1 + 0))=[D.str "pair"] from by rw [Ge (by decide) (by simp)];rfl];right;rw [show Bh [D.str "pair",a.d,b.d] (some (1 + 0 + 1)) none=[b.d] from by rw [Gc (by decide) (by simp)];rfl];refine FZ (Do (n:=3) (by simp)) ?_;right;exact ⟨⟨.pair r' b,by rw [Sh.d];rfl,Vj g1 (up3 _),Cc g2 (A4 KK b.depth b (up3 _) hw.2),⟨by rw [cnt,cnt];have:=g3.c;lia,by rw [mst,mst];have:=g3.m;lia⟩⟩,p4⟩
   ·right;refine rec_ DD.2 hw.2 p2.drop λr' S4 g1 g2 g3 p4=>?_;right;rw [show Bh [D.str "pair",a.d,b.d] none (some (1 + 1))=[D.str "pair",a.d] from by rw [Ge (by decide) (by simp)];rfl];right;rw [show Bh [D.str "pair",a.d,b.d] (some (1 + 1 + 1)) none=[] from by rw [Gc (by decide) (by simp)];rfl];refine FZ (Do (n:=3) (by simp)) ?_;right;exact ⟨⟨.pair a r',by rw [Sh.d];rfl,Vj (up3 _) g1,Cc (A4 KK a.depth a (up3 _) hw.1) g2,⟨by rw [cnt,cnt];have:=g3.c;lia,by rw [mst,mst];have:=g3.m;lia⟩⟩,p4⟩
 | choice ss=>
   have hd':=Vk hd;obtain ⟨w0,w1,w2⟩:=R0 hw;rw [Sh.d];right;refine ht.use (r:=r + 60 * m + 59) 8 p0 λg S1 z0 z1 p1=>?_;right;refine AE (λz=>?_) λz=>?_
   ·right;exact leaf p1
   right;exact (hc ss k r B S1 (λx hx=>⟨hd' x hx,w2 x hx⟩) w0 w1 hB0 (p1.drop (r:=r + 60 * m + 30) (m:=29))).mono λv S2 ⟨⟨r',e,g1,g2,g3⟩,p2⟩=>⟨⟨r',e,by rw [Sh.depth];exact g1,g2,g3⟩,p2⟩
def TwoC (v:D):Prop:=∃s t:Sh,v = .tup [s.d,t.d]/\(s.depth<=6/\wfB B3 s=true/\CM 83 9 s)/\(t.depth<=6/\wfB B3 t=true/\CM 83 9 t)
def Nj (f:Fn):Prop:=∀(k r:Nat) (S:List Ob),Room k (r + 8000) S->Wf f [.obj k] S λv S'=>TwoC v/\Room k r S'
theorem two_pickC {x:Sh}(hs:s.depth<=6/\wfB B3 s=true/\CM 83 9 s)(hx:x.depth<=6/\wfB B3 x=true/\CM 83 9 x):∀d∈[D.tup [s.d,x.d],D.tup [x.d,s.d]],TwoC d:=by
 simp only [ue1];exact ⟨⟨s,x,rfl,hs,hx⟩,⟨x,s,rfl,hx,hs⟩,λ_ z=>nomatch z⟩
theorem Wz (ht:PTakeOk ct)(hs:Mu cs)(hv:Hg cv 6):Nj (fnOf 1 4 (Fz ct cs cv)):=by
 intro k r S p0;refine Al rfl ?_;unfold Fz;right;refine (hs k (r + 5000) S p0).mono λv S1 z9=>?_;obtain ⟨⟨s,e,sd,sw,sc⟩,p1⟩:=z9;subst e;have s3:=A4 (C:=B3) (by decide) 6 s sd sw;right;refine ht.use (r:=r + 4999) 4 p1 λi S2 i0 i1 p2=>?_;right;obtain ⟨n,rfl⟩:=ub7 i0;have n3:n<=3:=Nat.le_of_lt_succ (up1.mp i1);refine El (Ff n3) ?_;refine Dq (λq t=>∃(x:Sh) (j:Nat) (S':List Ob) (e3:Option Sl),j + q.length=n/\x.depth<=6/\wfB (B0 + 255 * (j:Int)) x=true/\CM (80 + j) (3 + 2 * j) x/\Room k (r + 3500 + 360 * q.length) S'/\t=⟨[some (.val (.obj k)),some (.val s.d),some (.val x.d),e3],S'⟩) _ _ ⟨s,0,S2,none,by rw [AW,uh4,Nat.zero_add],sd,sw,sc,p2.mono (by rw [AW,uh4,un1];exact uf4 (un6 (uf4 (uf3 _ n3) _) (by decide)) _),rfl⟩ ?_ ?_
 ·rintro d q t ⟨x,j,S',e3,hj,xd,xw,xc,p,rfl⟩ _;rw [ui9] at hj p;right;refine (hv x k (r + 3500 + 360 * q.length) (B0 + 255 * (j:Int)) S' xd xw UZ p.loop).mono λv S'' z9=>?_;obtain ⟨⟨y,e,yd,yw,yc⟩,p'⟩:=z9;subst e;exact ⟨y,j + 1,S'',_,O0 hj,un6 yd xd,by rw [KL];exact yw,yc.mono (by have:=xc.c;lia) (by have:=xc.m;lia),p',rfl⟩
 ·rintro t ⟨x,j,S',e3,hj,xd,xw,xc,p,rfl⟩;replace hj:j=n:=hj;subst hj;have x3:=A4 (R3 n3) 6 x xd xw;replace p:Room k (r + 3500) S':=p.drop;right;refine ht.use (r:=r + 3499) 4 p λg S3 z0 z1 p3=>?_;right;refine AE (λz=>?_) λz=>?_
  ·right;refine (hs k (r + 499) S3 p3).mono λv S4 z9=>?_;obtain ⟨⟨y,e,yd,yw,yc⟩,p4⟩:=z9;subst e;right;refine ht.use (r:=r + 498) 2 p4 λg S5 z0 z1 p5=>?_;obtain ⟨dd,ed,hT⟩:=pick (xs:=[D.tup [s.d,y.d],D.tup [y.d,s.d]]) z0 (by simpa using z1) (p:=TwoC) (two_pickC ⟨sd,s3,sc.mono (by decide) (by decide)⟩ ⟨yd,A4 (C:=B3) (by decide) 6 y yd yw,yc.mono (by decide) (by decide)⟩);refine Ek ed ?_;exact ⟨hT,p5.drop⟩
  ·right;refine ht.use (r:=r + 3498) 2 p3 λg S5 z0 z1 p5=>?_;obtain ⟨dd,ed,hT⟩:=pick (xs:=[D.tup [s.d,x.d],D.tup [x.d,s.d]]) z0 (by simpa using z1) (p:=TwoC) (two_pickC ⟨sd,s3,sc.mono (by decide) (by decide)⟩ ⟨xd,x3,xc.mono (by lia) (by lia)⟩);refine Ek ed ?_;exact ⟨hT,p5.drop⟩
theorem two_menusC {xs:List Sh}(j3:j<=2)(l4:4<=ss.length)(l8:ss.length<=8)(hl:xs.length=ss.length)(h:∀x∈ss,x.depth<=5/\wfB B0 x=true/\CM 7 3 x)(h':∀x∈xs,x.depth<=5/\wfB (B0 + 255 * (j:Int)) x=true/\CM (7 + j) (3 + 2 * j) x):TwoC (.tup [.tup [.str "choice",.tup (ss.map Sh.d)],.tup [.str "choice",.tup (xs.map Sh.d)]]):=by
 have c1:=Ga (ss:=ss) (c:=7) λx hx=>(h x hx).2.2.c;have c2:=Ga (ss:=xs) (c:=9) λx hx=>un6 (h' x hx).2.2.c (by lia);exact ⟨.choice ss,.choice xs,by rw [Sh.d,Sh.d,C8,C8],⟨Lk λx hx=>(h x hx).1,Hf (un6 (by decide) l4) (uh6 l8) λx hx=>A4 (C:=B3) (by decide) 5 x (h x hx).1 (h x hx).2.1,(CM.choice (c:=82) (by lia) λx hx=>un6 (h x hx).2.2.m (by decide)).mono (by decide) (up3 _)⟩,
  ⟨Lk λx hx=>(h' x hx).1,Hf (by rw [hl];exact un6 (by decide) l4) (by rw [hl];exact uh6 l8) λx hx=>A4 (R3 (uh6 j3)) 5 x (h' x hx).1 (h' x hx).2.1,(CM.choice (c:=82) (by lia) λx hx=>un6 (h' x hx).2.2.m (by lia)).mono (by decide) (up3 _)⟩⟩
def Jl (f:Fn):Prop:=∀(k r:Nat) (S:List Ob),Room k (r + 4000) S->Wf f [.obj k] S λv S'=>TwoC v/\Room k r S'
theorem Q5 {cm:Fn}(ht:PTakeOk ct)(hv:Hg cv 6)(hm:KO cm):Jl (fnOf 1 5 (EG ct cv cm)):=by
 intro k r S p0;refine Al rfl ?_;unfold EG;right;refine (hm k (r + 1000) S p0).mono λv S1 z9=>?_;obtain ⟨⟨ss,e,l4,l8,hall⟩,p1⟩:=z9;subst e;right;refine ht.use (r:=r + 999) 2 p1 λi S2 i0 i1 p2=>?_;right;obtain ⟨n,e⟩:=ub7 (um2 (by decide:(0:Int)<=1) i0);have n2:n<=2:=by clear p0 p1 p2;lia
 rw [e];refine El (Ff n2) ?_;refine Dq (λq t=>∃(xs:List Sh) (j:Nat) (S':List Ob) (e3 e4:Option Sl),j + q.length=n/\xs.length=ss.length/\(∀x∈xs,x.depth<=5/\wfB (B0 + 255 * (j:Int)) x=true/\CM (7 + j) (3 + 2 * j) x)/\Room k (r + 361 * q.length) S'/\t=⟨[some (.val (.obj k)),some (.val (.tup [.str "choice",.tup (ss.map Sh.d)])),some (.own (xs.map Sh.d)),e3,e4],S'⟩) _ _ ⟨ss,0,S2,none,none,by rw [AW,uh4,Nat.zero_add],rfl,hall,p2.mono (by rw [AW,uh4];exact uf4 (un6 (uf3 _ n2) (by decide)) _),rfl⟩ ?_ ?_
 ·rintro d q t ⟨xs,j,S',e3,e4,hj,hl,hx,p,rfl⟩ _;rw [ui9] at hj p;right;refine UO rfl ?_;right;rw [uk5];refine ht.use (r:=r + 361 * q.length + 360) (xs.length:Int) p.loop (λa S3 a0 a1 p3=>?_) rfl (by rw [hl];exact up1.mpr (uf5 (by decide) l4)) (by rw [hl];exact Int.lt_of_le_of_lt (up0.mpr l8) (by decide));obtain ⟨a,rfl⟩:=ub7 a0;have ha:a < xs.length:=up1.mp a1;have hm':=uj0 ha;have eix:ixN (xs.map Sh.d).length (a:Int)=some a:=QI (by rw [uk5];exact ha);right;refine Xb rfl ?_;right;refine ⟨_,_,(xs[a]).d,rfl,rfl,by unfold atI;rw [eix];show (xs.map Sh.d)[a]?=_;rw [ug8,ub2 ha];rfl,?_⟩;right;refine (hv xs[a] k (r + 361 * q.length) (B0 + 255 * (j:Int)) S3 (uh6 (hx _ hm').1) (hx _ hm').2.1 UZ p3).mono λv S4 z9=>?_;obtain ⟨⟨y,e,yd,yw,yc⟩,p4⟩:=z9;subst e;right;refine Xc rfl ?_;right;refine ⟨_,_,a,rfl,rfl,eix,?_⟩;refine ⟨xs.set a y,j + 1,S4,some (.val d),some (.val (.int a)),O0 hj,by rw [uk6];exact hl,λx h=>?_,p4,?_⟩
  ·rcases List.mem_or_eq_of_mem_set h with h | h
   ·exact ⟨(hx x h).1,by rw [KL];exact A4 KK 5 x (hx x h).1 (hx x h).2.1,(hx x h).2.2.mono (by lia) (by lia)⟩
   ·subst h;exact ⟨un6 yd (hx _ hm').1,by rw [KL];exact yw,yc.mono (by have:=(hx _ hm').2.2.c;lia) (by have:=(hx _ hm').2.2.m;lia)⟩
  ·exact t5m (List.map_set ..).symm
 ·rintro t ⟨xs,j,S',e3,e4,hj,hl,hx,p,rfl⟩;replace hj:j=n:=hj;subst hj;right;exact ⟨two_menusC n2 l4 l8 hl hall hx,p.drop⟩
theorem Room.gw {r:Nat}(h:Room k r S)(g:Gw S S'):Room k r S':=by
 obtain ⟨a,b,c,e,q⟩:=h;exact ⟨a,b,c,g.get e,q⟩
theorem Room.lt {r:Nat}(h:Room k r S):k < S.length:=by
 obtain ⟨a,b,c,e,q⟩:=h;exact (ua8.mp e).1
mutual
theorem Ow.nodup {S:List Ob}{d v:D}{fp:List Nat}(o:Ow S d v fp):fp.Nodup:=by
 cases o with
 | tup o=>exact Ows.nodup o
 | obj e o n=>exact uk3.mpr ⟨n,Ows.nodup o⟩
 | _=>exact List.nodup_nil
theorem Ows.nodup {S:List Ob}{ds vs:List D}{fp:List Nat}(o:Ows S ds vs fp):fp.Nodup:=by
 cases o with
 | nil=>exact List.nodup_nil
 | cons a b n=>exact List.nodup_append.mpr ⟨Ow.nodup a,Ows.nodup b,λk hk j hj e=>n k hk (e ▸ hj)⟩
end
mutual
theorem Ow.objs {S:List Ob}{d v:D}{fp:List Nat}(o:Ow S d v fp)(h:tm v=true):∀k∈fp,∃ds,S[k]?=some (.lst ds)/\ds.length<=1000:=by
 cases o with
 | tup o=>rw [tm,ui2] at h;exact Ows.objs o h.1
 | obj e o n=>
   rw [tm,ui2,uh7] at h;intro k hk;rcases um5.mp hk with z | z
   ·rw [z];exact ⟨_,e,by rw [o.length];exact h.1⟩
   ·exact Ows.objs o h.2 k z
 | _=>exact λk h=>nomatch h
theorem Ows.objs {S:List Ob}{ds vs:List D}{fp:List Nat}(o:Ows S ds vs fp)(h:tms vs=true):∀k∈fp,∃ds,S[k]?=some (.lst ds)/\ds.length<=1000:=by
 cases o with
 | nil=>exact λk h=>nomatch h
 | cons a b n=>
   rw [tms,ui2] at h;exact λk hk=>(uj9.mp hk).elim (Ow.objs a h.1 k) (Ows.objs b h.2 k)
end
theorem Tw {d:D}{f:List Nat}(hd:s.depth<=1)(hw:wfB B s=true)(hf:Af s v=true)(o:Ow S d v f):f=[]:=by
 cases s with
 | nothing=>rw [B1 hf] at o;cases o;rfl
 | number lo hi=>obtain ⟨i,rfl,_⟩:=Bm hf;cases o;rfl
 | text m=>obtain ⟨x,rfl,_⟩:=B7 hf;cases o;rfl
 | list s q=>rw [Sh.depth] at hd;have:=s.depth_pos;lia
 | pair a b=>rw [Sh.depth] at hd;have:=a.depth_pos;lia
 | choice ss=>have:=Hb (R0 hw).1;rw [Sh.depth] at hd;lia
theorem M4 {a b:Nat}(h:∀{d v:D} {f:List Nat},Af s v=true->Ow S d v f->a<=f.length/\f.length<=b):∀{ds vs:List D} {fp:List Nat},(∀v∈vs,Af s v=true)->Ows S ds vs fp->vs.length * a<=fp.length/\fp.length<=vs.length * b:=by
 intro ds
 induction ds with
 | nil=>intro vs fp _ o;cases o;exact ⟨by simp,by simp⟩
 | cons d ds ih=>
   intro vs fp hv o
   cases o with
   | @cons _ u f1 f2 _ us o1 o2 n=>
     have h1:=h (hv u uf6) o1;have h2:=ih (λv m=>hv v (ud6 _ m)) o2;rw [ug0,ui9,un9,un9];lia
variable {l:Sh}
theorem G8 {d:D}{f:List Nat}(hd:l.depth<=1)(hw:wfB B l=true)(hf:Af (.list l q) v=true)(o:Ow S d v f):f.length=1:=by
 obtain ⟨vs,rfl,_,h⟩:=BN hf
 cases o with
 | obj e o n=>
   have:=(M4 (a:=0) (b:=0) (λhv ow=>by rw [Tw hd hw hv ow];exact ⟨up3 _,up3 _⟩) h o).2;rw [ui9];lia
def Ex (one:Sh):List Sh:=[one,.pair .nothing one,.pair one one,.choice [one,one]]
theorem MV {d:D}{f:List Nat}(hf:Af (.pair a b) v=true)(o:Ow S d v f):∃x y f1 f2 d1 d2,Af a x=true/\Af b y=true/\Ow S d1 x f1/\Ow S d2 y f2/\f.length=f1.length + f2.length:=by
 obtain ⟨x,y,rfl,h1,h2⟩:=B6 hf
 cases o with
 | tup o=>
   cases o with
   | cons o1 o _=>
     cases o with
     | cons o2 o _=>
       cases o
       exact ⟨x,y,_,_,_,_,h1,h2,o1,o2,by rw [ug0,uk2]⟩
theorem QG {d:D}{f:List Nat}(hd:l.depth<=1)(hw:wfB B l=true)(hs:s∈Ex (.list l q))(hf:Af s v=true)(o:Ow S d v f):1<=f.length/\f.length<=2:=by
 simp only [Ex,um5,ui8,or_false] at hs;rcases hs with rfl | rfl | rfl | rfl
 ·have:=G8 hd hw hf o;lia
 ·obtain ⟨x,y,f1,f2,d1,d2,h1,h2,o1,o2,e⟩:=MV hf o;have:=G8 hd hw h2 o2;rw [B1 h1] at o1
  cases o1
  rw [ul5] at e;lia
 ·obtain ⟨x,y,f1,f2,d1,d2,h1,h2,o1,o2,e⟩:=MV hf o;have:=G8 hd hw h1 o1;have:=G8 hd hw h2 o2;lia
 ·obtain ⟨k,x,hk,rfl,h1⟩:=Bl hf;have hk2:k=0\/k=1:=by have:k < 2:=hk;lia
  have h2:Af (.list l q) x=true:=by rcases hk2 with rfl | rfl <;> exact h1
  cases o with
  | tup o=>
    cases o with
    | cons o1 o _=>
      cases o with
      | cons o2 o _=>
        cases o with
        | cons o3 o _=>
          cases o
          cases o1
          cases o2
          have:=G8 hd hw h2 o3;rw [uk7,uk7,uk2];lia
def szD (S:List Ob):D->D
 | .obj k=>match S[k]? with
   | some (.lst ds)=>.int ds.length
   | _=>.non
 | d=>d
theorem Mx {S:List Ob}{e0 e1 e2 e3 e4 e5 e6 e7:Option Sl}:∀{fp:List Nat} {S1:List Ob} {z:Option Sl},fp.Nodup->S1.length=S.length->(∀k∈fp,∃ds,S1[k]?=some (.lst ds)/\ds.length<=1000)->W (CJ (Ao 8) (Dr (objM Dj (Ab 8) (Aa (fC (.str "x")) Ad))) (fp.map .obj)) ⟨[e0,e1,e2,e3,e4,e5,e6,e7,z],S1⟩ λo t=>o = .next/\∃z S',t=⟨[e0,e1,e2,e3,e4,e5,e6,e7,z],S'⟩/\S'.length=S.length/\(∀k,k∉fp->S'[k]?=S1[k]?)/\∀k∈fp,∃ds,S1[k]?=some (.lst ds)/\S'[k]?=some (.lst (ds++[.str "x"]))
 | [],S1,z,_,hl,_=>W_forL_nil.mpr ⟨rfl,z,S1,rfl,hl,λ_ _=>rfl,λ_ h=>nomatch h⟩
 | k :: fp,S1,z,hn,hl,h=>by
   have hL:LIM=100000:=rfl;obtain ⟨ds,e,hd⟩:=h k uf6;have hk1:=(ua8.mp e).1;rw [uk3] at hn;rw [um8];refine W_forL_cons.mpr ?_;symm;refine SE (k:=k) ?_;symm;refine ⟨rfl,_,e,?_⟩;symm;refine ⟨_,_,e,if_pos (by rw [hL];lia),?_⟩;refine (Mx (S:=S) (fp:=fp) hn.2 (by rw [uk6];exact hl) (λj hj=>?_)).mono ?_
   ·have hjk:k≠j:=λz=>hn.1 (z ▸ hj);obtain ⟨es,e',h'⟩:=h j (ud6 _ hj);exact ⟨es,by rw [ud8 hjk];exact e',h'⟩
   ·rintro o t ⟨rfl,z,S',rfl,l1,k1,k2⟩;refine ⟨rfl,z,S',rfl,l1,λj hj=>?_,λj hj=>?_⟩
    ·rw [k1 j λz=>hj (ud6 _ z)];exact ud8 (λz=>hj (by rw [<-z];exact uf6))
    ·rcases um5.mp hj with z | z
     ·subst z;refine ⟨ds,e,?_⟩;rw [k1 j hn.1,ub8 hk1]
     ·have hjk:k≠j:=λy=>hn.1 (y ▸ z);obtain ⟨es,e1,e2⟩:=k2 j z;rw [ud8 hjk] at e1;exact ⟨es,e1,e2⟩
theorem QH (hd:l.depth<=1)(hw:wfB B0 l=true)(hs:s∈Ex (.list l 3)):s.depth<=3/\wf s=true/\cnt s<=5/\mst s<=3:=by
 have c1:=CM.list (m:=3) (CM.leaf (c:=1) (q:=3) hd hw (up3 _)) (by decide);have d1:(Sh.list l 3).depth<=2:=GO hd;have w1:wfB B0 (Sh.list l 3)=true:=DF (by decide) (by decide) hw;have w0:wfB B0 Sh.nothing=true:=by rw [wfB]
 have c0:CM 1 3 Sh.nothing:=CM.leaf Qo w0 (up3 _);have fin:∀{x:Sh},x.depth<=3->wfB B0 x=true->CM 5 3 x->x.depth<=3/\wf x=true/\cnt x<=5/\mst x<=3:=λh1 h2 h3=>⟨h1,Db (B:=B0) (by decide) 3 _ h1 h2,h3.c,h3.m⟩;simp only [Ex,um5,ui8,or_false] at hs;rcases hs with rfl | rfl | rfl | rfl
 ·exact fin (uh6 d1) w1 (c1.mono (by decide) (up3 _))
 ·exact fin (Fv (uh6 Qo) d1) (Cc w0 w1) ((c0.pair c1).mono (by decide) (up3 _))
 ·exact fin (Fv d1 d1) (Cc w1 w1) ((c1.pair c1).mono (by decide) (up3 _))
 ·exact fin (Kz d1 d1) (HF w1 w1) ((c1.two c1).mono (by decide) (up3 _))
theorem L9 (h:∀k∈fp,∃ds,S[k]?=some (.lst ds)/\ds.length<=1000):∀x∈(fp.map D.obj).map (szD S),∃i:Int,x = .int i:=by
 intro x hx;obtain ⟨y,hy,rfl⟩:=uo5.mp hx;obtain ⟨k,hk,rfl⟩:=uo5.mp hy;obtain ⟨ds,e,_⟩:=h k hk;exact ⟨ds.length,by simp only [szD,e]⟩
def KJ (f:Fn):Prop:=∀(k r:Nat) (S:List Ob),Room k (r + 30) S->Wf f [.obj k] S λx S'=>x = .bl true/\Room k r S'
theorem SI (hp:Kt cp 6)(hls:GI cl 6)(ht:PTakeOk ct)(hl:PLeafOk cf):KJ (fnOf 1 9 (Dw cp cl ct cf)):=by
 intro k r S p0;have hL:LIM=100000:=rfl;refine Al rfl ?_;unfold Dw;symm;refine hl.use (r:=r + 10) p0 λl S1 l1 l2 p1=>?_;symm;refine ht.use (r:=r + 9) 4 p1 λg S2 g0 g1 p2=>?_;obtain ⟨dd,ed,inner,rfl,hin⟩:=pick (xs:=(Ex (.list l 3)).map Sh.d) g0 (by simpa [Ex] using g1) (p:=λd=>∃s:Sh,d=s.d/\s∈Ex (.list l 3)) (λd hd=>by
  obtain ⟨s,hs,rfl⟩:=uo5.mp hd;exact ⟨s,rfl,hs⟩)
 simp only [Ex,um8,uo1,Sh.d,shD] at ed;refine Ek ed ?_;obtain ⟨i1,i2,i3,i4⟩:=QH l1 l2 hin;symm;refine ht.use (r:=r + 8) 9 p2 λa S3 a0 a1 p3=>?_;obtain ⟨n,en⟩:=ub7 a0;symm;refine ht.use (r:=r + 7) 5 p3 λb S4 b0 b1 p4=>?_;symm;have hn:(1:Int) + a=((1 + n:Nat):Int):=by lia
 obtain ⟨m,hm⟩:∃m:Nat,(1:Int) + a + 1 + b=(m:Int):=⟨(1 + a + 1 + b).toNat,by clear p0 p1 p2 p3 p4;lia⟩;have hmn:n + 2<=m/\m<=15/\n<=8:=by clear p0 p1 p2 p3 p4;lia
 rw [hm,hn];have hws:wf (.list inner (m:Int))=true:=by simp only [wf,ui2,uh7];exact ⟨by lia,i2⟩
 have hwr:wf (.list inner ((1 + n:Nat):Int))=true:=by simp only [wf,ui2,uh7];exact ⟨by lia,i2⟩
 have hds:(Sh.list inner (m:Int)).depth<=6:=un6 (GO i1) (by decide);have hdr:(Sh.list inner ((1 + n:Nat):Int)).depth<=6:=un6 (GO i1) (by decide);have hnw:An (.list inner (m:Int)) (.list inner ((1 + n:Nat):Int))=false:=by
  rw [An,ud2];exact .inl (ul6 (by lia))
 have hcs:cnt (.list inner (m:Int))<=6:=by rw [cnt];lia
 have hmr:mst (.list inner ((1 + n:Nat):Int))<=9:=by rw [mst];lia
 obtain ⟨v,⟨hv,hvl⟩,hpv,hT⟩:=hp _ _ hds hdr hws hwr (by lia) (by
  have h1:12 * (mst (.list inner ((1 + n:Nat):Int)) + 2)<=132:=by lia
  have h2:=Nat.mul_le_mul h1 hcs;rw [hL];lia) hnw
 have hT':∀S,Wf (Ei cp) [(Sh.list inner (m:Int)).d,(Sh.list inner ((1 + n:Nat):Int)).d] S λx S'=>RetO S S' x v:=λS=>by
  obtain ⟨x,S',e,e1,e2⟩:=hT S;exact ⟨x,S',by unfold Ei;rw [e];simp [e1],e2⟩
 have htm:=B4 6 _ hds hws v hv;obtain ⟨vs,rfl,hvl1,hvs⟩:=BN hv;have hvl2:n + 2<=vs.length:=by
  refine Classical.byContradiction λz=>?_;rcases hpv with y | y
  ·rw [Af,ud2] at y;rcases y with y | y
   ·rw [decide_eq_false_iff_not] at y;lia
   ·rw [ui7.mpr hvs] at y;cases y
  ·exact y (by rw [Au,Au])
 have hT':=hT' S4;rw [Sh.d,Sh.d] at hT';refine hT'.mono ?_;rintro d S5 ⟨g5,fp,o5,q5⟩;have hfp:n + 2 < fp.length/\fp.length<=31:=by
  cases o5 with
  | obj e o nk=>
    have h1:=M4 (λhv ow=>QG l1 l2 hin hv ow) hvs o;rw [ui9];lia
 have hobj:=o5.objs htm;have p5:=p4.gw g5;symm;refine (hls _ hds hws _ hv o5 (by rw [hL];lia)).use ?_;symm;refine (Ew (f:=szD S5) (fr:=[]) (λd hd=>?_)).mono ?_
 ·obtain ⟨j,hj,rfl⟩:=uo5.mp hd;obtain ⟨ds,e,_⟩:=hobj j hj;symm;refine HB e ?_;exact ⟨by simp only [szD,e],rfl⟩
 ·rintro xs t' ⟨rfl,hS⟩;refine AZ (by rw [uk5,uk5,hL];lia) ?_;symm;rw [hS];refine (Mx (S:=S5) o5.nodup rfl hobj).mono ?_;rintro ot t ⟨rfl,z,S6,rfl,l6,k6,j6⟩;have hkf:k∉fp:=λz=>absurd (q5 k z) (by have:=p4.lt;lia);have p6:Room k (r + 7) S6:=by
   obtain ⟨a',b',c',e,q⟩:=p5;exact ⟨a',b',c',by rw [k6 k hkf];exact e,q⟩
  symm;rw [uk5];refine Ig (um3 (by clear p0 p1 p2 p3 p4 p5 p6;lia)) ?_;symm;refine (Ew (f:=szD S5) (fr:=[]) (λd hd=>?_)).mono ?_
  ·obtain ⟨j,hj,rfl⟩:=uo5.mp hd;obtain ⟨ds,e,e'⟩:=j6 j hj;symm;refine HB e' ?_;symm;refine ⟨?_,rfl⟩;simp only [szD,e,ug0,ui9,ul5]
   congr 1
   lia
  ·rintro ys t2 ⟨rfl,hS2⟩;refine AZ (by rw [uk5,uk5,hL];lia) ?_;symm;refine JJ (L9 hobj) (L9 hobj) λb hb=>?_;have hbt:b=true:=hb.mpr rfl;subst hbt;symm;refine ⟨rfl,?_⟩;rw [hS2];exact p6.drop
def KS (f:Fn):Prop:=∀(k r:Nat) (S:List Ob),Room k (r + 2) S->Wf f [.obj k] S λv S'=>(∃a b:Sh,v = .lst [a.d,b.d]/\(a.depth<=6/\wf a=true/\CM 3 0 a)/\(b.depth<=6/\wf b=true/\CM 3 0 b))/\Room k r S'
theorem UB (ht:PTakeOk ct):KS (fnOf 1 4 (DS ct)):=by
 intro k r S p0;refine Al rfl ?_;unfold DS;symm;refine ht.use (r:=r + 1) 5 p0 λg S1 g0 g1 p1=>?_;obtain ⟨dd,ed,h,rfl,h0,h1⟩:=pick (xs:=[D.int 0,D.int 1,D.int 255,D.int 256,D.int 65535]) g0 (by simpa using g1) (p:=λd=>∃m:Int,d = .int m/\0<=m/\m<=70000) (by
  simp only [ue1];exact ⟨⟨_,rfl,by decide,by decide⟩,⟨_,rfl,by decide,by decide⟩,⟨_,rfl,by decide,by decide⟩,⟨_,rfl,by decide,by decide⟩,⟨_,rfl,by decide,by decide⟩,λ_ z=>nomatch z⟩)
 refine Ek ed ?_;symm;refine ht.use (r:=r) 3 p1 λg2 S2 z0 z1 p2=>?_;obtain ⟨dd,ed,h',rfl,h2,h3⟩:=pick (xs:=[D.int 255,D.int 256,D.int 65536]) z0 (by simpa using z1) (p:=λd=>∃m:Int,d = .int m/\0<=m/\m<=70000) (by
  simp only [ue1];exact ⟨⟨_,rfl,by decide,by decide⟩,⟨_,rfl,by decide,by decide⟩,⟨_,rfl,by decide,by decide⟩,λ_ z=>nomatch z⟩)
 refine Ek ed ?_;symm;have hB:B0=300000000000000000:=rfl;have wn:∀{x:Int},0<=x->x<=70000->wfB B0 (.number 0 x)=true:=λa b=>JM (by decide) a (by rw [hB];lia);have cn:∀{x:Int},0<=x->x<=70000->CM 1 0 (.number 0 x):=λa b=>CM.leaf (Jt _ _) (wn a b) (up3 _);have fin:∀{x y:Int},0<=x->x<=70000->0<=y->y<=70000->(Sh.pair (.number 0 x) (.number 0 y)).depth<=6/\wf (Sh.pair (.number 0 x) (.number 0 y))=true/\CM 3 0 (Sh.pair (.number 0 x) (.number 0 y)):=λa b c d=>
  ⟨un6 (Fv (Jt _ _) (Jt _ _)) (by decide),Db (B:=B0) (by decide) 2 _ (Fv (Jt _ _) (Jt _ _)) (Cc (wn a b) (wn c d)),(cn a b).pair (cn c d)⟩
 exact ⟨⟨.pair (.number 0 h) (.number 0 h'),.pair (.number 0 h') (.number 0 h),by simp only [Sh.d],fin h0 h1 h2 h3,fin h2 h3 h0 h1⟩,p2⟩
theorem RightO.use (h:RightO f 6){s r:Sh}{c q:Nat}(hs:s.depth<=6)(hr:r.depth<=6)(ws:wf s=true)(wr:wf r=true)(cs:CM c q s)(cr:CM c q r)(hc:c<=100/\12 * (q + 2) * c + 252<=LIM){k m:Nat}{S:List Ob}(p:Room k m S){P:D->List Ob->Prop}(hP:∀S',Room k m S'->P (.bl true) S'):Wf f [s.d,r.d] S P:=by
 refine (h s r hs hr ws wr (un6 cs.c hc.1) ?_ S).mono ?_
 ·have h1:=Nat.mul_le_mul (uf3 12 (ue4 cr.m 2)) cs.c;lia
 ·rintro x S' ⟨rfl,g⟩;exact hP S' (p.gw g)
theorem VY {ca cm c2:Fn}(ht:PTakeOk ct)(hr:RightO cr 6)(ha:KJ ca)(hl:PLeafOk cl)(hm:Jl cm)(hs:KS cs)(h2:Nj c2)(hp:Jm cp){ns:List Int} :
 Wf (fnOf 1 10 (G3 ct cr ca cl cm cs c2 cp)) [.scr ns] [] λr _=>r = .bl true:=by
 refine Al rfl ?_;unfold G3;symm;obtain ⟨n,en,n20⟩:=m20 ns.length;rw [en];refine El (Ff n20) ?_;refine Dq (λr t=>∃(S:List Ob) (e1 e2 e3 e4 e5 e6 e7 e8 e9:Option Sl),t=⟨[some (.val (.scr ns)),e1,e2,e3,e4,e5,e6,e7,e8,e9],S⟩) _ _ ⟨_,_,_,_,_,_,_,_,_,_,rfl⟩ ?_ ?_
 ·rintro d r t ⟨S,e1,e2,e3,e4,e5,e6,e7,e8,e9,rfl⟩ hd;obtain ⟨i,hi',rfl⟩:=uo5.mp hd;rw [ul7] at hi';rw [uo7];symm;rw [uh4] at hi';refine (hp ns i S (un6 (un7 hi') (un6 n20 (by decide)))).mono λr0 S1 z9=>?_;obtain ⟨e,p1⟩:=z9;subst e;generalize S.length=k at p1;symm;refine (h2 k 5000 S1 (p1.mono (by decide))).mono ?_;rintro v S2 ⟨⟨s,u,rfl,⟨sd,sw,sc⟩,⟨ud,uw,uc⟩⟩,p2⟩;symm;refine (hs k 4900 S2 (p2.mono (by decide))).mono ?_;rintro v S3 ⟨⟨a,b,rfl,⟨ad,aw,ac⟩,⟨bd,bw,bc⟩⟩,p3⟩;symm;refine (hm k 800 S3 (p3.mono (by decide))).mono ?_;rintro v S4 ⟨⟨x,y,rfl,⟨xd,xw,xc⟩,⟨yd,yw,yc⟩⟩,p4⟩;have sw1:=Db (B:=B3) (by decide) 6 s sd sw;have uw1:=Db (B:=B3) (by decide) 6 u ud uw;have xw1:=Db (B:=B3) (by decide) 6 x xd xw;have yw1:=Db (B:=B3) (by decide) 6 y yd yw;have n1:(83:Nat)<=100/\12 * (9 + 2) * 83 + 252<=LIM:=by decide
  have n2:(3:Nat)<=100/\12 * (0 + 2) * 3 + 252<=LIM:=by decide
  have n3:(2:Nat)<=100/\12 * (150 + 2) * 2 + 252<=LIM:=by decide
  symm;refine hr.use xd yd xw1 yw1 xc yc n1 p4 λS5 p5=>?_;symm;refine hr.use yd xd yw1 xw1 yc xc n1 p5 λS6 p6=>?_;symm;refine hr.use sd ud sw1 uw1 sc uc n1 p6 λS7 p7=>?_;symm;refine hr.use ad bd aw bw ac bc n2 p7 λS8 p8=>?_;symm;refine hr.use bd ad bw aw bc ac n2 p8 λS9 p9=>?_;symm;refine hl.use (r:=700) (p9.mono (by decide)) λl S10 l1 l2 p10=>?_;symm;refine (ha k 600 S10 (p10.mono (by decide))).mono ?_;rintro x S11 ⟨rfl,p11⟩;symm;refine ht.use (r:=500) 151 (p11.mono (by decide)) λg S12 g0 g1 p12=>?_;symm;refine ht.use (r:=400) 151 (p12.mono (by decide)) λg' S13 z0 z1 p13=>?_;symm;have ll:∀{g:Int},0<=g->g < 151->(Sh.list l g).depth<=6/\wf (Sh.list l g)=true/\CM 2 150 (Sh.list l g):=λh0 h1=>
   ⟨un6 (GO l1) (by decide),Db (B:=B0) (by decide) 2 _ (GO l1) (DF h0 (uo9 (Int.lt_of_lt_of_le h1 (by decide))) l2),(CM.leaf l1 l2 (up3 _)).list (ue2 h1)⟩
  have q1:=ll g0 g1;have q2:=ll z0 z1;have key:=hr.use (P:=λx S'=>x = .bl true) q1.1 q2.1 q1.2.1 q2.2.1 q1.2.2 q2.2.2 n3 p13 λS' _=>rfl;rw [Sh.d,Sh.d] at key;refine key.mono ?_;rintro x S14 rfl;symm;exact ⟨_,_,_,_,_,_,_,_,_,_,rfl⟩
 ·rintro t ⟨S,e1,e2,e3,e4,e5,e6,e7,e8,e9,rfl⟩;symm;exact rfl
end LW
set_option maxHeartbeats 4000000
namespace F2
open PySem L2 PySem.Spec PySem.W
theorem QU {k:Kd}{P:Program}{w:World}{K:PySem.W.Frag}{mg:Str->Option Value}{base:Heap}{n:Nat}{fa:Addr}{fd:FuncData}{ps:List Str}:okK k P w K mg base n fa fd ps (λ_ _=>none):=by
 cases k <;> exact ⟨λvs H Q E h=>(by obtain ⟨c,ds,S,_,_,r,S',e,_⟩:=h;cases e),λA' outer s H args us vs Q E _ _ _ _ h=>(by obtain ⟨c,ds,S,_,_,r,S',e,_⟩:=h;cases e)⟩
theorem us0 {n:Nat}:∀{us:List Value},us.length=n + 1->∃a vs,us=a :: vs/\vs.length=n
 | _ :: _,h=>⟨_,_,rfl,up2 h⟩
variable {us:List Value}
theorem us1 (h:us.length=1):∃a,us=[a]:=by
 obtain ⟨a,vs,rfl,q⟩:=us0 h;exact ⟨a,by rw [ua1 q]⟩
theorem us2 (h:us.length=2):∃a b,us=[a,b]:=by
 obtain ⟨_,vs,rfl,q⟩:=us0 h;obtain ⟨_,rfl⟩:=us1 q;exact ⟨_,_,rfl⟩
theorem us3 (h:us.length=3):∃a b c,us=[a,b,c]:=by
 obtain ⟨_,vs,rfl,q⟩:=us0 h;obtain ⟨_,_,rfl⟩:=us2 q;exact ⟨_,_,_,rfl⟩
theorem us4 (h:us.length=4):∃a b c d,us=[a,b,c,d]:=by
 obtain ⟨_,vs,rfl,q⟩:=us0 h;obtain ⟨_,_,_,rfl⟩:=us3 q;exact ⟨_,_,_,_,rfl⟩
theorem us5 (h:us.length=5):∃a b c d e,us=[a,b,c,d,e]:=by
 obtain ⟨_,vs,rfl,q⟩:=us0 h;obtain ⟨_,_,_,_,rfl⟩:=us4 q;exact ⟨_,_,_,_,_,rfl⟩
theorem us6 (h:us.length=6):∃a b c d e f,us=[a,b,c,d,e,f]:=by
 obtain ⟨_,vs,rfl,q⟩:=us0 h;obtain ⟨_,_,_,_,_,rfl⟩:=us5 q;exact ⟨_,_,_,_,_,_,rfl⟩
theorem us7 (h:us.length=7):∃a b c d e f g,us=[a,b,c,d,e,f,g]:=by
 obtain ⟨_,vs,rfl,q⟩:=us0 h;obtain ⟨_,_,_,_,_,_,rfl⟩:=us6 q;exact ⟨_,_,_,_,_,_,_,rfl⟩
end F2
namespace K51
open PySem L2 F2 LW
inductive Fx where
 | Cm | AQ | DO | Cl | CZ | CH | CI | B8 | A2 | Bn | Bp | C1 | BF | CF | Ca | By | Da | Cq | Cr | BL | AS | Co | Ba | Ck | AG | AR | BR | Bj | Cj | Cp | AN | AV | AY | Bi | Bk | BZ | BP | BC | CA | BM | BQ | BE | BY | BX | BD | BW | Bo | law_
noncomputable def top (i:Nat):Stmt:=PySem.Challenge.pw_wireparley_k51_parting_values.main.body.getD i (.Pass ⟨0,0,0,0⟩)
noncomputable abbrev nm:Fx->Str
 | .Cm=>"is_number"
 | .AQ=>"is_number_within"
 | .DO=>"fits"
 | .Cl=>"fits_text"
 | .CZ=>"is_sign"
 | .CH=>"fits_list"
 | .CI=>"fits_pair"
 | .B8=>"fits_choice"
 | .A2=>"fitting_bytes"
 | .Bn=>"width_up_to"
 | .Bp=>"number_bytes"
 | .C1=>"leading"
 | .BF=>"is_within"
 | .CF=>"width_of"
 | .Ca=>"parting"
 | .By=>"shows_parting"
 | .Da=>"tries"
 | .Cq=>"list_tries"
 | .Cr=>"pair_tries"
 | .BL=>"choice_tries"
 | .AS=>"least_value"
 | .Co=>"smallest"
 | .Ba=>"values_in"
 | .Ck=>"_law_pool"
 | .AG=>"_law_take"
 | .AR=>"_law_leaf"
 | .BR=>"_law_part"
 | .Bj=>"_law_record"
 | .Cj=>"_law_menu"
 | .Cp=>"_law_shape"
 | .AN=>"_law_varied_number"
 | .AV=>"_law_varied_choice"
 | .AY=>"_law_varied"
 | .Bi=>"_law_places"
 | .Bk=>"_law_within"
 | .BZ=>"_law_signs"
 | .BP=>"_law_fits"
 | .BC=>"_law_bytes"
 | .CA=>"_law_two"
 | .BM=>"_law_refused"
 | .BQ=>"_law_kept"
 | .BE=>"_law_spoil"
 | .BY=>"_law_right"
 | .BX=>"_law_menus"
 | .BD=>"_law_lists"
 | .BW=>"_law_apart"
 | .Bo=>"_law_shifted"
 | .law_=>"law"
abbrev st:Fx->Stmt
 | .Cm=>top 13
 | .AQ=>top 14
 | .DO=>top 15
 | .Cl=>top 16
 | .CZ=>top 17
 | .CH=>top 18
 | .CI=>top 19
 | .B8=>top 20
 | .A2=>top 22
 | .Bn=>top 23
 | .Bp=>top 24
 | .C1=>top 25
 | .BF=>top 27
 | .CF=>top 28
 | .Ca=>top 29
 | .By=>top 30
 | .Da=>top 31
 | .Cq=>top 32
 | .Cr=>top 33
 | .BL=>top 34
 | .AS=>top 35
 | .Co=>top 36
 | .Ba=>top 37
 | .Ck=>top 39
 | .AG=>top 40
 | .AR=>top 41
 | .BR=>top 42
 | .Bj=>top 43
 | .Cj=>top 44
 | .Cp=>top 45
 | .AN=>top 46
 | .AV=>top 47
 | .AY=>top 48
 | .Bi=>top 49
 | .Bk=>top 50
 | .BZ=>top 51
 | .BP=>top 52
 | .BC=>top 53
 | .CA=>top 54
 | .BM=>top 55
 | .BQ=>top 56
 | .BE=>top 57
 | .BY=>top 58
 | .BX=>top 59
 | .BD=>top 60
 | .BW=>top 61
 | .Bo=>top 62
 | .law_=>top 63
noncomputable abbrev ps:Fx->List Str
 | .Cm=>["thing"]
 | .AQ=>["thing", "low", "high"]
 | .DO=>["s", "thing"]
 | .Cl=>["s", "thing"]
 | .CZ=>["number"]
 | .CH=>["s", "thing"]
 | .CI=>["s", "thing"]
 | .B8=>["s", "thing"]
 | .A2=>["s", "value"]
 | .Bn=>["most"]
 | .Bp=>["number", "width"]
 | .C1=>["number", "cut"]
 | .BF=>["s", "r"]
 | .CF=>["s"]
 | .Ca=>["s", "r"]
 | .By=>["s", "r", "value"]
 | .Da=>["s", "r"]
 | .Cq=>["s", "r"]
 | .Cr=>["s", "r"]
 | .BL=>["s", "r"]
 | .AS=>["s"]
 | .Co=>["values"]
 | .Ba=>["value"]
 | .Ck=>["script", "k"]
 | .AG=>["pool", "many"]
 | .AR=>["pool"]
 | .BR=>["pool", "deep"]
 | .Bj=>["pool"]
 | .Cj=>["pool"]
 | .Cp=>["pool"]
 | .AN=>["pool", "low", "high"]
 | .AV=>["pool", "shapes"]
 | .AY=>["pool", "s"]
 | .Bi=>["low", "high"]
 | .Bk=>["s", "r"]
 | .BZ=>["text"]
 | .BP=>["s", "thing"]
 | .BC=>["s", "value"]
 | .CA=>["pool"]
 | .BM=>["s", "r"]
 | .BQ=>["thing"]
 | .BE=>["thing"]
 | .BY=>["s", "r"]
 | .BX=>["pool"]
 | .BD=>["thing"]
 | .BW=>["pool"]
 | .Bo=>["pool"]
 | .law_=>["script"]
noncomputable abbrev ns:Fx->List Str
 | .Cm=>["thing"]
 | .AQ=>["thing", "low", "high"]
 | .DO=>["s", "thing", "kind"]
 | .Cl=>["s", "thing", "sign"]
 | .CZ=>["number"]
 | .CH=>["s", "thing", "part"]
 | .CI=>["s", "thing"]
 | .B8=>["s", "thing"]
 | .A2=>["s", "value", "kind", "row", "thing"]
 | .Bn=>["most"]
 | .Bp=>["number", "width"]
 | .C1=>["number", "cut"]
 | .BF=>["s", "r", "kind"]
 | .CF=>["s"]
 | .Ca=>["s", "r"]
 | .By=>["s", "r", "value"]
 | .Da=>["s", "r", "kind"]
 | .Cq=>["s", "r", "values"]
 | .Cr=>["s", "r", "values"]
 | .BL=>["s", "r", "values", "k"]
 | .AS=>["s", "kind"]
 | .Co=>["values"]
 | .Ba=>["value"]
 | .Ck=>["script", "k", "cell"]
 | .AG=>["pool", "many", "found", "step", "mark"]
 | .AR=>["pool", "kind", "low", "some"]
 | .BR=>["pool", "deep", "kind", "one", "some", "at"]
 | .Bj=>["pool", "found", "k"]
 | .Cj=>["pool", "found", "k", "one", "other", "some"]
 | .Cp=>["pool", "found", "k", "leaf", "some"]
 | .AN=>["pool", "low", "high", "some", "one", "other"]
 | .AV=>["pool", "shapes", "way", "at", "k"]
 | .AY=>["pool", "s", "at"]
 | .Bi=>["low", "high", "many", "span"]
 | .Bk=>["s", "r", "inner"]
 | .BZ=>["text"]
 | .BP=>["s", "thing"]
 | .BC=>["s", "value", "found", "rest", "k", "one"]
 | .CA=>["pool", "s", "r", "k"]
 | .BM=>["s", "r", "caught", "e"]
 | .BQ=>["thing"]
 | .BE=>["thing", "one"]
 | .BY=>["s", "r", "found", "kept"]
 | .BX=>["pool", "s", "shapes", "k", "at"]
 | .BD=>["thing", "found", "one"]
 | .BW=>["pool", "one", "some", "inner", "many", "s", "rows", "sizes", "row"]
 | .Bo=>["pool", "high", "one", "other"]
 | .law_=>["script", "k", "pool", "s", "r", "one", "other", "menu", "varied", "leaf"]
def body (Φ:Fx->Fn):Fx->Fn
 | .Cm=>fnOf 1 1 (Eg)
 | .AQ=>fnOf 3 3 (C6 (Φ .Cm))
 | .DO=>fnOf 2 3 (LD (Φ .B8) (Φ .CI) (Φ .CH) (Φ .Cl) (Φ .AQ))
 | .Cl=>fnOf 2 3 (Ef (Φ .CZ))
 | .CZ=>fnOf 1 1 (G2)
 | .CH=>fnOf 2 3 (Ed (Φ .DO))
 | .CI=>fnOf 2 2 (Ee (Φ .DO))
 | .B8=>fnOf 2 2 (DA (Φ .DO) (Φ .AQ))
 | .A2=>fnOf 2 5 (C5 (Φ .A2) (Φ .Bn) (Φ .Bp))
 | .Bn=>fnOf 1 1 (EI)
 | .Bp=>fnOf 2 2 (Eh (Φ .C1))
 | .C1=>fnOf 2 2 (G4)
 | .BF=>fnOf 2 3 (FA (Φ .BF) (Φ .CF))
 | .CF=>fnOf 1 1 (Go (Φ .Bn))
 | .Ca=>fnOf 2 2 (Ey (Φ .Da) (Φ .By) (Φ .Co) (Φ .BF))
 | .By=>fnOf 3 3 (DU (Φ .DO) (Φ .A2))
 | .Da=>fnOf 2 3 (Dh (Φ .BL) (Φ .Cr) (Φ .Cq) (Φ .BF) (Φ .AS))
 | .Cq=>fnOf 2 3 (CS (Φ .AS) (Φ .Da))
 | .Cr=>fnOf 2 3 (E7 (Φ .Da) (Φ .AS))
 | .BL=>fnOf 2 4 (D9 (Φ .Da) (Φ .AS))
 | .AS=>fnOf 1 2 (A0 (Φ .AS) (Φ .Co))
 | .Co=>fnOf 1 1 (Gn (Φ .Ba))
 | .Ba=>fnOf 1 1 (Bf (Φ .Ba))
 | .Ck=>fnOf 2 3 (E6)
 | .AG=>fnOf 2 5 (DT)
 | .AR=>fnOf 1 4 (DQ (Φ .AG))
 | .BR=>fnOf 2 6 (DR (Φ .AG) (Φ .AR) (Φ .BR))
 | .Bj=>fnOf 1 3 (Ea (Φ .AR))
 | .Cj=>fnOf 1 6 (E5 (Φ .AG) (Φ .Bj) (Φ .AR))
 | .Cp=>fnOf 1 5 (Dz (Φ .AG) (Φ .Bj) (Φ .AR) (Φ .BR))
 | .AN=>fnOf 3 6 (Cy (Φ .AG))
 | .AV=>fnOf 2 5 (Cw (Φ .AY) (Φ .AG) (Φ .AR))
 | .AY=>fnOf 2 3 (Eb (Φ .AG) (Φ .AY) (Φ .AV) (Φ .AN) (Φ .AR))
 | .Bi=>fnOf 2 4 (Dk)
 | .Bk=>fnOf 2 3 (Ec (Φ .Bk) (Φ .Bi))
 | .BZ=>fnOf 1 1 (EH)
 | .BP=>fnOf 2 2 (DP (Φ .BP) (Φ .BZ))
 | .BC=>fnOf 2 6 (Dx (Φ .BC) (Φ .Bi))
 | .CA=>fnOf 1 4 (Fz (Φ .AG) (Φ .Cp) (Φ .AY))
 | .BM=>fnOf 2 4 (C4 (Φ .Ca))
 | .BQ=>fnOf 1 1 (C3 (Φ .BQ))
 | .BE=>fnOf 1 2 (B9 (Φ .BE))
 | .BY=>fnOf 2 4 (Dy (Φ .Ca) (Φ .BE) (Φ .BQ) (Φ .BP) (Φ .BC) (Φ .Bk) (Φ .BM))
 | .BX=>fnOf 1 5 (EG (Φ .AG) (Φ .AY) (Φ .Cj))
 | .BD=>fnOf 1 3 (CN (Φ .BD))
 | .BW=>fnOf 1 9 (Dw (Φ .Ca) (Φ .BD) (Φ .AG) (Φ .AR))
 | .Bo=>fnOf 1 4 (DS (Φ .AG))
 | .law_=>fnOf 1 10 (G3 (Φ .AG) (Φ .BY) (Φ .BW) (Φ .AR) (Φ .BX) (Φ .Bo) (Φ .CA) (Φ .Ck))
def run:Nat->Fx->Fn
 | 0=>λ_ _ _=>none
 | n + 1=>body (run n)
structure Md (K:PySem.W.Frag)(mg:Str->Option Value)(A:Fx->Addr)(fd:Fx->FuncData):Prop where
 fn:∀x,Fun K (nm x) (nm x) (st x) (A x) (fd x)
 mgs:∀x,mg (nm x)=some (.ref (A x))
 bd:∀x,Binds K (fd x) (ps x) []
 aD:mg "ValueError" = none
 aS:mg "all" = none
 aI:mg "bool" = none
 aJ:mg "int" = none
 a9:mg "isinstance" = none
 aK:mg "len" = none
 aG:mg "list" = none
 aP:mg "max" = none
 aL:mg "min" = none
 aT:mg "ord" = none
 aE:mg "range" = none
 aO:mg "str" = none
 aR:mg "sum" = none
 aF:mg "tuple" = none
 aQ:mg "zip" = none
 aB:∃tk,mg "FIRST_SIGN" = some (.int 32 tk)
 aC:∃tk,mg "LAST_SIGN" = some (.int 126 tk)
 aA:∃tk,mg "PERCENT_SIGN" = some (.int 37 tk)
 xm:∃(P:Addr) (ca:Str->Addr),XM K mg P ca/\True/\∀n∈(["NoValue"]:List Str),XN0 K (ca n)
noncomputable abbrev kd:Fx->Kd
 | .Cm=>.pl
 | .AQ=>.pl
 | .DO=>.pl
 | .Cl=>.pl
 | .CZ=>.pl
 | .CH=>.pl
 | .CI=>.pl
 | .B8=>.pl
 | .A2=>.fr
 | .Bn=>.pl
 | .Bp=>.fr
 | .C1=>.pl
 | .BF=>.pl
 | .CF=>.pl
 | .Ca=>.ex
 | .By=>.pl
 | .Da=>.pl
 | .Cq=>.pl
 | .Cr=>.pl
 | .BL=>.pl
 | .AS=>.pl
 | .Co=>.pl
 | .Ba=>.pl
 | .Ck=>.pl
 | .AG=>.pl
 | .AR=>.pl
 | .BR=>.pl
 | .Bj=>.pl
 | .Cj=>.pl
 | .Cp=>.pl
 | .AN=>.pl
 | .AV=>.pl
 | .AY=>.pl
 | .Bi=>.pl
 | .Bk=>.pl
 | .BZ=>.pl
 | .BP=>.pl
 | .BC=>.pl
 | .CA=>.pl
 | .BM=>.pl
 | .BQ=>.pl
 | .BE=>.pl
 | .BY=>.pl
 | .BX=>.pl
 | .BD=>.pl
 | .BW=>.pl
 | .Bo=>.pl
 | .law_=>.pl
section
variable {P:Program}{w:World}{K:PySem.W.Frag}{mg:Str->Option Value}{base:Heap}{A:Fx->Addr}{fd:Fx->FuncData}{n:Nat}
theorem Ja {a:Kd}(k:Kd){P:Program}{w:World}{K:PySem.W.Frag}{mg:Str->Option Value}{base:Heap}{n:Nat}{fa:Addr}{fd:FuncData}{ps:List Str}{f:Fn}(h:okK a P w K mg base n fa fd ps f)(e:a=k):okK k P w K mg base n fa fd ps f:=e ▸ h
section
variable {X:Cx}{A:Fx->Addr}{fd:Fx->FuncData}{n k:Nat}{x:Fx}{s:Str}{e:Expr}{es:List Expr}{f:M (List D)}{p pos:Pos}{E:L2.St->XK}
theorem YE (M:Md X.K X.mg A fd)(ih:∀x,okK (kd x) X.prog X.w X.K X.mg X.base k (A x) (fd x) (ps x) (run n x))(hr:Room k X.A)(ha:PA X (e :: es) (RA X.K f))(hk:kd x = .ex)(hs:nm x=s)(hg:Gl X s)(h1:AM e=false)(h2:AX es=true)(hd:(s == ("__debug__" : Str))=false):PE X (.Call (.Name s p) (e :: es) [] pos) (RE X.K (Ae (Ei (run n x)) f)):=by subst hs;exact Ll (Xh (Ja .ex (ih x) hk)) hr hg (M.mgs x) (Fun.kp (M.fn x)) (M.bd x) ha hd h1 h2
theorem cP (M:Md X.K X.mg A fd)(ih:∀x,okK (kd x) X.prog X.w X.K X.mg X.base k (A x) (fd x) (ps x) (run n x))(hr:Room k X.A)(ha:PA X (e :: es) (RA X.K f))(hk:kd x = .pl)(hs:nm x=s)(hg:Gl X s)(h1:AM e=false)(h2:AX es=true)(hd:(s == ("__debug__" : Str))=false):PE X (.Call (.Name s p) (e :: es) [] pos) (RE X.K (Ae (run n x) f)):=by subst hs;exact Ll (Ja .pl (ih x) hk) hr hg (M.mgs x) (Fun.kp (M.fn x)) (M.bd x) ha hd h1 h2
theorem fF (M:Md X.K X.mg A fd)(ih:∀x,okK (kd x) X.prog X.w X.K X.mg X.base k (A x) (fd x) (ps x) (run n x))(hr:Room k X.A)(ha:PA X (e :: es) (RA X.K f))(hk:kd x = .fr)(hs:nm x=s)(hg:Gl X s)(h1:AM e=false)(h2:AX es=true)(hd:(s == ("__debug__" : Str))=false):PE X (.Call (.Name s p) (e :: es) [] pos) (RF X.K (CV (run n x) f)):=by subst hs;exact Qv (Ja .fr (ih x) hk) hr hg (M.mgs x) (Fun.kp (M.fn x)) (M.bd x) ha hd h1 h2
theorem xex (M:Md X.K X.mg A fd)(ih:∀x,okK (kd x) X.prog X.w X.K X.mg X.base k (A x) (fd x) (ps x) (run n x))(hr:Room k X.A)(hp:ER (CX1 true X.prog X.w) X E)(ha:PA X (e :: es) (RA X.K f))(hk:kd x = .ex)(hs:nm x=s)(hg:Gl X s)(h1:AM e=false)(h2:AX es=true)(hd:(s == ("__debug__" : Str))=false):PE X (.Call (.Name s p) (e :: es) [] pos) (RX X.K E (Ae (run n x) f)):=by subst hs;exact Tl (Ja .ex (ih x) hk) hr hg (M.mgs x) (Fun.kp (M.fn x)) (M.bd x) hp ha hd h1 h2
end
seal PA PE PSs PS PT PG PW PIf PI PGs PO PH
theorem sc (x:Fx):FnScope (ns x) (ps x) (Az (st x)):=by
 cases x <;> exact ⟨rfl,rfl,rfl,by decide +kernel,rfl,by decide +kernel,by decide +kernel⟩
local macro_rules | `(tactic| clear 30 $t)=>`(tactic| with_reducible refine (?_ : $t))
theorem step (M:Md K mg A fd)(ih0:∀x,okK (kd x) P w K mg base (2 * n + 2) (A x) (fd x) (ps x) (run n x))(y:Fx):okK (kd y) P w K mg base (2 * n + 2 + 1 + 1) (A y) (fd y) (ps y) (run (n + 1) y):=by
 have ih:=λx=>V6 (ih0 x);obtain ⟨_,aB⟩:=M.aB;obtain ⟨_,aC⟩:=M.aC;obtain ⟨_,aA⟩:=M.aA;obtain ⟨P',ca,x,xt,x0⟩:=M.xm;have sy:=sc y;have nd:=sy.nd;have mf:=M.fn y
 cases y <;> first | (clear 30 (okK .pl ..);refine WR (g:=fnOf _ _ _) rfl (VG rfl rfl mf sy (λcdv A' outer s H E hr=>?_))) | (clear 30 (okK .ex ..);refine Uh (g:=fnOf _ _ _) rfl (Te rfl rfl mf sy (λcdv A' outer s H E hr hp hq ho=>?_))) | (clear 30 (okK .fr ..);refine Ug (g:=fnOf _ _ _) rfl (Td rfl rfl mf sy (λcdv A' outer s H E hr=>?_)))
 all_goals repeat' first
  | (clear 30 (PA ..);first
    | refine @Qs _ _ _ _ _ ?_ ?_ rfl
    | exact Vp)
  | (clear 30 (PE ..);first
    | (clear 30 (PE _ (.Name ..) ..);first
      | (clear 30 (PE _ _ (RE _ (Ab _)));exact (Vy _))
      | (clear 30 (PE _ (.Name _ _) (RE _ (fC (.ty _))));exact (IQ rfl M.aG Mz))
      | (clear 30 (PE _ (.Name _ _) (RE _ (fC (.ty _))));exact (IQ rfl M.aF K3))
      | (clear 30 (PE _ (.Name _ _) (RE _ (fC (.ty _))));exact (IQ rfl M.aJ Ot))
      | (clear 30 (PE _ (.Name _ _) (RE _ (fC (.ty _))));exact (IQ rfl M.aI SM))
      | (clear 30 (PE _ (.Name _ _) (RE _ (fC (.ty _))));exact (IQ rfl M.aO Vd))
      | (clear 30 (PE _ (.Name _ _) (RE _ (fC (.int _))));exact (Jv rfl aB))
      | (clear 30 (PE _ (.Name _ _) (RE _ (fC (.int _))));exact (Jv rfl aC))
      | (clear 30 (PE _ (.Name _ _) (RE _ (fC (.int _))));exact (Jv rfl aA)))
    | (clear 30 (PE _ (.Constant ..) ..);first
      | (clear 30 (PE _ _ (RE _ (fC (.int _))));exact Vr)
      | (clear 30 (PE _ _ (RE _ (fC (.str _))));exact Vw)
      | (clear 30 (PE _ _ (RE _ (fC (.bl _))));exact Xi)
      | (clear 30 (PE _ _ (RE _ (fC .non)));exact Vs))
    | (clear 30 (PE _ (.Subscript ..) ..);first
      | (clear 30 (PE _ _ (RE _ (Ac _ _ ixD)));refine Xj VW WV ?_ ?_ (λ_ _=>rfl))
      | (clear 30 (PE _ _ (RE _ (fSl _ _ _ BU)));refine Qu sl3 Uy ?_ ?_ ?_)
      | (clear 30 (PE _ _ (RE _ (FM _ _)));refine Qt 2 ?_ (λ_ _=>rfl)))
    | (clear 30 (PE _ (.Call ..) ..);first
      | (clear 30 (PE _ _ (RE _ (Ae (run _ _) _)));refine @cP _ _ _ _ _ _ _ _ _ _ _ _ M ih hr ?_ (by rfl) (by rfl) (by rfl) (by rfl) (by rfl) (by decide))
      | (clear 30 (PE _ _ (RE _ (fB _ AC)));refine Fp Qj Uo rfl M.aK Ou ?_)
      | (clear 30 (PE _ _ (RE _ (fB _ Bw)));refine Fp La Rp rfl M.a9 CL ?_)
      | (clear 30 (PE _ _ (RF _ (CV (run _ _) _)));refine @fF _ _ _ _ _ _ _ _ _ _ _ _ M ih hr ?_ (by rfl) (by rfl) (by rfl) (by rfl) (by rfl) (by decide))
      | (clear 30 (PE _ _ (RE _ (fB _ Gu)));refine Fp Qk Uv rfl M.aT Vc ?_)
      | (clear 30 (PE _ _ (RE _ (fB _ Gp)));refine Fp (OA rfl) Ur rfl M.aL Vb ?_)
      | (clear 30 (PE _ _ (RE _ (fB _ GC)));refine Sd Kp UA rfl M.aF K3 ?_)
      | (clear 30 (PE _ _ (RE _ (fB _ D8)));refine Fp La M8 rfl M.a9 CL ?_)
      | (clear 30 (PE _ _ (RE _ (Ae (Ei (run _ _)) _)));refine YE M ih hr ?_ (by rfl) (by rfl) (by rfl) (by rfl) (by rfl) (by decide))
      | (clear 30 (PE _ _ (RE _ (fB _ Ii)));refine Fp (Oz rfl) Uq rfl M.aP Va ?_)
      | (clear 30 (PE _ _ (RE _ (objM Dj _ _)));refine OL ?_ ?_)
      | (clear 30 (PE _ _ (RE _ (fUn _ IH)));refine OM ?_)
      | (clear 30 (PE _ _ (RE _ (fB _ Jq)));refine Fp (Ov rfl) Rl rfl M.aS U9 ?_)
      | (clear 30 (PE _ _ (RE _ (Nx _ _)));refine SX (ih0 .Ba) hr rfl M.aL rfl (M.mgs .Ba) (M.bd .Ba) ?_)
      | (clear 30 (PE _ _ (RE _ (fB _ JH)));refine Fp (OC rfl) Rt rfl M.aR Ve ?_)
      | (clear 30 (PE _ _ (RE _ (fB _ Jx)));refine Sd Ox Um rfl M.aJ Ot ?_)
      | (clear 30 (PE _ _ (RX _ _ (Ae (run _ _) _)));refine @xex _ _ _ _ _ _ _ _ _ _ _ _ _ M ih hr hp ?_ (by rfl) (by rfl) (by rfl) (by rfl) (by rfl) (by decide))
      | (clear 30 (PE _ _ (RE _ (bnd _ (Fy ("NoValue" : Str)))));refine SW (n:="NoValue") x (by decide) rfl M.a9 CL rfl ?_)
      | (clear 30 (PE _ _ (RE _ (bnd _ (Fy _))));refine SV x rfl M.a9 CL rfl M.aD Kj ?_)
      | (clear 30 (PE _ _ (RE _ (bnd _ (Hl _))));refine SU x rfl M.a9 CL (D6 (n:="Broken") x (by decide) rfl (D6 (n:="NoName") x (by decide) rfl (D6 (n:="NoRow") x (by decide) rfl (D6 (n:="NoTalk") x (by decide) rfl (D6 (n:="NoText") x (by decide) rfl (D6 (n:="Short") x (by decide) rfl SS)))))) ?_)
      | (clear 30 (PE _ _ (RF _ (fBF _ Ih)));refine Xm Lc Up rfl M.aG Mz ?_)
      | (clear 30 (PE _ _ (RE _ (ES _)));exact (ON _ rfl M.aK Ou)))
    | (clear 30 (PE _ (.Tuple ..) ..);first
      | refine @Vx _ _ _ _ _ ?_)
    | (clear 30 (PE _ (.BinOp ..) ..);first
      | (clear 30 (PE _ _ (RE _ (Ac _ _ Aw)));refine EM TM Rk ?_ ?_)
      | (clear 30 (PE _ _ (RE _ (Ac _ _ Cs)));refine EM Wg Uz ?_ ?_)
      | (clear 30 (PE _ _ (RE _ (Ac _ _ EJ)));refine EM Wa Us ?_ ?_)
      | (clear 30 (PE _ _ (RE _ (Ac _ _ FB)));refine EM TW Rs ?_ ?_)
      | (clear 30 (PE _ _ (RF _ _));refine Xn op_cat Rm ?_ ?_)
      | (clear 30 (PE _ _ (RE _ (Ac _ _ Fb)));refine EM Wb Uw ?_ ?_)
      | (clear 30 (PE _ _ (RE _ (Ac _ _ EK)));refine EM TU Rr ?_ ?_)
      | (clear 30 (PE _ _ (RE _ (Ac _ _ Fo)));refine EM TR Rn ?_ ?_)
      | (clear 30 (PE _ _ (RE _ (Ac _ _ Hj)));refine EM QV PQ ?_ ?_)
      | (clear 30 (PE _ _ (RE _ (Ac _ _ L7)));refine EM We Ux ?_ ?_))
    | (clear 30 (PE _ (.List ..) ..);first
      | refine @Vz _ _ _ _ ?_)
    | (clear 30 (PE _ (.BoolOp ..) ..);first
      | (clear 30 (PE _ _ (RE _ (A5 _ _)));refine Vq ?_ ?_)
      | (clear 30 (PE _ _ (RE _ _));refine Vv ?_)
      | (clear 30 (PE _ _ (RE _ (GU _ _)));refine Xk ?_ ?_))
    | (clear 30 (PE _ (.Compare ..) ..);first
      | (clear 30 (PE _ (.Compare _ [.Eq] [_] _) (RE _ (Ac _ _ (eqS _))));refine EZ (LN hr.units) (Hw (g:=id)) ?_ ?_ (C7 _))
      | (clear 30 (PE _ _ (RE _ (Ac _ _ leA)));refine EZ FU EW ?_ ?_ (C7 _))
      | (clear 30 (PE _ (.Compare _ [.LtE,.LtE] [_,_] _) (RE _ (Ci _ _ _ _ _)));refine Lm FU FU EW EW ?_ ?_ ?_)
      | (clear 30 (PE _ _ (RE _ (Ac _ _ isC)));refine EZ V9 WU ?_ ?_ (C7 _))
      | (clear 30 (PE _ (.Compare _ [.NotEq] [_] _) (RE _ (Ac _ _ (eqS _))));refine EZ (Pj hr.units) (Hw (g:=λb=>!b)) ?_ ?_ (C7 _))
      | (clear 30 (PE _ _ (RE _ (Ac _ _ (inD _))));refine EZ LO PR ?_ ?_ (by with_unfolding_all rfl))
      | (clear 30 (PE _ (.Compare _ [.LtE,.Lt] [_,_] _) (RE _ (Ci _ _ _ _ _)));refine Lm FU Pi EW M9 ?_ ?_ ?_)
      | (clear 30 (PE _ _ (RE _ (Ac _ _ (eqO _))));refine EZ (LN hr.units) (Uj (g:=id)) ?_ ?_ (C7 _))
      | (clear 30 (PE _ _ (RE _ (Ac _ _ gtA)));refine EZ Pg M7 ?_ ?_ (C7 _)))
    | (clear 30 (PE _ (.UnaryOp ..) ..);first
      | (clear 30 (PE _ _ (RE _ (EL _)));refine Vt ?_)
      | (clear 30 (PE _ _ (RE _ (fUn _ Ik)));refine Xl W4 Uu ?_))
    | (clear 30 (PE _ (.ListComp ..) ..);first
      | (clear 30 (PE _ (.ListComp _ [⟨(.Name ("sign" : Str) _),_,_,0⟩] _ _) (RF _ (AF _ [] _ _ _ _)));refine Dg (Bv ["sign"] [] rfl rfl rfl rfl rfl) rfl ?_ (λ_ _ _ _ _=>?_) (λ_ _ _ _ _=>?_) (λ_ _ _ _ _=>?_))
      | (clear 30 (PE _ (.ListComp _ [⟨(.Name ("k" : Str) _),_,_,0⟩] _ _) (RF _ (AF _ [0] _ _ _ _)));refine Dg (Bv ["k"] [(0 , "s")] rfl rfl rfl rfl rfl) rfl ?_ (λ_ _ _ _ _=>?_) (λ_ _ _ _ _=>?_) (λ_ _ _ _ _=>?_))
      | (clear 30 (PE _ (.ListComp _ [⟨(.Name ("one" : Str) _),_,_,0⟩] _ _) (RF _ (Dm _ _ _ _ _ _)));refine Ic (Bv ["one"] [] rfl rfl rfl rfl rfl) rfl ?_ (λ_ _ _ _ _=>?_) (λ_ _ _ _ _=>?_) (λ_ _ _ _ _=>?_))
      | (clear 30 (PE _ (.ListComp _ [⟨(.Name ("k" : Str) _),_,_,0⟩] _ _) (RF _ (AF _ [0,1] _ _ _ _)));refine Dg (Bv ["k"] [(0 , "number") ,(1 , "width")] rfl rfl rfl rfl rfl) rfl ?_ (λ_ _ _ _ _=>?_) (λ_ _ _ _ _=>?_) (λ_ _ _ _ _=>?_))
      | (clear 30 (PE _ (.ListComp _ [⟨(.Name ("k" : Str) _),_,_,0⟩] _ _) (RF _ (AF _ [0,1] _ _ _ _)));refine Dg (Bv ["k"] [(0 , "s") ,(1 , "r")] rfl rfl rfl rfl rfl) rfl ?_ (λ_ _ _ _ _=>?_) (λ_ _ _ _ _=>?_) (λ_ _ _ _ _=>?_))
      | (clear 30 (PE _ (.ListComp _ [⟨(.Name ("value" : Str) _),_,_,0⟩] _ _) (RF _ (AF _ [0,1] _ _ _ _)));refine Dg (Bv ["value"] [(0 , "s") ,(1 , "r")] rfl rfl rfl rfl rfl) rfl ?_ (λ_ _ _ _ _=>?_) (λ_ _ _ _ _=>?_) (λ_ _ _ _ _=>?_))
      | (clear 30 (PE _ (.ListComp _ [⟨(.Name ("value" : Str) _),_,_,0⟩] _ _) (RF _ (AF _ [0] _ _ _ _)));refine Dg (Bv ["value"] [(0 , "s")] rfl rfl rfl rfl rfl) rfl ?_ (λ_ _ _ _ _=>?_) (λ_ _ _ _ _=>?_) (λ_ _ _ _ _=>?_))
      | (clear 30 (PE _ _ (RF _ (AF _ [3] _ _ _ _)));refine Dg (Bv ["value"] [(3 , "k")] rfl rfl rfl rfl rfl) rfl ?_ (λ_ _ _ _ _=>?_) (λ_ _ _ _ _=>?_) (λ_ _ _ _ _=>?_))
      | (clear 30 (PE _ (.ListComp _ [⟨(.Name ("thing" : Str) _),_,_,0⟩] _ _) (RF _ (Dm _ _ _ _ _ _)));refine Ic (Bv ["thing"] [] rfl rfl rfl rfl rfl) rfl ?_ (λ_ _ _ _ _=>?_) (λ_ _ _ _ _=>?_) (λ_ _ _ _ _=>?_))
      | (clear 30 (PE _ (.ListComp _ [⟨(.Name ("a" : Str) _),_,_,0⟩] _ _) (RF _ (AF _ [] _ _ _ _)));refine Dg (Bv ["a"] [] rfl rfl rfl rfl rfl) rfl ?_ (λ_ _ _ _ _=>?_) (λ_ _ _ _ _=>?_) (λ_ _ _ _ _=>?_))
      | (clear 30 (PE _ (.ListComp _ [⟨(.Name ("one" : Str) _),_,_,0⟩] _ _) (RF _ (Dm _ _ _ _ _ _)));refine Ic (Bv ["one"] [(0 , "s")] rfl rfl rfl rfl rfl) rfl ?_ (λ_ _ _ _ _=>?_) (λ_ _ _ _ _=>?_) (λ_ _ _ _ _=>?_))
      | (clear 30 (PE _ (.ListComp _ [⟨(.Name ("row" : Str) _),_,_,0⟩] _ _) (RF _ (AF _ [] _ _ _ _)));refine Dg (Bv ["row"] [] rfl rfl rfl rfl rfl) rfl ?_ (λ_ _ _ _ _=>?_) (λ_ _ _ _ _=>?_) (λ_ _ _ _ _=>?_)))
    | (clear 30 (PE _ _ (RE _ (Ap _)));refine SY ?_)
    | (clear 30 (PE _ _ (RE _ (D5 _)));refine Vu ?_))
  | (clear 30 (PSs ..);first
    | refine @QB _ _ _ _ _ _ ?_ ?_
    | refine @Tj _ _ _ _ ?_
    | exact Ti
    | refine QC ?_)
  | (clear 30 (PS ..);first
    | (clear 30 (PS _ (.Return ..) ..);first
      | (clear 30 (PS _ _ (RSg _ (μR _) (Ak _)));refine OU ?_)
      | (clear 30 (PS _ _ (RSg _ (μF _) (Gz _)));refine MF ?_)
      | (clear 30 (PS _ _ (RSg _ (μF _) (FY _)));exact (OV _))
      | (clear 30 (PS _ _ (RSg _ (μX _ _) (Ak (nxD _))));refine MG ?_))
    | (clear 30 (PS _ (.If ..) ..);first
      | refine Xr ?_ ?_ ?_)
    | (clear 30 (PS _ (.Assign ..) ..);first
      | (clear 30 (PS _ _ (RSg _ _ (Aq _ _)));refine VL nd rfl (.inl rfl) ?_)
      | (clear 30 (PS _ _ (RSg _ _ (Ce _ _)));refine VJ nd rfl (.inl rfl) ?_)
      | (clear 30 (PS _ _ (RSg _ _ (EC _ _)));refine VH ?_ ?_)
      | (clear 30 (PS _ _ (RSg _ _ (Ce _ (AF _ [] _ _ _ _))));refine Jw (Bv ["value"] [] rfl rfl rfl rfl rfl) rfl nd rfl rfl ?_ (λ_ _ _ _ _=>?_) (λ_ _ _ _ _=>?_) (λ_ _ _ _ _=>?_))
      | (clear 30 (PS _ (.Assign [.Name _ _] (.ListComp _ [⟨(.Name ("value" : Str) _),_,_,0⟩] _ _) _) (RSg _ _ (Ce _ (AF _ [0] _ _ _ _))));refine Jw (Bv ["value"] [(0 , "s")] rfl rfl rfl rfl rfl) rfl nd rfl rfl ?_ (λ_ _ _ _ _=>?_) (λ_ _ _ _ _=>?_) (λ_ _ _ _ _=>?_))
      | (clear 30 (PS _ (.Assign [.Name _ _] (.ListComp _ [⟨(.Name ("k" : Str) _),_,_,0⟩] _ _) _) (RSg _ _ (Ce _ (AF _ [0] _ _ _ _))));refine Jw (Bv ["k"] [(0 , "s")] rfl rfl rfl rfl rfl) rfl nd rfl rfl ?_ (λ_ _ _ _ _=>?_) (λ_ _ _ _ _=>?_) (λ_ _ _ _ _=>?_))
      | (clear 30 (PS _ _ (RSg _ _ (Aq _ (Ap (AF _ [0] _ _ _ _)))));refine MH (Bv ["k"] [(0 , "pool")] rfl rfl rfl rfl rfl) rfl nd rfl rfl ?_ (λ_ _ _ _ _=>?_) (λ_ _ _ _ _=>?_) (λ_ _ _ _ _=>?_))
      | (clear 30 (PS _ _ (RSg _ _ (Aq _ (Ap (AF _ _ _ _ _ _)))));refine Qz (Bv ["one" , "other"] [] rfl rfl rfl rfl rfl) rfl nd rfl rfl ?_ (λ_ _ _ _ _=>?_) (λ_ _ _ _ _=>?_) (λ_ _ _ _ _=>?_))
      | (clear 30 (PS _ _ (RSg _ _ (Aq _ (Ap (AF _ [] _ _ _ _)))));refine MH (Bv ["row"] [] rfl rfl rfl rfl rfl) rfl nd rfl rfl ?_ (λ_ _ _ _ _=>?_) (λ_ _ _ _ _=>?_) (λ_ _ _ _ _=>?_)))
    | (clear 30 (PS _ (.For ..) ..);first
      | (clear 30 (PS _ _ (RSg _ _ (CK _ _ _)));refine VI PassesOwn.never rfl ?_ ?_ ?_)
      | (clear 30 (PS _ _ (RSg _ _ (EO _ _ _)));refine Th PassesOwn.never rfl ?_ ?_ ?_))
    | (clear 30 (PS _ (.Expr ..) ..);first
      | (clear 30 (PS _ _ (RSg _ _ (Dr _)));refine ME ?_)
      | (clear 30 (PS _ _ (RSg _ _ (ownM _ Fw _)));refine NC _ ?_)
      | (clear 30 (PS _ _ (RSg _ _ (ownM _ Dj _)));refine NB _ ?_)
      | (clear 30 (PS _ _ (RSg _ _ (ownM _ Ie _)));refine ND 2 ?_)
      | (clear 30 (PS _ _ (RSX _ _ (KA _)));refine Qy ?_))
    | (clear 30 (PS _ (.Raise ..) ..);first
      | (clear 30 (PS _ _ (RSg _ (μX _ _) (Ha ("NoValue" : Str) _)));refine XL (OT (n:="NoValue") x (by decide) rfl (x0 "NoValue" (by decide)) rfl hq rfl ?_)))
    | (clear 30 (PS _ (.While ..) ..);first
      | refine QA PassesOwn.never ?_ ?_)
    | (clear 30 (PS _ (.Try ..) ..);first
      | (clear 30 (PS _ _ (RSg _ (μR _) (Fg _ _)));refine VM (qx:=true) x V5 rfl rfl (λpn E hp=>?_) ?_))
    | refine OU ?_
    | refine MF ?_
    | refine MG ?_
    | refine ME ?_)
  | (clear 30 (PT ..);first
    | (clear 30 (PT _ (.Compare ..) ..);first
      | (clear 30 (PT _ (.Compare _ [.Eq] [_] _) (RT _ (Aj (Ac _ _ (eqS _)))));refine FN (LN hr.units) (Hw (g:=id)) ?_ ?_ (C7 _))
      | (clear 30 (PT _ (.Compare _ [.NotEq] [_] _) (RT _ (Aj (Ac _ _ (eqS _)))));refine FN (Pj hr.units) (Hw (g:=λb=>!b)) ?_ ?_ (C7 _))
      | (clear 30 (PT _ _ (RT _ (Aj (Ac _ _ gtA))));refine FN Pg M7 ?_ ?_ (C7 _))
      | (clear 30 (PT _ _ (RT _ (Aj (Ac _ _ ltA))));refine FN Pi M9 ?_ ?_ (C7 _))
      | (clear 30 (PT _ _ (RT _ (Aj (Ac _ _ geA))));refine FN V8 Ul ?_ ?_ (C7 _))
      | (clear 30 (PT _ _ (RT _ (Aj (Ac _ _ (inD _)))));refine FN Ph PR ?_ ?_ (by with_unfolding_all rfl))
      | (clear 30 (PT _ _ (RT _ (Aj (Ci _ _ _ _ _))));refine QD FU FU EW EW ?_ ?_ ?_))
    | (clear 30 (PT _ (.UnaryOp ..) ..);first
      | refine VN ?_)
    | (clear 30 (PT _ (.BoolOp ..) ..);first
      | refine Xs ?_)
    | (clear 30 (PT _ _ (RT _ (Aj _)));refine VO ?_))
  | (clear 30 (PG ..);first
    | (clear 30 (PG _ (.Name ..) ..);first
      | (clear 30 (PG _ (.Name _ _) (RG _ (Ao _)));exact (Be nd rfl (.inl rfl)))
      | (clear 30 (PG _ (.Name _ _) (RG _ (Ao _)));exact (Be (by show List.Nodup [("k" : Str) ,("s" : Str)] ;decide +kernel) rfl (.inl rfl)))
      | (clear 30 (PG _ (.Name _ _) (RG _ (Ao _)));exact (Be (by show List.Nodup [("sign" : Str)] ;decide +kernel) rfl (.inl rfl)))
      | (clear 30 (PG _ (.Name _ _) (RG _ (Ao _)));exact (Be (by show List.Nodup [("value" : Str) ,("s" : Str)] ;decide +kernel) rfl (.inl rfl)))
      | (clear 30 (PG _ (.Name _ _) (RG _ (Ao _)));exact (Be (by show List.Nodup [("one" : Str) ,("other" : Str)] ;decide +kernel) rfl (.inl rfl)))
      | (clear 30 (PG _ (.Name _ _) (RG _ (Ao _)));exact (Be (by show List.Nodup [("one" : Str)] ;decide +kernel) rfl (.inl rfl)))
      | (clear 30 (PG _ (.Name _ _) (RG _ (Ao _)));exact (Be (by show List.Nodup [("row" : Str)] ;decide +kernel) rfl (.inl rfl)))
      | (clear 30 (PG _ (.Name _ _) (RG _ (Ao _)));exact (Be (by show List.Nodup [("k" : Str) ,("number" : Str) ,("width" : Str)] ;decide +kernel) rfl (.inl rfl)))
      | (clear 30 (PG _ (.Name _ _) (RG _ (Ao _)));exact (Be (by show List.Nodup [("k" : Str) ,("s" : Str) ,("r" : Str)] ;decide +kernel) rfl (.inl rfl)))
      | (clear 30 (PG _ (.Name _ _) (RG _ (Ao _)));exact (Be (by show List.Nodup [("value" : Str) ,("s" : Str) ,("r" : Str)] ;decide +kernel) rfl (.inl rfl)))
      | (clear 30 (PG _ (.Name _ _) (RG _ (Ao _)));exact (Be (by show List.Nodup [("value" : Str)] ;decide +kernel) rfl (.inl rfl)))
      | (clear 30 (PG _ (.Name _ _) (RG _ (Ao _)));exact (Be nd rfl (.inr rfl)))
      | (clear 30 (PG _ (.Name _ _) (RG _ (Ao _)));exact (Be (by show List.Nodup [("value" : Str) ,("k" : Str)] ;decide +kernel) rfl (.inl rfl)))
      | (clear 30 (PG _ (.Name _ _) (RG _ (Ao _)));exact (Be (by show List.Nodup [("thing" : Str)] ;decide +kernel) rfl (.inl rfl)))
      | (clear 30 (PG _ (.Name _ _) (RG _ (Ao _)));exact (Be (by show List.Nodup [("k" : Str) ,("pool" : Str)] ;decide +kernel) rfl (.inl rfl)))
      | (clear 30 (PG _ (.Name _ _) (RG _ (Ao _)));exact (Be (by show List.Nodup [("a" : Str)] ;decide +kernel) rfl (.inl rfl)))
      | (clear 30 (PG _ (.Name _ _) (RG _ (Ao _)));exact (Be (by show List.Nodup [("one" : Str) ,("s" : Str)] ;decide +kernel) rfl (.inl rfl))))
    | (clear 30 (PG _ (.Tuple ..) ..);first
      | refine Xo rfl ?_)
    | (clear 30 (PG _ (.Subscript ..) ..);first
      | (clear 30 (PG _ _ (RG _ (stD _ _)));refine VA ?_ ?_)
      | (clear 30 (PG _ _ (RG _ (Hz _ _)));refine OO 2 ?_)))
  | (clear 30 (PW ..);first
    | (clear 30 (PW _ (.BoolOp .Or (_ :: _ :: _) _) (RT _ (fOr _ _)));refine Xt ?_ ?_)
    | (clear 30 (PW _ (.BoolOp .Or [_] _) (RT _ _));refine VQ ?_)
    | (clear 30 (PW _ (.BoolOp .And (_ :: _ :: _) _) (RT _ (D4 _ _)));refine VP ?_ ?_)
    | (clear 30 (PW _ (.BoolOp .And [_] _) (RT _ _));refine Tk ?_))
  | (clear 30 (PIf ..);first
    | exact Tb
    | (clear 30 (PIf _ [_] (RT _ _));refine Tc ?_))
  | (clear 30 (PI ..);first
    | (clear 30 (PI _ _ (.Call ..) ..);first
      | (clear 30 (PI _ _ _ (RI _ (BB _)));refine Nz rfl M.aE ?_)
      | (clear 30 (PI _ _ _ (RI _ (Fm _)));refine NA rfl M.aE ?_))
    | (clear 30 (PI _ (.Tuple ..) ..);first
      | refine VD rfl M.aQ ?_)
    | (clear 30 (PI _ _ _ (RI _ (CW _)));refine VC ?_)
    | (clear 30 (PI _ _ _ (RIG _ (EF _)));refine Ta ?_))
  | (clear 30 (PGs ..);first
    | refine Qw ?_ ?_
    | exact SZ)
  | (clear 30 (PO ..);first
    | exact Tf
    | refine Tg ?_)
  | (clear 30 (PH ..);first
    | (clear 30 (PH _ _ (.ExceptHandler (some (.Name _ _)) (some _) (_ :: _) _ :: _) (RH _ _ _ (hAs _ _ _ _)));refine Xp x rfl x.pm x.pc (λ_ hn=>x.subP hn) nd rfl rfl (λy=>?_) ?_)
    | exact VB)
theorem all_ok (M:Md K mg A fd):∀(n:Nat) (x:Fx),okK (kd x) P w K mg base (2 * n + 2) (A x) (fd x) (ps x) (run n x)
 | 0,x=>QU
 | n + 1,x=>by
   have ih:=all_ok M n;exact step M ih x
end
abbrev fno (x:Fx)(kV dc pm:Value)(an:Option Addr)(cd ct:Value):FuncData:=PySem.W.fnOf (nm x) (nm x) (FL (st x)) (Cv (st x)) (Az (st x)) .none kV dc pm an cd ct
structure At (K:PySem.W.Frag)(x:Fx)(f:Addr)(fd:FuncData):Prop where
 a:PySem.W.nsIn K mainGlobals (nm x)=some (some (.ref f))
 fn:Fun K (nm x) (nm x) (st x) f fd
 bd:Binds K fd (ps x) []
 eq:∃kV dc pm an cd ct,fd=fno x kV dc pm an cd ct
theorem at_mk {K:PySem.W.Frag}{x:Fx}{f:Addr}{od an:Option Addr}{sl:Array (Option Value)}{oc kV dc pm cd ct:Value}(a:PySem.W.nsIn K mainGlobals (nm x)=some (some (.ref f)))(l:K.lookup f=some ⟨oc,od,.func (fno x kV dc pm an cd ct),sl⟩)(c:codeIn K cd (nm x)=true)(k:PySem.W.keepIn K (.ref f)=true):∃p:Addr×FuncData,At K x p.1 p.2:=by
 refine ⟨(f,fno x kV dc pm an cd ct),a,OW (st:=st x) l c k,(OW (st:=st x) l c k).binds (ps:=ps x) λ_ _ _ _ _ _ us hl=>?_,_,_,_,_,_,_,rfl⟩
 cases x <;> first | (obtain ⟨_,rfl⟩:=us1 hl;rfl) | (obtain ⟨_,_,rfl⟩:=us2 hl;rfl) | (obtain ⟨_,_,_,rfl⟩:=us3 hl;rfl) | (obtain ⟨_,_,_,_,rfl⟩:=us4 hl;rfl) | (obtain ⟨_,_,_,_,_,rfl⟩:=us5 hl;rfl) | (obtain ⟨_,_,_,_,_,_,rfl⟩:=us6 hl;rfl) | (obtain ⟨_,_,_,_,_,_,_,rfl⟩:=us7 hl;rfl)
theorem xm_all {K:PySem.W.Frag}{h:Heap}{mg:Str->Option Value}{P c1 c2 c3 c4 c5 c6 c7:Addr}(X:K.In h)(G:h.Ns mainGlobals mg)(p:PySem.W.nsIn K mainGlobals "ParleyError" = some (some (.ref P)))(a1:PySem.W.nsIn K mainGlobals "NoValue" = some (some (.ref c1)))(a2:PySem.W.nsIn K mainGlobals "Short" = some (some (.ref c2)))(a3:PySem.W.nsIn K mainGlobals "Broken" = some (some (.ref c3)))(a4:PySem.W.nsIn K mainGlobals "NoTalk" = some (some (.ref c4)))(a5:PySem.W.nsIn K mainGlobals "NoName" = some (some (.ref c5)))(a6:PySem.W.nsIn K mainGlobals "NoText" = some (some (.ref c6)))(a7:PySem.W.nsIn K mainGlobals "NoRow" = some (some (.ref c7)))(q:Oe K P [c1,c2,c3,c4,c5,c6,c7]=true)(nd:[P,c1,c2,c3,c4,c5,c6,c7].Nodup)(n1:LL K c1=true):∃(P:Addr) (ca:Str->Addr),XM K mg P ca/\True/\∀n∈(["NoValue"]:List Str),XN0 K (ca n):=by
 have x:=Yq X G p a1 a2 a3 a4 a5 a6 a7 q nd;refine ⟨P,_,x,trivial,?_⟩;intro n hn;simp only [um5,ui8,or_false] at hn;rcases hn with rfl
 ·exact Xf n1
theorem fin_mk {K:PySem.W.Frag}{h:Heap}{mg:Str->Option Value}{fa:Addr}(X:K.In h)(G:h.Ns mainGlobals mg)(hmg:mg "law" = some (.ref fa))(H:∀x:Fx,∃p:Addr×FuncData,At K x p.1 p.2)(aD:PySem.W.nsIn K mainGlobals "ValueError" = some none)(aS:PySem.W.nsIn K mainGlobals "all" = some none)(aI:PySem.W.nsIn K mainGlobals "bool" = some none)(aJ:PySem.W.nsIn K mainGlobals "int" = some none)(a9:PySem.W.nsIn K mainGlobals "isinstance" = some none)(aK:PySem.W.nsIn K mainGlobals "len" = some none)(aG:PySem.W.nsIn K mainGlobals "list" = some none)(aP:PySem.W.nsIn K mainGlobals "max" = some none)(aL:PySem.W.nsIn K mainGlobals "min" = some none)(aT:PySem.W.nsIn K mainGlobals "ord" = some none)(aE:PySem.W.nsIn K mainGlobals "range" = some none)(aO:PySem.W.nsIn K mainGlobals "str" = some none)(aR:PySem.W.nsIn K mainGlobals "sum" = some none)(aF:PySem.W.nsIn K mainGlobals "tuple" = some none)(aQ:PySem.W.nsIn K mainGlobals "zip" = some none){aM:Tok}(aB:PySem.W.nsIn K mainGlobals "FIRST_SIGN" = some (some (.int 32 aM))){aN:Tok}(aC:PySem.W.nsIn K mainGlobals "LAST_SIGN" = some (some (.int 126 aN))){aH:Tok}(aA:PySem.W.nsIn K mainGlobals "PERCENT_SIGN" = some (some (.int 37 aH)))(xm:∃(P:Addr) (ca:Str->Addr),XM K mg P ca/\True/\∀n∈(["NoValue"]:List Str),XN0 K (ca n)):∃(A:Fx->Addr) (fd:Fx->FuncData),Md K mg A fd/\A .law_=fa/\∀(s:Shared) (u:Value),BindsTo s (fd .law_) ⟨[u],[]⟩ [("script",u)]:=by
 obtain ⟨F,hF⟩:=Classical.axiomOfChoice H;refine ⟨λx=>(F x).1,λx=>(F x).2,{ fn:=λx=>(hF x).fn,mgs:=λx=>un2 X G (hF x).a,bd:=λx=>(hF x).bd,xm:=xm,aD:=ug6 X G aD,aS:=ug6 X G aS,aI:=ug6 X G aI,aJ:=ug6 X G aJ,a9:=ug6 X G a9,aK:=ug6 X G aK,aG:=ug6 X G aG,aP:=ug6 X G aP,aL:=ug6 X G aL,aT:=ug6 X G aT,aE:=ug6 X G aE,aO:=ug6 X G aO,aR:=ug6 X G aR,aF:=ug6 X G aF,aQ:=ug6 X G aQ,aB:=⟨aM,un2 X G aB⟩,aC:=⟨aN,un2 X G aC⟩,aA:=⟨aH,un2 X G aA⟩ },?_,λs u=>?_⟩
 ·have e:=hmg.symm.trans (un2 X G (hF .law_).a)
  cases e
  rfl
 ·obtain ⟨_,_,_,_,_,_,e⟩:=(hF .law_).eq;show BindsTo s (F .law_).2 _ _;rw [e];exact .of_eq rfl
theorem walk {l:PySem.W.OpenLaw}{q:Program}{loose:List Str}{XP:(Str->Option Value)->Heap->Prop}{YP:World->Heap->Prop}{d:DefRec}{K:Params->PySem.W.Frag}(m:Nat)(hm:Room (2 * m + 2) callerA)(hn:l.most=some 63)(hdf:d.params.defaults=[])
 (hY:∀(w:World) (h:Heap),YP w h->(K w.params).In h) (lt:∀ns:List Int,ns.length<=63->∃S',run m .law_ [.scr ns] []=some (.bl true,S'))
 (F:∀(w:World) (mg:Str->Option Value) (fa:Addr) (h:Heap),(K w.params).In h->h.Ns mainGlobals mg->mg d.name=some (.ref fa)->
   ∃(A:Fx->Addr) (fd:Fx->FuncData),Md (K w.params) mg A fd/\A .law_=fa/\∀(s:Shared) (u:Value),BindsTo s (fd .law_) ⟨[u],[]⟩ [("script",u)]) :
 PySem.W.WalkO q loose XP YP l.row.toRowW d [] (λf vs=>PySem.call f vs):=
 L2.UT (n:=63) (k:=2 * m + 2) (x:="script") (CX:=λ_=>CX0) (sp:=λw=>spF (K w.params) (run m .law_)) hn (by decide) hdf hm hY
  (λw mg fa h KX G hmg=>by obtain ⟨A,fd,M,e,b⟩:=F w mg fa h KX G hmg;subst e;exact ⟨fd .law_,b,λbase _ _=>all_ok M m .law_⟩)
  (λw H a ns hl hO hS=>by obtain ⟨S',e⟩:=lt ns hl;exact O2 hO hS e) λ_ _ _ _ _ z=>z
theorem TJ (k:Nat):P8 (run (k + 1) .Cm):=Xy
theorem Jj (k:Nat):Hh (run (k + 2) .AQ):=RZ (TJ k)
theorem Rw (k:Nat):KU (run (k + 1) .CZ):=NE
theorem RC (k:Nat):Nm (run (k + 2) .Cl):=Ml (Rw k)
theorem Lq:∀(n k:Nat),2 * n + 3<=k->En (run k .DO) n
 | 0,k,_=>λs hs=>absurd s.depth_pos (by lia)
 | n + 1,k,h=>by
   obtain ⟨j,rfl⟩:∃j,k=j + 4:=Nat.exists_eq_add_of_le' (by lia);have ih:=Lq n (j + 2) (by lia);exact VF (Kq ih (Jj j)) (Mj ih) (Mi ih) (RC (j + 1)) (Jj (j + 1))
theorem QN (k:Nat):KM (run (k + 1) .C1):=Tv
theorem QS (k:Nat):KN (run (k + 2) .Bp):=TK (QN k)
theorem Ng (k:Nat):Kx (run (k + 1) .Bn):=RY
theorem Lp:∀(n k:Nat),n + 3<=k->Eu (run k .A2) n
 | 0,k,_=>λs hs=>absurd s.depth_pos (by lia)
 | n + 1,k,h=>by
   obtain ⟨j,rfl⟩:∃j,k=j + 3:=Nat.exists_eq_add_of_le' (by lia);exact SN (Lp n (j + 2) (by lia)) (Ng (j + 1)) (QS j)
theorem UU (k:Nat):Nn (run (k + 2) .CF):=Mr (Ng k)
theorem Hm:∀(n k:Nat),n + 2<=k->Eo (run k .BF) n
 | 0,k,_=>λs r h=>absurd s.depth_pos (by lia)
 | n + 1,k,h=>by
   obtain ⟨j,rfl⟩:∃j,k=j + 3:=Nat.exists_eq_add_of_le' (by lia);exact Lx (UU j) (.inr (Hm n (j + 2) (by lia)))
theorem Nf:∀(n k:Nat),n<=k->KW (run k .Ba) n
 | 0,k,_=>λs hs=>absurd s.depth_pos (by lia)
 | n + 1,k,h=>by
   obtain ⟨j,rfl⟩:∃j,k=j + 1:=Nat.exists_eq_add_of_le' (by lia);exact XW (.inr (Nf n j (by lia)))
theorem Kc (n k:Nat)(h:n<=k):SmO (run (k + 1) .Co) n:=YW (Nf n k h)
theorem GY:∀(n k:Nat),n + 2<=k->Ev (run k .AS) n
 | 0,k,_=>λs hs=>absurd s.depth_pos (by lia)
 | n + 1,k,h=>by
   obtain ⟨j,rfl⟩:∃j,k=j + 2:=Nat.exists_eq_add_of_le' (by lia);exact Tx (.inr (GY n (j + 1) (by lia))) (Kc (n + 1) j (by lia))
theorem Kg (A:Nat):∀(n k:Nat),2 * n + 3<=k->FF A (run k .Da) n
 | 0,k,_=>λs r hs=>absurd s.depth_pos (by lia)
 | n + 1,k,h=>by
   obtain ⟨j,rfl⟩:∃j,k=j + 2:=Nat.exists_eq_add_of_le' (by lia);have hl:=GY n j (by lia);have ht:=Kg A n j (by lia);exact UI (YF hl ht) (YV hl ht) (YT hl ht) (Hm (n + 1) (j + 1) (by lia)) (GY (n + 1) (j + 1) (by lia))
theorem LP:Kt (run 98 .Ca) 6:=Pk (λA=>Kg A 6 97 (by decide)) (YX (Lq 6 96 (by decide)) (Lp 6 96 (by decide))) (Kc 6 96 (by decide)) (Hm 6 97 (by decide))
theorem Pm (k:Nat)(h:8<=k):Nk (run (k + 1) .Ca) 6:=Pl (Hm 6 k (by lia))
theorem Bq (k:Nat):PTakeOk (run (k + 1) .AG):=Rc
theorem Pv (k:Nat):Jm (run (k + 1) .Ck):=Q6
theorem CD (k:Nat):PLeafOk (run (k + 2) .AR):=Q4 (Bq k)
theorem Kb:∀(n k:Nat),n + 3<=k->IE (run k .BR) n
 | 0,k,_=>λd k n S h=>absurd h (by lia)
 | n + 1,k,h=>by
   obtain ⟨j,rfl⟩:∃j,k=j + 4:=Nat.exists_eq_add_of_le' (by lia);exact T9 (Bq (j + 2)) (CD (j + 1)) (.inr (Kb n (j + 3) (by lia)))
theorem LR (k:Nat):PRecC (run (k + 3) .Bj):=Wv (CD k)
theorem Pt (k:Nat):KO (run (k + 4) .Cj):=T6 (Bq (k + 2)) (LR k) (CD (k + 1))
theorem HQ (k:Nat):Fl (run (k + 1) .Bi):=NT
theorem PB (k:Nat):Jn (run (k + 2) .AN):=Rf (Bq k)
theorem Gx:∀(n k:Nat),2 * n + 4<=k->Hg (run k .AY) n
 | 0,k,_=>λs k n B S h=>absurd s.depth_pos (by lia)
 | n + 1,k,h=>by
   obtain ⟨j,rfl⟩:∃j,k=j + 5:=Nat.exists_eq_add_of_le' (by lia);exact WB (Bq (j + 3)) (.inr (Gx n (j + 4) (by lia))) (WC (Gx n (j + 3) (by lia)) (Bq (j + 2)) (CD (j + 1))) (PB (j + 2)) (CD (j + 2))
theorem HM:∀(n k:Nat),n + 2<=k->Eo (run k .Bk) n
 | 0,k,_=>λs r h=>absurd s.depth_pos (by lia)
 | n + 1,k,h=>by
   obtain ⟨j,rfl⟩:∃j,k=j + 2:=Nat.exists_eq_add_of_le' (by lia);exact NJ (HQ j) (.inr (HM n (j + 1) (by lia)))
theorem O4 (k:Nat):KR (run (k + 1) .BZ):=O5
theorem J4:∀(n k:Nat),n + 2<=k->En (run k .BP) n
 | 0,k,_=>λs hs=>absurd s.depth_pos (by lia)
 | n + 1,k,h=>by
   obtain ⟨j,rfl⟩:∃j,k=j + 2:=Nat.exists_eq_add_of_le' (by lia);exact Ty (.inr (J4 n (j + 1) (by lia))) (O4 j)
theorem IX:∀(n k:Nat),n + 2<=k->Eu (run k .BC) n
 | 0,k,_=>λs hs=>absurd s.depth_pos (by lia)
 | n + 1,k,h=>by
   obtain ⟨j,rfl⟩:∃j,k=j + 2:=Nat.exists_eq_add_of_le' (by lia);exact QM (IX n (j + 1) (by lia)) (HQ j)
theorem Ly:∀(n k:Nat),n + 1<=k->IC (run k .BQ) n
 | 0,k,_=>λs hs=>absurd s.depth_pos (by lia)
 | n + 1,k,h=>by
   obtain ⟨j,rfl⟩:∃j,k=j + 2:=Nat.exists_eq_add_of_le' (by lia);exact VZ (.inr (Ly n (j + 1) (by lia))) (λx o hn=>O1 x o hn)
theorem Ke:∀(n k:Nat),n + 1<=k->GK (run k .BE) n
 | 0,k,_=>λs hs=>absurd s.depth_pos (by lia)
 | n + 1,k,h=>by
   obtain ⟨j,rfl⟩:∃j,k=j + 2:=Nat.exists_eq_add_of_le' (by lia);exact UE (.inr (Ke n (j + 1) (by lia))) (λx o hn=>N0 x o hn)
theorem J5:∀(n k:Nat),n + 1<=k->GI (run k .BD) n
 | 0,k,_=>λs hs=>absurd s.depth_pos (by lia)
 | n + 1,k,h=>by
   obtain ⟨j,rfl⟩:∃j,k=j + 2:=Nat.exists_eq_add_of_le' (by lia);exact Tz (.inr (J5 n (j + 1) (by lia))) (λx o hn=>NI x o hn)
theorem PF:RightO (run 99 .BY) 6:=Uf (by decide) LP (Ke 6 98 (by decide)) (Ly 6 98 (by decide)) (J4 6 98 (by decide)) (IX 6 98 (by decide)) (HM 6 98 (by decide)) (PC (Pm 96 (by decide)))
theorem Re:Nj (run 99 .CA):=Wz (Bq 97) (Q9 (Bq 96) (LR 94) (CD 95) (Kb 4 97 (by decide))) (Gx 6 98 (by decide))
theorem NS:Jl (run 99 .BX):=Q5 (Bq 97) (Gx 6 98 (by decide)) (Pt 94)
theorem Op:KJ (run 99 .BW):=SI LP (J5 6 98 (by decide)) (Bq 97) (CD 96)
theorem PU:KS (run 99 .Bo):=UB (Bq 97)
theorem law_true (ns:List Int)(h:ns.length<=63):∃S',run 100 .law_ [.scr ns] []=some (.bl true,S'):=by
 obtain ⟨r,S',e,p⟩:=VY (Bq 98) PF Op (CD 97) NS PU Re (Pv 98) (ns:=ns);subst p;exact ⟨S',e⟩
end K51
namespace PySem.W.Fast
def tw10001582917717861206:=0
def tw10038791440703170198:=0
def tw10044674329913971886:=0
def tw10061527491609163256:=0
def tw100918976217753852:=0
def tw1009907993426483382:=0
def tw10101491930710553213:=0
def tw10173929645343617179:=0
def tw10205510628811833635:=0
def tw10424493486118399048:=0
def tw10551462584674542484:=0
def tw10554231469464387642:=0
def tw10566486037748662947:=0
def tw10602001435617040227:=0
def tw10652230370558359661:=0
def tw10746100424068030937:=0
def tw1084484974542398616:=0
def tw10870835044374181373:=0
def tw10928643203508177445:=0
def tw10954926664928311081:=0
def tw10968510165004864751:=0
def tw11003781795425551565:=0
def tw11020471900043554:=0
def tw11057673482375060412:=0
def tw11073549762402577672:=0
def tw11191592526192524299:=0
def tw1124227984665086543:=0
def tw1129678530183185348:=0
def tw1137116393394419975:=0
def tw11371455817491638213:=0
def tw1152206596865060094:=0
def tw11531151554547656152:=0
def tw11531551743596936880:=0
def tw11533317869091679387:=0
def tw11562575750283473913:=0
def tw11587624900393880748:=0
def tw11618575925407302996:=0
def tw11816650046668622307:=0
def tw11839341526290676945:=0
def tw11955532704096389549:=0
def tw11980108890708730542:=0
def tw12085291422010162160:=0
def tw12086210868753038103:=0
def tw12132003582262752552:=0
def tw12158065421219297497:=0
def tw122899953889123836:=0
def tw12293756012133224632:=0
def tw12324848771655980166:=0
def tw12328604777807426712:=0
def tw1233631619812903903:=0
def tw12384417878442833412:=0
def tw12422023059553601808:=0
def tw12423234210167496854:=0
def tw1245624227207878331:=0
def tw12465560650391163059:=0
def tw12560654303714861280:=0
def tw12569846604147386152:=0
def tw12663782654349217499:=0
def tw12664411841502795775:=0
def tw12672836202693536758:=0
def tw12676824660428935387:=0
def tw12694539947415723612:=0
def tw12741344393271667882:=0
def tw12782652240718952288:=0
def tw12818660171595493449:=0
def tw1291821493560461117:=0
def tw12931312475674003120:=0
def tw13013264902769553034:=0
def tw13023915851563720776:=0
def tw13047702975339586673:=0
def tw1304962634015311141:=0
def tw13065192373893392614:=0
def tw13252811709966469805:=0
def tw13257471153241282205:=0
def tw13263952087379465766:=0
def tw13270497741853670414:=0
def tw13290528515250837696:=0
def tw13308974690782824563:=0
def tw13324278969356606620:=0
def tw13360945096993648985:=0
def tw13380250744067840923:=0
def tw13463927006875583464:=0
def tw13477963785500984872:=0
def tw13519099670575679457:=0
def tw13558026326645701916:=0
def tw13578114706140089416:=0
def tw1372453968160134934:=0
def tw13735011938094508573:=0
def tw13746269115881912584:=0
def tw13764969820414705054:=0
def tw1391215326625742541:=0
def tw13964649746938379912:=0
def tw14108088465187988924:=0
def tw14132523926231242174:=0
def tw14204163222404839214:=0
def tw14204780467693766401:=0
def tw14292445812089110641:=0
def tw14381689566957733997:=0
def tw14425800966621994230:=0
def tw14443382178783759553:=0
def tw14465479241124271930:=0
def tw14590881671207448259:=0
def tw14653201168893581754:=0
def tw14690815935675844950:=0
def tw14720603266580318669:=0
def tw14730648725059691431:=0
def tw14746390020815073037:=0
def tw14768820989322094602:=0
def tw14791016244636638263:=0
def tw14885153562109179980:=0
def tw14895911794795974166:=0
def tw1496366064081241569:=0
def tw14979228046149199020:=0
def tw15069182380336926917:=0
def tw1507481630803397120:=0
def tw15086753499408241397:=0
def tw15116164198439130868:=0
def tw15144096306082635189:=0
def tw15145939836284479721:=0
def tw15151754968543894934:=0
def tw15182893804400072034:=0
def tw15226878250862686379:=0
def tw1537514243490009209:=0
def tw15394884351172215838:=0
def tw15434886109808905293:=0
def tw15465494375494822035:=0
def tw15577521092164721905:=0
def tw15583698127909621060:=0
def tw15597729315532367526:=0
def tw15811616902613048162:=0
def tw15853769180595361855:=0
def tw15900903492389817099:=0
def tw15913531966962201432:=0
def tw159795202134942573:=0
def tw15999512665725798169:=0
def tw16061101196017773342:=0
def tw16098785939871618929:=0
def tw16117773939142587656:=0
def tw16137161002566073015:=0
def tw16151632419586965129:=0
def tw1617607848863617053:=0
def tw16181771733656903728:=0
def tw16207485127016089898:=0
def tw1625318762931567178:=0
def tw16290168454378963919:=0
def tw16304131555584751008:=0
def tw1632635759946963570:=0
def tw16370934672292152873:=0
def tw16384653324621169888:=0
def tw16442108962219584434:=0
def tw16467622526126888649:=0
def tw16508925439364149021:=0
def tw16510944845373995330:=0
def tw16545516007117738373:=0
def tw1660482209482792476:=0
def tw16608643809297453585:=0
def tw16660459787420172772:=0
def tw16678693158875158546:=0
def tw16744258665468270895:=0
def tw16773761225670253726:=0
def tw16841876939384229272:=0
def tw16848324543467088598:=0
def tw16862406548519705095:=0
def tw16863675526261107316:=0
def tw16867428871459880826:=0
def tw1692750229685706368:=0
def tw17014940906307153461:=0
def tw17159645014996511167:=0
def tw1716686520521094414:=0
def tw17246666880206655146:=0
def tw17270303758623605497:=0
def tw17330830046635400570:=0
def tw1733147019650346325:=0
def tw17351301450922401880:=0
def tw17371880414213787739:=0
def tw17385633074759374302:=0
def tw17411196966797067875:=0
def tw17420796161334575230:=0
def tw1742493281726289531:=0
def tw1746296997537229553:=0
def tw17553604591325100342:=0
def tw17573022390569098822:=0
def tw17615354670508398748:=0
def tw17668929357943145281:=0
def tw17686881059064320922:=0
def tw17703951496631078025:=0
def tw1777795085919877261:=0
def tw17809993615523491105:=0
def tw17896037140908916009:=0
def tw17931810821419877148:=0
def tw1801415823653636942:=0
def tw18031344638748541926:=0
def tw18057589681817660369:=0
def tw18138565381134959547:=0
def tw18150995640845570425:=0
def tw18197962507362898615:=0
def tw18237449225447238179:=0
def tw18239884960869716601:=0
def tw18266666236520023119:=0
def tw18322939308629549032:=0
def tw18333913894105919693:=0
def tw18409599299777098795:=0
def tw1871820625831858670:=0
def tw1901771182258469292:=0
def tw1914561167702351854:=0
def tw1919783923649991248:=0
def tw1956811838460885393:=0
def tw200058431581957001:=0
def tw2013935105079325544:=0
def tw2086362680589097832:=0
def tw2110260138694663952:=0
def tw2155402178747188161:=0
def tw2297423692224924607:=0
def tw2303631058713259286:=0
def tw2312675734670984477:=0
def tw2347405995871758640:=0
def tw234821909910172879:=0
def tw2350548539681240721:=0
def tw2449667344625322120:=0
def tw250081047078461988:=0
def tw2560360276023458440:=0
def tw2613019942012926064:=0
def tw2626255789933371629:=0
def tw2633902319907391596:=0
def tw2713110347609009542:=0
def tw272359158369553592:=0
def tw2804774648050449478:=0
def tw2807484881577403996:=0
def tw2817317012873278359:=0
def tw2823297290220604873:=0
def tw283206672085893016:=0
def tw2848406717540776671:=0
def tw2874615545586619297:=0
def tw2927880499955576347:=0
def tw3000503009849922574:=0
def tw3011452216245360278:=0
def tw3139555989328293480:=0
def tw3157510773726498623:=0
def tw3158362649468408370:=0
def tw3193731603553125606:=0
def tw3201976841363607291:=0
def tw3243098478078744482:=0
def tw3313032256405731131:=0
def tw3378836701041683645:=0
def tw3413683331975360890:=0
def tw3442481943602520709:=0
def tw3509164290350134408:=0
def tw3595362459250993454:=0
def tw3635262969732116968:=0
def tw3642492368079374380:=0
def tw3699860478627721561:=0
def tw3746455180066671617:=0
def tw3853745484618523947:=0
def tw3967543442387948029:=0
def tw3996143331250171576:=0
def tw4015103621154017530:=0
def tw4094080849047859557:=0
def tw4162687330175237494:=0
def tw4164976483969713642:=0
def tw4172407142145112193:=0
def tw4192477437874393606:=0
def tw4204168821908241090:=0
def tw4321407158423738254:=0
def tw4321932999629574081:=0
def tw4335898507708866760:=0
def tw4409871043563574049:=0
def tw4410669877663586332:=0
def tw447462046567795466:=0
def tw44860442930544609:=0
def tw4527030644008700722:=0
def tw4683037987150151056:=0
def tw471661332935037059:=0
def tw477500700336444551:=0
def tw482424344641321484:=0
def tw4853549675398875257:=0
def tw488561338603001191:=0
def tw4896161498715309698:=0
def tw5046699400595758990:=0
def tw5053125699383980665:=0
def tw506423628820389474:=0
def tw5174229171931027452:=0
def tw5175621293224320801:=0
def tw519093443568928357:=0
def tw5200910436107660915:=0
def tw5254198660648386437:=0
def tw5292612184356395651:=0
def tw5394217901911214554:=0
def tw5402322393911074372:=0
def tw5404729363915860291:=0
def tw5436664385179446423:=0
def tw5451831970606150139:=0
def tw5467461134789755593:=0
def tw5522542366654229486:=0
def tw5630226888087998283:=0
def tw5708488942671696768:=0
def tw5766252516258545395:=0
def tw586859935546156339:=0
def tw5876659674437816453:=0
def tw5955962577762950322:=0
def tw6068827248626952593:=0
def tw6171057094398513744:=0
def tw6173810289716996999:=0
def tw6220507727210226343:=0
def tw6238512149990170831:=0
def tw6241146509674679103:=0
def tw6247788659796532324:=0
def tw6264363469511776589:=0
def tw6333652115471054018:=0
def tw6379534270941316864:=0
def tw6443287649365958813:=0
def tw6505506111324871322:=0
def tw6526035120693368923:=0
def tw6550121819372215705:=0
def tw6560744771131612444:=0
def tw6588425265919293329:=0
def tw6646721891408641561:=0
def tw675510870090614461:=0
def tw6772620339337841960:=0
def tw6785351102033308981:=0
def tw6811696263579521724:=0
def tw6921531423068684208:=0
def tw6973933558617656015:=0
def tw6975667130229500862:=0
def tw7004556007239605328:=0
def tw7010538636454870043:=0
def tw703133854343930024:=0
def tw7056098764214680125:=0
def tw7091596717250606008:=0
def tw7158558602371145221:=0
def tw7167955359798396298:=0
def tw7195838347732851371:=0
def tw7206366970438646227:=0
def tw7278787607101935297:=0
def tw732722323987905492:=0
def tw735747510721616725:=0
def tw7369845857954760151:=0
def tw7377086336796005439:=0
def tw7413329494048154103:=0
def tw7424151146821950104:=0
def tw7441349163870435305:=0
def tw7482141144660898013:=0
def tw7502439639770539440:=0
def tw7519134391550564276:=0
def tw7559045393243899296:=0
def tw757419254390539948:=0
def tw7593431761917203035:=0
def tw7631732774087934071:=0
def tw7634713237088933184:=0
def tw7649858907937008266:=0
def tw7720912671358328458:=0
def tw7739334016830297433:=0
def tw7791411682521550260:=0
def tw8041203227985627540:=0
def tw8083776960071690219:=0
def tw8122454768571792809:=0
def tw8204010592055626784:=0
def tw8223167458099506332:=0
def tw8307416459045975389:=0
def tw8345677564376628517:=0
def tw8362499442951042184:=0
def tw8412687827913184723:=0
def tw8459706259605474937:=0
def tw847115024748384820:=0
def tw849226084310611406:=0
def tw8542523563365418694:=0
def tw8543614910175023346:=0
def tw8569205342910211113:=0
def tw8576639378762557917:=0
def tw8637233158809847037:=0
def tw8691810015177609263:=0
def tw8697268303909501136:=0
def tw8723675007796323042:=0
def tw8763325125401800977:=0
def tw8764729214810256910:=0
def tw8768302466398998374:=0
def tw8791462590250655808:=0
def tw8806269608805120022:=0
def tw8875108632644014761:=0
def tw8950632348620181501:=0
def tw897365618295572670:=0
def tw9080425049916572859:=0
def tw9168782828455433143:=0
def tw9174063053441516986:=0
def tw9184782523545469778:=0
def tw9209062621400353148:=0
def tw926025747176718874:=0
def tw9304182481333400644:=0
def tw9312569245518585592:=0
def tw9429411036748629186:=0
def tw9482024447491231455:=0
def tw9482361395779017148:=0
def tw9512668922767911929:=0
def tw9529971202038953686:=0
def tw9539245937034668927:=0
def tw9550932365312438581:=0
def tw9563364971331588805:=0
def tw9566351088713958983:=0
def tw9625364251476215573:=0
def tw9643950485081001258:=0
def tw967666051755968791:=0
def tw9709215068181040744:=0
def tw9714128720972567661:=0
def tw9774347079027957771:=0
def tw9804697247183357444:=0
def tw9823540081350624271:=0
def tw9826879128540456968:=0
def tw9889653118114516862:=0
def tw9920287097621965655:=0
def tw9964381168126287610:=0
def tw9977597206911733532:=0
def tw999628025216434641:=0
end PySem.W.Fast
open PySem PySem.W PyProof.Rows
set_option maxRecDepth 100000 in
set_option maxHeartbeats 0 in
theorem PySem.Challenge.cw_wireparley_k51_parting_values_holds : PySem.Challenge.rw_wireparley_k51_parting_values.Holds := by
 w_on;o_law;k_head;(case hw=>w_witness2)
 k_fill
 refine K51.walk (l:=PySem.Challenge.rw_wireparley_k51_parting_values) 100 ⟨rfl,by decide,by decide⟩ rfl rfl (λw h Y=>PySem.W.kIn_of Y) K51.law_true ?F
 case F=>
  intro w mg fa h KX G hmg;refine' K51.fin_mk KX G hmg ?H ?aD ?aS ?aI ?aJ ?a9 ?aK ?aG ?aP ?aL ?aT ?aE ?aO ?aR ?aF ?aQ ?aB ?aC ?aA ?xm
  (case H=>intro x;cases x <;> (refine' K51.at_mk ?a ?l ?c ?k;(case a=>k_is);(case l=>k_is);(case c=>k_is);(case k=>k_is)))
  (case aD=>k_is)
  (case aS=>k_is)
  (case aI=>k_is)
  (case aJ=>k_is)
  (case a9=>k_is)
  (case aK=>k_is)
  (case aG=>k_is)
  (case aP=>k_is)
  (case aL=>k_is)
  (case aT=>k_is)
  (case aE=>k_is)
  (case aO=>k_is)
  (case aR=>k_is)
  (case aF=>k_is)
  (case aQ=>k_is)
  (case aB=>k_is)
  (case aC=>k_is)
  (case aA=>k_is)
  (case xm=>refine' K51.xm_all KX G ?x_p ?x_a1 ?x_a2 ?x_a3 ?x_a4 ?x_a5 ?x_a6 ?x_a7 ?x_q ?x_nd ?x_n1;(case x_p=>k_is);(case x_a1=>k_is);(case x_a2=>k_is);(case x_a3=>k_is);(case x_a4=>k_is);(case x_a5=>k_is);(case x_a6=>k_is);(case x_a7=>k_is);(case x_q=>kernel_rfl);(case x_nd=>decide);(case x_n1=>kernel_rfl))
