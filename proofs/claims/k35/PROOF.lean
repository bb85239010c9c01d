import PyProof.Rows.All
import Wide.All
import OpenK.AllK
import Wide.FinOn
import Lean
import PyProof.EqAt
import PyProof.EqKinds
import PyProof.TupleCall
import PyProof.NeKinds
import PyProof.ListMulRoad
import PyProof.MaxThree
import PyProof.Rows.StrJoinMade
import PyProof.ListStr
import PyProof.Rows.MinMaxN
import PyProof.Rows.Range3
import PyProof.ListRange
import PyProof.Rows.SetFrom
import PyProof.Rows.StrCase
import PyProof.SumAny
import PyProof.AutoIntG2
import PyProof.AutoListH
import PyProof.EnumStmt
import PyProof.EnumFor
import PyProof.EnumMake
import PyProof.Rows.EnumRows
import PyProof.ConsumeS
import PyProof.Rows.SortWalk
import KE.KDictSum
import PyProof.ZipIter
import KE.KEqDict
import PyProof.ExcClass2
import PyProof.RaisesMany
import PyProof.ExcBaseAll.ValueError
import PyProof.RulesDel
import PyProof.RulesAs
import PyProof.ExcArgs
import KE.KDictOf
import PyProof.AttrMissHeap
import KE.KMinKey
import PyProof.Rows.CallKwBuiltin
import PySem.Challenge.RW_wireparley_k35_long_talks
set_option bootstrap.genMatcherCode false
set_option genSizeOf false
set_option genInjectivity false
noncomputable section
abbrev ua0:=@List.findIdx?_eq_some_iff_getElem
abbrev ua1:=@Array.getElem?_setIfInBounds_ne
abbrev ua2:=@List.eq_nil_of_length_eq_zero
abbrev ua3:=@PyProof.Rows.callWith_type1
abbrev ua4:=@PySem.F.slot_int_bit_length
abbrev ua5:=@Int.fdiv_eq_ediv_of_nonneg
abbrev ua6:=@List.getElem?_append_right
abbrev ua7:=@List.getD_eq_getElem?_getD
abbrev ua8:=@PySem.F.excBase_ValueError
abbrev ua9:=@Array.getElem?_eq_some_iff
abbrev ub0:=@List.getElem?_eq_none_iff
abbrev ub1:=@List.getElem?_eq_some_iff
abbrev ub2:=@List.getElem?_append_left
abbrev ub3:=@List.drop_eq_getElem_cons
abbrev ub4:=@List.getElem?_eq_getElem
abbrev ub5:=@Array.size_setIfInBounds
abbrev ub6:=@List.filterMap_cons_none
abbrev ub7:=@List.filterMap_cons_some
abbrev ub8:=@List.getElem?_replicate
abbrev ub9:=@PySem.F.plainAttrs_list
abbrev uc0:=@List.getElem?_cons_succ
abbrev uc1:=@Int.eq_ofNat_of_zero_le
abbrev uc2:=@List.getElem?_set_self
abbrev uc3:=@PySem.Heap.get?_push_of_some
abbrev uc4:=@PySem.W.cellsFrom_some
abbrev uc5:=@PySem.Heap.get?_update_other
abbrev uc6:=@Option.map_eq_some_iff
abbrev uc7:=@List.take_of_length_le
abbrev uc8:=@Nat.div_div_eq_div_mul
abbrev uc9:=@Nat.le_of_succ_le_succ
abbrev ud0:=@List.drop_of_length_le
abbrev ud1:=@List.mem_append_right
abbrev ud2:=@PySem.W.methodCall_KW
abbrev ud3:=@List.length_replicate
abbrev ud4:=@List.length_singleton
abbrev ud5:=@Nat.le_of_ble_eq_true
abbrev ud6:=@PySem.Heap.get?_update_self
abbrev ud7:=@List.take_append_drop
abbrev ud8:=@List.take_eq_take_min
abbrev ud9:=@List.mem_cons_of_mem
abbrev ue0:=@List.getElem?_set_ne
abbrev ue1:=@List.mem_of_getElem?
abbrev ue2:=@List.forall_mem_cons
abbrev ue3:=@List.filterMap_cons
abbrev ue4:=@PySem.Heap.get?_push_size
abbrev ue5:=@PySem.W.plainGet_of
abbrev ue6:=@List.replicate_succ
abbrev ue7:=@List.map_congr_left
abbrev ue8:=@List.take_succ_cons
abbrev ue9:=@Nat.add_le_add_left
abbrev uf0:=@Int.toNat_of_nonneg
abbrev uf1:=@Nat.lt_of_lt_of_le
abbrev uf2:=@List.mem_cons_self
abbrev uf3:=@Bool.false_ne_true
abbrev uf4:=@Array.find?_toList
abbrev uf5:=@PySem.W.callWith_K
abbrev uf6:=@List.length_append
abbrev uf7:=@Bool.false_eq_true
abbrev uf8:=@List.mem_singleton
abbrev uf9:=@Int.emod_lt_of_pos
abbrev ug0:=@List.getElem?_take
abbrev ug1:=@PySem.W.mg_none_of
abbrev ug2:=@List.size_toArray
abbrev ug3:=@List.getElem?_map
abbrev ug4:=@Int.toNat_natCast
abbrev ug5:=@List.flatten_cons
abbrev ug6:=@List.append_assoc
abbrev ug7:=@Bool.eq_false_iff
abbrev ug8:=@Nat.lt_succ_of_lt
abbrev ug9:=@List.getElem?_set
abbrev uh0:=@Option.some.injEq
abbrev uh1:=@List.length_range
abbrev uh2:=@decide_eq_true_eq
abbrev uh3:=@of_decide_eq_true
abbrev uh4:=@List.getElem_inj
abbrev uh5:=@List.length_cons
abbrev uh6:=@Nat.lt_succ_self
abbrev uh7:=@List.length_take
abbrev uh8:=@List.length_drop
abbrev uh9:=@Bool.and_eq_true
abbrev ui0:=@List.lookup_cons
abbrev ui1:=@Nat.le_add_right
abbrev ui2:=@List.all_eq_true
abbrev ui3:=@List.not_mem_nil
abbrev ui4:=@List.getElem_mem
abbrev ui5:=@List.flatten_nil
abbrev ui6:=@List.cons_append
abbrev ui7:=@List.getElem_map
abbrev ui8:=@Nat.succ_le_succ
abbrev ui9:=@List.take_length
abbrev uj0:=@beq_self_eq_true
abbrev uj1:=@List.mem_append
abbrev uj2:=@Option.some.inj
abbrev uj3:=@List.length_map
abbrev uj4:=@PySem.W.kia_one
abbrev uj5:=@List.append_nil
abbrev uj6:=@List.nodup_cons
abbrev uj7:=@List.of_mem_zip
abbrev uj8:=@List.foldl_cons
abbrev uj9:=@List.nil_append
abbrev uk0:=@List.find?_cons
abbrev uk1:=@List.length_nil
abbrev uk2:=@Option.map_some
abbrev uk3:=@Bool.or_eq_true
abbrev uk4:=@Nat.not_lt_zero
abbrev uk5:=@List.map_append
abbrev uk6:=@Nat.le_add_left
abbrev uk7:=@Int.emod_nonneg
abbrev uk8:=@List.length_set
abbrev uk9:=@Nat.min_eq_left
abbrev ul0:=@decide_eq_false
abbrev ul1:=@List.mem_range
abbrev ul2:=@Bool.false_and
abbrev ul3:=@PySem.Heap.size_push
abbrev ul4:=@Bool.and_false
abbrev ul5:=@List.drop_zero
abbrev ul6:=@List.take_succ
abbrev ul7:=@decide_eq_true
abbrev ul8:=@Nat.lt_irrefl
abbrev ul9:=@List.mem_cons
abbrev um0:=@List.map_cons
abbrev um1:=@Bool.or_false
abbrev um2:=@List.all_cons
abbrev um3:=@List.any_cons
abbrev um4:=@List.map_take
abbrev um5:=@Bool.and_true
abbrev um6:=@Bool.true_and
abbrev um7:=@Nat.add_assoc
abbrev um8:=@Bool.and_self
abbrev um9:=@PySem.W.mg_of
abbrev un0:=@PySem.wpAny_holding
abbrev un1:=@PySem.Heap.lt_size
abbrev un2:=@Nat.ne_of_lt
abbrev un3:=@Nat.le_trans
abbrev un4:=@Nat.le_of_lt
abbrev un5:=@Nat.ne_of_gt
abbrev un6:=@Nat.le_of_eq
abbrev un7:=@Nat.mul_comm
abbrev un8:=@List.map_nil
abbrev un9:=@Nat.add_zero
abbrev uo0:=@Nat.pow_succ
abbrev uo1:=@List.mem_map
abbrev uo2:=@List.map_map
abbrev uo3:=@Nat.lt_or_ge
abbrev uo4:=@Int.zero_add
abbrev uo5:=@Nat.zero_add
abbrev uo6:=@Nat.sub_self
abbrev uo7:=@Nat.le_refl
abbrev uo8:=@Nat.zero_le
abbrev uo9:=@Nat.le_succ
abbrev up0:=@PySem.wpAny_field
abbrev up1:=@PySem.wpAny_bind
abbrev up2:=@PySem.wpAny_pure
abbrev up3:=@PySem.wpAny_mono
set_option Elab.async false
set_option linter.all false
set_option maxHeartbeats 4000000
set_option maxRecDepth 100000
local macro_rules | `(tactic| walk_at "h") => `(tactic| first | exact Or.inl rfl | exact Or.inr rfl | exact Or.inr (Or.inl rfl) | exact Or.inr (Or.inr rfl) | assumption)
namespace L2
open PySem PySem.Spec PyProof.Rows
abbrev Key:=Sum Int Str
noncomputable def Il:Key->Value->Bool
 | .inl k,v=>Value.isInt k v
 | .inr x,v=>Value.isStrOf x v
noncomputable def bx (w:World):Key->Int
 | .inl k=>hashInt k
 | .inr x=>hashStr w x
theorem BL:∀{k:Key} {v:Value},Il k v=true->(∃i t,k=Sum.inl i/\v=Value.int i t)\/(∃x t,k=Sum.inr x/\v=Value.str x t)
 | .inl i,v,h=>by
   obtain ⟨t,e⟩:=Value.isInt_shape (k:=i) (v:=v) h;exact .inl ⟨i,t,rfl,e⟩
 | .inr x,v,h=>by
   obtain ⟨t,e⟩:=Value.isStrOf_shape (x:=x) (v:=v) h;exact .inr ⟨x,t,rfl,e⟩
theorem Qj (i:Int)(t:Tok):Il (.inl i) (.int i t)=true:=by simp [Il,Value.isInt]
theorem Qk (x:Str)(t:Tok):Il (.inr x) (.str x t)=true:=by simp [Il,Value.isStrOf]
theorem XS (a b:Int):decide ((Sum.inl a:Key)=Sum.inl b)=(a == b):=by
 by_cases e:a=b
 ·subst e;simp
 ·have h:¬(Sum.inl a:Key)=Sum.inl b:=λq=>e (Sum.inl.inj q);rw [ul0 h];exact (beq_eq_false_iff_ne.mpr e).symm
theorem XV (a b:Str):decide ((Sum.inr a:Key)=Sum.inr b)=decide (a=b):=by
 by_cases e:a=b
 ·subst e;simp
 ·have h:¬(Sum.inr a:Key)=Sum.inr b:=λq=>e (Sum.inr.inj q);rw [ul0 h,ul0 e]
theorem XT (a:Int)(b:Str):decide ((Sum.inl a:Key)=Sum.inr b)=false:=ul0 (λq=>nomatch q)
theorem XU (a:Str)(b:Int):decide ((Sum.inr a:Key)=Sum.inl b)=false:=ul0 (λq=>nomatch q)
def BH (prog:Program)(w:World):PySem.KeyKind prog w Key where
 is:=Il
 hash:=bx w
 inj:=λv a b ha hb=>by
  rcases BL ha with ⟨i,t,rfl,rfl⟩ | ⟨x,t,rfl,rfl⟩
  ·rcases BL hb with ⟨j,u,rfl,e⟩ | ⟨y,u,rfl,e⟩
   ·injection e with e1 _;rw [e1]
   ·exact nomatch e
  ·rcases BL hb with ⟨j,u,rfl,e⟩ | ⟨y,u,rfl,e⟩
   ·exact nomatch e
   ·injection e with e1 _;rw [e1]
 byValue:=λk v h=>by
  rcases BL h with ⟨i,t,rfl,rfl⟩ | ⟨x,t,rfl,rfl⟩ <;> rfl
 pyHash:=λhv h=>by
  rcases BL hv with ⟨i,t,rfl,rfl⟩ | ⟨x,t,rfl,rfl⟩
  ·exact wpAny_pyHash_int h
  ·exact wpAny_pyHash_str h
 eqBool:=λhu hv h=>by
  rcases BL hu with ⟨i,t,rfl,rfl⟩ | ⟨x,t,rfl,rfl⟩
  ·rcases BL hv with ⟨j,u,rfl,rfl⟩ | ⟨y,u,rfl,rfl⟩
   ·rw [XS] at h;exact wpAny_eqBool_int h
   ·rw [XT] at h;exact SeqAt.EqAt.int_str i t y u _ _ _ _ h
  ·rcases BL hv with ⟨j,u,rfl,rfl⟩ | ⟨y,u,rfl,rfl⟩
   ·rw [XU] at h;exact SeqAt.EqAt.str_int x t j u _ _ _ _ h
   ·rw [XV] at h;exact wpAny_eqBool_str h
 «strs»:=λk x t v h=>by
  rcases BL h with ⟨i,u,rfl,e⟩ | ⟨y,u,rfl,e⟩
  ·exact nomatch e
  ·injection e with e1 _
   subst e1
   cases v <;> rfl
theorem Nn (prog:Program)(w:World)(i:Int)(t:Tok):(BH prog w).is (.inl i) (.int i t)=true:=Qj i t
theorem No (prog:Program)(w:World)(x:Str)(t:Tok):(BH prog w).is (.inr x) (.str x t)=true:=Qk x t
inductive V where
 | non | bl (b:Bool) | int (i:Int) | str (x:Str) | byt (b:Array UInt8) | flt (b:UInt64) | ref (a:Addr) | ty (n:String)
 deriving DecidableEq
noncomputable def RelV:V->Value->Prop
 | .non,u=>u=Value.none
 | .bl b,u=>u=Value.bool b
 | .int i,u=>∃t,u=Value.int i t
 | .str x,u=>∃t,u=Value.str x t
 | .byt b,u=>∃t,u=Value.bytes b t
 | .flt b,u=>∃t,u=Value.float b t
 | .ref a,u=>u=Value.ref a
 | .ty n,u=>u=Value.type n
abbrev Vals:List V->List Value->Prop:=Paired RelV
theorem Vals.length {xs:List V}{us:List Value}(r:Vals xs us):xs.length=us.length:=Paired.length r
theorem Vals.get:∀{xs:List V} {us:List Value} {i:Nat} {x:V},Vals xs us->xs[i]?=some x->∃u,us[i]?=some u/\RelV x u
 | _,_,_,_,.nil,e=>by simp at e
 | _,_,0,_,.cons r _,e=>by simp at e;subst e;exact ⟨_,rfl,r⟩
 | _,_,i + 1,x,.cons _ t,e=>by
   obtain ⟨u,h1,h2⟩:=Vals.get (i:=i) (x:=x) t (by simpa using e);exact ⟨u,by simpa using h1,h2⟩
theorem Vals.append {xs ys:List V}{us ws:List Value}(r:Vals xs us)(s:Vals ys ws):Vals (xs++ys) (us++ws):=by
 cases r with
 | nil=>exact s
 | cons r t=>exact .cons r (Vals.append t s)
theorem Vals.take:∀{xs:List V} {us:List Value} (n:Nat),Vals xs us->Vals (xs.take n) (us.take n)
 | _,_,0,_=>.nil
 | _,_,_ + 1,.nil=>.nil
 | _,_,n + 1,.cons r t=>.cons r (Vals.take n t)
theorem Vals.drop:∀{xs:List V} {us:List Value} (n:Nat),Vals xs us->Vals (xs.drop n) (us.drop n)
 | _,_,0,r=>r
 | _,_,_ + 1,.nil=>.nil
 | _,_,n + 1,.cons _ t=>Vals.drop n t
theorem Vals.none_of:∀{xs:List V} {us:List Value} {i:Nat},Vals xs us->xs[i]?=none->us[i]?=none:=λ{xs us i} r e=>by
 have h1:=r.length;have h2:xs.length<=i:=ub0.mp e;exact ub0.mpr (by lia)
def RelO:Option V->Option Value->Prop
 | some v,some u=>RelV v u
 | none,none=>True
 | _,_=>False
def KV {κ:Type}:List (κ×V)->List (κ×Value)->Prop:=Paired λ(p:κ×V) (q:κ×Value)=>p.1=q.1/\RelV p.2 q.2
noncomputable def kV:Key->V
 | .inl i=>.int i
 | .inr x=>.str x
inductive HO where
 /-- a list -/
 | lst (xs:List V)
 /-- a tuple (never changes) -/
 | tup (xs:List V)
 /-- a dict whose keys are ints and texts;one whose keys are tuples of ints and texts (the empty one is both) -/
 | dK (kvs:List (Key×V)) | dT (kvs:List (List Key×V))
 /-- a set of ints: its members,its size -/
 | set (S:Int->Bool) (n:Nat)
 /-- an instance of the class at C,its dict at dx,its attributes -/
 | ins (C dx:Addr) (fs:List (Str×V))
 /-- the dict of the instance at x -/
 | own (x:Addr)
 /-- the dict of an exception -/
 | xd (fs:List (Str×V))
 /-- a bound method,f of x -/
 | met (f x:Addr)
 /-- a range object lo,lo + 1,.. below hi -/
 | rng (lo hi:Int)
 /-- a thing that is known to the object (the script;a dict while a loop walks it): read,never written while it is so -/
 | frz (o:Obj) (u:HO)
 /-- a code object's table -/
 | tbl (ps:Array Value)
 /-- any other thing,by what is true of its one object (a def of one's own: SetO a S n:=HO.ext λh=>..) -/
 | ext (φ:Heap->Prop)
abbrev Hp:=Addr->Option HO
noncomputable def upd (H:Hp)(a:Addr)(o:HO):Hp:=λb=>if b=a then some o else H b
variable {H:Hp}{a:Addr}{o:HO}
theorem Ak:upd H a o a=some o:=by unfold upd;rw [if_pos rfl]
variable {b:Addr}
theorem Ah (h:b≠a):upd H a o b=H b:=by unfold upd;rw [if_neg h]
theorem K5 {u:HO}:upd (upd H a o) a u=upd H a u:=by
 funext b;unfold upd;split <;> rfl
theorem AI (h:H a=some o)(h':H b=none):a≠b:=by
 intro e;subst e;rw [h] at h';cases h'
section
variable (P:Program)(w:World)
def ObjOk (H:Hp)(h:Heap)(a:Addr):HO->Prop
 | .lst xs=>xs.length<=sizeLine/\∃(its:List Value) (n:Nat),Vals xs its/\h.get? a=some { cls:=.type "list",data:=.seq its.toArray n }
 | .tup xs=>xs.length<=sizeLine/\∃its:List Value,Vals xs its/\IsTup h a its.toArray
 | .dK kvs=>kvs.length<=sizeLine/\(a == sysModules)=false/\∃vs,KV kvs vs/\h.DictOf (BH P w) a vs
 | .dT kvs=>kvs.length<=sizeLine/\(a == sysModules)=false/\∃xs:List (List Key×Addr×Value),
    Paired (λ(p:List Key×V) (q:List Key×Addr×Value)=>p.1=q.1/\H q.2.1=some (.tup (p.1.map kV))/\RelV p.2 q.2.2) kvs xs/\
    ∃o es ep,h.get? a=some o/\o.ExactDict/\o.data = .dict es ep/\es.toList=xs.map (entryOfKey (tupleKind (BH P w)))/\(xs.map (·.1)).Nodup
 | .set S n=>h.SetOf (intKind P w) a S n
 | .ins C dx fs=>H dx=some (.own a)/\fs.length<=1000/\dx≠a/\h.get? a=some (PySem.W.instObj C dx)/\
    ∃mA,h.Ns1 dx mA/\(∀f,RelO (fs.lookup f) (mA f))/\PySem.Within mA (fs.map (·.1))
 | .own _=>∃o,h.get? a=some o
 | .xd fs=>∃mA,h.Ns1 a mA/\∀f,RelO (fs.lookup f) (mA f)
 | .rng lo hi=>∃t u v,h.get? a=some { cls:=.type "range",data:=.fields #[.int lo t,.int hi u,.int 1 v] }
 | .frz o u=>h.get? a=some o/\ObjOk H h a u
 | .tbl ps=>h.get? a=some { cls:=.none,data:=.fields ps }
 | .met f x=>h.get? a=some (PySem.W.methodObj (.ref f) (.ref x))
 | .ext φ=>φ h/\(∃o,h.get? a=some o)/\∀h1 h2:Heap,φ h1->(∀o,h1.get? a=some o->h2.get? a=some o)->φ h2
def HOk (H:Hp)(h:Heap):Prop:=∀a o,H a=some o->ObjOk P w H h a o
end
section
variable {P:Program}{w:World}{H H':Hp}{h h':Heap}{a:Addr}{o:HO}
theorem ObjOk.lt (x:ObjOk P w H h a o):a < h.objs.size:=by
 cases o with
 | lst xs=>obtain ⟨_,_,_,_,e⟩:=x;exact un1 e
 | tup xs=>obtain ⟨_,_,_,p⟩:=x;exact p.lt
 | dK kvs=>obtain ⟨_,_,_,_,o,_,_,e,_⟩:=x;exact un1 e
 | dT kvs=>obtain ⟨_,_,_,_,o,_,_,e,_⟩:=x;exact un1 e
 | set S n=>obtain ⟨o,_,_,_,e,_⟩:=x;exact un1 e
 | ins C dx fs=>obtain ⟨_,_,_,e,_⟩:=x;exact un1 e
 | own y=>obtain ⟨_,e⟩:=x;exact un1 e
 | xd fs=>obtain ⟨_,⟨_,_,_,e,_⟩,_⟩:=x;exact un1 e
 | rng lo hi=>obtain ⟨_,_,_,e⟩:=x;exact un1 e
 | frz ob u=>obtain ⟨e,_⟩:=x;exact un1 e
 | tbl ps=>exact un1 (show h.get? a=some _ from x)
 | met f y=>exact un1 (show h.get? a=some _ from x)
 | ext φ=>obtain ⟨_,⟨_,e⟩,_⟩:=x;exact un1 e
theorem Paired.mapP {α β:Type}{F G:α->β->Prop}:∀{l₁:List α} {l₂:List β},Paired F l₁ l₂->(∀a b,F a b->G a b)->Paired G l₁ l₂
 | _,_,.nil,_=>.nil
 | _,_,.cons r t,f=>.cons (f _ _ r) (Paired.mapP t f)
theorem ObjOk.stay (x:ObjOk P w H h a o)(k:∀b u,(b=a\/H b=some (.own a))->h.get? b=some u->h'.get? b=some u)
 (ho:∀b,H b=some (.own a)->H' b=some (.own a)) (ht:∀b xs,H b=some (.tup xs)->H' b=some (.tup xs)):ObjOk P w H' h' a o:=by
 induction o with
 | lst xs=>obtain ⟨z,its,n,r,e⟩:=x;exact ⟨z,its,n,r,k _ _ (.inl rfl) e⟩
 | tup xs=>obtain ⟨z,its,r,ob,e,c⟩:=x;exact ⟨z,its,r,ob,k _ _ (.inl rfl) e,c⟩
 | dK kvs=>obtain ⟨z,y,vs,r,ob,es,ep,e,c⟩:=x;exact ⟨z,y,vs,r,ob,es,ep,k _ _ (.inl rfl) e,c⟩
 | dT kvs=>
   obtain ⟨z,y,xs,r,ob,es,ep,e,c⟩:=x;exact ⟨z,y,xs,Paired.mapP r λp q z=>⟨z.1,ht _ _ z.2.1,z.2.2⟩,ob,es,ep,k _ _ (.inl rfl) e,c⟩
 | set S n=>obtain ⟨ob,es,ep,t,e,c⟩:=x;exact ⟨ob,es,ep,t,k _ _ (.inl rfl) e,c⟩
 | ins C dx fs=>
   obtain ⟨d,z,ne,e,mA,⟨od,es,ep,e2,c⟩,r⟩:=x;exact ⟨ho _ d,z,ne,k _ _ (.inl rfl) e,mA,⟨od,es,ep,k _ _ (.inr d) e2,c⟩,r⟩
 | own y=>obtain ⟨ob,e⟩:=x;exact ⟨ob,k _ _ (.inl rfl) e⟩
 | xd fs=>obtain ⟨mA,⟨od,es,ep,e,c⟩,r⟩:=x;exact ⟨mA,⟨od,es,ep,k _ _ (.inl rfl) e,c⟩,r⟩
 | rng lo hi=>obtain ⟨t,u,v,e⟩:=x;exact ⟨t,u,v,k _ _ (.inl rfl) e⟩
 | frz ob u ih=>obtain ⟨e,q⟩:=x;exact ⟨k _ _ (.inl rfl) e,ih q⟩
 | tbl ps=>
   have e:h.get? a=some { cls:=.none,data:=.fields ps }:=x;show h'.get? a=some { cls:=.none,data:=.fields ps };exact k a _ (.inl rfl) e
 | met f y=>
   have e:h.get? a=some (PySem.W.methodObj (.ref f) (.ref y)):=x;show h'.get? a=some (PySem.W.methodObj (.ref f) (.ref y));exact k a _ (.inl rfl) e
 | ext φ=>obtain ⟨p,⟨o,e⟩,st⟩:=x;exact ⟨st _ _ p λo q=>k _ _ (.inl rfl) q,⟨o,k _ _ (.inl rfl) e⟩,st⟩
theorem HOk.lt (x:HOk P w H h)(e:H a=some o):a < h.objs.size:=(x a o e).lt
theorem HOk.fresh (x:HOk P w H h)(e:h.objs.size<=a):H a=none:=by
 cases q:H a with
 | none=>rfl
 | some u=>exact absurd (uf1 (x.lt q) e) (ul8 _)
theorem HOk.kept (x:HOk P w H h)(k:∀b u,h.get? b=some u->h'.get? b=some u):HOk P w H h':=λa o e=>
 (x a o e).stay (λb u _ q=>k b u q) (λ_ q=>q) λ_ _ q=>q
theorem HOk.laid (x:HOk P w H h)(k:∀b u,h.get? b=some u->h'.get? b=some u)(hp:h.objs.size<=a)(new:ObjOk P w (upd H a o) h' a o):HOk P w (upd H a o) h':=λb u e=>by
 have hn:=x.fresh hp
 by_cases hb:b=a
 ·subst hb;rw [Ak] at e;cases e;exact new
 ·rw [Ah hb] at e;exact (x b u e).stay (λc v _ q=>k c v q) (λc q=>by rw [Ah (AI q hn)];exact q) λc xs q=>by rw [Ah (AI q hn)];exact q
end
noncomputable def Rd (H:Hp)(a:Addr)(u:HO):Prop:=H a=some u\/∃o,H a=some (.frz o u)
variable {P:Program}{w:World}{h:Heap}
theorem Rd.ok {u:HO}(r:Rd H a u)(x:HOk P w H h):ObjOk P w H h a u:=by
 rcases r with r | ⟨o,r⟩
 ·exact x a u r
 ·obtain ⟨_,q⟩:=x a _ r;exact q
def Mut:Option HO->Prop
 | some (.lst _)=>True
 | some (.dK _)=>True
 | some (.dT _)=>True
 | some (.set _ _)=>True
 | some (.ins _ _ _)=>True
 | some (.ext _)=>True
 | _=>False
section
variable {P:Program}{w:World}{H:Hp}{h h':Heap}{x e:Addr}{o':HO}
theorem HOk.write (ok:HOk P w H h)(mu:Mut (H x))(he:e=x\/H e=some (.own x))(k:∀b u,b≠e->h.get? b=some u->h'.get? b=some u)(heo:∃u,h'.get? e=some u)
 (new:ObjOk P w (upd H x o') h' x o'):HOk P w (upd H x o') h':=λb u q=>by
 have nown:∀c y,H c=some (.own y)->c≠x:=λc y r z=>by subst z;rw [r] at mu;exact mu
 have ntup:∀c xs,H c=some (.tup xs)->c≠x:=λc xs r z=>by subst z;rw [r] at mu;exact mu
 by_cases hb:b=x
 ·subst hb;rw [Ak] at q;cases q;exact new
 ·rw [Ah hb] at q
  by_cases hbe:b=e
  ·have q':H b=some (.own x):=by
    rcases he with z | z
    ·exact absurd (hbe.trans z) hb
    ·rw [hbe];exact z
   rw [q] at q';cases q'
   obtain ⟨v,hv⟩:=heo;exact ⟨v,by rw [hbe];exact hv⟩
  ·refine (ok b u q).stay (λc v hc r=>k c v ?_ r) (λc r=>by rw [Ah (nown c b r)];exact r) λc xs r=>by rw [Ah (ntup c xs r)];exact r
   rcases hc with rfl | hc
   ·exact hbe
   ·rintro rfl;rcases he with z | z
    ·exact nown c b hc z
    ·rw [hc] at z;cases z;exact hb rfl
end
structure Un (fs ex:List Addr)(H H':Hp)(h h':Heap):Prop where
 keep:∀b o,h.get? b=some o->H b=none->b∉fs->b∉ex->h'.get? b=some o
 slot:∀b o,h.get? b=some o->H b=none->b∈fs->b∉ex->∃sl,h'.get? b=some { o with slots:=sl }
 free:∀b o,h.get? b=some o->H b=none->b∉ex->H' b=none
 there:∀b o,h.get? b=some o->b∉ex->∃o',h'.get? b=some o'
 tups:∀b xs,H b=some (.tup xs)->H' b=some (.tup xs)
 frzs:∀b o u,H b=some (.frz o u)->H' b=some (.frz o u)
 tbls:∀b ps,H b=some (.tbl ps)->∃more,H' b=some (.tbl (ps++more))
section
variable {fs fs' ex ex':List Addr}{H H1 H2:Hp}{h h1 h2 h':Heap}{a x e:Addr}{o:HO}
theorem Un.any (u:Un fs ex H H1 h h1){b:Addr}{ob:Obj}(q:h.get? b=some ob)(n:H b=none)(hx:b∉ex):∃sl,h1.get? b=some { ob with slots:=sl }:=by
 by_cases hb:b∈fs
 ·exact u.slot b ob q n hb hx
 ·exact ⟨ob.slots,u.keep b ob q n hb hx⟩
theorem Un.kept (k:∀b u,h.get? b=some u->h'.get? b=some u):Un fs ex H H h h':=
 ⟨λb ob q _ _ _=>k b ob q,λb ob q _ _ _=>⟨ob.slots,k b ob q⟩,λ_ _ _ n _=>n,λb ob q _=>⟨ob,k b ob q⟩,λ_ _ q=>q,λ_ _ _ q=>q,λ_ ps q=>⟨#[],by rw [q];simp⟩⟩
theorem Un.refl:Un fs ex H H h h:=Un.kept λ_ _ q=>q
theorem Un.laid (k:∀b u,h.get? b=some u->h'.get? b=some u)(hp:h.objs.size<=a)(hn:H a=none):Un fs ex H (upd H a o) h h' where
 keep:=λb u q _ _ _=>k b u q
 slot:=λb u q _ _ _=>⟨u.slots,k b u q⟩
 free:=λb u q n _=>by rw [Ah (un2 (uf1 (un1 q) hp))];exact n
 there:=λb u q _=>⟨u,k b u q⟩
 tups:=λb xs q=>by rw [Ah (AI q hn)];exact q
 frzs:=λb u xs q=>by rw [Ah (AI q hn)];exact q
 tbls:=λb ps q=>⟨#[],by rw [Ah (AI q hn),q];simp⟩
theorem Un.write (mu:Mut (H x))(he:e=x\/H e=some (.own x))(k:∀b u,b≠e->h.get? b=some u->h'.get? b=some u)(heo:∃u,h'.get? e=some u):Un fs ex H (upd H x o) h h':=by
 have hx:∀b,H b=none->b≠x:=λb n z=>by subst z;rw [n] at mu;exact mu
 have hb:∀b,H b=none->b≠e:=λb n z=>by
  subst z;rcases he with r | r
  ·exact hx b n r
  ·rw [n] at r;cases r
 have hm:∀b u,H b=some u->¬Mut (some u)->b≠x:=λb u q nm z=>by subst z;rw [q] at mu;exact nm mu
 refine ⟨λb u q n _ _=>k b u (hb b n) q,λb u q n _ _=>⟨u.slots,k b u (hb b n) q⟩,λb u q n _=>by rw [Ah (hx b n)];exact n,λb u q _=>?_,
  λb xs q=>by rw [Ah (hm b _ q λz=>z)];exact q,λb u xs q=>by rw [Ah (hm b _ q λz=>z)];exact q,λb ps q=>⟨#[],by rw [Ah (hm b _ q λz=>z),q];simp⟩⟩
 by_cases hbe:b=e
 ·subst hbe;exact heo
 ·exact ⟨u,k b u hbe q⟩
end
noncomputable def trk (h:Heap)(H:Hp):List Addr:=(List.range h.objs.size).filter λa=>(H a).isSome
def GL (h:Heap)(H:Hp):Heap:=PySem.W.hideAll h (trk h H)
theorem P8 (h:Heap)(H:Hp):(GL h H).objs.size=h.objs.size:=PySem.W.hideAll_size _ _
theorem So {o:Obj}(e:h.get? b=some o)(n:H b=none):(GL h H).get? b=some o:=
 PySem.W.hideAll_get _ e λhm=>by
  have q:(H b).isSome=true:=(List.mem_filter.mp hm).2;rw [n] at q;simp at q
theorem Vs {o:Obj}(e:(GL h H).get? b=some o):h.get? b=some o/\H b=none:=by
 have e':h.get? b=some o:=PySem.W.of_hideAll (trk h H) e;refine ⟨e',?_⟩
 cases q:H b with
 | none=>rfl
 | some x=>
   have hm:b∈trk h H:=List.mem_filter.mpr ⟨ul1.mpr (un1 e'),by simp [q]⟩;have z:(GL h H).get? b=none:=PySem.W.hideAll_none (trk h H) hm;rw [z] at e;cases e
noncomputable def Ux (g h:Heap)(L:Addr):List (Addr×Obj):=(List.range h.objs.size).filterMap λa=>if a=L\/(g.get? a).isSome=true then none else (h.get? a).map λo=>(a,o)
def rest (g h:Heap)(L d:Addr):List (Addr×Obj):=(Ux g h L).filter λp=>decide (p.1≠d)
structure Mod (K:PySem.W.Frag)(mg:Str->Option Value)(base:Heap):Prop where
 kin:K.In base
 glob:base.Ns mainGlobals mg
 blt:∃mb,base.Ns builtinsNs mb/\∀x:Str,x≠"__name__"->mb x=bootBuiltins x
 nolimit:base.NoLimit
structure Cx where
 prog:Program
 w:World
 K:PySem.W.Frag
 mg:Str->Option Value
 base:Heap
 A:Around
 N:List Str
 s₀:Shared
 H₀:Hp
 env:Env
 outer:List Env
 stack:List Env
 ex:List Addr
 fn:Str->Bool
 calm:Bool
 pn:List (Addr×Obj)
 xe:Value->Shared->Prop
noncomputable def frs (l:List Env):List Addr:=l.filterMap (·.frame)
abbrev Cx.fs (X:Cx):List Addr:=frs X.outer
def Vis (sc:Scope)(x:Str):Prop:=sc.names.lookup x=some .local\/sc.names.lookup x=some .cell\/sc.names.lookup x=some .free
def Loc (sc:Scope)(x:Str):Prop:=sc.names.lookup x=some .local\/sc.names.lookup x=some .cell
def aT (env:Env)(h:Heap)(m:Str->Option Value)(x:Str)(u:Value):Prop:=
 (env.kindOf x=some .local/\m x=some u)\/((env.kindOf x=some .cell\/env.kindOf x=some .free)/\∃c,env.cells.lookup x=some c/\h.IsCell c (some u))
structure Cx.Ok (X:Cx):Prop where
 mod:Mod X.K X.mg X.base
 kind:X.env.scope.kind = .function
 glob:X.env.globals=mainGlobals
 blt:X.env.builtins=builtinsNs
 above:X.s₀.heap.objs.size<=X.env.locals
 inj:∀x y c,X.env.cells.lookup x=some c->X.env.cells.lookup y=some c->x=y
 has:∀x,(X.env.kindOf x=some .cell\/X.env.kindOf x=some .free)->∃c,X.env.cells.lookup x=some c
 cab:∀x c,X.fn x=true->X.env.cells.lookup x=some c->X.s₀.heap.objs.size<=c
 hd:X.calm=true->X.A.handled=none
 frames:X.A.frames=some X.stack
 stk:X.stack=X.outer\/(X.stack=X.env :: X.outer/\X.env.frame=some X.env.locals)
 exf:∀b∈X.ex,b≠X.env.locals/\∀x c,X.env.cells.lookup x=some c->c≠b
 bs:∀b o,X.base.get? b=some o->X.s₀.heap.get? b=some o/\X.H₀ b=none
 bsz:X.base.objs.size<=X.s₀.heap.objs.size
 noex:∀b o,X.base.get? b=some o->b∉X.ex
 exfs:∀b∈X.ex,b∉X.fs
 funs:X.s₀.heap.FunFrames X.base X.outer
 frf:∀b∈X.fs,X.H₀ b=none
structure Inv (X:Cx)(pins:List (Addr×Obj))(Z:List (Option V))(H:Hp)(s:Shared):Prop where
 ok:X.Ok
 os:s.os=X.s₀.os
 bare:AllBare s.gens
 base:Un X.fs X.ex X.H₀ H X.s₀.heap s.heap
 loc:∃m,s.heap.Ns X.env.locals m/\∀(i:Nat) (x:Str) (v:V),X.N[i]?=some x->Z[i]?=some (some v)->Vis X.env.scope x->∃u,RelV v u/\aT X.env s.heap m x u
 cell:∀x c,X.env.cells.lookup x=some c->∃v,s.heap.IsCell c v
 free:H X.env.locals=none
 freeC:∀x c,X.env.cells.lookup x=some c->H c=none
 pin:∀p∈X.pn++pins,s.heap.get? p.1=some p.2/\H p.1=none/\p.1≠X.env.locals/\p.1∉X.fs/\∀v,p.2.data≠.cell v
 hok:HOk X.prog X.w H s.heap
 len:Z.length=X.N.length
variable {t' i:Nat}{ch:List Addr}{E:Value->Shared->Prop}{x:Str}{v:V}{u:Value}{Q:Unit->Shared->Prop}
section
variable {X:Cx}{pins:List (Addr×Obj)}{Z:List (Option V)}{H H':Hp}{s:Shared}{h':Heap}
theorem Cx.Ok.nofr (ok:X.Ok){b:Addr}{o:Obj}(e:X.base.get? b=some o):b∉X.fs:=λhb=>by
 have:=(ok.funs.mem hb).1;rw [e] at this;cases this
theorem Inv.bs (I:Inv X pins Z H s):∀b o,X.base.get? b=some o->s.heap.get? b=some o/\H b=none:=λb o e=>
 ⟨I.base.keep b o (I.ok.bs b o e).1 (I.ok.bs b o e).2 (I.ok.nofr e) (I.ok.noex b o e),I.base.free b o (I.ok.bs b o e).1 (I.ok.bs b o e).2 (I.ok.noex b o e)⟩
theorem Inv.bk (I:Inv X pins Z H s):∀b o,X.base.get? b=some o->s.heap.get? b=some o:=λb o e=>(I.bs b o e).1
theorem Inv.mod (I:Inv X pins Z H s):Mod X.K X.mg X.base:=I.ok.mod
theorem Inv.kIn (I:Inv X pins Z H s):X.K.In s.heap:=I.ok.mod.kin.keeps I.bk
theorem Inv.lt (I:Inv X pins Z H s):X.env.locals < s.heap.objs.size:=let ⟨_,hn,_⟩:=I.loc;hn.lt
theorem Inv.sz (I:Inv X pins Z H s):X.s₀.heap.objs.size<=s.heap.objs.size:=un3 I.ok.above (un4 I.lt)
theorem Inv.nofs (I:Inv X pins Z H s){a:Addr}(h:s.heap.objs.size<=a):a∉X.fs:=λhb=>by
 obtain ⟨_,o,ho,_⟩:=I.ok.funs.mem hb;exact absurd (uf1 (un1 ho) (un3 I.sz h)) (ul8 _)
theorem Inv.cne (I:Inv X pins Z H s):∀x c,X.env.cells.lookup x=some c->c≠X.env.locals:=λx c e z=>by
 obtain ⟨v,o,ho,hd⟩:=I.cell x c e;obtain ⟨m,⟨o',es,ep,ho',hd',_⟩,_⟩:=I.loc;rw [z,ho'] at ho;cases ho;rw [hd'] at hd;cases hd
theorem Inv.funs (I:Inv X pins Z H s):s.heap.FunFrames X.base X.outer:=by
 have all:∀(l:List Env),(∀b∈frs l,b∈X.fs)->X.s₀.heap.FunFrames X.base l->s.heap.FunFrames X.base l:=by
  intro l
  induction l with
  | nil=>intro _ _;trivial
  | cons env r ih=>
    intro hs hl;obtain ⟨hk,⟨L,o,hf,hn,ho,hd⟩,hr⟩:=hl;have hL:L∈X.fs:=hs L (by unfold frs;rw [ue3,hf];exact uf2);obtain ⟨sl,e⟩:=I.base.slot L o ho (I.ok.frf L hL) hL λz=>I.ok.exfs L z hL;exact ⟨hk,⟨L,_,hf,hn,e,hd⟩,ih (λb hb=>hs b (by unfold frs;rw [ue3,hf];exact ud9 _ hb)) hr⟩
 exact all X.outer (λ_ hb=>hb) I.ok.funs
theorem Inv.stack (I:Inv X pins Z H s):s.heap.FunFrames X.base X.stack:=by
 rcases I.ok.stk with e | ⟨e,hf⟩
 ·rw [e];exact I.funs
 ·rw [e];obtain ⟨m,hn,_⟩:=I.loc;refine .cons (by rw [I.ok.kind];decide) hf hn ?_ I.funs;exact Heap.get?_none_of_le (un3 I.ok.bsz I.ok.above)
theorem Inv.stkSub (I:Inv X pins Z H s):∀b∈frs X.stack,b∈X.env.locals :: X.fs:=λb hb=>by
 rcases I.ok.stk with e | ⟨e,hf⟩
 ·rw [e] at hb;exact ud9 _ hb
 ·rw [e] at hb;unfold frs at hb;rw [ue3,hf] at hb;exact hb
theorem Inv.stkFree (I:Inv X pins Z H s):∀b∈frs X.stack,H b=none:=λb hb=>by
 rcases ul9.mp (I.stkSub b hb) with e | hb
 ·rw [e];exact I.free
 ·obtain ⟨_,o,ho,_⟩:=I.ok.funs.mem hb;exact I.base.free b o ho (I.ok.frf b hb) λz=>I.ok.exfs b z hb
theorem Inv.step {g':Array GenState}{d':Drawn}(I:Inv X pins Z H s)
 (hch:∀b∈ch,(b∈X.ex\/X.s₀.heap.objs.size<=b)/\b≠X.env.locals/\(∀x c,X.env.cells.lookup x=some c->c≠b)/\∀p∈X.pn++pins,p.1≠b)
 (keep:∀b o,b≠X.env.locals->b∉X.fs->b∉ch->s.heap.get? b=some o->H b=none->h'.get? b=some o)
 (slot:∀b o,b≠X.env.locals->b∈X.fs->b∉ch->s.heap.get? b=some o->H b=none->∃sl,h'.get? b=some { o with slots:=sl }) (free:∀b o,b∉ch->s.heap.get? b=some o->H b=none->H' b=none)
 (there:∀b o,b∉ch->s.heap.get? b=some o->∃o',h'.get? b=some o')
 (tups:∀b xs,H b=some (.tup xs)->H' b=some (.tup xs)) (frzs:∀b o u,H b=some (.frz o u)->H' b=some (.frz o u)) (tbls:∀b ps,H b=some (.tbl ps)->∃more,H' b=some (.tbl (ps++more)))
 (ns:∀m,s.heap.Ns X.env.locals m->h'.Ns X.env.locals m) (hok:HOk X.prog X.w H' h') (hg:AllBare g') :
 Inv X pins Z H' { s with heap:=h',gens:=g',drawn:=d',toks:=t' }:=by
 have neL:∀b o,X.s₀.heap.get? b=some o->b≠X.env.locals:=λb o e=>un2 (uf1 (un1 e) I.ok.above);have neC:∀b o,X.s₀.heap.get? b=some o->b∉X.ex->b∉ch:=λb o e hx hb=>by
  rcases (hch b hb).1 with z | z
  ·exact hx z
  ·exact absurd (uf1 (un1 e) z) (ul8 _)
 have cellK:∀x c,X.env.cells.lookup x=some c->∀v,s.heap.IsCell c v->h'.IsCell c v:=λx c e v z9=>by
  obtain ⟨o,ho,hd⟩:=z9;have nch:c∉ch:=λz=>(hch c z).2.2.1 x c e rfl
  by_cases hc:c∈X.fs
  ·obtain ⟨sl,q⟩:=slot c o (I.cne x c e) hc nch ho (I.freeC x c e);exact ⟨_,q,hd⟩
  ·exact ⟨o,keep c o (I.cne x c e) hc nch ho (I.freeC x c e),hd⟩
 refine ⟨I.ok,I.os,hg,⟨λb o e n hb hx=>?_,λb o e n hb hx=>?_,λb o e n hx=>?_,λb o e hx=>?_,λb xs e=>tups b xs (I.base.tups b xs e),λb o xs e=>frzs b o xs (I.base.frzs b o xs e),λb ps e=>?_⟩,?_,λx c e=>?_,?_,λx c e=>?_,λp hp=>?_,hok,I.len⟩
 ·exact keep b o (neL b o e) hb (neC b o e hx) (I.base.keep b o e n hb hx) (I.base.free b o e n hx)
 ·obtain ⟨sl,e1⟩:=I.base.slot b o e n hb hx;obtain ⟨sl',e2⟩:=slot b _ (neL b o e) hb (neC b o e hx) e1 (I.base.free b o e n hx);exact ⟨sl',e2⟩
 ·obtain ⟨o',e1⟩:=I.base.there b o e hx;exact free b o' (neC b o e hx) e1 (I.base.free b o e n hx)
 ·obtain ⟨o',e1⟩:=I.base.there b o e hx;exact there b o' (neC b o e hx) e1
 ·obtain ⟨m1,e1⟩:=I.base.tbls b ps e;obtain ⟨m2,e2⟩:=tbls b _ e1;exact ⟨m1++m2,by rw [e2,Array.append_assoc]⟩
 ·obtain ⟨m,hn,hl⟩:=I.loc;refine ⟨m,ns m hn,λi x v e1 e2 e3=>?_⟩;obtain ⟨u,r,l⟩:=hl i x v e1 e2 e3;refine ⟨u,r,?_⟩;rcases l with l | ⟨k,c,e,z⟩
  ·exact .inl l
  ·exact .inr ⟨k,c,e,cellK x c e _ z⟩
 ·obtain ⟨v,z⟩:=I.cell x c e;exact ⟨v,cellK x c e v z⟩
 ·obtain ⟨m,⟨o,_,_,ho,_⟩,_⟩:=I.loc;exact free _ o (λz=>(hch _ z).2.1 rfl) ho I.free
 ·obtain ⟨v,o,ho,hd⟩:=I.cell x c e;exact free c o (λz=>(hch c z).2.2.1 x c e rfl) ho (I.freeC x c e)
 ·obtain ⟨e,n,ne,nf,d⟩:=I.pin p hp;have nch:p.1∉ch:=λz=>(hch p.1 z).2.2.2 p hp rfl;exact ⟨keep p.1 p.2 ne nf nch e n,free p.1 p.2 nch e n,ne,nf,d⟩
theorem Inv.un (I:Inv X pins Z H s)(u:Un X.fs [] H H' s.heap h')(hok:HOk X.prog X.w H' h'):Inv X pins Z H' { s with heap:=h',toks:=t' }:=by
 obtain ⟨m,⟨o,es,ep,ho,r⟩,_⟩:=id I.loc;obtain ⟨sl,hL⟩:=u.any ho I.free (by simp);exact I.step (g':=s.gens) (d':=s.drawn) (ch:=[]) (λ_ z=>nomatch z) (λb o _ hb _ e n=>u.keep b o e n hb (by simp)) (λb o _ hb _ e n=>u.slot b o e n hb (by simp)) (λb o _ e n=>u.free b o e n (by simp)) (λb o _ e=>u.there b o e (by simp)) u.tups u.frzs u.tbls (λm' hm=>by
  obtain ⟨o',es',ep',ho',r'⟩:=hm;rw [ho] at ho';cases ho'
  exact ⟨_,es',ep',hL,r'⟩) hok I.bare
theorem Inv.call {g':Array GenState}{d':Drawn}(I:Inv X pins Z H s)(u:Un (frs X.stack) ch H H' s.heap h')(hok:HOk X.prog X.w H' h')(hg:AllBare g')
 (hch:∀b∈ch,(b∈X.ex\/X.s₀.heap.objs.size<=b)/\b≠X.env.locals/\(∀x c,X.env.cells.lookup x=some c->c≠b)/\∀p∈X.pn++pins,p.1≠b) :
 Inv X pins Z H' { s with heap:=h',gens:=g',drawn:=d',toks:=t' }:=by
 obtain ⟨m,⟨o,es,ep,ho,r⟩,_⟩:=id I.loc;obtain ⟨sl,hL⟩:=u.any ho I.free λz=>(hch _ z).2.1 rfl;exact I.step (ch:=ch) hch (λb o hL hb hc e n=>u.keep b o e n (λz=>(ul9.mp (I.stkSub b z)).elim hL hb) hc) (λb o _ _ hc e n=>u.any e n hc) (λb o hc e n=>u.free b o e n hc) (λb o hc e=>u.there b o e hc) u.tups u.frzs u.tbls (λm' hm=>by
  obtain ⟨o',es',ep',ho',r'⟩:=hm;rw [ho] at ho';cases ho'
  exact ⟨_,es',ep',hL,r'⟩) hok hg
theorem Inv.turned {it:Addr}(I:Inv X pins Z H s)(k:∀b o,b≠it->s.heap.get? b=some o->h'.get? b=some o)(hn:H it=none)(hL:it≠X.env.locals)
 (h1:it∈X.ex\/X.s₀.heap.objs.size<=it) (h2:∀x c,X.env.cells.lookup x=some c->c≠it) (h3:∀p∈X.pn++pins,p.1≠it):Inv X pins Z H { s with heap:=h',toks:=t' }:=by
 have nit:∀b u,H b=some u->b≠it:=λb u e z=>by rw [z,hn] at e;cases e
 refine I.step (g':=s.gens) (d':=s.drawn) (ch:=[it]) (λb hb=>?_) (λb o _ _ hc e _=>k b o (λz=>hc (by simp [z])) e) (λb o _ _ hc e _=>⟨o.slots,k b o (λz=>hc (by simp [z])) e⟩) (λ_ _ _ _ n=>n)
  (λb o hc e=>⟨o,k b o (λz=>hc (by simp [z])) e⟩) (λ_ _ e=>e) (λ_ _ _ e=>e) (λb ps e=>⟨#[],by rw [e];simp⟩) (λm hm=>?_) (λb u e=>?_) I.bare
 ·have e:b=it:=by simpa using hb
  subst e;exact ⟨h1,hL,h2,h3⟩
 ·obtain ⟨o,es,ep,ho,r⟩:=hm;exact ⟨o,es,ep,k _ o (Ne.symm hL) ho,r⟩
 ·refine (I.hok b u e).stay (λc v hc q=>k c v ?_ q) (λ_ q=>q) λ_ _ q=>q;rcases hc with z | z
  ·rw [z];exact nit b u e
  ·exact nit c _ z
theorem Inv.tok (I:Inv X pins Z H s)(t:Nat):Inv X pins Z H { s with toks:=t }:=I.un (h':=s.heap) (t':=t) Un.refl I.hok
theorem Inv.kept {t':Nat}(I:Inv X pins Z H s)(k:∀b u,s.heap.get? b=some u->h'.get? b=some u):Inv X pins Z H { s with heap:=h',toks:=t' }:=I.un (Un.kept k) (I.hok.kept k)
theorem Inv.laid {a:Addr}{o:HO}{t':Nat}(I:Inv X pins Z H s)(k:∀b u,s.heap.get? b=some u->h'.get? b=some u)(hp:s.heap.objs.size<=a)(new:ObjOk X.prog X.w (upd H a o) h' a o) :
 Inv X pins Z (upd H a o) { s with heap:=h',toks:=t' }:=I.un (Un.laid k hp (I.hok.fresh hp)) (I.hok.laid k hp new)
theorem Inv.write {x e:Addr}{o:HO}{t':Nat}(I:Inv X pins Z H s)(mu:Mut (H x))(he:e=x\/H e=some (.own x))(k:∀b u,b≠e->s.heap.get? b=some u->h'.get? b=some u)(heo:∃u,h'.get? e=some u)
 (new:ObjOk X.prog X.w (upd H x o) h' x o):Inv X pins Z (upd H x o) { s with heap:=h',toks:=t' }:=I.un (Un.write mu he k heo) (I.hok.write mu he k heo new)
theorem Inv.pins_of {pins':List (Addr×Obj)}(I:Inv X pins Z H s)(h:∀p∈pins',s.heap.get? p.1=some p.2/\H p.1=none/\p.1≠X.env.locals/\p.1∉X.fs/\∀v,p.2.data≠.cell v):Inv X pins' Z H s:=
 ⟨I.ok,I.os,I.bare,I.base,I.loc,I.cell,I.free,I.freeC,λp hp=>(uj1.mp hp).elim (λz=>I.pin p (List.mem_append_left _ z)) (h p),I.hok,I.len⟩
theorem Jl {N:List Str}(hN:N.Nodup){i j:Nat}{x:Str}(a:N[i]?=some x)(b:N[j]?=some x):i=j:=by
 obtain ⟨h1,e1⟩:=ub1.mp a;obtain ⟨h2,e2⟩:=ub1.mp b;exact (uh4 hN).mp (e1.trans e2.symm)
theorem HK {M:Model}{A:Around}(I:Inv X pins Z H s)(hN:X.N.Nodup)(hi:X.N[i]?=some x)(hx:Loc X.env.scope x)(r:RelV v u)
 (h:∀s',Inv X pins (Z.set i (some v)) H s'->(∃a,Heap.SameBut a s.heap s'.heap/\(a=X.env.locals\/X.env.cells.lookup x=some a))->Q () s') (hf:X.fn x=true\/X.env.scope.names.lookup x=some .local:=by walk_at "h"):wpAny M A (storeName X.env x u) Q E s:=by
 obtain ⟨m,hn,hl⟩:=id I.loc;have hcls:(X.env.scope.kind == .class || (X.env.scope.kind == .module && X.env.locals != X.env.globals))=false:=by rw [I.ok.kind];rfl
 have hiσ:i < Z.length:=by rw [I.len];exact (ub1.mp hi).1
 have cne:=I.cne;have tracked:∀{a:Addr} {h':Heap},(∃o,s.heap.get? a=some o/\H a=none)->Heap.SameBut a s.heap h'->HOk X.prog X.w H h':=λ{a h'} ha hs b ob e=>by
  obtain ⟨_,_,hfree⟩:=ha;refine (I.hok b ob e).stay (λc w' hc q=>(hs.2 c ?_).trans q) (λ_ q=>q) λ_ _ q=>q;rintro rfl;rcases hc with rfl | hc
  ·rw [hfree] at e;cases e
  ·rw [hfree] at hc;cases hc
 rcases hx with hk | hk
 ·refine wpAny_storeName_local hk hn (λh' hn' hs=>?_) hcls;obtain ⟨oL,_,_,hoL,_⟩:=id hn;refine h _ ⟨I.ok,I.os,I.bare,⟨λb o e n hb hx=>?_,λb o e n hb hx=>?_,I.base.free,λb o e hx=>?_,I.base.tups,I.base.frzs,I.base.tbls⟩,⟨_,hn',λj y v' e1 e2 e3=>?_⟩,λy c e=>?_,I.free,I.freeC,λp hp=>?_,tracked ⟨oL,hoL,I.free⟩ hs,by simpa using I.len⟩ ⟨_,hs,.inl rfl⟩
  ·exact (hs.2 b (un2 (uf1 (un1 e) I.ok.above))).trans (I.base.keep b o e n hb hx)
  ·obtain ⟨sl,e1⟩:=I.base.slot b o e n hb hx;exact ⟨sl,(hs.2 b (un2 (uf1 (un1 e) I.ok.above))).trans e1⟩
  ·obtain ⟨o',e1⟩:=I.base.there b o e hx;exact ⟨o',(hs.2 b (un2 (uf1 (un1 e) I.ok.above))).trans e1⟩
  ·by_cases hj:j=i
   ·subst hj;rw [hi] at e1;cases e1
    rw [uc2 hiσ] at e2
    cases e2
    exact ⟨u,r,.inl ⟨hk,by simp⟩⟩
   ·rw [ue0 (Ne.symm hj)] at e2;obtain ⟨u',r',q⟩:=hl j y v' e1 e2 e3;refine ⟨u',r',?_⟩;rcases q with ⟨k,e⟩ | ⟨k,c,e,z⟩
    ·refine .inl ⟨k,?_⟩;have:y≠x:=λe=>hj (Jl hN e1 (e ▸ hi));simp [this,e]
    ·exact .inr ⟨k,c,e,z.sameBut hs (cne y c e)⟩
  ·obtain ⟨w',z⟩:=I.cell y c e;exact ⟨w',z.sameBut hs (cne y c e)⟩
  ·obtain ⟨e,n,ne,nf,d⟩:=I.pin p hp;exact ⟨(hs.2 p.1 ne).trans e,n,ne,nf,d⟩
 ·have hfn:X.fn x=true:=by
   rcases hf with z | z
   ·exact z
   ·rw [z] at hk;cases hk
  obtain ⟨c,hc⟩:=I.ok.has x (.inl hk);obtain ⟨w',z⟩:=I.cell x c hc;refine wpAny_storeName_cell I.ok.kind hk hc z (λh' hc' hs=>?_);obtain ⟨oc,hoc,hocd⟩:=id z;refine h { s with heap:=h' } ⟨I.ok,I.os,I.bare,⟨λb o e n hb hx=>?_,λb o e n hb hx=>?_,I.base.free,λb o e hx=>?_,I.base.tups,I.base.frzs,I.base.tbls⟩,⟨m,hn.sameBut hs (Ne.symm (cne x c hc)),λj y v' e1 e2 e3=>?_⟩,λy c' e=>?_,I.free,I.freeC,λp hp=>?_,tracked ⟨oc,hoc,I.freeC x c hc⟩ hs,by simpa using I.len⟩ ⟨c,hs,.inr hc⟩
  ·exact (hs.2 b (un2 (uf1 (un1 e) (I.ok.cab x c hfn hc)))).trans (I.base.keep b o e n hb hx)
  ·obtain ⟨sl,e1⟩:=I.base.slot b o e n hb hx;exact ⟨sl,(hs.2 b (un2 (uf1 (un1 e) (I.ok.cab x c hfn hc)))).trans e1⟩
  ·obtain ⟨o',e1⟩:=I.base.there b o e hx;exact ⟨o',(hs.2 b (un2 (uf1 (un1 e) (I.ok.cab x c hfn hc)))).trans e1⟩
  ·by_cases hj:j=i
   ·subst hj;rw [hi] at e1;cases e1
    rw [uc2 hiσ] at e2
    cases e2
    exact ⟨u,r,.inr ⟨.inl hk,c,hc,hc'⟩⟩
   ·rw [ue0 (Ne.symm hj)] at e2;obtain ⟨u',r',q⟩:=hl j y v' e1 e2 e3;refine ⟨u',r',?_⟩;rcases q with q | ⟨k,c',e,z'⟩
    ·exact .inl q
    ·refine .inr ⟨k,c',e,z'.sameBut hs ?_⟩;rintro rfl;exact hj (Jl hN e1 (I.ok.inj _ _ _ e hc ▸ hi))
  ·by_cases hcc:c'=c
   ·subst hcc;exact ⟨_,hc'⟩
   ·obtain ⟨w2,z2⟩:=I.cell y c' e;exact ⟨w2,z2.sameBut hs hcc⟩
  ·obtain ⟨e,n,ne,nf,d⟩:=I.pin p hp;refine ⟨(hs.2 p.1 ?_).trans e,n,ne,nf,d⟩;intro q;rw [q,hoc] at e;have q':oc=p.2:=uj2 e;exact d w' (by rw [<-q'];exact hocd)
theorem Js {M:Model}{A:Around}(I:Inv X pins Z H s)(hN:X.N.Nodup)(hi:X.N[i]?=some x)(hx:Loc X.env.scope x)(r:RelV v u)
 (h:∀s',Inv X pins (Z.set i (some v)) H s'->Q () s') (hf:X.fn x=true\/X.env.scope.names.lookup x=some .local:=by walk_at "h"):wpAny M A (storeName X.env x u) Q E s:=
 HK I hN hi hx r (λs' I' _=>h s' I') hf
theorem Inv.call' {s':Shared}(I:Inv X pins Z H s)(ho:s'.os=s.os)(u:Un (frs X.stack) ch H H' s.heap s'.heap)(hok:HOk X.prog X.w H' s'.heap)(hg:AllBare s'.gens)
 (hch:∀b∈ch,(b∈X.ex\/X.s₀.heap.objs.size<=b)/\b≠X.env.locals/\(∀x c,X.env.cells.lookup x=some c->c≠b)/\∀p∈X.pn++pins,p.1≠b):Inv X pins Z H' s':=by
 obtain ⟨h',g',d',t',o'⟩:=s';have e:o'=s.os:=ho;subst e;exact I.call (g':=g') (t':=t') (d':=d') u hok hg hch
end
abbrev XK:=Value->Option Addr->Hp->Prop
abbrev St:=List (Option V)
abbrev VK:=V->Hp->Prop
abbrev TE:=St->Hp->VK->Prop
abbrev TT:=St->Hp->(Bool->Hp->Prop)->Prop
abbrev TA:=St->Hp->(List V->Hp->Prop)->Prop
structure Ends where
 nx:St->Hp->Prop
 rt:VK
 bk:St->Hp->Prop:=λ_ _=>False
 ct:St->Hp->Prop:=λ_ _=>False
abbrev TS:=Ends->St->Hp->Prop
inductive EP (X:Cx)(pins:List (Addr×Obj))(Z:St)(Q:VK)(u:Value)(s':Shared):Prop where
 | mk (v:V) (H':Hp) (i:Inv X pins Z H' s') (r:RelV v u) (q:Q v H'):EP X pins Z Q u s'
inductive TP (X:Cx)(pins:List (Addr×Obj))(Z:St)(Q:Bool->Hp->Prop)(b:Bool)(s':Shared):Prop where
 | mk (H':Hp) (i:Inv X pins Z H' s') (q:Q b H'):TP X pins Z Q b s'
inductive AP (X:Cx)(pins:List (Addr×Obj))(Z:St)(Q:List V->Hp->Prop)(us:List Value)(s':Shared):Prop where
 | mk (vs:List V) (H':Hp) (i:Inv X pins Z H' s') (r:Vals vs us) (q:Q vs H'):AP X pins Z Q us s'
def SP (X:Cx)(pins:List (Addr×Obj))(D:Ends)(f:Flow)(s':Shared):Prop:=
 match f with
 | .next=>∃Z' H',Inv X pins Z' H' s'/\D.nx Z' H'
 | .brk=>∃Z' H',Inv X pins Z' H' s'/\D.bk Z' H'
 | .cont=>∃Z' H',Inv X pins Z' H' s'/\D.ct Z' H'
 | .ret u=>∃v Z' H',Inv X pins Z' H' s'/\RelV v u/\D.rt v H'
def PE (X:Cx)(e:Expr)(t:TE):Prop:=
 ∀(pins:List (Addr×Obj)) (s:Shared) (Z:St) (H:Hp) (Q:VK),Inv X pins Z H s->t Z H Q->wpAny (model X.prog X.w) X.A (eval e X.env) (EP X pins Z Q) X.xe s
def PT (X:Cx)(e:Expr)(t:TT):Prop:=
 ∀(pins:List (Addr×Obj)) (s:Shared) (Z:St) (H:Hp) (Q:Bool->Hp->Prop),Inv X pins Z H s->t Z H Q->wpAny (model X.prog X.w) X.A (isTrue e X.env (eval e X.env)) (TP X pins Z Q) X.xe s
def PW (X:Cx)(e:Expr)(t:TT):Prop:=
 ∀(whole:Sem Value) (pins:List (Addr×Obj)) (s:Shared) (Z:St) (H:Hp) (Q:Bool->Hp->Prop),Inv X pins Z H s->t Z H Q->wpAny (model X.prog X.w) X.A (isTrue e X.env whole) (TP X pins Z Q) X.xe s
variable {X:Cx}{e:Expr}
theorem PW.pt {t:TT}(h:PW X e t):PT X e t:=h _
def PA (X:Cx)(es:List Expr)(t:TA):Prop:=
 ∀(pos:Pos) (pins:List (Addr×Obj)) (s:Shared) (Z:St) (H:Hp) (Q:List V->Hp->Prop),Inv X pins Z H s->t Z H Q->wpAny (model X.prog X.w) X.A (spliced (backTo pos (starEach es X.env))) (AP X pins Z Q) X.xe s
def PS (X:Cx)(st:Stmt)(t:TS):Prop:=
 ∀(pins:List (Addr×Obj)) (s:Shared) (Z:St) (H:Hp) (D:Ends),Inv X pins Z H s->t D Z H->wpAny (model X.prog X.w) X.A (exec st X.env) (SP X pins D) X.xe s
def PSs (X:Cx)(st:List Stmt)(t:TS):Prop:=
 ∀(pins:List (Addr×Obj)) (s:Shared) (Z:St) (H:Hp) (D:Ends),Inv X pins Z H s->t D Z H->wpAny (model X.prog X.w) X.A (execs st X.env) (SP X pins D) X.xe s
variable {s:Shared}
theorem thn {α:Type}{t:Sem α}{Q Q':α->Shared->Prop}{M:Model}{A:Around}(h:wpAny M A t Q E s)(hQ:∀a s,Q a s->Q' a s):wpAny M A t Q' E s:=up3 h hQ λ_ _ x=>x
variable {pins:List (Addr×Obj)}{Z:St}{c:Expr}
section
variable {X:Cx}
def Y2 (i:Nat):TE:=λZ H Q=>∃v,Z[i]?=some (some v)/\Q v H
def tC (v:V):TE:=λ_ H Q=>Q v H
theorem Cl {pos:Pos}(hN:X.N[i]?=some x)(hv:Vis X.env.scope x)(hd:(x == ("__debug__" : Str))=false:=by decide)(hcd:(x == ("__classdict__" : Str))=false:=by decide):PE X (.Name x pos) (Y2 i):=by
 intro pins s Z H Q I h;obtain ⟨v,e,h⟩:=h;obtain ⟨m,hn,hl⟩:=I.loc;obtain ⟨u,r,l⟩:=hl i x v hN e hv;have fin:EP X pins Z Q u s:=⟨v,H,I,r,h⟩;rcases l with ⟨hk,hm⟩ | ⟨hk,c,hc,hcell⟩
 ·exact wpAny_Name (wpAny_loadName_local I.ok.kind hk hn hm fin) hd
 ·rcases hk with hk | hk
  ·exact wpAny_Name (wpAny_loadName_cell I.ok.kind hk hc hcell fin) hd
  ·exact wpAny_Name (wpAny_loadName_free I.ok.kind hk hc hcell fin hcd) hd
theorem Yk {i j pos}:PE X (.Constant (.int i) j pos) (tC (.int i)):=λ_ _ _ H _ I h=>wpAny_Constant_int ⟨.int i,H,I.tok _,⟨_,rfl⟩,h⟩
theorem ZR {b j pos}:PE X (.Constant (.bool b) j pos) (tC (.bl b)):=λ_ _ _ H _ I h=>Constant_bool ⟨.bl b,H,I,rfl,h⟩
theorem Ym {j pos}:PE X (.Constant .none j pos) (tC .non):=λ_ _ _ H _ I h=>Constant_none ⟨.non,H,I,rfl,h⟩
theorem QH {x j pos}:PE X (.Constant (.str x) j pos) (tC (.str x)):=λ_ _ _ H _ I h=>Calls.Constant_str ⟨.str x,H,I.tok _,⟨_,rfl⟩,h⟩
def Gl (X:Cx)(x:Str):Prop:=X.env.kindOf x=some .globalImplicit
theorem CB {pos:Pos}{Q:Value->Shared->Prop}(I:Inv X pins Z H s)(hg:Gl X x)(hm:X.mg x=some u)(h:Q u s)
 (hd:(x == ("__debug__" : Str))=false:=by decide):wpAny (model X.prog X.w) X.A (eval (.Name x pos) X.env) Q E s:=
 Calls.Name_function_global I.ok.kind hg (Calls.loadGlobal_global (by rw [I.ok.glob];exact I.mod.glob.keeps I.bk) hm h) hd
theorem Gk {pos:Pos}{Q:Value->Shared->Prop}(I:Inv X pins Z H s)(hg:Gl X x)(hm:X.mg x=none)(hv:bootBuiltins x=some u)(h:Q u s)
 (hn:x≠"__name__":=by decide) (hd:(x == ("__debug__" : Str))=false:=by decide):wpAny (model X.prog X.w) X.A (eval (.Name x pos) X.env) Q E s:=by
 obtain ⟨mb,h1,h2⟩:=I.mod.blt;exact Calls.Name_function_global I.ok.kind hg (Calls.loadGlobal_builtin (by rw [I.ok.glob];exact I.mod.glob.keeps I.bk) hm (by rw [I.ok.blt];exact h1.keeps I.bk) ((h2 x hn).trans hv) h) hd
theorem N0 {pos:Pos}(hg:Gl X x)(hm:X.mg x=some u)(r:RelV v u)(hd:(x == ("__debug__" : Str))=false:=by decide):PE X (.Name x pos) (tC v):=
 λ_ _ _ H _ I h=>CB I hg hm ⟨v,H,I,r,h⟩ hd
theorem VC {pos:Pos}(hg:Gl X x)(hm:X.mg x=none)(hv:bootBuiltins x=some u)(r:RelV v u)(hn:x≠"__name__":=by decide)(hd:(x == ("__debug__" : Str))=false:=by decide):PE X (.Name x pos) (tC v):=
 λ_ _ _ H _ I h=>Gk I hg hm hv ⟨v,H,I,r,h⟩ hn hd
variable {a b:Expr}{ta tb:TE}{pos:Pos}
def tB (t:TE):TT:=λZ H Q=>t Z H λx H1=>∃c,x = .bl c/\Q c H1
theorem Yz {t:TE}(h:PE X e t)(he:∀whole,isTrue e X.env whole=(do let v <-whole;standAt e.pos;holding [v] (truthy v)):=by intro _;rfl):PT X e (tB t):=by
 intro pins s Z H Q I hw;refine isTrue_plain (thn (h pins s Z H _ I hw) λv s1 z9=>?_) (he _);obtain ⟨x,H1,I1,r1,q1⟩:=z9;obtain ⟨d,rfl,q⟩:=q1
 cases r1
 exact wpAny_truthy_bool ⟨H1,I1,q⟩
variable {tA tB':TT}{rest:List Expr}
def bH (t u:TT):TT:=λZ H Q=>t Z H λc H1=>if c=true then u Z H1 Q else Q false H1
def tOr (t u:TT):TT:=λZ H Q=>t Z H λc H1=>if c=true then Q true H1 else u Z H1 Q
def bN (t:TT):TT:=λZ H Q=>t Z H λc H1=>Q (!c) H1
theorem VY (ha:PT X a tA):PW X (.BoolOp .And [a] pos) tA:=by
 intro wh pins s Z H Q I h;refine isTrue_and (thn (ha pins s Z H Q I h) λc s1 e=>?_)
 cases c with
 | true=>exact isTrue_and_nil e
 | false=>exact e
theorem YB (ha:PT X a tA):PW X (.BoolOp .Or [a] pos) tA:=by
 intro wh pins s Z H Q I h;refine isTrue_or (thn (ha pins s Z H Q I h) λc s1 e=>?_)
 cases c with
 | false=>exact isTrue_or_nil e
 | true=>exact e
theorem YA (ha:PT X a tA)(hb:PW X (.BoolOp .And (b :: rest) pos) tB'):PW X (.BoolOp .And (a :: b :: rest) pos) (bH tA tB'):=by
 intro wh pins s Z H Q I h;refine isTrue_and (thn (ha pins s Z H _ I h) λc s1 z9=>?_);obtain ⟨H1,I1,q1⟩:=z9
 cases c with
 | true=>exact hb wh pins s1 Z H1 Q I1 q1
 | false=>exact ⟨H1,I1,q1⟩
theorem Z0 (ha:PT X a tA)(hb:PW X (.BoolOp .Or (b :: rest) pos) tB'):PW X (.BoolOp .Or (a :: b :: rest) pos) (tOr tA tB'):=by
 intro wh pins s Z H Q I h;refine isTrue_or (thn (ha pins s Z H _ I h) λc s1 z9=>?_);obtain ⟨H1,I1,q1⟩:=z9
 cases c with
 | true=>exact ⟨H1,I1,q1⟩
 | false=>exact hb wh pins s1 Z H1 Q I1 q1
theorem Yy (ha:PT X a tA):PT X (.UnaryOp .Not a pos) (bN tA):=by
 intro pins s Z H Q I h;refine isTrue_not (thn (ha pins s Z H (λc H1=>Q (!c) H1) I h) λc s1 z=>?_);obtain ⟨H1,I1,q1⟩:=z;exact ⟨H1,I1,q1⟩
def Z4 (ta tb:TE):TE:=λZ H Q=>ta Z H λx H1=>∃c,x = .bl c/\if c=true then tb Z H1 Q else Q (.bl false) H1
def aa (ta:TE):TE:=λZ H Q=>ta Z H λx H1=>∃c,x = .bl c/\Q (.bl (!c)) H1
theorem Yo {op}{t:TE}(h:PE X a t):PE X (.BoolOp op [a] pos) t:=λpins s Z H Q I hw=>BoolOp_one (h pins s Z H Q I hw)
theorem Yi (ha:PE X a ta)(hb:PE X (.BoolOp .And (b :: rest) pos) tb):PE X (.BoolOp .And (a :: b :: rest) pos) (Z4 ta tb):=by
 intro pins s Z H Q I h;refine BoolOp_and (thn (ha pins s Z H _ I h) λv s1 z9=>?_);obtain ⟨x,H1,I1,r1,q1⟩:=z9;obtain ⟨c,rfl,q1⟩:=q1
 cases r1
 refine wpAny_truthy_bool ?_
 cases c with
 | true=>exact hb pins s1 Z H1 Q I1 q1
 | false=>exact ⟨.bl false,H1,I1,rfl,q1⟩
theorem Yn (ha:PE X a ta):PE X (.UnaryOp .Not a pos) (aa ta):=by
 intro pins s Z H Q I h;refine UnaryOp_ (thn (ha pins s Z H _ I h) λv s1 z9=>?_);obtain ⟨x,H1,I1,r1,q1⟩:=z9;obtain ⟨c,rfl,q1⟩:=q1
 cases r1
 exact not_of (wpAny_truthy_bool ⟨.bl (!c),H1,I1,rfl,q1⟩)
def tIf (t:TT)(ta tb:TE):TE:=λZ H Q=>t Z H λc H1=>if c=true then ta Z H1 Q else tb Z H1 Q
theorem SV (hc:PT X c tA)(ha:PE X a ta)(hb:PE X b tb):PE X (.IfExp c a b pos) (tIf tA ta tb):=by
 intro pins s Z H Q I h;refine wpAny_IfExp (thn (hc pins s Z H _ I h) λd s1 z9=>?_);obtain ⟨H1,I1,q1⟩:=z9
 cases d with
 | true=>exact ha pins s1 Z H1 Q I1 q1
 | false=>exact hb pins s1 Z H1 Q I1 q1
end
noncomputable def SqL (K:PySem.W.Frag)(H:Hp)(a:Addr)(xs:List V):Prop:=
 Rd H a (.lst xs)\/
  ∃(o:Obj) (its:Array Value) (n:Nat),K.lookup a=some o/\o.cls = .type "list"/\o.dict=none/\o.data = .seq its n/\its.size<=sizeLine/\Vals xs its.toList
noncomputable def SqT (K:PySem.W.Frag)(H:Hp)(a:Addr)(xs:List V):Prop:=
 Rd H a (.tup xs)\/
  ∃(o:Obj) (its:Array Value) (n:Nat),K.lookup a=some o/\o.cls = .type "tuple"/\o.data = .seq its n/\its.size<=sizeLine/\Vals xs its.toList
noncomputable def aZ:Value->Option V
 | .none=>some .non
 | .bool b=>some (.bl b)
 | .int i _=>some (.int i)
 | .str x _=>some (.str x)
 | .bytes b _=>some (.byt b)
 | .float b _=>some (.flt b)
 | .ref a=>some (.ref a)
 | .type n=>some (.ty n)
 | _=>none
theorem RelV.abs {x:V}(r:RelV x u):aZ u=some x:=by
 cases x with
 | non=>cases r;rfl
 | bl _=>cases r;rfl
 | int _=>obtain ⟨t,rfl⟩:=r;rfl
 | str _=>obtain ⟨t,rfl⟩:=r;rfl
 | byt _=>obtain ⟨t,rfl⟩:=r;rfl
 | flt _=>obtain ⟨t,rfl⟩:=r;rfl
 | ref _=>cases r;rfl
 | ty _=>cases r;rfl
theorem RelV.inj {x y:V}{u:Value}(r:RelV x u)(q:RelV y u):x=y:=uj2 (r.abs.symm.trans q.abs)
theorem Vals.inj {xs ys:List V}{us:List Value}(a:Vals xs us)(b:Vals ys us):xs=ys:=by
 cases a with
 | nil=>
   cases b
   rfl
 | cons r t=>
   cases b with
   | cons r' t'=>rw [r.inj r',Vals.inj t t']
variable {K:PySem.W.Frag}
section
variable {X:Cx}{pins:List (Addr×Obj)}{Z:St}{H:Hp}{s:Shared}{a:Addr}{xs ys:List V}
theorem SqL.of (h:H a=some (.lst xs)):SqL K H a xs:=.inl (.inl h)
theorem SqT.of (h:H a=some (.tup xs)):SqT K H a xs:=.inl (.inl h)
theorem Inv.list (I:Inv X pins Z H s)(h:SqL X.K H a xs):∃its:List Value,Vals xs its/\PlainL s.heap a its.toArray/\xs.length<=sizeLine:=by
 rcases h with h | ⟨o,its,n,hk,hc,hd,hs,hz,r⟩
 ·obtain ⟨z,its,n,r,e⟩:=h.ok I.hok;exact ⟨its,r,⟨_,n,e,rfl,rfl,rfl⟩,z⟩
 ·refine ⟨its.toList,r,⟨o,n,I.kIn a o hk,hc,hd,by simpa using hs⟩,?_⟩;have e:=r.length;simp only [Array.length_toList] at e;lia
theorem Inv.tuple (I:Inv X pins Z H s)(h:SqT X.K H a xs):∃its:List Value,Vals xs its/\IsTup s.heap a its.toArray/\xs.length<=sizeLine:=by
 rcases h with h | ⟨o,its,n,hk,hc,hs,hz,r⟩
 ·obtain ⟨z,its,r,p⟩:=h.ok I.hok;exact ⟨its,r,p,z⟩
 ·refine ⟨its.toList,r,⟨o,I.kIn a o hk,hc,n,by simpa using hs⟩,?_⟩;have e:=r.length;simp only [Array.length_toList] at e;lia
theorem Inv.list_inj (I:Inv X pins Z H s)(h:SqL X.K H a xs)(h':SqL X.K H a ys):xs=ys:=by
 obtain ⟨its,r,⟨o,n,e,_,_,d⟩,_⟩:=I.list h;obtain ⟨its',r',⟨o',n',e',_,_,d'⟩,_⟩:=I.list h';rw [e] at e';cases e'
 rw [d] at d';injection d' with d1 _
 have:its=its':=by simpa using congrArg Array.toList d1
 subst this;exact r.inj r'
theorem Inv.tuple_inj (I:Inv X pins Z H s)(h:SqT X.K H a xs)(h':SqT X.K H a ys):xs=ys:=by
 obtain ⟨its,r,⟨o,e,_,n,d⟩,_⟩:=I.tuple h;obtain ⟨its',r',⟨o',e',_,n',d'⟩,_⟩:=I.tuple h';rw [e] at e';cases e'
 rw [d] at d';injection d' with d1 _
 have:its=its':=by simpa using congrArg Array.toList d1
 subst this;exact r.inj r'
end
abbrev Cx.wish (X:Cx)(E:Value->Shared->Prop):Cx:={ X with xe:=E }
abbrev Cx.nox (X:Cx):Cx:=X.wish λ_ _=>False
theorem Cx.Ok.wish {X:Cx}(ok:X.Ok)(E:Value->Shared->Prop):(X.wish E).Ok:=
 ⟨ok.mod,ok.kind,ok.glob,ok.blt,ok.above,ok.inj,ok.has,ok.cab,ok.hd,ok.frames,ok.stk,ok.exf,ok.bs,ok.bsz,ok.noex,ok.exfs,ok.funs,ok.frf⟩
theorem Cx.Ok.unwish (ok:(X.wish E).Ok):X.Ok:=
 ⟨ok.mod,ok.kind,ok.glob,ok.blt,ok.above,ok.inj,ok.has,ok.cab,ok.hd,ok.frames,ok.stk,ok.exf,ok.bs,ok.bsz,ok.noex,ok.exfs,ok.funs,ok.frf⟩
section
variable {X:Cx}{pins:List (Addr×Obj)}{Z:St}{H:Hp}{s:Shared}{E:Value->Shared->Prop}
theorem Inv.wish (I:Inv X pins Z H s)(E:Value->Shared->Prop):Inv (X.wish E) pins Z H s:=⟨I.ok.wish E,I.os,I.bare,I.base,I.loc,I.cell,I.free,I.freeC,I.pin,I.hok,I.len⟩
theorem Inv.unwish (I:Inv (X.wish E) pins Z H s):Inv X pins Z H s:=⟨I.ok.unwish,I.os,I.bare,I.base,I.loc,I.cell,I.free,I.freeC,I.pin,I.hok,I.len⟩
theorem SP.unwish {D:Ends}{f:Flow}{s':Shared}(h:SP (X.wish E) pins D f s'):SP X pins D f s':=by
 cases f with
 | next=>obtain ⟨Z',H',I,q⟩:=h;exact ⟨Z',H',I.unwish,q⟩
 | brk=>obtain ⟨Z',H',I,q⟩:=h;exact ⟨Z',H',I.unwish,q⟩
 | cont=>obtain ⟨Z',H',I,q⟩:=h;exact ⟨Z',H',I.unwish,q⟩
 | ret u=>obtain ⟨v,Z',H',I,r,q⟩:=h;exact ⟨v,Z',H',I.unwish,r,q⟩
theorem PSs.nox {st:List Stmt}{t:TS}(h:PSs X.nox st t):PSs X st t:=λpins s Z H D I hw=>
 up3 (h pins s Z H D (I.wish _) hw) (λ_ _ q=>q.unwish) λ_ _ z=>False.elim z
end
section
variable {X:Cx}{st:Stmt}{rest:List Stmt}{t u:TS}{e:Expr}{te:TE}{pos:Pos}
def Z9:TS:=λD Z H=>D.nx Z H
def bP (t u:TS):TS:=λD Z H=>t { D with nx:=u D } Z H
theorem VU:PSs X [] Z9:=λ_ _ Z H _ I h=>wpAny_execs_nil ⟨Z,H,I,h⟩
theorem Jq (h1:PS X st t)(h2:PSs X rest u):PSs X (st :: rest) (bP t u):=by
 intro pins s Z H D I h;refine wpAny_execs_cons (thn (h1 pins s Z H { D with nx:=u D } I h) λf s1 q=>?_)
 cases f with
 | next=>
   obtain ⟨Z',H',I',q⟩:=q;exact h2 pins s1 Z' H' D I' q
 | ret v=>exact q
 | brk=>exact q
 | cont=>exact q
theorem Go (h1:PS X st t):PSs X [st] t:=by
 intro pins s Z H D I h;refine wpAny_execs_cons (thn (h1 pins s Z H D I h) λf s1 q=>?_)
 cases f with
 | next=>exact wpAny_execs_nil q
 | ret v=>exact q
 | brk=>exact q
 | cont=>exact q
def YX:TS:=λD Z H=>D.bk Z H
theorem Tg:PS X (.Break pos) YX:=λ_ _ Z H _ I h=>wpAny_Break ⟨Z,H,I,h⟩
theorem Inv.quiet (I:Inv X pins Z H s):interactive X.env=false:=by simp [interactive,I.ok.kind]
def Uh (te:TE):TS:=λD Z H=>te Z H λ_ H1=>D.nx Z H1
theorem KS (he:PE X e te)(hs:swapsWith e none pos.line X.env=pure false:=by rfl):PS X (.Expr e pos) (Uh te):=by
 intro pins s Z H D I h;exact wpAny_Expr_any (thn (he pins s Z H _ I h) λv s1 z9=>by obtain ⟨x,H1,I1,r1,q1⟩:=z9;exact ⟨Z,H1,I1,q1⟩) I.quiet hs
def bO (te:TE):TS:=λD Z H=>te Z H D.rt
theorem HE (he:PE X e te):PS X (.Return (some e) pos) (bO te):=by
 intro pins s Z H D I h;exact wpAny_Return_some (thn (he pins s Z H _ I h) λv s1 z9=>by obtain ⟨x,H1,I1,r1,q1⟩:=z9;exact ⟨x,Z,H1,I1,r1,q1⟩)
def bL (c:TT)(t u:TS):TS:=λD Z H=>c Z H λb H1=>if b=true then t D Z H1 else u D Z H1
theorem ZZ {a b:List Stmt}{tc:TT}(hc:PT X c tc)(ha:PSs X a t)(hb:PSs X b u):PS X (.If c a b pos) (bL tc t u):=by
 intro pins s Z H D I h;refine wpAny_If (thn (hc pins s Z H _ I h) λd s1 z9=>?_);obtain ⟨H1,I1,q1⟩:=z9
 cases d with
 | true=>exact ha pins s1 Z H1 D I1 q1
 | false=>exact hb pins s1 Z H1 D I1 q1
end
abbrev TG:=V->St->Hp->(St->Hp->Prop)->Prop
abbrev TGs:=List V->St->Hp->(St->Hp->Prop)->Prop
def PG (X:Cx)(target:Expr)(t:TG):Prop:=
 ∀(pins:List (Addr×Obj)) (s:Shared) (Z:St) (H:Hp) (v:V) (u:Value) (Q:St->Hp->Prop),Inv X pins Z H s->RelV v u->t v Z H Q->
  wpAny (model X.prog X.w) X.A (assign target X.env u) (λ_ s'=>∃Z' H',Inv X pins Z' H' s'/\Q Z' H') X.xe s
def PGs (X:Cx)(ts:List Expr)(t:TGs):Prop:=
 ∀(pins:List (Addr×Obj)) (s:Shared) (Z:St) (H:Hp) (vs:List V) (us:List Value) (Q:St->Hp->Prop),Inv X pins Z H s->Vals vs us->t vs Z H Q->
  wpAny (model X.prog X.w) X.A (assignInOrder ((assignEach ts X.env).map (·.2)) us) (λ_ s'=>∃Z' H',Inv X pins Z' H' s'/\Q Z' H') X.xe s
abbrev Rx:=V->V->V->Hp->(Hp->Prop)->Prop
def WT (X:Cx)(t:Rx):Prop:=
 ∀(pins:List (Addr×Obj)) (s:Shared) (Z:St) (H:Hp) (o i v:V) (ov iv u:Value) (Q:Hp->Prop),Inv X pins Z H s->RelV o ov->RelV i iv->RelV v u->t o i v H Q->
  wpAny (model X.prog X.w) X.A (setItem ov iv u) (λ_ s'=>∃H',Inv X pins Z H' s'/\Q H') X.xe s
variable {tg:Expr}
section
variable {X:Cx}{pos:Pos}
def JR (i:Nat):TG:=λv Z H Q=>Q (Z.set i (some v)) H
theorem VL (hN:X.N.Nodup)(hi:X.N[i]?=some x)(hx:Loc X.env.scope x)(hf:X.fn x=true\/X.env.scope.names.lookup x=some .local:=by walk_at "h"):PG X (.Name x pos) (JR i):=by
 intro pins s Z H v u Q I r h;exact wpAny_assign_Name (Js I hN hi hx r (λs' I'=>⟨_,H,I',h⟩) hf)
def br:TGs:=λvs Z H Q=>vs=[]/\Q Z H
def T5 (t:TG)(u:TGs):TGs:=λvs Z H Q=>∃v r,vs=v :: r/\t v Z H λZ' H'=>u r Z' H' Q
theorem VM:PGs X [] br:=by
 intro pins s Z H vs us Q I r h;obtain ⟨e,h⟩:=h;subst e
 cases r
 exact assignInOrder_nil ⟨Z,H,I,h⟩
theorem Ta {es:List Expr}{t:TG}{u:TGs}(h1:PG X e t)(h2:PGs X es u)
 (hs:(assignEach (e :: es) X.env).map (·.2)=assign e X.env :: (assignEach es X.env).map (·.2):=by rfl):PGs X (e :: es) (T5 t u):=by
 intro pins s Z H vs us Q I r h;obtain ⟨v,vr,e1,h⟩:=h;subst e1
 cases r with
 | cons r rr=>
   rw [hs];refine assignInOrder_cons (thn (h1 pins s Z H _ _ _ I r h) λ_ s1 z9=>?_);obtain ⟨σ1,H1,I1,q1⟩:=z9;exact h2 pins s1 σ1 H1 _ _ Q I1 rr q1
def bu (K:PySem.W.Frag)(n:Nat)(t:TGs):TG:=λv Z H Q=>∃a xs,v = .ref a/\SqT K H a xs/\xs.length=n/\t xs Z H Q
theorem Yr {es:List Expr}{k:Nat}{t:TGs}{n:Nat}(hc:X.calm=true)(h:PGs X es t)
 (hn:(assignEach es X.env).length=n:=by rfl) (hst:(assignEach es X.env).findIdx? (·.1)=none:=by rfl):PG X (.Tuple es k pos) (bu X.K n t):=by
 intro pins s Z H v u Q I r hw;obtain ⟨a,xs,e1,hq,hl,hw⟩:=hw;subst e1
 cases r
 obtain ⟨its,rv,ht,hz⟩:=I.tuple hq;refine assign_Tuple_tuple (I.ok.hd hc) ht (by simp [hn,<-hl,rv.length]) hst λh' hx=>?_;have I1:Inv X pins Z H { s with heap:=h' }:=I.kept (t':=s.toks) λb o e=>hx b o (un2 (un1 e)) e;exact h pins _ Z H xs _ Q I1 (by simpa using rv) hw
def bt (to ti:TE)(t:Rx):TG:=λv Z H Q=>to Z H λo H1=>ti Z H1 λi H2=>t o i v H2 λH3=>Q Z H3
theorem Yq {o i:Expr}{to ti:TE}{t:Rx}(ho:PE X o to)(hi:PE X i ti)(hs:WT X t)
 (ha:∀v,assign (.Subscript o i pos) X.env v=(do
   let ov <-holding [v] (eval o X.env)
   let iv <-holding [v,ov] (eval i X.env)
   standAt pos
   holding [v,ov,iv] (setItem ov iv v)
   release [v,ov,iv] []):=by intro _;rfl):PG X (.Subscript o i pos) (bt to ti t):=by
 intro pins s Z H v u Q I r h;rw [ha];refine up1 (un0 (thn (ho pins s Z H _ I h) λov s1 z9=>?_));obtain ⟨x,H1,I1,r1,q1⟩:=z9;refine up1 (un0 (thn (hi pins s1 Z H1 _ I1 q1) λiv s2 z9=>?_));obtain ⟨y,H2,I2,r2,q2⟩:=z9;refine up1 (wpAny_standAt (up1 (un0 (thn (hs pins s2 Z H2 x y v ov iv u _ I2 r1 r2 r q2) λ_ s3 z9=>?_))));obtain ⟨H3,I3,q3⟩:=z9;exact wpAny_release ⟨Z,H3,I3,q3⟩
def Nc (te:TE)(g:TG):TS:=λD Z H=>te Z H λx H1=>g x Z H1 D.nx
theorem QO {te:TE}{g:TG}(he:PE X e te)(hg:PG X tg g)(hs:swapsWithSole [tg] e pos.line X.env=pure false:=by rfl)(hw:swappedStores [tg] e X.env=pure none:=by rfl)
 (h1:(assignEach [tg] X.env).map (·.2)=[assign tg X.env]:=by rfl):PS X (.Assign [tg] e pos) (Nc te g):=by
 intro pins s Z H D I h;refine wpAny_Assign_stores (thn (he pins s Z H _ I h) λv s1 z9=>?_) hs hw;obtain ⟨x,H1,I1,r1,q1⟩:=z9;rw [h1];exact thn (hg pins s1 Z H1 x v _ I1 r1 q1) λ_ s2 q=>q
theorem MT {te:TE}{pos':Pos}(hN:X.N.Nodup)(hi:X.N[i]?=some x)(hx:Loc X.env.scope x)(he:PE X e te)(hs:swapsWith e (some (.Name x pos')) pos.line X.env=pure false:=by rfl)(hf:X.fn x=true\/X.env.scope.names.lookup x=some .local:=by walk_at "h") :
 PS X (.Assign [.Name x pos'] e pos) (Nc te (JR i)):=by
 intro pins s Z H D I h;refine wpAny_Assign_Name (thn (he pins s Z H _ I h) λv s1 z9=>?_) hs;obtain ⟨y,H1,I1,r1,q1⟩:=z9;exact Js I1 hN hi hx r1 (λs2 I2=>⟨_,H1,I2,q1⟩) hf
end
section
variable {X:Cx}{pos:Pos}
def Re (c:TT)(tb:TS):TS:=λD Z H=>∃W:Nat->St->Hp->Prop,(∃m,W m Z H)/\∀m Z H,W m Z H->
 c Z H λb H1=>if b=true then ∃N:St->Hp->Prop,(∀Z' H',N Z' H'->∃m',m' < m/\W m' Z' H')/\tb { D with nx:=N,ct:=N,bk:=D.nx } Z H1 else D.nx Z H1
theorem Ti {body:List Stmt}{tc:TT}{tb:TS}(hp:PassesOwn (model X.prog X.w) X.A X.env X.xe)(hc:PT X c tc)(hb:PSs X body tb):PS X (.While c body [] pos) (Re tc tb):=by
 intro pins s Z H D I h;obtain ⟨W,⟨m0,w0⟩,turn⟩:=h;refine wpAny_While (codeAny_whileLoop (λn s'=>∃Z' H',Inv X pins Z' H' s'/\W n Z' H') ?_ m0 ⟨Z,H,I,w0⟩);rintro n s1 ⟨σ1,H1,I1,w1⟩;refine wpAny_passesOwn hp (thn (hc pins s1 σ1 H1 _ I1 (turn n σ1 H1 w1)) λb s2 z9=>?_);obtain ⟨H2,I2,q2⟩:=z9
 cases b with
 | true=>
   obtain ⟨N,hN,q2⟩:=q2;rw [if_pos rfl];refine wpAny_passesOwn hp (thn (hb pins s2 σ1 H2 _ I2 q2) λf s3 q3=>?_)
   cases f with
   | next=>
     obtain ⟨σ3,H3,I3,n3⟩:=q3;obtain ⟨m',hm,w3⟩:=hN σ3 H3 n3;exact ⟨m',hm,σ3,H3,I3,w3⟩
   | cont=>
     obtain ⟨σ3,H3,I3,n3⟩:=q3;obtain ⟨m',hm,w3⟩:=hN σ3 H3 n3;exact ⟨m',hm,σ3,H3,I3,w3⟩
   | brk=>exact q3
   | ret v=>exact q3
 | false=>
   rw [if_neg uf3];exact wpAny_execs_nil ⟨σ1,H2,I2,q2⟩
end
structure It where
 go:Nat->Hp->Prop
 yld:Nat->Hp->V->Hp->Prop
 stop:Nat->Hp->Prop
def FpOk (X:Cx)(pins:List (Addr×Obj))(H:Hp)(b:Addr):Prop:=
 H b=none/\b≠X.env.locals/\b∉X.fs/\(b∈X.ex\/X.s₀.heap.objs.size<=b)/\(∀x c,X.env.cells.lookup x=some c->c≠b)/\∀p∈X.pn++pins,p.1≠b
theorem Inv.fpOk {H':Hp}(I:Inv X pins Z H s)(hb:s.heap.objs.size<=b)(hn:H' b=none):FpOk X pins H' b:=by
 refine ⟨hn,un5 (uf1 I.lt hb),I.nofs hb,.inr (un3 I.sz hb),λx c e z=>?_,λp hp z=>?_⟩
 ·obtain ⟨v,q⟩:=I.cell x c e;exact absurd (uf1 q.lt (by rw [z];exact hb)) (ul8 _)
 ·exact absurd (uf1 (un1 (I.pin p hp).1) (by rw [z];exact hb)) (ul8 _)
structure Turn (P:Program)(w:World)(K:PySem.W.Frag)(tg:Expr)(J:It)(fp:List Addr)(it:Addr)(tn:Nat->Heap->Prop):Prop where
 mem:it∈fp
 obj:∀i h,tn i h->∀b∈fp,∃o,h.get? b=some o/\∀v,o.data≠.cell v
 keep:∀i h h',tn i h->(∀b∈fp,∀o,h.get? b=some o->h'.get? b=some o)->tn i h'
 item:∀(X:Cx),X.prog=P->X.w=w->X.K=K->X.calm=true->∀(i:Nat) (pins:List (Addr×Obj)) (s:Shared) (Z:St) (H:Hp) (E:Value->Shared->Prop),Inv X pins Z H s->(∀b∈fp,FpOk X pins H b)->tn i s.heap->J.go i H->
  wpAny (model P w) X.A (pyNext (.ref it)) (λr s1=>∃u,r=some u/\
   wpAny (model P w) X.A (letOwnedTupleGo tg (.ref it) u) (λ_ s2=>∃x H',Inv X pins Z H' s2/\RelV x u/\J.yld i H x H'/\tn (i + 1) s2.heap/\∀b∈fp,H' b=none) E s1) E s
 done:∀(X:Cx),X.prog=P->X.w=w->X.K=K->X.calm=true->∀(i:Nat) (pins:List (Addr×Obj)) (s:Shared) (Z:St) (H:Hp) (E:Value->Shared->Prop),Inv X pins Z H s->(∀b∈fp,FpOk X pins H b)->tn i s.heap->J.stop i H->
  wpAny (model P w) X.A (pyNext (.ref it)) (λr s1=>r=none/\Inv X pins Z H s1) E s
 self:∀(A:Around) (i:Nat) (s:Shared) (Q:Value->Shared->Prop) (E:Value->Shared->Prop),tn i s.heap->Q (.ref it) s->wpAny (model P w) A (pyIter (.ref it)) Q E s
abbrev TI:=St->Hp->(It->Hp->Prop)->Prop
def PIE (X:Cx)(pins:List (Addr×Obj))(Z:St)(tg:Expr)(R:It->Hp->Prop)(itv:Value)(s2:Shared):Prop:=
 ∃(it:Addr) (fp:List Addr) (tn:Nat->Heap->Prop) (J:It) (H':Hp),itv = .ref it/\Inv X pins Z H' s2/\Turn X.prog X.w X.K tg J fp it tn/\tn 0 s2.heap/\(∀b∈fp,FpOk X pins H' b)/\R J H'
def PI (X:Cx)(tg iter:Expr)(wi:TI):Prop:=
 ∀(pins:List (Addr×Obj)) (s:Shared) (Z:St) (H:Hp) (R:It->Hp->Prop),Inv X pins Z H s->wi Z H R->
  wpAny (model X.prog X.w) X.A (eval iter X.env) (λv s1=>wpAny (model X.prog X.w) X.A (pyIter v) (PIE X pins Z tg R) X.xe s1) X.xe s
theorem JT {M:Model}{A:Around}{it:Addr}{o:Obj}{n:String}{vs:Array Value}(ho:s.heap.get? it=some o)(hc:o.cls = .type n)(hd:o.data = .fields vs)
 (hn:["enumerate", "zip", "dict_itemiterator", "dict_reverseitemiterator", "odict_iterator", "itertools.zip_longest", "itertools.pairwise"].contains n=false) (hQ:Q () s):wpAny M A (letOwnedTupleGo tg (.ref it) u) Q E s:=by
 unfold letOwnedTupleGo
 cases tg <;> first
  | exact up2 hQ
  | (cases u <;> first
      | exact up2 hQ
      | (refine up1 (wpAny_load ho ?_)
         rw [hc,hd];show wpAny M A (if (["enumerate", "zip", "dict_itemiterator", "dict_reverseitemiterator", "odict_iterator", "itertools.zip_longest", "itertools.pairwise"].contains n && vs[0]? == some (rawInt _))=true then _ else _) Q E s;rw [if_neg (by intro h;rw [hn,ul2] at h;cases h)]
         exact up2 hQ))
noncomputable def Itl (K:PySem.W.Frag)(a:Addr):It:=
 ⟨λi H=>∃xs x,SqL K H a xs/\xs[i]?=some x,λi H x H'=>H'=H/\∀xs,SqL K H a xs->xs[i]?=some x,λi H=>∃xs,SqL K H a xs/\xs.length<=i⟩
noncomputable def Itt (K:PySem.W.Frag)(a:Addr):It:=
 ⟨λi H=>∃xs x,SqT K H a xs/\xs[i]?=some x,λi H x H'=>H'=H/\∀xs,SqT K H a xs->xs[i]?=some x,λi H=>∃xs,SqT K H a xs/\xs.length<=i⟩
noncomputable def Itr (lo:Int)(n:Nat):It:=⟨λi _=>i < n,λi H x H'=>H'=H/\x = .int (lo + i),λi _=>n<=i⟩
theorem Rg (a it:Addr):Turn P w K tg (Itl K a) [it] it (λi h=>h.IsListIter it a i) where
 mem:=by simp
 obj:=λi h st b hb=>by
  have e:b=it:=by simpa using hb
  subst e;obtain ⟨o,e,c,d⟩:=st;exact ⟨o,e,λv z=>by rw [d] at z;cases z⟩
 keep:=λi h h' st k=>st.at λo e=>k it (by simp) o e
 item:=by
  intro X hP hw hK hc i pins s Z H E I hf st hg;subst hP hw hK;obtain ⟨xs,x,hq,hx⟩:=hg;obtain ⟨its,rv,p,hz⟩:=I.list hq;obtain ⟨u,hu,ru⟩:=rv.get hx;obtain ⟨f0,f1,f2,f3,f4,f5⟩:=hf it (by simp);refine wpAny_pyNext_list_item st p.isList (x:=u) (by simpa using hu) λh' st' sb=>?_;have I1:Inv X pins Z H { s with heap:=h' }:=I.turned (t':=s.toks) (λb o hb e=>(sb.2 b hb).trans e) f0 f1 f3 f4 f5;obtain ⟨o,e,c,d⟩:=id st';exact ⟨u,rfl,JT (s:={ s with heap:=h' }) e c d (by decide) ⟨x,H,I1,ru,⟨rfl,λys hy=>by rw [I.list_inj hy hq];exact hx⟩,st',λb hb=>(hf b hb).1⟩⟩
 done:=by
  intro X hP hw hK hc i pins s Z H E I hf st hg;subst hP hw hK;obtain ⟨xs,hq,hx⟩:=hg;obtain ⟨its,rv,p,hz⟩:=I.list hq;obtain ⟨f0,f1,f2,f3,f4,f5⟩:=hf it (by simp);have hl:=rv.length;exact wpAny_pyNext_list_end (I.ok.hd hc) st p.isList (by simp;lia) λh' eb=>⟨rfl,I.turned (t':=s.toks) (λb o hb e=>eb b o hb e) f0 f1 f3 f4 f5⟩
 self:=λ_ _ _ _ _ st h=>wpAny_pyIter_listiter st h
theorem Pa (a it:Addr):Turn P w K tg (Itt K a) [it] it (λi h=>h.IsTupleIter it a i) where
 mem:=by simp
 obj:=λi h st b hb=>by
  have e:b=it:=by simpa using hb
  subst e;obtain ⟨o,e,c,d⟩:=st;exact ⟨o,e,λv z=>by rw [d] at z;cases z⟩
 keep:=λi h h' st k=>st.at λo e=>k it (by simp) o e
 item:=by
  intro X hP hw hK hc i pins s Z H E I hf st hg;subst hP hw hK;obtain ⟨xs,x,hq,hx⟩:=hg;obtain ⟨its,rv,p,hz⟩:=I.tuple hq;obtain ⟨u,hu,ru⟩:=rv.get hx;obtain ⟨f0,f1,f2,f3,f4,f5⟩:=hf it (by simp);refine wpAny_pyNext_tuple_item st (show s.heap.IsTuple a its.toArray from p) (x:=u) (by simpa using hu) λh' st' sb=>?_;have I1:Inv X pins Z H { s with heap:=h' }:=I.turned (t':=s.toks) (λb o hb e=>(sb.2 b hb).trans e) f0 f1 f3 f4 f5;obtain ⟨o,e,c,d⟩:=id st';exact ⟨u,rfl,JT (s:={ s with heap:=h' }) e c d (by decide) ⟨x,H,I1,ru,⟨rfl,λys hy=>by rw [I.tuple_inj hy hq];exact hx⟩,st',λb hb=>(hf b hb).1⟩⟩
 done:=by
  intro X hP hw hK hc i pins s Z H E I hf st hg;subst hP hw hK;obtain ⟨xs,hq,hx⟩:=hg;obtain ⟨its,rv,p,hz⟩:=I.tuple hq;obtain ⟨f0,f1,f2,f3,f4,f5⟩:=hf it (by simp);have hl:=rv.length;exact wpAny_pyNext_tuple_end (I.ok.hd hc) st (show s.heap.IsTuple a its.toArray from p) (by simp;lia) λh' eb=>⟨rfl,I.turned (t':=s.toks) (λb o hb e=>eb b o hb e) f0 f1 f3 f4 f5⟩
 self:=λ_ _ _ _ _ st h=>wpAny_pyIter_tupleiter st h
theorem O9 (it:Addr)(lo:Int)(n:Nat):Turn P w K tg (Itr lo n) [it] it (λi h=>IsRangeIter h it (lo + (i:Nat) * 1) ((n:Int) - (i:Nat)) 1) where
 mem:=by simp
 obj:=λi h st b hb=>by
  have e:b=it:=by simpa using hb
  subst e;exact ⟨_,st,λv z=>by
   have z':Data.fields _=Data.cell v:=z
   cases z'⟩
 keep:=λi h h' st k=>k it (by simp) _ st
 item:=by
  intro X hP hw hK hc i pins s Z H E I hf st hg;subst hP hw hK;obtain ⟨f0,f1,f2,f3,f4,f5⟩:=hf it (by simp);have W:=Walks.range (prog:=X.prog) (w:=X.w) (I.ok.hd hc) it lo 1 n;refine W.item i s _ _ hg st λv h' tk hv st' kk=>?_;obtain ⟨t,rfl⟩:=hv;have I1:Inv X pins Z H { s with heap:=h',toks:=tk }:=I.turned (λb o hb e=>kk b o (by simpa using hb) e) f0 f1 f3 f4 f5;refine ⟨_,rfl,JT (s:={ s with heap:=h',toks:=tk }) (n:="range_iterator") st' rfl rfl (by decide) ⟨.int (lo + i),H,I1,⟨t,?_⟩,⟨rfl,rfl⟩,st',λb hb=>(hf b hb).1⟩⟩;rw [Int.mul_one]
 done:=by
  intro X hP hw hK hc i pins s Z H E I hf st hg;subst hP hw hK;obtain ⟨f0,f1,f2,f3,f4,f5⟩:=hf it (by simp);exact wpAny_pyNext_range_end (I.ok.hd hc) st (by have:n<=i:=hg;lia) λh' eb=>⟨rfl,I.turned (t':=s.toks) (λb o hb e=>eb b o hb e) f0 f1 f3 f4 f5⟩
 self:=λ_ _ _ _ _ st h=>wpAny_pyIter_rangeiter st h
variable {fp:List Addr}
section
variable {X:Cx}{tg:Expr}
theorem MV {R:It->Hp->Prop}{lo hi:Int}{t u v:Tok}{tk:Nat}(I:Inv X pins Z H s)(h1 : -(2 ^ 62)<=lo)(h2:lo < 2 ^ 62)(h3 : -(2 ^ 62)<=hi)(h4:hi < 2 ^ 62)
 (q:R (Itr lo (hi - lo).toNat) H):wpAny (model X.prog X.w) X.A (pyIter (.ref s.heap.objs.size)) (PIE X pins Z tg R) E { s with heap:=s.heap.push { cls:=.type "range",data:=.fields #[.int lo t,.int hi u,.int 1 v] },toks:=tk }:=by
 refine wpAny_pyIter_range (IsRange.new ..) (small_one h1 h2 h3 h4) ?_;have I1:Inv X pins Z H { s with heap:=s.heap.push { cls:=.type "range",data:=.fields #[.int lo t,.int hi u,.int 1 v] },toks:=tk }:=I.kept λb o e=>uc3 _ e;refine ⟨(s.heap.push { cls:=.type "range",data:=.fields #[.int lo t,.int hi u,.int 1 v] }).objs.size,[(s.heap.push { cls:=.type "range",data:=.fields #[.int lo t,.int hi u,.int 1 v] }).objs.size],_,_,H,rfl,
  I1.kept (t':=tk) λb o e=>uc3 _ e,O9 _ lo (hi - lo).toNat,?_,λb hb=>?_,q⟩
 ·have e1:lo + ((0:Nat):Int) * 1=lo:=by simp
  have e2:(((hi - lo).toNat:Nat):Int) - ((0:Nat):Int)=Builtin.Range.rangeSize lo hi 1:=by rw [rangeSize_one];split <;> lia
  show IsRangeIter _ _ (lo + ((0:Nat):Int) * 1) ((((hi - lo).toNat:Nat):Int) - ((0:Nat):Int)) 1;rw [e1,e2];exact ue4 _ rfl
 ·have e:b=(s.heap.push { cls:=.type "range",data:=.fields #[.int lo t,.int hi u,.int 1 v] }).objs.size:=by simpa using hb
  subst e;exact I1.fpOk (uo7 _) (I1.hok.fresh (uo7 _))
def ZJ (ta:TA):TI:=λZ H R=>ta Z H λvs H1=>∃j:Int,vs=[.int j]/\-(2 ^ 62)<=j/\j < 2 ^ 62/\R (Itr 0 j.toNat) H1
def ZK (ta:TA):TI:=λZ H R=>ta Z H λvs H1=>∃i j:Int,vs=[.int i,.int j]/\(-(2 ^ 62)<=i/\i < 2 ^ 62/\-(2 ^ 62)<=j/\j < 2 ^ 62)/\R (Itr i (j - i).toNat) H1
theorem QJ {a:Expr}{ta:TA}{p pos:Pos}(hg:Gl X "range")(hm:X.mg "range" = none)(ha:PA X [a] ta)(hs:starEach [a] X.env=[(false,eval a X.env)]:=by rfl):PI X tg (.Call (.Name "range" p) [a] [] pos) (ZJ ta):=by
 intro pins s Z H R I h;refine Call_ (Gk I hg hm boot_range (ua3 (thn (ha pos pins s Z H _ I h) λus s1 z9=>?_) hs rfl));obtain ⟨vs,H1,I1,r1,q1⟩:=z9;obtain ⟨j,e,q1,q2,q⟩:=q1;subst e
 cases r1 with
 | cons r rr=>
   cases rr
   obtain ⟨t,rfl⟩:=r;exact call_range_1 (MV I1 (by lia) (by lia) q1 q2 (by simpa using q))
theorem QK {a b:Expr}{ta:TA}{p pos:Pos}(hg:Gl X "range")(hm:X.mg "range" = none)(ha:PA X [a,b] ta)(hs:starEach [a,b] X.env=[(false,eval a X.env),(false,eval b X.env)]:=by rfl)(hs2:starEach [b] X.env=[(false,eval b X.env)]:=by rfl) :
 PI X tg (.Call (.Name "range" p) [a,b] [] pos) (ZK ta):=by
 intro pins s Z H R I h;refine Call_ (Gk I hg hm boot_range (ua3 (thn (ha pos pins s Z H _ I h) λus s1 z9=>?_) (by rw [hs,hs2]) (by rw [hs2];rfl)));obtain ⟨vs,H1,I1,r1,q1⟩:=z9;obtain ⟨i,j,e,⟨q1,q2,q3,q4⟩,q⟩:=q1;subst e
 cases r1 with
 | cons r rr=>
   cases rr with
   | cons r' rr=>
     cases rr
     obtain ⟨t,rfl⟩:=r;obtain ⟨t',rfl⟩:=r';exact call_range_2 (MV I1 q1 q2 q3 q4 q)
def YZ (wi:TI)(g:TG)(tb:TS):TS:=λD Z H=>wi Z H λJ H1=>∃W:Nat->Nat->St->Hp->Prop,(∃m,W 0 m Z H1)/\∀i m Z H,W i m Z H->
 (J.stop i H/\D.nx Z H)\/(J.go i H/\∃N:St->Hp->Prop,(∀Z' H',N Z' H'->∃m',m' < m/\W (i + 1) m' Z' H')/\∀x H',J.yld i H x H'->g x Z H' λσ2 H2=>tb { D with nx:=N,ct:=N,bk:=D.nx } σ2 H2)
noncomputable def HC (fp:List Addr)(h:Heap):List (Addr×Obj):=fp.filterMap λb=>(h.get? b).map λo=>(b,o)
theorem Fi {o:Obj}(hb:b∈fp)(e:h.get? b=some o):(b,o)∈HC fp h:=List.mem_filterMap.mpr ⟨b,hb,by rw [e];rfl⟩
theorem Qz {p:Addr×Obj}(hp:p∈HC fp h):p.1∈fp/\h.get? p.1=some p.2:=by
 obtain ⟨b,hb,e⟩:=List.mem_filterMap.mp hp
 cases q:h.get? b with
 | none=>rw [q] at e;cases e
 | some o=>
   rw [q] at e;have e':(b,o)=p:=uj2 e;subst e';exact ⟨hb,q⟩
theorem Inv.pinned (I:Inv X pins Z H s)(hf:∀b∈fp,FpOk X pins H b)(ho:∀b∈fp,∃o,s.heap.get? b=some o/\∀v,o.data≠.cell v):Inv X (pins++HC fp s.heap) Z H s:=
 I.pins_of λp hp=>(uj1.mp hp).elim (λz=>I.pin p (ud1 _ z)) λz=>by
  obtain ⟨hb,e⟩:=Qz z;obtain ⟨f0,f1,f2,_⟩:=hf p.1 hb;obtain ⟨o,e',d⟩:=ho p.1 hb;rw [e] at e';cases e'
  exact ⟨e,f0,f1,f2,d⟩
theorem Inv.unpinned {pl:List (Addr×Obj)}(I:Inv X (pins++pl) Z H s):Inv X pins Z H s:=I.pins_of λp hp=>I.pin p (ud1 _ (List.mem_append_left _ hp))
theorem Yw {iter:Expr}{body:List Stmt}{wi:TI}{g:TG}{tb:TS}{pos:Pos}(hp:PassesOwn (model X.prog X.w) X.A X.env X.xe)(hc:X.calm=true)(hi:PI X tg iter wi)(hg:PG X tg g)(hb:PSs X body tb)
 (hs:∀x,foldedSetIterable iter X.env x=pure x:=by intro _;rfl):PS X (.For tg iter body [] pos) (YZ wi g tb):=by
 intro pins s Z H D I h;refine wpAny_For (thn (hi pins s Z H _ I h) λv s1 h1=>thn h1 λitv s2 h2=>?_) hs;obtain ⟨it,fp,tn,J,H2,e,I2,T,st2,f2,W,⟨m0,w0⟩,turn⟩:=h2;subst e
 -- what stays true of the iterator's objects through the loop
 have stat:∀{H':Hp},(∀b∈fp,H' b=none)->∀b∈fp,FpOk X pins H' b:=λhn b hb=>⟨hn b hb,(f2 b hb).2⟩;refine codeAny_forLoop_any (λn s'=>∃i Z' H',Inv X pins Z' H' s'/\tn i s'.heap/\(∀b∈fp,H' b=none)/\W i n Z' H') ?_ m0 ⟨0,Z,H2,I2,st2,λb hb=>(f2 b hb).1,w0⟩;rintro n s3 ⟨i,σ3,H3,I3,st3,fr3,w3⟩;rcases turn i n σ3 H3 w3 with ⟨stop,qn⟩ | ⟨go,N,hN,step⟩
 ·refine wpAny_passesOwn hp (thn (T.done X rfl rfl rfl hc i pins s3 σ3 H3 X.xe I3 (stat fr3) st3 stop) λr s4 z9=>?_);obtain ⟨hr,I4⟩:=z9;subst hr;exact wpAny_execs_nil ⟨σ3,H3,I4,qn⟩
 ·refine wpAny_passesOwn hp (thn (T.item X rfl rfl rfl hc i pins s3 σ3 H3 X.xe I3 (stat fr3) st3 go) λr s4 z9=>?_);obtain ⟨u,hr,h4⟩:=z9;subst hr;refine wpAny_passesOwn hp (thn h4 λ_ s5 z9=>?_);obtain ⟨x,H5,I5,r5,y5,st5,fr5⟩:=z9;have I5':=I5.pinned (stat fr5) (T.obj _ _ st5);refine wpAny_passesOwn hp (thn (hg _ s5 σ3 H5 x u _ I5' r5 (step x H5 y5)) λ_ s6 z9=>?_);obtain ⟨σ6,H6,I6,q6⟩:=z9;refine wpAny_passesOwn hp (thn (hb _ s6 σ6 H6 _ I6 q6) λf s7 q7=>?_);have again:∀{σ7:St} {H7:Hp},Inv X (pins++HC fp s5.heap) σ7 H7 s7->N σ7 H7->∃m,m < n/\∃i Z' H',Inv X pins Z' H' s7/\tn i s7.heap/\(∀b∈fp,H' b=none)/\W i m Z' H':=λ{σ7 H7} I7 n7=>by
   obtain ⟨m',hm,w7⟩:=hN σ7 H7 n7;refine ⟨m',hm,i + 1,σ7,H7,I7.unpinned,T.keep _ _ _ st5 λb hb o e=>(I7.pin (b,o) (ud1 _ (ud1 _ (Fi hb e)))).1,λb hb=>?_,w7⟩;obtain ⟨o,e,d⟩:=T.obj _ _ st5 b hb;exact (I7.pin (b,o) (ud1 _ (ud1 _ (Fi hb e)))).2.1
  cases f with
  | next=>obtain ⟨σ7,H7,I7,n7⟩:=q7;exact again I7 n7
  | cont=>obtain ⟨σ7,H7,I7,n7⟩:=q7;exact again I7 n7
  | brk=>obtain ⟨σ7,H7,I7,q7⟩:=q7;exact ⟨σ7,H7,I7.unpinned,q7⟩
  | ret v=>obtain ⟨x7,σ7,H7,I7,r7,q7⟩:=q7;exact ⟨x7,σ7,H7,I7.unpinned,r7,q7⟩
end
abbrev R2:=V->V->Hp->VK->Prop
def OpR (X:Cx)(f:Value->Value->Sem Value)(r:R2):Prop:=
 ∀(pins:List (Addr×Obj)) (s:Shared) (Z:St) (H:Hp) (x y:V) (v u:Value) (Q:VK),Inv X pins Z H s->RelV x v->RelV y u->r x y H Q->
  wpAny (model X.prog X.w) X.A (f v u) (EP X pins Z Q) X.xe s
def UnR (X:Cx)(f:Value->Sem Value)(r:V->Hp->VK->Prop):Prop:=
 ∀(pins:List (Addr×Obj)) (s:Shared) (Z:St) (H:Hp) (x:V) (v:Value) (Q:VK),Inv X pins Z H s->RelV x v->r x H Q->
  wpAny (model X.prog X.w) X.A (f v) (EP X pins Z Q) X.xe s
def Ch (X:Cx)(f:Value)(r:List V->Hp->VK->Prop):Prop:=
 ∀(pins:List (Addr×Obj)) (s:Shared) (Z:St) (H:Hp) (xs:List V) (us:List Value) (Q:VK),Inv X pins Z H s->Vals xs us->r xs H Q->
  wpAny (model X.prog X.w) X.A (call f us) (EP X pins Z Q) X.xe s
def tOp (r:R2)(ta tb:TE):TE:=λZ H Q=>ta Z H λx H1=>tb Z H1 λy H2=>r x y H2 Q
def tUn (r:V->Hp->VK->Prop)(ta:TE):TE:=λZ H Q=>ta Z H λx H1=>r x H1 Q
def rI (C:Int->Int->Prop)(g:Int->Int->V):R2:=λx y H Q=>∃i j,x = .int i/\y = .int j/\C i j/\Q (g i j) H
def rI0 (g:Int->Int->V):R2:=λx y H Q=>∃i j,x = .int i/\y = .int j/\Q (g i j) H
def rU (g:Int->V):V->Hp->VK->Prop:=λx H Q=>∃i,x = .int i/\Q (g i) H
variable {r:R2}{f:Value->Value->Sem Value}
section
variable {X:Cx}{a b c:Expr}{ta tb tc:TE}{pos:Pos}
theorem RC (ha:PE X a ta)(hb:PE X b tb){pins:List (Addr×Obj)}{s:Shared}{Z:St}{H:Hp}{R:V->V->Hp->Prop}(I:Inv X pins Z H s)
 (h:ta Z H λx H1=>tb Z H1 λy H2=>R x y H2) {Q:Value->Shared->Prop} {f:Value->Value->Sem Value}
 (hf:∀v u s2 x y H2,Inv X pins Z H2 s2->RelV x v->RelV y u->R x y H2->wpAny (model X.prog X.w) X.A (f v u) Q X.xe s2) :
 wpAny (model X.prog X.w) X.A (eval a X.env) (λv s₁=>wpAny (model X.prog X.w) X.A (eval b X.env) (λu s₂=>wpAny (model X.prog X.w) X.A (f v u) Q X.xe s₂) X.xe s₁) X.xe s:=by
 refine thn (ha pins s Z H _ I h) λv s1 z9=>?_;obtain ⟨x,H1,I1,r1,q1⟩:=z9;refine thn (hb pins s1 Z H1 _ I1 q1) λu s2 z9=>?_;obtain ⟨y,H2,I2,r2,q2⟩:=z9;exact hf v u s2 x y H2 I2 r1 r2 q2
theorem OU {op:Operator}(ho:OpR X (binaryOp op) r)(ha:PE X a ta)(hb:PE X b tb):PE X (.BinOp a op b pos) (tOp r ta tb):=by
 intro pins s Z H Q I h;exact wpAny_BinOp (RC ha hb I h λv u s2 x y H2 I2 rx ry q=>ho pins s2 Z H2 x y v u Q I2 rx ry q)
theorem ZU {op:UnaryOp}{r:V->Hp->VK->Prop}(ho:UnR X (unaryOp op) r)(ha:PE X a ta):PE X (.UnaryOp op a pos) (tUn r ta):=by
 intro pins s Z H Q I h;exact UnaryOp_ (thn (ha pins s Z H _ I h) λv s1 z9=>by obtain ⟨x,H1,I1,r1,q1⟩:=z9;exact ho pins s1 Z H1 x v Q I1 r1 q1)
theorem opI {C:Int->Int->Prop}{g:Int->Int->Int}
 (rule:∀(i j:Int) (t u:Tok) (s:Shared) (Q:Value->Shared->Prop) (E:Value->Shared->Prop),C i j->Q (.int (g i j) s.toks) { s with toks:=s.toks + 1 }->wpAny (model X.prog X.w) X.A (f (.int i t) (.int j u)) Q E s) :
 OpR X f (rI C λi j=>.int (g i j)):=by
 intro pins s Z H x y v u Q I rx ry h;obtain ⟨i,j,rfl,rfl,hc,q⟩:=h;obtain ⟨t,rfl⟩:=rx;obtain ⟨t',rfl⟩:=ry;exact rule i j t t' s _ _ hc ⟨.int (g i j),H,I.tok _,⟨_,rfl⟩,q⟩
theorem X9 {g:Int->Int->Int}
 (rule:∀(i j:Int) (t u:Tok) (s:Shared) (Q:Value->Shared->Prop) (E:Value->Shared->Prop),Q (.int (g i j) s.toks) { s with toks:=s.toks + 1 }->wpAny (model X.prog X.w) X.A (f (.int i t) (.int j u)) Q E s) :
 OpR X f (rI0 λi j=>.int (g i j)):=by
 intro pins s Z H x y v u Q I rx ry h;obtain ⟨i,j,rfl,rfl,q⟩:=h;obtain ⟨t,rfl⟩:=rx;obtain ⟨t',rfl⟩:=ry;exact rule i j t t' s _ _ ⟨.int (g i j),H,I.tok _,⟨_,rfl⟩,q⟩
theorem OT {g:Int->Int->Bool}
 (rule:∀(i j:Int) (t u:Tok) (s:Shared) (Q:Value->Shared->Prop) (E:Value->Shared->Prop),Q (.bool (g i j)) s->wpAny (model X.prog X.w) X.A (f (.int i t) (.int j u)) Q E s) :
 OpR X f (rI0 λi j=>.bl (g i j)):=by
 intro pins s Z H x y v u Q I rx ry h;obtain ⟨i,j,rfl,rfl,q⟩:=h;obtain ⟨t,rfl⟩:=rx;obtain ⟨t',rfl⟩:=ry;exact rule i j t t' s _ _ ⟨.bl (g i j),H,I,rfl,q⟩
def WP (i j:Int):Prop:=0 < j/\j < 1073741824
def WQ (i j:Int):Prop:=0<=j/\j<=1000000/\i.natAbs < 2 ^ 64
def CMul (i j:Int):Prop:=(-(2 ^ 64) < i/\i < 2 ^ 64)\/(-(2 ^ 64) < j/\j < 2 ^ 64)
theorem CMul.ok {i j:Int}(h:CMul i j):IntMulOk i j:=by
 rcases h with ⟨h1,h2⟩ | ⟨h1,h2⟩
 ·exact .of_left (intBits_le_64 h1 h2)
 ·exact .of_right (intBits_le_64 h1 h2)
theorem two_pow_nn (k:Nat):(0:Int)<=2 ^ k:=by
 rw [two_pow_cast];exact Int.natCast_nonneg _
theorem op_add:OpR X (binaryOp .Add) (rI0 λi j=>.int (i + j)):=X9 λ_ _ _ _ _ _ _ q=>add_int q
theorem Yg:OpR X (binaryOp .Sub) (rI0 λi j=>.int (i - j)):=X9 λ_ _ _ _ _ _ _ q=>sub_int q
theorem op_mul:OpR X (binaryOp .Mult) (rI CMul λi j=>.int (i * j)):=opI λ_ _ _ _ _ _ _ hc q=>mul_int q hc.ok
theorem Vv:OpR X (binaryOp .FloorDiv) (rI WP λi j=>.int (i / j)):=opI λi j _ _ _ _ _ hc q=>by
 have h1:(0:Int) < j:=hc.1;have h2:j < 1073741824:=hc.2;exact floordiv_int (by lia) (by rw [ua5 i (by lia)];exact q) (.inl (PyProof.noPylong_small (by lia)))
theorem Yc:OpR X (binaryOp .Mod) (rI (λ_ j=>0 < j) λi j=>.int (i % j)):=opI λi j _ _ _ _ _ hc q=>by
 have h1:(0:Int) < j:=hc;exact mod_int' (by lia) (by rw [Int.fmod_eq_emod_of_nonneg i (by lia)];exact q)
theorem Yd:OpR X (binaryOp .Pow) (rI WQ λi j=>.int (i ^ j.toNat)):=opI λ_ _ _ _ _ _ _ hc q=>pow_int_small hc.1 hc.2.1 hc.2.2 q
theorem Yf:OpR X (binaryOp .RShift) (rI (λ_ j=>0<=j) λi j=>.int (i / 2 ^ j.toNat)):=opI λi j _ _ _ _ _ hc q=>
 rshift_int hc (by rw [ua5 i (two_pow_nn _)];exact q)
theorem unI {f:Value->Sem Value}{g:Int->Int}
 (rule:∀(i:Int) (t:Tok) (s:Shared) (Q:Value->Shared->Prop) (E:Value->Shared->Prop),Q (.int (g i) s.toks) { s with toks:=s.toks + 1 }->wpAny (model X.prog X.w) X.A (f (.int i t)) Q E s) :
 UnR X f (rU λi=>.int (g i)):=by
 intro pins s Z H x v Q I rx h;obtain ⟨i,rfl,q⟩:=h;obtain ⟨t,rfl⟩:=rx;exact rule i t s _ _ ⟨.int (g i),H,I.tok _,⟨_,rfl⟩,q⟩
theorem Y4:UnR X (unaryOp .USub) (rU λi=>.int (-i)):=unI λ_ _ _ _ _ q=>neg_int q
end
variable {op:CmpOp}{us:List Value}
section
variable {X:Cx}{a b c:Expr}{ta tb tc:TE}{pos:Pos}
theorem op_lt:OpR X (compareOp .Lt) (rI0 λi j=>.bl (decide (i < j))):=OT λ_ _ _ _ _ _ _ q=>lt_int q
theorem op_le:OpR X (compareOp .LtE) (rI0 λi j=>.bl (decide (i<=j))):=OT λ_ _ _ _ _ _ _ q=>le_int q
theorem op_gt:OpR X (compareOp .Gt) (rI0 λi j=>.bl (decide (j < i))):=OT λ_ _ _ _ _ _ _ q=>gt_int q
theorem op_ge:OpR X (compareOp .GtE) (rI0 λi j=>.bl (decide (j<=i))):=OT λ_ _ _ _ _ _ _ q=>ge_int q
theorem OpR.or {r':R2}(h:OpR X f r)(h':OpR X f r'):OpR X f (λx y H Q=>r x y H Q\/r' x y H Q):=by
 intro pins s Z H x y v u Q I rx ry q;rcases q with q | q
 ·exact h pins s Z H x y v u Q I rx ry q
 ·exact h' pins s Z H x y v u Q I rx ry q
theorem CG (b:Expr){op:CmpOp}(h:op≠.In:=by decide)(h2:op≠.NotIn:=by decide):behindInMarks op b=false:=by
 have e1:(op == CmpOp.In)=false:=by cases op <;> first | rfl | exact absurd rfl h
 have e2:(op == CmpOp.NotIn)=false:=by cases op <;> first | rfl | exact absurd rfl h2
 cases b <;> simp [behindInMarks,e1,e2]
theorem VD (ho:OpR X (compareOp op) r)(ha:PE X a ta)(hb:PE X b tb)(hm:behindInMarks op b=false):PE X (.Compare a [op] [b] pos) (tOp r ta tb):=by
 intro pins s Z H Q I h;exact wpAny_Compare1 (RC ha hb I h λv u s2 x y H2 I2 rx ry q=>ho pins s2 Z H2 x y v u Q I2 rx ry q) hm
def ad (t:TE):TT:=λZ H Q=>t Z H λx H'=>∃k,x = .bl k/\Q k H'
theorem VW (ho:OpR X (compareOp op) r)(ha:PE X a ta)(hb:PE X b tb)(hm:behindInMarks op b=false):PT X (.Compare a [op] [b] pos) (ad (tOp r ta tb)):=by
 intro pins s Z H Q I h;refine wpAny_isTrue_Compare1 (thn (ha pins s Z H _ I h) λv s1 ⟨x,H1,I1,r1,q1⟩=>thn (hb pins s1 Z H1 _ I1 q1) λu s2 ⟨y,H2,I2,r2,q2⟩=>
  thn (ho pins s2 Z H2 x y v u _ I2 r1 r2 q2) λc s3 ⟨z,H3,I3,r3,k,e,q3⟩=>?_) hm
 subst e
 cases r3
 exact wpAny_truthy_bool ⟨H3,I3,q3⟩
def Rc (r r':R2)(ta tb tc:TE):TE:=λZ H Q=>ta Z H λx H1=>tb Z H1 λy H2=>r x y H2 λz H3=>∃k,z = .bl k/\
 (if k=true then tc Z H3 λw' H4=>r' y w' H4 Q else Q (.bl false) H3)
theorem ST {op':CmpOp}{r':R2}(ho:OpR X (compareOp op) r)(ho':OpR X (compareOp op') r')(ha:PE X a ta)(hb:PE X b tb)(hc:PE X c tc)
 (hm:lastMarks [op,op'] [b,c]=false:=by with_unfolding_all rfl):PE X (.Compare a [op,op'] [b,c] pos) (Rc r r' ta tb tc):=by
 intro pins s Z H Q I h;refine Compare_chain (thn (ha pins s Z H _ I h) λv s1 ⟨x,H1,I1,r1,q1⟩=>chain_link (thn (hb pins s1 Z H1 _ I1 q1) λu s2 ⟨y,H2,I2,r2,q2⟩=>
  thn (ho pins s2 Z H2 x y v u _ I2 r1 r2 q2) λd s3 ⟨z,H3,I3,r3,k,e,q3⟩=>?_)) hm
 subst e
 cases r3
 refine wpAny_truthy_bool ?_
 cases k with
 | false=>exact ite_ff ⟨.bl false,H3,I3,rfl,q3⟩
 | true=>exact ite_tt (chain_last (thn (hc pins s3 Z H3 _ I3 q3) λw' s4 z9=>by obtain ⟨z',H4,I4,r4,q4⟩:=z9;exact ho' pins s4 Z H4 y z' u w' Q I4 r2 r4 q4))
theorem JW:(sizeLine:Nat) < 2 ^ 63:=by rw [sizeLine_eq];decide
theorem op_add_str:OpR X (binaryOp .Add) (λx y H Q=>∃i j,x = .str i/\y = .str j/\i.length + j.length<=sizeLine/\Q (.str (i++j)) H):=by
 intro pins s Z H x y v u Q I rx ry h;obtain ⟨i,j,rfl,rfl,hz,q⟩:=h;obtain ⟨t,rfl⟩:=rx;obtain ⟨t',rfl⟩:=ry;exact add_str (λt' tk=>⟨.str (i++j),H,I.tok _,⟨_,rfl⟩,q⟩) hz
theorem EN {x:V}(r:Vals [x] us):∃u,us=[u]/\RelV x u:=by
 cases r with
 | cons r1 r2=>cases r2;exact ⟨_,rfl,r1⟩
theorem Uj {x y:V}(r:Vals [x,y] us):∃u w',us=[u,w']/\RelV x u/\RelV y w':=by
 cases r with
 | cons r1 r2=>
   cases r2 with
   | cons r3 r4=>cases r4;exact ⟨_,_,rfl,r1,r3⟩
theorem Pv (hc:X.calm=true):Ch X (.builtin "min") (λxs H Q=>∃i j,xs=[.int i,.int j]/\Q (.int (if j < i then j else i)) H):=by
 intro pins s Z H xs us Q I r h;obtain ⟨i,j,rfl,q⟩:=h;obtain ⟨u,w',rfl,⟨t,rfl⟩,⟨t',rfl⟩⟩:=Uj r;refine min_two_ints (I.ok.hd hc) λh' tk k=>⟨_,H,I.kept k,?_,q⟩
 by_cases hj:j < i
 ·rw [if_pos hj,if_pos hj];exact ⟨_,rfl⟩
 ·rw [if_neg hj,if_neg hj];exact ⟨_,rfl⟩
theorem Pu:Ch X (.type "int") (λxs H Q=>(∃i,xs=[.int i]/\Q (.int i) H)\/∃k,xs=[.bl k]/\Q (.int (if k then 1 else 0)) H):=by
 intro pins s Z H xs us Q I r h;rcases h with ⟨i,rfl,q⟩ | ⟨k,rfl,q⟩
 ·obtain ⟨u,rfl,t,rfl⟩:=EN r;exact call_int_int ⟨.int i,H,I,⟨_,rfl⟩,q⟩
 ·obtain ⟨u,rfl,r1⟩:=EN r
  cases r1
  exact call_int_bool ⟨.int (if k then 1 else 0),H,I.tok _,⟨_,rfl⟩,q⟩
theorem RL:Ch X (.builtin "ord") (λxs H Q=>∃x,xs=[.str x]/\x.length=1/\Q (.int (x.cps.getD 0 0:Nat)) H):=by
 intro pins s Z H xs us Q I r h;obtain ⟨x,rfl,hz,q⟩:=h;obtain ⟨u,rfl,t,rfl⟩:=EN r;exact ord_of_one hz ⟨.int _,H,I.tok _,⟨_,rfl⟩,q⟩
def WS (K:PySem.W.Frag)(x:V)(H:Hp)(n:Nat):Prop:=
 match x with
 | .str y=>y.length<=sizeLine/\n=y.length
 | .byt y=>y.size<=sizeLine/\n=y.size
 | .ref p=>(∃xs,SqL K H p xs/\n=xs.length)\/∃xs,SqT K H p xs/\n=xs.length
 | _=>False
theorem RK:Ch X (.builtin "len") (λxs H Q=>∃x n,xs=[x]/\WS X.K x H n/\Q (.int n) H):=by
 intro pins s Z H xs us Q I r h;obtain ⟨x,n,rfl,e,q⟩:=h;obtain ⟨u,rfl,rx⟩:=EN r;have hl:=JW;have hs:sizeLine=16777216:=sizeLine_eq
 cases x with
 | str y=>
   obtain ⟨t,rfl⟩:=rx;obtain ⟨hy,e'⟩:y.length<=sizeLine/\n=y.length:=e;subst e';exact len_str (by lia) ⟨.int _,H,I.tok _,⟨_,rfl⟩,q⟩
 | byt y=>
   obtain ⟨t,rfl⟩:=rx;obtain ⟨hy,e'⟩:y.size<=sizeLine/\n=y.size:=e;subst e';exact PySem.W.len_bytes (by lia) ⟨.int _,H,I.tok _,⟨_,rfl⟩,q⟩
 | ref p=>
   cases rx
   have e':(∃xs,SqL X.K H p xs/\n=xs.length)\/∃xs,SqT X.K H p xs/\n=xs.length:=e;rcases e' with ⟨xs,hx,e'⟩ | ⟨xs,hx,e'⟩
   ·subst e';obtain ⟨its,r',pl,hz⟩:=I.list hx;have hlen:=r'.length;exact Calls.call_len_list pl.isList (by simp only [ug2];lia) ⟨.int xs.length,H,I.tok _,⟨_,by simp only [ug2];rw [hlen]⟩,q⟩
   ·subst e';obtain ⟨its,r',pl,hz⟩:=I.tuple hx;have hlen:=r'.length;exact len_tuple pl (by simp only [ug2];lia) ⟨.int xs.length,H,I.tok _,⟨_,by simp only [ug2];rw [hlen]⟩,q⟩
 | _=>exact (show False from e).elim
end
structure ObjM (h:Heap)(x dx C:Addr)(mA:Str->Option Value):Prop where
 obj:h.get? x=some (PySem.W.instObj C dx)
 ns:h.Ns1 dx mA
 ne:dx≠x
theorem Hr {dx:Addr}{mA:Str->Option Value}(n:h.Ns1 dx mA):∃od,h.get? dx=some od/\∀name,PySem.W.lookIn name od=some (mA name):=by
 obtain ⟨o,es,ep,ho,hd,hk,_,hm⟩:=n;refine ⟨o,ho,λname=>?_⟩;have e:=hm name;unfold nsFind findBy at e;rw [<-uf4] at e;unfold PySem.W.lookIn;rw [hd];dsimp only
 split
 ·rename_i y q;rw [q] at e;exact congrArg some e
 ·rename_i q;rw [q] at e;have a:es.toList.any (·.refKey)=false:=by
   rw [List.any_eq_false];intro y hy;obtain ⟨z,t,hkey⟩:=hk y (Array.mem_toList_iff.mp hy);simp [DictEntry.refKey,hkey]
  have a':¬es.toList.any (·.refKey)=true:=by rw [a];exact uf3
  rw [if_neg a'];exact congrArg some e
variable {C:Addr}
theorem ObjM.look {x dx:Addr}{mA:Str->Option Value}(I:ObjM h x dx C mA):∃od,PySem.W.InstAt h x (PySem.W.instObj C dx) C (some od)/\∀name,PySem.W.lookIn name od=some (mA name):=
 let ⟨od,ho,hl⟩:=Hr I.ns
 ⟨od,⟨I.obj,rfl,rfl,ho⟩,hl⟩
variable {pl:Sem Bool}{kw:List (Str×Value)}
section
variable {prog:Program}{w:World}{A:Around}{E:Value->Shared->Prop}{s:Shared}{K:PySem.W.Frag}{x dx C f:Addr}{mA:Str->Option Value}{name:Str}{v:Value}
theorem U5 {expr:Bool}{Q:Value->Shared->Prop}(X:K.In s.heap)(I:ObjM s.heap x dx C mA)(hg:PySem.W.plainGet K C name=true)(hh:PySem.W.hasDictIn K C=true)
 (ha:PySem.W.findIn K (.ref C) name=some none) (hv:mA name=some v) (hv':PySem.W.handedIn v=true) (h:Q v { s with toks:=s.toks + 1 }) :
 wpAny (model prog w) A (getAttr (.ref x) name expr) Q E s:=by
 obtain ⟨od,J,hl⟩:=I.look;exact PySem.W.get_value X J (ue5 hg).1 (PySem.W.findObj_own hh ha rfl (by rw [hl,hv])) hv' h
theorem Sj {Q:Value×List Value->Shared->Prop}(X:K.In s.heap)(I:ObjM s.heap x dx C mA)(hg:PySem.W.plainGet K C name=true)
 (hf:PySem.W.findIn K (.ref C) name=some (some (.ref f))) (ht:PySem.W.isFn K (.ref f)=true) (hv:mA name=none) (h:Q (.ref f,[.ref x]) s) :
 wpAny (model prog w) A (getMethod (.ref x) name pl) Q E s:=by
 obtain ⟨od,J,hl⟩:=I.look;exact PySem.W.method_fn X J (ue5 hg).1 (ue5 hg).2 hf (beq_iff_eq.mp ht) (by show (PySem.W.lookIn name od).map (·.isSome)=some false;rw [hl,hv];rfl) h
theorem Wt {ns:List Str}(X:K.In s.heap)(I:ObjM s.heap x dx C mA)
 (hs:PySem.W.findIn K (.ref C) "__setattr__" = some (some (.builtin "object.__setattr__"))) (hp:PySem.W.plainOver K C=true) (ht:PySem.W.takerIn K C name=some none) (hh:PySem.W.hasDictIn K C=true)
 (hw:PySem.Within mA ns) (hsz:ns.length<=sizeLine)
 (h:∀h',ObjM h' x dx C (λy=>if y=name then some v else mA y)->Heap.SameBut dx s.heap h'->Q () { s with heap:=h',toks:=s.toks + 2 }) :
 wpAny (model prog w) A (setAttr (.ref x) name v) Q E s:=by
 obtain ⟨od,J,hl⟩:=I.look;refine PySem.W.set_plain X J hs (PySem.W.osa_open (s:={ s with toks:=s.toks + 1 }) (r:=none) X J hp ht λb=>?_);obtain ⟨cd,hc,hd'⟩:=PySem.W.any_some hh;have hx:s.heap.get? x=some ⟨.ref C,some dx,.plain,#[]⟩:=I.obj;refine up1 (up2 (up1 (up1 (wpAny_loadPart hx (up1 (PySem.W.Looks.here (s:={ s with toks:=s.toks + 1 }) (PySem.W.looks_clsIn X hc) ?_))))));rw [hd'];refine up2 (a:=some dx) (up1 (up2 (up1 ?_)));refine wpAny_nsSet1 (s:={ s with toks:=s.toks + 1 }) I.ns λh' hn2 hs2=>?_;obtain ⟨oD,esD,epD,hoD,hdD,hcD⟩:=hn2.count (PySem.Within.cons name v hw);refine up1 (wpAny_lookBehind hoD (by rw [hdD];exact pastItsLine_dict (un3 hcD (by rw [uh5];lia))) ?_);exact up2 (h _ ⟨(hs2.2 _ (Ne.symm I.ne)).trans I.obj,hn2,I.ne⟩ hs2)
theorem SD {R:Result->Shared->Prop}{vs:List Value}(X:K.In s.heap)(hm:PySem.W.makesIn K C=true)
 (hi:PySem.W.findIn K (.ref C) "__init__" = some (some (.ref f))) (hf:PySem.W.typeIn K (.ref f)=some (.type "function"))
 (h:codeAny (model prog w) (A.under (.builtin "type.__call__" ⟨.ref C :: vs,kw⟩)) (.call (.ref f) ⟨.ref (s.heap.objs.size + 1) :: vs,kw⟩) (PySem.W.InitBack (s.heap.objs.size + 1) R)
   { s with heap:=(s.heap.push PySem.W.emptyDict).push (PySem.W.instObj C s.heap.objs.size) }) :
 codeAny (model prog w) A (.call (.ref C) ⟨vs,kw⟩) R s:=by
 obtain ⟨hh,g,d,t,os⟩:=s;exact PySem.W.make_core (PySem.W.makes_of X hm) (PySem.W.looks_findIn X hi) (λself=>PySem.W.bind_fn X self hf) (.inl rfl) h
end
noncomputable def CV (f:Str)(v:V):List (Str×V)->List (Str×V)
 | []=>[(f,v)]
 | (g,x) :: r=>if g=f then (g,v) :: r else (g,x) :: CV f v r
theorem IN (f g:Str)(v:V):∀fs:List (Str×V),(CV f v fs).lookup g=if g=f then some v else fs.lookup g
 | []=>by
   show List.lookup g [(f,v)]=_
   by_cases h:g=f
   ·have hb:(g == f)=true:=beq_iff_eq.mpr h;simp only [List.lookup,hb,if_pos h]
   ·have hb:(g == f)=false:=beq_eq_false_iff_ne.mpr h;simp only [List.lookup,hb,if_neg h]
 | (k,x) :: r=>by
   have ih:=IN f g v r;rw [show CV f v ((k,x) :: r)=(if k=f then (k,v) :: r else (k,x) :: CV f v r) from rfl]
   by_cases hk:k=f
   ·rw [if_pos hk]
    by_cases h:g=k
    ·have hb:(g == k)=true:=beq_iff_eq.mpr h;simp only [List.lookup,hb,if_pos (h.trans hk)]
    ·have hb:(g == k)=false:=beq_eq_false_iff_ne.mpr h;simp only [List.lookup,hb,if_neg (λe:g=f=>h (e.trans hk.symm))]
   ·rw [if_neg hk]
    by_cases h:g=k
    ·have hb:(g == k)=true:=beq_iff_eq.mpr h;simp only [List.lookup,hb,if_neg (λe:g=f=>hk (h.symm.trans e))]
    ·have hb:(g == k)=false:=beq_eq_false_iff_ne.mpr h;simp only [List.lookup,hb];exact ih
theorem Ho (f:Str)(v:V):∀fs:List (Str×V),f∈(CV f v fs).map (·.1)/\∀g,g∈fs.map (·.1)->g∈(CV f v fs).map (·.1)
 | []=>⟨by simp [CV],λg h=>by simp at h⟩
 | (k,x) :: r=>by
   obtain ⟨i1,i2⟩:=Ho f v r;rw [show CV f v ((k,x) :: r)=(if k=f then (k,v) :: r else (k,x) :: CV f v r) from rfl]
   by_cases hk:k=f
   ·rw [if_pos hk];subst hk;exact ⟨by simp,λg h=>by simpa using h⟩
   ·rw [if_neg hk];refine ⟨?_,λg h=>?_⟩
    ·rw [um0];exact ud9 _ i1
    ·rw [um0] at h ⊢;rcases ul9.mp h with e | e
     ·exact ul9.mpr (.inl e)
     ·exact ud9 _ (i2 g e)
theorem IK (f:Str)(v:V):∀fs:List (Str×V),(CV f v fs).length<=fs.length + 1
 | []=>by simp [CV]
 | (k,x) :: r=>by
   have ih:=IK f v r;rw [show CV f v ((k,x) :: r)=(if k=f then (k,v) :: r else (k,x) :: CV f v r) from rfl]
   by_cases hk:k=f
   ·rw [if_pos hk,uh5,uh5];lia
   ·rw [if_neg hk,uh5,uh5];lia
theorem RelO.some_of {o:Option Value}(r:RelO (some v) o):∃u,o=some u/\RelV v u:=by
 cases o with
 | none=>exact (show False from r).elim
 | some u=>exact ⟨u,rfl,r⟩
theorem RelO.none_of {o:Option Value}(r:RelO none o):o=none:=by
 cases o with
 | none=>rfl
 | some u=>exact (show False from r).elim
theorem Lj (r:RelV v u):PySem.W.handedIn u=true:=by
 cases v with
 | non=>cases (show u=Value.none from r);rfl
 | bl b=>cases (show u=Value.bool b from r);rfl
 | int i=>obtain ⟨t,e⟩:=(show ∃t,u=Value.int i t from r);cases e;rfl
 | str x=>obtain ⟨t,e⟩:=(show ∃t,u=Value.str x t from r);cases e;rfl
 | byt b=>obtain ⟨t,e⟩:=(show ∃t,u=Value.bytes b t from r);cases e;rfl
 | flt b=>obtain ⟨t,e⟩:=(show ∃t,u=Value.float b t from r);cases e;rfl
 | ref a=>cases (show u=Value.ref a from r);rfl
 | ty n=>cases (show u=Value.type n from r);rfl
section
variable {P:Program}{w:World}{H H':Hp}{h h':Heap}{a C dx:Addr}{fs fs':List (Str×V)}
theorem Ij (hok:HOk P w H h)(e:H a=some (.ins C dx fs)):∃mA,ObjM h a dx C mA/\(∀f,RelO (fs.lookup f) (mA f))/\PySem.Within mA (fs.map (·.1))/\fs.length<=1000/\H dx=some (.own a):=by
 obtain ⟨d,z,ne,ob,mA,n,r,q⟩:=(show ObjOk P w H h a (.ins C dx fs) from hok a _ e);exact ⟨mA,⟨ob,n,ne⟩,r,q,z,d⟩
end
structure Cls (K:PySem.W.Frag)(C:Addr):Prop where
 pg:PySem.W.plainGet K C Str.empty=true
 hd:PySem.W.hasDictIn K C=true
 po:PySem.W.plainOver K C=true
 sa:PySem.W.findIn K (.ref C) "__setattr__" = some (some (.builtin "object.__setattr__"))
theorem Cls.get {K:PySem.W.Frag}{C:Addr}(c:Cls K C)(f:Str):PySem.W.plainGet K C f=true:=c.pg
def NoAttr (K:PySem.W.Frag)(C:Addr)(f:Str):Prop:=PySem.W.findIn K (.ref C) f=some none
theorem NoAttr.taker {f:Str}(n:NoAttr K C f):PySem.W.takerIn K C f=some none:=by
 unfold PySem.W.takerIn;rw [show PySem.W.findIn K (.ref C) f=some none from n];rfl
structure Con (K:PySem.W.Frag)(C:Addr)(f:Str)(v:V)(u:Value):Prop where
 at_:PySem.W.findIn K (.ref C) f=some (some u)
 rel:RelV v u
 get:PySem.W.specialIn K u "__get__" = some none
 cp:PySem.W.copiedNames.contains f=false
structure Meth (K:PySem.W.Frag)(C:Addr)(m:Str)(f:Addr):Prop where
 at_:PySem.W.findIn K (.ref C) m=some (some (.ref f))
 fn:PySem.W.isFn K (.ref f)=true
 kp:PySem.W.keepIn K (.ref f)=true
section
variable {X:Cx}{pins:List (Addr×Obj)}{Z:St}{H:Hp}{s:Shared}{a C dx:Addr}{fs:List (Str×V)}{f:Str}{v:V}{A:Around}{E:Value->Shared->Prop}
theorem OH {b:Bool}{Q:Value->Shared->Prop}(I:Inv X pins Z H s)(e:H a=some (.ins C dx fs))(c:Cls X.K C)(n:NoAttr X.K C f)(l:fs.lookup f=some v)
 (h:∀u s',Inv X pins Z H s'->RelV v u->Q u s'):wpAny (model X.prog X.w) A (getAttr (.ref a) f b) Q E s:=by
 obtain ⟨mA,O,r,_,_,_⟩:=Ij I.hok e;obtain ⟨u,hu,ru⟩:=RelO.some_of (v:=v) (o:=mA f) (by rw [<-l];exact r f);exact U5 I.kIn O (c.get f) c.hd n hu (Lj ru) (h u _ (I.tok _) ru)
theorem GK {m:Str}{g:Addr}{Q:Value×List Value->Shared->Prop}(I:Inv X pins Z H s)(e:H a=some (.ins C dx fs))(c:Cls X.K C)(k:Meth X.K C m g)(l:fs.lookup m=none)
 (h:Q (.ref g,[.ref a]) s):wpAny (model X.prog X.w) A (getMethod (.ref a) m pl) Q E s:=by
 obtain ⟨mA,O,r,_,_,_⟩:=Ij I.hok e;have hn:mA m=none:=RelO.none_of (by rw [<-l];exact r m);exact Sj I.kIn O (c.get m) k.at_ k.fn hn h
theorem O5 {y:V}(I:Inv X pins Z H s)(e:H a=some (.ins C dx fs))(c:Cls X.K C)(n:NoAttr X.K C f)(hl:fs.length < 1000)(ry:RelV y u)
 (h:∀s',Inv X pins Z (upd H a (.ins C dx (CV f y fs))) s'->Q () s'):wpAny (model X.prog X.w) A (setAttr (.ref a) f u) Q E s:=by
 obtain ⟨mA,O,r,wi,_,ho⟩:=Ij I.hok e;have hz:(fs.map (·.1)).length<=sizeLine:=by rw [uj3,sizeLine_eq];lia
 refine Wt I.kIn O c.sa c.po n.taker c.hd wi hz λh' O' sb=>h _ ?_;have hd:∃o,h'.get? dx=some o:=let ⟨o,_,_,e',_⟩:=O'.ns;⟨o,e'⟩;refine I.write (x:=a) (e:=dx) (by rw [e];exact True.intro) (.inr ho) (λb q hb z=>(sb.2 b hb).trans z) hd ?_;refine ⟨by rw [Ah O.ne];exact ho,?_,O.ne,O'.obj,_,O'.ns,λg=>?_,λg hg=>?_⟩
 ·have:=IK f y fs;lia
 ·show RelO ((CV f y fs).lookup g) (if g=f then some u else mA g);rw [IN]
  by_cases q:g=f
  ·rw [if_pos q,if_pos q];exact ry
  ·rw [if_neg q,if_neg q];exact r g
 ·by_cases q:g=f
  ·rw [q];exact (Ho f y fs).1
  ·refine (Ho f y fs).2 g (wi g λz=>hg ?_);show (if g=f then some u else mA g)=none;rw [if_neg q];exact z
theorem Inv.made (I:Inv X pins Z H s):Inv X pins Z (upd (upd H s.heap.objs.size (.own (s.heap.objs.size + 1))) (s.heap.objs.size + 1) (.ins C s.heap.objs.size []))
 { s with heap:=(s.heap.push PySem.W.emptyDict).push (PySem.W.instObj C s.heap.objs.size) }:=by
 have e1:(s.heap.push PySem.W.emptyDict).get? s.heap.objs.size=some PySem.W.emptyDict:=ue4 s.heap rfl;have e2:((s.heap.push PySem.W.emptyDict).push (PySem.W.instObj C s.heap.objs.size)).get? (s.heap.objs.size + 1)=some (PySem.W.instObj C s.heap.objs.size):=by
  have:=ue4 (s.heap.push PySem.W.emptyDict) (o:=PySem.W.instObj C s.heap.objs.size) rfl
  rwa [ul3] at this
 have e3:(s.heap.push PySem.W.emptyDict).Ns s.heap.objs.size (λ_=>none):=⟨PySem.W.emptyDict,#[],_,e1,rfl,(λe he=>absurd he (by simp)),λ_=>rfl⟩;have I1:=I.laid (a:=s.heap.objs.size) (o:=.own (s.heap.objs.size + 1)) (h':=s.heap.push PySem.W.emptyDict) (t':=s.toks) (λb u q=>uc3 _ q) (uo7 _) ⟨_,e1⟩;refine I1.laid (a:=s.heap.objs.size + 1) (o:=.ins C s.heap.objs.size []) (t':=s.toks) (λb u q=>uc3 _ q) (un6 (ul3 _ _)) ?_;have ne:s.heap.objs.size≠s.heap.objs.size + 1:=un2 (uh6 _);refine ⟨by rw [Ah ne,Ak],uo8 _,ne,e2,λ_=>none,(Heap.Ns1.of_empty e3).at λo q=>uc3 _ q,λ_=>True.intro,λy hy=>absurd rfl hy⟩
theorem Ny {prog:Program}{env:Env}{f:Str}{pos:Pos}{s:Shared}{Q:Value->Shared->Prop}(hb:attributeBase e f env (eval e env)=eval e env)
 (h:wpAny (model prog w) A (eval e env) (λo s₁=>wpAny (model prog w) A (getAttr o f true) Q E s₁) E s):wpAny (model prog w) A (eval (.Attribute e f pos) env) Q E s:=
 Attribute_any_ h (by rw [arm_eval_Attribute,hb])
end
def bI (K:PySem.W.Frag)(ta:TE)(f:Str):TE:=λZ H Q=>ta Z H λx H1=>∃a C dx fs v,x = .ref a/\H1 a=some (.ins C dx fs)/\Cls K C/\NoAttr K C f/\fs.lookup f=some v/\Q v H1
def bD (K:PySem.W.Frag)(ta tv:TE)(f:Str):TS:=λD Z H=>tv Z H λy H1=>ta Z H1 λx H2=>∃a C dx fs,x = .ref a/\H2 a=some (.ins C dx fs)/\Cls K C/\NoAttr K C f/\fs.length < 1000/\
 D.nx Z (upd H2 a (.ins C dx (CV f y fs)))
section
variable {X:Cx}{o e value:Expr}{f:Str}{pos pos' tpos:Pos}{ta tv:TE}
theorem Yj (he:PE X e ta)(hb:attributeBase e f X.env (eval e X.env)=eval e X.env):PE X (.Attribute e f pos) (bI X.K ta f):=by
 intro pins s Z H Q I h;refine Ny hb (thn (he pins s Z H _ I h) λu s1 z9=>?_);obtain ⟨x,H1,I1,rx,a,C,dx,fs,v,ex,ea,c,n,l,q⟩:=z9;subst ex;obtain rfl:u=Value.ref a:=rx;exact OH I1 ea c n l λu' s2 I2 ru=>⟨v,H1,I2,ru,q⟩
theorem Yv (ha:PE X o ta)(hv:PE X value tv)(hs:swapsWith value (some (.Attribute o f pos')) pos.line X.env=pure false):PS X (.Assign [.Attribute o f pos'] value pos) (bD X.K ta tv f):=by
 intro pins s Z H D I h;refine plainObj_wpAny_Assign_Attribute (thn (hv pins s Z H _ I h) λu s1 ⟨y,H1,I1,ry,q⟩=>thn (ha pins s1 Z H1 _ I1 q) λov s2 z9=>?_) hs;obtain ⟨x,H2,I2,rx,a,C,dx,fs,ex,ea,c,n,l,q2⟩:=z9;subst ex;obtain rfl:ov=Value.ref a:=rx;exact O5 I2 ea c n l ry λs3 I3=>⟨Z,_,I3,q2⟩
end
section
variable {X:Cx}{pins:List (Addr×Obj)}{Z:St}{H:Hp}{s:Shared}{A:Around}{E:Value->Shared->Prop}{Q:Value->Shared->Prop}{c:Value}{b:Bool}
inductive TyOf (K:PySem.W.Frag)(H:Hp):V->Value->Prop where
 | non:TyOf K H .non (.type "NoneType")
 | bl (x:Bool):TyOf K H (.bl x) (.type "bool")
 | int (i:Int):TyOf K H (.int i) (.type "int")
 | str (x:Str):TyOf K H (.str x) (.type "str")
 | flt (x:UInt64):TyOf K H (.flt x) (.type "float")
 | lst {a:Addr} {xs:List V} (e:H a=some (.lst xs)):TyOf K H (.ref a) (.type "list")
 | frz {a:Addr} {o:Obj} {xs:List V} (e:H a=some (.frz o (.lst xs))):TyOf K H (.ref a) (.type "list")
 | tup {a:Addr} {xs:List V} (e:H a=some (.tup xs)):TyOf K H (.ref a) (.type "tuple")
 | dK {a:Addr} {kvs:List (Key×V)} (e:H a=some (.dK kvs)):TyOf K H (.ref a) (.type "dict")
 | dT {a:Addr} {kvs:List (List Key×V)} (e:H a=some (.dT kvs)):TyOf K H (.ref a) (.type "dict")
 | ins {a C dx:Addr} {fs:List (Str×V)} (e:H a=some (.ins C dx fs)) (cl:Cls K C) (ha:PySem.W.findIn K (.ref C) "__class__" = some (some (.builtin "object.__class__")))
    (hn:PySem.W.specialIn K (.builtin "object.__class__") "__get__" = some (some (.builtin "getset_descriptor.__get__"))) (htk:PySem.W.takesIn K (.builtin "object.__class__")=some true)
    (hm:PySem.W.mroIn K C (.type "object")=some true):TyOf K H (.ref a) (.ref C)
theorem Qi {x:V}{t:Value}(I:Inv X pins Z H s)(rx:RelV x u)(ty:TyOf X.K H x t)(e:PySem.W.kitOne X.K t c=some b)(h:∀tk,Q (.bool b) { s with toks:=tk }) :
 wpAny (model X.prog X.w) A (call (.builtin "isinstance") [u,c]) Q E s:=by
 cases ty with
 | non=>cases (show u=Value.none from rx);exact uj4 PySem.W.kitx_none I.kIn True.intro e (λz=>nomatch z) h
 | bl y=>cases (show u=Value.bool y from rx);exact uj4 PySem.W.kitx_bool I.kIn True.intro e (λz=>nomatch z) h
 | int i=>obtain ⟨t,q⟩:=(show ∃t,u=Value.int i t from rx);cases q;exact uj4 PySem.W.kitx_int I.kIn True.intro e (λz=>nomatch z) h
 | str y=>obtain ⟨t,q⟩:=(show ∃t,u=Value.str y t from rx);cases q;exact uj4 PySem.W.kitx_str I.kIn True.intro e (λz=>nomatch z) h
 | flt y=>obtain ⟨t,q⟩:=(show ∃t,u=Value.float y t from rx);cases q;exact uj4 PySem.W.kitx_float I.kIn True.intro e (λz=>nomatch z) h
 | @lst a xs ea=>
   cases (show u=Value.ref a from rx)
   obtain ⟨_,_,n,_,h1⟩:=(show ObjOk X.prog X.w H s.heap a (.lst xs) from I.hok a _ ea);exact uj4 PySem.W.kitx_list I.kIn ⟨_,h1,rfl⟩ e (λz=>nomatch z) h
 | @frz a ob xs ea=>
   cases (show u=Value.ref a from rx)
   obtain ⟨_,_,_,n,_,h1⟩:=(show ObjOk X.prog X.w H s.heap a (.frz ob (.lst xs)) from I.hok a _ ea);exact uj4 PySem.W.kitx_list I.kIn ⟨_,h1,rfl⟩ e (λz=>nomatch z) h
 | @tup a xs ea=>
   cases (show u=Value.ref a from rx)
   obtain ⟨_,_,_,p⟩:=(show ObjOk X.prog X.w H s.heap a (.tup xs) from I.hok a _ ea);obtain ⟨o,h1,h2,_⟩:=p;exact uj4 PySem.W.kitx_tuple I.kIn ⟨o,h1,h2⟩ e (λz=>nomatch z) h
 | @dK a kvs ea=>
   cases (show u=Value.ref a from rx)
   obtain ⟨_,_,vs,_,p⟩:=(show ObjOk X.prog X.w H s.heap a (.dK kvs) from I.hok a _ ea);obtain ⟨o,es,ep,h1,h2,_⟩:=p;exact uj4 PySem.W.kitx_dict I.kIn ⟨o,h1,h2.1⟩ e (λz=>nomatch z) h
 | @dT a kvs ea=>
   cases (show u=Value.ref a from rx)
   obtain ⟨_,_,xs,_,o,es,ep,h1,h2,_⟩:=(show ObjOk X.prog X.w H s.heap a (.dT kvs) from I.hok a _ ea);exact uj4 PySem.W.kitx_dict I.kIn ⟨o,h1,h2.1⟩ e (λz=>nomatch z) h
 | @ins a C dx fs ea cl ha hn htk hm=>
   cases (show u=Value.ref a from rx)
   obtain ⟨mA,O,_⟩:=Ij I.hok ea;obtain ⟨od,J,_⟩:=O.look;exact uj4 (PySem.W.kitx_own (cl.get _) cl.hd ha hn htk hm) I.kIn J e (λz=>nomatch z) h
end
structure Room (k:Nat)(A:Around):Prop where
 hd:A.handled=none
 dp:A.depth + 3 * k + 5 < recursionLimit
 un:A.units + 16 * k + 200 < cLine
theorem Room.mono {j k:Nat}{A:Around}(r:Room k A)(h:j<=k):Room j A:=⟨r.hd,by have:=r.dp;lia,by have:=r.un;lia⟩
theorem Room.deeper {k:Nat}{A:Around}(r:Room (k + 1) A)(env:Env):Room k (A.deeper env):=
 ⟨r.hd,by have:=r.dp;show A.depth + 1 + 3 * k + 5 < _;lia,by have:=r.un;show A.units + 3 + 16 * k + 200 < _;lia⟩
theorem OO {A:Around}:(A.under (.builtin "type.__call__" ⟨.ref C :: us,kw⟩)).depth=A.depth + 1:=by
 first | rfl | simp [Around.under,Code.weight,Code.isCreation,Code.isGuard,Code.isCaller,Code.frames,Code.isFrame,guardIds]
theorem OP {A:Around}:(A.under (.builtin "type.__call__" ⟨.ref C :: us,kw⟩)).units=A.units + 1:=by
 first | rfl | simp [Around.under,Code.cUnits,Code.frames,Code.isFrame]
theorem Room.make {k:Nat}{A:Around}(r:Room (k + 1) A)(C:Addr)(us:List Value)(kw:List (Str×Value)):Room k (A.under (.builtin "type.__call__" ⟨.ref C :: us,kw⟩)):=
 ⟨r.hd,by have:=r.dp;rw [OO];lia,by have:=r.un;rw [OP];lia⟩
theorem Room.depth {k:Nat}{A:Around}(r:Room k A):A.depth < recursionLimit:=by have:=r.dp;lia
theorem Room.units {k:Nat}{A:Around}(r:Room k A):A.units + 64 < cLine:=by have:=r.un;lia
def Y1:TA:=λ_ H Q=>Q [] H
def Z6 (ta:TE)(tr:TA):TA:=λZ H Q=>ta Z H λx H1=>tr Z H1 λxs H2=>Q (x :: xs) H2
section
variable {X:Cx}{e:Expr}{es:List Expr}{te:TE}{t:TA}{pos:Pos}
theorem Yh:PA X [] Y1:=λ_ _ _ _ H Q I h=>Calls.spliced_nil ⟨[],H,I,.nil,h⟩
theorem VA (ha:PE X e te)(hr:PA X es t)(hs:starEach (e :: es) X.env=(false,eval e X.env) :: starEach es X.env:=by rfl):PA X (e :: es) (Z6 te t):=by
 intro pos pins s Z H Q I h;rw [hs];show wpAny _ _ (spliced ((false,eval e X.env) :: backTo pos (starEach es X.env))) _ _ s;refine Calls.spliced_cons (thn (ha pins s Z H _ I h) λu s1 z9=>?_);obtain ⟨x,H1,I1,r1,q1⟩:=z9;exact thn (hr pos pins s1 Z H1 _ I1 q1) λus s2 ⟨xs,H2,I2,r2,q2⟩=>⟨x :: xs,H2,I2,.cons r1 r2,q2⟩
def bQ (t:TA):TE:=λZ H Q=>t Z H λxs H1=>xs.length<=sizeLine/\∀p,H1 p=none->Q (.ref p) (upd H1 p (.tup xs))
def bM (t:TA):TE:=λZ H Q=>t Z H λxs H1=>xs.length<=sizeLine/\∀p,H1 p=none->Q (.ref p) (upd H1 p (.lst xs))
theorem Yp {x1}(h:PA X es t):PE X (.Tuple es x1 pos) (bQ t):=by
 intro pins s Z H Q I hq;refine wpAny_Tuple_spliced (thn (h pos pins s Z H _ I hq) λus s1 z9=>?_);obtain ⟨xs,H1,I1,r,z,q⟩:=z9;refine ⟨by rw [<-r.length];exact z,?_⟩;have hf:H1 s1.heap.objs.size=none:=I1.hok.fresh (uo7 _);refine ⟨.ref s1.heap.objs.size,upd H1 s1.heap.objs.size (.tup xs),I1.laid (t':=s1.toks) (λb u e=>uc3 _ e) (uo7 _) ?_,rfl,q _ hf⟩;exact ⟨z,us,r,⟨_,ue4 _ rfl,rfl,_,rfl⟩⟩
theorem Yl (h:PA X es t):PE X (.List es pos) (bM t):=by
 intro pins s Z H Q I hq;refine wpAny_List_spliced (thn (h pos pins s Z H _ I hq) λus s1 z9=>?_);obtain ⟨xs,H1,I1,r,z,q⟩:=z9;refine ⟨by rw [<-r.length];exact z,?_⟩;have hf:H1 s1.heap.objs.size=none:=I1.hok.fresh (uo7 _);refine ⟨.ref s1.heap.objs.size,upd H1 s1.heap.objs.size (.lst xs),I1.laid (t':=s1.toks) (λb u e=>uc3 _ e) (uo7 _) ?_,rfl,q _ hf⟩;exact ⟨z,us,0,r,ue4 _ rfl⟩
end
abbrev Sp:=List V->Hp->VK->XK->Prop
abbrev CXT:=List Env->Hp->Shared->XK->Value->Shared->Prop
structure Env0 (P:Program)(w:World)(K:PySem.W.Frag)(mg:Str->Option Value)(base:Heap)(A:Around)(outer:List Env)(s:Shared)(H:Hp):Prop where
 frames:A.frames=some outer
 mod:Mod K mg base
 bs:∀b o,base.get? b=some o->s.heap.get? b=some o/\H b=none
 bsz:base.objs.size<=s.heap.objs.size
 funs:s.heap.FunFrames base outer
 frf:∀b∈frs outer,H b=none
 hok:HOk P w H s.heap
 bare:AllBare s.gens
def CE (outer:List Env)(P:Program)(w:World)(H:Hp)(s:Shared)(Q:VK)(u:Value)(s':Shared):Prop:=
 ∃v H',s'.os=s.os/\AllBare s'.gens/\Un (frs outer) [] H H' s.heap s'.heap/\HOk P w H' s'.heap/\RelV v u/\Q v H'
def CR (CX:CXT)(outer:List Env)(P:Program)(w:World)(H:Hp)(s:Shared)(Q:VK)(E:XK)(r:Result)(s':Shared):Prop:=
 match r with
 | .ok (.ret u)=>CE outer P w H s Q u s'
 | .ok _=>False
 | .error e=>CX outer H s E e s'
structure FnOk (P:Program)(w:World)(K:PySem.W.Frag)(mg:Str->Option Value)(base:Heap)(CX:CXT)(k:Nat)(f:Addr)(fd:FuncData)(ps:List Str)(sp:Sp):Prop where
 len:∀vs H Q E,sp vs H Q E->vs.length=ps.length
 run:∀(A:Around) (outer:List Env) (s:Shared) (H:Hp) (args:Args) (us:List Value) (vs:List V) (Q:VK) (E:XK),Room k A->Env0 P w K mg base A outer s H->BindsTo s fd args (ps.zip us)->Vals vs us->sp vs H Q E->
  codeAny (model P w) A (.call (.ref f) args) (CR CX outer P w H s Q E) s
theorem FnOk.mono {P:Program}{w:World}{K:PySem.W.Frag}{mg:Str->Option Value}{base:Heap}{CX:CXT}{j k:Nat}{f:Addr}{fd:FuncData}{ps:List Str}{sp:Sp}(F:FnOk P w K mg base CX j f fd ps sp)(h:j<=k) :
 FnOk P w K mg base CX k f fd ps sp:=⟨F.len,λA outer s H args us vs Q E hr=>F.run A outer s H args us vs Q E (hr.mono h)⟩
variable {mg:Str->Option Value}{base:Heap}
theorem Env0.make {A:Around}{outer:List Env}(e:Env0 P w K mg base A outer s H)(C:Addr)(us:List Value)(kw:List (Str×Value)) :
 Env0 P w K mg base (A.under (.builtin "type.__call__" ⟨.ref C :: us,kw⟩)) outer s H:=⟨by first | exact e.frames | (simpa [Around.under,Code.envs,Code.isFrame,pushEnvs] using e.frames),e.mod,e.bs,e.bsz,e.funs,e.frf,e.hok,e.bare⟩
section
variable {X:Cx}{pins:List (Addr×Obj)}{Z:St}{H:Hp}{s s':Shared}
theorem Inv.env0 (I:Inv X pins Z H s):Env0 X.prog X.w X.K X.mg X.base X.A X.stack s H:=
 ⟨I.ok.frames,I.ok.mod,I.bs,un3 I.ok.bsz I.sz,I.stack,I.stkFree,I.hok,I.bare⟩
theorem Inv.after {Q:VK}(I:Inv X pins Z H s)(h:CE X.stack X.prog X.w H s Q u s'):EP X pins Z Q u s':=by
 obtain ⟨v,H',os,bare,un,hok,r,q⟩:=h;obtain ⟨hh,g,d,t,os'⟩:=s';obtain rfl:os'=s.os:=os;exact ⟨v,H',I.call (h':=hh) (g':=g) (d':=d) (t':=t) (ch:=[]) un hok bare (λb z=>absurd z (by simp)),r,q⟩
end
def Z5 (sp:Sp)(dvs:List V)(E:XK)(t:TA):TE:=λZ H Q=>t Z H λvs H1=>sp (vs++dvs) H1 Q E
def Ui (C:Addr)(m:Str)(sp:Sp)(dvs:List V)(E:XK)(ta:TE)(t:TA):TE:=λZ H Q=>ta Z H λx H1=>∃a dx fs,x = .ref a/\H1 a=some (.ins C dx fs)/\fs.lookup m=none/\
 t Z H1 λvs H2=>sp (x :: (vs++dvs)) H2 Q E
def Z8 (C:Addr)(sp:Sp)(dvs:List V)(E:XK)(t:TA):TE:=λZ H Q=>t Z H λvs H1=>∀x dx,H1 x=none->H1 dx=none->dx≠x->
 sp (.ref x :: (vs++dvs)) (upd (upd H1 dx (.own x)) x (.ins C dx [])) (λv H2=>v = .non/\Q (.ref x) H2) E
def Binds (K:PySem.W.Frag)(fd:FuncData)(ps:List Str)(ds:List Value):Prop:=
 ∀(s:Shared) (us:List Value),K.In s.heap->(us++ds).length=ps.length->BindsTo s fd ⟨us,[]⟩ (ps.zip (us++ds))
theorem Binds.all {fd:FuncData}{ps:List Str}(h:∀us:List Value,us.length=ps.length->bindArgs fd ⟨us,[]⟩=pure (ps.zip us)):Binds K fd ps []:=λs us _ hl=>by
 rw [uj5] at hl ⊢;exact .of_eq (h us hl)
def Fs (CX:CXT)(X:Cx)(E:XK):Prop:=∀(pins:List (Addr×Obj)) (Z:St) (H:Hp) (s:Shared) (e:Value) (s':Shared),Inv X pins Z H s->CX X.stack H s E e s'->X.xe e s'
variable {vs:List V}
section
variable {X:Cx}{CX:CXT}{k:Nat}{f C:Addr}{fd:FuncData}{ps:List Str}{sp:Sp}{dvs:List V}{ds:List Value}{E:XK}{x m:Str}{p pos apos:Pos}{e o:Expr}{es:List Expr}{ta:TE}{t:TA}
theorem M1 {Q:VK}(F:FnOk X.prog X.w X.K X.mg X.base CX k f fd ps sp)(hr:Room k X.A)(hb:Binds X.K fd ps ds)(hd:Vals dvs ds)(hx:Fs CX X E)
 (I:Inv X pins Z H s) (r:Vals vs us) (h:sp (vs++dvs) H Q E):wpAny (model X.prog X.w) X.A (call (.ref f) us) (EP X pins Z Q) X.xe s:=by
 have r2:Vals (vs++dvs) (us++ds):=r.append hd;have hl:(us++ds).length=ps.length:=by rw [<-r2.length];exact F.len _ _ _ _ h
 refine wpAny_call (codeAny_mono (F.run X.A X.stack s H ⟨us,[]⟩ (us++ds) (vs++dvs) Q E hr I.env0 (hb s us I.kIn hl) r2 h) λr s' hq=>?_)
 cases r with
 | error e=>exact hx pins Z H s e s' I hq
 | ok fl=>
   cases fl with
   | ret u=>exact I.after hq
   | next=>exact False.elim hq
   | brk=>exact False.elim hq
   | cont=>exact False.elim hq
theorem NZ (F:FnOk X.prog X.w X.K X.mg X.base CX k f fd ps sp)(hr:Room k X.A)(hg:Gl X x)(hm:X.mg x=some (.ref f))(hk:PySem.W.keepIn X.K (.ref f)=true)(hb:Binds X.K fd ps ds)(hd:Vals dvs ds)(hx:Fs CX X E)
 (ha:PA X (e :: es) t) (hdb:(x == ("__debug__" : Str))=false:=by decide) (he:starEach (e :: es) X.env=(false,eval e X.env) :: starEach es X.env:=by rfl) (hpl:(backTo pos (starEach es X.env)).any (·.1)=false:=by rfl) :
 PE X (.Call (.Name x p) (e :: es) [] pos) (Z5 sp dvs E t):=by
 intro pins s Z H Q I h;refine wpAny_Call_Name_kw (CB I hg hm ?_ hdb);refine uf5 (h₀:=X.base) I.ok.mod.kin hk (thn (ha pos pins s Z H _ I h) λus s1 z9=>?_) he hpl;obtain ⟨vs,H1,I1,r,q⟩:=z9;refine ⟨I1.kIn,?_⟩;exact M1 F hr hb hd hx I1 r q
theorem VI (he:PE X o ta)(c:Cls X.K C)(hm:Meth X.K C m f)(F:FnOk X.prog X.w X.K X.mg X.base CX k f fd ps sp)(hr:Room k X.A)(hb:Binds X.K fd ps ds)(hd:Vals dvs ds)(hx:Fs CX X E)(ha:PA X (e :: es) t)
 (hst:starEach (e :: es) X.env=(false,eval e X.env) :: starEach es X.env:=by rfl) (hpl:(backTo pos (starEach es X.env)).any (·.1)=false:=by rfl)
 (ht:eval (.Call (.Attribute o m apos) (e :: es) [] pos) X.env=(do
   let ov <-eval o X.env
   standAt apos.atName
   let (f,first) <-holding [ov] (getMethod ov m pl)
   callWith pos f first (backTo pos (starEach (e :: es) X.env)) (backToKw pos (keywordEach [] X.env))):=by rfl) :
 PE X (.Call (.Attribute o m apos) (e :: es) [] pos) (Ui C m sp dvs E ta t):=by
 intro pins s Z H Q I h;refine ud2 (pl:=pl) (thn (he pins s Z H _ I h) λu s1 z9=>?_) ht;obtain ⟨x,H1,I1,rx,a,dx,fs,ex,ea,l,q⟩:=z9;subst ex;obtain rfl:u=Value.ref a:=rx;refine GK I1 ea c hm l ?_;refine uf5 (first:=[.ref a]) (h₀:=X.base) I.ok.mod.kin hm.kp (thn (ha pos pins s1 Z H1 _ I1 q) λus s2 z9=>?_) hst hpl;obtain ⟨vs,H2,I2,r,q2⟩:=z9;refine ⟨I2.kIn,?_⟩;exact M1 (us:=.ref a :: us) (vs:=.ref a :: vs) F hr hb hd hx I2 (.cons rfl r) q2
theorem SW (he:PE X o ta)(c:Cls X.K C)(hm:Meth X.K C m f)(F:FnOk X.prog X.w X.K X.mg X.base CX k f fd ps sp)(hr:Room k X.A)(hb:Binds X.K fd ps ds)(hd:Vals dvs ds)(hx:Fs CX X E)
 (ht:eval (.Call (.Attribute o m apos) [] [] pos) X.env=(do
   let ov <-eval o X.env
   standAt apos.atName
   let (f,first) <-holding [ov] (getMethod ov m pl)
   callWith pos f first (backTo pos (starEach [] X.env)) (backToKw pos (keywordEach [] X.env))):=by rfl) :
 PE X (.Call (.Attribute o m apos) [] [] pos) (Ui C m sp dvs E ta Y1):=by
 intro pins s Z H Q I h;refine ud2 (pl:=pl) (thn (he pins s Z H _ I h) λu s1 z9=>?_) ht;obtain ⟨x,H1,I1,rx,a,dx,fs,ex,ea,l,q⟩:=z9;subst ex;obtain rfl:u=Value.ref a:=rx;refine GK I1 ea c hm l ?_;exact PySem.W.callWith_K0 (first:=[.ref a]) I1.kIn hm.kp (M1 (us:=[.ref a]) (vs:=[.ref a]) F hr hb hd hx I1 (.cons rfl .nil) q)
structure Mk (K:PySem.W.Frag)(C f:Addr):Prop where
 makes:PySem.W.makesIn K C=true
 init:PySem.W.findIn K (.ref C) "__init__" = some (some (.ref f))
 fn:PySem.W.isFn K (.ref f)=true
 kp:PySem.W.keepIn K (.ref C)=true
theorem Tp {Q:VK}(M:Mk X.K C f)(F:FnOk X.prog X.w X.K X.mg X.base CX k f fd ps sp)(hr:Room (k + 1) X.A)(hb:Binds X.K fd ps ds)(hd:Vals dvs ds)
 (hx:Fs CX X E) (I:Inv X pins Z H s) (r:Vals vs us)
 (h:∀x dx,H x=none->H dx=none->dx≠x->sp (.ref x :: (vs++dvs)) (upd (upd H dx (.own x)) x (.ins C dx [])) (λv H2=>v = .non/\Q (.ref x) H2) E) :
 wpAny (model X.prog X.w) X.A (call (.ref C) us) (EP X pins Z Q) X.xe s:=by
 have hq:=h (s.heap.objs.size + 1) s.heap.objs.size (I.hok.fresh (uo9 _)) (I.hok.fresh (uo7 _)) (un2 (uh6 _));have I2:=Inv.made (C:=C) I;have r2:Vals (V.ref (s.heap.objs.size + 1) :: (vs++dvs)) (Value.ref (s.heap.objs.size + 1) :: (us++ds)):=.cons rfl (r.append hd);have hl:(Value.ref (s.heap.objs.size + 1) :: us++ds).length=ps.length:=by
  have e:=r2.length;rw [F.len _ _ _ _ hq] at e;exact e.symm
 refine wpAny_call (SD (f:=f) I.kIn M.makes M.init (beq_iff_eq.mp M.fn) (codeAny_mono (F.run _ X.stack _ _ ⟨Value.ref (s.heap.objs.size + 1) :: us,[]⟩ (Value.ref (s.heap.objs.size + 1) :: (us++ds)) _ _ E (hr.make C us [])
  (I2.env0.make C us []) (hb _ (Value.ref (s.heap.objs.size + 1) :: us) I2.kIn hl) r2 hq) λr s' hq'=>?_))
 cases r with
 | error e=>exact hx pins Z _ _ e s' I2 hq'
 | ok fl=>
   cases fl with
   | ret u=>
     obtain ⟨v,H',I3,rv,ev,q3⟩:=I2.after hq';subst ev;exact ⟨rv,⟨V.ref (s.heap.objs.size + 1),H',I3,rfl,q3⟩⟩
   | next=>exact False.elim hq'
   | brk=>exact False.elim hq'
   | cont=>exact False.elim hq'
theorem VH (M:Mk X.K C f)(F:FnOk X.prog X.w X.K X.mg X.base CX k f fd ps sp)(hr:Room (k + 1) X.A)(hg:Gl X x)(hm:X.mg x=some (.ref C))(hb:Binds X.K fd ps ds)(hd:Vals dvs ds)(hx:Fs CX X E)
 (ha:PA X (e :: es) t) (hdb:(x == ("__debug__" : Str))=false:=by decide) (he:starEach (e :: es) X.env=(false,eval e X.env) :: starEach es X.env:=by rfl) (hpl:(backTo pos (starEach es X.env)).any (·.1)=false:=by rfl) :
 PE X (.Call (.Name x p) (e :: es) [] pos) (Z8 C sp dvs E t):=by
 intro pins s Z H Q I h;refine wpAny_Call_Name_kw (CB I hg hm ?_ hdb);refine uf5 (h₀:=X.base) I.ok.mod.kin M.kp (thn (ha pos pins s Z H _ I h) λus s1 z9=>?_) he hpl;obtain ⟨vs,H1,I1,r,q⟩:=z9;refine ⟨I1.kIn,?_⟩;exact Tp M F hr hb hd hx I1 r q
end
section
variable {X:Cx}{CX:CXT}{k:Nat}{f C:Addr}{fd:FuncData}{ps ks:List Str}{sp:Sp}{E:XK}{x m:Str}{p pos apos kpos:Pos}{e o:Expr}{es:List Expr}{kws:List Keyword}{te ta:TE}{t tk:TA}{nm:Option Str}
structure KBinds (K:PySem.W.Frag)(fd:FuncData)(ps ks:List Str)(g:List Value->List Value->List Value)(gV:List V->List V->List V):Prop where
 to:∀(s:Shared) (us ws:List Value),K.In s.heap->(g us ws).length=ps.length->BindsTo s fd ⟨us,ks.zip ws⟩ (ps.zip (g us ws))
 rel:∀{vs:List V} {us:List Value} {zs:List V} {ws:List Value},Vals vs us->Vals zs ws->Vals (gV vs zs) (g us ws)
variable {g:List Value->List Value->List Value}{gV:List V->List V->List V}
end
structure FnScope (N P:List Str)(sc:Scope):Prop where
 kind:sc.kind = .function
 co:sc.isCoroutine=false
 gen:sc.isGenerator=false
 nd:N.Nodup
 pre:N.take P.length=P
 par:∀x∈P,sc.names.lookup x=some .local\/sc.names.lookup x=some .cell
 nofree:∀y∈sc.names,y.2≠.free
theorem Lc {kindOf:Str->Option NameKind}{x:Str}:∀{binds:List (Str×Value)} {m:Str->Option Value},(∀v,(x,v)∉binds)->bindL kindOf binds m x=m x
 | [],_,_=>rfl
 | (n,v) :: r,m,h=>by
   unfold bindL;rw [Lc λw hw=>h w (ud9 _ hw)]
   split
   ·have:x≠n:=by rintro rfl;exact h v uf2
    simp [this]
   ·rfl
theorem La {kindOf:Str->Option NameKind}{x:Str}:∀{binds:List (Str×Value)} {m:Str->Option Value},(∀v,(x,v)∉binds)->bindC kindOf binds m x=m x
 | [],_,_=>rfl
 | (n,v) :: r,m,h=>by
   unfold bindC;rw [La λw hw=>h w (ud9 _ hw)]
   split
   ·rfl
   ·have:x≠n:=by rintro rfl;exact h v uf2
    simp [this]
theorem Lb {kindOf:Str->Option NameKind}{x:Str}{v:Value}:∀{P:List Str} {vs:List Value} {i:Nat} {m:Str->Option Value},P.Nodup->P[i]?=some x->vs[i]?=some v->kindOf x=some .local->
 bindL kindOf (P.zip vs) m x=some v
 | [],_,_,_,_,h,_,_=>by simp at h
 | _ :: _,[],_,_,_,_,h,_=>by simp at h
 | p :: P,w :: vs,0,m,nd,h1,h2,hk=>by
   simp at h1 h2;subst h1;subst h2;show bindL kindOf ((p,w) :: P.zip vs) m p=_;unfold bindL;rw [Lc λv hv=>(uj6.mp nd).1 (uj7 hv).1,if_pos hk];simp
 | p :: P,w :: vs,i + 1,m,nd,h1,h2,hk=>by
   show bindL kindOf ((p,w) :: P.zip vs) m x=_;unfold bindL;exact Lb (i:=i) (uj6.mp nd).2 (by simpa using h1) (by simpa using h2) hk
theorem K9 {kindOf:Str->Option NameKind}{x:Str}{v:Value}:∀{P:List Str} {vs:List Value} {i:Nat} {m:Str->Option Value},P.Nodup->P[i]?=some x->vs[i]?=some v->kindOf x≠some .local->
 bindC kindOf (P.zip vs) m x=some v
 | [],_,_,_,_,h,_,_=>by simp at h
 | _ :: _,[],_,_,_,_,h,_=>by simp at h
 | p :: P,w :: vs,0,m,nd,h1,h2,hk=>by
   simp at h1 h2;subst h1;subst h2;show bindC kindOf ((p,w) :: P.zip vs) m p=_;unfold bindC;rw [La λv hv=>(uj6.mp nd).1 (uj7 hv).1,if_neg hk];simp
 | p :: P,w :: vs,i + 1,m,nd,h1,h2,hk=>by
   show bindC kindOf ((p,w) :: P.zip vs) m x=_;unfold bindC;exact K9 (i:=i) (uj6.mp nd).2 (by simpa using h1) (by simpa using h2) hk
noncomputable def start (N:List Str)(vs:List V):St:=vs.map some++List.replicate (N.length - vs.length) none
noncomputable def Dl (CX:CXT)(P:Program)(w:World)(K:PySem.W.Frag)(mg:Str->Option Value)(base:Heap)(N:List Str)(qual:Str)(scope:Scope)(f:Addr)(cd:Value)(A:Around)(outer:List Env)(s:Shared)(H:Hp)(E:XK):Cx where
 prog:=P
 w:=w
 K:=K
 mg:=mg
 base:=base
 A:=A.deeper (envOfC qual scope s.heap.objs.size f cd)
 N:=N
 s₀:=s
 H₀:=H
 env:=envOfC qual scope s.heap.objs.size f cd
 outer:=outer
 stack:=envOfC qual scope s.heap.objs.size f cd :: outer
 ex:=[]
 calm:=true
 fn:=λ_=>true
 pn:=[]
 xe:=λe s'=>wpAny (model P w) (A.deeper (envOfC qual scope s.heap.objs.size f cd)) (leaving (envOfC qual scope s.heap.objs.size f cd) e) (λ_ s''=>CX outer H s E e s'') (λe' s''=>CX outer H s E e' s'') s'
theorem Mi {sc:Scope}{n:Nat}(h:sc.names.lookup x=some .cell):∃c,(cellsFrom n sc.names []).lookup x=some c:=by
 have q:=uc4 sc.names n [] (.inl h);exact Option.isSome_iff_exists.mp q
theorem Lk {CX:CXT}{N ps:List Str}{qual:Str}{scope:Scope}{f:Addr}{cd:Value}{A:Around}{outer:List Env}{s1:Shared}{E:XK}
 (S:FnScope N ps scope) (hd:A.handled=none) (e0:Env0 P w K mg base A outer s H) (hl:vs.length=ps.length) (r:Vals vs us)
 (x:InCallC s s.heap.objs.size (bindL (envOfC qual scope s.heap.objs.size f cd).kindOf (ps.zip us) λ_=>none) (cellsFrom (s.heap.objs.size + 1) scope.names []) (bindC (envOfC qual scope s.heap.objs.size f cd).kindOf (ps.zip us) λ_=>none) s1) :
 Inv (Dl CX P w K mg base N qual scope f cd A outer s H E) [] (start N vs) H s1:=by
 have hpl:ps.length<=N.length:=by have:=congrArg List.length S.pre;rw [uh7] at this;lia
 obtain ⟨h1,tk,rfl,hk⟩:=x.done;have noA:∀b:Addr,b∉(Dl CX P w K mg base N qual scope f cd A outer s H E).ex:=λb z=>absurd (show b∈([]:List Addr) from z) (by simp);refine ⟨⟨e0.mod,S.kind,rfl,rfl,uo7 _,λy z c h1 h2=>?_,λy hy=>?_,λy c _ h=>?_,λ_=>hd,Around.frames_deeper e0.frames,.inr ⟨rfl,rfl⟩,λb z=>absurd z (noA b),e0.bs,e0.bsz,λb _ _=>noA b,λb z=>absurd z (noA b),e0.funs,e0.frf⟩,
  rfl,e0.bare,Un.kept hk,⟨_,x.toInCall.ns,λi y v h1 h2 h3=>?_⟩,λy c h=>⟨_,x.cell y c h⟩,e0.hok.fresh (uo7 _),λy c h=>?_,λp hp=>absurd (show p∈([]:List (Addr×Obj)) from hp) (by simp),e0.hok.kept hk,?_⟩
 ·exact name_of_addr x.apart (PySem.mem_of_lookup h1) (PySem.mem_of_lookup h2)
 ·have hy:scope.names.lookup y=some .cell\/scope.names.lookup y=some .free:=hy;rcases hy with hy | hy
  ·exact Mi hy
  ·exact absurd rfl (S.nofree _ (PySem.mem_of_lookup hy))
 ·exact un4 (x.above y c (PySem.mem_of_lookup h))
 ·have hi:i < vs.length:=by
   unfold start at h2
   by_cases hi:i < vs.length
   ·exact hi
   ·rw [ua6 (by simpa using hi)] at h2;rw [ub8] at h2
    split at h2 <;> cases h2
  have ha:vs[i]?=some v:=by
   unfold start at h2;rw [ub2 (by simpa using hi),ug3] at h2
   cases e:vs[i]? with
   | none=>rw [e] at h2;cases h2
   | some a=>rw [e] at h2;cases h2;rfl
  obtain ⟨u,hu,rv⟩:=r.get ha;have hp:ps[i]?=some y:=by
   rw [<-S.pre,List.getElem?_take_of_lt (by lia)];exact h1
  have ndP:ps.Nodup:=by rw [<-S.pre];exact S.nd.sublist (List.take_sublist _ _)
  refine ⟨u,rv,?_⟩;rcases S.par y (ue1 hp) with k | k
  ·exact .inl ⟨k,Lb ndP hp hu k⟩
  ·obtain ⟨c,e⟩:=Mi (n:=s.heap.objs.size + 1) k;refine .inr ⟨.inl k,c,e,?_⟩;have q:=x.cell y c e;rw [K9 ndP hp hu (by show scope.names.lookup y≠_;rw [k];decide)] at q;exact q
 ·exact e0.hok.fresh (un4 (x.above y c (PySem.mem_of_lookup h)))
 ·unfold start;show _=N.length;rw [uf6,uj3,ud3];lia
theorem T4 {CX:CXT}{k:Nat}{f:Addr}{name qual:Str}{params:Arguments}{body:List Stmt}{scope:Scope}{dV kV doc pm cdv ct oc:Value}{an od:Option Addr}
 {osl:Array (Option Value)} {N ps:List Str} {sp:Sp} (lk:K.lookup f=some ⟨oc,od,.func (PySem.W.fnOf name qual params body scope dV kV doc pm an cdv ct),osl⟩) (hcd:PySem.W.codeIn K cdv qual=true) (S:FnScope N ps scope)
 (len:∀vs H Q E,sp vs H Q E->vs.length=ps.length)
 (hbody:∀(A:Around) (outer:List Env) (s:Shared) (H:Hp) (vs:List V) (Q:VK) (E:XK),Room k (A.deeper (envOfC qual scope s.heap.objs.size f cdv))->sp vs H Q E->
   ∃t,PSs (Dl CX P w K mg base N qual scope f cdv A outer s H E) body t/\t { nx:=λ_ H'=>Q .non H',rt:=Q } (start N vs) H) :
 FnOk P w K mg base CX (k + 1) f (PySem.W.fnOf name qual params body scope dV kV doc pm an cdv ct) ps sp:=by
 refine ⟨len,λA outer s H args us vs Q E hr e0 hb r hsp=>?_⟩;have hl:=len _ _ _ _ hsp;have KX:K.In s.heap:=e0.mod.kin.keeps λb o e=>(e0.bs b o e).1;have lim:s.heap.NoLimit:=e0.mod.nolimit.keeps λb o e=>(e0.bs b o e).1;have hkind:∀y∈ps.zip us,scope.names.lookup y.1=some .local\/(scope.names.lookup y.1=some .cell/\((cellsFrom (s.heap.objs.size + 1) scope.names []).lookup y.1).isSome=true):=λz9 hy=>by
  obtain ⟨n,v⟩:=z9;rcases S.par n (uj7 hy).1 with q | q
  ·exact .inl q
  ·exact .inr ⟨q,uc4 _ _ _ (.inl q)⟩
 refine codeAny_call_function hr.depth (KX _ _ lk) rfl S.co S.gen rfl (PySem.W.codeRec_of KX hcd) (hb _ _ _ _ ?_);refine wpAny_newFunctionEnv_cells S.kind hkind λenv he s1 x=>?_;subst he;refine ⟨lim.keeps x.toInCall.keep,codeAny_func ?_⟩;obtain ⟨t,ht,hq⟩:=hbody A outer s H vs Q E (hr.deeper _) hsp;have I:Inv (Dl CX P w K mg base N qual scope f cdv A outer s H E) [] (start N vs) H s1:=Lk S hr.hd e0 hl r x;refine up3 (ht [] s1 (start N vs) H _ I hq) (λfl s' hs=>?_) λe s' hs=>hs;have fin:∀{Z':St} {H':Hp} {v:V} {u:Value},Inv (Dl CX P w K mg base N qual scope f cdv A outer s H E) [] Z' H' s'->RelV v u->Q v H'->CE outer P w H s Q u s':=
  λ{Z' H' v u} J rv q=>⟨v,H',J.os,J.bare,J.base,J.hok,rv,q⟩
 cases fl with
 | ret u=>
   obtain ⟨v,Z',H',J,rv,q⟩:=hs;exact fin J rv q
 | next=>
   obtain ⟨Z',H',J,q⟩:=hs;exact fin (v:=V.non) (u:=Value.none) J rfl q
 | brk=>
   obtain ⟨_,_,_,q⟩:=hs;exact False.elim q
 | cont=>
   obtain ⟨_,_,_,q⟩:=hs;exact False.elim q
section
variable {X:Cx}{x:Str}{p pos:Pos}{e:Expr}{es:List Expr}{t:TA}{id T:String}{r:List V->Hp->VK->Prop}
def tCB (r:List V->Hp->VK->Prop)(t:TA):TE:=λZ H Q=>t Z H λvs H1=>r vs H1 Q
theorem SR (hc:Ch X (.builtin id) r)(hg:Gl X x)(hm:X.mg x=none)(hv:bootBuiltins x=some (.builtin id))(ha:PA X (e :: es) t)(hn:x≠"__name__":=by decide)(hdb:(x == ("__debug__" : Str))=false:=by decide)
 (he:starEach (e :: es) X.env=(false,eval e X.env) :: starEach es X.env:=by rfl) (hpl:(backTo pos (starEach es X.env)).any (·.1)=false:=by rfl):PE X (.Call (.Name x p) (e :: es) [] pos) (tCB r t):=by
 intro pins s Z H Q I h;refine wpAny_Call_Name_kw (Gk I hg hm hv ?_ hn hdb);exact PyProof.Rows.callWith_builtin1 (thn (ha pos pins s Z H _ I h) λus s1 z9=>by obtain ⟨vs,H1,I1,r1,q1⟩:=z9;exact hc pins s1 Z H1 vs us Q I1 r1 q1) he hpl
theorem HB (hc:Ch X (.type T) r)(hg:Gl X x)(hm:X.mg x=none)(hv:bootBuiltins x=some (.type T))(ha:PA X (e :: es) t)(hn:x≠"__name__":=by decide)(hdb:(x == ("__debug__" : Str))=false:=by decide)
 (he:starEach (e :: es) X.env=(false,eval e X.env) :: starEach es X.env:=by rfl) (hpl:(backTo pos (starEach es X.env)).any (·.1)=false:=by rfl):PE X (.Call (.Name x p) (e :: es) [] pos) (tCB r t):=by
 intro pins s Z H Q I h;refine wpAny_Call_Name_kw (Gk I hg hm hv ?_ hn hdb);exact ua3 (thn (ha pos pins s Z H _ I h) λus s1 z9=>by obtain ⟨vs,H1,I1,r1,q1⟩:=z9;exact hc pins s1 Z H1 vs us Q I1 r1 q1) he hpl
end
end L2
namespace HT
open PySem PyProof.Rows
section
open PySem.SeqAt
open PySem.AutoSeq1 (wpAny_loadPart')
open PySem.MeetsSeq PySem.MeetsSeq2 PySem.MeetsSeq3
end
section
variable {prog:Program}{w:World}{A:Around}{E:Value->Shared->Prop}{s:Shared}
noncomputable def sIx (n d:Nat):Option Int->Nat
 | none=>d
 | some v=>if v < 0 then (v + (n:Int)).toNat else min v.toNat n
theorem M2 (n d:Nat):sIx n d none=d:=rfl
theorem K3 (n d k:Nat):sIx n d (some (k:Int))=min k n:=by
 show (if (k:Int) < 0 then ((k:Int) + (n:Int)).toNat else min (k:Int).toNat n)=min k n;rw [if_neg (by lia),ug4]
theorem db (n d:Nat)(hd:d<=n)(o:Option Int):sIx n d o<=n:=by
 cases o with
 | none=>exact hd
 | some v=>
   show (if v < 0 then (v + (n:Int)).toNat else min v.toNat n)<=n
   by_cases hv:v < 0
   ·rw [if_pos hv];lia
   ·rw [if_neg hv];exact Nat.min_le_right _ _
theorem NA (v:Int)(n d:Nat):(if v < 0 then max (v + (n:Int)) 0 else min v (n:Int))=((sIx n d (some v):Nat):Int):=by
 show (if v < 0 then max (v + (n:Int)) 0 else min v (n:Int))=(((if v < 0 then (v + (n:Int)).toNat else min v.toNat n):Nat):Int)
 by_cases hv:v < 0
 ·simp only [if_pos hv];lia
 ·simp only [if_neg hv];lia
theorem Os (lo hi:Option Int)(n:Nat):Builtin.Slice.sliceAdjust lo hi 1 (n:Int)=(((sIx n 0 lo:Nat):Int),((sIx n n hi:Nat):Int)):=by
 have h1:¬((1:Int) < 0):=by lia
 unfold Builtin.Slice.sliceAdjust;simp only [h1,if_false];refine Prod.ext ?_ ?_
 ·cases lo with
  | none=>rfl
  | some v=>exact NA v n 0
 ·cases hi with
  | none=>rfl
  | some v=>exact NA v n n
theorem OX (i j:Nat):Builtin.Slice.slicePlaces (i:Int) (j:Int) 1=j - i:=by
 unfold Builtin.Slice.slicePlaces;have h1:(1:Int) > 0:=by lia
 simp only [h1,if_true,Int.ediv_one]
 split <;> lia
theorem Ki {v:Value}{o:Option Int}{Q:Option Int->Shared->Prop}(p:IsPart v o)(h:Q o s):wpAny (model prog w) A (Builtin.Slice.slicePartIndex v) Q E s:=by
 cases p with
 | none=>exact slicePart_none h
 | int i t=>exact slicePart_int h
theorem Tw {sl:Addr}{vl vu:Value}{lo hi:Option Int}{n:Nat}{Q:Int×Int×Nat->Shared->Prop}(hs:s.heap.IsSliceOf sl vl vu .none)(pl:IsPart vl lo)(pu:IsPart vu hi)
 (h:Q (((sIx n 0 lo:Nat):Int),1,sIx n n hi - sIx n 0 lo) s):wpAny (model prog w) A (Builtin.Slice.sliceApplied (.ref sl) (pure (n:Int))) Q E s:=by
 obtain ⟨os,hos,hcs,hds⟩:=id hs;unfold Builtin.Slice.sliceApplied Builtin.Slice.sliceFields;refine up1 (up1 (up0 hos hds (x:=vl) rfl (up1 (up0 hos hds (x:=vu) rfl (up1 (up0 hos hds (x:=.none) rfl (up2 ?_)))))));refine up1 (slicePart_none ?_);show wpAny _ _ (if ((1:Int) == 0)=true then _ else _) _ _ s;rw [if_neg (by decide)];refine up1 (Ki pl (up1 (Ki pu (up1 (up2 ?_)))));show wpAny _ _ (match Builtin.Slice.sliceAdjust lo hi 1 (n:Int) with | (lo,hi)=>pure (lo,(1:Int),Builtin.Slice.slicePlaces lo hi 1)) _ _ s;rw [Os lo hi n];show wpAny _ _ (pure (((sIx n 0 lo:Nat):Int),(1:Int),Builtin.Slice.slicePlaces ((sIx n 0 lo:Nat):Int) ((sIx n n hi:Nat):Int) 1)) _ _ s;rw [OX];exact up2 h
theorem bC (xs:Array Value)(i k:Nat):((List.range k).filterMap λ(m:Nat)=>xs[((i:Int) + (m:Int) * 1).toNat]?).toArray=((xs.toList.drop i).take k).toArray:=by
 have e:(λ(m:Nat)=>xs[((i:Int) + (m:Int) * 1).toNat]?)=λm=>xs[i + m]?:=by
  funext m
  have:((i:Int) + (m:Int) * 1).toNat=i + m:=by lia
  rw [this]
 rw [e];have:=pick_run xs i k;rw [List.filterMap_map] at this;have e2:((λx=>xs[x]?) ∘ λx=>i + x)=λm=>xs[i + m]?:=rfl;rw [e2] at this;rw [this]
end
end HT
namespace L2
open PySem PySem.Spec PyProof.Rows
abbrev TO:=St->Hp->(Option Int->Hp->Prop)->Prop
def PO (X:Cx)(e:Option Expr)(t:TO):Prop:=
 ∀(pins:List (Addr×Obj)) (s:Shared) (Z:St) (H:Hp) (Q:Option Int->Hp->Prop),Inv X pins Z H s->t Z H Q->
  wpAny (model X.prog X.w) X.A (evalPart e X.env) (λu s'=>∃o H',Inv X pins Z H' s'/\IsPart u o/\Q o H') X.xe s
def Wz:TO:=λ_ H Q=>Q none H
def ac (t:TE):TO:=λZ H Q=>t Z H λx H1=>∃i,x = .int i/\Q (some i) H1
section
variable {X:Cx}{e:Expr}{te:TE}{lo hi:Option Expr}{tl th:TO}{pos p2:Pos}
theorem VQ:PO X none Wz:=by
 intro pins s Z H Q I h;rw [evalPart_none];exact up2 ⟨none,H,I,.none,h⟩
theorem VR (h:PE X e te):PO X (some e) (ac te):=by
 intro pins s Z H Q I hw;rw [evalPart_some];refine thn (h pins s Z H _ I hw) λu s1 z9=>?_;obtain ⟨x,H1,I1,r1,q1⟩:=z9;obtain ⟨i,rfl,q⟩:=q1;obtain ⟨t,rfl⟩:=r1;exact ⟨some i,H1,I1,.int i t,q⟩
def SlR (X:Cx)(r:V->Option Int->Option Int->Hp->VK->Prop):Prop:=
 ∀(pins:List (Addr×Obj)) (s:Shared) (Z:St) (H:Hp) (x:V) (v vl vu:Value) (lo hi:Option Int) (sl:Addr) (Q:VK),Inv X pins Z H s->RelV x v->s.heap.IsSliceOf sl vl vu .none->IsPart vl lo->IsPart vu hi->r x lo hi H Q->
  ∃T id,typeLookup (.type T) "__getitem__" = pure (some (.builtin id))/\s.TypeIs v T/\wpAny (model X.prog X.w) X.A (getItem v (.ref sl)) (EP X pins Z Q) X.xe s
theorem SlR.or {r r':V->Option Int->Option Int->Hp->VK->Prop}(h:SlR X r)(h':SlR X r'):SlR X (λx lo hi H Q=>r x lo hi H Q\/r' x lo hi H Q):=by
 intro pins s Z H x v vl vu lo hi sl Q I rx hs pl pu q;rcases q with q | q
 ·exact h pins s Z H x v vl vu lo hi sl Q I rx hs pl pu q
 ·exact h' pins s Z H x v vl vu lo hi sl Q I rx hs pl pu q
def tSl (r:V->Option Int->Option Int->Hp->VK->Prop)(te:TE)(tl th:TO):TE:=λZ H Q=>te Z H λx H1=>tl Z H1 λl H2=>th Z H2 λu H3=>r x l u H3 Q
theorem SY {r:V->Option Int->Option Int->Hp->VK->Prop}(hr:SlR X r)(he:PE X e te)(hl:PO X lo tl)(hu:PO X hi th):PE X (.Subscript e (.Slice lo hi none p2) pos) (tSl r te tl th):=by
 intro pins s Z H Q I h;refine Subscript_ (thn (he pins s Z H _ I h) λv s1 z9=>?_);obtain ⟨x,H1,I1,r1,q1⟩:=z9;refine wpAny_Slice (thn (hl pins s1 Z H1 _ I1 q1) λvl s2 ⟨l,H2,I2,pl,q2⟩=>thn (hu pins s2 Z H2 _ I2 q2) λvu s3 z9=>?_);obtain ⟨u,H3,I3,pu,q3⟩:=z9;rw [evalPart_none];refine up2 ?_;have I4:Inv X pins Z H3 { s3 with heap:=s3.heap.push { cls:=.type "slice",data:=.fields #[vl,vu,.none] } }:=I3.kept (t':=s3.toks) λb ob q=>uc3 _ q;obtain ⟨T,id,hT,ht,hg⟩:=hr pins { s3 with heap:=s3.heap.push { cls:=.type "slice",data:=.fields #[vl,vu,.none] } } Z H3 x v vl vu l u s3.heap.objs.size Q I4 r1 (Heap.IsSliceOf.new ..) pl pu q3;show wpAny (model X.prog X.w) X.A (subscriptTail e (.Slice lo hi none p2) v (.ref s3.heap.objs.size)) (EP X pins Z Q) X.xe { s3 with heap:=s3.heap.push { cls:=.type "slice",data:=.fields #[vl,vu,.none] } };exact tail_any (ops:=[.ref s3.heap.objs.size,v]) ht hT hg (by with_unfolding_all rfl)
def IY (xs:List V)(lo hi:Option Int):List V:=(xs.drop (HT.sIx xs.length 0 lo)).take (HT.sIx xs.length xs.length hi - HT.sIx xs.length 0 lo)
theorem Nm (xs:List V)(lo hi:Option Int):(IY xs lo hi).length<=xs.length:=by
 unfold IY;rw [uh7,uh8];lia
theorem Vals.nil_iff {xs:List V}{us:List Value}(r:Vals xs us):us=[]↔xs=[]:=by
 cases r with
 | nil=>simp
 | cons _ _=>simp
end
noncomputable def ixN (n:Nat)(i:Int):Option Nat:=if 0<=i then (if i < n then some i.toNat else none) else if -(n:Int)<=i then some (i + n).toNat else none
def atI {α:Type}(xs:List α)(i:Int):Option α:=(ixN xs.length i).bind λj=>xs[j]?
theorem Vc {n:Nat}{i:Int}{j:Nat}(h:ixN n i=some j):seqIndex? i n=some j/\j < n/\-(n:Int)<=i/\i < n:=by
 unfold ixN at h
 by_cases h0:0<=i
 ·rw [if_pos h0] at h
  by_cases h1:i < n
  ·rw [if_pos h1] at h;have e:i.toNat=j:=uj2 h;exact ⟨by rw [seqIndex_of h0 h1,e],by lia,by lia,h1⟩
  ·rw [if_neg h1] at h;cases h
 ·rw [if_neg h0] at h
  by_cases h1 : -(n:Int)<=i
  ·rw [if_pos h1] at h;have e:(i + n).toNat=j:=uj2 h;exact ⟨by rw [seqIndex_neg (by lia) h1,e],by lia,h1,by lia⟩
  ·rw [if_neg h1] at h;cases h
theorem Kx {α:Type}{xs:List α}{i:Int}{v:α}(h:atI xs i=some v):∃j,seqIndex? i xs.length=some j/\xs[j]?=some v/\j < xs.length/\-(xs.length:Int)<=i/\i < xs.length:=by
 unfold atI at h
 cases e:ixN xs.length i with
 | none=>rw [e] at h;cases h
 | some j=>
   rw [e] at h;obtain ⟨h1,h2,h3,h4⟩:=Vc e;exact ⟨j,h1,h,h2,h3,h4⟩
theorem HX {α:Type}{xs:List α}{j:Nat}{v:α}(h:xs[j]?=some v):atI xs (j:Int)=some v:=by
 have hj:j < xs.length:=(ub1.mp h).1;have e:ixN xs.length (j:Int)=some j:=by
  unfold ixN;rw [if_pos (by lia),if_pos (by lia)];simp
 unfold atI;rw [e];exact h
def Nx (b:Expr):Prop:=∀o i,subscripted b false o i=operate [o,i] (getItem o i)
def IxR (X:Cx)(r:R2):Prop:=
 ∀(value slice:Expr) (pins:List (Addr×Obj)) (s:Shared) (Z:St) (H:Hp) (x y:V) (v u:Value) (Q:VK),Inv X pins Z H s->RelV x v->RelV y u->r x y H Q->
  subscripted slice false v u=operate [v,u] (getItem v u)->wpAny (model X.prog X.w) X.A (subscriptTail value slice v u) (EP X pins Z Q) X.xe s
def MtR (X:Cx)(id:String)(r:V->List V->Hp->VK->Prop):Prop:=
 ∀(pins:List (Addr×Obj)) (s:Shared) (Z:St) (H:Hp) (x:V) (xs:List V) (v:Value) (us:List Value) (Q:VK),Inv X pins Z H s->RelV x v->Vals xs us->r x xs H Q->
  wpAny (model X.prog X.w) X.A (call (.builtin id) (v :: us)) (EP X pins Z Q) X.xe s
section
variable {X:Cx}{a b:Expr}{ta tb:TE}{pos:Pos}
theorem IxR.or {r r':R2}(h:IxR X r)(h':IxR X r'):IxR X (λx y H Q=>r x y H Q\/r' x y H Q):=by
 intro value slice pins s Z H x y v u Q I rx ry q hs;rcases q with q | q
 ·exact h value slice pins s Z H x y v u Q I rx ry q hs
 ·exact h' value slice pins s Z H x y v u Q I rx ry q hs
theorem ZS {r:R2}(hr:IxR X r)(ha:PE X a ta)(hb:PE X b tb)(hs:Nx b):PE X (.Subscript a b pos) (tOp r ta tb):=by
 intro pins s Z H Q I h;exact Subscript_ (RC ha hb I h λv u s2 x y H2 I2 rx ry q=>hr a b pins s2 Z H2 x y v u Q I2 rx ry q (hs _ _))
def YG (K:PySem.W.Frag):R2:=λx y H Q=>∃p xs i v,x = .ref p/\y = .int i/\SqL K H p xs/\atI xs i=some v/\Q v H
def YI (K:PySem.W.Frag):R2:=λx y H Q=>∃p xs i v,x = .ref p/\y = .int i/\SqT K H p xs/\atI xs i=some v/\Q v H
def YH:R2:=λx y H Q=>∃z i c,x = .str z/\y = .int i/\z.length<=sizeLine/\atI z.cps.toList i=some c/\Q (.str ⟨#[c]⟩) H
theorem ix_list:IxR X (YG X.K):=by
 intro value slice pins s Z H x y v u Q I rx ry h hs;obtain ⟨p,xs,i,z,rfl,rfl,hq,he,q⟩:=h
 cases rx
 obtain ⟨t,rfl⟩:=ry;obtain ⟨its,r,pl,hz⟩:=I.list hq;obtain ⟨j,h1,h2,h3,h4,h5⟩:=Kx he;obtain ⟨w,ew,rw'⟩:=r.get h2;have hl:=r.length;have hn:=JW;have fin:EP X pins Z Q w s:=⟨z,H,I,rw',q⟩
 by_cases h0:0<=i
 ·have hj:i.toNat=j:=by
   rw [seqIndex_of h0 h5] at h1;exact uj2 h1
  exact item_listR pl.isList h0 (by lia) (by rw [hj];simpa using ew) fin hs
 ·have hj:(i + (its.toArray.size:Int)).toNat=j:=by
   rw [seqIndex_neg (by lia) h4] at h1;rw [ug2,<-hl];exact uj2 h1
  exact subscriptTail_builtinR (x:=w) pl.isList.typeIs slot_list_getitem.lookup
   (wpAny_getItem_list_neg (Q:=λr s'=>r=w/\EP X pins Z Q r s') pl.isList (by lia) (by rw [ug2] <;> lia) (by lia) (by rw [hj];simpa using ew) ⟨rfl,fin⟩) hs
theorem ix_tup:IxR X (YI X.K):=by
 intro value slice pins s Z H x y v u Q I rx ry h hs;obtain ⟨p,xs,i,z,rfl,rfl,hq,he,q⟩:=h
 cases rx
 obtain ⟨t,rfl⟩:=ry;obtain ⟨its,r,pl,hz⟩:=I.tuple hq;obtain ⟨j,h1,h2,h3,h4,h5⟩:=Kx he;obtain ⟨w,ew,rw'⟩:=r.get h2;have hl:=r.length;have hn:=JW;have fin:EP X pins Z Q w s:=⟨z,H,I,rw',q⟩;exact subscriptTail_builtinR (x:=w) pl.typeIs slot_tuple_getitem.lookup
  (getItem_tuple (j:=j) (Q:=λr s'=>r=w/\EP X pins Z Q r s') pl (by lia) (by lia) (by rw [ug2,<-hl];exact h1) (by simpa using ew) ⟨rfl,fin⟩) hs
theorem XR:IxR X YH:=by
 intro value slice pins s Z H x y v u Q I rx ry h hs;obtain ⟨z,i,c,rfl,rfl,hz,he,q⟩:=h;obtain ⟨t,rfl⟩:=rx;obtain ⟨t',rfl⟩:=ry;obtain ⟨j,h1,h2,h3,h4,h5⟩:=Kx he;have hl:z.cps.toList.length=z.length:=by simp [Str.length]
 rw [hl] at h1 h4 h5;have hn:=JW;exact tail_any (typeIs_str s z t) slot_str_getitem.lookup (getItem_str (c:=c) (by
  have e1:decide (i < -(2 ^ 63:Int))=false:=ul0 (by lia);have e2:decide (i ≥ 2 ^ 63)=false:=ul0 (by lia);rw [e1,e2,um1]) (by rw [h1];simpa using h2) ⟨.str ⟨#[c]⟩,H,I.tok _,⟨_,rfl⟩,q⟩) hs
def rIx (K:PySem.W.Frag):R2:=λx y H Q=>YG K x y H Q\/YI K x y H Q\/YH x y H Q
theorem XQ:IxR X (rIx X.K):=ix_list.or (ix_tup.or XR)
theorem M9 (lo hi:Option Int)(n:Nat):(sliceBounds lo hi none n).1=((HT.sIx n 0 lo:Nat):Int)/\(sliceBounds lo hi none n).2.1=((HT.sIx n n hi:Nat):Int)/\(sliceBounds lo hi none n).2.2=1:=by
 refine ⟨?_,?_,rfl⟩
 ·cases lo with
  | none=>simp [sliceBounds,HT.sIx]
  | some i=>
    simp only [sliceBounds,HT.sIx,Option.getD_none,show (1:Int) > 0 by decide,if_true]
    by_cases h:i < 0
    ·simp only [h,if_true] <;> lia
    ·simp only [h,if_false] <;> lia
 ·cases hi with
  | none=>simp [sliceBounds,HT.sIx]
  | some i=>
    simp only [sliceBounds,HT.sIx,Option.getD_none,show (1:Int) > 0 by decide,if_true]
    by_cases h:i < 0
    ·simp only [h,if_true] <;> lia
    ·simp only [h,if_false] <;> lia
theorem LG (its:List Value)(lo hi:Option Int):slicePick its.toArray lo hi none=((its.drop (HT.sIx its.length 0 lo)).take (HT.sIx its.length its.length hi - HT.sIx its.length 0 lo)).toArray:=by
 obtain ⟨h1,h2,h3⟩:=M9 lo hi its.toArray.size;unfold slicePick;rw [h1,h2,h3];simp only [sliceRange_one,pick_run,ug2] <;> rfl
def YL (K:PySem.W.Frag):V->Option Int->Option Int->Hp->VK->Prop:=λx lo hi H Q=>∃a xs,x = .ref a/\SqL K H a xs/\∀p,H p=none->Q (.ref p) (upd H p (.lst (IY xs lo hi)))
theorem Wv:SlR X (YL X.K):=by
 intro pins s Z H x v vl vu lo hi sl Q I rx hs pl pu h;obtain ⟨a,xs,rfl,hx,q⟩:=h
 cases rx
 obtain ⟨its,r,ht,hz⟩:=I.list hx;have hlen:=r.length;refine ⟨"list",_,slot_list_getitem.lookup,ht.isList.typeIs,?_⟩;refine wpAny_getItem_list_slice ht.isList hs pl pu .none (by simp) ?_ (by rw [ug2] <;> lia);rw [LG,<-hlen];refine ⟨.ref s.heap.objs.size,_,I.laid (t':=s.toks) (o:=.lst (IY xs lo hi)) (λb ob q=>uc3 _ q) (uo7 _) ?_,rfl,q _ (I.hok.fresh (uo7 _))⟩;exact ⟨un3 (Nm xs lo hi) hz,_,0,(r.drop (HT.sIx xs.length 0 lo)).take (HT.sIx xs.length xs.length hi - HT.sIx xs.length 0 lo),ue4 _ rfl⟩
noncomputable def Fg:V->Bool
 | .non=>true
 | .bl _=>true
 | .int _=>true
 | .str _=>true
 | _=>false
noncomputable def eqV:V->V->Bool
 | .non,.non=>true
 | .bl a,.bl b=>a == b
 | .bl a,.int b=>(if a then 1 else 0) == b
 | .int a,.bl b=>a == (if b then 1 else 0)
 | .int a,.int b=>a == b
 | .str a,.str b=>a == b
 | _,_=>false
theorem Xf {A:Around}{s:Shared}{y x:V}{u v:Value}(ry:RelV y u)(rx:RelV x v)(fy:Fg y=true)(fx:Fg x=true):SeqAt.EqAt A s u v (eqV y x):=by
 cases y with
 | non=>
   cases ry
   cases x with
   | non=>cases rx;exact SeqAt.EqAt.same _
   | bl b=>cases rx;exact SeqAt.EqAt.none_bool b
   | int b=>obtain ⟨t,rfl⟩:=rx;exact SeqAt.EqAt.none_int b t
   | str b=>obtain ⟨t,rfl⟩:=rx;exact SeqAt.EqAt.none_str b t
   | _=>exact absurd (show false=true from fx) uf3
 | bl a=>
   cases ry
   cases x with
   | non=>cases rx;exact SeqAt.EqAt.bool_none a
   | bl b=>cases rx;exact SeqAt.EqAt.bool_bool a b
   | int b=>obtain ⟨t,rfl⟩:=rx;exact SeqAt.EqAt.bool_int a b t
   | str b=>obtain ⟨t,rfl⟩:=rx;exact SeqAt.EqAt.bool_str a b t
   | _=>exact absurd (show false=true from fx) uf3
 | int a=>
   obtain ⟨t',rfl⟩:=ry
   cases x with
   | non=>cases rx;exact SeqAt.EqAt.int_none a t'
   | bl b=>cases rx;exact SeqAt.EqAt.int_bool a t' b
   | int b=>obtain ⟨t,rfl⟩:=rx;exact SeqAt.EqAt.int_int a t' b t
   | str b=>obtain ⟨t,rfl⟩:=rx;exact SeqAt.EqAt.int_str a t' b t
   | _=>exact absurd (show false=true from fx) uf3
 | str a=>
   obtain ⟨t',rfl⟩:=ry
   cases x with
   | non=>cases rx;exact SeqAt.EqAt.str_none a t'
   | bl b=>cases rx;exact SeqAt.EqAt.str_bool a t' b
   | int b=>obtain ⟨t,rfl⟩:=rx;exact SeqAt.EqAt.str_int a t' b t
   | str b=>obtain ⟨t,rfl⟩:=rx;exact SeqAt.EqAt.str_str a t' b t
   | _=>exact absurd (show false=true from fx) uf3
 | _=>exact absurd (show false=true from fy) uf3
def eqU (x:V)(u:Value):Bool:=match u with
 | .none=>eqV .non x
 | .bool b=>eqV (.bl b) x
 | .int i _=>eqV (.int i) x
 | .str z _=>eqV (.str z) x
 | _=>false
theorem PC {x y:V}{u:Value}(r:RelV y u)(f:Fg y=true):eqU x u=eqV y x:=by
 cases y with
 | non=>cases r;rfl
 | bl b=>cases r;rfl
 | int i=>obtain ⟨t,rfl⟩:=r;rfl
 | str z=>obtain ⟨t,rfl⟩:=r;rfl
 | _=>exact absurd (show false=true from f) uf3
theorem MJ {A:Around}{s:Shared}{x:V}{v:Value}(rx:RelV x v)(fx:Fg x=true):∀{xs:List V} {us:List Value},Vals xs us->xs.all Fg=true->∀u∈us,SeqAt.EqAt A s u v (eqU x u)
 | _,_,.nil,_=>λu hu=>by cases hu
 | y :: xs,u :: us,.cons r t,f=>λu' hu=>by
   rw [um2,uh9] at f;rcases ul9.mp hu with rfl | hu
   ·rw [PC r f.1];exact Xf r rx f.1 fx
   ·exact MJ rx fx t f.2 u' hu
theorem Mh:Ch X (.type "list") (λxs H Q=>∃p ys,xs=[.ref p]/\(SqL X.K H p ys\/SqT X.K H p ys)/\∀l,H l=none->Q (.ref l) (upd H l (.lst ys))):=by
 intro pins s Z H xs us Q I r h;obtain ⟨p,ys,rfl,hq,q⟩:=h;obtain ⟨u,rfl,rx⟩:=EN r
 cases rx
 have fin:∀(its:List Value),Vals ys its->ys.length<=sizeLine->∀(h':Heap) (c':Nat),(∀b o',s.heap.get? b=some o'->h'.get? b=some o')->
  h'.get? s.heap.objs.size=some { cls:=.type "list",dict:=none,data:=.seq its.toArray c',slots:=#[] }->EP X pins Z Q (.ref s.heap.objs.size) { s with heap:=h' }:=λits r' hz h' c' kp e=>
  ⟨.ref s.heap.objs.size,_,I.laid (t':=s.toks) kp (uo7 _) (show ObjOk X.prog X.w _ h' _ (.lst ys) from ⟨hz,its,c',r',e⟩),rfl,q _ (I.hok.fresh (uo7 _))⟩
 rcases hq with hq | hq
 ·obtain ⟨its,r',pl,hz⟩:=I.list hq;have hlen:=r'.length;obtain ⟨o,ho,hc,n,hd⟩:=pl.isList;exact call_list_seq p (.inl rfl) ho hc hd (λh' c' kp e=>fin its r' hz h' c' kp e) (by simp only [ug2] <;> lia)
 ·obtain ⟨its,r',pl,hz⟩:=I.tuple hq;have hlen:=r'.length;obtain ⟨o,ho,hc,n,hd⟩:=pl;exact call_list_seq p (.inr rfl) ho hc hd (λh' c' kp e=>fin its r' hz h' c' kp e) (by simp only [ug2] <;> lia)
theorem LB:Ch X (.type "tuple") (λxs H Q=>∃p ys,xs=[.ref p]/\((SqL X.K H p ys/\∀l,H l=none->Q (.ref l) (upd H l (.tup ys)))\/(SqT X.K H p ys/\Q (.ref p) H))):=by
 intro pins s Z H xs us Q I r h;obtain ⟨p,ys,rfl,h⟩:=h;obtain ⟨u,rfl,rx⟩:=EN r
 cases rx
 rcases h with ⟨hq,q⟩ | ⟨hq,q⟩
 ·obtain ⟨its,r',pl,hz⟩:=I.list hq;have hlen:=r'.length;refine call_tuple_list pl.isList (λh' kp=>?_) (by simp only [ug2] <;> lia);have I1:Inv X pins Z H { s with heap:=h' }:=I.kept (t':=s.toks) kp;have I2:Inv X pins Z (upd H h'.objs.size (.tup ys)) { s with heap:=h'.push { cls:=.type "tuple",data:=.seq its.toArray } }:=
   I1.laid (t':=s.toks) (λb o e=>uc3 _ e) (uo7 _) (show ObjOk X.prog X.w _ _ _ (.tup ys) from ⟨hz,its,r',IsTup.new _ _⟩)
  exact ⟨.ref h'.objs.size,_,I2,rfl,q _ (I1.hok.fresh (uo7 _))⟩
 ·obtain ⟨its,r',pl,hz⟩:=I.tuple hq;exact call_tuple_same pl ⟨.ref p,H,I,rfl,q⟩
def tyV (K:PySem.W.Frag)(T:String)(x:V)(H:Hp):Prop:=match x with
 | .str _=>T = "str"
 | .int _=>T = "int"
 | .ref p=>(T = "list"/\∃xs,SqL K H p xs)\/(T = "tuple"/\∃o,K.lookup p=some o/\o.cls = .type "tuple"/\o.dict=none)\/
    (T = "dict"/\((∃kvs,H p=some (.dK kvs))\/∃kvs,H p=some (.dT kvs)))\/(T = "set"/\∃S n,H p=some (.set S n))
 | _=>False
theorem Y3 {pins:List (Addr×Obj)}{Z:St}{H:Hp}{s:Shared}{T:String}{x:V}{v:Value}(I:Inv X pins Z H s)(r:RelV x v)(ty:tyV X.K T x H) :
 s.TypeIs v T/\∀a,v = .ref a->∃ob,s.heap.get? a=some ob/\ob.dict=none:=by
 cases x with
 | str z=>
   obtain ⟨t,rfl⟩:=r
   cases (show T = "str" from ty)
   exact ⟨typeIs_str s z t,λ_ e=>nomatch e⟩
 | int i=>
   obtain ⟨t,rfl⟩:=r
   cases (show T = "int" from ty)
   exact ⟨typeIs_int s i t,λ_ e=>nomatch e⟩
 | ref p=>
   cases r
   rcases ty with ⟨rfl,xs,hq⟩ | ⟨rfl,o,hk,hc,hd⟩ | ⟨rfl,hk⟩ | ⟨rfl,S,n,hk⟩
   ·obtain ⟨its,_,pl,_⟩:=I.list hq;refine ⟨pl.isList.typeIs,λa e=>?_⟩
    cases e
    obtain ⟨o,n,e,c,hd,_⟩:=pl;exact ⟨o,e,hd⟩
   ·refine ⟨⟨o,I.kIn p o hk,hc⟩,λa e=>?_⟩
    cases e
    exact ⟨o,I.kIn _ o hk,hd⟩
   ·have z:∃o,s.heap.get? p=some o/\o.ExactDict:=by
     rcases hk with ⟨kvs,hk⟩ | ⟨kvs,hk⟩
     ·obtain ⟨_,_,_,_,o,_,_,e,ex,_⟩:=I.hok p _ hk;exact ⟨o,e,ex⟩
     ·obtain ⟨_,_,_,_,o,_,_,e,ex,_⟩:=I.hok p _ hk;exact ⟨o,e,ex⟩
    obtain ⟨o,e,ex⟩:=z;refine ⟨⟨o,e,ex.1⟩,λa e2=>?_⟩
    cases e2
    exact ⟨o,e,ex.2.1⟩
   ·obtain ⟨o,_,_,_,e,ex,_⟩:=I.hok p _ hk;refine ⟨⟨o,e,ex.1⟩,λa e2=>?_⟩
    cases e2
    exact ⟨o,e,ex.2.1⟩
 | _=>exact False.elim ty
def tBM (K:PySem.W.Frag)(T:String)(r:V->List V->Hp->VK->Prop)(to:TE)(t:TA):TE:=λZ H Q=>to Z H λx H1=>tyV K T x H1/\t Z H1 λxs H2=>r x xs H2 Q
variable {o e:Expr}{es:List Expr}{to:TE}{t:TA}{name:Str}{apos cpos:Pos}{T id:String}{r:V->List V->Hp->VK->Prop}
theorem Kb (pa:PlainAttrs T)(slot:Slot T name id)(hty:typeOf (.builtin id)=pure (.type "method_descriptor"))(hm:MtR X id r)(ho:PE X o to)(ha:PA X (e :: es) t)
 (hbase:attributeBase o name X.env (eval o X.env)=eval o X.env:=by rfl)
 (hfew:((backTo cpos (starEach (e :: es) X.env)).all (λx=>!x.1) && (backToKw cpos (keywordEach [] X.env)).all (λx=>x.1.isSome)
   && decide ((e :: es).length + ([]:List Keyword).length + (if ([]:List Keyword).isEmpty then 0 else 1) < 30))=true:=by rfl)
 (hline:(apos.endLine == cpos.line)=true:=by rfl) (hs:starEach (e :: es) X.env=(false,eval e X.env) :: starEach es X.env:=by rfl) (hplain:(backTo cpos (starEach es X.env)).any (·.1)=false:=by rfl) :
 PE X (.Call (.Attribute o name apos) (e :: es) [] cpos) (tBM X.K T r to t):=by
 intro pins s Z H Q I h;refine wpAny_Call_method_late hbase hfew hline rfl (thn (ho pins s Z H _ I h) λv s1 z9=>?_);obtain ⟨x,H1,I1,r1,ty,q1⟩:=z9;obtain ⟨h1,h2⟩:=Y3 I1 r1 ty;refine ⟨T,id,pa,slot,hty,h1,h2,?_⟩;have hA:=ha cpos pins s1 Z H1 _ I1 q1;rw [hs] at hA ⊢;refine Calls.callWith_builtin (by show (false || (backTo cpos (starEach es X.env)).any (·.1))=false;rw [hplain] <;> rfl) (Calls.evalArgs_plain ?_);exact thn hA λus s2 ⟨vs,H2,I2,r2,q2⟩=>hm pins s2 Z H2 x vs v us Q I2 r1 r2 q2
/- xs.append(e),list.index on a module's tuple .. are MtR facts of 06m -/
end
def MtM (X:Cx)(id:String)(r:V->List V->Hp->VK->Prop):Prop:=
 ∀(pins:List (Addr×Obj)) (s:Shared) (Z:St) (H:Hp) (x:V) (xs:List V) (v:Value) (us:List Value) (Q:VK),Inv X pins Z H s->RelV x v->Vals xs us->r x xs H Q->
  wpAny (model X.prog X.w) X.A (call (.builtin id) (v :: us)) (EP X pins Z Q) X.xe s
theorem Vals.one {x:V}{us:List Value}(h:Vals [x] us):∃u,us=[u]/\RelV x u:=by
 cases h with
 | cons r t=>
   cases t
   exact ⟨_,rfl,r⟩
theorem Vals.rep {xs:List V}{us:List Value}(h:Vals xs us):∀k:Nat,Vals (List.replicate k xs).flatten (List.replicate k us).flatten
 | 0=>.nil
 | k + 1=>by
   rw [ue6,ue6,ug5,ug5];exact Vals.append h (Vals.rep h k)
theorem Lh (its:List Value):∀(k:Nat) (acc:List Value),
 List.foldl (λx1 x2=>x1++x2) acc.toArray (List.replicate k its.toArray)=(acc++(List.replicate k its).flatten).toArray
 | 0,acc=>by simp
 | k + 1,acc=>by
   have e:acc.toArray++its.toArray=(acc++its).toArray:=by simp
   have e2:(acc++its)++(List.replicate k its).flatten=acc++(List.replicate (k + 1) its).flatten:=by
    rw [ue6,ug5,ug6]
   rw [<-e2,<-Lh its k (acc++its),<-e,ue6,uj8]
section
variable {X:Cx}{pins:List (Addr×Obj)}{Z:St}{H:Hp}{s:Shared}{l b:Addr}{xs ys zs:List V}
theorem Inv.lset {its its':List Value}{n:Nat}{f:Array Value->Array Value}{t':Nat}(I:Inv X pins Z H s)(hH:H l=some (.lst xs))
 (e:s.heap.get? l=some { cls:=.type "list",data:=.seq its.toArray n }) (hf:f its.toArray=its'.toArray) (hv:Vals ys its') (hz:ys.length<=sizeLine) :
 Inv X pins Z (upd H l (.lst ys)) { s with heap:=s.heap.update l (Obj.mapSeq f),toks:=t' }:=by
 have q:=PySem.IsL.update e f;rw [hf] at q;refine I.write (x:=l) (e:=l) (by rw [hH];exact trivial) (.inl rfl) (λb' u hb hu=>(uc5 s.heap (Obj.mapSeq f) (Ne.symm hb)).trans hu) ⟨_,q⟩ ?_;exact ⟨hz,its',_,hv,q⟩
theorem Inv.lnew {its:List Value}{t':Nat}(I:Inv X pins Z H s)(hv:Vals ys its)(hz:ys.length<=sizeLine) :
 Inv X pins Z (upd H s.heap.objs.size (.lst ys)) { s with heap:=s.heap.push { cls:=.type "list",data:=.seq its.toArray },toks:=t' }:=
 I.laid (λ_ _ q=>uc3 _ q) (uo7 _) ⟨hz,its,0,hv,ue4 _ rfl⟩
theorem Inv.fresh (I:Inv X pins Z H s):H s.heap.objs.size=none:=I.hok.fresh (uo7 _)
theorem Inv.lstM (I:Inv X pins Z H s)(hH:H l=some (.lst xs)):xs.length<=sizeLine/\∃(its:List Value) (n:Nat),Vals xs its/\xs.length=its.length/\s.heap.get? l=some { cls:=.type "list",data:=.seq its.toArray n }:=by
 obtain ⟨z,its,n,r,e⟩:=I.hok l _ hH;exact ⟨z,its,n,r,r.length,e⟩
theorem MM {n:Nat}(h:n<=sizeLine):Builtin.List.listTooLong n=false:=by
 unfold Builtin.List.listTooLong;exact ul0 (by lia)
end
section
variable {X:Cx}
def N3:V->List V->Hp->VK->Prop:=λx vs H Q=>∃l xs y,x = .ref l/\vs=[y]/\H l=some (.lst xs)/\xs.length < sizeLine/\Q .non (upd H l (.lst (xs++[y])))
theorem Qt:MtM X "list.append" N3:=by
 intro pins s Z H x vs v us Q I rx rv h;obtain ⟨l,xs,y,rfl,rfl,hH,hz,q⟩:=h
 cases rx
 obtain ⟨u,rfl,ru⟩:=rv.one;obtain ⟨z,its,n,r,hl,e⟩:=I.lstM hH;refine call_meets F.slot_list_append ⟨_,e,rfl⟩ F.entry_list_append (F.args_list_append_2 _ _) (PySem.list_append l its.toArray n u (by rw [ug2];lia)) ⟨e,?_⟩;refine ⟨.non,_,I.lset (its':=its++[u]) hH e (by simp) (r.append (.cons ru .nil)) ?_,rfl,q⟩;rw [uf6,ud4];lia
def N4:V->List V->Hp->VK->Prop:=λx vs H Q=>∃l b xs zs,x = .ref l/\vs=[.ref b]/\H l=some (.lst xs)/\H b=some (.lst zs)/\xs.length + zs.length<=sizeLine/\Q .non (upd H l (.lst (xs++zs)))
theorem Qu:MtM X "list.extend" N4:=by
 intro pins s Z H x vs v us Q I rx rv h;obtain ⟨l,b,xs,zs,rfl,rfl,hH,hB,hz,q⟩:=h
 cases rx
 obtain ⟨u,rfl,ru⟩:=rv.one
 cases ru
 obtain ⟨z,its,n,r,hl,e⟩:=I.lstM hH;obtain ⟨z2,its2,n2,r2,hl2,e2⟩:=I.lstM hB;have hsz:its.toArray.size + its2.toArray.size<=sizeLine:=by rw [ug2,ug2];lia
 have hlong:¬(!its.toArray.isEmpty && Builtin.List.listTooLong (its.toArray.size + its2.toArray.size))=true:=by
  rw [MM hsz,ul4];exact uf3
 refine call_meets F.slot_list_extend ⟨_,e,rfl⟩ F.entry_list_extend (F.args_list_extend_2 _ _)
  (AutoSeq1.list_extend_list_list_0 l its.toArray n b its2.toArray n2 hlong (by rw [ug2];lia) (by lia)) ⟨e,e2,?_⟩
 refine ⟨.non,_,I.lset (its':=its++its2) hH e (by simp) (r.append r2) ?_,rfl,q⟩;rw [uf6];lia
def Tk:R2:=λx y H Q=>∃l b xs zs,x = .ref l/\y = .ref b/\H l=some (.lst xs)/\H b=some (.lst zs)/\xs.length + zs.length<=sizeLine/\∀p,H p=none->Q (.ref p) (upd H p (.lst (xs++zs)))
theorem QB:OpR X (binaryOp .Add) Tk:=by
 intro pins s Z H x y v u Q I rx ry h;obtain ⟨l,b,xs,zs,rfl,rfl,hH,hB,hz,q⟩:=h
 cases rx
 cases ry
 obtain ⟨z,its,n,r,hl,e⟩:=I.lstM hH;obtain ⟨z2,its2,n2,r2,hl2,e2⟩:=I.lstM hB;refine PySem.P.add_list e e2 ?_ (by rw [ug2,ug2];lia);have ea:its.toArray++its2.toArray=(its++its2).toArray:=by simp
 rw [ea];exact ⟨.ref _,_,I.lnew (t':=s.toks) (r.append r2) (by rw [uf6];lia),rfl,q _ I.fresh⟩
def YJ:R2:=λx y H Q=>∃l k xs,x = .ref l/\y = .int k/\H l=some (.lst xs)/\-(2 ^ 63)<=k/\k < 2 ^ 63/\xs.length * k.toNat<=sizeLine/\
 ∀p,H p=none->Q (.ref p) (upd H p (.lst (List.replicate k.toNat xs).flatten))
theorem Vf {α:Type}(xs:List α)(k:Nat):(List.replicate k xs).flatten.length=k * xs.length:=by
 induction k with
 | zero=>simp
 | succ k ih=>rw [ue6,ug5,uf6,ih,Nat.succ_mul,Nat.add_comm]
theorem Ye:OpR X (binaryOp .Mult) YJ:=by
 intro pins s Z H x y v u Q I rx ry h;obtain ⟨l,k,xs,rfl,rfl,hH,h1,h2,hz,q⟩:=h
 cases rx
 obtain ⟨t,rfl⟩:=ry;obtain ⟨z,its,n,r,hl,e⟩:=I.lstM hH;have hlen:its.toArray.size * k.toNat<=sizeLine:=by rw [ug2,<-hl];exact hz
 have hcap:¬its.toArray.size * k.toNat > (2 ^ 63 - 1) / 8:=by
  have:(sizeLine:Nat)<=(2 ^ 63 - 1) / 8:=by decide
  lia
 have hfit:¬(!Builtin.List.listFitsIndex k)=true:=by
  rw [fitsIndex_both h1 h2];exact uf3
 have hlong:¬Builtin.List.listTooLong (its.toArray.size * k.toNat)=true:=by
  rw [MM hlen];exact uf3
 have hnew:List.foldl (λx1 x2=>x1++x2) #[] (List.replicate (if its.toArray.isEmpty=true then 0 else k.toNat) its.toArray)=(List.replicate k.toNat its).flatten.toArray:=by
  have f0:∀m:Nat,List.foldl (λx1 x2=>x1++x2) #[] (List.replicate m its.toArray)=(List.replicate m its).flatten.toArray:=λm=>by
   have:=Lh its m [];rw [uj9] at this;exact this
  rw [f0]
  cases its with
  | nil=>simp
  | cons a r'=>rw [if_neg (by simp)]
 refine wpAny_binaryOp_repeat_ref (T:="list") (U:="int") (by decide) ⟨_,e,rfl⟩ (λs'=>typeIs_int s' k t) noFill_list_mul F.fills_int_mul F.slot_int_rmul repeat_list F.slot_int_index.lookup
  (call_meets F.slot_int_rmul (typeIs_int s k t) F.entry_int_rmul (F.args_int_rmul_2 _ _) (int___rmul___int_list k t l its.toArray n)
    ⟨e,rfl,⟨_,e,rfl⟩,call_meets F.slot_list_mul ⟨_,e,rfl⟩ F.entry_list_mul (F.args_list_mul_2 _ _) (AutoListH.list___mul___list_int_3 l its.toArray n k t hfit hcap hlong) ⟨e,?_⟩⟩)
 rw [hnew];exact ⟨.ref _,_,I.lnew (t':=s.toks) (r.rep k.toNat) (by rw [Vf,un7];exact hz),rfl,q _ I.fresh⟩
end
section
variable {prog:Program}{w:World}{A:Around}{E:Value->Shared->Prop}{s:Shared}
end
section
variable {X:Cx}
end
end L2
namespace Att
open PySem PySem.W PySem.Calls PyProof.Rows
theorem JU {P:Params}{h:Heap}:∀(ns:List Int) (vs:List Value),WellAll P h vs (ns.map WData.int)->IntsAre vs ns:=by
 intro ns
 induction ns with
 | nil=>
   intro vs w;rw [un8] at w
   cases w
   exact .nil
 | cons n ns ih=>
   intro vs w;rw [um0] at w
   cases w with
   | cons a b=>
     cases a
     exact .cons _ _ (ih _ b)
theorem QZ {l:OpenLaw}{n:Nat}(hn:l.most=some n){P:Params}{h:Heap}{args:List WData}{vals:List Value}
 (hpre:l.row.toRowW.claim.pre args=true) (hwl:WellAll P h vals args) :
 ∃a vs ns,vals=[Value.ref a]/\args=[WData.list (ns.map WData.int)]/\h.get? a=some { cls:=.type "list",data:=.seq vs.toArray }/\IntsAre vs ns/\ns.length<=n:=by
 have hsh:WShape.hasAll [] args [.list .int]=true:=(pre_splitW hpre).1;have hc:l.pre.holds [] { args:=args }=true:=(pre_splitW hpre).2;obtain ⟨d,r,rfl,h1,h2⟩:=hasAllW_cons hsh;obtain rfl:=hasAllW_nil h2;obtain ⟨xs,rfl,h3⟩:=hasW_list h1;obtain ⟨ns,rfl⟩:=items_int h3;have hlen:ns.length<=n:=by
  unfold OpenLaw.pre at hc;have h4:(WTm.not (.lt (.lit (.int (n:Int))) (.len (.arg 0)))).holds [] { args:=[.list (ns.map .int)] }=true:=by
   have h4:=(holds_andW hc).1;rw [hn] at h4;exact h4
  have h5:=condW_of h4 (w_not (w_lt w_lit (w_len_list (w_arg rfl))));rw [uj3] at h5;refine Nat.le_of_not_lt λq=>?_;have q':(n:Int) < ((ns.length:Nat):Int):=by lia
  first
   | (rw [ul7 q'] at h5;exact absurd h5 (by decide))
   | (simp at h5;lia)
 cases hwl with
 | cons w1 w2=>
   cases w2
   cases w1 with
   | list ho hall=>exact ⟨_,_,ns,rfl,rfl,ho,JU ns _ hall,hlen⟩
theorem QM (l:OpenLaw)(args:List WData):l.row.toRowW.claim.post args (.bool true) args=true:=
 postW_of (r:=l.row.toRowW) (X:=(true == true))
  (show WShape.has [] (.bool true) .bool=true by first | rfl | decide | simp [WShape.has,WShape.arms,WShape.armsAll])
  (show (WTm.eq .res (.lit (.bool true))).value [] { args:=args,res:=some (.bool true),after:=args }=some (.bool (true == true)) from w_eq_bool (w_res rfl) w_lit) rfl
theorem attach_call {l:OpenLaw}{n:Nat}{q:Program}{loose:List Str}{XP:(Str->Option Value)->Heap->Prop}{YP:World->Heap->Prop}{d:DefRec}
 (hn:l.most=some n) (hdf:d.params.defaults=[])
 (call:∀(w:World) (s₀ s₁:Shared) (mg mb:Str->Option Value) (fa:Addr) (o:Obj) (pm cd doc:Value) (a:Addr) (vs:List Value) (ns:List Int),
   Ground q loose [] XP w s₀ mg mb s₁.heap->YP w s₁.heap->
   s₁.heap.get? fa=some o->o.data = .func (docDef d.name d.params d.body d.scope pm cd doc)->s₁.heap.CodeRec cd d.name->mg d.name=some (.ref fa)->
   s₁.heap.get? a=some { cls:=.type "list",data:=.seq vs.toArray }->IntsAre vs ns->ns.length<=n->s₁.gens=#[]->
   codeAny (model l.prog w) callerA (.call (.ref fa) ⟨[.ref a],[]⟩) (λr s'=>r = .ok (.ret (.bool true))/\OldK s₁.heap s'.heap/\s'.os=s₁.os/\AllBare s'.gens) s₁) :
 WalkO q loose XP YP l.row.toRowW d [] (λf vs=>PySem.call f vs):=by
 intro w s₀ s₁ mg mb G Y fa o pm cd doc dV kV ho hd hcd hD hmg hg args vals as hpre hlay hrd hwl hlo;obtain rfl:dV = .none:=Dflts.none hD hdf;obtain rfl:kV = .none:=Dflts.noKw hD;obtain ⟨a,vs,ns,rfl,rfl,hobj,hints,hlen⟩:=QZ hn hpre hwl;refine enter_call (codeAny_mono (call w s₀ s₁ mg mb fa o pm cd doc a vs ns G Y ho (fd_plain hd) hcd hmg hobj hints hlen hg) λr s' hq=>?_);obtain ⟨rfl,h2,h3,h4⟩:=hq;exact ⟨.inl ⟨.bool true,.bool true,[],rfl,λ_=>rfl,.bool true,QM l _,λ_=>⟨List.Pairwise.nil,λ_ hm=>(nomatch hm)⟩⟩,h2,h3,h4⟩
section
variable {prog:Program}{w:World}{A:Around}{E:Value->Shared->Prop}{s:Shared}{K:Frag}
noncomputable def da (h:Heap)(L d:Addr):List (Addr×Obj):=(List.range h.objs.size).filterMap λa=>if a=L\/a=d then none else (h.get? a).map λo=>(a,o)
end
end Att
namespace L2
open PySem PySem.Spec PyProof.Rows
theorem Lv:∀{vs:List Value} {ns:List Int},IntsAre vs ns->Vals (ns.map V.int) vs
 | _,_,.nil=>.nil
 | _,_,.cons n t h=>.cons ⟨t,rfl⟩ (Lv h)
def Oj (H:Hp):Prop:=∀b,H b=none\/∃o xs,H b=some (.frz o (.lst xs))
variable {P:Program}{w:World}{fd:FuncData}{x:Str}
theorem Sw {K:PySem.W.Frag}{mg mb:Str->Option Value}{CX:CXT}{k:Nat}{fa a:Addr}{sp:Sp}{s₁:Shared}{vs:List Value}{ns:List Int}
 (KX:K.In s₁.heap) (hns:s₁.heap.Ns mainGlobals mg) (hb:s₁.heap.Ns builtinsNs mb) (hbb:∀x:Str,x≠"__name__"->mb x=bootBuiltins x) (hlim:s₁.heap.NoLimit) (hg:s₁.gens=#[])
 (ha:s₁.heap.get? a=some { cls:=.type "list",data:=.seq vs.toArray }) (hi:IntsAre vs ns) (hl:ns.length<=sizeLine) (hr:Room k callerA)
 (F:∀base:Heap,K.In base->base.Ns mainGlobals mg->FnOk P w K mg base CX k fa fd [x] sp) (hbind:∀(s:Shared) (u:Value),BindsTo s fd ⟨[u],[]⟩ [(x,u)])
 (hsp:∀H:Hp,Oj H->SqL K H a (ns.map V.int)->sp [.ref a] H (λv _=>v = .bl true) λ_ _ _=>False)
 (hCX:∀H e s',CX [] H s₁ (λ_ _ _=>False) e s'->False) :
 codeAny (model P w) callerA (.call (.ref fa) ⟨[.ref a],[]⟩) (λr s'=>r = .ok (.ret (.bool true))/\OldK s₁.heap s'.heap/\s'.os=s₁.os/\AllBare s'.gens) s₁:=by
 have rv:=Lv hi;have lenV:=hi.length
 -- from an abstract heap in which nothing but the script may be tracked
 have core:∀H:Hp,Oj H->SqL K H a (ns.map V.int)->HOk P w H s₁.heap->(∀b,H b≠none->b=a)->(H a≠none->K.lookup a=none)->
  codeAny (model P w) callerA (.call (.ref fa) ⟨[.ref a],[]⟩) (λr s'=>r = .ok (.ret (.bool true))/\OldK s₁.heap s'.heap/\s'.os=s₁.os/\AllBare s'.gens) s₁:=by
  intro H hO hS hok hA hK;have base_of:∀{b:Addr} {o:Obj},s₁.heap.get? b=some o->H b=none->(GL s₁.heap H).get? b=some o:=λe n=>So e n;have noA:∀{b:Addr} {o:Obj} {es:Array DictEntry} {ep:Nat},s₁.heap.get? b=some o->o.data = .dict es ep->H b=none:=λ{b o es ep} e d=>by
   cases q:H b with
   | none=>rfl
   | some u=>
     have e':b=a:=hA b (by rw [q];simp);subst e';rw [ha] at e;cases e
     have d':Data.seq vs.toArray _=Data.dict es ep:=d
     cases d'
  have nsK:∀{b:Addr} {m:Str->Option Value},s₁.heap.Ns b m->(GL s₁.heap H).Ns b m:=λ{b m} ⟨o,es,ep,e,d,r⟩=>⟨o,es,ep,base_of e (noA e d),d,r⟩;have hKb:K.In (GL s₁.heap H):=λb o e=>base_of (KX b o e) (by
   cases q:H b with
   | none=>rfl
   | some u=>
     have e':b=a:=hA b (by rw [q];simp);subst e';rw [hK (by rw [q];simp)] at e;cases e)
  have hM:Mod K mg (GL s₁.heap H):=⟨hKb,nsK hns,⟨mb,nsK hb,hbb⟩,let ⟨mc,h1,h2⟩:=hlim;⟨mc,nsK h1,h2⟩⟩;have e0:Env0 P w K mg (GL s₁.heap H) callerA [] s₁ H:=⟨rfl,hM,λb o e=>Vs e,un6 (P8 _ _),trivial,λb hb=>absurd (show b∈([]:List Addr) from hb) (by simp),hok,.of_eq hg⟩;refine codeAny_mono ((F _ hKb (nsK hns)).run callerA [] s₁ H ⟨[.ref a],[]⟩ [.ref a] [.ref a] _ _ hr e0 (hbind s₁ (.ref a)) (.cons rfl .nil) (hsp H hO hS)) λr s' h=>?_
  cases r with
  | error e=>exact (hCX H e s' h).elim
  | ok fl=>
    cases fl with
    | next=>exact False.elim h
    | brk=>exact False.elim h
    | cont=>exact False.elim h
    | ret u=>
      obtain ⟨v,H',os,bare,un,hok',r',q⟩:=h;have q':v = .bl true:=q;subst q';obtain rfl:u=Value.bool true:=r';refine ⟨rfl,OldK.of_keep λb o e=>?_,os,bare⟩
      cases q:H b with
      | none=>exact un.keep b o e q (by intro z;exact absurd (show b∈([]:List Addr) from z) (by simp)) (by simp)
      | some u=>
        rcases hO b with z | ⟨ob,xs,z⟩
        ·rw [q] at z;cases z
        ·have z2:=un.frzs b ob _ z;obtain ⟨e1,_⟩:=hok b _ z;obtain ⟨e2,_⟩:=hok' b _ z2;rw [e] at e1;cases e1
         exact e2
 cases hk:K.lookup a with
 | some o=>
   -- the script is one of the module's own objects
   have e:=KX a o hk;rw [ha] at e
   cases e
   refine core (λ_=>none) (λ_=>.inl rfl) (.inr ⟨_,vs.toArray,_,hk,rfl,rfl,rfl,by rw [ug2,lenV];exact hl,by simpa using rv⟩) (λb u z=>by have z':(none:Option HO)=some u:=z;cases z') (λb z=>absurd rfl z) λz=>absurd rfl z
 | none=>
   refine core (λb=>if b=a then some (.frz { cls:=.type "list",data:=.seq vs.toArray } (.lst (ns.map V.int))) else none) (λb=>?_) (.inl (.inr ⟨{ cls:=.type "list",data:=.seq vs.toArray },if_pos rfl⟩)) (λb u z=>?_) (λb z=>?_) λ_=>hk
   ·by_cases hb:b=a
    ·exact .inr ⟨_,_,if_pos hb⟩
    ·exact .inl (if_neg hb)
   ·by_cases hb:b=a
    ·have z':=(if_pos hb).symm.trans z
     cases z'
     subst hb;exact ⟨ha,by rw [uj3];exact hl,vs,_,rv,ha⟩
    ·have z':=(if_neg hb).symm.trans z
     cases z'
   ·by_cases hb:b=a
    ·exact hb
    ·exact absurd (if_neg hb) z
theorem WL {l:PySem.W.OpenLaw}{n k:Nat}{q:Program}{loose:List Str}{XP:(Str->Option Value)->Heap->Prop}{YP:World->Heap->Prop}{d:DefRec}{K:Params->PySem.W.Frag}{CX:World->CXT}{sp:World->Sp}
 (hn:l.most=some n) (hn2:n<=sizeLine) (hdf:d.params.defaults=[]) (hr:Room k callerA)
 (hY:∀(w:World) (h:Heap),YP w h->(K w.params).In h)
 (F:∀(w:World) (mg:Str->Option Value) (fa:Addr) (h:Heap),(K w.params).In h->h.Ns mainGlobals mg->mg d.name=some (.ref fa)->
   ∃fd:FuncData,(∀(s:Shared) (u:Value),BindsTo s fd ⟨[u],[]⟩ [(x,u)])/\
    ∀base:Heap,(K w.params).In base->base.Ns mainGlobals mg->FnOk l.prog w (K w.params) mg base (CX w) k fa fd [x] (sp w))
 (hsp:∀(w:World) (H:Hp) (a:Addr) (ns:List Int),ns.length<=n->Oj H->SqL (K w.params) H a (ns.map V.int)->sp w [.ref a] H (λv _=>v = .bl true) λ_ _ _=>False)
 (hCX:∀(w:World) (H:Hp) (s:Shared) (e:Value) (s':Shared),CX w [] H s (λ_ _ _=>False) e s'->False) :
 PySem.W.WalkO q loose XP YP l.row.toRowW d [] (λf vs=>PySem.call f vs):=by
 refine Att.attach_call hn hdf λw s₀ s₁ mg mb fa o pm cd doc a vs ns G Y ho hd hcd hmg hobj hints hlen hg=>?_;have KX:=hY w _ Y;obtain ⟨fd,hb,hF⟩:=F w mg fa _ KX G.T.g hmg;exact Sw KX G.T.g G.T.b G.T.builtins G.T.nolimit hg hobj hints (un3 hlen hn2) hr hF hb (λH hO hS=>hsp w H a ns hlen hO hS) λH e s'=>hCX w H s₁ e s'
noncomputable def Cw (s:Stmt):Arguments:=match s with
 | .FunctionDef _ a _ _ _ _ _ _ _ _=>a
 | _=>{ posonlyargs:=[],args:=[],vararg:=none,kwonlyargs:=[],kw_defaults:=[],kwarg:=none,defaults:=[] }
noncomputable def A0 (s:Stmt):List Stmt:=match s with
 | .FunctionDef _ _ b _ _ _ _ _ _ _=>b
 | _=>[]
noncomputable def Al (s:Stmt):Scope:=match s with
 | .FunctionDef _ _ _ _ _ _ sc _ _ _=>sc
 | _=>{ kind:=.function,names:=[],isGenerator:=false,isCoroutine:=false }
abbrev CX0:CXT:=λ_ _ _ _ _ _=>False
abbrev E0:XK:=λ_ _ _=>False
variable {X:Cx}
theorem Ix:Fs CX0 X E0:=λ_ _ _ _ _ _ _ h=>h.elim
structure Fun (K:PySem.W.Frag)(x qual:Str)(st:Stmt)(f:Addr)(fd:FuncData):Prop where
 ex:∃(oc:Value) (od:Option Addr) (kV doc pm:Value) (an:Option Addr) (cdv ct:Value) (osl:Array (Option Value)),
  fd=PySem.W.fnOf x qual (Cw st) (A0 st) (Al st) .none kV doc pm an cdv ct/\K.lookup f=some ⟨oc,od,.func fd,osl⟩/\PySem.W.codeIn K cdv qual=true
 kp:PySem.W.keepIn K (.ref f)=true
variable {qual:Str}{f:Addr}
section
variable {P:Program}{w:World}{K:PySem.W.Frag}{mg:Str->Option Value}{base:Heap}
theorem Fun.ok {st:Stmt}{N ps:List Str}{k:Nat}{sp:Sp}(F:Fun K x qual st f fd)(S:FnScope N ps (Al st))(len:∀vs H Q E,sp vs H Q E->vs.length=ps.length)
 (hbody:∀(cdv:Value) (A:Around) (outer:List Env) (s:Shared) (H:Hp) (vs:List V) (Q:VK) (E:XK),Room k (A.deeper (envOfC qual (Al st) s.heap.objs.size f cdv))->sp vs H Q E->
   ∃t,PSs (Dl CX0 P w K mg base N qual (Al st) f cdv A outer s H E).nox (A0 st) t/\t { nx:=λ_ H'=>Q .non H',rt:=Q } (start N vs) H):FnOk P w K mg base CX0 (k + 1) f fd ps sp:=by
 obtain ⟨oc,od,kV,doc,pm,an,cdv,ct,osl,rfl,lk,hcd⟩:=F.ex;refine T4 lk hcd S len λA outer s H vs Q E hr hsp=>?_;obtain ⟨t,h,q⟩:=hbody cdv A outer s H vs Q E hr hsp;exact ⟨t,h.nox,q⟩
theorem Fun.binds {st:Stmt}{ps:List Str}(F:Fun K x qual st f fd)
 (h:∀(kV doc pm:Value) (an:Option Addr) (cdv ct:Value) (us:List Value),us.length=ps.length->bindArgs (PySem.W.fnOf x qual (Cw st) (A0 st) (Al st) .none kV doc pm an cdv ct) ⟨us,[]⟩=pure (ps.zip us)):Binds K fd ps []:=by
 obtain ⟨oc,od,kV,doc,pm,an,cdv,ct,osl,rfl,lk,hcd⟩:=F.ex;exact .all (h kV doc pm an cdv ct)
theorem ET {st:Stmt}{oc:Value}{od an:Option Addr}{osl:Array (Option Value)}{kV doc pm cdv ct:Value}(l:K.lookup f=some ⟨oc,od,.func (PySem.W.fnOf x qual (Cw st) (A0 st) (Al st) .none kV doc pm an cdv ct),osl⟩)
 (c:PySem.W.codeIn K cdv qual=true) (k:PySem.W.keepIn K (.ref f)=true):Fun K x qual st f (PySem.W.fnOf x qual (Cw st) (A0 st) (Al st) .none kV doc pm an cdv ct):=⟨⟨oc,od,kV,doc,pm,an,cdv,ct,osl,rfl,l,c⟩,k⟩
end
section
variable {X:Cx}
end
def dC (H H':Hp):Prop:=∀b o,H b=some o->H' b=some o
section
variable {κ:Type}[DecidableEq κ]
noncomputable def DM (kvs:List (κ×V))(k:κ):Option V:=(kvs.find? λkv=>decide (kv.1=k)).map (·.2)
noncomputable def DK (kvs:List (κ×V))(k:κ)(v:V):List (κ×V):=
 if (kvs.any λkv=>decide (kv.1=k))=true then kvs.map (λkv=>if kv.1=k then (kv.1,v) else kv) else kvs++[(k,v)]
theorem G5 {p:κ×V}{r:List (κ×V)}{k:κ}(e:p.1=k):DM (p :: r) k=some p.2:=by simp [DM,uk0,e]
theorem G0 {p:κ×V}{r:List (κ×V)}{k:κ}(e:¬p.1=k):DM (p :: r) k=DM r k:=by simp [DM,uk0,e]
theorem IL (kvs:List (κ×V))(k:κ)(v:V):(DK kvs k v).length<=kvs.length + 1:=by
 unfold DK
 split
 ·rw [uj3];lia
 ·rw [uf6,uh5,uk1];lia
theorem RelO.isSome_eq {o:Option V}{u:Option Value}(r:RelO o u):o.isSome=u.isSome:=by
 cases o with
 | none=>cases u with
   | none=>rfl
   | some _=>exact (show False from r).elim
 | some _=>cases u with
   | none=>exact (show False from r).elim
   | some _=>rfl
theorem KV.val {kvs:List (κ×V)}{vs:List (κ×Value)}(r:KV kvs vs)(k:κ):RelO (DM kvs k) (valueAt vs k):=by
 unfold KV at r
 induction r with
 | nil=>exact True.intro
 | @cons p q ps qs h t ih=>
   obtain ⟨h1,h2⟩:=h
   by_cases e:p.1=k
   ·have e':q.1=k:=h1.symm.trans e;have b:valueAt (q :: qs) k=some q.2:=by simp [valueAt,uk0,e']
    rw [G5 e,b];exact h2
   ·have e':¬q.1=k:=λz=>e (h1.trans z);have b:valueAt (q :: qs) k=valueAt qs k:=by simp [valueAt,uk0,e']
    rw [G0 e,b];exact ih
theorem KV.any {kvs:List (κ×V)}{vs:List (κ×Value)}(r:KV kvs vs)(k:κ):(kvs.any λkv=>decide (kv.1=k))=vs.any λkv=>decide (kv.1=k):=by
 unfold KV at r
 induction r with
 | nil=>rfl
 | cons h t ih=>rw [um3,um3,ih,h.1]
theorem KV.repl {kvs:List (κ×V)}{vs:List (κ×Value)}(r:KV kvs vs)(k:κ){y:V}{u:Value}(ry:RelV y u) :
 KV (kvs.map λkv=>if kv.1=k then (kv.1,y) else kv) (vs.map λkv=>if kv.1=k then (kv.1,u) else kv):=by
 unfold KV at r ⊢
 induction r with
 | nil=>exact .nil
 | @cons p q ps qs h t ih=>
   rw [um0,um0];refine .cons ?_ ih;obtain ⟨h1,h2⟩:=h
   by_cases e:p.1=k
   ·rw [if_pos e,if_pos (h1.symm.trans e)];exact ⟨h1,ry⟩
   ·rw [if_neg e,if_neg (λz=>e (h1.trans z))];exact ⟨h1,h2⟩
theorem KV.put {kvs:List (κ×V)}{vs:List (κ×Value)}(r:KV kvs vs)(k:κ){y:V}{u:Value}(ry:RelV y u):KV (DK kvs k y) (stored vs k u):=by
 unfold DK stored;rw [r.any k]
 by_cases e:(vs.any λkv=>decide (kv.1=k))=true
 ·rw [if_pos e,if_pos e];exact r.repl k ry
 ·rw [if_neg e,if_neg e];exact Paired.snoc r ⟨rfl,ry⟩
theorem KV.length {kvs:List (κ×V)}{vs:List (κ×Value)}(r:KV kvs vs):kvs.length=vs.length:=Paired.length r
end
theorem JV {k:Key}{u:Value}(r:RelV (kV k) u):(BH P w).is k u=true:=by
 cases k with
 | inl i=>obtain ⟨t,e⟩:=(show ∃t,u=Value.int i t from r);subst e;exact Nn P w i t
 | inr x=>obtain ⟨t,e⟩:=(show ∃t,u=Value.str x t from r);subst e;exact No P w x t
theorem Lm {P:Program}{w:World}:∀{ks:List Key} {us:List Value},Vals (ks.map kV) us->ItemsAre (BH P w) ks us
 | [],_,r=>by rw [un8] at r;cases r;exact .nil
 | k :: ks,_,r=>by
   rw [um0] at r
   cases r with
   | cons h t=>exact .cons (JV h) (Lm t)
abbrev KT (H:Hp):List (List Key×V)->List (List Key×Addr×Value)->Prop:=Paired λp q=>p.1=q.1/\H q.2.1=some (.tup (p.1.map kV))/\RelV p.2 q.2.2
variable {H:Hp}
theorem KT.val {kvs:List (List Key×V)}{xs:List (List Key×Addr×Value)}(r:KT H kvs xs)(k:List Key):RelO (DM kvs k) ((atKey xs k).map (·.2)):=by
 induction r with
 | nil=>exact True.intro
 | @cons p q ps qs h t ih=>
   obtain ⟨h1,_,h2⟩:=h
   by_cases e:p.1=k
   ·have e':q.1=k:=h1.symm.trans e;have b:atKey (q :: qs) k=some q.2:=by simp [atKey,uk0,e']
    rw [G5 e,b];exact h2
   ·have e':¬q.1=k:=λz=>e (h1.trans z);have b:atKey (q :: qs) k=atKey qs k:=by simp [atKey,uk0,e']
    rw [G0 e,b];exact ih
variable {kvs:List (Key×V)}
section
variable {P:Program}{w:World}{H:Hp}{h:Heap}{a:Addr}
theorem Ud {u:HO}(ok:HOk P w H h)(e:Rd H a u):ObjOk P w H h a u:=e.ok ok
theorem T1 (ok:HOk P w H h)(e:Rd H a (.dK kvs)):kvs.length<=sizeLine/\(a == sysModules)=false/\∃vs,KV kvs vs/\h.DictOf (BH P w) a vs:=
 show ObjOk P w H h a (.dK kvs) from Ud ok e
theorem LK (ok:HOk P w H h)(e:H a=some (.dK kvs)):kvs.length<=sizeLine/\(a == sysModules)=false/\∃vs,KV kvs vs/\h.DictOf (BH P w) a vs:=T1 ok (.inl e)
theorem Ql {ks:List Key}(ok:HOk P w H h)(e:H a=some (.tup (ks.map kV))):(tupleKind (BH P w)).is h ks a:=by
 obtain ⟨_,its,r,o,h1,h2,n,h3⟩:=(show ObjOk P w H h a (.tup (ks.map kV)) from ok a _ e);exact ⟨o,its.toArray,n,h1,h2,h3,by simpa using Lm r⟩
theorem Zv {kvs:List (List Key×V)}(ok:HOk P w H h)(e:Rd H a (.dT kvs)):kvs.length<=sizeLine/\(a == sysModules)=false/\
 ∃xs,KT H kvs xs/\h.DictOfH (tupleKind (BH P w)) a xs:=by
 obtain ⟨z,y,xs,r,o,es,ep,h1,h2,h3,h4,h5⟩:=(show ObjOk P w H h a (.dT kvs) from Ud ok e);refine ⟨z,y,xs,r,o,es,ep,h1,h2,h3,h4,λx hx=>?_,h5⟩;have all:∀{l:List (List Key×V)} {m:List (List Key×Addr×Value)},KT H l m->∀x∈m,(tupleKind (BH P w)).is h x.1 x.2.1:=by
  intro l m q
  induction q with
  | nil=>intro x hx;exact nomatch hx
  | @cons p q ps qs hq t ih=>
    intro x hx;rcases ul9.mp hx with e | hx
    ·subst e;exact Ql ok (by rw [<-hq.1];exact hq.2.1)
    ·exact ih x hx
 exact all r x hx
end
def DGet (H:Hp)(a:Addr)(y:V)(r:Option V):Prop:=
 (∃kvs k,Rd H a (.dK kvs)/\y=kV k/\r=DM kvs k)\/∃kvs k b,Rd H a (.dT kvs)/\y = .ref b/\H b=some (.tup (k.map kV))/\r=DM kvs k
def dm (H:Hp)(a:Addr)(y v:V)(H':Hp):Prop:=
 (∃kvs k,H a=some (.dK kvs)/\y=kV k/\kvs.length < sizeLine/\H'=upd H a (.dK (DK kvs k v)))\/
 ∃kvs k b,H a=some (.dT kvs)/\y = .ref b/\H b=some (.tup (k.map kV))/\kvs.length < sizeLine/\H'=upd H a (.dT (DK kvs k v))
theorem DGet.k {a:Addr}{k:Key}(e:H a=some (.dK kvs)):DGet H a (kV k) (DM kvs k):=.inl ⟨kvs,k,.inl e,rfl,rfl⟩
section
variable {X:Cx}{pins:List (Addr×Obj)}{Z:St}{H:Hp}{s:Shared}{a:Addr}{y v:V}{u r:Value}{o:Option V}{A:Around}{E:Value->Shared->Prop}
theorem Inv.big (I:Inv X pins Z H s):sysModules < s.heap.objs.size:=by
 have h:mainGlobals < s.heap.objs.size:=(I.mod.glob.keeps I.bk).lt;exact Nat.lt_trans (by decide) h
theorem bg {Q:Value->Shared->Prop}(hu:A.units + 1 < cLine)(I:Inv X pins Z H s)(g:DGet H a y o)(ry:RelV y u)(h:∀s',Inv X pins Z H s'->Q (.bool o.isSome) s') :
 wpAny (model X.prog X.w) A (compareOp .In u (.ref a)) Q E s:=by
 rcases g with ⟨kvs,k,e,ey,l⟩ | ⟨kvs,k,b,e,ey,eb,l⟩
 ·subst ey;obtain ⟨z,hd,vs,rel,dd⟩:=T1 I.hok e;refine wpAny_in_of (JV ry) hd dd.mapOf ?_;rw [<-(rel.val k).isSome_eq,<-l];exact h _ (I.tok _)
 ·subst ey
  cases (show u=Value.ref b from ry)
  obtain ⟨z,hd,xs,rel,dd⟩:=Zv I.hok e;refine wpAny_in_heap (tupleKind_room_in1 hu) (Ql I.hok eb) hd dd ?_;have q:=(rel.val k).isSome_eq;rw [Option.isSome_map] at q;rw [<-q,<-l];exact h _ (I.tok _)
theorem NB {h':Heap}{t':Nat}{ob:HO}(I:Inv X pins Z H s)(mu:Mut (H a))(hs:Heap.SameBut a s.heap h')(he:∃q,h'.get? a=some q)(new:ObjOk X.prog X.w (upd H a ob) h' a ob) :
 Inv X pins Z (upd H a ob) { s with heap:=h',toks:=t' }:=
 I.write (x:=a) (e:=a) mu (.inl rfl) (λb q hb z=>(hs.2 b hb).trans z) he new
theorem Mo {H':Hp}{h':Heap}{vs:List (Key×Value)}(z:kvs.length<=sizeLine)(hd:(a == sysModules)=false)(rel:KV kvs vs)(dd:h'.DictOf (BH P w) a vs) :
 ObjOk P w H' h' a (.dK kvs):=⟨z,hd,vs,rel,dd⟩
end
section
variable {X:Cx}{pins:List (Addr×Obj)}{Z:St}{H:Hp}{s:Shared}{a:Addr}{kvs:List (Key×V)}{k:Key}{u:Value}{A:Around}{E:Value->Shared->Prop}
end
section
variable {X:Cx}{o i e value:Expr}{pos pos' tpos:Pos}{td ty tv:TE}
end
theorem Mn (h:Heap)(hb:sysModules < h.objs.size):ObjOk P w H (h.push { cls:=.type "dict",data:=.dict #[] }) h.objs.size (.dK []):=
 ⟨uo8 _,beq_eq_false_iff_ne.mpr (Ne.symm (un2 hb)),[],.nil,Heap.DictOf.new h⟩
def YY:TE:=λ_ H Q=>∀p,H p=none->Q (.ref p) (upd H p (.dK []))
section
variable {X:Cx}{pos:Pos}
theorem SU:PE X (.Dict [] [] pos) YY:=λpins s Z H Q I h=>
 wpAny_Dict_empty ⟨.ref s.heap.objs.size,_,I.laid (a:=s.heap.objs.size) (o:=.dK []) (t':=s.toks) (λ_ _ q=>uc3 _ q) (uo7 _) (Mn s.heap I.big),rfl,h _ (I.hok.fresh (uo7 _))⟩
end
def Kl:List (TE×TE)->St->Hp->(List (V×V)->Hp->Prop)->Prop
 | [],_,H,Q=>Q [] H
 | (tk,tv) :: r,Z,H,Q=>tk Z H λx H1=>tv Z H1 λy H2=>Kl r Z H2 λps H3=>Q ((x,y) :: ps) H3
abbrev VV:List (V×V)->List (Value×Value)->Prop:=Paired λp q=>RelV p.1 q.1/\RelV p.2 q.2
def PPs (X:Cx)(pos:Pos)(keys:List (Option Expr))(values:List Expr)(trs:List (TE×TE)):Prop:=
 ∀(pins:List (Addr×Obj)) (s:Shared) (Z:St) (H:Hp) (Q:List (V×V)->Hp->Prop),Inv X pins Z H s->Kl trs Z H Q->
  wpAny (model X.prog X.w) X.A (evalPairs (pairTrees keys values X.env pos)) (λvs s'=>∃ps H',Inv X pins Z H' s'/\VV ps vs/\Q ps H') X.xe s
theorem VS {pos:Pos}:PPs X pos [] [] []:=λpins s Z H Q I h=>pairTrees_nil_walk ⟨[],H,I,.nil,h⟩
theorem Tf {pos:Pos}{k v:Expr}{ks:List (Option Expr)}{vs:List Expr}{tk tv:TE}{trs:List (TE×TE)}(hk:PE X k tk)(hv:PE X v tv)(hr:PPs X pos ks vs trs) :
 PPs X pos (some k :: ks) (v :: vs) ((tk,tv) :: trs):=λpins s Z H Q I h=>
 pairTrees_cons_walk (thn (hk pins s Z H _ I h) λu s1 ⟨x,H1,I1,rx,q1⟩=>thn (hv pins s1 Z H1 _ I1 q1) λw2 s2 ⟨y,H2,I2,ry,q2⟩=>
  thn (hr pins s2 Z H2 _ I2 q2) λws s3 ⟨ps,H3,I3,rel,q3⟩=>⟨(x,y) :: ps,H3,I3,.cons ⟨rx,ry⟩ rel,q3⟩)
def FL (kvs more:List (Key×V)):List (Key×V):=more.foldl (λacc kv=>DK acc kv.1 kv.2) kvs
theorem KV.merge:∀{more:List (Key×V)} {rs:List (Key×Value)} {kvs:List (Key×V)} {vs:List (Key×Value)},KV more rs->KV kvs vs->KV (FL kvs more) (merged vs rs):=by
 intro more rs kvs vs r;unfold KV at r
 induction r generalizing kvs vs with
 | nil=>intro q;exact q
 | @cons p q ps qs h t ih=>
   intro r0;have e:KV (DK kvs p.1 p.2) (stored vs q.1 q.2):=by
    have:=r0.put p.1 h.2;rw [<-h.1];exact this
   exact ih e
theorem G8:∀(more kvs:List (Key×V)),(FL kvs more).length<=kvs.length + more.length
 | [],kvs=>by show kvs.length<=kvs.length + 0;lia
 | p :: r,kvs=>by
   have h1:=G8 r (DK kvs p.1 p.2);have h2:=IL kvs p.1 p.2;show (FL (DK kvs p.1 p.2) r).length<=_;rw [uh5];lia
theorem JK {P:Program}{w:World}:∀{kvs:List (Key×V)} {ws:List (Value×Value)},VV (kvs.map λkv=>(kV kv.1,kv.2)) ws->∃rs,Carries (BH P w) ws rs/\KV kvs rs
 | [],_,r=>by rw [un8] at r;cases r;exact ⟨[],True.intro,.nil⟩
 | p :: kvs,_,r=>by
   rw [um0] at r
   cases r with
   | @cons a b as bs h t=>
     obtain ⟨rs,c,q⟩:=JK (P:=P) (w:=w) t;obtain ⟨b1,b2⟩:=b;exact ⟨(p.1,b2) :: rs,⟨JV h.1,rfl,c⟩,.cons ⟨rfl,h.2⟩ q⟩
def Z7 (trs:List (TE×TE)):TE:=λZ H Q=>∀p,H p=none->Kl trs Z (upd H p (.dK [])) λps H2=>H2 p=some (.dK [])/\∃kvs:List (Key×V),ps=kvs.map (λkv=>(kV kv.1,kv.2))/\kvs.length<=15/\Q (.ref p) (upd H2 p (.dK (FL [] kvs)))
theorem VG {pos:Pos}{keys:List (Option Expr)}{values:List Expr}{trs:List (TE×TE)}(h:PPs X pos keys values trs)(hall:keys.all (·.isSome)=true)(hl:keys.length=values.length)(h0:keys≠[])
 (h15:keys.length<=15):PE X (.Dict keys values pos) (Z7 trs):=by
 intro pins s Z H Q I q;have hn:=I.hok.fresh (uo7 s.heap.objs.size);have I1:=I.laid (a:=s.heap.objs.size) (o:=.dK []) (h':=s.heap.push { cls:=.type "dict",data:=.dict #[] }) (t':=s.toks) (λ_ _ q=>uc3 _ q) (uo7 _) (Mn s.heap I.big);refine wpAny_Dict_walk (knd:=BH X.prog X.w) hall hl h0 h15 (thn (h pins _ Z _ _ I1 (q _ hn)) λws s2 z9=>?_);obtain ⟨ps,H2,I2,rel,e,kvs,ep,lk,q2⟩:=z9;subst ep;obtain ⟨rs,c,rk⟩:=JK (P:=X.prog) (w:=X.w) rel;obtain ⟨z,hd,vs0,r0,dd⟩:=LK I2.hok e
 cases r0
 refine ⟨rs,c,dd,λh' dd' hs=>⟨.ref s.heap.objs.size,_,?_,rfl,q2⟩⟩;have hz:(FL [] kvs).length<=sizeLine:=by
  have h1:=G8 kvs [];rw [uk1] at h1;rw [sizeLine_eq];lia
 have he:∃q,h'.get? s.heap.objs.size=some q:=let ⟨q,_,_,hq,_⟩:=dd';⟨q,hq⟩;exact NB I2 (by rw [e];exact True.intro) hs he (Mo hz hd (rk.merge .nil) dd')
theorem Fz {env:Env}:∀(l:List (Str×NameKind)) (cs:List (Str×Addr)),(∀x c,cs.lookup x=some c->env.cells.lookup x=some c)->(∀y∈l,y.2 = .free->∃c,env.cells.lookup y.1=some c)->
 ∃cl,(forIn l cs λ(x:Str×NameKind) r=>(match x with | (name,kind)=>if (kind == NameKind.free)=true then do let c <-cellOf env name;pure (ForInStep.yield ((name,c) :: r)) else pure (ForInStep.yield r):Sem (ForInStep (List (Str×Addr)))))=pure cl/\
  (∀x c,cl.lookup x=some c->env.cells.lookup x=some c)/\(∀x c,cs.lookup x=some c->∃c',cl.lookup x=some c')/\∀y∈l,y.2 = .free->∃c,cl.lookup y.1=some c
 | [],cs,h,_=>⟨cs,rfl,h,λ_ c e=>⟨c,e⟩,λ_ z=>nomatch z⟩
 | (n,k) :: l,cs,h,hf=>by
   by_cases hk:k = .free
   ·subst hk;obtain ⟨c,hc⟩:=hf (n,.free) uf2 rfl;have hc':env.cells.lookup n=some c:=hc;have e:cellOf env n=pure c:=by unfold cellOf;rw [hc']
    obtain ⟨cl,e1,e2,e3,e4⟩:=Fz l ((n,c) :: cs) (λx c' q=>by
     rw [ui0] at q
     by_cases hx:(x == n)=true
     ·rw [hx] at q;cases q;rw [eq_of_beq hx];exact hc'
     ·rw [ug7.mpr hx] at q;exact h x c' q) (λy hy=>hf y (ud9 _ hy))
    have self:((n,c) :: cs).lookup n=some c:=by rw [ui0,uj0]
    refine ⟨cl,?_,e2,λx c' q=>?_,λy hy hyf=>?_⟩
    ·rw [List.forIn_cons];simp only [uj0,if_true,e];exact e1
    ·by_cases hx:(x == n)=true
     ·rw [eq_of_beq hx];exact e3 n c self
     ·exact e3 x c' (by rw [ui0,ug7.mpr hx];exact q)
    ·rcases ul9.mp hy with z | z
     ·subst z;exact e3 n c self
     ·exact e4 y z hyf
   ·have hb:(k == NameKind.free)=false:=by simpa using hk
    obtain ⟨cl,e1,e2,e3,e4⟩:=Fz l cs h (λy hy=>hf y (ud9 _ hy));refine ⟨cl,?_,e2,e3,λy hy hyf=>?_⟩
    ·rw [List.forIn_cons];simp only [hb,uf7,if_false];exact e1
    ·rcases ul9.mp hy with z | z
     ·subst z;exact absurd hyf hk
     ·exact e4 y z hyf
theorem JL {scope:Scope}{env:Env}(h:∀y∈scope.names,y.2 = .free->∃c,env.cells.lookup y.1=some c) :
 ∃cl,closureFor scope env=pure cl/\(∀x c,cl.lookup x=some c->env.cells.lookup x=some c)/\∀y∈scope.names,y.2 = .free->∃c,cl.lookup y.1=some c:=by
 obtain ⟨cl,e1,e2,_,e4⟩:=Fz (env:=env) scope.names [] (λ_ _ q=>nomatch q) h;refine ⟨cl,?_,e2,e4⟩;simp only [closureFor]
 first | (rw [e1];rfl) | (simp only [e1];rfl) | (trace_state;exact e1)
theorem Ml {prog:Program}{A:Around}{R:Result->Shared->Prop}{s:Shared}{elt target iter:Expr}{ifs:List Expr}{scope:Scope}{pos:Pos}{it acc:Value}{env:Env}(I:Nat->Shared->Prop)
 (turn:∀n s,I n s->wpAny (model prog w) A (pyNext it) (λr s₁=>match r with
   | none=>R (.ok .next) s₁
   | some v=>wpAny (model prog w) A (letOwnedTupleGo target it v) (λ_ s₁'=>wpAny (model prog w) A (assign target env v) (λ_ s₂=>
      wpAny (model prog w) A (forIn ifs true λc r=>if r=true then do let ok <-isTrue c env (eval c env);pure (ForInStep.yield ok) else pure (ForInStep.yield r)) (λok s₃=>
       if ok=true then wpAny (model prog w) A (eval elt env) (λx s₄=>
        wpAny (model prog w) A (call (.builtin "list.append") [acc,x]) (λ_ s₅=>∃m,m < n/\I m s₅) (λ_ _=>False) s₄) (λ_ _=>False) s₃
       else ∃m,m < n/\I m s₃) (λ_ _=>False) s₂) (λ_ _=>False) s₁') (λ_ _=>False) s₁) (λ_ _=>False) s)
 (n:Nat) (h:I n s) :
 codeAny (model prog w) A (.compLoop (.ListComp elt [⟨target,iter,ifs,0⟩] scope pos) 0 it acc env) R s:=by
 refine codeAny_loop rfl I (λn s hI=>?_) n h;show wpAny _ A ((compTurn (.ListComp elt [⟨target,iter,ifs,0⟩] scope pos) 0 it acc env).onRaise (λx=>do noteFrame x env;theTreesLotGoes x)) _ _ s;refine wpAny_noted ?_;rw [compTurn_list];refine up1 (wpAny_standAt (up1 (up3 (turn n s hI) (λr s₁ h₁=>?_) λ_ _ h'=>h'.elim)))
 cases r with
 | none=>exact up2 h₁
 | some v=>
   refine up1 (up3 h₁ (λ_ s₁' h₁'=>?_) λ_ _ h'=>h'.elim);refine up1 (up3 h₁' (λ_ s₂ h₂=>up1 (up3 h₂ (λok s₃ h₃=>?_) λ_ _ h'=>h'.elim)) λ_ _ h'=>h'.elim)
   cases ok with
   | false=>exact up2 ⟨rfl,h₃⟩
   | true=>
     exact up1 (up1 (up3 h₃ (λx s₄ h₄=>up1 (up3 h₄ (λ_ s₅ h₅=>up2 (up2 ⟨rfl,h₅⟩)) λ_ _ h'=>h'.elim)) λ_ _ h'=>h'.elim))
end L2
namespace L2
open PySem PySem.Spec PyProof.Rows
noncomputable def Cc (X:Cx)(N':List Str)(scope:Scope)(cl:List (Str×Addr))(C:Addr)(s2:Shared)(H2:Hp)(fp:List Addr):Cx where
 prog:=X.prog
 w:=X.w
 K:=X.K
 mg:=X.mg
 base:=X.base
 A:=X.A
 N:=N'
 s₀:=s2
 H₀:=H2
 env:=compEnvC scope cl C X.env
 outer:=X.stack
 stack:=X.stack
 ex:=fp
 fn:=λ_=>false
 calm:=X.calm
 pn:=[]
 xe:=λ_ _=>False
theorem IM (h:Str->NameKind->NameKind)(x:Str):∀l:List (Str×NameKind),(l.map λp=>(p.1,h p.1 p.2)).lookup x=(l.lookup x).map (h x)
 | []=>rfl
 | (n,k) :: l=>by
   show List.lookup x ((n,h n k) :: _)=_;rw [ui0,ui0]
   by_cases hx:(x == n)=true
   ·rw [hx,eq_of_beq hx];rfl
   ·rw [ug7.mpr hx];exact IM h x l
theorem Gp (scope:Scope)(env:Env)(x:Str):(relabel scope env).names.lookup x=(scope.names.lookup x).map λk=>if (k == .free && env.scope.kind == .function && env.kindOf x == some .cell)=true then .cell else k:=by
 rw [<-IM (λn k=>if (k == NameKind.free && env.scope.kind == .function && env.kindOf n == some .cell)=true then .cell else k) x scope.names];unfold relabel;dsimp only
 congr 1
 apply ue7;intro p _;obtain ⟨n,k⟩:=p;dsimp only
 split <;> rfl
theorem CF {x:Str}{k:NameKind}:∀{l:List (Str×NameKind)},l.lookup x=some k->(x,k)∈l
 | (n,k') :: l,h=>by
   rw [ui0] at h
   by_cases hx:(x == n)=true
   ·rw [hx] at h;cases h;rw [eq_of_beq hx];exact uf2
   ·rw [ug7.mpr hx] at h;exact ud9 _ (CF h)
theorem MX {scope:Scope}{env:Env}{x:Str}(hcell:∀y∈scope.names,y.2≠.cell)(h:(relabel scope env).names.lookup x=some .cell\/(relabel scope env).names.lookup x=some .free):scope.names.lookup x=some .free:=by
 rw [Gp] at h
 cases e:scope.names.lookup x with
 | none=>rw [e] at h;rcases h with h | h <;> cases h
 | some k=>
   by_cases hk:k = .free
   ·rw [hk]
   ·have hb:(k == NameKind.free)=false:=by simpa using hk
    rw [e] at h;simp only [uk2,hb,ul2,uf7,if_false] at h;rcases h with h | h
    ·cases h;exact absurd rfl (hcell _ (CF e))
    ·cases h;exact absurd rfl hk
def PIf (X:Cx)(ifs:List Expr)(t:TT):Prop:=
 ∀(pins:List (Addr×Obj)) (s:Shared) (Z:St) (H:Hp) (Q:Bool->Hp->Prop),Inv X pins Z H s->t Z H Q->
  wpAny (model X.prog X.w) X.A (forIn ifs true λc r=>if r=true then do let ok <-isTrue c X.env (eval c X.env);pure (ForInStep.yield ok) else pure (ForInStep.yield r)) (TP X pins Z Q) X.xe s
def ae:TT:=λ_ H Q=>Q true H
theorem VN {X:Cx}:PIf X [] ae:=λ_ _ _ H _ I h=>wpAny_tests_nil ⟨H,I,h⟩
def Ra (J:It)(g:TG)(tt:TT)(te:TE)(σ₀:St)(H1:Hp)(Fin:List V->Hp->Prop):Prop:=
 ∃W:Nat->Nat->List V->St->Hp->Prop,(∃m,W 0 m [] σ₀ H1)/\∀i m acc Z' H',W i m acc Z' H'->acc.length<=sizeLine/\
  ((J.stop i H'/\Fin acc H')\/
    (J.go i H'/\∀x H2,J.yld i H' x H2->g x Z' H2 λσ3 H3=>tt σ3 H3 λb H4=>if b=true then te σ3 H4 λv H5=>∃m',m' < m/\W (i + 1) m' (acc++[v]) σ3 H5 else ∃m',m' < m/\W (i + 1) m' acc σ3 H4))
def O7 (wi:TI)(g:TG)(tt:TT)(te:TE)(σf:St->St):TE:=λZ H Q=>wi Z H λJ H1=>Ra J g tt te (σf Z) H1 λacc H'=>∀p,H' p=none->acc.length<=sizeLine->Q (.ref p) (upd H' p (.lst acc))
structure CmpOk (X:Cx)(scope:Scope)(N':List Str)(σf:St->St):Prop where
 kind:scope.kind = .function
 cell:∀y∈scope.names,y.2≠.cell
 loc:∀y∈scope.names,y.2 = .local->scope.names.lookup y.1=some .local
 free:∀y∈scope.names,y.2 = .free->X.env.kindOf y.1=some .cell\/X.env.kindOf y.1=some .free
 len:∀Z:St,Z.length=X.N.length->(σf Z).length=N'.length
 vals:∀(Z:St) (j:Nat) (x:Str) (v:V),N'[j]?=some x->(σf Z)[j]?=some (some v)->∃i:Nat,X.N[i]?=some x/\Z[i]?=some (some v)/\scope.names.lookup x=some .free
variable {pins:List (Addr×Obj)}{Z:St}{H2:Hp}{s2:Shared}{cl:List (Str×Addr)}{fp:List Addr}
section
variable {X:Cx}{tg elt iter:Expr}{ifs:List Expr}{scope:Scope}{pos:Pos}{N':List Str}{wi:TI}{g:TG}{tt:TT}{te:TE}{σf:St->St}
theorem W7 {C:Addr}(O:CmpOk X scope N' σf)(I2:Inv X pins Z H2 s2)(f2:∀b∈fp,FpOk X pins H2 b)(hC:s2.heap.objs.size<=C)
 (hlt:∀b∈fp,b < s2.heap.objs.size) (e2:∀x c,cl.lookup x=some c->X.env.cells.lookup x=some c) (e4:∀y∈scope.names,y.2 = .free->∃c,cl.lookup y.1=some c):(Cc X N' scope cl C s2 H2 fp).Ok where
 mod:=I2.ok.mod
 kind:=O.kind
 glob:=I2.ok.glob
 blt:=I2.ok.blt
 above:=hC
 inj:=λx y c h1 h2=>I2.ok.inj x y c (e2 x c h1) (e2 y c h2)
 has:=λx h=>by
  have q:=MX (env:=X.env) (x:=x) O.cell h;exact e4 _ (CF q) rfl
 cab:=λx c h _=>nomatch h
 hd:=I2.ok.hd
 frames:=I2.ok.frames
 stk:=.inl rfl
 exf:=λb hb=>⟨un2 (uf1 (hlt b hb) hC),λx c e=>(f2 b hb).2.2.2.2.1 x c (e2 x c e)⟩
 bs:=I2.bs
 bsz:=un3 I2.ok.bsz I2.sz
 noex:=λb o e hb=>by
  rcases (f2 b hb).2.2.2.1 with z | z
  ·exact I2.ok.noex b o e z
  ·exact absurd (uf1 (un1 (I2.ok.bs b o e).1) z) (ul8 _)
 exfs:=λb hb z=>by
  rcases ul9.mp (I2.stkSub b z) with q | q
  ·exact (f2 b hb).2.1 q
  ·exact (f2 b hb).2.2.1 q
 funs:=I2.stack
 frf:=I2.stkFree
theorem YU (I2:Inv X pins Z H2 s2){a:Addr}(h:s2.heap.objs.size<=a):a∉frs X.stack:=λhb=>by
 rcases ul9.mp (I2.stkSub a hb) with q | q
 ·exact absurd (uf1 I2.lt h) (by rw [q];exact ul8 _)
 ·exact I2.nofs h q
theorem L5 {it:Addr}{tn:Nat->Heap->Prop}{J:It}{Fin:List V->Hp->Prop}{RR:Value->Addr->Result->Shared->Prop}{E:Value->Shared->Prop}(O:CmpOk X scope N' σf)(hc:X.calm=true)
 (I2:Inv X pins Z H2 s2) (T:Turn X.prog X.w X.K tg J fp it tn) (st2:tn 0 s2.heap) (f2:∀b∈fp,FpOk X pins H2 b)
 (e2:∀x c,cl.lookup x=some c->X.env.cells.lookup x=some c) (e4:∀y∈scope.names,y.2 = .free->∃c,cl.lookup y.1=some c)
 (hg:∀C,PG (Cc X N' scope cl C s2 H2 fp) tg g) (ht:∀C,PIf (Cc X N' scope cl C s2 H2 fp) ifs tt) (he:∀C,PE (Cc X N' scope cl C s2 H2 fp) elt te)
 (B:Ra J g tt te (σf Z) H2 Fin)
 (fin:∀C s' Z' H' acc m,s2.heap.objs.size<=C->C≠s2.heap.objs.size->Inv (Cc X N' scope cl C s2 H2 fp) [] Z' H' s'->H' s2.heap.objs.size=none->acc.length<=sizeLine->(∃its n,Vals acc its/\s'.heap.get? s2.heap.objs.size=some { cls:=.type "list",data:=.seq its.toArray n })->Fin acc H'->s'.heap.Ns C m->
   RR (.ref s2.heap.objs.size) C (.ok .next) s') :
 wpAny (model X.prog X.w) X.A (newList []) (λacc s₃=>wpAny (model X.prog X.w) X.A (newFunctionEnv scope X.env.globals cl [] X.env.qual none .none (some X.env)) (λcenv s₄=>
  codeAny (model X.prog X.w) X.A (.compStart (.ListComp elt [⟨tg,iter,ifs,0⟩] scope pos) 0 (.ref it) acc { cenv with scope:=relabel scope X.env }) (RR acc cenv.locals) s₄) E s₃) E s2:=by
 refine wpAny_newObj_type (wpAny_newFunctionEnv O.cell (by intro y hy;simp at hy) (λh₁ hns₁ hsb₁=>?_) O.kind);dsimp only at hns₁ hsb₁ ⊢;generalize hH2:s2.heap.push { cls:=.type "list",dict:=none,data:=.seq ([]:List Value).toArray }=HP at hns₁ hsb₁ ⊢;have hC:HP.objs.size=s2.heap.objs.size + 1:=by rw [<-hH2,ul3]
 generalize hDD:s2.heap.objs.size=DD at *;generalize hCC:HP.objs.size=CC at *;have hDC:DD≠CC:=by rw [hC];exact un2 (uh6 _)
 have hCle:s2.heap.objs.size<=CC:=by rw [hC,hDD];exact uo9 _
 have hlt:∀b∈fp,b < s2.heap.objs.size:=λb hb=>by obtain ⟨o,e,_⟩:=T.obj _ _ st2 b hb;exact un1 e
 have hlt':∀b∈fp,b < DD:=λb hb=>by rw [<-hDD];exact hlt b hb
 have below:∀b,b < DD->b≠CC/\b≠DD:=λb hb=>⟨by rw [hC];exact un2 (ug8 hb),un2 hb⟩;have old:∀b o,s2.heap.get? b=some o->h₁.get? b=some o:=λb o e=>hsb₁.extBut b o (below b (by rw [<-hDD];exact un1 e)).1 (uc3 _ (hH2 ▸ uc3 _ e));have hacc:h₁.get? DD=some { cls:=.type "list",data:=.seq ([]:List Value).toArray }:=by
  refine hsb₁.extBut _ _ hDC (uc3 _ ?_);rw [<-hH2,<-hDD];exact ue4 _ rfl
 have ok:=W7 (cl:=cl) (C:=CC) O I2 f2 hCle hlt e2 e4;have hfs:DD∉frs X.stack:=YU I2 (by rw [hDD];exact uo7 _);obtain ⟨W,⟨m0,w0⟩,turn⟩:=B
 let X':Cx:=Cc X N' scope cl CC s2 H2 fp
 have I0:Inv X' [] (σf Z) H2 { s2 with heap:=h₁,toks:=s2.toks + ([]:List (Str×Value)).length }:=by
  refine ⟨ok,rfl,I2.bare,Un.kept old,⟨_,hns₁,λj x v q1 q2 q3=>?_⟩,λx c e=>?_,I2.hok.fresh hCle,λx c e=>I2.freeC x c (e2 x c e),(λp hp=>nomatch hp),I2.hok.kept old,O.len Z I2.len⟩
  ·obtain ⟨i,n1,n2,n3⟩:=O.vals Z j x v q1 q2;obtain ⟨m,_,hl⟩:=I2.loc;have hfr:=O.free _ (CF n3) rfl;obtain ⟨u,r,l⟩:=hl i x v n1 n2 (.inr hfr);refine ⟨u,r,?_⟩;rcases l with ⟨k,_⟩ | ⟨_,c,ec,hcell⟩
   ·rcases hfr with z | z <;> (have z':=k.symm.trans z;cases z')
   ·obtain ⟨c',ec'⟩:=e4 _ (CF n3) rfl;have z:=e2 _ _ ec';have ez:X.env.cells.lookup x=some c':=z;rw [ec] at ez
    cases ez
    refine .inr ⟨?_,c,ec',?_⟩
    ·show (relabel scope X.env).names.lookup x=some .cell\/(relabel scope X.env).names.lookup x=some .free;rw [Gp,n3];simp only [uk2]
     split
     ·exact .inl rfl
     ·exact .inr rfl
    ·obtain ⟨o,ho,hd⟩:=hcell;exact ⟨o,old _ _ ho,hd⟩
  ·obtain ⟨v,o,ho,hd⟩:=I2.cell x c (e2 x c e);exact ⟨v,o,old _ _ ho,hd⟩
 have loop:∀s₃:Shared,s₃ = { s2 with heap:=h₁,toks:=s2.toks + ([]:List (Str×Value)).length }->
  codeAny (model X.prog X.w) X.A (.compLoop (.ListComp elt [⟨tg,iter,ifs,0⟩] scope pos) 0 (.ref it) (.ref DD) (compEnvC scope cl CC X.env)) (RR (.ref DD) CC) s₃:=by
  rintro s₃ rfl;refine Ml (λn s'=>∃i acc its nn Z' H',Inv X' [] Z' H' s'/\tn i s'.heap/\(∀b∈fp,H' b=none)/\Vals acc its/\s'.heap.get? DD=some { cls:=.type "list",data:=.seq its.toArray nn }/\H' DD=none/\W i n acc Z' H') ?_ m0
   ⟨0,[],[],0,σf Z,H2,I0,T.keep _ _ _ st2 (λb _ o e=>old b o e),λb hb=>(f2 b hb).1,.nil,hacc,I2.hok.fresh (by rw [hDD];exact uo7 _),w0⟩
  rintro n s' ⟨i,acc,its,nn,σ3,H3,I3,st3,fr3,hv,hD,hDn,w3⟩;have I3p:Inv X' [(DD,({ cls:=.type "list",data:=.seq its.toArray nn }:Obj))] σ3 H3 s':=I3.pins_of λp hp=>by
   have e:p=(DD,({ cls:=.type "list",data:=.seq its.toArray nn }:Obj)):=by simpa using hp
   subst e;exact ⟨hD,hDn,hDC,hfs,λv z=>nomatch z⟩
  have stat:∀{pins':List (Addr×Obj)} {H':Hp},(∀p∈pins',p.1=DD)->(∀b∈fp,H' b=none)->∀b∈fp,FpOk X' pins' H' b:=λ{pins' H'} hp hn b hb=>
   ⟨hn b hb,(ok.exf b hb).1,ok.exfs b hb,.inl hb,(ok.exf b hb).2,λp hp' z=>by
    have e:p.1=DD:=hp p (by simpa [X',Cc] using hp');exact absurd (hlt' b hb) (by rw [<-z,e];exact ul8 _)⟩
  have one:∀p∈[(DD,({ cls:=.type "list",data:=.seq its.toArray nn }:Obj))],p.1=DD:=λp hp=>by
   have e:p=(DD,({ cls:=.type "list",data:=.seq its.toArray nn }:Obj)):=by simpa using hp
   rw [e]
  obtain ⟨hz,tr⟩:=turn i n acc σ3 H3 w3;rcases tr with ⟨stop,qf⟩ | ⟨go,step⟩
  ·refine thn (T.done X' rfl rfl rfl hc i _ s' σ3 H3 (λ_ _=>False) I3p (stat one fr3) st3 stop) λr s4 z9=>?_;obtain ⟨hr,I4⟩:=z9;subst hr;obtain ⟨m4,hm4,_⟩:=I4.loc;have pD:=(I4.pin (DD,({ cls:=.type "list",data:=.seq its.toArray nn }:Obj)) (by simp [X',Cc])).1;have I4':Inv X' [] σ3 H3 s4:=I4.pins_of λp hp=>nomatch hp;exact fin CC s4 σ3 H3 acc m4 (by rw [hDD] at hCle;exact hCle) (Ne.symm hDC) I4' hDn hz ⟨its,nn,hv,pD⟩ qf hm4
  ·refine thn (T.item X' rfl rfl rfl hc i _ s' σ3 H3 (λ_ _=>False) I3p (stat one fr3) st3 go) λr s4 z9=>?_;obtain ⟨u,hr,h4⟩:=z9;subst hr;refine thn h4 λ_ s5 z9=>?_;obtain ⟨x,H5,I5,r5,y5,st5,fr5⟩:=z9;have I5':=I5.pinned (stat one fr5) (T.obj _ _ st5);refine thn (hg CC _ s5 σ3 H5 x u _ I5' r5 (step x H5 y5)) λ_ s6 z9=>?_;obtain ⟨σ6,H6,I6,q6⟩:=z9;refine thn (ht CC _ s6 σ6 H6 _ I6 q6) λb s7 z9=>?_;obtain ⟨H7,I7,q7⟩:=z9;have back:∀{H8:Hp} {s8:Shared},Inv X' ([(DD,({ cls:=.type "list",data:=.seq its.toArray nn }:Obj))]++HC fp s5.heap) σ6 H8 s8->
    s8.heap.get? DD=some { cls:=.type "list",data:=.seq its.toArray nn }/\H8 DD=none/\tn (i + 1) s8.heap/\(∀b∈fp,H8 b=none)/\Inv X' [] σ6 H8 s8:=λ{H8 s8} I8=>by
    have p1:=I8.pin (DD,({ cls:=.type "list",data:=.seq its.toArray nn }:Obj)) (by simp [X',Cc]);refine ⟨p1.1,p1.2.1,T.keep _ _ _ st5 λb hb o e=>(I8.pin (b,o) (ud1 _ (ud1 _ (Fi hb e)))).1,λb hb=>?_,I8.pins_of λp hp=>nomatch hp⟩;obtain ⟨o,e,_⟩:=T.obj _ _ st5 b hb;exact (I8.pin (b,o) (ud1 _ (ud1 _ (Fi hb e)))).2.1
   cases b with
   | false=>
     rw [if_neg uf3] at q7 ⊢;obtain ⟨m',hm,w7⟩:=q7;obtain ⟨a1,a2,a3,a4,a5⟩:=back I7;exact ⟨m',hm,i + 1,acc,its,nn,σ6,H7,a5,a3,a4,hv,a1,a2,w7⟩
   | true=>
     rw [if_pos rfl] at q7 ⊢;refine thn (he CC _ s7 σ6 H7 _ I7 q7) λy s8 z9=>?_;obtain ⟨v8,H8,I8,r8,m',hm,w8⟩:=z9;obtain ⟨a1,a2,a3,a4,a5⟩:=back I8;have hsz:its.toArray.size<=sizeLine:=by
      have e:=hv.length;simpa [e] using hz
     refine wpAny_list_append_plain (hsz:=hsz) ⟨nn,a1⟩ λh9 hl9 hs9=>?_;obtain ⟨n9,e9⟩:=hl9;have e9':h9.get? DD=some { cls:=.type "list",data:=.seq (its++[y]).toArray n9 }:=by simpa using e9
     refine ⟨m',hm,i + 1,acc++[v8],its++[y],n9,σ6,H8,a5.turned (t':=s8.toks) (h':=h9) (it:=DD) (λb o hb e=>hs9.extBut b o hb e) a2 hDC (.inr (show s2.heap.objs.size<=DD by rw [hDD];exact uo7 _)) (λx' c e z=>?_) (λp hp=>nomatch hp),T.keep _ _ _ a3 λb hb o e=>hs9.extBut b o (un2 (hlt' b hb)) e,a4,hv.append (.cons r8 .nil),e9',a2,w8⟩;obtain ⟨v,o,ho,hd⟩:=I2.cell x' c (e2 x' c e);have:=un1 ho;rw [hDD,z] at this;exact ul8 _ this
 exact codeAny_compStart_list (loop _ rfl) (T.self _ 0 _ _ _ (T.keep _ _ _ st2 λb _ o e=>old b o e) (loop _ rfl))
end
section
variable {X:Cx}{tg elt iter:Expr}{ifs:List Expr}{scope:Scope}{pos:Pos}{N':List Str}{wi:TI}{g:TG}{tt:TT}{te:TE}{σf:St->St}
theorem Le {Z':St}{H':Hp}{s':Shared}{C:Addr}{acc:List V}{its:List Value}{n:Nat}{h':Heap}(I2:Inv X pins Z H2 s2)(f2:∀b∈fp,FpOk X pins H2 b)
 (hC:s2.heap.objs.size<=C) (hCD:C≠s2.heap.objs.size) (I':Inv (Cc X N' scope cl C s2 H2 fp) [] Z' H' s') (hDn:H' s2.heap.objs.size=none) (hz:acc.length<=sizeLine) (hv:Vals acc its)
 (hD:s'.heap.get? s2.heap.objs.size=some { cls:=.type "list",data:=.seq its.toArray n }) (hs:Heap.SameBut C s'.heap h') :
 Inv X pins Z (upd H' s2.heap.objs.size (.lst acc)) { s' with heap:=h' }:=by
 have U:=I'.base;have lt:∀b o,s2.heap.get? b=some o->b≠C/\b≠s2.heap.objs.size:=λb o e=>⟨un2 (uf1 (un1 e) hC),un2 (un1 e)⟩;have neD:∀b u,H' b=some u->b≠s2.heap.objs.size:=λb u e=>AI e hDn;have neC:∀b u,H' b=some u->b≠C:=λb u e=>AI e I'.free;refine I2.call' (s':={ s' with heap:=h' }) (ch:=fp) I'.os ⟨λb o e n hb hx=>?_,λb o e n hb hx=>?_,λb o e n hx=>?_,λb o e hx=>?_,λb xs e=>?_,λb o u e=>?_,λb ps e=>?_⟩ ?_ I'.bare λb hb=>⟨(f2 b hb).2.2.2.1,(f2 b hb).2.1,(f2 b hb).2.2.2.2.1,(f2 b hb).2.2.2.2.2⟩
 ·exact hs.extBut b o (lt b o e).1 (U.keep b o e n hb hx)
 ·obtain ⟨sl,q⟩:=U.slot b o e n hb hx;exact ⟨sl,hs.extBut b _ (lt b o e).1 q⟩
 ·rw [Ah (lt b o e).2];exact U.free b o e n hx
 ·obtain ⟨o',q⟩:=U.there b o e hx;exact ⟨o',hs.extBut b _ (lt b o e).1 q⟩
 ·have q:=U.tups b xs e;rw [Ah (neD b _ q)];exact q
 ·have q:=U.frzs b o u e;rw [Ah (neD b _ q)];exact q
 ·obtain ⟨m,q⟩:=U.tbls b ps e;exact ⟨m,by rw [Ah (neD b _ q)];exact q⟩
 ·intro b u e
  by_cases hb:b=s2.heap.objs.size
  ·subst hb;rw [Ak] at e
   cases e
   exact ⟨hz,its,n,hv,hs.extBut _ _ (Ne.symm hCD) hD⟩
  ·rw [Ah hb] at e;refine (I'.hok b u e).stay (λc v hc q=>hs.extBut c v ?_ q) (λc q=>by rw [Ah (neD c _ q)];exact q) λc xs q=>by rw [Ah (neD c _ q)];exact q
   rcases hc with z | z
   ·rw [z];exact neC b u e
   ·exact neC c _ z
theorem VF (O:CmpOk X scope N' σf)(hc:X.calm=true)(hi:PI X tg iter wi)
 (hg:∀cl C s2 H2 fp,PG (Cc X N' scope cl C s2 H2 fp) tg g) (ht:∀cl C s2 H2 fp,PIf (Cc X N' scope cl C s2 H2 fp) ifs tt) (he:∀cl C s2 H2 fp,PE (Cc X N' scope cl C s2 H2 fp) elt te)
 (hs:∀x,foldedSetIterable iter X.env x=pure x:=by intro _;rfl):PE X (.ListComp elt [⟨tg,iter,ifs,0⟩] scope pos) (O7 wi g tt te σf):=by
 intro pins s Z H Q I h;obtain ⟨cl,e1,e2,e4⟩:=JL (scope:=scope) (env:=X.env) λy hy hf=>I.ok.has y.1 (O.free y hy hf);rw [eval_ListComp];refine wpAny_comprehension_free (use:=none) rfl hs e1 O.kind O.loc (thn (hi pins s Z H _ I h) λv s1 h1=>thn h1 λitv s2 h2=>?_);obtain ⟨it,fp,tn,J,H2,rfl,I2,T,st2,f2,B⟩:=h2;refine L5 (RR:=λacc C=>compPost (model X.prog X.w) X.A X.xe none (EP X pins Z Q) acc C) O hc I2 T st2 f2 e2 e4 (λC=>hg cl C s2 H2 fp) (λC=>ht cl C s2 H2 fp) (λC=>he cl C s2 H2 fp) B ?_;intro C s' Z' H' acc m hC hCD I' hDn hz hL fin hn;obtain ⟨its,n,hv,hD⟩:=hL;refine ⟨m,hn,λh' hs'=>?_⟩;exact ⟨.ref s2.heap.objs.size,upd H' _ (.lst acc),Le I2 f2 hC hCD I' hDn hz hv hD hs',rfl,fin _ hDn hz⟩
theorem VT {i:Nat}{y:Str}{py spos:Pos}(O:CmpOk X scope N' σf)(hc:X.calm=true)(hN:X.N.Nodup)(hiN:X.N[i]?=some y)(hx:X.env.scope.names.lookup y=some .local)(hi:PI X tg iter wi)
 (hg:∀cl C s2 H2 fp,PG (Cc X N' scope cl C s2 H2 fp) tg g) (ht:∀cl C s2 H2 fp,PIf (Cc X N' scope cl C s2 H2 fp) ifs tt) (he:∀cl C s2 H2 fp,PE (Cc X N' scope cl C s2 H2 fp) elt te)
 (hsw:swapsWith (.ListComp elt [⟨tg,iter,ifs,0⟩] scope pos) (some (.Name y py)) spos.line X.env=pure true:=by rfl)
 (hs:∀x,foldedSetIterable iter X.env x=pure x:=by intro _;rfl):PS X (.Assign [.Name y py] (.ListComp elt [⟨tg,iter,ifs,0⟩] scope pos) spos) (Nc (O7 wi g tt te σf) (JR i)):=by
 intro pins s Z H D I h;obtain ⟨cl,e1,e2,e4⟩:=JL (scope:=scope) (env:=X.env) λy hy hf=>I.ok.has y.1 (O.free y hy hf);rw [exec_Assign_Name_used _ _ _ _ hsw];refine up1 (wpAny_standAt (up1 ?_));show wpAny _ X.A (do let _ <-comprehension (.ListComp elt [⟨tg,iter,ifs,0⟩] scope pos) scope X.env _ (newList []) false (eval iter X.env) (some (assign (.Name y py) X.env))) _ _ s;refine up1 (thn (wpAny_comprehension_free (use:=some (assign (.Name y py) X.env)) (Q:=λ_ s'=>SP X pins D .next s') rfl hs e1 O.kind O.loc (thn (hi pins s Z H _ I h) λv s1 h1=>thn h1 λitv s2 h2=>?_)) (λ_ s' hq=>up2 (up2 hq)));obtain ⟨it,fp,tn,J,H2,rfl,I2,T,st2,f2,B⟩:=h2;refine L5 (RR:=λacc C=>compPost (model X.prog X.w) X.A X.xe (some (assign (.Name y py) X.env)) (λ_ s'=>SP X pins D .next s') acc C) O hc I2 T st2 f2 e2 e4 (λC=>hg cl C s2 H2 fp) (λC=>ht cl C s2 H2 fp) (λC=>he cl C s2 H2 fp) B ?_;intro C s' Z' H' acc m hC hCD I' hDn hz hL fin hn;obtain ⟨its,n,hv,hD⟩:=hL;show wpAny _ X.A (assign (.Name y py) X.env (.ref s2.heap.objs.size)) _ _ _;have I3:=Le I2 f2 hC hCD I' hDn hz hv hD (Heap.SameBut.refl ..);refine wpAny_assign_Name (HK I3 hN hiN (.inl hx) (v:=.ref s2.heap.objs.size) rfl (λs4 I4 z9=>?_) (.inr hx));obtain ⟨a,hsb,ha⟩:=z9;have hCL:C≠X.env.locals:=un5 (uf1 I2.lt hC);have hCc:∀x c,X.env.cells.lookup x=some c->c≠C:=λx c e z=>by
  obtain ⟨v,q⟩:=I2.cell x c e;exact absurd (uf1 q.lt (by rw [z];exact hC)) (ul8 _)
 have hCa:C≠a:=by
  rcases ha with z | z
  ·rw [z];exact hCL
  ·exact λq=>hCc _ _ z q.symm
 refine ⟨m,hn.sameBut hsb hCa,λh' hs'=>?_⟩;have hnC:(upd H' s2.heap.objs.size (.lst acc)) C=none:=by rw [Ah hCD];exact I'.free
 refine ⟨_,_,I4.turned (t':=s4.toks) (h':=h') (it:=C) (λb o hb e=>hs'.extBut b o hb e) hnC hCL (.inr (un3 I2.sz hC)) hCc (λp hp z=>?_),fin _ hDn hz⟩;exact absurd (uf1 (un1 (I2.pin p hp).1) (by rw [z];exact hC)) (ul8 _)
end
end L2
set_option autoImplicit false
namespace F2
open PySem L2 PySem.Spec
inductive D where
 | non | bl (b:Bool) | int (i:Int) | str (x:Str) | tup (xs:List D) | lst (xs:List D) | scr (ns:List Int) | dic | obj (k:Nat) | ty (n:String) | exc (n:Str) (xs:List D)
structure Cf where
 ι:List Addr
 O:Addr->Prop
def Cf.A (c:Cf)(a:Addr):Prop:=a∈c.ι\/c.O a
def Scr (K:PySem.W.Frag)(c:Cf)(H:Hp)(a:Addr)(vs:List V):Prop:=
 ((∃o,H a=some (.frz o (.lst vs)))/\¬c.A a)\/
   ∃(o:Obj) (its:Array Value) (n:Nat),K.lookup a=some o/\o.cls = .type "list"/\o.dict=none/\o.data = .seq its n/\its.size<=sizeLine/\Vals vs its.toList
def XIs (qx:Bool)(x C:Addr)(dx:Option Addr)(h:Heap):Prop:=∃(o:Obj) (vs:Array Value),h.get? x=some o/\o.cls = .ref C/\o.dict=dx/\o.data = .fields vs/\(qx=true->vs[2]?=some .none/\4 < vs.size)
noncomputable def Jf (n:Str):List Str:=if n = "NoTalk" then ["at"] else if n = "Broken" then ["at", "side"] else []
def XFld (c:Cf)(H:Hp)(dx:Option Addr)(ns:List Str)(vs:List V):Prop:=match dx with
 | none=>vs=[]
 | some d=>H d=some (.xd (ns.zip vs))/\¬c.A d
mutual
inductive Rep (K:PySem.W.Frag)(c:Cf)(H:Hp):V->D->Prop where
 | non:Rep K c H .non .non
 | bl (b:Bool):Rep K c H (.bl b) (.bl b)
 | int (i:Int):Rep K c H (.int i) (.int i)
 | str (x:Str):Rep K c H (.str x) (.str x)
 | ty (n:String):Rep K c H (.ty n) (.ty n)
 | tup {a:Addr} {vs:List V} {ds:List D}:H a=some (.tup vs)->¬c.A a->Reps K c H vs ds->Rep K c H (.ref a) (.tup ds)
 | lst {a:Addr} {vs:List V} {ds:List D}:H a=some (.lst vs)->¬c.A a->Reps K c H vs ds->Rep K c H (.ref a) (.lst ds)
 | scr {a:Addr} {ns:List Int}:Scr K c H a (ns.map V.int)->Rep K c H (.ref a) (.scr ns)
 | dic {a:Addr}:H a=some (.dK [])->¬c.A a->Rep K c H (.ref a) .dic
 | obj {a:Addr} {k:Nat}:c.ι[k]?=some a->Rep K c H (.ref a) (.obj k)
 | exc {qx:Bool} {x C:Addr} {dx:Option Addr} {n:Str} {vs:List V} {ds:List D}:PySem.W.nsIn K mainGlobals n=some (some (.ref C))->H x=some (.ext (XIs qx x C dx))->¬c.A x->XFld c H dx (Jf n) vs->Reps K c H vs ds->Rep K c H (.ref x) (.exc n ds)
inductive Reps (K:PySem.W.Frag)(c:Cf)(H:Hp):List V->List D->Prop where
 | nil:Reps K c H [] []
 | cons {v:V} {d:D} {vs:List V} {ds:List D}:Rep K c H v d->Reps K c H vs ds->Reps K c H (v :: vs) (d :: ds)
end
structure Ext (c:Cf)(H:Hp)(c':Cf)(H':Hp):Prop where
 keep:∀b o,H b=some o->¬c.A b->H' b=some o
 av:∀b o,H b=some o->c'.A b->c.A b
 io:∀(k:Nat) (a:Addr),c.ι[k]?=some a->c'.ι[k]?=some a
variable {c:Cf}{H:Hp}
theorem Ext.refl:Ext c H c H:=⟨λ_ _ h _=>h,λ_ _ _ h=>h,λ_ _ h=>h⟩
theorem Ext.trans {c1 c2:Cf}{H1 H2:Hp}(a:Ext c H c1 H1)(b:Ext c1 H1 c2 H2):Ext c H c2 H2:=by
 refine ⟨λx o h n=>?_,λx o h n=>?_,λk x h=>b.io k x (a.io k x h)⟩
 ·exact b.keep x o (a.keep x o h n) λz=>n (a.av x o h z)
 ·by_cases q:c.A x
  ·exact q
  ·exact a.av x o h (b.av x o (a.keep x o h q) n)
variable {K:PySem.W.Frag}{a:Addr}{vs:List V}
theorem Scr.mono {c':Cf}{H':Hp}(e:Ext c H c' H')(h:Scr K c H a vs):Scr K c' H' a vs:=by
 rcases h with ⟨⟨o,h⟩,n⟩ | h
 ·exact .inl ⟨⟨o,e.keep _ _ h n⟩,λz=>n (e.av _ _ h z)⟩
 ·exact .inr h
theorem Scr.sq (h:Scr K c H a vs):SqL K H a vs:=by
 rcases h with ⟨h,_⟩ | h
 ·exact .inl (.inr h)
 ·exact .inr h
theorem XFld.mono {c':Cf}{H':Hp}{dx:Option Addr}{ns:List Str}(e:Ext c H c' H')(h:XFld c H dx ns vs):XFld c' H' dx ns vs:=by
 cases dx with
 | none=>exact h
 | some d=>exact ⟨e.keep _ _ h.1 h.2,λz=>h.2 (e.av _ _ h.1 z)⟩
mutual
theorem Rep.mono {K:PySem.W.Frag}{c c':Cf}{H H':Hp}(e:Ext c H c' H'){v:V}{d:D}(r:Rep K c H v d):Rep K c' H' v d:=by
 cases r with
 | non=>exact .non
 | bl b=>exact .bl b
 | int i=>exact .int i
 | str x=>exact .str x
 | ty n=>exact .ty n
 | tup h n r=>exact .tup (e.keep _ _ h n) (λz=>n (e.av _ _ h z)) (Reps.mono e r)
 | lst h n r=>exact .lst (e.keep _ _ h n) (λz=>n (e.av _ _ h z)) (Reps.mono e r)
 | scr h=>exact .scr (h.mono e)
 | dic h n=>exact .dic (e.keep _ _ h n) (λz=>n (e.av _ _ h z))
 | obj h=>exact .obj (e.io _ _ h)
 | exc g h n f r=>exact .exc g (e.keep _ _ h n) (λz=>n (e.av _ _ h z)) (f.mono e) (Reps.mono e r)
theorem Reps.mono {K:PySem.W.Frag}{c c':Cf}{H H':Hp}(e:Ext c H c' H'){vs:List V}{ds:List D}(r:Reps K c H vs ds):Reps K c' H' vs ds:=by
 cases r with
 | nil=>exact .nil
 | cons h t=>exact .cons (Rep.mono e h) (Reps.mono e t)
end
section
variable {K:PySem.W.Frag}{c:Cf}{H:Hp}
theorem Reps.length:∀{vs:List V} {ds:List D},Reps K c H vs ds->vs.length=ds.length
 | _,_,.nil=>rfl
 | _,_,.cons _ t=>by simp [Reps.length t]
theorem Reps.get:∀{vs:List V} {ds:List D} {i:Nat} {v:V} {d:D},Reps K c H vs ds->vs[i]?=some v->ds[i]?=some d->Rep K c H v d
 | _,_,_,_,_,.nil,e,_=>by simp at e
 | _,_,0,_,_,.cons r _,e,e'=>by simp at e e';subst e e';exact r
 | _,_,i + 1,_,_,.cons _ t,e,e'=>Reps.get (i:=i) t (by simpa using e) (by simpa using e')
theorem Reps.at:∀{vs:List V} {ds:List D} {i:Nat} {d:D},Reps K c H vs ds->ds[i]?=some d->∃v,vs[i]?=some v/\Rep K c H v d
 | _,_,_,_,.nil,e=>by simp at e
 | _,_,0,_,.cons r _,e=>by simp at e;subst e;exact ⟨_,rfl,r⟩
 | _,_,i + 1,_,.cons _ t,e=>by
   obtain ⟨v,h1,h2⟩:=Reps.at (i:=i) t (by simpa using e);exact ⟨v,by simpa using h1,h2⟩
theorem Reps.append {vs ws:List V}{ds es:List D}(r:Reps K c H vs ds)(s:Reps K c H ws es):Reps K c H (vs++ws) (ds++es):=by
 cases r with
 | nil=>exact s
 | cons r t=>exact .cons r (Reps.append t s)
theorem Reps.take:∀{vs:List V} {ds:List D} (n:Nat),Reps K c H vs ds->Reps K c H (vs.take n) (ds.take n)
 | _,_,0,_=>.nil
 | _,_,_ + 1,.nil=>.nil
 | _,_,n + 1,.cons r t=>.cons r (Reps.take n t)
theorem Reps.drop:∀{vs:List V} {ds:List D} (n:Nat),Reps K c H vs ds->Reps K c H (vs.drop n) (ds.drop n)
 | _,_,0,r=>r
 | _,_,_ + 1,.nil=>.nil
 | _,_,n + 1,.cons _ t=>Reps.drop n t
theorem Reps.ints:∀ns:List Int,Reps K c H (ns.map V.int) (ns.map D.int)
 | []=>.nil
 | n :: r=>.cons (.int n) (Reps.ints r)
theorem Reps.rep {vs:List V}{ds:List D}(h:Reps K c H vs ds):∀k:Nat,Reps K c H (List.replicate k vs).flatten (List.replicate k ds).flatten
 | 0=>.nil
 | k + 1=>by
   rw [ue6,ue6,ug5,ug5];exact h.append (Reps.rep h k)
end
inductive Ob where
 | lst (xs:List D)
 | dct (kvs:List (Key×D))
 | ins (n:Str) (fs:List (Str×D))
inductive Sl where
 | val (d:D)
 | own (xs:List D)
structure T where
 env:List (Option Sl)
 S:List Ob
def KVR (K:PySem.W.Frag)(c:Cf)(H:Hp):List (Key×V)->List (Key×D)->Prop:=Paired λp q=>p.1=q.1/\Rep K c H p.2 q.2
noncomputable def KJ:List Str:=["Reader", "Side", "Lasting", "Parley", "Listener", "Relay", "Desk"]
noncomputable def atN:List Str:=["grammar", "standing", "wires", "places", "side", "said", "taken", "handed", "left", "right", "under_way", "grammars", "standings", "heard", "left_grammar", "right_grammar", "rows", "pair", "broken", "parley"]
def FldR (K:PySem.W.Frag)(c:Cf)(H:Hp):List (Str×V)->List (Str×D)->Prop:=Paired λp q=>p.1=q.1/\Rep K c H p.2 q.2
def ObR (K:PySem.W.Frag)(c:Cf)(H:Hp)(a:Addr):Ob->Prop
 | .lst ds=>∃vs,H a=some (.lst vs)/\Reps K c H vs ds
 | .dct kvs=>∃us,H a=some (.dK us)/\KVR K c H us kvs
 | .ins n fs=>(n∈KJ/\∀p∈fs,p.1∈atN)/\∃C dx us,PySem.W.nsIn K mainGlobals n=some (some (.ref C))/\H a=some (.ins C dx us)/\FldR K c H us fs
theorem ObR.mono {K:PySem.W.Frag}{c c':Cf}{H H':Hp}{a:Addr}{o:Ob}(e:Ext c H c' H')(h:ObR K c H a o)(ha:H' a=H a):ObR K c' H' a o:=by
 cases o with
 | lst ds=>obtain ⟨vs,h1,h2⟩:=h;exact ⟨vs,ha.trans h1,h2.mono e⟩
 | dct kvs=>obtain ⟨us,h1,h2⟩:=h;exact ⟨us,ha.trans h1,Paired.mapP h2 λ_ _ z=>⟨z.1,z.2.mono e⟩⟩
 | ins n fs=>obtain ⟨h0,C,dx,us,g,h1,h2⟩:=h;exact ⟨h0,C,dx,us,g,ha.trans h1,Paired.mapP h2 λ_ _ z=>⟨z.1,z.2.mono e⟩⟩
theorem ObR.some {o:Ob}(h:ObR K c H a o):∃u,H a=some u:=by
 cases o with
 | lst ds=>obtain ⟨vs,h1,_⟩:=h;exact ⟨_,h1⟩
 | dct kvs=>obtain ⟨us,h1,_⟩:=h;exact ⟨_,h1⟩
 | ins n fs=>obtain ⟨_,_,_,_,_,h1,_⟩:=h;exact ⟨_,h1⟩
structure SInv (K:PySem.W.Frag)(c:Cf)(S:List Ob)(H:Hp):Prop where
 len:c.ι.length=S.length
 nd:c.ι.Nodup
 obs:∀(k:Nat) (a:Addr) (o:Ob),c.ι[k]?=some a->S[k]?=some o->ObR K c H a o
 trk:∀b,c.O b->∃o,H b=some o
 dis:∀b,c.O b->b∉c.ι
variable {S:List Ob}
theorem SInv.trkA (s:SInv K c S H){b:Addr}(h:c.A b):∃o,H b=some o:=by
 rcases h with h | h
 ·obtain ⟨k,hk,e⟩:=List.mem_iff_getElem.mp h;have e1:c.ι[k]?=some b:=by rw [ub4 hk,e]
  have hk':k < S.length:=by rw [<-s.len];exact hk
  exact (s.obs k b _ e1 (ub4 hk')).some
 ·exact s.trk b h
theorem SInv.free (s:SInv K c S H){b:Addr}(h:H b=none):¬c.A b:=λz=>by
 obtain ⟨o,e⟩:=s.trkA z;rw [h] at e;cases e
structure FInv (K:PySem.W.Frag)(Oo:Addr->Prop)(c:Cf)(t:T)(Z:St)(H:Hp):Prop where
 s:SInv K c t.S H
 len:t.env.length=Z.length
 sub:∀b,Oo b->c.O b
 val:∀(i:Nat) (d:D),t.env[i]?=some (some (.val d))->∃v,Z[i]?=some (some v)/\Rep K c H v d
 own:∀(i:Nat) (ds:List D),t.env[i]?=some (some (.own ds))->∃a vs,Z[i]?=some (some (.ref a))/\c.O a/\¬Oo a/\H a=some (.lst vs)/\Reps K c H vs ds
 inj:∀(i j:Nat) (ds es:List D) (a:Addr),t.env[i]?=some (some (.own ds))->t.env[j]?=some (some (.own es))->Z[i]?=some (some (.ref a))->Z[j]?=some (some (.ref a))->i=j
structure Stp (Oo:Addr->Prop)(c:Cf)(H:Hp)(c':Cf)(H':Hp):Prop where
 ext:Ext c H c' H'
 oo:∀b,Oo b->H' b=H b
theorem Stp.refl {Oo:Addr->Prop}{c:Cf}{H:Hp}:Stp Oo c H c H:=⟨.refl,λ_ _=>rfl⟩
theorem Stp.trans {Oo:Addr->Prop}{c c1 c2:Cf}{H H1 H2:Hp}(a:Stp Oo c H c1 H1)(b:Stp Oo c1 H1 c2 H2):Stp Oo c H c2 H2:=
 ⟨a.ext.trans b.ext,λx h=>(b.oo x h).trans (a.oo x h)⟩
section
variable {K:PySem.W.Frag}{Oo:Addr->Prop}{c:Cf}{t:T}{Z:St}{H:Hp}
theorem Ext.laid (s:SInv K c S H){p:Addr}{o:HO}(h:H p=none):Ext c H c (upd H p o):=
 ⟨λb u e _=>by rw [Ah (AI e h)];exact e,λ_ _ _ z=>z,λ_ _ e=>e⟩
theorem SInv.laid {S:List Ob}(s:SInv K c S H){p:Addr}{o:HO}(h:H p=none):SInv K c S (upd H p o):=
 ⟨s.len,s.nd,λk a u e1 e2=>by
  have q:=s.obs k a u e1 e2;obtain ⟨w,hw⟩:=q.some;exact q.mono (Ext.laid s h) (Ah (AI hw h)),
  λb z=>by obtain ⟨u,e⟩:=s.trk b z;exact ⟨u,by rw [Ah (AI e h)];exact e⟩,s.dis⟩
theorem FInv.laid (f:FInv K Oo c t Z H){p:Addr}{o:HO}(h:H p=none):FInv K Oo c t Z (upd H p o):=by
 have e:=Ext.laid (o:=o) f.s h;refine ⟨f.s.laid h,f.len,f.sub,λi d q=>?_,λi ds q=>?_,f.inj⟩
 ·obtain ⟨v,h1,h2⟩:=f.val i d q;exact ⟨v,h1,h2.mono e⟩
 ·obtain ⟨a,vs,h1,h2,h3,h4,h5⟩:=f.own i ds q;exact ⟨a,vs,h1,h2,h3,by rw [Ah (AI h4 h)];exact h4,h5.mono e⟩
theorem FInv.stp_laid (f:FInv K Oo c t Z H){p:Addr}{o:HO}(h:H p=none):Stp Oo c H c (upd H p o):=
 ⟨Ext.laid f.s h,λb z=>by obtain ⟨u,e⟩:=f.s.trk b (f.sub b z);exact Ah (AI e h)⟩
theorem FInv.set (f:FInv K Oo c t Z H){i:Nat}{v:V}{d:D}(r:Rep K c H v d):FInv K Oo c { t with env:=t.env.set i (some (.val d)) } (Z.set i (some v)) H:=by
 have neq:∀{j:Nat} {x:Sl},(t.env.set i (some (.val d)))[j]?=some (some x)->(j=i/\x = .val d/\j < t.env.length)\/(j≠i/\t.env[j]?=some (some x)):=λ{j x} q=>by
  by_cases h:j=i
  ·subst h;rw [ug9] at q
   split at q
   ·split at q
    ·next h1=>injection q with q;injection q with q;exact .inl ⟨rfl,q.symm,h1⟩
    ·cases q
   ·next h1=>exact absurd rfl h1
  ·rw [ue0 (Ne.symm h)] at q;exact .inr ⟨h,q⟩
 refine ⟨f.s,by simp [f.len],f.sub,λj e q=>?_,λj ds q=>?_,λj k ds es a q1 q2 q3 q4=>?_⟩
 ·rcases neq q with ⟨rfl,z,hl⟩ | ⟨h,q⟩
  ·cases z
   exact ⟨v,by rw [uc2 (by rw [<-f.len];exact hl)],r⟩
  ·obtain ⟨u,h1,h2⟩:=f.val j e q;exact ⟨u,by rw [ue0 (Ne.symm h)];exact h1,h2⟩
 ·rcases neq q with ⟨rfl,z,_⟩ | ⟨h,q⟩
  ·cases z
  ·obtain ⟨a,vs,h1,h2⟩:=f.own j ds q;exact ⟨a,vs,by rw [ue0 (Ne.symm h)];exact h1,h2⟩
 ·rcases neq q1 with ⟨_,z,_⟩ | ⟨h,q1⟩
  ·cases z
  rcases neq q2 with ⟨_,z,_⟩ | ⟨h',q2⟩
  ·cases z
  rw [ue0 (Ne.symm h)] at q3;rw [ue0 (Ne.symm h')] at q4;exact f.inj j k ds es a q1 q2 q3 q4
theorem FInv.setOwn (f:FInv K Oo c t Z H){i:Nat}{p:Addr}{vs:List V}{ds:List D}(h:H p=none)(r:Reps K c H vs ds) :
 ∃c',FInv K Oo c' { t with env:=t.env.set i (some (.own ds)) } (Z.set i (some (.ref p))) (upd H p (.lst vs))/\Stp Oo c H c' (upd H p (.lst vs)):=by
 let c':Cf:=⟨c.ι,λb=>c.O b\/b=p⟩
 have nA:¬c.A p:=f.s.free h;have ext:Ext c H c' (upd H p (.lst vs)):=by
  refine ⟨λb u e _=>by rw [Ah (AI e h)];exact e,λb u e z=>?_,λ_ _ e=>e⟩;rcases z with z | z | z
  ·exact .inl z
  ·exact .inr z
  ·subst z;rw [h] at e;cases e
 have stp:Stp Oo c H c' (upd H p (.lst vs)):=⟨ext,λb z=>by obtain ⟨u,e⟩:=f.s.trk b (f.sub b z);exact Ah (AI e h)⟩;have sinv:SInv K c' t.S (upd H p (.lst vs)):=by
  refine ⟨f.s.len,f.s.nd,λk a u e1 e2=>?_,λb z=>?_,λb z hb=>?_⟩
  ·have q:=f.s.obs k a u e1 e2;obtain ⟨w,hw⟩:=q.some;exact q.mono ext (Ah (AI hw h))
  ·rcases z with z | z
   ·obtain ⟨u,e⟩:=f.s.trk b z;exact ⟨u,by rw [Ah (AI e h)];exact e⟩
   ·subst z;exact ⟨_,Ak⟩
  ·rcases z with z | z
   ·exact f.s.dis b z hb
   ·subst z;exact nA (.inl hb)
 have neq:∀{j:Nat} {x:Sl},(t.env.set i (some (.own ds)))[j]?=some (some x)->(j=i/\x = .own ds/\j < t.env.length)\/(j≠i/\t.env[j]?=some (some x)):=λ{j x} q=>by
  by_cases h:j=i
  ·subst h;rw [ug9] at q
   split at q
   ·split at q
    ·next h1=>injection q with q;injection q with q;exact .inl ⟨rfl,q.symm,h1⟩
    ·cases q
   ·next h1=>exact absurd rfl h1
  ·rw [ue0 (Ne.symm h)] at q;exact .inr ⟨h,q⟩
 have fresh:∀(j:Nat) (es:List D),t.env[j]?=some (some (.own es))->Z[j]?≠some (some (.ref p)):=λj es q z=>by
  obtain ⟨a,vs',h1,_,_,h4,_⟩:=f.own j es q;rw [h1] at z;injection z with z;injection z with z;injection z with z;subst z;rw [h] at h4;cases h4
 refine ⟨c',⟨sinv,by simp [f.len],λb z=>.inl (f.sub b z),λj e q=>?_,λj es q=>?_,λj k ds' es a q1 q2 q3 q4=>?_⟩,stp⟩
 ·rcases neq q with ⟨_,z,_⟩ | ⟨hn,q⟩
  ·cases z
  ·obtain ⟨u,h1,h2⟩:=f.val j e q;exact ⟨u,by rw [ue0 (Ne.symm hn)];exact h1,h2.mono ext⟩
 ·rcases neq q with ⟨rfl,z,hl⟩ | ⟨hn,q⟩
  ·cases z
   refine ⟨p,vs,by rw [uc2 (by rw [<-f.len];exact hl)],.inr rfl,λz=>?_,Ak,r.mono ext⟩;obtain ⟨u,e⟩:=f.s.trk p (f.sub p z);rw [h] at e;cases e
  ·obtain ⟨a,ws,h1,h2,h3,h4,h5⟩:=f.own j es q;exact ⟨a,ws,by rw [ue0 (Ne.symm hn)];exact h1,.inl h2,h3,by rw [Ah (AI h4 h)];exact h4,h5.mono ext⟩
 ·rcases neq q1 with ⟨z1,z2,l1⟩ | ⟨n1,r1⟩
  ·rcases neq q2 with ⟨y1,_,_⟩ | ⟨n2,r2⟩
   ·rw [z1,y1]
   ·subst z1;rw [uc2 (by rw [<-f.len];exact l1)] at q3;injection q3 with q3;injection q3 with q3;injection q3 with q3;subst q3
    rw [ue0 (Ne.symm n2)] at q4;exact absurd q4 (fresh k es r2)
  ·rcases neq q2 with ⟨y1,y2,l2⟩ | ⟨n2,r2⟩
   ·subst y1;rw [uc2 (by rw [<-f.len];exact l2)] at q4;injection q4 with q4;injection q4 with q4;injection q4 with q4;subst q4
    rw [ue0 (Ne.symm n1)] at q3;exact absurd q3 (fresh j ds' r1)
   ·rw [ue0 (Ne.symm n1)] at q3;rw [ue0 (Ne.symm n2)] at q4;exact f.inj j k ds' es a r1 r2 q3 q4
theorem FInv.frz (f:FInv K Oo c t Z H){i:Nat}{ds:List D}(q:t.env[i]?=some (some (.own ds))) :
 ∃c' v,FInv K Oo c' { t with env:=t.env.set i (some (.val (.lst ds))) } Z H/\Stp Oo c H c' H/\Z[i]?=some (some v)/\Rep K c' H v (.lst ds):=by
 obtain ⟨a,vs,h1,h2,h3,h4,h5⟩:=f.own i ds q
 let c':Cf:=⟨c.ι,λb=>c.O b/\b≠a⟩
 have ext:Ext c H c' H:=⟨λ_ _ e _=>e,λb u e z=>z.elim .inl λw=>.inr w.1,λ_ _ e=>e⟩;have sinv:SInv K c' t.S H:=⟨f.s.len,f.s.nd,λk b u e1 e2=>(f.s.obs k b u e1 e2).mono ext rfl,λb z=>f.s.trk b z.1,λb z=>f.s.dis b z.1⟩;have nA:¬c'.A a:=λz=>z.elim (λw=>f.s.dis a h2 w) λw=>w.2 rfl;have hσ:Z.set i (some (.ref a))=Z:=by
  apply List.ext_getElem?;intro j
  by_cases hj:j=i
  ·subst hj;rw [uc2 (by have:=(ub1.mp h1).1;exact this),h1]
  ·rw [ue0 (Ne.symm hj)]
 have r:Rep K c' H (.ref a) (.lst ds):=.lst h4 nA (h5.mono ext);have f0:FInv K Oo c' { t with env:=t.env.set i (some (.val (.lst ds))) } Z H:=by
  have neq:∀{j:Nat} {x:Sl},(t.env.set i (some (.val (.lst ds))))[j]?=some (some x)->(j=i/\x = .val (.lst ds))\/(j≠i/\t.env[j]?=some (some x)):=λ{j x} q=>by
   by_cases h:j=i
   ·subst h;rw [ug9] at q
    split at q
    ·split at q
     ·injection q with q;injection q with q;exact .inl ⟨rfl,q.symm⟩
     ·cases q
    ·next h1=>exact absurd rfl h1
   ·rw [ue0 (Ne.symm h)] at q;exact .inr ⟨h,q⟩
  refine ⟨sinv,by simp [f.len],λb z=>⟨f.sub b z,λw=>h3 (w ▸ z)⟩,λj e q'=>?_,λj es q'=>?_,λj k ds' es b q1 q2 q3 q4=>?_⟩
  ·rcases neq q' with ⟨rfl,z⟩ | ⟨hn,q'⟩
   ·cases z;exact ⟨_,h1,r⟩
   ·obtain ⟨u,w1,w2⟩:=f.val j e q';exact ⟨u,w1,w2.mono ext⟩
  ·rcases neq q' with ⟨_,z⟩ | ⟨hn,q'⟩
   ·cases z
   ·obtain ⟨b,ws,w1,w2,w3,w4,w5⟩:=f.own j es q';refine ⟨b,ws,w1,⟨w2,λz=>?_⟩,w3,w4,w5.mono ext⟩;subst z;exact hn (f.inj j i es ds b q' q w1 h1)
  ·rcases neq q1 with ⟨_,z⟩ | ⟨_,q1⟩
   ·cases z
   rcases neq q2 with ⟨_,z⟩ | ⟨_,q2⟩
   ·cases z
   exact f.inj j k ds' es b q1 q2 q3 q4
 exact ⟨c',_,f0,⟨ext,λ_ _=>rfl⟩,h1,r⟩
theorem FInv.wrOwn (f:FInv K Oo c t Z H){i:Nat}{ds ds':List D}{vs':List V}{a:Addr}(q:t.env[i]?=some (some (.own ds)))(h1:Z[i]?=some (some (.ref a)))(r:Reps K c H vs' ds') :
 FInv K Oo c { t with env:=t.env.set i (some (.own ds')) } Z (upd H a (.lst vs'))/\Stp Oo c H c (upd H a (.lst vs')):=by
 obtain ⟨a',vs,g1,h2,h3,h4,h5⟩:=f.own i ds q;rw [h1] at g1;injection g1 with g1;injection g1 with g1;injection g1 with g1;subst g1
 have ext:Ext c H c (upd H a (.lst vs')):=⟨λb u e n=>by rw [Ah (λ(z:b=a)=>n (.inr (by rw [z];exact h2)))];exact e,λ_ _ _ z=>z,λ_ _ e=>e⟩;have stp:Stp Oo c H c (upd H a (.lst vs')):=⟨ext,λb z=>Ah λw=>h3 (w ▸ z)⟩;have sinv:SInv K c t.S (upd H a (.lst vs')):=by
  refine ⟨f.s.len,f.s.nd,λk b u e1 e2=>(f.s.obs k b u e1 e2).mono ext (Ah λz=>f.s.dis a h2 (z ▸ ue1 e1)),λb z=>?_,f.s.dis⟩
  by_cases hb:b=a
  ·subst hb;exact ⟨_,Ak⟩
  ·obtain ⟨u,e⟩:=f.s.trk b z;exact ⟨u,by rw [Ah hb];exact e⟩
 have neq:∀{j:Nat} {x:Sl},(t.env.set i (some (.own ds')))[j]?=some (some x)->(j=i/\x = .own ds')\/(j≠i/\t.env[j]?=some (some x)):=λ{j x} q=>by
  by_cases h:j=i
  ·subst h;rw [ug9] at q
   split at q
   ·split at q
    ·injection q with q;injection q with q;exact .inl ⟨rfl,q.symm⟩
    ·cases q
   ·next h1=>exact absurd rfl h1
  ·rw [ue0 (Ne.symm h)] at q;exact .inr ⟨h,q⟩
 refine ⟨⟨sinv,by simp [f.len],f.sub,λj e q'=>?_,λj es q'=>?_,λj k es es' b q1 q2 q3 q4=>?_⟩,stp⟩
 ·rcases neq q' with ⟨_,z⟩ | ⟨_,q'⟩
  ·cases z
  ·obtain ⟨u,w1,w2⟩:=f.val j e q';exact ⟨u,w1,w2.mono ext⟩
 ·rcases neq q' with ⟨rfl,z⟩ | ⟨hn,q'⟩
  ·cases z;exact ⟨a,vs',h1,h2,h3,Ak,r.mono ext⟩
  ·obtain ⟨b,ws,w1,w2,w3,w4,w5⟩:=f.own j es q';have hb:b≠a:=λz=>by subst z;exact hn (f.inj j i es ds b q' q w1 h1)
   exact ⟨b,ws,w1,w2,w3,by rw [Ah hb];exact w4,w5.mono ext⟩
 ·have old:∀{j:Nat} {x:List D},(t.env.set i (some (.own ds')))[j]?=some (some (.own x))->∃y,t.env[j]?=some (some (.own y)):=λ{j x} q'=>by
   rcases neq q' with ⟨rfl,_⟩ | ⟨_,q'⟩
   ·exact ⟨ds,q⟩
   ·exact ⟨x,q'⟩
  obtain ⟨y1,z1⟩:=old q1;obtain ⟨y2,z2⟩:=old q2;exact f.inj j k y1 y2 b z1 z2 q3 q4
theorem FInv.wrObj (f:FInv K Oo c t Z H){k:Nat}{a:Addr}{o:Ob}{u:HO}(e:c.ι[k]?=some a)(r:∀c' H',Ext c H c' H'->H' a=some u->ObR K c' H' a o) :
 FInv K Oo c { t with S:=t.S.set k o } Z (upd H a u)/\Stp Oo c H c (upd H a u):=by
 have hA:a∈c.ι:=ue1 e;have ext:Ext c H c (upd H a u):=⟨λb w h n=>by rw [Ah (λ(z:b=a)=>n (.inl (by rw [z];exact hA)))];exact h,λ_ _ _ z=>z,λ_ _ e=>e⟩;have neO:∀b,c.O b->b≠a:=λb z w=>f.s.dis b z (w ▸ hA);have stp:Stp Oo c H c (upd H a u):=⟨ext,λb z=>Ah (neO b (f.sub b z))⟩;have sinv:SInv K c (t.S.set k o) (upd H a u):=by
  refine ⟨by simp [f.s.len],f.s.nd,λj b o' e1 e2=>?_,λb z=>?_,f.s.dis⟩
  ·by_cases hj:j=k
   ·subst hj;rw [e] at e1;cases e1
    have hl:j < t.S.length:=by rw [<-f.s.len];exact (ub1.mp e).1
    rw [uc2 hl] at e2;cases e2
    exact r c _ ext Ak
   ·rw [ue0 (Ne.symm hj)] at e2;refine (f.s.obs j b o' e1 e2).mono ext (Ah λz=>?_);subst z;obtain ⟨l1,g1⟩:=ub1.mp e1;obtain ⟨l2,g2⟩:=ub1.mp e;exact hj ((uh4 f.s.nd).mp (g1.trans g2.symm))
  ·obtain ⟨w,h⟩:=f.s.trk b z;exact ⟨w,by rw [Ah (neO b z)];exact h⟩
 refine ⟨⟨sinv,f.len,f.sub,λi d q=>?_,λi ds q=>?_,f.inj⟩,stp⟩
 ·obtain ⟨v,h1,h2⟩:=f.val i d q;exact ⟨v,h1,h2.mono ext⟩
 ·obtain ⟨b,vs,h1,h2,h3,h4,h5⟩:=f.own i ds q;exact ⟨b,vs,h1,h2,h3,by rw [Ah (neO b h2)];exact h4,h5.mono ext⟩
theorem FInv.newObj (f:FInv K Oo c t Z H){p:Addr}{o:Ob}{u:HO}(h:H p=none)(r:∀c' H',Ext c H c' H'->H' p=some u->ObR K c' H' p o) :
 ∃c',FInv K Oo c' { t with S:=t.S++[o] } Z (upd H p u)/\Stp Oo c H c' (upd H p u)/\c'.ι[t.S.length]?=some p:=by
 let c':Cf:=⟨c.ι++[p],c.O⟩
 have nA:¬c.A p:=f.s.free h;have ext:Ext c H c' (upd H p u):=by
  refine ⟨λb w e _=>by rw [Ah (AI e h)];exact e,λb w e z=>?_,λk a e=>?_⟩
  ·rcases z with z | z
   ·rcases uj1.mp z with z | z
    ·exact .inl z
    ·rw [uf8] at z;subst z;rw [h] at e;cases e
   ·exact .inr z
  ·show (c.ι++[p])[k]?=some a;rw [ub2 (ub1.mp e).1];exact e
 have stp:Stp Oo c H c' (upd H p u):=⟨ext,λb z=>by obtain ⟨w,e⟩:=f.s.trk b (f.sub b z);exact Ah (AI e h)⟩;have at_:(c.ι++[p])[t.S.length]?=some p:=by rw [<-f.s.len,ua6 (uo7 _)];simp
 have sinv:SInv K c' (t.S++[o]) (upd H p u):=by
  refine ⟨by simp [c',f.s.len],?_,λj b o' e1 e2=>?_,λb z=>?_,λb z hb=>?_⟩
  ·show (c.ι++[p]).Nodup;exact List.nodup_append.mpr ⟨f.s.nd,by simp,λx hx y hy z=>by rw [uf8] at hy;subst z;subst hy;exact nA (.inl hx)⟩
  ·have hlt:j < (t.S++[o]).length:=(ub1.mp e2).1
   by_cases hj:j < t.S.length
   ·have e1':c.ι[j]?=some b:=by
     have q:(c.ι++[p])[j]?=some b:=e1;rw [ub2 (by rw [f.s.len];exact hj)] at q;exact q
    rw [ub2 hj] at e2;have q:=f.s.obs j b o' e1' e2;obtain ⟨w,hw⟩:=q.some;exact q.mono ext (Ah (AI hw h))
   ·have hj':j=t.S.length:=by simp at hlt;lia
    subst hj';rw [at_] at e1;cases e1
    rw [ua6 (uo7 _)] at e2;simp at e2;subst e2;exact r c' _ ext Ak
  ·obtain ⟨w,e⟩:=f.s.trk b z;exact ⟨w,by rw [Ah (AI e h)];exact e⟩
  ·rcases uj1.mp hb with w | w
   ·exact f.s.dis b z w
   ·rw [uf8] at w;subst w;exact nA (.inr z)
 refine ⟨c',⟨sinv,f.len,f.sub,λi d q=>?_,λi ds q=>?_,f.inj⟩,stp,at_⟩
 ·obtain ⟨v,h1,h2⟩:=f.val i d q;exact ⟨v,h1,h2.mono ext⟩
 ·obtain ⟨b,vs,h1,h2,h3,h4,h5⟩:=f.own i ds q;exact ⟨b,vs,h1,h2,h3,by rw [Ah (AI h4 h)];exact h4,h5.mono ext⟩
theorem FInv.after (f:FInv K Oo c t Z H){c':Cf}{S':List Ob}{H':Hp}(s:SInv K c' S' H')(st:Stp c.O c H c' H')(ho:∀b,c'.O b↔c.O b):FInv K Oo c' { t with S:=S' } Z H'/\Stp Oo c H c' H':=by
 refine ⟨⟨s,f.len,λb z=>(ho b).mpr (f.sub b z),λi d q=>?_,λi ds q=>?_,f.inj⟩,st.ext,λb z=>st.oo b (f.sub b z)⟩
 ·obtain ⟨v,h1,h2⟩:=f.val i d q;exact ⟨v,h1,h2.mono st.ext⟩
 ·obtain ⟨b,vs,h1,h2,h3,h4,h5⟩:=f.own i ds q;exact ⟨b,vs,h1,(ho b).mpr h2,h3,(st.oo b h2).trans h4,h5.mono st.ext⟩
end
abbrev M (α:Type):=T->Option (α×T)
inductive Out where
 | next | brk | cont | ret (d:D)
noncomputable def ret {α:Type}(a:α):M α:=λt=>some (a,t)
noncomputable def fail {α:Type}:M α:=λ_=>none
noncomputable def bnd {α β:Type}(f:M α)(g:α->M β):M β:=λt=>match f t with
 | some (a,t1)=>g a t1
 | none=>none
variable {t:T}
theorem Af {α β:Type}{f:M α}{g:α->M β}{z:β×T}(h:bnd f g t=some z):∃a t1,f t=some (a,t1)/\g a t1=some z:=by
 unfold bnd at h
 cases e:f t with
 | none=>rw [e] at h;cases h
 | some p=>obtain ⟨a,t1⟩:=p;rw [e] at h;exact ⟨a,t1,rfl,h⟩
noncomputable def LIM:Nat:=100000
theorem C4:LIM<=sizeLine:=by unfold LIM;decide
theorem WR:LIM < sizeLine:=by unfold LIM;decide
section
variable (K:PySem.W.Frag)
inductive RE (f:M D)(Z:L2.St)(H:Hp)(Q:VK):Prop where
 | mk (Oo:Addr->Prop) (c:Cf) (t:T) (fi:FInv K Oo c t Z H) (r:D) (t':T) (e:f t=some (r,t')) (k:∀v H' c',FInv K Oo c' t' Z H'->Stp Oo c H c' H'->Rep K c' H' v r->Q v H'):RE f Z H Q
inductive RT (f:M Bool)(Z:L2.St)(H:Hp)(Q:Bool->Hp->Prop):Prop where
 | mk (Oo:Addr->Prop) (c:Cf) (t:T) (fi:FInv K Oo c t Z H) (r:Bool) (t':T) (e:f t=some (r,t')) (k:∀H' c',FInv K Oo c' t' Z H'->Stp Oo c H c' H'->Q r H'):RT f Z H Q
inductive RA (f:M (List D))(Z:L2.St)(H:Hp)(Q:List V->Hp->Prop):Prop where
 | mk (Oo:Addr->Prop) (c:Cf) (t:T) (fi:FInv K Oo c t Z H) (r:List D) (t':T) (e:f t=some (r,t')) (k:∀vs H' c',FInv K Oo c' t' Z H'->Stp Oo c H c' H'->Reps K c' H' vs r->Q vs H'):RA f Z H Q
inductive RF (f:M (List D))(Z:L2.St)(H:Hp)(Q:VK):Prop where
 | mk (Oo:Addr->Prop) (c:Cf) (t:T) (fi:FInv K Oo c t Z H) (ds:List D) (t':T) (e:f t=some (ds,t')) (k:∀p vs H' c',FInv K Oo c' t' Z H'->Stp Oo c H c' H'->Reps K c' H' vs ds->H' p=none->Q (.ref p) (upd H' p (.lst vs))):RF f Z H Q
inductive RSg (μ:Cf->Hp->D->(V->Hp->Prop)->Prop)(f:M Out)(E:Ends)(Z:L2.St)(H:Hp):Prop where
 | mk (Oo:Addr->Prop) (c:Cf) (t:T) (fi:FInv K Oo c t Z H) (o:Out) (t':T) (e:f t=some (o,t')) (k:∀Z' H' c',FInv K Oo c' t' Z' H'->Stp Oo c H c' H'->
 match (generalizing:=false) o with
 | .next=>E.nx Z' H'
 | .brk=>E.bk Z' H'
 | .cont=>E.ct Z' H'
 | .ret r=>μ c' H' r E.rt):RSg μ f E Z H
def μR:Cf->Hp->D->(V->Hp->Prop)->Prop:=λc H r rt=>∀v,Rep K c H v r->rt v H
def μF:Cf->Hp->D->(V->Hp->Prop)->Prop:=λc H r rt=>match r with
 | .lst ds=>∀p us,H p=none->Reps K c H us ds->rt (.ref p) (upd H p (.lst us))
 | _=>False
abbrev RS (f:M Out):TS:=RSg K (μR K) f
inductive RG (f:D->M Unit)(v:V)(Z:L2.St)(H:Hp)(Q:L2.St->Hp->Prop):Prop where
 | mk (Oo:Addr->Prop) (c:Cf) (t:T) (d:D) (fi:FInv K Oo c t Z H) (r:Rep K c H v d) (t':T) (e:f d t=some ((),t')) (k:∀Z' H' c',FInv K Oo c' t' Z' H'->Stp Oo c H c' H'->Q Z' H'):RG f v Z H Q
structure ItOk (J:It)(c:Cf)(H:Hp)(ds:List D):Prop where
 go:∀c' H' (i:Nat),Ext c H c' H'->i < ds.length->J.go i H'
 yld:∀c' H' (i:Nat) x H'' d,Ext c H c' H'->ds[i]?=some d->J.yld i H' x H''->H''=H'/\Rep K c' H' x d
 stop:∀c' H',Ext c H c' H'->J.stop ds.length H'
inductive RI (f:M (List D))(Z:L2.St)(H:Hp)(R:It->Hp->Prop):Prop where
 | mk (Oo:Addr->Prop) (c:Cf) (t:T) (fi:FInv K Oo c t Z H) (ds:List D) (t':T) (e:f t=some (ds,t')) (k:∀J H' c',FInv K Oo c' t' Z H'->Stp Oo c H c' H'->ItOk K J c' H' ds->R J H'):RI f Z H R
def WU (R:V->Hp->VK->Prop)(h:D->M D):Prop:=∀{Oo:Addr->Prop} {c:Cf} {t:T} {Z:L2.St} {H:Hp} {x:V} {dx r:D} {t':T} {Q:VK},FInv K Oo c t Z H->Rep K c H x dx->h dx t=some (r,t')->
 (∀v H' c',FInv K Oo c' t' Z H'->Stp Oo c H c' H'->Rep K c' H' v r->Q v H')->R x H Q
def A8 (R:R2)(h:D->D->M D):Prop:=∀{Oo:Addr->Prop} {c:Cf} {t:T} {Z:L2.St} {H:Hp} {x y:V} {dx dy r:D} {t':T} {Q:VK},FInv K Oo c t Z H->Rep K c H x dx->Rep K c H y dy->h dx dy t=some (r,t')->
 (∀v H' c',FInv K Oo c' t' Z H'->Stp Oo c H c' H'->Rep K c' H' v r->Q v H')->R x y H Q
def EX (R:List V->Hp->VK->Prop)(h:List D->M D):Prop:=∀{Oo:Addr->Prop} {c:Cf} {t:T} {Z:L2.St} {H:Hp} {xs:List V} {ds:List D} {r:D} {t':T} {Q:VK},FInv K Oo c t Z H->Reps K c H xs ds->h ds t=some (r,t')->
 (∀v H' c',FInv K Oo c' t' Z H'->Stp Oo c H c' H'->Rep K c' H' v r->Q v H')->R xs H Q
def Om (R:R2)(h:D->D->M (List D)):Prop:=∀{Oo:Addr->Prop} {c:Cf} {t:T} {Z:L2.St} {H:Hp} {x y:V} {dx dy:D} {r:List D} {t':T} {Q:VK},FInv K Oo c t Z H->Rep K c H x dx->Rep K c H y dy->h dx dy t=some (r,t')->
 (∀p vs H' c',FInv K Oo c' t' Z H'->Stp Oo c H c' H'->Reps K c' H' vs r->H' p=none->Q (.ref p) (upd H' p (.lst vs)))->R x y H Q
def LH (R:List V->Hp->VK->Prop)(h:List D->M (List D)):Prop:=∀{Oo:Addr->Prop} {c:Cf} {t:T} {Z:L2.St} {H:Hp} {xs:List V} {ds r:List D} {t':T} {Q:VK},FInv K Oo c t Z H->Reps K c H xs ds->h ds t=some (r,t')->
 (∀p vs H' c',FInv K Oo c' t' Z H'->Stp Oo c H c' H'->Reps K c' H' vs r->H' p=none->Q (.ref p) (upd H' p (.lst vs)))->R xs H Q
end
variable {tg:Expr}{j i:Nat}{x:Str}{f g:M D}{h:D->D->M D}{R:R2}{op:CmpOp}{Z:L2.St}
section
variable {X:Cx}{e a b:Expr}{pos:Pos}
theorem AL {t t':TE}(h:PE X e t)(i:∀Z H Q,t' Z H Q->t Z H Q):PE X e t':=λpins s Z H Q I q=>h pins s Z H Q I (i Z H Q q)
theorem LV {t t':TT}(h:PT X e t)(i:∀Z H Q,t' Z H Q->t Z H Q):PT X e t':=λpins s Z H Q I q=>h pins s Z H Q I (i Z H Q q)
theorem Pn {t t':TT}(h:PW X e t)(i:∀Z H Q,t' Z H Q->t Z H Q):PW X e t':=λw pins s Z H Q I q=>h w pins s Z H Q I (i Z H Q q)
theorem Pj {es:List Expr}{t t':TA}(h:PA X es t)(i:∀Z H Q,t' Z H Q->t Z H Q):PA X es t':=λpos pins s Z H Q I q=>h pos pins s Z H Q I (i Z H Q q)
theorem A9 {st:Stmt}{t t':TS}(h:PS X st t)(i:∀E Z H,t' E Z H->t E Z H):PS X st t':=λpins s Z H E I q=>h pins s Z H E I (i E Z H q)
theorem Nw {st:List Stmt}{t t':TS}(h:PSs X st t)(i:∀E Z H,t' E Z H->t E Z H):PSs X st t':=λpins s Z H E I q=>h pins s Z H E I (i E Z H q)
theorem LU {t t':TG}(h:PG X e t)(i:∀v Z H Q,t' v Z H Q->t v Z H Q):PG X e t':=λpins s Z H v u Q I r q=>h pins s Z H v u Q I r (i v Z H Q q)
theorem JA {t t':TI}(h:PI X tg e t)(i:∀Z H R,t' Z H R->t Z H R):PI X tg e t':=λpins s Z H R I q=>h pins s Z H R I (i Z H R q)
def fC (d:D):M D:=ret d
theorem Jb {v:V}{d:D}(h:PE X e (tC v))(r:∀c H,Rep X.K c H v d):PE X e (RE X.K (fC d)):=
 AL h λZ H Q z9=>by
  obtain ⟨Oo,c,t,f,r',t',eq,k⟩:=z9
  cases eq
  exact k v H c f .refl (r c H)
theorem Xl {i:Int}:PE X (.Constant (.int i) j pos) (RE X.K (fC (.int i))):=Jb Yk λ_ _=>.int i
theorem Zx {i:Bool}:PE X (.Constant (.bool i) j pos) (RE X.K (fC (.bl i))):=Jb ZR λ_ _=>.bl i
theorem Xq {i:Str}:PE X (.Constant (.str i) j pos) (RE X.K (fC (.str i))):=Jb QH λ_ _=>.str i
theorem Xm:PE X (.Constant .none j pos) (RE X.K (fC .non)):=Jb Ym λ_ _=>.non
theorem KM {i:Int}{tk:Tok}(hg:Gl X x)(hm:X.mg x=some (.int i tk))(hd:(x == ("__debug__" : Str))=false:=by decide):PE X (.Name x pos) (RE X.K (fC (.int i))):=
 Jb (N0 hg hm (v:=.int i) ⟨tk,rfl⟩ hd) λ_ _=>.int i
theorem R0 {y:Str}{tk:Tok}(hg:Gl X x)(hm:X.mg x=some (.str y tk))(hd:(x == ("__debug__" : Str))=false:=by decide):PE X (.Name x pos) (RE X.K (fC (.str y))):=
 Jb (N0 hg hm (v:=.str y) ⟨tk,rfl⟩ hd) λ_ _=>.str y
theorem JP {n:String}(hg:Gl X x)(hm:X.mg x=none)(hv:bootBuiltins x=some (.type n))(hn:x≠"__name__":=by decide)(hd:(x == ("__debug__" : Str))=false:=by decide):PE X (.Name x pos) (RE X.K (fC (.ty n))):=
 Jb (VC hg hm hv (v:=.ty n) rfl hn hd) λ_ _=>.ty n
noncomputable def Ab (i:Nat):M D:=λt=>match t.env[i]? with
 | some (some (.val d))=>some (d,t)
 | some (some (.own ds))=>some (.lst ds,{ t with env:=t.env.set i (some (.val (.lst ds))) })
 | _=>none
theorem Oz {t':T}{r:D}(h:Ab i t=some (r,t')):(t.env[i]?=some (some (.val r))/\t'=t)\/∃ds,t.env[i]?=some (some (.own ds))/\r = .lst ds/\t' = { t with env:=t.env.set i (some (.val (.lst ds))) }:=by
 unfold Ab at h
 cases e:t.env[i]? with
 | none=>rw [e] at h;cases h
 | some o=>
   cases o with
   | none=>rw [e] at h;cases h
   | some sl=>
     cases sl with
     | val d=>rw [e] at h;cases h;exact .inl ⟨rfl,rfl⟩
     | own ds=>rw [e] at h;cases h;exact .inr ⟨ds,rfl,rfl,rfl⟩
theorem Xr (i:Nat){x:Str}(hN:X.N[i]?=some x:=by rfl)(hv:Vis X.env.scope x:=by walk_at "h")(hd:(x == ("__debug__" : Str))=false:=by decide)
 (hcd:(x == ("__classdict__" : Str))=false:=by decide):PE X (.Name x pos) (RE X.K (Ab i)):=
 AL (Cl hN hv hd hcd) λZ H Q z9=>by
  obtain ⟨Oo,c,t,f,r,t',eq,k⟩:=z9;rcases Oz eq with ⟨q,rfl⟩ | ⟨ds,q,rfl,rfl⟩
  ·obtain ⟨v,h1,h2⟩:=f.val i r q;exact ⟨v,h1,k v H c f .refl h2⟩
  ·obtain ⟨c',v,f',st,h1,h2⟩:=f.frz q;exact ⟨v,h1,k v H c' f' st h2⟩
def Ac (f g:M D)(h:D->D->M D):M D:=bnd f λx=>bnd g λy=>h x y
theorem RE.two (s:A8 K R h){Z:L2.St}{H:Hp}{Q:VK}(q:RE K (Ac f g h) Z H Q):tOp R (RE K f) (RE K g) Z H Q:=by
 obtain ⟨Oo,c,t,fi,r,t',eq,k⟩:=q;obtain ⟨dx,t1,e1,eq⟩:=Af eq;obtain ⟨dy,t2,e2,eq⟩:=Af eq;exact ⟨Oo,c,t,fi,dx,t1,e1,λx H1 c1 f1 s1 rx=>⟨Oo,c1,t1,f1,dy,t2,e2,λy H2 c2 f2 s2 ry=>s f2 (rx.mono s2.ext) ry eq λv H' c' f' s' rv=>k v H' c' f' ((s1.trans s2).trans s') rv⟩⟩
theorem Ff {op:Operator}(ho:OpR X (binaryOp op) R)(s:A8 X.K R h)(ha:PE X a (RE X.K f))(hb:PE X b (RE X.K g)):PE X (.BinOp a op b pos) (RE X.K (Ac f g h)):=
 AL (OU ho ha hb) λ_ _ _ q=>RE.two s q
theorem Hk (ho:OpR X (compareOp op) R)(s:A8 X.K R h)(ha:PE X a (RE X.K f))(hb:PE X b (RE X.K g))(hm:behindInMarks op b=false):PE X (.Compare a [op] [b] pos) (RE X.K (Ac f g h)):=
 AL (VD ho ha hb hm) λ_ _ _ q=>RE.two s q
theorem T3 (hr:IxR X R)(s:A8 X.K R h)(ha:PE X a (RE X.K f))(hb:PE X b (RE X.K g))(hs:Nx b):PE X (.Subscript a b pos) (RE X.K (Ac f g h)):=
 AL (ZS hr ha hb hs) λ_ _ _ q=>RE.two s q
def fUn (f:M D)(h:D->M D):M D:=bnd f h
theorem Zy {op:UnaryOp}{R:V->Hp->VK->Prop}{h:D->M D}(ho:UnR X (unaryOp op) R)(s:WU X.K R h)(ha:PE X a (RE X.K f)):PE X (.UnaryOp op a pos) (RE X.K (fUn f h)):=
 AL (ZU ho ha) λZ H Q z9=>by
  obtain ⟨Oo,c,t,fi,r,t',eq,k⟩:=z9;obtain ⟨dx,t1,e1,eq⟩:=Af eq;exact ⟨Oo,c,t,fi,dx,t1,e1,λx H1 c1 f1 s1 rx=>s f1 rx eq λv H' c' f' s' rv=>k v H' c' f' (s1.trans s') rv⟩
def toB:D->M Bool
 | .bl b=>ret b
 | _=>fail
def Ao (f:M D):M Bool:=bnd f toB
theorem Ju {d:D}{z:Bool×T}(h:toB d t=some z):∃b,d = .bl b/\z=(b,t):=by
 cases d with
 | bl b=>cases h;exact ⟨b,rfl,rfl⟩
 | _=>cases h
theorem RT.val {Q:Bool->Hp->Prop}(q:RT K (Ao f) Z H Q):RE K f Z H λx H1=>∃k,x = .bl k/\Q k H1:=by
 obtain ⟨Oo,c,t,fi,r,t',eq,k⟩:=q;obtain ⟨d,t1,e1,eq⟩:=Af eq;obtain ⟨b,rfl,z⟩:=Ju eq
 cases z
 refine ⟨Oo,c,t,fi,_,t',e1,λv H1 c1 f1 s1 rv=>?_⟩
 cases rv
 exact ⟨r,rfl,k H1 c1 f1 s1⟩
theorem XF (h:PE X e (RE X.K f))(he:∀whole,isTrue e X.env whole=(do let v <-whole;standAt e.pos;holding [v] (truthy v)):=by intro _;rfl):PT X e (RT X.K (Ao f)):=
 LV (Yz h he) λ_ _ _ q=>RT.val q
theorem Ec (ho:OpR X (compareOp op) R)(s:A8 X.K R h)(ha:PE X a (RE X.K f))(hb:PE X b (RE X.K g))(hm:behindInMarks op b=false):PT X (.Compare a [op] [b] pos) (RT X.K (Ao (Ac f g h))):=
 LV (VW ho ha hb hm) λZ H Q q=>RE.two s (RT.val q)
def ER (f g w:M D)(h h':D->D->M D):M D:=bnd f λx=>bnd g λy=>bnd (Ao (h x y)) λk=>if k=true then bnd w λz=>h' y z else ret (.bl false)
theorem RE.chain {w:M D}{h':D->D->M D}{R':R2}(s:A8 K R h)(s':A8 K R' h'){Z:L2.St}{H:Hp}{Q:VK}(q:RE K (ER f g w h h') Z H Q):Rc R R' (RE K f) (RE K g) (RE K w) Z H Q:=by
 obtain ⟨Oo,c,t,fi,r,t',eq,k⟩:=q;obtain ⟨dx,t1,e1,eq⟩:=Af eq;obtain ⟨dy,t2,e2,eq⟩:=Af eq;obtain ⟨kb,t3,e3,eq⟩:=Af eq;obtain ⟨d3,t3',e3',e3⟩:=Af e3;obtain ⟨b3,rfl,z⟩:=Ju e3
 cases z
 refine ⟨Oo,c,t,fi,dx,t1,e1,λx H1 c1 f1 s1 rx=>⟨Oo,c1,t1,f1,dy,t2,e2,λy H2 c2 f2 s2 ry=>s f2 (rx.mono s2.ext) ry e3' λv H3 c3 f3 s3 rv=>?_⟩⟩
 cases rv
 refine ⟨kb,rfl,?_⟩
 cases kb with
 | false=>
   rw [if_neg uf3] at eq ⊢
   cases eq
   exact k _ H3 c3 f3 ((s1.trans s2).trans s3) (.bl false)
 | true=>
   rw [if_pos rfl] at eq ⊢;obtain ⟨dz,t4,e4,eq⟩:=Af eq;exact ⟨Oo,c3,t3,f3,dz,t4,e4,λw' H4 c4 f4 s4 rw'=>s' f4 (ry.mono (s3.trans s4).ext) rw' eq λv H' c' f' s' rv=>k v H' c' f' ((((s1.trans s2).trans s3).trans s4).trans s') rv⟩
theorem RY {d:Expr}{op':CmpOp}{R':R2}{w:M D}{h':D->D->M D}(ho:OpR X (compareOp op) R)(ho':OpR X (compareOp op') R')(s:A8 X.K R h)(s':A8 X.K R' h')(ha:PE X a (RE X.K f))(hb:PE X b (RE X.K g))(hd:PE X d (RE X.K w))
 (hm:lastMarks [op,op'] [b,d]=false:=by with_unfolding_all rfl):PE X (.Compare a [op,op'] [b,d] pos) (RE X.K (ER f g w h h')):=
 AL (ST ho ho' ha hb hd hm) λ_ _ _ q=>RE.chain s s' q
def KL (f g:M Bool):M Bool:=bnd f λk=>if k=true then g else ret false
def fOr (f g:M Bool):M Bool:=bnd f λk=>if k=true then ret true else g
def Cy (f:M Bool):M Bool:=bnd f λk=>ret (!k)
def EJ (f g:M D):M D:=bnd (Ao f) λk=>if k=true then g else ret (.bl false)
def Xg (f g:M D):M D:=bnd (Ao f) λk=>if k=true then ret (.bl true) else g
def Ib (f:M D):M D:=bnd (Ao f) λk=>ret (.bl (!k))
def fIf (f:M Bool)(g h:M D):M D:=bnd f λk=>if k=true then g else h
variable {f g:M Bool}{u v w:M D}{rest:List Expr}
theorem ZG (h:PW X e (RT X.K f)):PT X e (RT X.K f):=h.pt
theorem U3 (ha:PT X a (RT X.K f)):PW X (.BoolOp .And [a] pos) (RT X.K f):=VY ha
theorem XH (ha:PT X a (RT X.K f)):PW X (.BoolOp .Or [a] pos) (RT X.K f):=YB ha
theorem XG (ha:PT X a (RT X.K f))(hb:PW X (.BoolOp .And (b :: rest) pos) (RT X.K g)):PW X (.BoolOp .And (a :: b :: rest) pos) (RT X.K (KL f g)):=
 Pn (YA ha hb) λZ H Q z9=>by
  obtain ⟨Oo,c,t,fi,r,t',eq,k⟩:=z9;obtain ⟨kb,t1,e1,eq⟩:=Af eq;refine ⟨Oo,c,t,fi,kb,t1,e1,λH1 c1 f1 s1=>?_⟩
  cases kb with
  | false=>rw [if_neg uf3] at eq ⊢;cases eq;exact k H1 c1 f1 s1
  | true=>rw [if_pos rfl] at eq ⊢;exact ⟨Oo,c1,t1,f1,r,t',eq,λH2 c2 f2 s2=>k H2 c2 f2 (s1.trans s2)⟩
theorem ZH (ha:PT X a (RT X.K f))(hb:PW X (.BoolOp .Or (b :: rest) pos) (RT X.K g)):PW X (.BoolOp .Or (a :: b :: rest) pos) (RT X.K (fOr f g)):=
 Pn (Z0 ha hb) λZ H Q z9=>by
  obtain ⟨Oo,c,t,fi,r,t',eq,k⟩:=z9;obtain ⟨kb,t1,e1,eq⟩:=Af eq;refine ⟨Oo,c,t,fi,kb,t1,e1,λH1 c1 f1 s1=>?_⟩
  cases kb with
  | true=>rw [if_pos rfl] at eq ⊢;cases eq;exact k H1 c1 f1 s1
  | false=>rw [if_neg uf3] at eq ⊢;exact ⟨Oo,c1,t1,f1,r,t',eq,λH2 c2 f2 s2=>k H2 c2 f2 (s1.trans s2)⟩
theorem XD (ha:PT X a (RT X.K f)):PT X (.UnaryOp .Not a pos) (RT X.K (Cy f)):=
 LV (Yy ha) λZ H Q z9=>by
  obtain ⟨Oo,c,t,fi,r,t',eq,k⟩:=z9;obtain ⟨kb,t1,e1,eq⟩:=Af eq
  cases eq
  exact ⟨Oo,c,t,fi,kb,_,e1,λH1 c1 f1 s1=>k H1 c1 f1 s1⟩
theorem Nd {f:M D}{kb:Bool}{t1:T}(h:Ao f t=some (kb,t1)):f t=some (.bl kb,t1):=by
 obtain ⟨d,t2,e1,e2⟩:=Af h;obtain ⟨b,rfl,z⟩:=Ju e2
 cases z
 exact e1
theorem Xp {op:PySem.BoolOp}(h:PE X a (RE X.K u)):PE X (.BoolOp op [a] pos) (RE X.K u):=Yo h
theorem Xi (ha:PE X a (RE X.K u))(hb:PE X (.BoolOp .And (b :: rest) pos) (RE X.K v)):PE X (.BoolOp .And (a :: b :: rest) pos) (RE X.K (EJ u v)):=
 AL (Yi ha hb) λZ H Q z9=>by
  obtain ⟨Oo,c,t,fi,r,t',eq,k⟩:=z9;obtain ⟨kb,t1,e1,eq⟩:=Af eq;refine ⟨Oo,c,t,fi,_,t1,Nd e1,λx H1 c1 f1 s1 rx=>?_⟩
  cases rx
  refine ⟨kb,rfl,?_⟩
  cases kb with
  | false=>rw [if_neg uf3] at eq ⊢;cases eq;exact k _ H1 c1 f1 s1 (.bl false)
  | true=>rw [if_pos rfl] at eq ⊢;exact ⟨Oo,c1,t1,f1,r,t',eq,λy H2 c2 f2 s2 ry=>k y H2 c2 f2 (s1.trans s2) ry⟩
theorem Xn (ha:PE X a (RE X.K u)):PE X (.UnaryOp .Not a pos) (RE X.K (Ib u)):=
 AL (Yn ha) λZ H Q z9=>by
  obtain ⟨Oo,c,t,fi,r,t',eq,k⟩:=z9;obtain ⟨kb,t1,e1,eq⟩:=Af eq
  cases eq
  refine ⟨Oo,c,t,fi,_,_,Nd e1,λx H1 c1 f1 s1 rx=>?_⟩
  cases rx
  exact ⟨kb,rfl,k _ H1 c1 f1 s1 (.bl (!kb))⟩
theorem R3 {d:Expr}(hc:PT X d (RT X.K f))(ha:PE X a (RE X.K u))(hb:PE X b (RE X.K v)):PE X (.IfExp d a b pos) (RE X.K (fIf f u v)):=
 AL (SV hc ha hb) λZ H Q z9=>by
  obtain ⟨Oo,c,t,fi,r,t',eq,k⟩:=z9;obtain ⟨kb,t1,e1,eq⟩:=Af eq;refine ⟨Oo,c,t,fi,kb,t1,e1,λH1 c1 f1 s1=>?_⟩
  cases kb with
  | false=>rw [if_neg uf3] at eq ⊢;exact ⟨Oo,c1,t1,f1,r,t',eq,λy H2 c2 f2 s2 ry=>k y H2 c2 f2 (s1.trans s2) ry⟩
  | true=>rw [if_pos rfl] at eq ⊢;exact ⟨Oo,c1,t1,f1,r,t',eq,λy H2 c2 f2 s2 ry=>k y H2 c2 f2 (s1.trans s2) ry⟩
end
variable {n:Nat}{p:Pos}
section
variable {X:Cx}{e a b:Expr}{es:List Expr}{pos:Pos}
def Ad:M (List D):=ret []
def Aa (f:M D)(g:M (List D)):M (List D):=bnd f λd=>bnd g λds=>ret (d :: ds)
theorem Xh:PA X [] (RA X.K Ad):=Pj Yh λZ H Q z9=>by
 obtain ⟨Oo,c,t,fi,r,t',eq,k⟩:=z9
 cases eq
 exact k [] H c fi .refl .nil
theorem UJ {g:M (List D)}(ha:PE X e (RE X.K f))(hr:PA X es (RA X.K g))(hs:starEach (e :: es) X.env=(false,eval e X.env) :: starEach es X.env:=by rfl):PA X (e :: es) (RA X.K (Aa f g)):=
 Pj (VA ha hr hs) λZ H Q z9=>by
  obtain ⟨Oo,c,t,fi,r,t',eq,k⟩:=z9;obtain ⟨d,t1,e1,eq⟩:=Af eq;obtain ⟨ds,t2,e2,eq⟩:=Af eq
  cases eq
  exact ⟨Oo,c,t,fi,d,t1,e1,λx H1 c1 f1 s1 rx=>⟨Oo,c1,t1,f1,ds,_,e2,λxs H2 c2 f2 s2 rxs=>k _ H2 c2 f2 (s1.trans s2) (.cons (rx.mono s2.ext) rxs)⟩⟩
def lim {α:Type}(n:Nat)(a:α):M α:=λt=>if n<=LIM then some (a,t) else none
theorem Ey {α:Type}{a:α}{z:α×T}(h:lim n a t=some z):n<=LIM/\z=(a,t):=by
 unfold lim at h
 split at h
 ·next h1=>cases h;exact ⟨h1,rfl⟩
 ·cases h
def Av (f:M (List D)):M D:=bnd f λds=>lim ds.length (.tup ds)
theorem PL {x1:Nat}{f:M (List D)}(h:PA X es (RA X.K f)):PE X (.Tuple es x1 pos) (RE X.K (Av f)):=
 AL (Yp h) λZ H Q z9=>by
  obtain ⟨Oo,c,t,fi,r,t',eq,k⟩:=z9;obtain ⟨ds,t1,e1,eq⟩:=Af eq;obtain ⟨hl,z⟩:=Ey eq
  cases z
  refine ⟨Oo,c,t,fi,ds,_,e1,λxs H1 c1 f1 s1 rxs=>⟨by rw [rxs.length];exact un3 hl C4,λp hp=>?_⟩⟩;exact k _ _ c1 (f1.laid hp) (s1.trans (f1.stp_laid hp)) (.tup Ak (f1.s.free hp) (rxs.mono (Ext.laid f1.s hp)))
def AG (f:M (List D)):M (List D):=bnd f λds=>lim ds.length ds
theorem Xt {f:M (List D)}(h:PA X es (RA X.K f)):PE X (.List es pos) (RF X.K (AG f)):=
 AL (Yl h) λZ H Q z9=>by
  obtain ⟨Oo,c,t,fi,r,t',eq,k⟩:=z9;obtain ⟨ds,t1,e1,eq⟩:=Af eq;obtain ⟨hl,z⟩:=Ey eq
  cases z
  exact ⟨Oo,c,t,fi,_,_,e1,λxs H1 c1 f1 s1 rxs=>⟨by rw [rxs.length];exact un3 hl C4,λp hp=>k p xs H1 c1 f1 s1 rxs hp⟩⟩
def Aw (f:M (List D)):M D:=bnd f λds=>ret (.lst ds)
theorem UO {f:M (List D)}(h:PE X e (RF X.K f)):PE X e (RE X.K (Aw f)):=
 AL h λZ H Q z9=>by
  obtain ⟨Oo,c,t,fi,r,t',eq,k⟩:=z9;obtain ⟨ds,t1,e1,eq⟩:=Af eq
  cases eq
  exact ⟨Oo,c,t,fi,ds,_,e1,λp xs H1 c1 f1 s1 rxs hp=>k _ _ c1 (f1.laid hp) (s1.trans (f1.stp_laid hp)) (.lst Ak (f1.s.free hp) (rxs.mono (Ext.laid f1.s hp)))⟩
noncomputable def OQ (o:Ob):M D:=λt=>some (.obj t.S.length,{ t with S:=t.S++[o] })
def Hj (f:M (List D)):M D:=bnd f λds=>OQ (.lst ds)
theorem Xo {f:M (List D)}(h:PE X e (RF X.K f)):PE X e (RE X.K (Hj f)):=
 AL h λZ H Q z9=>by
  obtain ⟨Oo,c,t,fi,r,t',eq,k⟩:=z9;obtain ⟨ds,t1,e1,eq⟩:=Af eq
  cases eq
  refine ⟨Oo,c,t,fi,ds,_,e1,λp xs H1 c1 f1 s1 rxs hp=>?_⟩;obtain ⟨c2,f2,s2,e2⟩:=f1.newObj (o:=.lst ds) (u:=.lst xs) hp λc' H' ex hu=>⟨xs,hu,rxs.mono ex⟩;exact k _ _ c2 f2 (s1.trans s2) (.obj e2)
abbrev Fn:=List D->List Ob->Option (D×List Ob)
inductive spF (K:PySem.W.Frag)(f:Fn)(vs:List V)(H:Hp)(Q:VK)(E:XK):Prop where
 | mk (c:Cf) (ds:List D) (S:List Ob) (si:SInv K c S H) (rs:Reps K c H vs ds) (r:D) (S':List Ob) (e:f ds S=some (r,S')) (k:∀v H' c',SInv K c' S' H'->Stp c.O c H c' H'->(∀b,c'.O b↔c.O b)->Rep K c' H' v r->Q v H'):spF K f vs H Q E
def Ag (g:Fn)(f:M (List D)):M D:=bnd f λds t=>match g ds t.S with
 | some (r,S')=>some (r,{ t with S:=S' })
 | none=>none
theorem FZ {g:Fn}{ds:List D}{r:D}{t':T}(h:(match g ds t.S with | some (r,S')=>some (r,{ t with S:=S' }) | none=>none:Option (D×T))=some (r,t')):∃S',g ds t.S=some (r,S')/\t' = { t with S:=S' }:=by
 cases e:g ds t.S with
 | none=>rw [e] at h;cases h
 | some p=>obtain ⟨r',S'⟩:=p;rw [e] at h;cases h;exact ⟨S',rfl,rfl⟩
theorem UK {k:Nat}{fa:Addr}{fd:FuncData}{ps:List Str}{g:Fn}{f:M (List D)}(F:FnOk X.prog X.w X.K X.mg X.base CX0 k fa fd ps (spF X.K g))(hr:Room k X.A)(hg:Gl X x)(hm:X.mg x=some (.ref fa))(hk:PySem.W.keepIn X.K (.ref fa)=true)(hb:Binds X.K fd ps [])
 (ha:PA X (e :: es) (RA X.K f)) (hdb:(x == ("__debug__" : Str))=false:=by decide) (he:starEach (e :: es) X.env=(false,eval e X.env) :: starEach es X.env:=by rfl) (hpl:(backTo pos (starEach es X.env)).any (·.1)=false:=by rfl) :
 PE X (.Call (.Name x p) (e :: es) [] pos) (RE X.K (Ag g f)):=
 AL (NZ F hr hg hm hk hb .nil Ix ha hdb he hpl) λZ H Q z9=>by
  obtain ⟨Oo,c,t,fi,r,t',eq,kk⟩:=z9;obtain ⟨ds,t1,e1,eq⟩:=Af eq;obtain ⟨S',e2,rfl⟩:=FZ eq;refine ⟨Oo,c,t,fi,ds,t1,e1,λvs H1 c1 f1 s1 rvs=>?_⟩;show spF X.K g (vs++[]) H1 Q E0;rw [uj5];refine ⟨c1,ds,t1.S,f1.s,rvs,r,S',e2,λv H' c' si st ho rv=>?_⟩;obtain ⟨f2,s2⟩:=f1.after si st ho;exact kk v H' c' f2 (s1.trans s2) rv
def fB (f:M (List D))(h:List D->M D):M D:=bnd f h
theorem RE.callB {f:M (List D)}{h:List D->M D}{R:List V->Hp->VK->Prop}(s:EX K R h){Z:L2.St}{H:Hp}{Q:VK}(q:RE K (fB f h) Z H Q):tCB R (RA K f) Z H Q:=by
 obtain ⟨Oo,c,t,fi,r,t',eq,k⟩:=q;obtain ⟨ds,t1,e1,eq⟩:=Af eq;exact ⟨Oo,c,t,fi,ds,t1,e1,λxs H1 c1 f1 s1 rxs=>s f1 rxs eq λv H' c' f' s' rv=>k v H' c' f' (s1.trans s') rv⟩
def fBF (f:M (List D))(h:List D->M (List D)):M (List D):=bnd f h
theorem RF.callB {f:M (List D)}{h:List D->M (List D)}{R:List V->Hp->VK->Prop}(s:LH K R h){Z:L2.St}{H:Hp}{Q:VK}(q:RF K (fBF f h) Z H Q):tCB R (RA K f) Z H Q:=by
 obtain ⟨Oo,c,t,fi,r,t',eq,k⟩:=q;obtain ⟨ds,t1,e1,eq⟩:=Af eq;exact ⟨Oo,c,t,fi,ds,t1,e1,λxs H1 c1 f1 s1 rxs=>s f1 rxs eq λp vs H' c' f' s' rv hp=>k p vs H' c' f' (s1.trans s') rv hp⟩
theorem RF.two {h:D->D->M (List D)}(s:Om K R h){Z:L2.St}{H:Hp}{Q:VK}(q:RF K (bnd f λx=>bnd g λy=>h x y) Z H Q):tOp R (RE K f) (RE K g) Z H Q:=by
 obtain ⟨Oo,c,t,fi,r,t',eq,k⟩:=q;obtain ⟨dx,t1,e1,eq⟩:=Af eq;obtain ⟨dy,t2,e2,eq⟩:=Af eq;exact ⟨Oo,c,t,fi,dx,t1,e1,λx H1 c1 f1 s1 rx=>⟨Oo,c1,t1,f1,dy,t2,e2,λy H2 c2 f2 s2 ry=>s f2 (rx.mono s2.ext) ry eq λp vs H' c' f' s' rv hp=>k p vs H' c' f' ((s1.trans s2).trans s') rv hp⟩⟩
end
variable {μ:Cf->Hp->D->(V->Hp->Prop)->Prop}
section
variable {X:Cx}{e a b:Expr}{pos:Pos}{st:Stmt}{sts:List Stmt}
noncomputable def Ae (f g:M Out):M Out:=λt=>match f t with
 | some (.next,t1)=>g t1
 | z=>z
def Au:M Out:=ret .next
theorem U1:PSs X [] (RSg X.K μ Au):=Nw VU λE Z H z9=>by
 obtain ⟨Oo,c,t,fi,o,t',eq,k⟩:=z9
 cases eq
 exact k Z H c fi .refl
theorem Sd {μ:Cf->Hp->D->(V->Hp->Prop)->Prop}{f g:M Out}(h1:PS X st (RSg X.K μ f))(h2:PSs X sts (RSg X.K μ g)):PSs X (st :: sts) (RSg X.K μ (Ae f g)):=
 Nw (Jq h1 h2) λE Z H z9=>by
  obtain ⟨Oo,c,t,fi,o,t',eq,k⟩:=z9;unfold Ae at eq
  cases e1:f t with
  | none=>rw [e1] at eq;cases eq
  | some p=>
    obtain ⟨o1,t1⟩:=p;rw [e1] at eq;refine ⟨Oo,c,t,fi,o1,t1,e1,λσ1 H1 c1 f1 s1=>?_⟩
    cases o1 with
    | next=>exact ⟨Oo,c1,t1,f1,o,t',eq,λσ2 H2 c2 f2 s2=>k σ2 H2 c2 f2 (s1.trans s2)⟩
    | brk=>cases eq;exact k σ1 H1 c1 f1 s1
    | cont=>cases eq;exact k σ1 H1 c1 f1 s1
    | ret d=>cases eq;exact k σ1 H1 c1 f1 s1
theorem U2 {μ:Cf->Hp->D->(V->Hp->Prop)->Prop}{f:M Out}(h1:PS X st (RSg X.K μ f)):PSs X [st] (RSg X.K μ f):=Go h1
def An (f:M D):M Out:=bnd f λd=>ret (.ret d)
theorem P4 (h:PE X e (RE X.K f)):PS X (.Return (some e) pos) (RS X.K (An f)):=
 A9 (HE h) λE Z H z9=>by
  obtain ⟨Oo,c,t,fi,o,t',eq,k⟩:=z9;obtain ⟨d,t1,e1,eq⟩:=Af eq
  cases eq
  exact ⟨Oo,c,t,fi,d,_,e1,λv H1 c1 f1 s1 rv=>k Z H1 c1 f1 s1 v rv⟩
theorem Sb:PS X (.Break pos) (RSg X.K μ (ret .brk)):=A9 Tg λE Z H z9=>by
 obtain ⟨Oo,c,t,fi,o,t',eq,k⟩:=z9
 cases eq
 exact k Z H c fi .refl
def F0 (f:M D):M Out:=bnd f λ_=>ret .next
theorem NK (h:PE X e (RE X.K f))(hs:swapsWith e none pos.line X.env=pure false:=by rfl):PS X (.Expr e pos) (RSg X.K μ (F0 f)):=
 A9 (KS h hs) λE Z H z9=>by
  obtain ⟨Oo,c,t,fi,o,t',eq,k⟩:=z9;obtain ⟨d,t1,e1,eq⟩:=Af eq
  cases eq
  exact ⟨Oo,c,t,fi,d,_,e1,λv H1 c1 f1 s1 rv=>k Z H1 c1 f1 s1⟩
def ifS (f:M Bool)(g h:M Out):M Out:=bnd f λk=>if k=true then g else h
theorem ZF {f:M Bool}{g h:M Out}{sa sb:List Stmt}(hc:PT X e (RT X.K f))(ha:PSs X sa (RSg X.K μ g))(hb:PSs X sb (RSg X.K μ h)):PS X (.If e sa sb pos) (RSg X.K μ (ifS f g h)):=
 A9 (ZZ hc ha hb) λE Z H z9=>by
  obtain ⟨Oo,c,t,fi,o,t',eq,k⟩:=z9;obtain ⟨kb,t1,e1,eq⟩:=Af eq;refine ⟨Oo,c,t,fi,kb,t1,e1,λH1 c1 f1 s1=>?_⟩
  cases kb with
  | true=>rw [if_pos rfl] at eq ⊢;exact ⟨Oo,c1,t1,f1,o,t',eq,λσ2 H2 c2 f2 s2=>k σ2 H2 c2 f2 (s1.trans s2)⟩
  | false=>rw [if_neg uf3] at eq ⊢;exact ⟨Oo,c1,t1,f1,o,t',eq,λσ2 H2 c2 f2 s2=>k σ2 H2 c2 f2 (s1.trans s2)⟩
noncomputable def AA (i:Nat)(d:D):M Unit:=λt=>some ((),{ t with env:=t.env.set i (some (.val d)) })
def Ar (i:Nat)(f:M D):M Out:=bnd f λd=>bnd (AA i d) λ_=>ret .next
theorem RS.set {μ:Cf->Hp->D->(V->Hp->Prop)->Prop}{K:PySem.W.Frag}{i:Nat}{f:M D}{E:Ends}{Z:L2.St}{H:Hp}(q:RSg K μ (Ar i f) E Z H):Nc (RE K f) (JR i) E Z H:=by
 obtain ⟨Oo,c,t,fi,o,t',eq,k⟩:=q;obtain ⟨d,t1,e1,eq⟩:=Af eq
 cases eq
 exact ⟨Oo,c,t,fi,d,t1,e1,λv H1 c1 f1 s1 rv=>k _ H1 c1 (f1.set rv) s1⟩
theorem My {pos':Pos}(hN:X.N.Nodup)(hi:X.N[i]?=some x)(hx:Loc X.env.scope x)(he:PE X e (RE X.K f))(hs:swapsWith e (some (.Name x pos')) pos.line X.env=pure false:=by rfl)(hf:X.fn x=true\/X.env.scope.names.lookup x=some .local:=by walk_at "h") :
 PS X (.Assign [.Name x pos'] e pos) (RSg X.K μ (Ar i f)):=A9 (MT hN hi hx he hs hf) λ_ _ _ q=>RS.set q
def Df (i:Nat)(f:M (List D)):M Out:=bnd f λds t=>some (.next,{ t with env:=t.env.set i (some (.own ds)) })
theorem RS.own {f:M (List D)}{E:Ends}(q:RSg K μ (Df i f) E Z H):Nc (RF K f) (JR i) E Z H:=by
 obtain ⟨Oo,c,t,fi,o,t',eq,k⟩:=q;obtain ⟨ds,t1,e1,eq⟩:=Af eq
 cases eq
 refine ⟨Oo,c,t,fi,ds,t1,e1,λp vs H1 c1 f1 s1 rv hp=>?_⟩;obtain ⟨c2,f2,s2⟩:=f1.setOwn (i:=i) hp rv;exact k _ _ c2 f2 (s1.trans s2)
theorem XB {f:M (List D)}{pos':Pos}(hN:X.N.Nodup)(hi:X.N[i]?=some x)(hx:Loc X.env.scope x)(he:PE X e (RF X.K f))(hs:swapsWith e (some (.Name x pos')) pos.line X.env=pure false:=by rfl)(hf:X.fn x=true\/X.env.scope.names.lookup x=some .local:=by walk_at "h") :
 PS X (.Assign [.Name x pos'] e pos) (RSg X.K μ (Df i f)):=A9 (MT hN hi hx he hs hf) λ_ _ _ q=>RS.own q
theorem Cz (hN:X.N.Nodup)(hi:X.N[i]?=some x)(hx:Loc X.env.scope x)(hf:X.fn x=true\/X.env.scope.names.lookup x=some .local:=by walk_at "h"):PG X (.Name x pos) (RG X.K (AA i)):=
 LU (VL hN hi hx hf) λv Z H Q z9=>by
  obtain ⟨Oo,c,t,d,fi,rv,t',eq,k⟩:=z9
  cases eq
  exact k _ H c (fi.set rv) .refl
def C8 (f:M D)(g:D->M Unit):M Out:=bnd f λd=>bnd (g d) λ_=>ret .next
theorem Xz {g:D->M Unit}(he:PE X e (RE X.K f))(hg:PG X tg (RG X.K g))(hs:swapsWithSole [tg] e pos.line X.env=pure false:=by rfl)(hw:swappedStores [tg] e X.env=pure none:=by rfl)(hp:(assignEach [tg] X.env).map (·.2)=[assign tg X.env]:=by rfl) :
 PS X (.Assign [tg] e pos) (RSg X.K μ (C8 f g)):=
 A9 (by first | exact QO he hg hs hw | exact QO he hg hs hw hp) λE Z H z9=>by
  obtain ⟨Oo,c,t,fi,o,t',eq,k⟩:=z9;obtain ⟨d,t1,e1,eq⟩:=Af eq;obtain ⟨u,t2,e2,eq⟩:=Af eq
  cases eq
  exact ⟨Oo,c,t,fi,d,t1,e1,λv H1 c1 f1 s1 rv=>⟨Oo,c1,t1,d,f1,rv,_,e2,λσ2 H2 c2 f2 s2=>k σ2 H2 c2 f2 (s1.trans s2)⟩⟩
inductive RGs (K:PySem.W.Frag)(f:List D->M Unit)(vs:List V)(Z:L2.St)(H:Hp)(Q:L2.St->Hp->Prop):Prop where
 | mk (Oo:Addr->Prop) (c:Cf) (t:T) (ds:List D) (fi:FInv K Oo c t Z H) (r:Reps K c H vs ds) (t':T) (e:f ds t=some ((),t')) (k:∀Z' H' c',FInv K Oo c' t' Z' H'->Stp Oo c H c' H'->Q Z' H'):RGs K f vs Z H Q
theorem Nv {ts:List Expr}{t t':TGs}(h:PGs X ts t)(i:∀v Z H Q,t' v Z H Q->t v Z H Q):PGs X ts t':=λpins s Z H vs us Q I r q=>h pins s Z H vs us Q I r (i vs Z H Q q)
def Em:List D->M Unit
 | []=>ret ()
 | _=>fail
def Bf (f:D->M Unit)(g:List D->M Unit):List D->M Unit
 | d :: ds=>bnd (f d) λ_=>g ds
 | []=>fail
theorem UQ:PGs X [] (RGs X.K Em):=Nv VM λvs Z H Q z9=>by
 obtain ⟨Oo,c,t,ds,fi,rv,t',eq,k⟩:=z9
 cases rv with
 | nil=>cases eq;exact ⟨rfl,k Z H c fi .refl⟩
 | cons _ _=>cases eq
theorem RGs.cons {K:PySem.W.Frag}{f:D->M Unit}{g:List D->M Unit}{vs:List V}{Z:L2.St}{H:Hp}{Q:L2.St->Hp->Prop}(q:RGs K (Bf f g) vs Z H Q):T5 (RG K f) (RGs K g) vs Z H Q:=by
 obtain ⟨Oo,c,t,ds,fi,rv,t',eq,k⟩:=q
 cases rv with
 | nil=>cases eq
 | cons r rs=>
   obtain ⟨u,t1,e1,eq⟩:=Af eq;exact ⟨_,_,rfl,Oo,c,t,_,fi,r,t1,e1,λσ1 H1 c1 f1 s1=>⟨Oo,c1,t1,_,f1,rs.mono s1.ext,t',eq,λσ2 H2 c2 f2 s2=>k σ2 H2 c2 f2 (s1.trans s2)⟩⟩
def unT (n:Nat)(g:List D->M Unit):D->M Unit
 | .tup ds=>if ds.length=n then g ds else fail
 | _=>fail
def CA (st:D->M Unit)(b:M Out):List D->M Out
 | []=>ret .next
 | d :: r=>λt=>match st d t with
   | none=>none
   | some (_,t1)=>match b t1 with
     | some (.next,t2)=>CA st b r t2
     | some (.cont,t2)=>CA st b r t2
     | some (.brk,t2)=>some (.next,t2)
     | some (.ret x,t2)=>some (.ret x,t2)
     | none=>none
def Bj (f:M (List D))(st:D->M Unit)(b:M Out):M Out:=bnd f λds=>CA st b ds
theorem RS.for {f:M (List D)}{g:D->M Unit}{b:M Out}{E:Ends}(q:RSg K μ (Bj f g b) E Z H):YZ (RI K f) (RG K g) (RSg K μ b) E Z H:=by
 obtain ⟨Oo,c,t,fi,o,t',eq,k⟩:=q;obtain ⟨ds,t1,e1,eq⟩:=Af eq;refine ⟨Oo,c,t,fi,ds,t1,e1,λJ H1 c1 f1 s1 it=>?_⟩;refine ⟨λi m Z' H'=>m=ds.length - i/\i<=ds.length/\∃c' t2,FInv K Oo c' t2 Z' H'/\Stp Oo c1 H1 c' H'/\CA g b (ds.drop i) t2=some (o,t'),⟨_,rfl,uo8 _,c1,t1,f1,.refl,by rw [ul5];exact eq⟩,?_⟩;rintro i m Z' H' ⟨rfl,hi,c',t2,f2,s2,e2⟩
 by_cases hlt:i < ds.length
 ·refine .inr ⟨it.go c' H' i s2.ext hlt,λσ3 H3=>∃c3 t3,FInv K Oo c3 t3 σ3 H3/\Stp Oo c1 H1 c3 H3/\CA g b (ds.drop (i + 1)) t3=some (o,t'),λσ3 H3 h=>⟨ds.length - (i + 1),by lia,rfl,hlt,h⟩,λx H'' hy=>?_⟩;obtain ⟨rfl,rx⟩:=it.yld c' H' i x H'' _ s2.ext (ub4 hlt) hy;rw [ub3 hlt] at e2;unfold CA at e2
  cases e3:g ds[i] t2 with
  | none=>rw [e3] at e2;cases e2
  | some p=>
    obtain ⟨u,t3⟩:=p;rw [e3] at e2
    try dsimp only at e2
    refine ⟨Oo,c',t2,_,f2,rx,t3,e3,λσ3 H3 c3 f3 s3=>?_⟩
    cases e4:b t3 with
    | none=>rw [e4] at e2;cases e2
    | some p=>
      obtain ⟨o4,t4⟩:=p;rw [e4] at e2
      try dsimp only at e2
      refine ⟨Oo,c3,t3,f3,o4,t4,e4,λσ5 H5 c5 f5 s5=>?_⟩;have s':=(s2.trans s3).trans s5
      cases o4 with
      | next=>exact ⟨c5,t4,f5,s',e2⟩
      | cont=>exact ⟨c5,t4,f5,s',e2⟩
      | brk=>cases e2;exact k σ5 H5 c5 f5 (s1.trans s')
      | ret r=>cases e2;exact k σ5 H5 c5 f5 (s1.trans s')
 ·have hi':i=ds.length:=by lia
  subst hi';rw [List.drop_length] at e2
  cases e2
  exact .inl ⟨it.stop c' H' s2.ext,k Z' H' c' f2 (s1.trans s2)⟩
theorem PY {iter:Expr}{body:List Stmt}{f:M (List D)}{g:D->M Unit}{b:M Out}(hp:PassesOwn (model X.prog X.w) X.A X.env X.xe)(hc:X.calm=true)(hi:PI X tg iter (RI X.K f))(hg:PG X tg (RG X.K g))(hb:PSs X body (RSg X.K μ b))
 (hs:∀x,foldedSetIterable iter X.env x=pure x:=by intro _;rfl):PS X (.For tg iter body [] pos) (RSg X.K μ (Bj f g b)):=
 A9 (Yw hp hc hi hg hb hs) λ_ _ _ q=>RS.for q
theorem ItOk.lst {K:PySem.W.Frag}{c:Cf}{H:Hp}{p:Addr}{ds:List D}(r:∀c' H',Ext c H c' H'->∃vs,SqL K H' p vs/\Reps K c' H' vs ds):ItOk K (Itl K p) c H ds:=by
 refine ⟨λc' H' i ex hi=>?_,λc' H' i x H'' d ex hd hy=>?_,λc' H' ex=>?_⟩
 ·obtain ⟨vs,h1,h2⟩:=r c' H' ex;obtain ⟨v,e,_⟩:=h2.at (ub4 hi);exact ⟨vs,v,h1,e⟩
 ·obtain ⟨vs,h1,h2⟩:=r c' H' ex;obtain ⟨rfl,h⟩:=hy;exact ⟨rfl,h2.get (h vs h1) hd⟩
 ·obtain ⟨vs,h1,h2⟩:=r c' H' ex;exact ⟨vs,h1,by rw [h2.length];exact uo7 _⟩
theorem ItOk.tup {K:PySem.W.Frag}{c:Cf}{H:Hp}{p:Addr}{ds:List D}(r:∀c' H',Ext c H c' H'->∃vs,SqT K H' p vs/\Reps K c' H' vs ds):ItOk K (Itt K p) c H ds:=by
 refine ⟨λc' H' i ex hi=>?_,λc' H' i x H'' d ex hd hy=>?_,λc' H' ex=>?_⟩
 ·obtain ⟨vs,h1,h2⟩:=r c' H' ex;obtain ⟨v,e,_⟩:=h2.at (ub4 hi);exact ⟨vs,v,h1,e⟩
 ·obtain ⟨vs,h1,h2⟩:=r c' H' ex;obtain ⟨rfl,h⟩:=hy;exact ⟨rfl,h2.get (h vs h1) hd⟩
 ·obtain ⟨vs,h1,h2⟩:=r c' H' ex;exact ⟨vs,h1,by rw [h2.length];exact uo7 _⟩
end
theorem FInv.leave {Oo:Addr->Prop}(f:FInv K Oo c t Z H):SInv K ⟨c.ι,Oo⟩ t.S H/\Ext c H ⟨c.ι,Oo⟩ H:=by
 have ext:Ext c H ⟨c.ι,Oo⟩ H:=⟨λ_ _ e _=>e,λb o _ z=>z.elim .inl λw=>.inr (f.sub b w),λ_ _ e=>e⟩;exact ⟨⟨f.s.len,f.s.nd,λk a o e1 e2=>(f.s.obs k a o e1 e2).mono ext rfl,λb z=>f.s.trk b (f.sub b z),λb z=>f.s.dis b (f.sub b z)⟩,ext⟩
noncomputable def env0 (m:Nat)(ds:List D):List (Option Sl):=ds.map (λd=>some (.val d))++List.replicate (m - ds.length) none
def fnOf (n m:Nat)(g:M Out):Fn:=λds S=>if ds.length=n then (match g ⟨env0 m ds,S⟩ with
 | some (.ret r,t)=>some (r,t.S)
 | some (.next,t)=>some (.non,t.S)
 | _=>none) else none
theorem GI {ds:List D}{N:List Str}(s:SInv K c S H)(r:Reps K c H vs ds):FInv K c.O c ⟨env0 N.length ds,S⟩ (L2.start N vs) H:=by
 have hlen:vs.length=ds.length:=r.length;have none_:∀{i:Nat} {x:Sl},(env0 N.length ds)[i]?=some (some x)->∃d,ds[i]?=some d/\x = .val d:=λ{i x} q=>by
  unfold env0 at q
  by_cases hi:i < ds.length
  ·rw [ub2 (by simpa using hi),ug3,ub4 hi] at q;simp at q;exact ⟨ds[i],ub4 hi,q.symm⟩
  ·rw [ua6 (by simpa using hi),ub8] at q
   split at q <;> simp at q
 refine ⟨s,by simp [env0,L2.start,hlen],λ_ z=>z,λi d q=>?_,λi es q=>?_,λi j es _ a q _ _ _=>?_⟩
 ·obtain ⟨d',h1,h2⟩:=none_ q
  cases h2
  obtain ⟨v,h3,h4⟩:=r.at h1;refine ⟨v,?_,h4⟩;unfold L2.start;have hi:=(ub1.mp h3).1;rw [ub2 (by simpa using hi),ug3,h3];rfl
 ·obtain ⟨_,_,h2⟩:=none_ q;cases h2
 ·obtain ⟨_,_,h2⟩:=none_ q;cases h2
theorem ZE {P:Program}{w:World}{mg:Str->Option Value}{base:Heap}{qual:Str}{st:Stmt}{fa:Addr}{fd:FuncData}{N ps:List Str}{k:Nat}{g:M Out}(F:Fun K x qual st fa fd)(S:FnScope N ps (Al st))
 (hb:∀(cdv:Value) (A:Around) (outer:List Env) (s:Shared) (H:Hp) (E:XK),Room k (A.deeper (PyProof.Rows.envOfC qual (Al st) s.heap.objs.size fa cdv))->
   PSs (Dl CX0 P w K mg base N qual (Al st) fa cdv A outer s H E).nox (A0 st) (RS K g)):FnOk P w K mg base CX0 (k + 1) fa fd ps (spF K (fnOf ps.length N.length g)):=by
 have hlen:∀{ds:List D} {S:List Ob} {z:D×List Ob},fnOf ps.length N.length g ds S=some z->ds.length=ps.length:=λ{ds S z} h=>by
  unfold fnOf at h
  split at h
  ·next h1=>exact h1
  ·cases h
 refine F.ok S (λvs H Q E h=>?_) (λcdv A outer s H vs Q E hr h=>?_)
 ·obtain ⟨c,ds,S,si,rs,r,S',e,_⟩:=h;rw [rs.length];exact hlen e
 obtain ⟨c,ds,S0,si,rs,r,S',e,kk⟩:=h;refine ⟨RS K g,hb cdv A outer s H E hr,?_⟩;have hl:=hlen e;unfold fnOf at e;rw [if_pos hl] at e
 cases eg:g ⟨env0 N.length ds,S0⟩ with
 | none=>rw [eg] at e;cases e
 | some p=>
   obtain ⟨o,t⟩:=p;rw [eg] at e;refine ⟨c.O,c,_,GI si rs,o,t,eg,λZ' H' c' f' s'=>?_⟩;obtain ⟨si',ext'⟩:=f'.leave;have st':Stp c.O c H ⟨c'.ι,c.O⟩ H':=⟨s'.ext.trans ext',s'.oo⟩
   cases o with
   | next=>cases e;exact kk .non H' _ si' st' (λ_=>Iff.rfl) .non
   | ret d=>cases e;exact λv rv=>kk v H' _ si' st' (λ_=>Iff.rfl) (rv.mono ext')
   | brk=>cases e
   | cont=>cases e
variable {fr:List Nat}
section
variable {X:Cx}{e a b:Expr}{pos:Pos}
def items:D->M (List D)
 | .lst ds=>ret ds
 | .tup ds=>ret ds
 | .scr ns=>ret (ns.map .int)
 | _=>fail
noncomputable def rngL (lo:Int)(n:Nat):List D:=(List.range n).map λi=>.int (lo + (i:Nat))
theorem ItOk.rng {lo:Int}:ItOk K (Itr lo n) c H (rngL lo n):=by
 refine ⟨λc' H' i ex hi=>?_,λc' H' i x H'' d ex hd hy=>?_,λc' H' ex=>?_⟩
 ·have:i < n:=by simpa [rngL] using hi
  exact this
 ·obtain ⟨rfl,rfl⟩:=hy;refine ⟨rfl,?_⟩;have hi:i < n:=by
   have:=(ub1.mp hd).1;simpa [rngL] using this
  have:d = .int (lo + (i:Nat)):=by
   rw [rngL,ug3,List.getElem?_range hi] at hd;simpa using hd.symm
  rw [this];exact .int _
 ·show n<=(rngL lo n).length;simp [rngL]
noncomputable def small (i:Int):Bool:=decide (-(2 ^ 62)<=i) && decide (i < 2 ^ 62)
def KZ:List D->M (List D)
 | [.int j]=>λt=>if small j=true then some (rngL 0 j.toNat,t) else none
 | _=>fail
def K0:List D->M (List D)
 | [.int i,.int j]=>λt=>if (small i && small j)=true then some (rngL i (j - i).toNat,t) else none
 | _=>fail
def A5 (f:M (List D)):M (List D):=bnd f KZ
def GH (f:M (List D)):M (List D):=bnd f K0
theorem EU {i:Int}(h:small i=true) : -(2 ^ 62)<=i/\i < 2 ^ 62:=by
 unfold small at h;rw [uh9] at h;exact ⟨uh3 h.1,uh3 h.2⟩
theorem PQ {f:M (List D)}(hg:Gl X "range")(hm:X.mg "range" = none)(ha:PA X [a] (RA X.K f))(hs:starEach [a] X.env=[(false,eval a X.env)]:=by rfl):PI X tg (.Call (.Name "range" p) [a] [] pos) (RI X.K (A5 f)):=
 JA (QJ hg hm ha hs) λZ H R z9=>by
  obtain ⟨Oo,c,t,fi,ds,t',eq,k⟩:=z9;obtain ⟨xs,t1,e1,eq⟩:=Af eq;refine ⟨Oo,c,t,fi,xs,t1,e1,λvs H1 c1 f1 s1 rv=>?_⟩;unfold KZ at eq
  split at eq
  ·next j=>
   split at eq
   ·next hs=>
    cases eq
    cases rv with
    | cons r rs=>
      cases rs
      cases r
      obtain ⟨h1,h2⟩:=EU hs;exact ⟨j,rfl,h1,h2,k _ H1 c1 f1 s1 ItOk.rng⟩
   ·cases eq
  ·cases eq
theorem PR {f:M (List D)}(hg:Gl X "range")(hm:X.mg "range" = none)(ha:PA X [a,b] (RA X.K f))(hs:starEach [a,b] X.env=[(false,eval a X.env),(false,eval b X.env)]:=by rfl)(hs2:starEach [b] X.env=[(false,eval b X.env)]:=by rfl):PI X tg (.Call (.Name "range" p) [a,b] [] pos) (RI X.K (GH f)):=
 JA (QK hg hm ha hs hs2) λZ H R z9=>by
  obtain ⟨Oo,c,t,fi,ds,t',eq,k⟩:=z9;obtain ⟨xs,t1,e1,eq⟩:=Af eq;refine ⟨Oo,c,t,fi,xs,t1,e1,λvs H1 c1 f1 s1 rv=>?_⟩;unfold K0 at eq
  split at eq
  ·next i j=>
   split at eq
   ·next hs=>
    cases eq
    rw [uh9] at hs
    cases rv with
    | cons r rs=>
      cases r
      cases rs with
      | cons r rs=>
        cases rs
        cases r
        obtain ⟨h1,h2⟩:=EU hs.1;obtain ⟨h3,h4⟩:=EU hs.2;exact ⟨i,j,rfl,⟨h1,h2,h3,h4⟩,k _ H1 c1 f1 s1 ItOk.rng⟩
   ·cases eq
  ·cases eq
def Cb (st:D->M Unit)(tst:M Bool)(elt:M D):List D->M (List D)
 | []=>ret []
 | d :: r=>bnd (st d) λ_=>bnd tst λk=>if k=true then bnd elt λx=>bnd (Cb st tst elt r) λxs=>ret (x :: xs) else Cb st tst elt r
noncomputable def af:Option (Option Sl)->Option Sl
 | some (some (.val d))=>some (.val d)
 | _=>none
def cenv (n:Nat)(fr:List Nat)(env:List (Option Sl)):List (Option Sl):=List.replicate n none++fr.map λi=>af env[i]?
noncomputable def GF (n:Nat)(fr:List Nat)(Z:L2.St):L2.St:=List.replicate n none++fr.map λi=>(Z[i]?).join
def Bl (n:Nat)(fr:List Nat)(f:M (List D))(st:D->M Unit)(tst:M Bool)(elt:M D):M (List D):=bnd f λds t=>match Cb st tst elt ds ⟨cenv n fr t.env,t.S⟩ with
 | some (xs,t')=>if xs.length<=LIM then some (xs,{ t with S:=t'.S }) else none
 | none=>none
theorem IX {env:List (Option Sl)}{x:Sl}(h:(cenv n fr env)[j]?=some (some x)):∃i d,n<=j/\fr[j - n]?=some i/\env[i]?=some (some (.val d))/\x = .val d:=by
 unfold cenv at h
 by_cases hj:j < n
 ·rw [ub2 (by simpa using hj),ub8] at h
  split at h <;> simp at h
 ·rw [ua6 (by simpa using hj),ud3,ug3] at h
  cases e:fr[j - n]? with
  | none=>rw [e] at h;simp at h
  | some i=>
    rw [e] at h;simp only [uk2,uh0] at h
    cases e2:env[i]? with
    | none=>rw [e2] at h;cases h
    | some o=>
      cases o with
      | none=>rw [e2] at h;cases h
      | some sl=>
        cases sl with
        | own _=>rw [e2] at h;cases h
        | val d=>rw [e2] at h;cases h;exact ⟨i,d,by lia,rfl,e2,rfl⟩
theorem OD {Oo:Addr->Prop}(f:FInv K Oo c t Z H):FInv K c.O c ⟨cenv n fr t.env,t.S⟩ (GF n fr Z) H:=by
 refine ⟨f.s,by simp [cenv,GF],λ_ z=>z,λj d q=>?_,λj es q=>?_,λj _ es _ _ q _ _ _=>?_⟩
 ·obtain ⟨i,d',h0,h1,h2,h3⟩:=IX q
  cases h3
  obtain ⟨v,h4,h5⟩:=f.val i d h2;refine ⟨v,?_,h5⟩;unfold GF;rw [ua6 (by simpa using h0),ud3,ug3,h1];simp [h4]
 ·obtain ⟨_,_,_,_,_,h⟩:=IX q;cases h
 ·obtain ⟨_,_,_,_,_,h⟩:=IX q;cases h
theorem RF.comp {f:M (List D)}{st:D->M Unit}{tst:M Bool}{elt:M D}{Q:VK}(q:RF K (Bl n fr f st tst elt) Z H Q):O7 (RI K f) (RG K st) (RT K tst) (RE K elt) (GF n fr) Z H Q:=by
 obtain ⟨Oo,c,t,fi,xs,t',eq,k⟩:=q;obtain ⟨ds,t1,e1,eq⟩:=Af eq;refine ⟨Oo,c,t,fi,ds,t1,e1,λJ H1 c1 f1 s1 it=>?_⟩
 cases e3:Cb st tst elt ds ⟨cenv n fr t1.env,t1.S⟩ with
 | none=>rw [e3] at eq;cases eq
 | some p=>
   obtain ⟨ys,t3⟩:=p;rw [e3] at eq;dsimp only at eq
   split at eq
   case isFalse=>cases eq
   next hl=>
   cases eq
   refine ⟨λi m acc Z' H'=>m=ds.length - i/\i<=ds.length/\∃c' t2 zs rest,FInv K c1.O c' t2 Z' H'/\Stp c1.O c1 H1 c' H'/\Reps K c' H' acc zs/\Cb st tst elt (ds.drop i) t2=some (rest,t3)/\xs=zs++rest,
    ⟨_,rfl,uo8 _,c1,_,[],xs,OD f1,.refl,.nil,by rw [ul5];exact e3,rfl⟩,?_⟩
   rintro i m acc Z' H' ⟨rfl,hi,c',t2,zs,rest,f2,s2,ra,e2,ez⟩;have hacc:acc.length<=sizeLine:=by
    have:zs.length<=xs.length:=by rw [ez,uf6];exact ui1 _ _
    rw [ra.length];exact un3 this (un3 hl C4)
   refine ⟨hacc,?_⟩
   by_cases hlt:i < ds.length
   ·refine .inr ⟨it.go c' H' i s2.ext hlt,λx H'' hy=>?_⟩;obtain ⟨rfl,rx⟩:=it.yld c' H' i x H'' _ s2.ext (ub4 hlt) hy;rw [ub3 hlt] at e2;unfold Cb at e2;obtain ⟨u,t4,e4,e2⟩:=Af e2;obtain ⟨kb,t5,e5,e2⟩:=Af e2;refine ⟨c1.O,c',t2,_,f2,rx,t4,e4,λσ3 H3 c3 f3 s3=>⟨c1.O,c3,t4,f3,kb,t5,e5,λH4 c4 f4 s4=>?_⟩⟩
    cases kb with
    | false=>
      rw [if_neg uf3] at e2 ⊢;exact ⟨ds.length - (i + 1),by lia,rfl,hlt,c4,t5,zs,rest,f4,(s2.trans s3).trans s4,ra.mono (s3.trans s4).ext,e2,ez⟩
    | true=>
      rw [if_pos rfl] at e2 ⊢;obtain ⟨x6,t6,e6,e2⟩:=Af e2;obtain ⟨r7,t7,e7,e2⟩:=Af e2
      cases e2
      refine ⟨c1.O,c4,t5,f4,x6,t6,e6,λv H5 c5 f5 s5 rv=>?_⟩;exact ⟨ds.length - (i + 1),by lia,rfl,hlt,c5,t6,zs++[x6],r7,f5,((s2.trans s3).trans s4).trans s5,(ra.mono ((s3.trans s4).trans s5).ext).append (.cons rv .nil),e7,by rw [ez,ug6];rfl⟩
   ·have hi':i=ds.length:=by lia
    subst hi';rw [List.drop_length] at e2
    cases e2
    refine .inl ⟨it.stop c' H' s2.ext,λp hp _=>?_⟩;obtain ⟨si,ext⟩:=f2.leave;obtain ⟨f6,s6⟩:=f1.after si ⟨s2.ext.trans ext,s2.oo⟩ (λ_=>Iff.rfl);rw [uj5] at ez;subst ez;exact k p acc H' _ f6 (s1.trans s6) (ra.mono ext) hp
end
end F2
namespace F2
open PySem L2 PySem.Spec PySem.SeqAt
noncomputable def eq0:D->D->Option Bool
 | .int a,.int b=>some (a == b)
 | .str a,.str b=>some (a == b)
 | .bl a,.bl b=>some (a == b)
 | .non,.non=>some true
 | .int _,.str _=>some false
 | .str _,.int _=>some false
 | _,_=>none
noncomputable def Db (f:D->D->Option Bool):List D->List D->Option Bool
 | x :: xs,y :: ys=>match f x y,Db f xs ys with
   | some a,some b=>some (a && b)
   | _,_=>none
 | _,_=>some true
def eqN:Nat->D->D->Option Bool
 | 0,x,y=>eq0 x y
 | n + 1,.tup xs,.tup ys=>(Db (eqN n) xs ys).map λb=>b && xs.length == ys.length
 | n + 1,.lst xs,.lst ys=>if xs.length=ys.length then Db (eqN n) xs ys else some false
 | _ + 1,x,y=>eq0 x y
noncomputable def ej (f:D->D->Option Bool)(xs ys:List D)(j:Nat):Bool:=match xs[j]?,ys[j]? with
 | some d,some e=>(f d e).getD true
 | _,_=>true
theorem Dm {f:D->D->Option Bool}:∀{xs ys:List D} {b:Bool},Db f xs ys=some b->b=(List.range (min xs.length ys.length)).all (ej f xs ys)/\∀(j:Nat) d e,xs[j]?=some d->ys[j]?=some e->∃k,f d e=some k
 | [],ys,b,h=>by
   have h:some true=some b:=by simpa [Db] using h
   cases h
   refine ⟨by simp,λj d e q _=>by simp at q⟩
 | x :: xs,[],b,h=>by
   have h:some true=some b:=by simpa [Db] using h
   cases h
   refine ⟨by simp,λj d e _ q=>by simp at q⟩
 | x :: xs,y :: ys,b,h=>by
   unfold Db at h
   cases e1:f x y with
   | none=>rw [e1] at h;cases h
   | some a=>
     cases e2:Db f xs ys with
     | none=>rw [e1,e2] at h;cases h
     | some c=>
       rw [e1,e2] at h
       cases h
       obtain ⟨h1,h2⟩:=Dm e2;refine ⟨?_,λj d e q1 q2=>?_⟩
       ·have hm:min (x :: xs).length (y :: ys).length=min xs.length ys.length + 1:=by simp [Nat.succ_min_succ]
        rw [hm,List.range_succ_eq_map,um2,List.all_map,h1];have:ej f (x :: xs) (y :: ys) 0=a:=by simp [ej,e1]
        rw [this];rfl
       ·cases j with
        | zero=>simp at q1 q2;subst q1 q2;exact ⟨a,e1⟩
        | succ j=>exact h2 j d e (by simpa using q1) (by simpa using q2)
variable {P:Program}{w:World}{H:Hp}{vs:List V}
theorem GM {h:Heap}{a:Addr}(o:HOk P w H h)(e:H a=some (.lst vs)):∃its:List Value,Vals vs its/\h.IsList a its.toArray:=by
 obtain ⟨_,its,n,r,q⟩:=o a _ e;exact ⟨its,r,_,q,rfl,n,rfl⟩
theorem Ii {h:Heap}{a:Addr}(o:HOk P w H h)(e:H a=some (.tup vs)):∃its:List Value,Vals vs its/\h.IsTuple a its.toArray:=by
 obtain ⟨_,its,r,q⟩:=o a _ e;exact ⟨its,r,q⟩
theorem Km {its:List Value}{j:Nat}(r:Vals vs its)(h:j < its.toArray.size):∃v,vs[j]?=some v/\RelV v its.toArray[j]:=by
 have h':j < its.length:=by simpa using h
 have hl:j < vs.length:=by rw [r.length];exact h'
 obtain ⟨u,e1,e2⟩:=r.get (ub4 hl);refine ⟨vs[j],ub4 hl,?_⟩;rw [ub4 h'] at e1
 cases e1
 simpa using e2
variable {b:Bool}
theorem PB {f:D->D->Option Bool}{xs ys:List D}(h:Db f xs ys=some b)(ht:∀(j:Nat) d e k,xs[j]?=some d->ys[j]?=some e->f d e=some k->k=true):b=true:=by
 obtain ⟨h1,h2⟩:=Dm h;rw [h1,ui2];intro j hj;have hj':=ul1.mp hj;have l1:j < xs.length:=by lia
 have l2:j < ys.length:=by lia
 obtain ⟨k,ek⟩:=h2 j _ _ (ub4 l1) (ub4 l2);have:=ht j _ _ k (ub4 l1) (ub4 l2) ek;unfold ej;rw [ub4 l1,ub4 l2];simp [ek,this]
theorem Hg {x y:D}(e:eq0 x y=some b):(∃i j,x = .int i/\y = .int j/\(i == j)=b)\/(∃i j,x = .str i/\y = .str j/\(i == j)=b)\/(∃i j,x = .bl i/\y = .bl j/\(i == j)=b)\/(x = .non/\y = .non/\true=b)\/(∃i j,x = .int i/\y = .str j/\false=b)\/(∃i j,x = .str i/\y = .int j/\false=b):=by
 unfold eq0 at e
 split at e
 ·cases e;exact .inl ⟨_,_,rfl,rfl,rfl⟩
 ·cases e;exact .inr (.inl ⟨_,_,rfl,rfl,rfl⟩)
 ·cases e;exact .inr (.inr (.inl ⟨_,_,rfl,rfl,rfl⟩))
 ·cases e;exact .inr (.inr (.inr (.inl ⟨rfl,rfl,rfl⟩)))
 ·cases e;exact .inr (.inr (.inr (.inr (.inl ⟨_,_,rfl,rfl,rfl⟩))))
 ·cases e;exact .inr (.inr (.inr (.inr (.inr ⟨_,_,rfl,rfl,rfl⟩))))
 ·cases e
theorem Hh {n:Nat}{x y:D}(e:eqN n x y=some b):eq0 x y=some b\/(∃m xs ys,n=m + 1/\x = .lst xs/\y = .lst ys/\(if xs.length=ys.length then Db (eqN m) xs ys else some false)=some b)\/∃m xs ys b',n=m + 1/\x = .tup xs/\y = .tup ys/\Db (eqN m) xs ys=some b'/\(b' && xs.length == ys.length)=b:=by
 unfold eqN at e
 split at e
 ·exact .inl e
 ·obtain ⟨b',e1,e2⟩:=uc6.mp e;exact .inr (.inr ⟨_,_,_,b',rfl,rfl,rfl,e1,e2⟩)
 ·exact .inr (.inl ⟨_,_,_,rfl,rfl,rfl,e⟩)
 ·exact .inl e
variable {K:PySem.W.Frag}{c:Cf}
theorem NG:∀(n:Nat) {v:V} {d e:D} {b:Bool},Rep K c H v d->Rep K c H v e->eqN n d e=some b->b=true
 :=by
  intro n
  induction n using Nat.strongRecOn with
  | ind n ih=>
  intro v d e b rd re q;have items:∀{m:Nat} {vs:List V} {ds es:List D} {b':Bool},n=m + 1->Reps K c H vs ds->Reps K c H vs es->Db (eqN m) ds es=some b'->b'=true:=λ{m vs ds es b'} hm r1 r2 e'=>
   PB e' λj d e k q1 q2 ek=>by
    obtain ⟨v,g1,g2⟩:=r1.at q1;exact ih m (by lia) g2 (r2.get g1 q2) ek
  rcases Hh q with q0 | ⟨m,ds,es,hm,rfl,rfl,q0⟩ | ⟨m,ds,es,b',hm,rfl,rfl,q1,q2⟩
  ·rcases Hg q0 with ⟨i,j,rfl,rfl,rfl⟩ | ⟨i,j,rfl,rfl,rfl⟩ | ⟨i,j,rfl,rfl,rfl⟩ | ⟨rfl,rfl,rfl⟩ | ⟨i,j,rfl,rfl,rfl⟩ | ⟨i,j,rfl,rfl,rfl⟩
   ·cases rd;cases re;simp
   ·cases rd;cases re;simp
   ·cases rd;cases re;simp
   ·cases rd;cases re;rfl
   ·cases rd;cases re
   ·cases rd;cases re
  ·cases rd with
   | lst h1 h2 h3=>
     cases re with
     | lst g1 g2 g3=>
       rw [h1] at g1;cases g1
       rw [if_pos (h3.length.symm.trans g3.length)] at q0;exact items hm h3 g3 q0
  ·cases rd with
   | tup h1 h2 h3=>
     cases re with
     | tup g1 g2 g3=>
       rw [h1] at g1;cases g1
       rw [<-q2,items hm h3 g3 q1,h3.length.symm.trans g3.length];simp
theorem NE {s:Shared}(hok:HOk P w H s.heap):∀(n:Nat) {A:Around} {x y:V} {u v:Value} {dx dy:D} {b:Bool},RelV x u->RelV y v->Rep K c H x dx->Rep K c H y dy->eqN n dx dy=some b->A.units + n < cLine->
 RcAt A s u v b/\(EqAt A s u v b)
 :=by
  intro n
  induction n using Nat.strongRecOn with
  | ind n ih=>
  intro A x y u v dx dy b ru rv rx ry e hu;have items:∀{m:Nat} {vs ws:List V} {is js:List Value} {ds es:List D} {b':Bool},n=m + 1->Vals vs is->Vals ws js->Reps K c H vs ds->Reps K c H ws es->Db (eqN m) ds es=some b'->
   ∀j (h1:j < is.toArray.size) (h2:j < js.toArray.size),EqAt A.in1 s is.toArray[j] js.toArray[j] (ej (eqN m) ds es j):=λ{m vs ws is js ds es b'} hm r1 r2 q1 q2 e' j h1 h2=>by
   obtain ⟨v1,a1,a2⟩:=Km r1 h1;obtain ⟨v2,b1,b2⟩:=Km r2 h2;obtain ⟨l1,g1⟩:=ub1.mp a1;obtain ⟨l2,g2⟩:=ub1.mp b1;have k1:ds[j]?=some (ds[j]'(by rw [<-q1.length];exact l1)):=ub4 _;have k2:es[j]?=some (es[j]'(by rw [<-q2.length];exact l2)):=ub4 _;obtain ⟨kk,ek⟩:=(Dm e').2 j _ _ k1 k2;have:ej (eqN m) ds es j=kk:=by unfold ej;rw [k1,k2];simp [ek]
   rw [this];have hu':A.in1.units + m < cLine:=by
    have:A.in1.units=A.units + 1:=by first | rfl | exact Around.units_in1 _ | simp [Around.in1,Around.units]
    lia
   exact (ih m (by lia) a2 b2 (q1.get a1 k1) (q2.get b1 k2) ek hu').2
  have hu0:A.units < cLine:=by lia
  have conc:∀{p q:Addr} {k:Bool},p≠q->RcAt A s (.ref p) (.ref q) k->RcAt A s (.ref p) (.ref q) k/\EqAt A s (.ref p) (.ref q) k:=λhn h=>⟨h,EqAt.of_refs hn h⟩;rcases Hh e with e0 | ⟨m,ds,es,hm,rfl,rfl,e0⟩ | ⟨m,ds,es,b',hm,rfl,rfl,e1,e2⟩
  ·rcases Hg e0 with ⟨i,j,rfl,rfl,rfl⟩ | ⟨i,j,rfl,rfl,rfl⟩ | ⟨i,j,rfl,rfl,rfl⟩ | ⟨rfl,rfl,rfl⟩ | ⟨i,j,rfl,rfl,rfl⟩ | ⟨i,j,rfl,rfl,rfl⟩
   ·cases rx;cases ry;obtain ⟨t',rfl⟩:=ru;obtain ⟨t,rfl⟩:=rv;exact ⟨RcAt.int_int _ _ _ _,EqAt.int_int _ _ _ _⟩
   ·cases rx;cases ry;obtain ⟨t',rfl⟩:=ru;obtain ⟨t,rfl⟩:=rv;exact ⟨RcAt.str_str _ _ _ _,EqAt.str_str _ _ _ _⟩
   ·cases rx;cases ry;cases ru;cases rv;exact ⟨RcAt.bool_bool _ _,EqAt.bool_bool _ _⟩
   ·cases rx;cases ry;cases ru;cases rv;exact ⟨RcAt.none_none,EqAt.same _⟩
   ·cases rx;cases ry;obtain ⟨t',rfl⟩:=ru;obtain ⟨t,rfl⟩:=rv;exact ⟨RcAt.int_str _ _ _ _,EqAt.int_str _ _ _ _⟩
   ·cases rx;cases ry;obtain ⟨t',rfl⟩:=ru;obtain ⟨t,rfl⟩:=rv;exact ⟨RcAt.str_int _ _ _ _,EqAt.str_int _ _ _ _⟩
  ·cases rx with
   | @lst p vs _ g1 g2 g3=>
   cases ry with
   | @lst q ws _ h1 h2 h3=>
     cases ru
     cases rv
     obtain ⟨is,r1,l1⟩:=GM hok g1;obtain ⟨js,r2,l2⟩:=GM hok h1;have hs1:is.toArray.size=ds.length:=by rw [<-g3.length,r1.length];simp
     have hs2:js.toArray.size=es.length:=by rw [<-h3.length,r2.length];simp
     by_cases hl:ds.length=es.length
     ·rw [if_pos hl] at e0;have hsz:is.toArray.size=js.toArray.size:=by rw [hs1,hs2,hl]
      have rc:=RcAt.lists l1 l2 hsz hu0 (items hm r1 r2 g3 h3 e0);have eb:(List.range is.toArray.size).all (ej (eqN m) ds es)=b:=by rw [(Dm e0).1,hs1,<-hl,Nat.min_self]
      rw [eb] at rc
      by_cases hpq:p=q
      ·refine ⟨rc,?_⟩;subst hpq;rw [NG n (Rep.lst g1 g2 g3) (Rep.lst h1 h2 h3) e];exact EqAt.same _
      ·exact conc hpq rc
     ·rw [if_neg hl] at e0
      cases e0
      have hsz:(is.toArray.size != js.toArray.size)=true:=by rw [hs1,hs2];simpa using hl
      refine conc (λz=>hl ?_) (RcAt.lists_lengths l1 l2 hsz hu0);subst z;rw [g1] at h1;cases h1
      rw [<-g3.length,<-h3.length]
  ·cases rx with
   | @tup p vs _ g1 g2 g3=>
   cases ry with
   | @tup q ws _ h1 h2 h3=>
     cases ru
     cases rv
     obtain ⟨is,r1,l1⟩:=Ii hok g1;obtain ⟨js,r2,l2⟩:=Ii hok h1;have hs1:is.toArray.size=ds.length:=by rw [<-g3.length,r1.length];simp
     have hs2:js.toArray.size=es.length:=by rw [<-h3.length,r2.length];simp
     have rc:=RcAt.tuples l1 l2 hu0 (items hm r1 r2 g3 h3 e1);have eb:((List.range (min is.toArray.size js.toArray.size)).all (ej (eqN m) ds es) && is.toArray.size == js.toArray.size)=b:=by rw [hs1,hs2,<-(Dm e1).1];exact e2
     rw [eb] at rc
     by_cases hpq:p=q
     ·refine ⟨rc,?_⟩;subst hpq;rw [NG n (Rep.tup g1 g2 g3) (Rep.tup h1 h2 h3) e];exact EqAt.same _
     ·exact conc hpq rc
theorem Vl {s:Shared}(hok:HOk P w H s.heap)(n:Nat){A:Around}{x y:V}{u v:Value}{dx dy:D}{b:Bool}(ru:RelV x u)(rv:RelV y v)(rx:Rep K c H x dx)(ry:Rep K c H y dy)(e:eqN n dx dy=some b)(hu:A.units + n < cLine) :
 RcNeAt A s u v (!b):=by
 have items:∀{m:Nat} {vs ws:List V} {is js:List Value} {ds es:List D} {b':Bool},n=m + 1->Vals vs is->Vals ws js->Reps K c H vs ds->Reps K c H ws es->Db (eqN m) ds es=some b'->
  ∀j (h1:j < is.toArray.size) (h2:j < js.toArray.size),EqAt A.in1 s is.toArray[j] js.toArray[j] (ej (eqN m) ds es j):=λ{m vs ws is js ds es b'} hm r1 r2 q1 q2 e' j h1 h2=>by
  obtain ⟨v1,a1,a2⟩:=Km r1 h1;obtain ⟨v2,b1,b2⟩:=Km r2 h2;obtain ⟨l1,g1⟩:=ub1.mp a1;obtain ⟨l2,g2⟩:=ub1.mp b1;have k1:ds[j]?=some (ds[j]'(by rw [<-q1.length];exact l1)):=ub4 _;have k2:es[j]?=some (es[j]'(by rw [<-q2.length];exact l2)):=ub4 _;obtain ⟨kk,ek⟩:=(Dm e').2 j _ _ k1 k2;have:ej (eqN m) ds es j=kk:=by unfold ej;rw [k1,k2];simp [ek]
  rw [this];have hu':A.in1.units + m < cLine:=by
   have:A.in1.units=A.units + 1:=rfl;lia
  exact (NE hok m a2 b2 (q1.get a1 k1) (q2.get b1 k2) ek hu').2
 have hu0:A.units < cLine:=by lia
 rcases Hh e with e0 | ⟨m,ds,es,hm,rfl,rfl,e0⟩ | ⟨m,ds,es,b',hm,rfl,rfl,e1,e2⟩
 ·rcases Hg e0 with ⟨i,j,rfl,rfl,rfl⟩ | ⟨i,j,rfl,rfl,rfl⟩ | ⟨i,j,rfl,rfl,rfl⟩ | ⟨rfl,rfl,rfl⟩ | ⟨i,j,rfl,rfl,rfl⟩ | ⟨i,j,rfl,rfl,rfl⟩
  ·cases rx;cases ry;obtain ⟨t',rfl⟩:=ru;obtain ⟨t,rfl⟩:=rv;exact RcNeAt.int_int _ _ _ _
  ·cases rx;cases ry;obtain ⟨t',rfl⟩:=ru;obtain ⟨t,rfl⟩:=rv;exact RcNeAt.str_str _ _ _ _
  ·cases rx;cases ry;cases ru;cases rv;exact RcNeAt.bool_bool _ _
  ·cases rx;cases ry;cases ru;cases rv;exact RcNeAt.none_none
  ·cases rx;cases ry;obtain ⟨t',rfl⟩:=ru;obtain ⟨t,rfl⟩:=rv;exact RcNeAt.int_str _ _ _ _
  ·cases rx;cases ry;obtain ⟨t',rfl⟩:=ru;obtain ⟨t,rfl⟩:=rv;exact RcNeAt.str_int _ _ _ _
 ·cases rx with
  | @lst p vs _ g1 g2 g3=>
  cases ry with
  | @lst q ws _ h1 h2 h3=>
    cases ru
    cases rv
    obtain ⟨is,r1,l1⟩:=GM hok g1;obtain ⟨js,r2,l2⟩:=GM hok h1;have hs1:is.toArray.size=ds.length:=by rw [<-g3.length,r1.length];simp
    have hs2:js.toArray.size=es.length:=by rw [<-h3.length,r2.length];simp
    by_cases hl:ds.length=es.length
    ·rw [if_pos hl] at e0;have hsz:is.toArray.size=js.toArray.size:=by rw [hs1,hs2,hl]
     have rc:=RcNeAt.lists l1 l2 hsz hu0 (items hm r1 r2 g3 h3 e0);rw [show (List.range is.toArray.size).all (ej (eqN m) ds es)=b by rw [(Dm e0).1,hs1,<-hl,Nat.min_self]] at rc;exact rc
    ·rw [if_neg hl] at e0
     cases e0
     exact RcNeAt.lists_lengths l1 l2 (by rw [hs1,hs2];simpa using hl) hu0
 ·cases rx with
  | @tup p vs _ g1 g2 g3=>
  cases ry with
  | @tup q ws _ h1 h2 h3=>
    cases ru
    cases rv
    obtain ⟨is,r1,l1⟩:=Ii hok g1;obtain ⟨js,r2,l2⟩:=Ii hok h1;have hs1:is.toArray.size=ds.length:=by rw [<-g3.length,r1.length];simp
    have hs2:js.toArray.size=es.length:=by rw [<-h3.length,r2.length];simp
    have rc:=RcNeAt.tuples l1 l2 hu0 (items hm r1 r2 g3 h3 e1);have eb:((List.range (min is.toArray.size js.toArray.size)).all (ej (eqN m) ds es) && is.toArray.size == js.toArray.size)=b:=by rw [hs1,hs2,<-(Dm e1).1];exact e2
    rw [eb] at rc;exact rc
def EQD:Nat:=40
def neD (x y:D):M D:=λt=>(eqN EQD x y).map λb=>(.bl (!b),t)
def O0 (K:PySem.W.Frag)(g:Bool->Bool):R2:=λx y H Q=>∃c dx dy b,Rep K c H x dx/\Rep K c H y dy/\eqN EQD dx dy=some b/\Q (.bl (g b)) H
theorem QC {X:Cx}(hu:X.A.units + 64 < cLine):OpR X (compareOp .Eq) (O0 X.K id):=by
 intro pins s Z H x y v u Q I rx ry h;obtain ⟨c,dx,dy,b,q1,q2,e,q⟩:=h;have hu':X.A.units + EQD < cLine:=by unfold EQD;lia
 exact (NE I.hok EQD rx ry q1 q2 e hu').1 X.prog X.w _ _ ⟨.bl b,H,I,rfl,q⟩
theorem MP {X:Cx}(hu:X.A.units + 64 < cLine):OpR X (compareOp .NotEq) (O0 X.K (!·)):=by
 intro pins s Z H x y v u Q I rx ry h;obtain ⟨c,dx,dy,b,q1,q2,e,q⟩:=h;have hu':X.A.units + EQD < cLine:=by unfold EQD;lia
 exact Vl I.hok EQD rx ry q1 q2 e hu' X.prog X.w _ _ ⟨.bl (!b),H,I,rfl,q⟩
end F2
namespace F2
open PySem L2 PySem.Spec
variable {g:Int->Int->D}{t:T}{z:D×T}{X:Cx}{c:Cf}{H:Hp}
section
variable {K:PySem.W.Frag}
def i2 (g:Int->Int->D):D->D->M D
 | .int i,.int j=>ret (g i j)
 | _,_=>fail
theorem XL {x y:D}(h:i2 g x y t=some z):∃i j,x = .int i/\y = .int j/\z=(g i j,t):=by
 cases x with
 | int i=>cases y with
   | int j=>cases h;exact ⟨i,j,rfl,rfl,rfl⟩
   | _=>cases h
 | _=>cases h
theorem YO {gV:Int->Int->V}(hr:∀i j c H,Rep K c H (gV i j) (g i j)):A8 K (rI0 gV) (i2 g):=λ{Oo c t Z H x y dx dy r t' Q} f rx ry eq k=>by
 obtain ⟨i,j,rfl,rfl,z⟩:=XL eq
 cases z
 cases rx
 cases ry
 exact ⟨i,j,rfl,rfl,k _ H c f .refl (hr i j c H)⟩
def i2C (C:Int->Int->Bool)(g:Int->Int->D):D->D->M D
 | .int i,.int j=>λt=>if C i j=true then some (g i j,t) else none
 | _,_=>fail
theorem U8 {C:Int->Int->Bool}{x y:D}(h:i2C C g x y t=some z):∃i j,x = .int i/\y = .int j/\C i j=true/\z=(g i j,t):=by
 cases x with
 | int i=>cases y with
   | int j=>
     unfold i2C at h;dsimp only at h
     by_cases hc:C i j=true
     ·rw [if_pos hc] at h;cases h;exact ⟨i,j,rfl,rfl,hc,rfl⟩
     ·rw [if_neg hc] at h;cases h
   | _=>cases h
 | _=>cases h
theorem Fp {P:Int->Int->Prop}{C:Int->Int->Bool}{gV:Int->Int->V}(hP:∀i j,C i j=true->P i j)(hr:∀i j c H,Rep K c H (gV i j) (g i j)):A8 K (rI P gV) (i2C C g):=λ{Oo c t Z H x y dx dy r t' Q} f rx ry eq k=>by
 obtain ⟨i,j,rfl,rfl,hc,z⟩:=U8 eq
 cases z
 cases rx
 cases ry
 exact ⟨i,j,rfl,rfl,hP i j hc,k _ H c f .refl (hr i j c H)⟩
def Bs:=i2 λi j=>.int (i - j)
noncomputable def LJ (_ j:Int):Bool:=decide (0 < j) && decide (j < 1073741824)
def Fe:=i2C LJ λi j=>.int (i / j)
def El:=i2C (λ_ j=>decide (0 < j)) λi j=>.int (i % j)
noncomputable def LM (i j:Int):Bool:=decide (0<=j) && decide (j<=1000000) && decide (i.natAbs < 2 ^ 64)
def HD:=i2C LM λi j=>.int (i ^ j.toNat)
noncomputable def Fj (i j:Int):Bool:=(decide (-(2 ^ 64) < i) && decide (i < 2 ^ 64)) || (decide (-(2 ^ 64) < j) && decide (j < 2 ^ 64))
def M6:=i2C (λ_ j=>decide (0<=j)) λi j=>.int (i / 2 ^ j.toNat)
theorem Wo:A8 K (rI0 λi j=>.int (i - j)) Bs:=YO λi j _ _=>.int _
theorem Tr:A8 K (rI WP λi j=>.int (i / j)) Fe:=Fp (λi j h=>by
 unfold LJ at h;rw [uh9] at h;exact ⟨uh3 h.1,uh3 h.2⟩) λi j _ _=>.int _
theorem Wg:A8 K (rI (λ_ j=>0 < j) λi j=>.int (i % j)) El:=Fp (λi j h=>uh3 h) λi j _ _=>.int _
theorem Wl:A8 K (rI WQ λi j=>.int (i ^ j.toNat)) HD:=Fp (λi j h=>by
 unfold LM at h;rw [uh9,uh9] at h;exact ⟨uh3 h.1.1,uh3 h.1.2,uh3 h.2⟩) λi j _ _=>.int _
theorem Wm:A8 K (rI (λ_ j=>0<=j) λi j=>.int (i / 2 ^ j.toNat)) M6:=Fp (λi j h=>uh3 h) λi j _ _=>.int _
theorem Qv {i j:Int}(h:Fj i j=true):CMul i j:=by
 unfold Fj at h;rw [uk3,uh9,uh9] at h;rcases h with h | h
 ·exact .inl ⟨uh3 h.1,uh3 h.2⟩
 ·exact .inr ⟨uh3 h.1,uh3 h.2⟩
def Hz:D->M D
 | .int i=>ret (.int (-i))
 | _=>fail
theorem Wi:WU K (rU λi=>.int (-i)) Hz:=λ{Oo c t Z H x dx r t' Q} f rx eq k=>by
 cases rx with
 | int i=>cases eq;exact ⟨i,rfl,k _ H c f .refl (.int _)⟩
 | _=>cases eq
def WY:D->D->M D
 | .int i,.int j=>ret (.int (i + j))
 | .str x,.str y=>lim (x.length + y.length) (.str (x++y))
 | .lst xs,.lst ys=>lim (xs.length + ys.length) (.lst (xs++ys))
 | _,_=>fail
def VZ:R2:=λx y H Q=>∃i j,x = .str i/\y = .str j/\i.length + j.length<=sizeLine/\Q (.str (i++j)) H
def OZ (K:PySem.W.Frag):R2:=λx y H Q=>rI0 (λi j=>.int (i + j)) x y H Q\/(VZ x y H Q\/Tk x y H Q)
theorem Vu:OpR X (binaryOp .Add) (OZ X.K):=op_add.or (op_add_str.or QB)
theorem V5:A8 K (OZ K) WY:=λ{Oo c t Z H x y dx dy r t' Q} f rx ry eq k=>by
 cases rx with
 | int i=>
   cases ry with
   | int j=>cases eq;exact .inl ⟨i,j,rfl,rfl,k _ H c f .refl (.int _)⟩
   | _=>cases eq
 | str i=>
   cases ry with
   | str j=>
     obtain ⟨h,z⟩:=Ey eq
     cases z
     exact .inr (.inl ⟨i,j,rfl,rfl,un3 h C4,k _ H c f .refl (.str _)⟩)
   | _=>cases eq
 | @lst a vs ds h1 h2 h3=>
   cases ry with
   | @lst b ws es g1 g2 g3=>
     obtain ⟨h,z⟩:=Ey eq
     cases z
     refine .inr (.inr ⟨a,b,vs,ws,rfl,rfl,h1,g1,?_,λp hp=>?_⟩)
     ·rw [h3.length,g3.length];exact un3 h C4
     ·exact k _ _ c (f.laid hp) (f.stp_laid hp) (.lst Ak (f.s.free hp) ((h3.append g3).mono (Ext.laid f.s hp)))
   | _=>cases eq
 | _=>cases eq
def He:D->D->M (List D)
 | .lst xs,.lst ys=>lim (xs.length + ys.length) (xs++ys)
 | _,_=>fail
theorem Tq:Om K Tk He:=λ{Oo c t Z H x y dx dy r t' Q} f rx ry eq k=>by
 cases rx with
 | @lst a vs ds h1 h2 h3=>
   cases ry with
   | @lst b ws es g1 g2 g3=>
     obtain ⟨h,z⟩:=Ey eq
     cases z
     refine ⟨a,b,vs,ws,rfl,rfl,h1,g1,?_,λp hp=>k p _ H c f .refl (h3.append g3) hp⟩;rw [h3.length,g3.length];exact un3 h C4
   | _=>cases eq
 | _=>cases eq
def isC:D->D->M D
 | x,.non=>λt=>some (.bl (match x with | .non=>true | _=>false),t)
 | x,.bl b=>λt=>some (.bl (match x with | .bl c=>c == b | _=>false),t)
 | _,_=>fail
def Qg (x y:D):M D:=bnd (isC x y) λd=>match d with | .bl b=>ret (.bl (!b)) | _=>fail
def rIs (g:Bool->Bool):R2:=λx y H Q=>(y = .non\/∃b,y = .bl b)/\Q (.bl (g (decide (x=y)))) H
theorem UA {x y:V}{v u:Value}(rx:RelV x v)(ry:RelV y u)(hy:y = .non\/∃b,y = .bl b):plainIs v u=true/\(v == u)=decide (x=y):=by
 rcases hy with rfl | ⟨b,rfl⟩
 ·cases ry
  cases x with
  | non=>cases rx;exact ⟨rfl,by simp⟩
  | bl _=>cases rx;exact ⟨rfl,by simp⟩
  | int _=>obtain ⟨t,rfl⟩:=rx;exact ⟨rfl,by simp⟩
  | str _=>obtain ⟨t,rfl⟩:=rx;exact ⟨rfl,by simp⟩
  | byt _=>obtain ⟨t,rfl⟩:=rx;exact ⟨rfl,by simp⟩
  | flt _=>obtain ⟨t,rfl⟩:=rx;exact ⟨rfl,by simp⟩
  | ref _=>cases rx;exact ⟨rfl,by simp⟩
  | ty _=>cases rx;exact ⟨rfl,by simp⟩
 ·cases ry
  cases x with
  | non=>cases rx;exact ⟨rfl,by simp⟩
  | bl c=>cases rx;exact ⟨rfl,by cases c <;> cases b <;> rfl⟩
  | int _=>obtain ⟨t,rfl⟩:=rx;exact ⟨rfl,by simp⟩
  | str _=>obtain ⟨t,rfl⟩:=rx;exact ⟨rfl,by simp⟩
  | byt _=>obtain ⟨t,rfl⟩:=rx;exact ⟨rfl,by simp⟩
  | flt _=>obtain ⟨t,rfl⟩:=rx;exact ⟨rfl,by simp⟩
  | ref _=>cases rx;exact ⟨rfl,by simp⟩
  | ty _=>cases rx;exact ⟨rfl,by simp⟩
theorem QE:OpR X (compareOp .Is) (rIs id):=by
 intro pins s Z H x y v u Q I rx ry h;obtain ⟨hy,q⟩:=h;obtain ⟨h1,h2⟩:=UA rx ry hy;exact wpAny_is_plain h1 ⟨.bl _,H,I,by rw [h2];rfl,q⟩
theorem Va {x y:V}{dx dy:D}(rx:Rep K c H x dx)(ry:Rep K c H y dy)(eq:isC dx dy t=some z):(y = .non\/∃b,y = .bl b)/\z=(.bl (decide (x=y)),t):=by
 cases ry with
 | non=>
   refine ⟨.inl rfl,?_⟩
   cases rx <;> (cases eq;first | rfl | simp)
 | bl b=>
   refine ⟨.inr ⟨b,rfl⟩,?_⟩
   cases rx <;> (cases eq;first | rfl | simp)
   next a=>cases a <;> cases b <;> rfl
 | _=>cases eq
theorem Q3:A8 K (rIs id) isC:=λ{Oo c t Z H x y dx dy r t' Q} f rx ry eq k=>by
 obtain ⟨h,z⟩:=Va rx ry eq
 cases z
 exact ⟨h,k _ H c f .refl (.bl _)⟩
noncomputable def GJ:D->Bool
 | .non=>true | .bl _=>true | .int _=>true | .str _=>true | _=>false
noncomputable def toV:D->V
 | .bl b=>.bl b | .int i=>.int i | .str x=>.str x | _=>.non
theorem KY {v:V}{d:D}(r:Rep K c H v d)(h:GJ d=true):v=toV d:=by cases r <;> first | rfl | cases h
theorem Jr {c:Cf}{H:Hp}:∀{vs:List V} {ds:List D},Reps K c H vs ds->ds.all GJ=true->vs=ds.map toV
 | _,_,.nil,_=>rfl
 | _,_,.cons r t,h=>by
   rw [um2,uh9] at h;rw [um0,KY r h.1,Jr t h.2]
theorem Mx:∀d:D,Fg (toV d)=true:=λd=>by cases d <;> rfl
def ixD:D->D->M D
 | .lst ds,.int i=>λt=>(atI ds i).map λd=>(d,t)
 | .tup ds,.int i=>λt=>(atI ds i).map λd=>(d,t)
 | .scr ns,.int i=>λt=>(atI ns i).map λn=>(.int n,t)
 | .str x,.int i=>λt=>if x.length<=LIM then (atI x.cps.toList i).map λn=>(.str ⟨#[n]⟩,t) else none
 | .obj k,.int i=>λt=>match t.S[k]? with
   | some (.lst ds)=>(atI ds i).map λd=>(d,t)
   | _=>none
 | _,_=>fail
theorem IU {vs:List V}{ds:List D}{i:Int}{d:D}(r:Reps K c H vs ds)(h:atI ds i=some d):∃v,atI vs i=some v/\Rep K c H v d:=by
 unfold atI at h ⊢;obtain ⟨j,h1,h2⟩:=Option.bind_eq_some_iff.mp h;obtain ⟨v,h3,h4⟩:=r.at h2;exact ⟨v,by rw [r.length,h1];exact h3,h4⟩
theorem Uy {α β:Type}(g:α->β)(xs:List α)(i:Int):atI (xs.map g) i=(atI xs i).map g:=by
 unfold atI;rw [uj3]
 cases ixN xs.length i with
 | none=>rfl
 | some j=>simp
theorem XO {dx dy r:D}{t':T}(eq:ixD dx dy t=some (r,t')):∃i,dy = .int i/\((∃ds,dx = .lst ds)\/(∃ds,dx = .tup ds)\/(∃ns,dx = .scr ns)\/(∃z,dx = .str z)\/∃k,dx = .obj k):=by
 unfold ixD at eq
 split at eq
 ·exact ⟨_,rfl,.inl ⟨_,rfl⟩⟩
 ·exact ⟨_,rfl,.inr (.inl ⟨_,rfl⟩)⟩
 ·exact ⟨_,rfl,.inr (.inr (.inl ⟨_,rfl⟩))⟩
 ·exact ⟨_,rfl,.inr (.inr (.inr (.inl ⟨_,rfl⟩)))⟩
 ·exact ⟨_,rfl,.inr (.inr (.inr (.inr ⟨_,rfl⟩)))⟩
 ·cases eq
theorem YQ:A8 K (rIx K) ixD:=λ{Oo c t Z H x y dx dy r t' Q} f rx ry eq k=>by
 obtain ⟨i,rfl,hd⟩:=XO eq
 cases ry
 rcases hd with ⟨ds,rfl⟩ | ⟨ds,rfl⟩ | ⟨ns,rfl⟩ | ⟨z,rfl⟩ | ⟨kk,rfl⟩
 ·cases rx with
  | @lst a vs _ h1 h2 h3=>
    obtain ⟨d,e1,e2⟩:=uc6.mp eq
    cases e2
    obtain ⟨v,e3,e4⟩:=IU h3 e1;exact .inl ⟨a,vs,i,v,rfl,rfl,SqL.of h1,e3,k _ H c f .refl e4⟩
 ·cases rx with
  | @tup a vs _ h1 h2 h3=>
    obtain ⟨d,e1,e2⟩:=uc6.mp eq
    cases e2
    obtain ⟨v,e3,e4⟩:=IU h3 e1;exact .inr (.inl ⟨a,vs,i,v,rfl,rfl,SqT.of h1,e3,k _ H c f .refl e4⟩)
 ·cases rx with
  | @scr a _ h1=>
    obtain ⟨n,e1,e2⟩:=uc6.mp eq
    cases e2
    exact .inl ⟨a,_,i,.int n,rfl,rfl,h1.sq,by rw [Uy,e1];rfl,k _ H c f .refl (.int n)⟩
 ·cases rx
  unfold ixD at eq;dsimp only at eq
  split at eq
  ·next hl=>
   obtain ⟨n,e1,e2⟩:=uc6.mp eq
   cases e2
   exact .inr (.inr ⟨z,i,n,rfl,rfl,un3 hl C4,e1,k _ H c f .refl (.str _)⟩)
  ·cases eq
 ·cases rx with
  | @obj a _ h1=>
    unfold ixD at eq;dsimp only at eq
    cases es:t.S[kk]? with
    | none=>rw [es] at eq;cases eq
    | some o=>
      rw [es] at eq
      cases o with
      | dct _ | ins _ _=>cases eq
      | lst ds=>
        obtain ⟨d,e1,e2⟩:=uc6.mp eq
        cases e2
        obtain ⟨vs,g1,g2⟩:=f.s.obs kk a _ h1 es;obtain ⟨v,e3,e4⟩:=IU g2 e1;exact .inl ⟨a,vs,i,v,rfl,rfl,SqL.of g1,e3,k _ H c f .refl e4⟩
end
variable {f:M D}{id:String}{R:List V->Hp->VK->Prop}{x:Str}{p:Pos}
section
variable {X:Cx}{e a b:Expr}{es:List Expr}{pos:Pos}
inductive RO (K:PySem.W.Frag)(f:M (Option Int))(Z:L2.St)(H:Hp)(Q:Option Int->Hp->Prop):Prop where
 | mk (Oo:Addr->Prop) (c:Cf) (t:T) (fi:FInv K Oo c t Z H) (r:Option Int) (t':T) (e:f t=some (r,t')) (k:∀H' c',FInv K Oo c' t' Z H'->Stp Oo c H c' H'->Q r H'):RO K f Z H Q
theorem Pm {oe:Option Expr}{t t':TO}(h:PO X oe t)(i:∀Z H Q,t' Z H Q->t Z H Q):PO X oe t':=λpins s Z H Q I q=>h pins s Z H Q I (i Z H Q q)
def fNo:M (Option Int):=ret none
def asI:D->M (Option Int)
 | .int i=>ret (some i)
 | _=>fail
def Dh (f:M D):M (Option Int):=bnd f asI
theorem UX:PO X none (RO X.K fNo):=Pm VQ λZ H Q z9=>by
 obtain ⟨Oo,c,t,fi,r,t',eq,k⟩:=z9
 cases eq
 exact k H c fi .refl
theorem UY (h:PE X e (RE X.K f)):PO X (some e) (RO X.K (Dh f)):=Pm (VR h) λZ H Q z9=>by
 obtain ⟨Oo,c,t,fi,r,t',eq,k⟩:=z9;obtain ⟨d,t1,e1,eq⟩:=Af eq;refine ⟨Oo,c,t,fi,d,t1,e1,λv H1 c1 f1 s1 rv=>?_⟩
 cases rv with
 | int i=>cases eq;exact ⟨i,rfl,k H1 c1 f1 s1⟩
 | _=>cases eq
def Rw (K:PySem.W.Frag)(R:V->Option Int->Option Int->Hp->VK->Prop)(h:D->Option Int->Option Int->M D):Prop:=∀{Oo:Addr->Prop} {c:Cf} {t:T} {Z:L2.St} {H:Hp} {x:V} {dx r:D} {lo hi:Option Int} {t':T} {Q:VK},FInv K Oo c t Z H->Rep K c H x dx->h dx lo hi t=some (r,t')->
 (∀v H' c',FInv K Oo c' t' Z H'->Stp Oo c H c' H'->Rep K c' H' v r->Q v H')->R x lo hi H Q
def fSl (f:M D)(l u:M (Option Int))(h:D->Option Int->Option Int->M D):M D:=bnd f λx=>bnd l λlo=>bnd u λhi=>h x lo hi
theorem R5 {R:V->Option Int->Option Int->Hp->VK->Prop}{h:D->Option Int->Option Int->M D}{l u:M (Option Int)}{lo hi:Option Expr}{p2:Pos}(hr:SlR X R)(s:Rw X.K R h)(he:PE X e (RE X.K f))(hl:PO X lo (RO X.K l))(hu:PO X hi (RO X.K u)):PE X (.Subscript e (.Slice lo hi none p2) pos) (RE X.K (fSl f l u h)):=
 AL (SY hr he hl hu) λZ H Q z9=>by
  obtain ⟨Oo,c,t,fi,r,t',eq,k⟩:=z9;obtain ⟨d,t1,e1,eq⟩:=Af eq;obtain ⟨ol,t2,e2,eq⟩:=Af eq;obtain ⟨oh,t3,e3,eq⟩:=Af eq;exact ⟨Oo,c,t,fi,d,t1,e1,λv H1 c1 f1 s1 rv=>⟨Oo,c1,t1,f1,ol,t2,e2,λH2 c2 f2 s2=>⟨Oo,c2,t2,f2,oh,t3,e3,λH3 c3 f3 s3=>
   s f3 (rv.mono (s2.trans s3).ext) eq λv H' c' f' s' rv'=>k v H' c' f' (((s1.trans s2).trans s3).trans s') rv'⟩⟩⟩
def Da {α:Type}(xs:List α)(lo hi:Option Int):List α:=(xs.drop (HT.sIx xs.length 0 lo)).take (HT.sIx xs.length xs.length hi - HT.sIx xs.length 0 lo)
def slD:D->Option Int->Option Int->M D
 | .lst ds,lo,hi=>ret (.lst (Da ds lo hi))
 | .scr ns,lo,hi=>ret (.lst ((Da ns lo hi).map .int))
 | _,_,_=>fail
theorem To {K:PySem.W.Frag}{vs:List V}{ds:List D}(r:Reps K c H vs ds)(lo hi:Option Int):Reps K c H (IY vs lo hi) (Da ds lo hi):=by
 unfold IY Da;rw [r.length];exact (r.drop _).take _
theorem RN {α β:Type}(g:α->β)(xs:List α)(lo hi:Option Int):Da (xs.map g) lo hi=(Da xs lo hi).map g:=by
 unfold Da;rw [uj3,um4,List.map_drop]
theorem Py (ns:List Int)(lo hi:Option Int):IY (ns.map V.int) lo hi=(Da ns lo hi).map V.int:=RN V.int ns lo hi
def Tl (K:PySem.W.Frag):V->Option Int->Option Int->Hp->VK->Prop:=YL K
theorem sl2:SlR X (Tl X.K):=Wv
theorem YR {K:PySem.W.Frag}:Rw K (Tl K) slD:=λ{Oo c t Z H x dx r lo hi t' Q} f rx eq k=>by
 cases rx with
 | @lst p vs ds h1 h2 h3=>
   cases eq
   exact ⟨p,vs,rfl,SqL.of h1,λq hq=>k _ _ c (f.laid hq) (f.stp_laid hq) (.lst Ak (f.s.free hq) ((To h3 lo hi).mono (Ext.laid f.s hq)))⟩
 | @scr p ns h1=>
   cases eq
   refine ⟨p,_,rfl,h1.sq,λq hq=>k _ _ c (f.laid hq) (f.stp_laid hq) (.lst Ak (f.s.free hq) ?_)⟩;rw [Py];exact Reps.ints _
 | _=>cases eq
theorem bo {h:List D->M D}{f:M (List D)}(hc:Ch X (.builtin id) R)(s:EX X.K R h)(hg:Gl X x)(hm:X.mg x=none)(hv:bootBuiltins x=some (.builtin id))(ha:PA X (e :: es) (RA X.K f))(hn:x≠"__name__":=by decide)(hdb:(x == ("__debug__" : Str))=false:=by decide)
 (he:starEach (e :: es) X.env=(false,eval e X.env) :: starEach es X.env:=by rfl) (hpl:(backTo pos (starEach es X.env)).any (·.1)=false:=by rfl):PE X (.Call (.Name x p) (e :: es) [] pos) (RE X.K (fB f h)):=
 AL (SR hc hg hm hv ha hn hdb he hpl) λ_ _ _ q=>RE.callB s q
theorem bp {h:List D->M D}{f:M (List D)}(hc:Ch X (.type id) R)(s:EX X.K R h)(hg:Gl X x)(hm:X.mg x=none)(hv:bootBuiltins x=some (.type id))(ha:PA X (e :: es) (RA X.K f))(hn:x≠"__name__":=by decide)(hdb:(x == ("__debug__" : Str))=false:=by decide)
 (he:starEach (e :: es) X.env=(false,eval e X.env) :: starEach es X.env:=by rfl) (hpl:(backTo pos (starEach es X.env)).any (·.1)=false:=by rfl):PE X (.Call (.Name x p) (e :: es) [] pos) (RE X.K (fB f h)):=
 AL (HB hc hg hm hv ha hn hdb he hpl) λ_ _ _ q=>RE.callB s q
theorem bq {h:List D->M (List D)}{f:M (List D)}(hc:Ch X (.type id) R)(s:LH X.K R h)(hg:Gl X x)(hm:X.mg x=none)(hv:bootBuiltins x=some (.type id))(ha:PA X (e :: es) (RA X.K f))(hn:x≠"__name__":=by decide)(hdb:(x == ("__debug__" : Str))=false:=by decide)
 (he:starEach (e :: es) X.env=(false,eval e X.env) :: starEach es X.env:=by rfl) (hpl:(backTo pos (starEach es X.env)).any (·.1)=false:=by rfl):PE X (.Call (.Name x p) (e :: es) [] pos) (RF X.K (fBF f h)):=
 AL (HB hc hg hm hv ha hn hdb he hpl) λ_ _ _ q=>RF.callB s q
theorem ZA {op:Operator}{R:R2}{g:M D}{h:D->D->M (List D)}(ho:OpR X (binaryOp op) R)(s:Om X.K R h)(ha:PE X a (RE X.K f))(hb:PE X b (RE X.K g)):PE X (.BinOp a op b pos) (RF X.K (bnd f λx=>bnd g λy=>h x y)):=
 AL (OU ho ha hb) λ_ _ _ q=>RF.two s q
end
section
variable {K:PySem.W.Frag}
theorem DT {xs:List V}{d:D}(r:Reps K c H xs [d]):∃v,xs=[v]/\Rep K c H v d:=by
 cases r with
 | cons r rs=>cases rs;exact ⟨_,rfl,r⟩
theorem Ue {xs:List V}{d e:D}(r:Reps K c H xs [d,e]):∃v u,xs=[v,u]/\Rep K c H v d/\Rep K c H u e:=by
 cases r with
 | cons r rs=>
   obtain ⟨u,rfl,q⟩:=DT rs;exact ⟨_,u,rfl,r,q⟩
def AM:List D->M D
 | [.lst ds]=>ret (.int ds.length)
 | [.tup ds]=>ret (.int ds.length)
 | [.scr ns]=>ret (.int ns.length)
 | [.str x]=>lim x.length (.int x.length)
 | [.obj k]=>λt=>match t.S[k]? with
   | some (.lst ds)=>some (.int ds.length,t)
   | _=>none
 | _=>fail
theorem Wc:EX K (λxs H Q=>∃x n,xs=[x]/\WS K x H n/\Q (.int n) H) AM:=λ{Oo c t Z H xs ds r t' Q} f rx eq k=>by
 match ds,rx,eq with
 | [],_,eq=>cases eq
 | d0 :: _ :: _,_,eq=>cases d0 <;> cases eq
 | [d],rx,eq=>
   obtain ⟨v,rfl,rv⟩:=DT rx
   cases rv with
   | @lst a vs ds h1 h2 h3=>cases eq;exact ⟨_,ds.length,rfl,.inl ⟨vs,SqL.of h1,h3.length.symm⟩,k _ H c f .refl (.int _)⟩
   | @tup a vs ds h1 h2 h3=>cases eq;exact ⟨_,ds.length,rfl,.inr ⟨vs,SqT.of h1,h3.length.symm⟩,k _ H c f .refl (.int _)⟩
   | @scr a ns h1=>cases eq;exact ⟨_,ns.length,rfl,.inl ⟨_,h1.sq,by simp⟩,k _ H c f .refl (.int _)⟩
   | str x=>
     obtain ⟨hl,z⟩:=Ey eq
     cases z
     exact ⟨_,x.length,rfl,⟨un3 hl C4,rfl⟩,k _ H c f .refl (.int _)⟩
   | @obj a kk h1=>
     unfold AM at eq;dsimp only at eq
     cases es:t.S[kk]? with
     | none=>rw [es] at eq;cases eq
     | some o=>
       rw [es] at eq
       cases o with
       | dct _ | ins _ _=>cases eq
       | lst ds=>
         cases eq
         obtain ⟨vs,g1,g2⟩:=f.s.obs kk a _ h1 es;exact ⟨_,ds.length,rfl,.inl ⟨vs,SqL.of g1,g2.length.symm⟩,k _ H c f .refl (.int _)⟩
   | _=>cases eq
noncomputable def tyD:D->Option String
 | .non=>some "NoneType"
 | .bl _=>some "bool"
 | .int _=>some "int"
 | .str _=>some "str"
 | .lst _=>some "list"
 | .tup _=>some "tuple"
 | .dic=>some "dict"
 | _=>none
noncomputable def KO (n m:String):Option Bool:=match m with
 | "int"=>some (n == "int" || n == "bool")
 | "bool"=>some (n == "bool")
 | "str"=>some (n == "str")
 | "list"=>some (n == "list")
 | "tuple"=>some (n == "tuple")
 | "dict"=>some (n == "dict")
 | _=>none
def Dc:List D->M D
 | [d,.ty m]=>λt=>match tyD d with
   | some n=>(KO n m).map λb=>(.bl b,t)
   | none=>none
 | _=>fail
theorem Vd {d:D}{n m:String}{b:Bool}(h1:tyD d=some n)(h2:KO n m=some b):PySem.W.kitOne K (.type n) (.type m)=some b:=by
 have hm:m = "int"\/m = "bool"\/m = "str"\/m = "list"\/m = "tuple"\/m = "dict":=by
  unfold KO at h2
  split at h2 <;> simp_all
 have hn:n = "NoneType"\/n = "bool"\/n = "int"\/n = "str"\/n = "list"\/n = "tuple"\/n = "dict":=by
  cases d <;> simp [tyD] at h1 <;> simp [<-h1]
 rcases hm with rfl | rfl | rfl | rfl | rfl | rfl <;> rcases hn with rfl | rfl | rfl | rfl | rfl | rfl | rfl <;> (cases h2;rfl)
def YF (K:PySem.W.Frag):List V->Hp->VK->Prop:=λxs H Q=>∃x n t b,xs=[x,.ty n]/\TyOf K H x t/\PySem.W.kitOne K t (.type n)=some b/\Q (.bl b) H
theorem RJ:Ch X (.builtin "isinstance") (YF X.K):=by
 intro pins s Z H xs us Q I r h;obtain ⟨x,n,t,b,rfl,ty,e,q⟩:=h;obtain ⟨u,w',rfl,rx,rt⟩:=Uj r
 cases rt
 exact Qi I rx ty e λtk=>⟨.bl b,H,I.tok tk,rfl,q⟩
theorem Wb:EX K (YF K) Dc:=λ{Oo c t Z H xs ds r t' Q} f rx eq k=>by
 unfold Dc at eq
 split at eq
 ·next d m=>
  obtain ⟨v,u,rfl,rv,ru⟩:=Ue rx
  cases ru
  cases et:tyD d with
  | none=>rw [et] at eq;cases eq
  | some n=>
    rw [et] at eq;obtain ⟨b,e1,e2⟩:=uc6.mp eq
    cases e2
    refine ⟨v,m,.type n,b,rfl,?_,Vd et e1,k _ H c f .refl (.bl b)⟩
    cases rv <;> first | (cases et;first | exact .non | exact .bl _ | exact .int _ | exact .str _ | exact .lst ‹_› | exact .tup ‹_› | exact .dK ‹_›) | cases et
 ·cases eq
def Jv:List D->M D
 | [.lst ds]=>ret (.tup ds)
 | [.tup ds]=>ret (.tup ds)
 | [.obj k]=>λt=>match t.S[k]? with
   | some (.lst ds)=>some (.tup ds,t)
   | _=>none
 | _=>fail
theorem Wp:EX K (λxs H Q=>∃p ys,xs=[.ref p]/\((SqL K H p ys/\∀l,H l=none->Q (.ref l) (upd H l (.tup ys)))\/(SqT K H p ys/\Q (.ref p) H))) Jv:=λ{Oo c t Z H xs ds r t' Q} f rx eq k=>by
 match ds,rx,eq with
 | [],_,eq=>cases eq
 | d0 :: _ :: _,_,eq=>cases d0 <;> cases eq
 | [d],rx,eq=>
   obtain ⟨v,rfl,rv⟩:=DT rx
   cases rv with
   | @lst a vs ds h1 h2 h3=>cases eq;exact ⟨a,vs,rfl,.inl ⟨SqL.of h1,λq hq=>k _ _ c (f.laid hq) (f.stp_laid hq) (.tup Ak (f.s.free hq) (h3.mono (Ext.laid f.s hq)))⟩⟩
   | @tup a vs ds h1 h2 h3=>cases eq;exact ⟨a,vs,rfl,.inr ⟨SqT.of h1,k _ H c f .refl (.tup h1 h2 h3)⟩⟩
   | @obj a kk h1=>
     unfold Jv at eq;dsimp only at eq
     cases es:t.S[kk]? with
     | none=>rw [es] at eq;cases eq
     | some o=>
       rw [es] at eq
       cases o with
       | dct _ | ins _ _=>cases eq
       | lst ds=>
         cases eq
         obtain ⟨vs,g1,g2⟩:=f.s.obs kk a _ h1 es;exact ⟨a,vs,rfl,.inl ⟨SqL.of g1,λq hq=>k _ _ c (f.laid hq) (f.stp_laid hq) (.tup Ak (f.s.free hq) (g2.mono (Ext.laid f.s hq)))⟩⟩
   | _=>cases eq
def Jh:List D->M (List D)
 | [.lst ds]=>ret ds
 | [.tup ds]=>ret ds
 | [.scr ns]=>ret (ns.map .int)
 | [.obj k]=>λt=>match t.S[k]? with
   | some (.lst ds)=>some (ds,t)
   | _=>none
 | _=>fail
theorem Wd:LH K (λxs H Q=>∃p ys,xs=[.ref p]/\(SqL K H p ys\/SqT K H p ys)/\∀l,H l=none->Q (.ref l) (upd H l (.lst ys))) Jh:=λ{Oo c t Z H xs ds r t' Q} f rx eq k=>by
 match ds,rx,eq with
 | [],_,eq=>cases eq
 | d0 :: _ :: _,_,eq=>cases d0 <;> cases eq
 | [d],rx,eq=>
   obtain ⟨v,rfl,rv⟩:=DT rx
   cases rv with
   | @lst a vs ds h1 h2 h3=>cases eq;exact ⟨a,vs,rfl,.inl (SqL.of h1),λq hq=>k q vs H c f .refl h3 hq⟩
   | @tup a vs ds h1 h2 h3=>cases eq;exact ⟨a,vs,rfl,.inr (SqT.of h1),λq hq=>k q vs H c f .refl h3 hq⟩
   | @scr a ns h1=>cases eq;exact ⟨a,_,rfl,.inl h1.sq,λq hq=>k q _ H c f .refl (Reps.ints ns) hq⟩
   | @obj a kk h1=>
     unfold Jh at eq;dsimp only at eq
     cases es:t.S[kk]? with
     | none=>rw [es] at eq;cases eq
     | some o=>
       rw [es] at eq
       cases o with
       | dct _ | ins _ _=>cases eq
       | lst ds=>
         cases eq
         obtain ⟨vs,g1,g2⟩:=f.s.obs kk a _ h1 es;exact ⟨a,vs,rfl,.inl (SqL.of g1),λq hq=>k q vs H c f .refl g2 hq⟩
   | _=>cases eq
def GN:List D->M D
 | [.int i]=>ret (.int i)
 | [.bl b]=>ret (.int (if b then 1 else 0))
 | _=>fail
theorem Wa:EX K (λxs H Q=>(∃i,xs=[.int i]/\Q (.int i) H)\/∃k,xs=[.bl k]/\Q (.int (if k then 1 else 0)) H) GN:=λ{Oo c t Z H xs ds r t' Q} f rx eq k=>by
 match ds,rx,eq with
 | [],_,eq=>cases eq
 | d0 :: _ :: _,_,eq=>cases d0 <;> cases eq
 | [d],rx,eq=>
   obtain ⟨v,rfl,rv⟩:=DT rx
   cases rv with
   | int i=>cases eq;exact .inl ⟨i,rfl,k _ H c f .refl (.int _)⟩
   | bl b=>cases eq;exact .inr ⟨b,rfl,k _ H c f .refl (.int _)⟩
   | _=>cases eq
def aY:List D->M D
 | [.int i]=>ret (.int (if i < 0 then -i else i))
 | _=>fail
def GR:List D->M D
 | [.int i,.int j]=>ret (.int (if j < i then j else i))
 | _=>fail
def bz:List D->M D
 | [.int i,.int j]=>ret (.int (if j > i then j else i))
 | _=>fail
theorem We:EX K (λxs H Q=>∃i j,xs=[.int i,.int j]/\Q (.int (if j < i then j else i)) H) GR:=λ{Oo c t Z H xs ds r t' Q} f rx eq k=>by
 unfold GR at eq
 split at eq
 ·next i j=>
  obtain ⟨v,u,rfl,rv,ru⟩:=Ue rx
  cases rv;cases ru;cases eq
  exact ⟨i,j,rfl,k _ H c f .refl (.int _)⟩
 ·cases eq
def Jo:List D->M D
 | [.str x]=>λt=>if x.length=1 then some (.int (x.cps.getD 0 0:Nat),t) else none
 | _=>fail
theorem Wj:EX K (λxs H Q=>∃x,xs=[.str x]/\x.length=1/\Q (.int (x.cps.getD 0 0:Nat)) H) Jo:=λ{Oo c t Z H xs ds r t' Q} f rx eq k=>by
 match ds,rx,eq with
 | [],_,eq=>cases eq
 | d0 :: _ :: _,_,eq=>cases d0 <;> cases eq
 | [d],rx,eq=>
   obtain ⟨v,rfl,rv⟩:=DT rx
   cases rv with
   | str x=>
     unfold Jo at eq;dsimp only at eq
     split at eq
     ·next h=>cases eq;exact ⟨x,rfl,h,k _ H c f .refl (.int _)⟩
     ·cases eq
   | _=>cases eq
end
end F2
namespace L2
open PySem PySem.Spec PyProof.Rows
open AutoSeq1 (wpAny_loadPart')
end L2
namespace L2
open PySem PySem.Spec PyProof.Rows
open AutoSeq1 (wpAny_loadPart')
theorem MtM.or {X:Cx}{id:String}{r r':V->List V->Hp->VK->Prop}(h:MtM X id r)(h':MtM X id r'):MtM X id (λx xs H Q=>r x xs H Q\/r' x xs H Q):=by
 intro pins s Z H x xs v us Q I rx rv q;rcases q with q | q
 ·exact h pins s Z H x xs v us Q I rx rv q
 ·exact h' pins s Z H x xs v us Q I rx rv q
section
variable {X:Cx}{a b c d:Expr}{ta tb tc td:TE}{pos:Pos}
end
end L2
namespace F2
open PySem L2 PySem.Spec
section
variable {K:PySem.W.Frag}
def AO (x y:D):M D:=WY x y
def T8 (K:PySem.W.Frag):R2:=OZ K
theorem NX {X:Cx}:OpR X (binaryOp .Add) (T8 X.K):=Vu
theorem M3:A8 K (T8 K) AO:=V5
def KP:D->D->M D
 | .int i,.int j=>λt=>if Fj i j=true then some (.int (i * j),t) else none
 | .lst xs,.int k=>λt=>if small k=true/\xs.length * k.toNat<=LIM then some (.lst (List.replicate k.toNat xs).flatten,t) else none
 | _,_=>fail
def O1 (K:PySem.W.Frag):R2:=λx y H Q=>rI CMul (λi j=>.int (i * j)) x y H Q\/YJ x y H Q
theorem op_mul3 {X:Cx}:OpR X (binaryOp .Mult) (O1 X.K):=op_mul.or Ye
theorem Wh:A8 K (O1 K) KP:=λ{Oo c t Z H x y dx dy r t' Q} f rx ry eq k=>by
 cases ry with
 | int j=>
   cases rx with
   | int i=>
     unfold KP at eq;dsimp only at eq
     split at eq
     ·next h=>cases eq;exact .inl ⟨i,j,rfl,rfl,Qv h,k _ H c f .refl (.int _)⟩
     ·cases eq
   | @lst a vs ds h1 h2 h3=>
     unfold KP at eq;dsimp only at eq
     split at eq
     ·next h=>
      cases eq
      obtain ⟨g1,g2⟩:=EU h.1;refine .inr ⟨a,j,vs,rfl,rfl,h1,by lia,by lia,by rw [h3.length];exact un3 h.2 C4,λp hp=>?_⟩;exact k _ _ c (f.laid hp) (f.stp_laid hp) (.lst Ak (f.s.free hp) ((h3.rep j.toNat).mono (Ext.laid f.s hp)))
     ·cases eq
   | _=>cases eq
 | _=>cases rx <;> cases eq
end
variable {K:PySem.W.Frag}{μ:Cf->Hp->D->(V->Hp->Prop)->Prop}
section
variable {X:Cx}{e a b:Expr}{pos:Pos}
def Cn (xs:List D):List D->Option (List D)
 | [d]=>if xs.length < LIM then some (xs++[d]) else none
 | _=>none
def Ev (xs:List D):List D->Option (List D)
 | [.lst ys]=>if xs.length + ys.length<=LIM then some (xs++ys) else none
 | _=>none
def ownM (i:Nat)(h:List D->List D->Option (List D))(g:M (List D)):M Out:=λt=>match t.env[i]? with
 | some (some (.own _))=>bnd g (λds t1=>match t1.env[i]? with
   | some (some (.own xs))=>(h xs ds).map λys=>(.next,{ t1 with env:=t1.env.set i (some (.own ys)) })
   | _=>none) t
 | _=>none
def On (K:PySem.W.Frag)(R:V->List V->Hp->VK->Prop)(h:List D->List D->Option (List D)):Prop:=∀{c:Cf} {S:List Ob} {H:Hp} {a:Addr} {vs us:List V} {xs ds ys:List D} {Q:VK},SInv K c S H->H a=some (.lst vs)->Reps K c H vs xs->Reps K c H us ds->h xs ds=some ys->
 (∀ws,Reps K c H ws ys->Q .non (upd H a (.lst ws)))->R (.ref a) us H Q
theorem V6:On K N3 Cn:=λ{c S H a vs us xs ds ys Q} s h r rs e k=>by
 unfold Cn at e
 split at e
 ·next d=>
  split at e
  ·next hl=>
   cases e
   obtain ⟨v,rfl,rv⟩:=DT rs;exact ⟨a,vs,v,rfl,rfl,h,by rw [r.length];exact uf1 hl C4,k _ (r.append (.cons rv .nil))⟩
  ·cases e
 ·cases e
def T9 (K:PySem.W.Frag):V->List V->Hp->VK->Prop:=N4
theorem NT {X:Cx}:MtM X "list.extend" (T9 X.K):=Qu
theorem N8:On K (T9 K) Ev:=λ{c S H a vs us xs ds ys Q} s h r rs e k=>by
 unfold Ev at e
 split at e
 ·split at e
  ·next hl=>
   cases e
   obtain ⟨v,rfl,rv⟩:=DT rs
   cases rv with
   | lst h1 h2 h3=>exact ⟨a,_,vs,_,rfl,rfl,h,h1,by rw [r.length,h3.length];exact un3 hl C4,k _ (r.append h3)⟩
  ·cases e
 ·cases e
theorem RS.ownM {μ:Cf->Hp->D->(V->Hp->Prop)->Prop}{K:PySem.W.Frag}{i:Nat}{h:List D->List D->Option (List D)}{g:M (List D)}{R:V->List V->Hp->VK->Prop}(s:On K R h){E:Ends}{Z:L2.St}{H:Hp}(q:RSg K μ (F2.ownM i h g) E Z H):Uh (tBM K "list" R (Y2 i) (RA K g)) E Z H:=by
 obtain ⟨Oo,c,t,fi,o,t',eq,k⟩:=q;unfold F2.ownM at eq
 split at eq
 ·next xs0 e0=>
  obtain ⟨ds,t1,e1,eq⟩:=Af eq;obtain ⟨a,vs0,h1,h2,h3,h4,h5⟩:=fi.own i xs0 e0;refine ⟨.ref a,h1,.inl ⟨rfl,vs0,SqL.of h4⟩,Oo,c,t,fi,ds,t1,e1,λus H1 c1 f1 s1 rus=>?_⟩
  split at eq
  ·next xs ex=>
   obtain ⟨ys,ey,ez⟩:=uc6.mp eq
   cases ez
   obtain ⟨a',vs,g1,g2,g3,g4,g5⟩:=f1.own i xs ex;rw [h1] at g1;injection g1 with g1;injection g1 with g1;injection g1 with g1;subst g1
   refine s f1.s g4 g5 rus ey λws rws=>?_;obtain ⟨f2,s2⟩:=f1.wrOwn ex h1 rws;exact k Z _ c1 f2 (s1.trans s2)
  ·cases eq
 ·cases eq
theorem PV (i:Nat){x:Str}{es:List Expr}{g:M (List D)}{px apos cpos:Pos}(ha:PA X (e :: es) (RA X.K g))(hN:X.N[i]?=some x:=by rfl)(hv:Vis X.env.scope x:=by walk_at "h")(hd:(x == ("__debug__" : Str))=false:=by decide)
 (hcd:(x == ("__classdict__" : Str))=false:=by decide)
 (hbase:attributeBase (.Name x px) "append" X.env (eval (.Name x px) X.env)=eval (.Name x px) X.env:=by rfl)
 (hfew:((backTo cpos (starEach (e :: es) X.env)).all (λx=>!x.1) && (backToKw cpos (keywordEach [] X.env)).all (λx=>x.1.isSome) && decide ((e :: es).length + ([]:List Keyword).length + (if ([]:List Keyword).isEmpty then 0 else 1) < 30))=true:=by rfl)
 (hline:(apos.endLine == cpos.line)=true:=by rfl) (hs:starEach (e :: es) X.env=(false,eval e X.env) :: starEach es X.env:=by rfl) (hplain:(backTo cpos (starEach es X.env)).any (·.1)=false:=by rfl) :
 PS X (.Expr (.Call (.Attribute (.Name x px) "append" apos) (e :: es) [] cpos) pos) (RSg X.K μ (ownM i Cn g)):=
 A9 (KS (Kb ub9 PySem.F.slot_list_append PySem.F.type_list_append Qt (Cl hN hv hd hcd) ha hbase hfew hline hs hplain)) λ_ _ _ q=>RS.ownM V6 q
theorem PX (i:Nat){x:Str}{es:List Expr}{g:M (List D)}{px apos cpos:Pos}(ha:PA X (e :: es) (RA X.K g))(hN:X.N[i]?=some x:=by rfl)(hv:Vis X.env.scope x:=by walk_at "h")(hd:(x == ("__debug__" : Str))=false:=by decide)
 (hcd:(x == ("__classdict__" : Str))=false:=by decide)
 (hbase:attributeBase (.Name x px) "extend" X.env (eval (.Name x px) X.env)=eval (.Name x px) X.env:=by rfl)
 (hfew:((backTo cpos (starEach (e :: es) X.env)).all (λx=>!x.1) && (backToKw cpos (keywordEach [] X.env)).all (λx=>x.1.isSome) && decide ((e :: es).length + ([]:List Keyword).length + (if ([]:List Keyword).isEmpty then 0 else 1) < 30))=true:=by rfl)
 (hline:(apos.endLine == cpos.line)=true:=by rfl) (hs:starEach (e :: es) X.env=(false,eval e X.env) :: starEach es X.env:=by rfl) (hplain:(backTo cpos (starEach es X.env)).any (·.1)=false:=by rfl) :
 PS X (.Expr (.Call (.Attribute (.Name x px) "extend" apos) (e :: es) [] cpos) pos) (RSg X.K μ (ownM i Ev g)):=
 A9 (KS (Kb ub9 PySem.F.slot_list_extend PySem.F.type_list_extend NT (Cl hN hv hd hcd) ha hbase hfew hline hs hplain)) λ_ _ _ q=>RS.ownM N8 q
def objM (h:List D->List D->Option (List D))(f:M D)(g:M (List D)):M D:=bnd f λo=>match o with
 | .obj k=>λt=>match t.S[k]? with
   | some (.lst _)=>bnd g (λds t1=>match t1.S[k]? with
     | some (.lst xs)=>(h xs ds).map λys=>(.non,{ t1 with S:=t1.S.set k (.lst ys) })
     | _=>none) t
   | _=>none
 | _=>fail
theorem RE.objM {K:PySem.W.Frag}{h:List D->List D->Option (List D)}{f:M D}{g:M (List D)}{R:V->List V->Hp->VK->Prop}(s:On K R h){Z:L2.St}{H:Hp}{Q:VK}(q:RE K (F2.objM h f g) Z H Q):tBM K "list" R (RE K f) (RA K g) Z H Q:=by
 obtain ⟨Oo,c,t,fi,r,t',eq,k⟩:=q;obtain ⟨o,t0,e0,eq⟩:=Af eq;refine ⟨Oo,c,t,fi,o,t0,e0,λx H0 c0 f0 s0 rx=>?_⟩
 cases rx with
 | @obj a kk hk=>
   dsimp only at eq
   split at eq
   ·next xs0 ex0=>
    obtain ⟨ds,t1,e1,eq⟩:=Af eq;obtain ⟨vs0,g0,g0'⟩:=f0.s.obs kk a _ hk ex0;refine ⟨.inl ⟨rfl,vs0,SqL.of g0⟩,Oo,c0,t0,f0,ds,t1,e1,λus H1 c1 f1 s1 rus=>?_⟩
    split at eq
    ·next xs ex=>
     obtain ⟨ys,ey,ez⟩:=uc6.mp eq
     cases ez
     have hk1:=s1.ext.io _ _ hk;obtain ⟨vs,g1,g2⟩:=f1.s.obs kk a _ hk1 ex;refine s f1.s g1 g2 rus ey λws rws=>?_;obtain ⟨f2,s2⟩:=f1.wrObj (o:=.lst ys) (u:=.lst ws) hk1 λc' H' ext hu=>⟨ws,hu,rws.mono ext⟩;exact k _ _ c1 f2 ((s0.trans s1).trans s2) .non
    ·cases eq
   ·cases eq
 | _=>cases eq
def YT (o i d:D):M Unit:=match o,i with
 | .obj k,.int j=>λt=>match t.S[k]? with
   | some (.lst xs)=>(ixN xs.length j).map λn=>((),{ t with S:=t.S.set k (.lst (xs.set n d)) })
   | _=>none
 | _,_=>fail
def stD (f g:M D)(d:D):M Unit:=bnd f λo=>bnd g λi=>YT o i d
end
variable {H:Hp}
section
variable {X:Cx}{e a b tg iter elt:Expr}{ifs:List Expr}{pos:Pos}{scope:Scope}{N':List Str}{n:Nat}{fr:List Nat}{f:M (List D)}{st:D->M Unit}{tst:M Bool}{el:M D}
def DL:M Bool:=ret true
theorem UR:PIf X [] (RT X.K DL):=λpins s Z H Q I z9=>by
 obtain ⟨Oo,c,t,fi,r,t',eq,k⟩:=z9;exact VN pins s Z H Q I (by cases eq;exact k H c fi .refl)
theorem DA (O:CmpOk X scope N' (GF n fr))(hc:X.calm=true)(hi:PI X tg iter (RI X.K f))
 (hg:∀cl C s2 H2 fp,PG (Cc X N' scope cl C s2 H2 fp) tg (RG X.K st)) (ht:∀cl C s2 H2 fp,PIf (Cc X N' scope cl C s2 H2 fp) ifs (RT X.K tst)) (he:∀cl C s2 H2 fp,PE (Cc X N' scope cl C s2 H2 fp) elt (RE X.K el))
 (hs:∀x,foldedSetIterable iter X.env x=pure x:=by intro _;rfl):PE X (.ListComp elt [⟨tg,iter,ifs,0⟩] scope pos) (RF X.K (Bl n fr f st tst el)):=
 AL (VF O hc hi hg ht he hs) λ_ _ _ q=>RF.comp q
theorem RF.ofPure {f:M (List D)}{Z:L2.St}{Q:VK}(q:RE K (Aw f) Z H Q):RF K f Z H Q:=by
 obtain ⟨Oo,c,t,fi,r,t',eq,k⟩:=q;obtain ⟨ds,t1,e1,eq⟩:=Af eq
 cases eq
 exact ⟨Oo,c,t,fi,ds,_,e1,λp xs H1 c1 f1 s1 rxs hp=>k _ _ c1 (f1.laid hp) (s1.trans (f1.stp_laid hp)) (.lst Ak (f1.s.free hp) (rxs.mono (Ext.laid f1.s hp)))⟩
theorem U0 {i:Nat}{y:Str}{py spos:Pos}(O:CmpOk X scope N' (GF n fr))(hc:X.calm=true)(hN:X.N.Nodup)(hiN:X.N[i]?=some y)(hx:X.env.scope.names.lookup y=some .local)(hi:PI X tg iter (RI X.K f))
 (hg:∀cl C s2 H2 fp,PG (Cc X N' scope cl C s2 H2 fp) tg (RG X.K st)) (ht:∀cl C s2 H2 fp,PIf (Cc X N' scope cl C s2 H2 fp) ifs (RT X.K tst)) (he:∀cl C s2 H2 fp,PE (Cc X N' scope cl C s2 H2 fp) elt (RE X.K el))
 (hsw:swapsWith (.ListComp elt [⟨tg,iter,ifs,0⟩] scope pos) (some (.Name y py)) spos.line X.env=pure true:=by rfl)
 (hs:∀x,foldedSetIterable iter X.env x=pure x:=by intro _;rfl):PS X (.Assign [.Name y py] (.ListComp elt [⟨tg,iter,ifs,0⟩] scope pos) spos) (RSg X.K μ (Ar i (Aw (Bl n fr f st tst el)))):=
 A9 (VT O hc hN hiN hx hi hg ht he hsw hs) λE Z H q=>RF.comp (RF.ofPure (RS.set q))
theorem DN (tgs:List Str)(frn:List (Nat×Str))(hk:scope.kind = .function)(hcell:(scope.names.all λy=>y.2 != .cell)=true)(hloc:(scope.names.all λy=>y.2 != .local || scope.names.lookup y.1 == some .local)=true)
 (hfree:(scope.names.all λy=>y.2 != .free || X.env.kindOf y.1 == some .cell || X.env.kindOf y.1 == some .free)=true)
 (hf:(frn.all λp=>X.N[p.1]? == some p.2 && scope.names.lookup p.2 == some .free)=true):CmpOk X scope (tgs++frn.map (·.2)) (GF tgs.length (frn.map (·.1))):=by
 rw [ui2] at hcell hloc hfree hf;refine ⟨hk,λy hy=>by simpa using hcell y hy,λy hy hl=>?_,λy hy hl=>?_,λZ _=>by simp [GF],λZ j x v h1 h2=>?_⟩
 ·have:=hloc y hy;simpa [hl] using this
 ·have:=hfree y hy;simpa [hl] using this
 ·unfold GF at h2
  by_cases hj:j < tgs.length
  ·rw [ub2 (by simpa using hj),ub8] at h2
   split at h2 <;> simp at h2
  ·rw [ua6 (by simpa using hj),ud3,ug3,ug3] at h2;rw [ua6 (by simpa using hj),ug3] at h1
   cases e:frn[j - tgs.length]? with
   | none=>rw [e] at h1;cases h1
   | some p=>
     rw [e] at h1 h2;simp only [uk2,uh0] at h1 h2;have hp:=hf p (ue1 e);rw [uh9] at hp;refine ⟨p.1,by rw [<-h1];simpa using hp.1,?_,by rw [<-h1];simpa using hp.2⟩
     cases e2:Z[p.1]? with
     | none=>rw [e2] at h2;cases h2
     | some o=>rw [e2] at h2;simpa using h2
end
mutual
noncomputable def BN:D->Bool
 | .tup xs=>FN xs
 | .lst xs=>FN xs
 | .obj _=>false
 | .scr _=>false
 | .exc _ _=>false
 | _=>true
noncomputable def FN:List D->Bool
 | []=>true
 | d :: r=>BN d && FN r
end
def c0:Cf:=⟨[],λ_=>False⟩
theorem KA (a:Addr):¬c0.A a:=λh=>h.elim (λz=>nomatch z) λz=>z
mutual
theorem Gq {K:PySem.W.Frag}{c:Cf}{H:Hp}{v:V}{d:D}(r:Rep K c H v d)(p:BN d=true):Rep K c0 H v d:=by
 cases r with
 | non=>exact .non
 | bl b=>exact .bl b
 | int i=>exact .int i
 | str x=>exact .str x
 | ty n=>exact .ty n
 | tup h n r=>exact .tup h (KA _) (Iz r (by simpa [BN] using p))
 | lst h n r=>exact .lst h (KA _) (Iz r (by simpa [BN] using p))
 | scr h=>simp [BN] at p
 | dic h n=>exact .dic h (KA _)
 | obj h=>simp [BN] at p
 | exc _ _ _ _ _=>simp [BN] at p
theorem Iz {K:PySem.W.Frag}{c:Cf}{H:Hp}{vs:List V}{ds:List D}(r:Reps K c H vs ds)(p:FN ds=true):Reps K c0 H vs ds:=by
 cases r with
 | nil=>exact .nil
 | cons h t=>
   simp only [FN,uh9] at p;exact .cons (Gq h p.1) (Iz t p.2)
end
noncomputable def Dg (S:List Ob):D->D
 | .obj k=>match S[k]? with
   | some (.lst ds)=>.lst ds
   | _=>.obj k
 | d=>d
noncomputable def Sv:D->Bool
 | .obj _=>true
 | _=>false
def eqS (g:Bool->Bool)(x y:D):M D:=λt=>
 if (Sv x || Sv y)=true then (if (BN (Dg t.S x) && BN (Dg t.S y))=true then (eqN EQD (Dg t.S x) (Dg t.S y)).map λb=>(.bl (g b),t) else none)
 else (eqN EQD x y).map λb=>(.bl (g b),t)
theorem BI {c:Cf}{S:List Ob}{v:V}{d:D}(s:SInv K c S H)(r:Rep K c H v d)(p:BN (Dg S d)=true):Rep K c0 H v (Dg S d):=by
 cases r with
 | @obj a k hk=>
   unfold Dg at p ⊢;dsimp only at p ⊢
   split
   ·next ds e=>
    rw [e] at p;obtain ⟨vs,h1,h2⟩:=s.obs k a _ hk e;exact .lst h1 (KA _) (Iz h2 (by simpa [BN] using p))
   ·next h=>
    split at p
    ·next ds e=>exact absurd e (h ds)
    ·simp [BN] at p
 | non=>exact .non
 | bl b=>exact .bl b
 | int b=>exact .int b
 | str b=>exact .str b
 | ty b=>exact .ty b
 | tup h n q=>exact Gq (.tup h n q) p
 | lst h n q=>exact Gq (.lst h n q) p
 | scr h=>exact Gq (c:=c) (.scr h) p
 | dic h n=>exact Gq (.dic h n) p
 | exc a b n f q=>exact Gq (.exc a b n f q) p
theorem IC {g:Bool->Bool}:A8 K (O0 K g) (eqS g):=λ{Oo c t Z H x y dx dy r t' Q} f rx ry eq k=>by
 unfold eqS at eq
 split at eq
 ·split at eq
  ·next hp=>
   rw [uh9] at hp;obtain ⟨b,e1,e2⟩:=uc6.mp eq
   cases e2
   exact ⟨c0,_,_,b,BI f.s rx hp.1,BI f.s ry hp.2,e1,k _ H c f .refl (.bl (g b))⟩
  ·cases eq
 ·obtain ⟨b,e1,e2⟩:=uc6.mp eq
  cases e2
  exact ⟨c,dx,dy,b,rx,ry,e1,k _ H c f .refl (.bl (g b))⟩
theorem Qm {a:Addr}{ns:List Int}{f:Fn}{S':List Ob}(hO:Oj H)(hS:SqL K H a (ns.map V.int))(e:f [.scr ns] []=some (.bl true,S')):spF K f [.ref a] H (λv _=>v = .bl true) λ_ _ _=>False:=by
 refine ⟨c0,[.scr ns],[],⟨rfl,List.Pairwise.nil,λk a o h=>by simp [c0] at h,λb z=>z.elim,λb z=>z.elim⟩,.cons (.scr ?_) .nil,.bl true,S',e,λv H' c' _ _ _ rv=>by cases rv;rfl⟩;rcases hS with (h | h) | h
 ·rcases hO a with z | ⟨o,xs,z⟩
  ·rw [z] at h;cases h
  ·rw [z] at h;cases h
 ·exact .inl ⟨h,KA _⟩
 ·exact .inr h
end F2
namespace L2
open PySem PySem.Spec PyProof.Rows
section
variable {prog:Program}{w:World}{A:Around}{E:Value->Shared->Prop}{s:Shared}
theorem JM {it l:Addr}{items:Array Value}(hne:l≠it):∀(n i:Nat) (s:Shared) (Q:List Value->Shared->Prop),s.heap.IsListIter it l i->s.heap.IsList l items->i + n<=items.size->
 (∀h',h'.IsListIter it l (i + n)->Heap.SameBut it s.heap h'->Q ((items.toList.drop i).take n) { s with heap:=h' })->wpAny (model prog w) A (draw (.ref it) n) Q E s
 | 0,i,s,Q,hit,_,_,hQ=>up2 (by simpa using hQ s.heap hit (Heap.SameBut.refl ..))
 | n + 1,i,s,Q,hit,ht,hle,hQ=>by
   have hlt:i < items.size:=by lia
   refine up1 (wpAny_pyNext_list_item hit ht (x:=items[i]) (by simp [hlt]) λh1 hit1 hs1=>?_);refine up1 (un0 (JM hne n (i + 1) _ _ hit1 (ht.extBut hs1.extBut hne) (by lia) λh2 hit2 hs2=>up2 ?_));have hd:items.toList.drop i=items[i] :: items.toList.drop (i + 1):=by simp [ub3,hlt]
   have:=hQ h2 (by rw [show i + (n + 1)=i + 1 + n by lia];exact hit2) (hs1.trans hs2);rw [hd,ue8] at this;exact this
theorem Ng {l:Addr}{items:Array Value}{targets:List (Bool×(Value->Sem Unit))}{Q:Unit->Shared->Prop}(hh:A.handled=none)(ht:s.heap.IsList l items)(hn:targets.length=items.size)(hstar:targets.findIdx? (·.1)=none)
 (h:∀h',Heap.ExtBut s.heap.objs.size s.heap h'->wpAny (model prog w) A (assignInOrder (targets.map (·.2)) items.toList) Q E { s with heap:=h' }):wpAny (model prog w) A (unpack (.ref l) targets) Q E s:=by
 have hlt:l≠s.heap.objs.size:=by obtain ⟨o,ho,_⟩:=ht;exact un2 (un1 ho)
 unfold unpack;rw [hn,hstar];refine up1 (un0 ?_);unfold unpackItems;refine up1 ?_;unfold notIterableAtAll;refine up1 (wpAny_specialOf ht.typeIs PySem.F.slot_list_iter.lookup ?_);refine up2 ?_;simp only [uf7,if_false];refine up1 (un0 (wpAny_pyIter_list ht ?_));have hp:Heap.IsList (s.heap.push { cls:=.type "list_iterator",data:=.fields #[.ref l,.int 0 0] }) l items:=by
  obtain ⟨o,ho,r⟩:=ht;exact ⟨o,uc3 _ ho,r⟩
 refine up1 (un0 (JM hlt items.size 0 _ _ ⟨_,ue4 _ rfl,rfl,rfl⟩ hp (by lia) λh1 hit1 hs1=>?_));have hall:List.take items.size (List.drop 0 items.toList)=items.toList:=by
  rw [ul5];exact uc7 (by simp)
 rw [hall];rw [if_neg (by simp)];have ht1:Heap.IsList h1 l items:=hp.extBut hs1.extBut hlt;refine up1 (un0 (wpAny_pyNext_list_end hh hit1 ht1 (by simp) λh2 he2=>?_));simp only [Option.isSome_none,uf7,if_false];exact up2 (h h2 λb o hb e=>he2 b o hb (hs1.extBut b o hb (uc3 _ e)))
end
section
variable {X:Cx}{pos:Pos}
def gUn (K:PySem.W.Frag)(n:Nat)(t:TGs):TG:=λv Z H Q=>∃a xs,v = .ref a/\(SqT K H a xs\/SqL K H a xs)/\xs.length=n/\t xs Z H Q
theorem ZV {es:List Expr}{k:Nat}{t:TGs}{n:Nat}(hc:X.calm=true)(h:PGs X es t)
 (hn:(assignEach es X.env).length=n:=by rfl) (hst:(assignEach es X.env).findIdx? (·.1)=none:=by rfl):PG X (.Tuple es k pos) (gUn X.K n t):=by
 intro pins s Z H v u Q I r hw;obtain ⟨a,xs,e1,hq | hq,hl,hw⟩:=hw
 ·exact Yr hc h hn hst pins s Z H v u Q I r ⟨a,xs,e1,hq,hl,hw⟩
 ·subst e1
  cases r
  obtain ⟨its,rv,ht,hz⟩:=I.list hq;rw [assign_Tuple];refine up1 (wpAny_standAt (Ng (I.ok.hd hc) ht.isList (by simp [hn,<-hl,rv.length]) hst λh' hx=>?_));have I1:Inv X pins Z H { s with heap:=h' }:=I.kept (t':=s.toks) λb o e=>hx b o (un2 (un1 e)) e;exact h pins _ Z H xs _ Q I1 (by simpa using rv) hw
end
section
open HT
variable {prog:Program}{w:World}{A:Around}{E:Value->Shared->Prop}{s:Shared}
end
section
variable {X:Cx}
end
noncomputable def Its (z:Str):It:=⟨λi _=>i < z.cps.size,λi H x H'=>H'=H/\∃c,z.cps[i]?=some c/\x = .str ⟨#[c]⟩,λi _=>i=z.cps.size⟩
theorem Nf {P:Program}{w:World}{K:PySem.W.Frag}{tg:Expr}{T:String}{x:Str}{t:Tok}(it:Addr)(hT:["enumerate", "zip", "dict_itemiterator", "dict_reverseitemiterator", "odict_iterator", "itertools.zip_longest", "itertools.pairwise"].contains T=false)
 (W:∀A:Around,A.handled=none->Walks P w A it [it] [it] x.cps.size (SignAt x) (λi h=>h.IsStrIter it T x t i))
 (self:∀(A:Around) (i:Nat) (s:Shared) (Q:Value->Shared->Prop) (E:Value->Shared->Prop),s.heap.IsStrIter it T x t i->Q (.ref it) s->wpAny (model P w) A (pyIter (.ref it)) Q E s) :
 Turn P w K tg (Its x) [it] it (λi h=>h.IsStrIter it T x t i) where
 mem:=by simp
 obj:=λi h st b hb=>by
  have e:b=it:=by simpa using hb
  subst e;obtain ⟨o,e,c,d⟩:=st;exact ⟨o,e,λv z=>by rw [d] at z;cases z⟩
 keep:=λi h h' st k=>by
  obtain ⟨o,e,r⟩:=st;exact ⟨o,k it (by simp) o e,r⟩
 item:=by
  intro X hP hw hK hc i pins s Z H E I hf st hg;subst hP hw hK;obtain ⟨f0,f1,f2,f3,f4,f5⟩:=hf it (by simp);refine (W X.A (I.ok.hd hc)).item i s _ _ hg st λv h' tk hv st' kk=>?_;obtain ⟨c,u,hcc,rfl⟩:=hv;have I1:Inv X pins Z H { s with heap:=h',toks:=tk }:=I.turned (λb o hb e=>kk b o (by simpa using hb) e) f0 f1 f3 f4 f5;obtain ⟨o,e,ec,ed⟩:=id st';exact ⟨_,rfl,JT (s:={ s with heap:=h',toks:=tk }) e ec ed hT ⟨.str ⟨#[c]⟩,H,I1,⟨u,rfl⟩,⟨rfl,c,hcc,rfl⟩,st',λb hb=>(hf b hb).1⟩⟩
 done:=by
  intro X hP hw hK hc i pins s Z H E I hf st hg;subst hP hw hK;obtain ⟨f0,f1,f2,f3,f4,f5⟩:=hf it (by simp);have hg':i=x.cps.size:=hg;subst hg';exact (W X.A (I.ok.hd hc)).done s _ _ st λh' tk kk=>⟨rfl,I.turned (λb o hb e=>kk b o (by simpa using hb) e) f0 f1 f3 f4 f5⟩
 self:=λA i s Q E st h=>self A i s Q E st h
section
variable {X:Cx}{tg:Expr}{pos:Pos}
def bv (K:PySem.W.Frag)(tl:TE):TI:=λZ H R=>tl Z H λx H1=>(∃a,x = .ref a/\(∃xs,SqL K H1 a xs)/\R (Itl K a) H1)\/(∃a,x = .ref a/\(∃xs,SqT K H1 a xs)/\R (Itt K a) H1)\/∃z,x = .str z/\R (Its z) H1
theorem Ys {l:Expr}{tl:TE}(hl:PE X l tl):PI X tg l (bv X.K tl):=by
 intro pins s Z H R I h;refine thn (hl pins s Z H _ I h) λv s1 z9=>?_;obtain ⟨x,H1,I1,r1,q1⟩:=z9;have fp:∀b∈[s1.heap.objs.size],FpOk X pins H1 b:=λb hb=>by
  have e:b=s1.heap.objs.size:=by simpa using hb
  subst e;exact I1.fpOk (uo7 _) (I1.hok.fresh (uo7 _))
 rcases q1 with ⟨a,rfl,⟨xs,hq⟩,q⟩ | ⟨a,rfl,⟨xs,hq⟩,q⟩ | ⟨z,rfl,q⟩
 ·cases r1
  obtain ⟨its,rv,p,hz⟩:=I1.list hq;refine wpAny_pyIter_list p.isList ?_;exact ⟨s1.heap.objs.size,[s1.heap.objs.size],_,_,H1,rfl,I1.kept (t':=s1.toks) λb o e=>uc3 _ e,Rg a _,⟨_,ue4 _ rfl,rfl,rfl⟩,fp,q⟩
 ·cases r1
  obtain ⟨its,rv,p,hz⟩:=I1.tuple hq;refine wpAny_pyIter_tuple (show s1.heap.IsTuple a its.toArray from p) ?_;exact ⟨s1.heap.objs.size,[s1.heap.objs.size],_,_,H1,rfl,I1.kept (t':=s1.toks) λb o e=>uc3 _ e,Pa a _,⟨_,ue4 _ rfl,rfl,rfl⟩,fp,q⟩
 ·obtain ⟨t,rfl⟩:=r1
  cases ha:z.cps.all (· < 128)
  ·refine wpAny_pyIter_wide ha ?_;exact ⟨s1.heap.objs.size,[s1.heap.objs.size],_,_,H1,rfl,I1.kept (t':=s1.toks) λb o e=>uc3 _ e,Nf (T:="str_iterator") (x:=z) (t:=t) _ (by decide) (λA hA=>Walks.strWide hA _ z t) (λ_ _ _ _ _ st h=>wpAny_pyIter_striter_wide st h),⟨_,ue4 _ rfl,rfl,rfl⟩,fp,q⟩
  ·refine wpAny_pyIter_ascii ha ?_;exact ⟨s1.heap.objs.size,[s1.heap.objs.size],_,_,H1,rfl,I1.kept (t':=s1.toks) λb o e=>uc3 _ e,Nf (T:="str_ascii_iterator") (x:=z) (t:=t) _ (by decide) (λA hA=>Walks.strAscii hA _ z t) (λ_ _ _ _ _ st h=>wpAny_pyIter_striter_ascii st h),⟨_,ue4 _ rfl,rfl,rfl⟩,fp,q⟩
def Uc:R2:=λx y H Q=>∃z k,x = .str z/\y = .int k/\MulOk z k/\Q (.str (Txt.mul z k)) H
theorem Vx:OpR X (binaryOp .Mult) Uc:=by
 intro pins s Z H x y v u Q I rx ry h;obtain ⟨z,k,rfl,rfl,hk,q⟩:=h;obtain ⟨t,rfl⟩:=rx;obtain ⟨t',rfl⟩:=ry;exact SB.mul hk λt2 tk=>⟨.str _,H,I.tok tk,⟨t2,rfl⟩,q⟩
def GX (g:Int->Int->Bool)(h:List Nat->List Nat->Bool):R2:=λx y H Q=>(∃i j,x = .int i/\y = .int j/\Q (.bl (g i j)) H)\/∃i j,x = .str i/\y = .str j/\Q (.bl (h i.cps.toList j.cps.toList)) H
theorem QG:OpR X (compareOp .Lt) (GX (λi j=>decide (i < j)) λi j=>decide (i < j)):=op_lt.or λpins s Z H x y v u Q I rx ry h=>by
 obtain ⟨i,j,rfl,rfl,q⟩:=h;obtain ⟨t,rfl⟩:=rx;obtain ⟨t',rfl⟩:=ry;exact P.lt_str ⟨.bl _,H,I,rfl,q⟩
theorem QF:OpR X (compareOp .LtE) (GX (λi j=>decide (i<=j)) λi j=>!(decide (j < i))):=op_le.or λpins s Z H x y v u Q I rx ry h=>by
 obtain ⟨i,j,rfl,rfl,q⟩:=h;obtain ⟨t,rfl⟩:=rx;obtain ⟨t',rfl⟩:=ry;exact P.le_str ⟨.bl _,H,I,rfl,q⟩
theorem QD:OpR X (compareOp .Gt) (GX (λi j=>decide (j < i)) λi j=>decide (j < i)):=op_gt.or λpins s Z H x y v u Q I rx ry h=>by
 obtain ⟨i,j,rfl,rfl,q⟩:=h;obtain ⟨t,rfl⟩:=rx;obtain ⟨t',rfl⟩:=ry;exact P.gt_str ⟨.bl _,H,I,rfl,q⟩
theorem Ya:OpR X (compareOp .GtE) (GX (λi j=>decide (j<=i)) λi j=>!(decide (i < j))):=op_ge.or λpins s Z H x y v u Q I rx ry h=>by
 obtain ⟨i,j,rfl,rfl,q⟩:=h;obtain ⟨t,rfl⟩:=rx;obtain ⟨t',rfl⟩:=ry;exact P.ge_str ⟨.bl _,H,I,rfl,q⟩
end
end L2
namespace F2
open PySem L2 PySem.Spec
def DP:D->M (List D)
 | .lst ds=>ret ds
 | .scr ns=>ret (ns.map .int)
 | .tup ds=>ret ds
 | .str x=>ret (x.cps.toList.map λc=>.str ⟨#[c]⟩)
 | _=>fail
def Eb (f:M D):M (List D):=bnd f DP
def B4:D->D->M D
 | .str x,.int k=>λt=>if small k=true/\x.length * k.toNat<=LIM/\k<=LIM/\x.length<=LIM then some (.str (Txt.mul x k),t) else none
 | x,y=>KP x y
def FQ:D->Option Int->Option Int->M D:=slD
def Mj (g:Int->Int->Bool)(h:List Nat->List Nat->Bool):D->D->M D
 | .int i,.int j=>ret (.bl (g i j))
 | .str x,.str y=>ret (.bl (h x.cps.toList y.cps.toList))
 | _,_=>fail
def ltA:=Mj (λi j=>decide (i < j)) (λi j=>decide (i < j))
def leA:=Mj (λi j=>decide (i<=j)) (λi j=>!(decide (j < i)))
def gtA:=Mj (λi j=>decide (j < i)) (λi j=>decide (j < i))
def geA:=Mj (λi j=>decide (j<=i)) (λi j=>!(decide (i < j)))
def unS (n:Nat)(g:List D->M Unit):D->M Unit
 | .tup ds=>if ds.length=n then g ds else fail
 | .lst ds=>if ds.length=n then g ds else fail
 | _=>fail
def bn:M D:=fC .dic
variable {tg:Expr}{K:PySem.W.Frag}{n:Nat}{g:List D->M Unit}{es:List Expr}
section
variable {X:Cx}{e a b:Expr}{pos:Pos}{st:Stmt}
theorem ItOk.str {K:PySem.W.Frag}{c:Cf}{H:Hp}{x:Str}:ItOk K (Its x) c H (x.cps.toList.map λc=>.str ⟨#[c]⟩):=by
 refine ⟨λc' H' i ex hi=>?_,λc' H' i y H'' d ex hd hy=>?_,λc' H' ex=>?_⟩
 ·show i < x.cps.size;simpa using hi
 ·obtain ⟨rfl,n,hn,rfl⟩:=hy;refine ⟨rfl,?_⟩;have:d = .str ⟨#[n]⟩:=by
   rw [ug3] at hd;have hn':x.cps.toList[i]?=some n:=by simpa using hn
   rw [hn'] at hd;simpa using hd.symm
  rw [this];exact .str _
 ·show _=x.cps.size;simp
theorem Xv {f:M D}(h:PE X e (RE X.K f)):PI X tg e (RI X.K (Eb f)):=
 JA (Ys h) λZ H R z9=>by
  obtain ⟨Oo,c,t,fi,ds,t',eq,k⟩:=z9;obtain ⟨d,t1,e1,eq⟩:=Af eq;refine ⟨Oo,c,t,fi,d,t1,e1,λv H1 c1 f1 s1 rv=>?_⟩
  cases rv with
  | @lst p vs ds' h1 h2 h3=>
    cases eq
    exact .inl ⟨p,rfl,⟨vs,SqL.of h1⟩,k _ H1 c1 f1 s1 (ItOk.lst λc' H' ex=>⟨vs,SqL.of (ex.keep _ _ h1 h2),h3.mono ex⟩)⟩
  | @scr p ns h1=>
    cases eq
    exact .inl ⟨p,rfl,⟨_,h1.sq⟩,k _ H1 c1 f1 s1 (ItOk.lst λc' H' ex=>⟨_,(h1.mono ex).sq,Reps.ints ns⟩)⟩
  | @tup p vs ds' h1 h2 h3=>
    cases eq
    exact .inr (.inl ⟨p,rfl,⟨vs,SqT.of h1⟩,k _ H1 c1 f1 s1 (ItOk.tup λc' H' ex=>⟨vs,SqT.of (ex.keep _ _ h1 h2),h3.mono ex⟩)⟩)
  | str x=>
    cases eq
    exact .inr (.inr ⟨x,rfl,k _ H1 c1 f1 s1 ItOk.str⟩)
  | _=>cases eq
theorem RG.un {v:V}{Z:L2.St}{H:Hp}{Q:L2.St->Hp->Prop}(q:RG K (unS n g) v Z H Q):gUn K n (RGs K g) v Z H Q:=by
 obtain ⟨Oo,c,t,d,fi,rv,t',eq,k⟩:=q
 cases rv with
 | @tup a vs ds h1 h2 h3=>
   unfold unS at eq
   by_cases hn:ds.length=n
   ·dsimp only at eq;rw [if_pos hn] at eq;exact ⟨a,vs,rfl,.inl (SqT.of h1),by rw [h3.length];exact hn,Oo,c,t,ds,fi,h3,t',eq,k⟩
   ·dsimp only at eq;rw [if_neg hn] at eq;cases eq
 | @lst a vs ds h1 h2 h3=>
   unfold unS at eq
   by_cases hn:ds.length=n
   ·dsimp only at eq;rw [if_pos hn] at eq;exact ⟨a,vs,rfl,.inr (SqL.of h1),by rw [h3.length];exact hn,Oo,c,t,ds,fi,h3,t',eq,k⟩
   ·dsimp only at eq;rw [if_neg hn] at eq;cases eq
 | _=>cases eq
theorem ZB {k:Nat}(hc:X.calm=true)(h:PGs X es (RGs X.K g))(hn:(assignEach es X.env).length=n:=by rfl)(hst:(assignEach es X.env).findIdx? (·.1)=none:=by rfl):PG X (.Tuple es k pos) (RG X.K (unS n g)):=
 LU (ZV hc h hn hst) λ_ _ _ _ q=>RG.un q
theorem R8 {f:D->M Unit}(h1:PG X e (RG X.K f))(h2:PGs X es (RGs X.K g))(hs:(assignEach (e :: es) X.env).map (·.2)=assign e X.env :: (assignEach es X.env).map (·.2):=by rfl):PGs X (e :: es) (RGs X.K (Bf f g)):=
 Nv (Ta h1 h2 hs) λ_ _ _ _ q=>RGs.cons q
end
variable {x:Str}
section
variable {K:PySem.W.Frag}
def Ub (K:PySem.W.Frag):R2:=λx y H Q=>O1 K x y H Q\/Uc x y H Q
theorem Vw {X:Cx}:OpR X (binaryOp .Mult) (Ub X.K):=op_mul3.or Vx
theorem Np {k:Int}(h:small k=true/\x.length * k.toNat<=LIM/\k<=LIM/\x.length<=LIM):MulOk x k:=by
 obtain ⟨g1,g2⟩:=EU h.1;have hL:LIM=100000:=rfl;refine ⟨?_,λh1 _=>?_,λh1 _=>?_⟩
 ·rw [Bool.or_eq_false_iff];exact ⟨ul0 (by lia),ul0 (by lia)⟩
 ·have h2:k<=100000:=by have:=h.2.2.1;rw [hL] at this;exact this
  have h3:x.length<=100000:=by have:=h.2.2.2;rw [hL] at this;exact this
  have h4:(92233720368547:Int)<=(2 ^ 63 - 1) / k:=by
   rw [Int.le_ediv_iff_mul_le (by lia)];lia
  lia
 ·have h5:=h.2.1;rw [hL] at h5;unfold Builtin.Str.tooLong
  first | exact ul0 (by unfold sizeLine;lia) | (unfold sizeLine;exact ul0 (by lia))
theorem Ts:A8 K (Ub K) B4:=λ{Oo c t Z H x y dx dy r t' Q} f rx ry eq k=>by
 unfold B4 at eq
 split at eq
 ·next z kk=>
  split at eq
  ·next h=>
   cases eq
   cases rx
   cases ry
   exact .inr ⟨z,kk,rfl,rfl,Np h,k _ H c f .refl (.str _)⟩
  ·cases eq
 ·exact .inl (Wh f rx ry eq k)
def YK (K:PySem.W.Frag):V->Option Int->Option Int->Hp->VK->Prop:=Tl K
theorem sl3 {X:Cx}:SlR X (YK X.K):=sl2
theorem Wn:Rw K (YK K) FQ:=YR
theorem IB {g:Int->Int->Bool}{h:List Nat->List Nat->Bool}:A8 K (GX g h) (Mj g h):=λ{Oo c t Z H x y dx dy r t' Q} f rx ry eq k=>by
 cases rx with
 | int i=>cases ry with
   | int j=>cases eq;exact .inl ⟨i,j,rfl,rfl,k _ H c f .refl (.bl _)⟩
   | _=>cases eq
 | str i=>cases ry with
   | str j=>cases eq;exact .inr ⟨i,j,rfl,rfl,k _ H c f .refl (.bl _)⟩
   | _=>cases eq
 | _=>cases eq
theorem Oc:A8 K (GX (λi j=>decide (i < j)) λi j=>decide (i < j)) ltA:=IB
theorem Oa:A8 K (GX (λi j=>decide (i<=j)) λi j=>!(decide (j < i))) leA:=IB
theorem N9:A8 K (GX (λi j=>decide (j < i)) λi j=>decide (j < i)) gtA:=IB
theorem V8:A8 K (GX (λi j=>decide (j<=i)) λi j=>!(decide (i < j))) geA:=IB
end
variable {fa:Addr}{fd:FuncData}
theorem Xy {P:Program}{w:World}{mg:Str->Option Value}{base:Heap}{qual:Str}{st:Stmt}{N ps:List Str}{k m:Nat}{g:M Out}(e1:ps.length=n)(e2:N.length=m)(F:Fun K x qual st fa fd)(S:FnScope N ps (Al st))
 (hb:∀(cdv:Value) (A:Around) (outer:List Env) (s:Shared) (H:Hp) (E:XK),Room k (A.deeper (PyProof.Rows.envOfC qual (Al st) s.heap.objs.size fa cdv))->
   PSs (Dl CX0 P w K mg base N qual (Al st) fa cdv A outer s H E).nox (A0 st) (RS K g)):FnOk P w K mg base CX0 (k + 1) fa fd ps (spF K (fnOf n m g)):=by
 subst e1 e2;exact ZE F S hb
theorem YN {P:Program}{w:World}{mg:Str->Option Value}{base:Heap}{ps:List Str}{k:Nat}{f g:Fn}(e:f=g)(h:FnOk P w K mg base CX0 k fa fd ps (spF K g)):FnOk P w K mg base CX0 k fa fd ps (spF K f):=by rw [e];exact h
theorem W1:bootBuiltins "len" = some (.builtin "len"):=by decide +kernel
theorem Lx:bootBuiltins "isinstance" = some (.builtin "isinstance"):=by decide +kernel
theorem W3:bootBuiltins "ord" = some (.builtin "ord"):=by decide +kernel
theorem W2:bootBuiltins "min" = some (.builtin "min"):=by decide +kernel
theorem W5:bootBuiltins "sum" = some (.builtin "sum"):=by decide +kernel
theorem Ps:bootBuiltins "int" = some (.type "int"):=by decide +kernel
theorem W4:bootBuiltins "str" = some (.type "str"):=by decide +kernel
theorem UB:bootBuiltins "bool" = some (.type "bool"):=by decide +kernel
theorem Nz:bootBuiltins "list" = some (.type "list"):=by decide +kernel
theorem L6:bootBuiltins "tuple" = some (.type "tuple"):=by decide +kernel
noncomputable def AR:Expr->Bool
 | .Starred _ _=>true
 | _=>false
theorem AW {e:Expr}{env:Env}(h:AR e=false):starEach (e :: es) env=(false,eval e env) :: starEach es env:=by
 cases e <;> first | rfl | cases h
def AS (es:List Expr):Bool:=es.all λe=>!AR e
theorem AQ:∀{es:List Expr} {env:Env} {p:Pos},AS es=true->(backTo p (starEach es env)).any (·.1)=false/\(backTo p (starEach es env)).all (λx=>!x.1)=true
 | [],env,p,_=>⟨rfl,rfl⟩
 | e :: es,env,p,h=>by
   have h':AR e=false/\AS es=true:=by
    rw [AS,um2,uh9] at h;exact ⟨by simpa using h.1,h.2⟩
   obtain ⟨h1,h2⟩:=AQ (es:=es) (env:=env) (p:=p) h'.2;rw [AW h'.1];refine ⟨?_,?_⟩
   ·show (false || (backTo p (starEach es env)).any (·.1))=false;rw [h1];rfl
   ·show (!false && (backTo p (starEach es env)).all (λx=>!x.1))=true;rw [h2];rfl
variable {f:M (List D)}{p:Pos}{id:String}{R:List V->Hp->VK->Prop}
section
variable {X:Cx}{e a b:Expr}{es:List Expr}{pos:Pos}
theorem RV {f:M D}{g:M (List D)}(ha:PE X e (RE X.K f))(hr:PA X es (RA X.K g))(hs:AR e=false:=by rfl):PA X (e :: es) (RA X.K (Aa f g)):=UJ ha hr (AW hs)
theorem Jc {k:Nat}{ps:List Str}{g:Fn}(F:FnOk X.prog X.w X.K X.mg X.base CX0 k fa fd ps (spF X.K g))(hr:Room k X.A)(hg:Gl X x)(hm:X.mg x=some (.ref fa))(hk:PySem.W.keepIn X.K (.ref fa)=true)(hb:Binds X.K fd ps [])
 (ha:PA X (e :: es) (RA X.K f)) (hdb:(x == ("__debug__" : Str))=false:=by decide) (h1:AR e=false:=by rfl) (h2:AS es=true:=by rfl) :
 PE X (.Call (.Name x p) (e :: es) [] pos) (RE X.K (Ag g f)):=UK F hr hg hm hk hb ha hdb (AW h1) (AQ h2).1
theorem JO {h:List D->M D}(hc:Ch X (.builtin id) R)(s:EX X.K R h)(hg:Gl X x)(hm:X.mg x=none)(hv:bootBuiltins x=some (.builtin id))(ha:PA X (e :: es) (RA X.K f))(hn:x≠"__name__":=by decide)(hdb:(x == ("__debug__" : Str))=false:=by decide)
 (h1:AR e=false:=by rfl) (h2:AS es=true:=by rfl):PE X (.Call (.Name x p) (e :: es) [] pos) (RE X.K (fB f h)):=bo hc s hg hm hv ha hn hdb (AW h1) (AQ h2).1
theorem T2 {h:List D->M D}(hc:Ch X (.type id) R)(s:EX X.K R h)(hg:Gl X x)(hm:X.mg x=none)(hv:bootBuiltins x=some (.type id))(ha:PA X (e :: es) (RA X.K f))(hn:x≠"__name__":=by decide)(hdb:(x == ("__debug__" : Str))=false:=by decide)
 (h1:AR e=false:=by rfl) (h2:AS es=true:=by rfl):PE X (.Call (.Name x p) (e :: es) [] pos) (RE X.K (fB f h)):=bp hc s hg hm hv ha hn hdb (AW h1) (AQ h2).1
theorem Zz {h:List D->M (List D)}(hc:Ch X (.type id) R)(s:LH X.K R h)(hg:Gl X x)(hm:X.mg x=none)(hv:bootBuiltins x=some (.type id))(ha:PA X (e :: es) (RA X.K f))(hn:x≠"__name__":=by decide)(hdb:(x == ("__debug__" : Str))=false:=by decide)
 (h1:AR e=false:=by rfl) (h2:AS es=true:=by rfl):PE X (.Call (.Name x p) (e :: es) [] pos) (RF X.K (fBF f h)):=bq hc s hg hm hv ha hn hdb (AW h1) (AQ h2).1
theorem OA (hg:Gl X "range")(hm:X.mg "range" = none)(ha:PA X [a] (RA X.K f))(h1:AR a=false:=by rfl):PI X tg (.Call (.Name "range" p) [a] [] pos) (RI X.K (A5 f)):=PQ hg hm ha (AW h1)
theorem OB (hg:Gl X "range")(hm:X.mg "range" = none)(ha:PA X [a,b] (RA X.K f))(h1:AR a=false:=by rfl)(h2:AR b=false:=by rfl):PI X tg (.Call (.Name "range" p) [a,b] [] pos) (RI X.K (GH f)):=
 PR hg hm ha (by rw [AW h1,AW h2];rfl) (AW h2)
theorem PN {cpos:Pos}(h1:AR e=false)(h2:AS es=true)(h3:es.length < 20):((backTo cpos (starEach (e :: es) X.env)).all (λx=>!x.1) && (backToKw cpos (keywordEach [] X.env)).all (λx=>x.1.isSome) && decide ((e :: es).length + ([]:List Keyword).length + (if ([]:List Keyword).isEmpty then 0 else 1) < 30))=true:=by
 rw [(AQ (es:=e :: es) (env:=X.env) (p:=cpos) (by rw [AS,um2,h1];exact h2)).2];show (true && true && decide (es.length + 1 + 0 + 0 < 30))=true;simp;lia
theorem OF {μ:Cf->Hp->D->(V->Hp->Prop)->Prop}(i:Nat){x:Str}{g:M (List D)}{px apos cpos:Pos}(ha:PA X (e :: es) (RA X.K g))(hN:X.N[i]?=some x:=by rfl)(hv:Vis X.env.scope x:=by walk_at "h")(hd:(x == ("__debug__" : Str))=false:=by decide)
 (hcd:(x == ("__classdict__" : Str))=false:=by decide) (hline:(apos.endLine == cpos.line)=true:=by rfl) (h1:AR e=false:=by rfl) (h2:AS es=true:=by rfl) (h3:es.length < 20:=by decide) :
 PS X (.Expr (.Call (.Attribute (.Name x px) "append" apos) (e :: es) [] cpos) pos) (RSg X.K μ (ownM i Cn g)):=PV i ha hN hv hd hcd rfl (PN h1 h2 h3) hline (AW h1) (AQ h2).1
theorem OG {μ:Cf->Hp->D->(V->Hp->Prop)->Prop}(i:Nat){x:Str}{g:M (List D)}{px apos cpos:Pos}(ha:PA X (e :: es) (RA X.K g))(hN:X.N[i]?=some x:=by rfl)(hv:Vis X.env.scope x:=by walk_at "h")(hd:(x == ("__debug__" : Str))=false:=by decide)
 (hcd:(x == ("__classdict__" : Str))=false:=by decide) (hline:(apos.endLine == cpos.line)=true:=by rfl) (h1:AR e=false:=by rfl) (h2:AS es=true:=by rfl) (h3:es.length < 20:=by decide) :
 PS X (.Expr (.Call (.Attribute (.Name x px) "extend" apos) (e :: es) [] cpos) pos) (RSg X.K μ (ownM i Ev g)):=PX i ha hN hv hd hcd rfl (PN h1 h2 h3) hline (AW h1) (AQ h2).1
end
end F2
namespace HT
open PySem PySem.Spec L2 PyProof.Rows
section
variable {prog:Program}{w:World}{A:Around}{E:Value->Shared->Prop}{s:Shared}
end
end HT
namespace L2
open PySem PySem.Spec PyProof.Rows
section
variable {X:Cx}{e ek:Expr}{p2 pos:Pos}{te:TE}{tk:TO}
end
section
variable {X:Cx}
theorem Hd:∀{ys:List Str} {us:List Value},Vals (ys.map V.str) us->CarriedAll us (ys.map PyData.str)
 | [],_,r=>by cases r;exact .nil
 | _ :: _,_,r=>by
   cases r with
   | cons r1 r2=>obtain ⟨t,rfl⟩:=r1;exact .cons (.str _ _) (Hd r2)
def Ua (K:PySem.W.Frag):V->List V->Hp->VK->Prop:=λx xs H Q=>∃z a ys,x = .str z/\xs=[.ref a]/\SqL K H a (ys.map V.str)/\(∀y∈ys,y.length<=8)/\z.length<=8/\ys.length<=1048576/\Q (.str (Txt.join z ys)) H
theorem Vk:MtR X "str.join" (Ua X.K):=by
 intro pins s Z H x xs v us Q I rx rs h;obtain ⟨z,a,ys,rfl,rfl,ha,h1,h2,h3,q⟩:=h;obtain ⟨t,rfl⟩:=rx;obtain ⟨u,rfl,ru⟩:=EN rs
 cases ru
 obtain ⟨its,r,pl,_⟩:=I.list ha;refine join_madeW (l:=ys) (g:=id) 8 pl.isList (by rw [List.map_id];exact Hd r) h1 h3 (by lia) λt' k=>?_;rw [List.map_id];exact ⟨.str _,H,I.tok _,⟨_,rfl⟩,q⟩
end
section
variable {X:Cx}
end
section
variable {X:Cx}
end
end L2
namespace F2
open PySem L2 PySem.Spec
section
variable {X:Cx}{K:PySem.W.Frag}
noncomputable def FR:List D->Option (List Str)
 | []=>some []
 | .str x :: r=>if x.length<=8 then (FR r).map (x :: ·) else none
 | _=>none
def joinM (f:M D)(g:M (List D)):M D:=bnd f λo=>bnd g λas=>match o,as with
 | .str z,[.lst ds]=>λt=>match FR ds with
   | some ys=>if z.length<=8/\ys.length<=1048576 then some (.str (Txt.join z ys),t) else none
   | none=>none
 | _,_=>fail
theorem Nb {c:Cf}{H:Hp}:∀{ds:List D} {vs:List V} {ys:List Str},Reps K c H vs ds->FR ds=some ys->vs=ys.map V.str/\∀y∈ys,y.length<=8
 | [],_,ys,r,e=>by
   cases r
   cases e
   exact ⟨rfl,λ_ h=>nomatch h⟩
 | d :: ds,_,ys,r,e=>by
   cases r with
   | cons r1 r2=>
     cases r1 with
     | str x=>
       unfold FR at e
       split at e
       ·next hx=>
        obtain ⟨zs,e1,rfl⟩:=uc6.mp e;obtain ⟨h1,h2⟩:=Nb r2 e1;refine ⟨by rw [h1];rfl,λy hy=>?_⟩;rcases ul9.mp hy with rfl | hy
        ·exact hx
        ·exact h2 y hy
       ·cases e
     | _=>cases e
theorem RE.joinM {f:M D}{g:M (List D)}{Z:L2.St}{H:Hp}{Q:VK}(q:RE K (F2.joinM f g) Z H Q):tBM K "str" (Ua K) (RE K f) (RA K g) Z H Q:=by
 obtain ⟨Oo,c,t,fi,r,t',eq,k⟩:=q;obtain ⟨d,t1,e1,eq⟩:=Af eq;obtain ⟨as,t2,e2,eq⟩:=Af eq;refine ⟨Oo,c,t,fi,d,t1,e1,λv H1 c1 f1 s1 rv=>?_⟩
 split at eq
 ·next z ds=>
  cases rv
  refine ⟨rfl,Oo,c1,t1,f1,_,t2,e2,λus H2 c2 f2 s2 rus=>?_⟩;obtain ⟨w,rfl,rw'⟩:=DT rus
  split at eq
  ·next ys ey=>
   split at eq
   ·next hz=>
    cases eq
    cases rw' with
    | @lst p vs ds h1 h2 h3=>
      obtain ⟨h4,h5⟩:=Nb h3 ey;subst h4;exact ⟨_,p,ys,rfl,rfl,SqL.of h1,h5,hz.1,hz.2,k _ _ c2 f2 (s1.trans s2) (.str _)⟩
   ·cases eq
  ·cases eq
 ·cases eq
theorem UM {o e:Expr}{es:List Expr}{f:M D}{g:M (List D)}{apos cpos:Pos}(ho:PE X o (RE X.K f))(ha:PA X (e :: es) (RA X.K g))
 (hbase:attributeBase o "join" X.env (eval o X.env)=eval o X.env:=by rfl)
 (hfew:((backTo cpos (starEach (e :: es) X.env)).all (λx=>!x.1) && (backToKw cpos (keywordEach [] X.env)).all (λx=>x.1.isSome) && decide ((e :: es).length + ([]:List Keyword).length + (if ([]:List Keyword).isEmpty then 0 else 1) < 30))=true:=by rfl)
 (hline:(apos.endLine == cpos.line)=true:=by rfl) (hs:starEach (e :: es) X.env=(false,eval e X.env) :: starEach es X.env:=by rfl) (hplain:(backTo cpos (starEach es X.env)).any (·.1)=false:=by rfl) :
 PE X (.Call (.Attribute o "join" apos) (e :: es) [] cpos) (RE X.K (joinM f g)):=
 AL (Kb PySem.F.plainAttrs_str PySem.F.slot_str_join PySem.F.type_str_join Vk ho ha hbase hfew hline hs hplain) λ_ _ _ q=>RE.joinM q
noncomputable def Hn:List D->Option (List Int)
 | []=>some []
 | .int i :: r=>(Hn r).map (i :: ·)
 | _=>none
theorem MB {c:Cf}{H:Hp}:∀{ds:List D} {vs:List V} {ns:List Int},Reps K c H vs ds->Hn ds=some ns->vs=ns.map V.int
 | [],_,ns,r,e=>by
   cases r
   cases e
   rfl
 | d :: ds,_,ns,r,e=>by
   cases r with
   | cons r1 r2=>
     cases r1 with
     | int i=>
       obtain ⟨zs,e1,rfl⟩:=uc6.mp e;rw [MB r2 e1];rfl
     | _=>cases e
end
end F2
namespace L2
open PySem PySem.Spec PyProof.Rows
def QR:R2:=λx y H Q=>∃a kvs k v,x = .ref a/\y = .str k/\H a=some (.dK kvs)/\DM kvs (Sum.inr k:Key)=some v/\Q v H
def YC:V->V->V->Hp->(Hp->Prop)->Prop:=λo i v H Q=>∃a kvs k,o = .ref a/\i = .str k/\H a=some (.dK kvs)/\kvs.length < sizeLine/\Q (upd H a (.dK (DK kvs (Sum.inr k:Key) v)))
section
variable {X:Cx}
theorem XN:IxR X QR:=by
 intro value slice pins s Z H x y v u Q I rx ry h hs;obtain ⟨a,kvs,k,z,rfl,rfl,e,l,q⟩:=h
 cases rx
 obtain ⟨_,_,vs,rel,dd⟩:=LK I.hok e;have g:DGet H a (kV (Sum.inr k:Key)) (some z):=by rw [<-l];exact DGet.k e
 have hT:=dd.typeIs;unfold subscriptTail;refine up1 ?_;rw [getitemInPython_of_ne hT.not_modules];refine up1 (wpAny_specialOf hT PySem.F.slot_dict_getitem.lookup ?_);have get:wpAny (model X.prog X.w) X.A (getItem (.ref a) u) (EP X pins Z Q) X.xe s:=by
  obtain ⟨w',hw,rw'⟩:=RelO.some_of (v:=z) (o:=valueAt vs (Sum.inr k:Key)) (by rw [<-l];exact rel.val _);exact wpAny_getItem_of (JV (k:=(Sum.inr k:Key)) ry) dd.mapOf hw ⟨z,H,I.tok _,rw',q⟩
 have fin:wpAny (model X.prog X.w) X.A (subscripted slice false (.ref a) u) (λr s₃=>wpAny (model X.prog X.w) X.A (letTemporaryGo value (.ref a) r >>= λ_=>pure r) (EP X pins Z Q) X.xe s₃) X.xe s:=by
  rw [hs];exact wpAny_operating (up3 get (λr s₃ h₃=>up1 (wpAny_letTemporaryGo (up2 h₃))) λ_ _ x=>x)
 first
  | exact up2 (up1 fin)
  | exact up1 (up2 (up1 fin))
  | exact up1 fin
theorem Wq:WT X YC:=by
 intro pins s Z H o i v ov iv u Q I ro ri rv h;obtain ⟨a,kvs,k,rfl,rfl,e,l,q⟩:=h
 cases ro
 obtain ⟨z,hd,vs,rel,dd⟩:=LK I.hok e;have hz:vs.length<=sizeLine:=by rw [<-rel.length];exact z
 have hl:(DK kvs (Sum.inr k:Key) v).length<=sizeLine:=by have:=IL kvs (Sum.inr k:Key) v;lia
 refine wpAny_setItem_pairs (hsz:=hz) (JV (k:=(Sum.inr k:Key)) ri) dd λh' dd' hs=>⟨_,?_,q⟩;have he:∃q,h'.get? a=some q:=let ⟨q,_,_,hq,_⟩:=dd';⟨q,hq⟩;exact NB I (by rw [e];exact True.intro) hs he (Mo hl hd (rel.put _ rv) dd')
end
end L2
namespace F2
open PySem L2 PySem.Spec
noncomputable def AV (kvs:List (Key×D))(k:Key):Option D:=(kvs.find? λkv=>decide (kv.1=k)).map (·.2)
noncomputable def Bm (kvs:List (Key×D))(k:Key)(d:D):List (Key×D):=
 if (kvs.any λkv=>decide (kv.1=k))=true then kvs.map (λkv=>if kv.1=k then (kv.1,d) else kv) else kvs++[(k,d)]
def AJ:D->D->M D
 | .obj n,.str x=>λt=>match t.S[n]? with
   | some (.dct kvs)=>(AV kvs (.inr x)).map λd=>(d,t)
   | _=>none
 | _,_=>fail
def Gx:D->D->D->M Unit
 | .obj n,.str x,d=>λt=>match t.S[n]? with
   | some (.dct kvs)=>if kvs.length < LIM then some ((),{ t with S:=t.S.set n (.dct (Bm kvs (.inr x) d)) }) else none
   | _=>none
 | _,_,_=>fail
def EK (f g:M D)(d:D):M Unit:=bnd f λo=>bnd g λi=>Gx o i d
def DO:List (Str×M D)->M (List (Key×D))
 | []=>ret []
 | (k,f) :: r=>bnd f λd=>bnd (DO r) λps=>ret ((.inr k,d) :: ps)
def AZ (ps:List (Key×D)):List (Key×D):=ps.foldl (λacc kv=>Bm acc kv.1 kv.2) []
def Fm (n:Nat)(ps:List (Key×D)):M D:=λt=>match t.S[n]? with
 | some (.dct [])=>if ps.length<=15 then some (.obj n,{ t with S:=t.S.set n (.dct (AZ ps)) }) else none
 | _=>none
def Fd (l:List (Str×M D)):M D:=λt=>bnd (DO l) (Fm t.S.length) { t with S:=t.S++[.dct []] }
section
variable {K:PySem.W.Frag}{c:Cf}{H:Hp}
theorem KVR.get {us:List (Key×V)}{kvs:List (Key×D)}(r:KVR K c H us kvs)(k:Key){d:D}(e:AV kvs k=some d):∃v,DM us k=some v/\Rep K c H v d:=by
 unfold KVR at r
 induction r with
 | nil=>simp [AV] at e
 | @cons p q ps qs h t ih=>
   by_cases hk:p.1=k
   ·have hq:q.1=k:=h.1.symm.trans hk;have:AV (q :: qs) k=some q.2:=by simp [AV,uk0,hq]
    rw [this] at e;cases e
    exact ⟨p.2,G5 hk,h.2⟩
   ·have hq:¬q.1=k:=λz=>hk (h.1.trans z);have:AV (q :: qs) k=AV qs k:=by simp [AV,uk0,hq]
    rw [this] at e;rw [G0 hk];exact ih e
theorem KVR.any {us:List (Key×V)}{kvs:List (Key×D)}(r:KVR K c H us kvs)(k:Key):(us.any λkv=>decide (kv.1=k))=(kvs.any λkv=>decide (kv.1=k)):=by
 unfold KVR at r
 induction r with
 | nil=>rfl
 | @cons p q ps qs h t ih=>rw [um3,um3,ih,h.1]
theorem KVR.put {us:List (Key×V)}{kvs:List (Key×D)}(r:KVR K c H us kvs)(k:Key){v:V}{d:D}(rv:Rep K c H v d):KVR K c H (DK us k v) (Bm kvs k d):=by
 unfold DK Bm;rw [r.any k]
 by_cases q:(kvs.any λkv=>decide (kv.1=k))=true
 ·rw [if_pos q,if_pos q];clear q;unfold KVR at r ⊢
  induction r with
  | nil=>exact .nil
  | @cons p q ps qs h t ih=>
    rw [um0,um0];refine .cons ?_ ih
    by_cases e:p.1=k
    ·rw [if_pos e,if_pos (h.1.symm.trans e)];exact ⟨h.1,rv⟩
    ·rw [if_neg e,if_neg (λz=>e (h.1.trans z))];exact h
 ·rw [if_neg q,if_neg q];exact Paired.snoc r ⟨rfl,rv⟩
theorem KVR.length {us:List (Key×V)}{kvs:List (Key×D)}(r:KVR K c H us kvs):us.length=kvs.length:=Paired.length r
theorem KVR.mono {c':Cf}{H':Hp}{us:List (Key×V)}{kvs:List (Key×D)}(e:Ext c H c' H')(r:KVR K c H us kvs):KVR K c' H' us kvs:=Paired.mapP r λ_ _ z=>⟨z.1,z.2.mono e⟩
theorem KVR.merge:∀{ps:List (Key×D)} {us:List (Key×V)} {acc:List (Key×D)} {ua:List (Key×V)},KVR K c H us ps->KVR K c H ua acc->KVR K c H (FL ua us) (ps.foldl (λacc kv=>Bm acc kv.1 kv.2) acc):=by
 intro ps us acc ua r;unfold KVR at r
 induction r generalizing acc ua with
 | nil=>intro q;exact q
 | @cons p q ps qs h t ih=>
   intro r0;refine ih ?_;show KVR K c H (DK ua p.1 p.2) (Bm acc q.1 q.2);have:=KVR.put r0 p.1 h.2;rw [<-h.1];exact this
theorem Q1:A8 K QR AJ:=λ{Oo c t Z H x y dx dy r t' Q} f rx ry eq k=>by
 unfold AJ at eq
 split at eq
 ·next n z=>
  cases ry
  cases rx with
  | @obj a kk hk=>
    split at eq
    ·next kvs es=>
     obtain ⟨d,e1,e2⟩:=uc6.mp eq
     cases e2
     obtain ⟨us,g1,g2⟩:=f.s.obs _ a _ hk es;obtain ⟨v,e3,e4⟩:=g2.get _ e1;exact ⟨a,us,z,v,rfl,rfl,g1,e3,k _ H c f .refl e4⟩
    ·cases eq
 ·cases eq
end
section
variable {X:Cx}{pos:Pos}{e:Expr}
theorem PP {o i:Expr}{f g:M D}(ho:PE X o (RE X.K f))(hi:PE X i (RE X.K g))
 (ha:∀v,assign (.Subscript o i pos) X.env v=(do
   let ov <-holding [v] (eval o X.env)
   let iv <-holding [v,ov] (eval i X.env)
   standAt pos
   holding [v,ov,iv] (setItem ov iv v)
   release [v,ov,iv] []):=by intro _;rfl):PG X (.Subscript o i pos) (RG X.K (EK f g)):=
 LU (Yq ho hi Wq ha) λv Z H Q z9=>by
  obtain ⟨Oo,c,t,d,fi,rv,t',eq,k⟩:=z9;obtain ⟨d0,t1,e1,eq⟩:=Af eq;obtain ⟨di,t2,e2,eq⟩:=Af eq;refine ⟨Oo,c,t,fi,_,t1,e1,λx H1 c1 f1 s1 rx=>⟨Oo,c1,t1,f1,di,t2,e2,λy H2 c2 f2 s2 ry=>?_⟩⟩;unfold Gx at eq
  split at eq
  ·next n z dd=>
   cases ry
   cases rx with
   | @obj a kk hk=>
     split at eq
     ·next kvs es=>
      split at eq
      ·next hl=>
       cases eq
       have hk2:=s2.ext.io _ _ hk;obtain ⟨us,g1,g2⟩:=f2.s.obs _ a _ hk2 es;refine ⟨a,us,z,rfl,rfl,g1,by rw [g2.length];exact Nat.lt_trans hl WR,?_⟩;have rv2:=rv.mono (s1.trans s2).ext;obtain ⟨f3,s3⟩:=f2.wrObj (o:=.dct (Bm kvs (.inr z) d)) (u:=.dK (DK us (.inr z) v)) hk2 λc' H' ext hu=>⟨_,hu,(g2.put _ rv2).mono ext⟩;exact k Z _ c2 f3 ((s1.trans s2).trans s3)
      ·cases eq
     ·cases eq
  ·cases eq
def RP (K:PySem.W.Frag)(f:M (List (Key×D)))(Z:St)(H:Hp)(Q:List (V×V)->Hp->Prop):Prop:=
 ∃Oo c t,FInv K Oo c t Z H/\∃ps t',f t=some (ps,t')/\∀us H' c',FInv K Oo c' t' Z H'->Stp Oo c H c' H'->KVR K c' H' us ps->Q (us.map λkv=>(kV kv.1,kv.2)) H'
def PPf (X:Cx)(pos:Pos)(keys:List (Option Expr))(values:List Expr)(f:M (List (Key×D))):Prop:=
 ∃trs,PPs X pos keys values trs/\∀Z H Q,RP X.K f Z H Q->Kl trs Z H Q
theorem UZ:PPf X pos [] [] (DO []):=⟨[],VS,λZ H Q z9=>by
 obtain ⟨Oo,c,t,fi,ps,t',eq,k⟩:=z9
 cases eq
 exact k [] H c fi .refl .nil⟩
theorem Sa {k:Str}{j:Nat}{kp:Pos}{v:Expr}{ks:List (Option Expr)}{vs:List Expr}{f:M D}{r:List (Str×M D)}(hv:PE X v (RE X.K f))(hr:PPf X pos ks vs (DO r)) :
 PPf X pos (some (.Constant (.str k) j kp) :: ks) (v :: vs) (DO ((k,f) :: r)):=by
 obtain ⟨trs,h1,h2⟩:=hr;refine ⟨_,Tf QH hv h1,λZ H Q z9=>?_⟩;obtain ⟨Oo,c,t,fi,ps,t',eq,kk⟩:=z9;obtain ⟨d,t1,e1,eq⟩:=Af eq;obtain ⟨qs,t2,e2,eq⟩:=Af eq
 cases eq
 refine ⟨Oo,c,t,fi,d,t1,e1,λy H1 c1 f1 s1 ry=>?_⟩;refine h2 Z H1 _ ⟨Oo,c1,t1,f1,qs,_,e2,λus H2 c2 f2 s2 ru=>?_⟩;exact kk ((.inr k,y) :: us) H2 c2 f2 (s1.trans s2) (.cons ⟨rfl,ry.mono s2.ext⟩ ru)
theorem UL {keys:List (Option Expr)}{values:List Expr}{l:List (Str×M D)}(h:PPf X pos keys values (DO l))(hall:keys.all (·.isSome)=true:=by rfl)(hl:keys.length=values.length:=by rfl)(h0:keys≠[]:=by exact List.cons_ne_nil _ _)
 (h15:keys.length<=15:=by exact ud5 rfl):PE X (.Dict keys values pos) (RE X.K (Fd l)):=by
 obtain ⟨trs,h1,h2⟩:=h;refine AL (VG h1 hall hl h0 h15) λZ H Q z9=>?_;obtain ⟨Oo,c,t,fi,r,t',eq,k⟩:=z9;intro p hp;obtain ⟨c1,f1,s1,e1⟩:=fi.newObj (o:=.dct []) (u:=.dK []) hp λc' H' ex hu=>⟨[],hu,.nil⟩;obtain ⟨ps,t2,e2,eq⟩:=Af eq;refine h2 Z _ _ ⟨Oo,c1,_,f1,ps,t2,e2,λus H2 c2 f2 s2 ru=>?_⟩;unfold Fm at eq
 split at eq
 ·next es=>
  split at eq
  ·next hl15=>
   cases eq
   have hk2:=s2.ext.io _ _ e1;obtain ⟨u0,g1,g2⟩:=f2.s.obs _ p _ hk2 es
   cases g2
   refine ⟨g1,us,rfl,by rw [ru.length];exact hl15,?_⟩;obtain ⟨f3,s3⟩:=f2.wrObj (o:=.dct (AZ ps)) (u:=.dK (FL [] us)) hk2 λc' H' ext hu=>⟨_,hu,(KVR.merge ru .nil).mono ext⟩;exact k _ _ c2 f3 (s1.trans (s2.trans s3)) (.obj hk2)
  ·cases eq
 ·cases eq
end
end F2
namespace L2
open PySem PySem.Spec PyProof.Rows
section
variable {X:Cx}
end
end L2
namespace F2
open PySem L2 PySem.Spec
section
variable {X:Cx}{pos:Pos}{e:Expr}{es:List Expr}
end
end F2
namespace L2
open PySem PySem.Spec PyProof.Rows
section
variable {prog:Program}{w:World}{A:Around}{I:Addr}{fp wr:List Addr}{G:Array GenState->Array GenState->Prop}{n:Nat}{P:Nat->Value->Prop}{St:Nat->Shared->Prop}
end
section
variable {X:Cx}
end
end L2
namespace F2
open PySem L2 PySem.Spec PyProof.Rows
section
variable {X:Cx}{pos:Pos}{e:Expr}
end
end F2
namespace F2
open PySem L2 PySem.Spec
noncomputable def C6 (f:M Bool)(b:M Out):Nat->M Out
 | 0=>λ_=>none
 | n + 1=>λt=>match f t with
   | none=>none
   | some (false,t1)=>some (.next,t1)
   | some (true,t1)=>match b t1 with
     | some (.next,t2)=>C6 f b n t2
     | some (.cont,t2)=>C6 f b n t2
     | some (.brk,t2)=>some (.next,t2)
     | some (.ret x,t2)=>some (.ret x,t2)
     | none=>none
def Op:Nat:=1000000
def Nj (f:M Bool)(b:M Out):M Out:=C6 f b Op
theorem RS.while {μ:Cf->Hp->D->(V->Hp->Prop)->Prop}{K:PySem.W.Frag}{f:M Bool}{b:M Out}{E:Ends}{Z:L2.St}{H:Hp}(q:RSg K μ (Nj f b) E Z H):Re (RT K f) (RSg K μ b) E Z H:=by
 obtain ⟨Oo,c,t,fi,o,t',eq,k⟩:=q;refine ⟨λm Z' H'=>∃c' t2,FInv K Oo c' t2 Z' H'/\Stp Oo c H c' H'/\C6 f b m t2=some (o,t'),⟨Op,c,t,fi,.refl,eq⟩,?_⟩;rintro m Z' H' ⟨c',t2,f2,s2,e2⟩
 cases m with
 | zero=>cases e2
 | succ m=>
 rw [C6] at e2;dsimp only at e2
 cases ef:f t2 with
 | none=>rw [ef] at e2;cases e2
 | some p=>
 obtain ⟨r,t3⟩:=p;rw [ef] at e2;refine ⟨Oo,c',t2,f2,r,t3,ef,λH3 c3 f3 s3=>?_⟩
 cases r with
 | false=>
   cases e2
   exact k Z' H3 c3 f3 (s2.trans s3)
 | true=>
   rw [if_pos rfl];dsimp only at e2;refine ⟨λσ4 H4=>∃c4 t4,FInv K Oo c4 t4 σ4 H4/\Stp Oo c H c4 H4/\C6 f b m t4=some (o,t'),λσ4 H4 h=>⟨m,uh6 m,h⟩,?_⟩
   cases eb:b t3 with
   | none=>rw [eb] at e2;cases e2
   | some p=>
   obtain ⟨ob,t4⟩:=p;rw [eb] at e2;refine ⟨Oo,c3,t3,f3,ob,t4,eb,λσ4 H4 c4 f4 s4=>?_⟩
   cases ob with
   | next=>exact ⟨c4,t4,f4,(s2.trans s3).trans s4,e2⟩
   | cont=>exact ⟨c4,t4,f4,(s2.trans s3).trans s4,e2⟩
   | brk=>
     cases e2
     exact k σ4 H4 c4 f4 ((s2.trans s3).trans s4)
   | ret x=>
     cases e2
     exact k σ4 H4 c4 f4 ((s2.trans s3).trans s4)
section
variable {X:Cx}{pos:Pos}
theorem Sc {μ:Cf->Hp->D->(V->Hp->Prop)->Prop}{e:Expr}{body:List Stmt}{f:M Bool}{b:M Out}(hp:PassesOwn (model X.prog X.w) X.A X.env X.xe)(hc:PT X e (RT X.K f))(hb:PSs X body (RSg X.K μ b)):PS X (.While e body [] pos) (RSg X.K μ (Nj f b)):=
 A9 (Ti hp hc hb) λ_ _ _ q=>RS.while q
end
end F2
namespace L2
open PySem PySem.Spec PyProof.Rows
theorem IQ (ns:List Int):∀n:Nat,n<=ns.length->preSum (λi=>ns.getD i 0) n=(ns.take n).sum
 | 0,_=>by simp [preSum]
 | n + 1,h=>by
   rw [preSum,IQ ns n (by lia),ul6,ub4 (by lia),List.sum_append];simp [ua7,ub4 (show n < ns.length by lia)]
theorem Pw {X:Cx}(hc:X.calm=true):Ch X (.builtin "sum") (λxs H Q=>∃(p:Addr) (ns:List Int),xs=[.ref p]/\SqL X.K H p (ns.map V.int)/\Q (.int ns.sum) H):=by
 intro pins s Z H xs us Q I r h;obtain ⟨p,ns,rfl,hq,q⟩:=h;obtain ⟨u,rfl,rx⟩:=EN r
 cases rx
 obtain ⟨its,rv,pl,hz⟩:=I.list hq;have hl:=rv.length;rw [uj3] at hl;have hlist:=pl.isList;have lp:p < s.heap.objs.size:=by obtain ⟨o,ho,_⟩:=hlist;exact un1 ho
 refine call_sum_walkAnyS (wpAny_pyIter_list hlist ?_);refine ⟨s.heap.objs.size,_,_,_,_,_,_,λi=>ns.getD i 0,rfl,(Walks.list (by simp [I.ok.hd hc]) s.heap.objs.size p (un2 lp) its.toArray).toS,⟨⟨_,ue4 _ rfl,rfl,rfl⟩,hlist.push _⟩,?_,?_,?_⟩
 ·intro b hb;simp only [ul9,ui3,or_false] at hb;show b < (s.heap.push _).objs.size;rw [ul3];rcases hb with rfl | rfl
  ·exact uh6 _
  ·exact ug8 lp
 ·intro i v e;have e':its[i]?=some v:=by simpa using e
  obtain ⟨hi,_⟩:=ub1.mp e';have hy:(ns.map V.int)[i]?=some (.int (ns.getD i 0)):=by
   rw [ug3,ua7,ub4 (by lia)];rfl
  obtain ⟨w',ew,rw'⟩:=rv.get hy;rw [e'] at ew;cases ew
  exact rw'
 ·intro s' t' mv;obtain ⟨h',g',d',tk',os'⟩:=s';obtain rfl:g'=s.gens:=mv.gens;obtain rfl:d'=s.drawn:=mv.drawn;obtain rfl:os'=s.os:=mv.os;have e:preSum (λi=>ns.getD i 0) its.toArray.size=ns.sum:=by
   rw [IQ ns _ (by simp;lia),uc7 (by simp;lia)]
  refine ⟨.int ns.sum,H,I.kept (t':=tk') λb o e=>?_,⟨t',by rw [e]⟩,q⟩;have lb:=un1 e;exact mv.heap b o (by simp only [ul9,ui3,or_false];exact un2 lb) (uc3 _ e)
end L2
namespace F2
open PySem L2 PySem.Spec
def Jt:List D->M D
 | [.lst ds]=>λt=>match Hn ds with
   | some ns=>some (.int ns.sum,t)
   | none=>none
 | _=>fail
theorem Tu {K:PySem.W.Frag}:EX K (λxs H Q=>∃(p:Addr) (ns:List Int),xs=[.ref p]/\SqL K H p (ns.map V.int)/\Q (.int ns.sum) H) Jt:=λ{Oo c t Z H xs ds r t' Q} f rx eq k=>by
 unfold Jt at eq
 split at eq
 ·next es=>
  split at eq
  ·next ns e=>
   cases eq
   obtain ⟨v,rfl,rv⟩:=DT rx
   cases rv with
   | @lst a ws es g1 g2 g3=>
   have:=MB g3 e;subst this;exact ⟨a,ns,rfl,SqL.of g1,k _ H c f .refl (.int _)⟩
  ·cases eq
 ·cases eq
end F2
namespace L2
open PySem PySem.Spec PyProof.Rows
noncomputable def rngS (a b c:Int):Nat:=(Builtin.Range.rangeSize a b c).toNat
noncomputable def Ru (lo c:Int)(n:Nat):It:=⟨λi _=>i < n,λi H x H'=>H'=H/\x = .int (lo + i * c),λi _=>n<=i⟩
theorem Rh {P:Program}{w:World}{K:PySem.W.Frag}{tg:Expr}(it:Addr)(lo c:Int)(n:Nat):Turn P w K tg (Ru lo c n) [it] it (λi h=>IsRangeIter h it (lo + (i:Nat) * c) ((n:Int) - (i:Nat)) c) where
 mem:=by simp
 obj:=λi h st b hb=>by
  obtain rfl:b=it:=by simpa using hb
  exact ⟨_,st,λv z=>by have z':Data.fields _=Data.cell v:=z;cases z'⟩
 keep:=λi h h' st k=>k it (by simp) _ st
 item:=by
  intro X hP hw hK hc i pins s Z H E I hf st hg;subst hP hw hK;obtain ⟨f0,f1,f2,f3,f4,f5⟩:=hf it (by simp);have Wk:=Walks.range (prog:=X.prog) (w:=X.w) (I.ok.hd hc) it lo c n;refine Wk.item i s _ _ hg st λv h' tk hv st' kk=>?_;obtain ⟨t,rfl⟩:=hv;have I1:Inv X pins Z H { s with heap:=h',toks:=tk }:=I.turned (λb o hb e=>kk b o (by simpa using hb) e) f0 f1 f3 f4 f5;exact ⟨_,rfl,JT (s:={ s with heap:=h',toks:=tk }) (n:="range_iterator") st' rfl rfl (by decide) ⟨.int (lo + i * c),H,I1,⟨t,rfl⟩,⟨rfl,rfl⟩,st',λb hb=>(hf b hb).1⟩⟩
 done:=by
  intro X hP hw hK hc i pins s Z H E I hf st hg;subst hP hw hK;obtain ⟨f0,f1,f2,f3,f4,f5⟩:=hf it (by simp);exact wpAny_pyNext_range_end (I.ok.hd hc) st (by have:n<=i:=hg;lia) λh' eb=>⟨rfl,I.turned (t':=s.toks) (λb o hb e=>eb b o hb e) f0 f1 f3 f4 f5⟩
 self:=λ_ _ _ _ _ st h=>wpAny_pyIter_rangeiter st h
section
variable {X:Cx}{tg:Expr}
def ZM (ta:TA):TI:=λZ H R=>ta Z H λvs H1=>∃a b c:Int,vs=[.int a,.int b,.int c]/\c≠0/\c.natAbs < 1073741824/\Builtin.Range.small a b c=true/\0<=Builtin.Range.rangeSize a b c/\R (Ru a c (rngS a b c)) H1
theorem QL {e:Expr}{es:List Expr}{ta:TA}{p pos:Pos}(hg:Gl X "range")(hm:X.mg "range" = none)(ha:PA X (e :: es) ta)(he:starEach (e :: es) X.env=(false,eval e X.env) :: starEach es X.env)(hpl:(backTo pos (starEach es X.env)).any (·.1)=false) :
 PI X tg (.Call (.Name "range" p) (e :: es) [] pos) (ZM ta):=by
 intro pins s Z H R I h;refine Call_ (Gk I hg hm boot_range (ua3 (thn (ha pos pins s Z H _ I h) λus s1 z9=>?_) he hpl));obtain ⟨vs,H1,I1,r1,q1⟩:=z9;obtain ⟨a,b,c,ev,h0,h1,hs,hz,q⟩:=q1;subst ev
 cases r1 with
 | cons r1 rr=>
 cases rr with
 | cons r2 rr=>
 cases rr with
 | cons r3 rr=>
 cases rr
 obtain ⟨t,rfl⟩:=r1;obtain ⟨u,rfl⟩:=r2;obtain ⟨v,rfl⟩:=r3;refine call_range_3 h0 ?_ (.inl (PyProof.noPylong_small h1));generalize hN:({ cls:=.type "range",data:=.fields #[.int a t,.int b u,.int c v] }:Obj)=N;have hfr:N.isFreed=false:=by rw [<-hN];rfl
 refine wpAny_pyIter_range (a:=a) (b:=b) (c:=c) (t:=t) (u:=u) (v:=v) (by subst hN;exact ue4 _ rfl) hs ?_;have I2:Inv X pins Z H1 { s1 with heap:=s1.heap.push N,toks:=s1.toks }:=I1.kept λb o e=>uc3 _ e;refine ⟨(s1.heap.push N).objs.size,[(s1.heap.push N).objs.size],_,_,H1,rfl,I2.kept (t':=s1.toks) λb o e=>uc3 _ e,Rh _ a c (rngS a b c),?_,λb' hb=>?_,q⟩
 ·have e1:a + ((0:Nat):Int) * c=a:=by simp
  have e2:((rngS a b c:Nat):Int) - ((0:Nat):Int)=Builtin.Range.rangeSize a b c:=by unfold rngS;lia
  show IsRangeIter _ _ (a + ((0:Nat):Int) * c) (((rngS a b c:Nat):Int) - ((0:Nat):Int)) c;rw [e1,e2];exact ue4 _ rfl
 ·obtain rfl:b'=(s1.heap.push N).objs.size:=by simpa using hb
  exact I2.fpOk (uo7 _) (I2.hok.fresh (uo7 _))
end
end L2
namespace F2
open PySem L2 PySem.Spec
def O3:List D->M (List D)
 | [.int a,.int b,.int c]=>λt=>if (c≠0/\c.natAbs < 1073741824)/\Builtin.Range.small a b c=true/\0<=Builtin.Range.rangeSize a b c then some ((List.range (rngS a b c)).map (λi:Nat=>D.int (a + i * c)),t) else none
 | _=>fail
def JN (f:M (List D)):M (List D):=bnd f O3
variable {K:PySem.W.Frag}
theorem ItOk.rngC {c:Cf}{H:Hp}(lo st:Int)(n:Nat):ItOk K (Ru lo st n) c H ((List.range n).map (λi:Nat=>D.int (lo + i * st))):=by
 refine ⟨λc' H' i ex hi=>?_,λc' H' i x H'' d ex hd hy=>?_,λc' H' ex=>?_⟩
 ·show i < n;simpa using hi
 ·obtain ⟨rfl,rfl⟩:=hy;rw [ug3] at hd;obtain ⟨k,hk,rfl⟩:=uc6.mp hd;obtain ⟨hlt,ek⟩:=ub1.mp hk;rw [List.getElem_range] at ek;subst ek;exact ⟨rfl,.int _⟩
 ·show n<=_;simp
variable {f:M (List D)}
section
variable {X:Cx}{pos:Pos}{e:Expr}{es:List Expr}
theorem OC {tg:Expr}{p:Pos}(hg:Gl X "range")(hm:X.mg "range" = none)(ha:PA X (e :: es) (RA X.K f))(h1:AR e=false:=by rfl)(h2:AS es=true:=by rfl):PI X tg (.Call (.Name "range" p) (e :: es) [] pos) (RI X.K (JN f)):=
 JA (QL hg hm ha (AW h1) (AQ h2).1) λZ H R z9=>by
  obtain ⟨Oo,c,t,fi,ds,t',eq,k⟩:=z9;obtain ⟨xs,t1,e1,eq⟩:=Af eq;refine ⟨Oo,c,t,fi,xs,t1,e1,λvs H1 c1 f1 s1 rv=>?_⟩;unfold O3 at eq
  split at eq
  ·next a b cc=>
   split at eq
   ·next hs=>
    cases eq
    cases rv with
    | cons r1 rv=>
    cases rv with
    | cons r2 rv=>
    cases rv with
    | cons r3 rv=>
    cases rv
    cases r1
    cases r2
    cases r3
    exact ⟨a,b,cc,rfl,hs.1.1,hs.1.2,hs.2.1,hs.2.2,k _ H1 c1 f1 s1 (ItOk.rngC a cc _)⟩
   ·cases eq
  ·cases eq
end
noncomputable def ED (H:Hp)(a:Addr):Hp:=λb=>if b=a then none else H b
theorem SN {H:Hp}{a:Addr}{o:HO}(h:H a=some o):upd (ED H a) a o=H:=by
 funext b
 by_cases e:b=a
 ·subst e;rw [Ak];exact h.symm
 ·rw [Ah e];unfold ED;rw [if_neg e]
section
variable {K:PySem.W.Frag}{Oo:Addr->Prop}{c:Cf}{t:T}{Z:L2.St}{H:Hp}
theorem FInv.out (f:FInv K Oo c t Z H){i:Nat}{ds:List D}(e:t.env[i]?=some (some (.own ds))){a:Addr}(ha:Z[i]?=some (some (.ref a))) :
 FInv K Oo ⟨c.ι,λb=>c.O b/\b≠a⟩ { t with env:=t.env.set i none } Z (ED H a)/\Stp Oo c H ⟨c.ι,λb=>c.O b/\b≠a⟩ (ED H a):=by
 obtain ⟨a',vs,g1,g2,g3,g4,g5⟩:=f.own i ds e;rw [ha] at g1;injection g1 with g1;injection g1 with g1;injection g1 with g1;subst g1
 have ni:a∉c.ι:=f.s.dis a g2;have ext:Ext c H ⟨c.ι,λb=>c.O b/\b≠a⟩ (ED H a):=by
  refine ⟨λb o hb hn=>?_,λb o hb z=>?_,λk b h=>h⟩
  ·unfold ED;rw [if_neg λz=>hn (by rw [z];exact .inr g2)];exact hb
  ·rcases z with z | z
   ·exact .inl z
   ·exact .inr z.1
 have stp:Stp Oo c H ⟨c.ι,λb=>c.O b/\b≠a⟩ (ED H a):=⟨ext,λb hb=>by unfold ED;rw [if_neg λz=>g3 (by rw [<-z];exact hb)]⟩;have old:∀{j:Nat} {x:Sl},(t.env.set i none)[j]?=some (some x)->j≠i/\t.env[j]?=some (some x):=λ{j x} q=>by
  by_cases h:j=i
  ·subst h;rw [ug9] at q
   split at q
   ·split at q <;> simp at q
   ·contradiction
  ·exact ⟨h,by rw [ue0 (Ne.symm h)] at q;exact q⟩
 refine ⟨⟨⟨f.s.len,f.s.nd,λk b o e1 e2=>?_,λb hb=>?_,λb hb=>f.s.dis b hb.1⟩,by simpa using f.len,λb hb=>⟨f.sub b hb,λz=>g3 (by rw [<-z];exact hb)⟩,λj d q=>?_,λj es q=>?_,λj k es fs b q1 q2 q3 q4=>?_⟩,stp⟩
 ·refine (f.s.obs k b o e1 e2).mono ext ?_;unfold ED;rw [if_neg λz=>ni (by rw [<-z];exact ue1 e1)]
 ·obtain ⟨o,ho⟩:=f.s.trk b hb.1;exact ⟨o,by unfold ED;rw [if_neg hb.2];exact ho⟩
 ·obtain ⟨v,h1,h2⟩:=f.val j d (old q).2;exact ⟨v,h1,h2.mono ext⟩
 ·obtain ⟨nj,q'⟩:=old q;obtain ⟨b,us,k1,k2,k3,k4,k5⟩:=f.own j es q';have nb:b≠a:=λz=>nj (f.inj j i es ds a q' e (by rw [k1,z]) ha);exact ⟨b,us,k1,⟨k2,nb⟩,k3,by unfold ED;rw [if_neg nb];exact k4,k5.mono ext⟩
 ·exact f.inj j k es fs b (old q1).2 (old q2).2 q3 q4
end
noncomputable def Gu (i:Nat):M Out:=λt=>match t.env[i]? with
 | some (some (.own xs))=>some (.ret (.lst xs),{ t with env:=t.env.set i none })
 | _=>none
def GY (f:M (List D)):M Out:=bnd f λds=>ret (.ret (.lst ds))
variable {g:Fn}{fa:Addr}{fd:FuncData}
section
variable {X:Cx}{pos:Pos}{e:Expr}{es:List Expr}
theorem NL (h:PE X e (RF X.K f)):PS X (.Return (some e) pos) (RSg X.K (μF X.K) (GY f)):=
 A9 (HE h) λE Z H z9=>by
  obtain ⟨Oo,c,t,fi,o,t',eq,k⟩:=z9;obtain ⟨ds,t1,e1,eq⟩:=Af eq
  cases eq
  exact ⟨Oo,c,t,fi,ds,_,e1,λp us H1 c1 f1 s1 ru hp=>k Z H1 c1 f1 s1 p us hp ru⟩
theorem P6 (i:Nat){x:Str}{px:Pos}(hN:X.N[i]?=some x:=by rfl)(hv:Vis X.env.scope x:=by walk_at "h")(hd:(x == ("__debug__" : Str))=false:=by decide)
 (hcd:(x == ("__classdict__" : Str))=false:=by decide):PS X (.Return (some (.Name x px)) pos) (RSg X.K (μF X.K) (Gu i)):=
 A9 (HE (Cl hN hv hd hcd)) λE Z H z9=>by
  obtain ⟨Oo,c,t,fi,o,t',eq,k⟩:=z9;unfold Gu at eq
  split at eq
  ·next xs ex=>
   cases eq
   obtain ⟨a,vs,h1,h2,h3,h4,h5⟩:=fi.own i xs ex;refine ⟨.ref a,h1,?_⟩;obtain ⟨f2,s2⟩:=fi.out ex h1;have:=k Z (ED H a) _ f2 s2 a vs (by unfold ED;rw [if_pos rfl]) (h5.mono s2.ext);rw [SN h4] at this;exact this
  ·cases eq
inductive spFF (K:PySem.W.Frag)(f:Fn)(vs:List V)(H:Hp)(Q:VK)(E:XK):Prop where
 | mk (c:Cf) (ds:List D) (S:List Ob) (si:SInv K c S H) (rp:Reps K c H vs ds) (rs:List D) (S':List Ob) (e:f ds S=some (.lst rs,S')) (k:∀p us H' c',SInv K c' S' H'->Stp c.O c H c' H'->(∀b,c'.O b↔c.O b)->Reps K c' H' us rs->H' p=none->Q (.ref p) (upd H' p (.lst us))):spFF K f vs H Q E
def Dp (g:Fn)(f:M (List D)):M (List D):=bnd f λds t=>match g ds t.S with
 | some (.lst rs,S')=>some (rs,{ t with S:=S' })
 | _=>none
theorem Ou {ds:List D}{t:T}{rs:List D}{t':T}(h:(match g ds t.S with | some (.lst rs,S')=>some (rs,{ t with S:=S' }) | _=>none:Option (List D×T))=some (rs,t')):∃S',g ds t.S=some (.lst rs,S')/\t' = { t with S:=S' }:=by
 split at h
 ·next rs' S' e=>cases h;exact ⟨S',e,rfl⟩
 ·cases h
theorem R7 {k:Nat}{ps:List Str}{x:Str}{p:Pos}(F:FnOk X.prog X.w X.K X.mg X.base CX0 k fa fd ps (spFF X.K g))(hr:Room k X.A)(hg:Gl X x)(hm:X.mg x=some (.ref fa))(hk:PySem.W.keepIn X.K (.ref fa)=true)(hb:Binds X.K fd ps [])
 (ha:PA X (e :: es) (RA X.K f)) (hdb:(x == ("__debug__" : Str))=false:=by decide) (h1:AR e=false:=by rfl) (h2:AS es=true:=by rfl) :
 PE X (.Call (.Name x p) (e :: es) [] pos) (RF X.K (Dp g f)):=
 AL (NZ F hr hg hm hk hb .nil Ix ha hdb (AW h1) (AQ h2).1) λZ H Q z9=>by
  obtain ⟨Oo,c,t,fi,rs,t',eq,kk⟩:=z9;obtain ⟨ds,t1,e1,eq⟩:=Af eq;obtain ⟨S',e2,rfl⟩:=Ou eq;refine ⟨Oo,c,t,fi,ds,t1,e1,λvs H1 c1 f1 s1 rvs=>?_⟩;show spFF X.K g (vs++[]) H1 Q E0;rw [uj5];refine ⟨c1,ds,t1.S,f1.s,rvs,rs,S',e2,λp us H' c' si st ho ru hp=>?_⟩;obtain ⟨f2,s2⟩:=f1.after si st ho;exact kk p us H' c' f2 (s1.trans s2) ru hp
end
theorem UV {P:Program}{w:World}{mg:Str->Option Value}{base:Heap}{x qual:Str}{st:Stmt}{N ps:List Str}{k n m:Nat}{g:M Out}(e1:ps.length=n)(e2:N.length=m)(F:Fun K x qual st fa fd)(S:FnScope N ps (Al st))
 (hb:∀(cdv:Value) (A:Around) (outer:List Env) (s:Shared) (H:Hp) (E:XK),Room k (A.deeper (PyProof.Rows.envOfC qual (Al st) s.heap.objs.size fa cdv))->
   PSs (Dl CX0 P w K mg base N qual (Al st) fa cdv A outer s H E).nox (A0 st) (RSg K (μF K) g)):FnOk P w K mg base CX0 (k + 1) fa fd ps (spFF K (fnOf n m g)):=by
 subst e1 e2;have hlen:∀{ds:List D} {S:List Ob} {z:D×List Ob},fnOf ps.length N.length g ds S=some z->ds.length=ps.length:=λ{ds S z} h=>by
  unfold fnOf at h
  split at h
  ·next h1=>exact h1
  ·cases h
 refine F.ok S (λvs H Q E h=>?_) (λcdv A outer s H vs Q E hr h=>?_)
 ·obtain ⟨c,ds,S,si,rs,r,S',e,_⟩:=h;rw [rs.length];exact hlen e
 obtain ⟨c,ds,S0,si,rs,r,S',e,kk⟩:=h;refine ⟨RSg K (μF K) g,hb cdv A outer s H E hr,?_⟩;have hl:=hlen e;unfold fnOf at e;rw [if_pos hl] at e
 cases eg:g ⟨env0 N.length ds,S0⟩ with
 | none=>rw [eg] at e;cases e
 | some p=>
   obtain ⟨o,t⟩:=p;rw [eg] at e;refine ⟨c.O,c,_,GI si rs,o,t,eg,λZ' H' c' f' s'=>?_⟩;obtain ⟨si',ext'⟩:=f'.leave;have st':Stp c.O c H ⟨c'.ι,c.O⟩ H':=⟨s'.ext.trans ext',s'.oo⟩
   cases o with
   | next=>cases e
   | ret d=>
     cases e
     exact λp us hp ru=>kk p us H' _ si' st' (λ_=>Iff.rfl) (ru.mono ext') hp
   | brk=>cases e
   | cont=>cases e
theorem V4 {P:Program}{w:World}{mg:Str->Option Value}{base:Heap}{ps:List Str}{k:Nat}{f:Fn}(e:f=g)(h:FnOk P w K mg base CX0 k fa fd ps (spFF K g)):FnOk P w K mg base CX0 k fa fd ps (spFF K f):=by rw [e];exact h
end F2
namespace L2
open PySem PySem.Spec PyProof.Rows
section
variable {X:Cx}
theorem VB {o:Expr}{to:TE}{apos cpos:Pos}(ho:PE X o to)(hbase:attributeBase o "bit_length" X.env (eval o X.env)=eval o X.env:=by rfl)(hline:(apos.endLine == cpos.line)=true:=by rfl) :
 PE X (.Call (.Attribute o "bit_length" apos) [] [] cpos) (λZ H Q=>to Z H λv H1=>∃i,v = .int i/\Q (.int (Builtin.Int.intBits i:Nat)) H1):=by
 intro pins s Z H Q I h;refine Call_method0 hbase hline (thn (ho pins s Z H _ I h) λu s1 z9=>?_);obtain ⟨v,H1,I1,rv,i,ex,q⟩:=z9;subst ex;obtain ⟨t,rfl⟩:=rv;exact ⟨"int", "int.bit_length",PySem.F.plainAttrs_int,ua4,PySem.F.type_int_bit_length,typeIs_int _ _ _,(λ_ e=>nomatch e),
  method0_gives ua4 PySem.F.entry_int_bit_length (typeIs_int _ _ _) (PySem.F.args_int_bit_length_1 _) (PySem.AutoIntG2.int_bit_length_int_0 i t) ⟨.int (Builtin.Int.intBits i:Nat),H1,I1.tok _,⟨_,rfl⟩,q⟩⟩
end
end L2
namespace F2
open PySem L2 PySem.Spec
def JF:D->M D
 | .int i=>ret (.int (Builtin.Int.intBits i:Nat))
 | _=>fail
section
variable {X:Cx}{pos:Pos}{e:Expr}{es:List Expr}
theorem PF {o:Expr}{f:M D}{apos cpos:Pos}(ho:PE X o (RE X.K f))(hbase:attributeBase o "bit_length" X.env (eval o X.env)=eval o X.env:=by rfl)(hline:(apos.endLine == cpos.line)=true:=by rfl) :
 PE X (.Call (.Attribute o "bit_length" apos) [] [] cpos) (RE X.K (fUn f JF)):=
 AL (VB ho hbase hline) λZ H Q z9=>by
  obtain ⟨Oo,c,t,fi,r,t',eq,k⟩:=z9;obtain ⟨d,t1,e1,eq⟩:=Af eq;refine ⟨Oo,c,t,fi,d,t1,e1,λx H1 c1 f1 s1 rx=>?_⟩;unfold JF at eq
  split at eq
  ·next i=>
   cases eq
   cases rx
   exact ⟨i,rfl,k _ H1 c1 f1 s1 (.int _)⟩
  ·cases eq
end
section
variable {X:Cx}{b elt:Expr}{pos:Pos}
end
end F2
namespace L2
open PySem PySem.Spec PyProof.Rows
end L2
namespace F2
open PySem L2 PySem.Spec
structure ItOk2 (K:PySem.W.Frag)(J:It)(c:Cf)(H:Hp)(ds:List D):Prop where
 go:∀c' H' (i:Nat),Ext c H c' H'->i < ds.length->J.go i H'
 yld:∀c' H' (i:Nat) x H'' d,Ext c H c' H'->ds[i]?=some d->J.yld i H' x H''->∃p vs es,x = .ref p/\H' p=none/\H''=upd H' p (.tup vs)/\d = .tup es/\Reps K c' H' vs es
 stop:∀c' H',Ext c H c' H'->J.stop ds.length H'
inductive RI2 (K:PySem.W.Frag)(f:M (List D))(Z:L2.St)(H:Hp)(R:It->Hp->Prop):Prop where
 | mk (Oo:Addr->Prop) (c:Cf) (t:T) (fi:FInv K Oo c t Z H) (ds:List D) (t':T) (e:f t=some (ds,t')) (k:∀J H' c',FInv K Oo c' t' Z H'->Stp Oo c H c' H'->ItOk2 K J c' H' ds->R J H'):RI2 K f Z H R
section
variable {X:Cx}{pos:Pos}{e:Expr}
end
end F2
namespace L2
open PySem PySem.Spec PyProof.Rows
section
variable {X:Cx}
end
end L2
namespace F2
open PySem L2 PySem.Spec
section
variable {X:Cx}{pos:Pos}{e:Expr}{es:List Expr}
end
end F2
namespace L2
open PySem PySem.Spec PyProof.Rows
section
variable {X:Cx}{e ek:Expr}{p2 pos:Pos}{te:TE}{tk:TO}
end
end L2
namespace F2
open PySem L2 PySem.Spec
section
variable {X:Cx}
end
end F2
namespace L2
open PySem PySem.Spec PyProof.Rows
section
variable {X:Cx}
end
end L2
namespace F2
open PySem L2 PySem.Spec
section
variable {X:Cx}{pos:Pos}
end
end F2
namespace L2
open PySem PySem.Spec PyProof.Rows
theorem LD {x y:Int}(h0:0 < y)(h1:y < 18446744073709551616):Builtin.divisionGoesByPylong x y=false:=by
 unfold Builtin.divisionGoesByPylong;have hl:y.natAbs.log2 < 64:=(Nat.log2_lt (by lia)).mpr (by show y.natAbs < 2 ^ 64;lia);have e:(y == 0)=false:=by rw [beq_eq_false_iff_ne];lia
 simp only [e,uf7,if_false];rw [Bool.and_eq_false_iff];left;rw [decide_eq_false_iff_not];lia
def TW (i j:Int):Prop:=0 < j/\j < 18446744073709551616
section
variable {X:Cx}
theorem Ld {i:Int}(h:i.natAbs < 2 ^ 512):Builtin.Int.intBits i<=2 ^ 20:=by
 unfold Builtin.Int.intBits
 split
 ·exact uo8 _
 ·next z=>
  have hz:i.natAbs≠0:=by
   intro e;have:i=0:=by lia
   subst this;exact z rfl
  have:=(Nat.log2_lt hz).mpr h;lia
def TX (i j:Int):Prop:=i.natAbs < 2 ^ 512/\j.natAbs < 2 ^ 512
theorem Vy:OpR X (binaryOp .Mult) (rI TX λi j=>.int (i * j)):=opI λ_ _ _ _ _ _ _ hc q=>mul_int q (IntMulOk.of_bits (Ld hc.1) (Ld hc.2))
theorem SK:OpR X (binaryOp .FloorDiv) (rI TW λi j=>.int (i / j)):=opI λi j _ _ _ _ _ hc q=>by
 have h1:(0:Int) < j:=hc.1;exact floordiv_int (by lia) (by rw [ua5 i (by lia)];exact q) (.inl (LD hc.1 hc.2))
end
end L2
namespace F2
open PySem L2 PySem.Spec
noncomputable def Mm (i j:Int):Bool:=decide (0 < j) && decide (j < 18446744073709551616)
def Ie:=i2C Mm λi j=>.int (i / j)
theorem Q2 {K:PySem.W.Frag}:A8 K (rI TW λi j=>.int (i / j)) Ie:=Fp (λi j h=>by
 unfold Mm at h;rw [uh9,uh2,uh2] at h;exact h) λ_ _ _ _=>.int _
noncomputable def MK (i j:Int):Bool:=decide (i.natAbs < 2 ^ 512) && decide (j.natAbs < 2 ^ 512)
def Jk:=i2C MK λi j=>.int (i * j)
theorem Tt {K:PySem.W.Frag}:A8 K (rI TX λi j=>.int (i * j)) Jk:=Fp (λi j h=>by
 unfold MK at h;rw [uh9] at h;exact ⟨uh3 h.1,uh3 h.2⟩) λ_ _ _ _=>.int _
end F2
namespace L2
open PySem PySem.Spec PyProof.Rows
section
variable {X:Cx}
end
section
variable {X:Cx}
def Mz (y:V)(xs:List V):Option Nat:=xs.findIdx? λz=>eqV z y
theorem NS {x:V}:∀{xs:List V} {us:List Value},Vals xs us->xs.all Fg=true->us.map (eqU x)=xs.map λy=>eqV y x
 | _,_,.nil,_=>rfl
 | y :: xs,u :: us,.cons r t,f=>by
   rw [um2,uh9] at f;rw [um0,um0,PC r f.1,NS t f.2]
def YD (K:PySem.W.Frag):V->List V->Hp->VK->Prop:=λx vs H Q=>∃p xs y j,x = .ref p/\vs=[y]/\SqL K H p xs/\Fg y=true/\xs.all Fg=true/\Mz y xs=some j/\Q (.int (j:Nat)) H
theorem XZ:MtR X "list.index" (YD X.K):=by
 intro pins s Z H x vs v us Q I rx rv h;obtain ⟨p,xs,y,j,rfl,rfl,hq,fy,fs,hj,q⟩:=h
 cases rx
 obtain ⟨u,rfl,ru⟩:=EN rv;obtain ⟨its,r,pl,hz⟩:=I.list hq;obtain ⟨⟨cl1,dd,dt1,sl⟩,ho,h1,n,h2⟩:=pl.isList;simp only at h1 h2;subst h1 h2;obtain ⟨jl,jt,jn⟩:=ua0.mp hj;have hl:=r.length;have hm:=NS (x:=y) r fs;have at_:∀m (h1:m < its.length) (h2:m < xs.length),eqU y its[m]=eqV xs[m] y:=λm h1 h2=>by
  have e1:(its.map (eqU y))[m]?=some (eqU y its[m]):=by rw [ug3,ub4 h1];rfl
  have e2:(xs.map λz=>eqV z y)[m]?=some (eqV xs[m] y):=by rw [ug3,ub4 h2];rfl
  rw [hm,e2] at e1;exact (uj2 e1).symm
 have hs:its.toArray.size=its.length:=by simp
 refine call_meets PySem.F.slot_list_index ⟨_,ho,rfl⟩ PySem.F.entry_list_index (PySem.F.args_list_index_2 _ _) (SeqAt.list_indexAt p its.toArray n dd sl u (eqU y) j (by lia) ?_ ?_ ?_) ⟨ho,λw hw=>MJ ru fy r fs w (by simpa using hw),⟨.int (j:Nat),H,I.tok _,⟨_,rfl⟩,q⟩⟩
 ·have:sizeLine < 2 ^ 62:=by decide
  lia
 ·rw [List.getElem_toArray,at_ j (by lia) jl];exact jt
 ·intro m hm' hlt;rw [List.getElem_toArray,at_ m (by lia) (by lia)];simpa using jn m hlt
end
section
variable {X:Cx}
end
end L2
namespace F2
open PySem L2 PySem.Spec
def idxM (f:M D)(g:M (List D)):M D:=bnd f λo=>bnd g λas=>match o,as with
 | .lst ds,[y]=>λt=>if GJ y=true/\ds.all GJ=true then (match Mz (toV y) (ds.map toV) with
   | some j=>some (.int (j:Nat),t)
   | none=>none) else none
 | _,_=>fail
theorem RE.idxM {K:PySem.W.Frag}{f:M D}{g:M (List D)}{Z:L2.St}{H:Hp}{Q:VK}(q:RE K (F2.idxM f g) Z H Q):tBM K "list" (YD K) (RE K f) (RA K g) Z H Q:=by
 obtain ⟨Oo,c,t,fi,r,t',eq,k⟩:=q;obtain ⟨d,t1,e1,eq⟩:=Af eq;obtain ⟨as,t2,e2,eq⟩:=Af eq;refine ⟨Oo,c,t,fi,d,t1,e1,λv H1 c1 f1 s1 rv=>?_⟩
 split at eq
 ·next ds y=>
  cases rv with
  | @lst p vs ds h1 h2 h3=>
  refine ⟨.inl ⟨rfl,vs,SqL.of h1⟩,Oo,c1,t1,f1,_,t2,e2,λus H2 c2 f2 s2 rus=>?_⟩;obtain ⟨w,rfl,rw'⟩:=DT rus;have rv2:=(Rep.lst h1 h2 h3).mono s2.ext
  cases rv2 with
  | @lst _ ws _ h1 h2 h3=>
  split at eq
  ·next hf=>
   split at eq
   ·next j ej=>
    cases eq
    refine ⟨p,ws,w,j,rfl,rfl,SqL.of h1,?_,?_,?_,k _ _ c2 f2 (s1.trans s2) (.int _)⟩
    ·rw [KY rw' hf.1];exact Mx _
    ·rw [Jr h3 hf.2,List.all_map,ui2];exact λd _=>Mx d
    ·rw [KY rw' hf.1,Jr h3 hf.2];exact ej
   ·cases eq
  ·cases eq
 ·cases eq
section
variable {X:Cx}{pos:Pos}{e:Expr}{es:List Expr}
theorem R4 {o e:Expr}{es:List Expr}{f:M D}{g:M (List D)}{apos cpos:Pos}(ho:PE X o (RE X.K f))(ha:PA X (e :: es) (RA X.K g))
 (hbase:attributeBase o "index" X.env (eval o X.env)=eval o X.env:=by rfl)
 (hfew:((backTo cpos (starEach (e :: es) X.env)).all (λx=>!x.1) && (backToKw cpos (keywordEach [] X.env)).all (λx=>x.1.isSome) && decide ((e :: es).length + ([]:List Keyword).length + (if ([]:List Keyword).isEmpty then 0 else 1) < 30))=true:=by rfl)
 (hline:(apos.endLine == cpos.line)=true:=by rfl) (hs:starEach (e :: es) X.env=(false,eval e X.env) :: starEach es X.env:=by rfl) (hplain:(backTo cpos (starEach es X.env)).any (·.1)=false:=by rfl) :
 PE X (.Call (.Attribute o "index" apos) (e :: es) [] cpos) (RE X.K (F2.idxM f g)):=
 AL (Kb ub9 PySem.F.slot_list_index PySem.F.type_list_index XZ ho ha hbase hfew hline hs hplain) λ_ _ _ q=>RE.idxM q
end
end F2
namespace L2
open PySem PySem.Spec PyProof.Rows
section
variable {X:Cx}
end
end L2
namespace F2
open PySem L2 PySem.Spec
def Ic:List (Int×M D)->M (List (Key×D))
 | []=>ret []
 | (k,f) :: r=>bnd f λd=>bnd (Ic r) λps=>ret ((.inl k,d) :: ps)
def ES (l:List (Int×M D)):M D:=λt=>bnd (Ic l) (Fm t.S.length) { t with S:=t.S++[.dct []] }
noncomputable def OK:List (Key×D)->Option (List Int)
 | []=>some []
 | (.inl k,_) :: r=>(OK r).map (k :: ·)
 | _=>none
section
variable {K:PySem.W.Frag}{c:Cf}{H:Hp}
theorem KVR.has {us:List (Key×V)}{kvs:List (Key×D)}(r:KVR K c H us kvs)(k:Key):(DM us k).isSome=(AV kvs k).isSome:=by
 unfold KVR at r
 induction r with
 | nil=>rfl
 | @cons p q ps qs h t ih=>
   by_cases hk:p.1=k
   ·have hq:q.1=k:=h.1.symm.trans hk;rw [G5 hk];simp [AV,uk0,hq]
   ·have hq:¬q.1=k:=λz=>hk (h.1.trans z);have:AV (q :: qs) k=AV qs k:=by simp [AV,uk0,hq]
    rw [this,G0 hk];exact ih
end
section
variable {X:Cx}{pos:Pos}{e b:Expr}
theorem PJ:PE X (.Dict [] [] pos) (RE X.K (ES [])):=
 AL SU λZ H Q z9=>by
  obtain ⟨Oo,c,t,fi,r,t',eq,k⟩:=z9;intro p hp;obtain ⟨c1,f1,s1,e1⟩:=fi.newObj (o:=.dct []) (u:=.dK []) hp λc' H' ex hu=>⟨[],hu,.nil⟩;have e2:ES [] t=some (.obj t.S.length,{ t with S:=t.S++[.dct []] }):=by
   simp [ES,Ic,bnd,F2.ret,Fm,AZ]
  rw [e2] at eq
  cases eq
  exact k _ _ c1 f1 s1 (.obj e1)
end
end F2
namespace L2
open PySem PySem.Spec PyProof.Rows
noncomputable def tb (led:Bool)(pl:List Nat):SetTable:={ mask:=7,place:=pl.toArray,dummies:=#[],finger:=0,led:=led,moves:=0,plain:=true }
noncomputable def pls:Nat->List (List Nat)
 | 0=>[[]]
 | k + 1=>(pls k).flatMap λl=>(List.range 8).filterMap λj=>if l.all (· < j) then some (l++[j]) else none
section
variable {P:Program}{w:World}{A:Around}{E:Value->Shared->Prop}{s:Shared}
end
section
variable {P:Program}{w:World}{A:Around}{I:Addr}{fp wr:List Addr}{G:Array GenState->Array GenState->Prop}{n:Nat}{Pr:Nat->Value->Prop}{St:Nat->Shared->Prop}
end
section
variable {P:Program}{w:World}{A:Around}{E:Value->Shared->Prop}{s:Shared}
end
section
variable {prog:Program}{w:World}{A:Around}
end
section
variable {X:Cx}
end
end L2
namespace F2
open PySem L2 PySem.Spec PyProof.Rows
section
variable {X:Cx}{pos:Pos}{e:Expr}
end
end F2
namespace L2
open PySem PySem.Spec PyProof.Rows
section
variable {P:Program}{w:World}{A:Around}{E:Value->Shared->Prop}{s:Shared}
structure ZT (h:Heap)(z TI TO i1 i2 t1 t2:Addr)(n:Nat):Prop where
 zz:IsZip h z TI TO .none
 ti:IsPair h TI (.ref i1) (.ref i2)
 ot:∃a b,IsPair h TO a b
 p1:h.IsTupleIter i1 t1 n
 p2:h.IsTupleIter i2 t2 n
end
section
variable {P:Program}{w:World}{A:Around}{E:Value->Shared->Prop}{s:Shared}
end
noncomputable def Itz (K:PySem.W.Frag)(a b:Addr):It:=
 ⟨λi H=>∃xs ys x y,SqT K H a xs/\SqT K H b ys/\xs[i]?=some x/\ys[i]?=some y,λi H v H'=>∃p x y,v = .ref p/\H p=none/\(∀xs,SqT K H a xs->xs[i]?=some x)/\(∀ys,SqT K H b ys->ys[i]?=some y)/\H'=upd H p (.tup [x,y]),λi H=>∃xs ys,SqT K H a xs/\SqT K H b ys/\(xs.length<=i\/ys.length<=i)⟩
end L2
namespace F2
open PySem L2 PySem.Spec
noncomputable def cU:List D->List D->List D
 | x :: xs,y :: ys=>.tup [x,y] :: cU xs ys
 | _,_=>[]
section
variable {X:Cx}{e a b tg iter elt:Expr}{ifs:List Expr}{pos:Pos}{scope:Scope}{N':List Str}{n:Nat}{fr:List Nat}{f:M (List D)}{st:D->M Unit}{tst:M Bool}{el:M D}
end
def EE (S:List Ob):D->D
 | .tup ds=>.tup (ds.map (Dg S))
 | d=>Dg S d
theorem Lq {K:PySem.W.Frag}{c:Cf}{S:List Ob}{H:Hp}(s:SInv K c S H):∀{vs:List V} {ds:List D},Reps K c H vs ds->FN (ds.map (Dg S))=true->Reps K c0 H vs (ds.map (Dg S))
 | _,_,.nil,_=>.nil
 | _,_,.cons h t,p=>by
   simp only [um0,FN,uh9] at p;exact .cons (BI s h p.1) (Lq s t p.2)
theorem MY {K:PySem.W.Frag}{c:Cf}{S:List Ob}{H:Hp}{v:V}{d:D}(s:SInv K c S H)(r:Rep K c H v d)(p:BN (EE S d)=true):Rep K c0 H v (EE S d):=by
 cases r with
 | tup h n q=>exact .tup h (KA _) (Lq s q (by simpa [EE,BN] using p))
 | @obj a k hk=>exact BI s (.obj hk) p
 | non=>exact BI s .non p
 | bl b=>exact BI s (.bl b) p
 | int b=>exact BI s (.int b) p
 | str b=>exact BI s (.str b) p
 | ty b=>exact BI s (.ty b) p
 | lst h n q=>exact BI s (.lst h n q) p
 | scr h=>exact BI s (.scr h) p
 | dic h n=>exact BI s (.dic h n) p
 | exc a b n f q=>exact BI s (.exc a b n f q) p
def eqT (g:Bool->Bool)(x y:D):M D:=λt=>if (BN (EE t.S x) && BN (EE t.S y))=true then (eqN EQD (EE t.S x) (EE t.S y)).map λb=>(.bl (g b),t) else none
theorem V7 {K:PySem.W.Frag}{g:Bool->Bool}:A8 K (O0 K g) (eqT g):=λ{Oo c t Z H x y dx dy r t' Q} f rx ry eq k=>by
 unfold eqT at eq
 split at eq
 ·next hp=>
  rw [uh9] at hp;obtain ⟨b,e1,e2⟩:=uc6.mp eq
  cases e2
  exact ⟨c0,_,_,b,MY f.s rx hp.1,MY f.s ry hp.2,e1,k _ H c f .refl (.bl (g b))⟩
 ·cases eq
section
variable {X:Cx}{elt:Expr}{pos:Pos}{e:Expr}{es:List Expr}
theorem PK {o:Expr}{f:M D}{g:M (List D)}{apos cpos:Pos}(ho:PE X o (RE X.K f))(ha:PA X (e :: es) (RA X.K g))
 (hbase:attributeBase o "extend" X.env (eval o X.env)=eval o X.env:=by rfl)
 (hfew:((backTo cpos (starEach (e :: es) X.env)).all (λx=>!x.1) && (backToKw cpos (keywordEach [] X.env)).all (λx=>x.1.isSome) && decide ((e :: es).length + ([]:List Keyword).length + (if ([]:List Keyword).isEmpty then 0 else 1) < 30))=true:=by rfl)
 (hline:(apos.endLine == cpos.line)=true:=by rfl) (hs:starEach (e :: es) X.env=(false,eval e X.env) :: starEach es X.env:=by rfl) (hplain:(backTo cpos (starEach es X.env)).any (·.1)=false:=by rfl) :
 PE X (.Call (.Attribute o "extend" apos) (e :: es) [] cpos) (RE X.K (objM Ev f g)):=
 AL (Kb ub9 PySem.F.slot_list_extend PySem.F.type_list_extend NT ho ha hbase hfew hline hs hplain) λ_ _ _ q=>RE.objM N8 q
end
end F2
namespace L2
open PySem PySem.Spec PyProof.Rows
section
variable {X:Cx}{pins:List (Addr×Obj)}{Z:St}{H:Hp}{s:Shared}{a:Addr}{kvs:List (Key×V)}{o:Obj}
end
section
variable {X:Cx}
end
section
variable {X:Cx}
end
end L2
namespace F2
open PySem L2 PySem.Spec SeqAt
def Ph (K:PySem.W.Frag)(H:Hp)(v w:V):Prop:=∃c dv dw,Rep K c H v dv/\Rep K c H w dw/\eqN EQD dv dw=some true
def WO (K:PySem.W.Frag)(H:Hp)(v w:V):Prop:=Ph K H v w\/∃a b us ts,v = .ref a/\w = .ref b/\H a=some (.dK us)/\H b=some (.dK ts)/\us.length=ts.length/\(∀kv∈us,∃n:Int,kv.1=Sum.inl n)/\(∀kv∈ts,∃n:Int,kv.1=Sum.inl n)/\∀kv∈us,∃z,DM ts kv.1=some z/\Ph K H kv.2 z
def dF (K:PySem.W.Frag)(b:Bool):R2:=λx y H Q=>∃p q vs ws,x = .ref p/\y = .ref q/\H p=some (.lst vs)/\H q=some (.lst ws)/\vs.length=ws.length/\(∀(j:Nat) v w,vs[j]?=some v->ws[j]?=some w->WO K H v w)/\Q (.bl b) H
def L4 (S:List Ob)(x y:D):Bool:=BN (Dg S x) && BN (Dg S y) && decide (eqN EQD (Dg S x) (Dg S y)=some true)
def c8 (S:List Ob)(x y:D):Bool:=match x,y with
 | .obj m,.obj n=>match S[m]?,S[n]? with
   | some (.dct kvs),some (.dct lvs)=>kvs.length == lvs.length && (OK kvs).isSome && (OK lvs).isSome && kvs.all (λkv=>match AV lvs kv.1 with | some e=>L4 S kv.2 e | none=>false)
   | _,_=>L4 S x y
 | _,_=>L4 S x y
end F2
namespace F2
open PySem L2 PySem.Spec
section
variable {X:Cx}{pos:Pos}
end
end F2
namespace L2
open PySem PySem.Spec PyProof.Rows
structure ZL (h:Heap)(z TI TO i1 i2 t1 t2:Addr)(n:Nat):Prop where
 zz:IsZip h z TI TO .none
 ti:IsPair h TI (.ref i1) (.ref i2)
 ot:∃a b,IsPair h TO a b
 p1:h.IsListIter i1 t1 n
 p2:h.IsListIter i2 t2 n
end L2
namespace F2
open PySem L2 PySem.Spec
section
variable {X:Cx}{a b:Expr}{pos:Pos}
end
end F2
namespace L2
open PySem PySem.Spec PyProof.Rows PySem.W
section
variable {prog:Program}{w:World}{A:Around}{h:Heap}{g:Array GenState}{d:Drawn}{t:Nat}{os:OsState}{R:Result->Shared->Prop}
variable {nm q:Str}{C N fI:Addr}{bs bm bmB:List Value}{hdct:Bool}{sn:List Str}{sub:List Value}{ab:Bool}{col:Option Bool}{dd:Option Addr}{k0 k1 k2 k3 k5:Option Value}{B newId initId:String}{mN:Str->Option Value}
abbrev excObj (C tp:Addr):Obj:={ cls:=.ref C,data:=.fields #[.ref tp,.none,.none,.none,.bool false,.none] }
abbrev DH (h:Heap)(C:Addr)(us:List Value):Heap:=(h.push { cls:=.type "tuple",data:=.seq us.toArray }).push (excObj C h.objs.size)
theorem Jj (F:ExcBaseFacts B newId initId bmB)(T:OwnTail h bmB bm){us:List Value}(hC:h.get? C=some (excClassObj nm q C N bs bm hdct sn sub ab col dd k0 k1 k2 k3 k5 newId))(hn:h.Ns N mN)(hni:mN "__init__" = some (.ref fI))
 (hb:Looks (model prog w) h (bindSpecial (.ref fI) (.ref (h.objs.size + 1))) (.ref fI,[.ref (h.objs.size + 1)])) (hus:us.length<=sizeLine)
 (hq:codeAny (model prog w) (A.under (.builtin "type.__call__" ⟨.ref C :: us,[]⟩)) (.call (.ref fI) ⟨.ref (h.objs.size + 1) :: us,[]⟩) (InitBack (h.objs.size + 1) R) ⟨DH h C us,g,d,t,os⟩) :
 codeAny (model prog w) A (.call (.ref C) ⟨us,[]⟩) R ⟨h,g,d,t,os⟩:=by
 have c1:=tc_lookup;have c2:=tc_bind (.ref C);have ty:(⟨h,g,d,t,os⟩:Shared).TypeIs (.ref C) "type":=⟨_,hC,rfl⟩;refine codeAny_of_tree ?_;show wpAny _ _ (callAny (.ref C) _) _ _ _
 repeat (any_goals (first
  | assumption
  | with_reducible refine wpAny_loadPart_at hC ?_
  | wp_step))
 refine ⟨rfl,codeAny_call_builtin_at (Code.quiet_builtin _ (by decide +kernel)) entry_typeCall (wpAny_check_type_call_sub hC ?_)⟩
 repeat (first
  | with_reducible refine wpAny_loadPart_at hC ?_
  | with_reducible refine wpAny_madeBy_exc hC ?_
  | wp_step)
 refine codeAny_call_builtin_code (Code.quiet_builtin _ F.quiet) (wpAny_check_new_subT F T hC (codeAny_exc_new_subT F T hC ?_ hus))
 change wpAny _ _ _ _ _ (Shared.mk (DH h C us) g d t os)
 have kp:∀b o,h.get? b=some o->(DH h C us).get? b=some o:=λb o e=>uc3 _ (uc3 _ e);have he:(DH h C us).get? (h.objs.size + 1)=some { cls:=.ref C,data:=.fields #[.ref h.objs.size,.none,.none,.none,.bool false,.none] }:=by heap_get
 have n1:(DH h C us).Ns N mN:=hn.keeps kp;have cC:(Value.ref C :: bm).contains (.ref C)=true:=by simp
 unfold isInstance
 repeat (first
  | with_reducible refine wpAny_loadPart_at he ?_
  | (with_reducible refine wpAny_isSubtype_exc (kp _ _ hC) ?_;rw [cC])
  | wp_step)
 show wpAny _ _ (typeLookup (.ref C) _) _ _ _;refine wpAny_typeLookup_tail (kp _ _ hC) n1 (T.keeps kp) F.mroIs F.init.lookup ?_;rw [hni];refine un0 (up1 ((hb.keeps kp).at ?_));refine up1 (wpAny_call (codeAny_mono hq λr s' z=>?_))
 cases r with
 | error e=>exact z
 | ok f=>
   cases f with
   | ret v=>
     obtain ⟨rfl,z⟩:=z;exact up2 (up2 z)
   | _=>exact z.elim
end
end L2
namespace L2
open PySem PySem.Spec PyProof.Rows PySem.W PySem.Builtin PySem.Builtin.ObjectAttr
theorem QV (self:Value):refuseLoop self "__setattr__" [.type "ValueError",.type "Exception",.type "BaseException",.type "object"]=pure ():=by
 kernel_rfl
abbrev F1 (C P:Addr):List Value:=[.ref C,.ref P,.type "ValueError",.type "Exception",.type "BaseException",.type "object"]
theorem Ke (self:Value)(C P:Addr):refuseLoop self "__setattr__" (F1 C P)=pure ():=by
 rw [F1,refuseLoop_ref,refuseLoop_ref];exact QV self
section
variable {prog:Program}{w:World}{A:Around}{s:Shared}{K:PySem.W.Frag}{x C P tp:Addr}{R:Result->Shared->Prop}{name:Str}{v:Value}{tk:Tok}{cd:ClassData}
theorem Vz (X:K.In s.heap)(hx:s.heap.get? x=some (excObj C tp))(hc:clsIn K C=some cd)(hmr:cd.mro=F1 C P)(ha:findIn K (.ref C) name=some none)
 (h:wpAny (model prog w) A.in1 (storeInOwnDict (.ref x) (.ref C) (.str name tk) name v false) (λfin s'=>match fin with | .done f=>R (.ok f) s' | .again c'=>c'.quiet=true/\codeAny (model prog w) A c' R s') (λe s'=>R (.error e) s') s) :
 codeAny (model prog w) A (.call (.builtin "object.__setattr__") ⟨[.ref x,.str name tk,v],[]⟩) R s:=by
 have SF:=PySem.F.store_object;have I:InstAt s.heap x (excObj C tp) C none:=⟨hx,rfl,rfl,trivial⟩;have ob:Looks (model prog w) s.heap (isInstance (.ref x) (.type "object")) true:=I.type.andThen (looks_mroIn X (by unfold mroIn;rw [hc,Option.bind_some,hmr];rfl));refine codeAny_call_builtin SF.slot.plain SF.entry (@check_slot (model prog w) _ _ s "object.__setattr__" "object" "__setattr__" (.ref x) [.str name tk,v] [] _ SF.kind SF.split ob (SF.args (.ref x) (.str name tk) v) ?_);have mr:Looks (model prog w) s.heap (mroOf (.ref C)) (F1 C P):=by rw [<-hmr];exact (looks_clsIn X hc).andThen .now
 rw [osa_eq,refuse_eq];refine up1 (up1 (I.type.here (up1 (mr.here ?_))));rw [Ke];refine up2 (up1 (I.type.here (up1 ((looks_findIn X ha).here ?_))));exact up1 (up2 h)
theorem Ws {E:Value->Shared->Prop}{Q:Unit->Shared->Prop}(X:K.In s.heap)(hx:s.heap.get? x=some (excObj C tp))(hs:findIn K (.ref C) "__setattr__" = some (some (.builtin "object.__setattr__")))(hc:clsIn K C=some cd)(hmr:cd.mro=F1 C P)(hd:cd.hasDict=true)(ha:findIn K (.ref C) name=some none)
 (h:∀h',(∀b o,b≠x->s.heap.get? b=some o->h'.get? b=some o)->h'.get? x=some { excObj C tp with dict:=some s.heap.objs.size }->h'.Ns1 s.heap.objs.size (λy=>if y=name then some v else none)->Q () { s with heap:=h',toks:=s.toks + 2 }) :
 wpAny (model prog w) A (setAttr (.ref x) name v) Q E s:=by
 have I:InstAt s.heap x (excObj C tp) C none:=⟨hx,rfl,rfl,trivial⟩;refine set_plain X I hs (Vz (s:={ s with toks:=s.toks + 1 }) X hx hc hmr ha ?_);refine up1 (up2 (up1 (up1 (wpAny_loadPart (s:={ s with toks:=s.toks + 1 }) hx (up1 (Looks.here (s:={ s with toks:=s.toks + 1 }) (looks_clsIn X hc) ?_))))));rw [hd,if_neg (by decide)];show wpAny _ _ (alloc _ >>= λdx=>update x _ >>= λ_=>pure (some dx)) _ _ _;have hx1:(s.heap.push emptyDict).get? x=some (excObj C tp):=uc3 _ hx;have hne:s.heap.objs.size≠x:=un5 (un1 hx);refine up1 (wpAny_alloc (s:={ s with toks:=s.toks + 1 }) (up1 (wpAny_update hx1 (up2 ?_))));have hx2:((s.heap.push emptyDict).update x λo=>{ o with dict:=some s.heap.objs.size }).get? x=some { excObj C tp with dict:=some s.heap.objs.size }:=ud6 _ hx1 rfl;have hk:∀b o,b≠x->s.heap.get? b=some o->((s.heap.push emptyDict).update x λo=>{ o with dict:=some s.heap.objs.size }).get? b=some o:=λb o hb e=>(uc5 _ _ (Ne.symm hb)).trans (uc3 _ e);have hdx:((s.heap.push emptyDict).update x λo=>{ o with dict:=some s.heap.objs.size }).get? s.heap.objs.size=some emptyDict:=(uc5 _ _ (Ne.symm hne)).trans (ue4 _ rfl);have n1:((s.heap.push emptyDict).update x λo=>{ o with dict:=some s.heap.objs.size }).Ns1 s.heap.objs.size λ_=>none:=⟨_,#[],_,hdx,rfl,(λe he=>by simp at he),(by simp [UniqKeys]),λ_=>rfl⟩;refine up1 (up2 (up1 ?_));refine wpAny_nsSet1 n1 λh' n2 sb=>?_;obtain ⟨oD,esD,epD,hoD,hdD,hcD⟩:=n2.count (PySem.Within.cons name v (ns:=[]) (λy u=>absurd rfl u));refine up1 (wpAny_lookBehind hoD (by rw [hdD];exact pastItsLine_dict (un3 hcD (by show 1<=_;decide))) ?_);exact up2 (h h' (λb o hb e=>by
  by_cases hb2:b=s.heap.objs.size
  ·subst hb2;exact absurd (un1 e) (ul8 _)
  ·exact (sb.2 b hb2).trans (hk b o hb e)) ((sb.2 x (Ne.symm hne)).trans hx2) n2)
end
end L2
namespace L2
open PySem PySem.Spec PyProof.Rows PySem.W
variable {qx:Bool}
def XRec (qx:Bool)(h:Heap)(x C:Addr)(dx:Option Addr)(tb:Value):Prop:=∃(o:Obj) (vs:Array Value),h.get? x=some o/\o.cls = .ref C/\o.dict=dx/\o.data = .fields vs/\vs[1]?=some tb/\(qx=true->vs[2]?=some .none/\4 < vs.size)
theorem Xc {qx:Bool}{vs:Array Value}{v:Value}(h:qx=true->vs[2]?=some .none/\4 < vs.size):qx=true->(vs.setIfInBounds 1 v)[2]?=some .none/\4 < (vs.setIfInBounds 1 v).size:=λz=>by
 rw [ua1 (by decide),ub5];exact h z
theorem XRec.to {qx:Bool}{h:Heap}{x C:Addr}{dx:Option Addr}{tb:Value}(r:XRec true h x C dx tb):XRec qx h x C dx tb:=by
 obtain ⟨o,vs,h1,h2,h3,h4,h5,h6⟩:=r;exact ⟨o,vs,h1,h2,h3,h4,h5,λ_=>h6 rfl⟩
def XTb (h:Heap)(T:Addr):Prop:=∃(o:Obj) (ts:Array Value),h.get? T=some o/\o.data = .fields ts/\ts[3]?=some .none
structure XKeep (fs ch:List Addr)(h h':Heap):Prop where
 keep:∀b o,b∉ch->b∉fs->h.get? b=some o->h'.get? b=some o
 slot:∀b o,b∉ch->h.get? b=some o->∃sl,h'.get? b=some { o with slots:=sl }
section
variable {M:Model}{A:Around}{E:Value->Shared->Prop}{s:Shared}{env:Env}{outer:List Env}{base:Heap}{L x C:Addr}{dx:Option Addr}{tb:Value}{Q:Unit->Shared->Prop}
theorem FK {o:Obj}{vs:Array Value}(hd:o.data = .fields vs)(f:Array Value->Array Value):(o.mapFields f).data = .fields (f vs)/\(o.mapFields f).cls=o.cls/\(o.mapFields f).dict=o.dict:=by
 obtain ⟨c,d,dt,sl⟩:=o
 cases hd
 exact ⟨rfl,rfl,rfl⟩
end
end L2
namespace L2
open PySem PySem.Spec PyProof.Rows PySem.W
variable {qx:Bool}
abbrev VE:List Value:=[.type "ValueError",.type "Exception",.type "BaseException",.type "object"]
structure XCl (K:PySem.W.Frag)(C:Addr)(bm:List Value):Prop where
 ex:∃cd dd k0 k1 k2 k3 k5,K.lookup C=some { cls:=.type "type",dict:=dd,data:=.cls cd,slots:=#[k0,k1,k2,k3,some (.builtin "ValueError.__new__"),k5] }/\cd.mro = .ref C :: bm/\cd.hasDel=false/\cd.hasDict=true/\nsOkIn K cd.ns=true
 tl:tailIn K VE bm=true
noncomputable def LP (K:PySem.W.Frag)(C:Addr)(bm:List Value):Bool:=tailIn K VE bm && match K.lookup C with
 | some ⟨.type "type",_,.cls cd,sl⟩=>(match sl.toList with
   | [_,_,_,_,some (.builtin n),_]=>n == "ValueError.__new__" && cd.mro == .ref C :: bm && !cd.hasDel && cd.hasDict && nsOkIn K cd.ns
   | _=>false)
 | _=>false
variable {K:PySem.W.Frag}{C:Addr}{bm:List Value}
theorem XCl.of_in (q:LP K C bm=true):XCl K C bm:=by
 unfold LP at q;rw [uh9] at q;refine ⟨?_,q.1⟩;have q:=q.2
 split at q
 ·rename_i dd cd sl ho
  split at q
  ·rename_i k0 k1 k2 k3 n k5 hs;simp only [uh9,beq_iff_eq,Bool.not_eq_true'] at q;obtain ⟨⟨⟨⟨rfl,h1⟩,h2⟩,h3⟩,h4⟩:=q;have hsl:sl=#[k0,k1,k2,k3,some (.builtin "ValueError.__new__"),k5]:=by
    cases sl
    exact congrArg Array.mk hs
   exact ⟨cd,dd,k0,k1,k2,k3,k5,by rw [ho,hsl],h1,h2,h3,h4⟩
  ·cases q
 ·cases q
theorem XCl.obj {K:PySem.W.Frag}{C:Addr}{bm:List Value}{h:Heap}(c:XCl K C bm)(X:K.In h):∃nm q N bs sn sub ab col dd k0 k1 k2 k3 k5,h.get? C=some (excClassObj nm q C N bs bm true sn sub ab col dd k0 k1 k2 k3 k5 "ValueError.__new__")/\h.Ns N (h.nsMap N):=by
 obtain ⟨⟨nm,bs,mro,ns,qn,hd,sn,sub,ab,col,del⟩,dd,k0,k1,k2,k3,k5,h1,h2,h3,h4,h5⟩:=c.ex;dsimp only at h2 h3 h4 h5;subst h2 h3 h4;exact ⟨nm,qn,ns,bs,sn,sub,ab,col,dd,k0,k1,k2,k3,k5,X _ _ h1,.of_isNs (isNs_of_in X h5)⟩
variable {h:Heap}
theorem XCl.tail (c:XCl K C bm)(X:K.In h):OwnTail h VE bm:=tail_of_in X c.tl
theorem XCl.has (c:XCl K C bm)(X:K.In h):(Value.ref C :: bm).contains (.type "BaseException")=true:=by
 rw [List.contains_cons,(c.tail X).hasType (b:=true) (by decide +kernel),Bool.or_true]
section
variable {M:Model}{A:Around}{E:Value->Shared->Prop}{env:Env}{K:PySem.W.Frag}{C:Addr}{bm:List Value}{s:Shared}
theorem Tm {t:Sem Value}{Q:Flow->Shared->Prop}(c:XCl K C bm)(hh:A.handled=none)
 (h:wpAny M A t (λv s1=>∃x dx,v = .ref x/\K.In s1.heap/\XRec qx s1.heap x C dx .none/\E v s1) E s):wpAny M A (raiseStmt env (some t) none) Q E s:=by
 unfold raiseStmt;refine up1 (up3 h (λv s1 q=>?_) λ_ _ z=>z);obtain ⟨x,dx,rfl,X,⟨o,vs,hx,hc,hd,hdt,h1,_⟩,hE⟩:=q;obtain ⟨nm,q,N,bs,sn,sub,ab,col,dd,k0,k1,k2,k3,k5,hC,_⟩:=c.obj X;have hb:=c.has X;obtain ⟨hp,g,d,tk,os⟩:=s1
 repeat (first
  | (with_reducible refine wpAny_loadPart_at hx ?_;rw [hc])
  | with_reducible refine wpAny_loadPart_at hC ?_
  | (with_reducible refine wpAny_isSubtype_exc hC ?_;rw [hb])
  | with_reducible refine up0 hx hdt h1 ?_
  | wp_step)
 exact wpAny_raiseNew_none hh hE
end
def CX1 (qx:Bool)(P:Program)(w:World):CXT:=λouter H s E e s'=>∃(x C:Addr) (dx:Option Addr) (T:Addr) (H':Hp),e = .ref x/\s'.os=s.os/\AllBare s'.gens/\Un (frs outer) [] H H' s.heap s'.heap/\HOk P w H' s'.heap/\
 H' x=some (.ext (F2.XIs qx x C dx))/\s.heap.objs.size<=x/\s.heap.objs.size<=T/\T≠x/\H' T=none/\XRec qx s'.heap x C dx (.ref T)/\XTb s'.heap T/\E (.ref x) dx H'
variable {x:Addr}{dx:Option Addr}
theorem XRec.is {tb:Value}(r:XRec qx h x C dx tb):F2.XIs qx x C dx h:=by
 obtain ⟨o,vs,h1,h2,h3,h4,_,h5⟩:=r;exact ⟨o,vs,h1,h2,h3,h4,h5⟩
theorem XIs.stay {h1 h2:Heap}(r:F2.XIs qx x C dx h1)(k:∀o,h1.get? x=some o->h2.get? x=some o):F2.XIs qx x C dx h2:=by
 obtain ⟨o,vs,e,q⟩:=r;exact ⟨o,vs,k o e,q⟩
theorem Hi {P:Program}{w:World}{H:Hp}(r:F2.XIs qx x C dx h):ObjOk P w H h x (.ext (F2.XIs qx x C dx)):=
 ⟨r,let ⟨o,_,e,_⟩:=r;⟨o,e⟩,λ_ _ q k=>XIs.stay q k⟩
section
variable {X:Cx}{pins:List (Addr×Obj)}{Z:St}{H H':Hp}{s s':Shared}{h':Heap}{x C T:Addr}{dx:Option Addr}{ch:List Addr}
theorem TF (k:XKeep (frs X.stack) ch s.heap h')(hT:∀b∈ch,b=x\/b=T):Un (frs X.stack) (x :: T :: []) H H s.heap h':=by
 have nch:∀b:Addr,b∉(x :: T :: [])->b∉ch:=λb hb z=>hb (by rcases hT b z with rfl | rfl <;> simp);refine ⟨λb o e n hb hx=>k.keep b o (nch b hx) hb e,λb o e n hb hx=>k.slot b o (nch b hx) e,λb o e n _=>n,λb o e hx=>?_,λ_ _ e=>e,λ_ _ _ e=>e,λb ps e=>⟨#[],by rw [e];simp⟩⟩;obtain ⟨sl,q⟩:=k.slot b o (nch b hx) e;exact ⟨_,q⟩
theorem Inv.left (I:Inv X pins Z H s)(hx:H x=some (.ext (F2.XIs qx x C dx)))(hT:H T=none)(nx:X.s₀.heap.objs.size<=x)(nT:X.s₀.heap.objs.size<=T)(k:XKeep (frs X.stack) ch s.heap h')(hc:∀b∈ch,b=x\/b=T)(r:F2.XIs qx x C dx h')
 (oT:∀y c,X.env.cells.lookup y=some c->c≠T) (lT:T≠X.env.locals) (pT:∀p∈X.pn++pins,p.1≠T):Inv X pins Z H { s with heap:=h' }:=by
 have nfr:∀b u,H b=some u->b∉frs X.stack:=λb u e z=>by rw [I.stkFree b z] at e;cases e
 refine I.call (g':=s.gens) (t':=s.toks) (d':=s.drawn) (ch:=[x,T]) (TF k hc) (λb u e=>?_) I.bare λb hb=>?_
 ·by_cases hb:b=x
  ·subst hb;rw [hx] at e;cases e;exact Hi r
  ·refine (I.hok b u e).stay (λc v hcc q=>k.keep c v ?_ ?_ q) (λ_ q=>q) λ_ _ q=>q
   ·intro z;rcases hcc with rfl | hcc
    ·rcases hc c z with q | q
     ·exact hb q
     ·rw [q,hT] at e;cases e
    ·rcases hc c z with q | q
     ·rw [q,hx] at hcc;cases hcc
     ·rw [q,hT] at hcc;cases hcc
   ·rcases hcc with rfl | hcc
    ·exact nfr _ _ e
    ·exact nfr _ _ hcc
 ·have q:b=x\/b=T:=by simpa using hb
  rcases q with rfl | rfl
  ·exact ⟨.inr nx,(λz=>by rw [z,I.free] at hx;cases hx),(λy c e z=>by subst z;rw [I.freeC y c e] at hx;cases hx),λp hp z=>by rw [<-z,(I.pin p hp).2.1] at hx;cases hx⟩
  ·exact ⟨.inr nT,lT,oT,pT⟩
theorem Inv.raised (I:Inv X pins Z H s){E:XK}{e:Value}(q:CX1 qx X.prog X.w X.stack H s E e s'):∃(x C:Addr) (dx:Option Addr) (T:Addr) (H':Hp),e = .ref x/\Inv X pins Z H' s'/\H' x=some (.ext (F2.XIs qx x C dx))/\s.heap.objs.size<=x/\s.heap.objs.size<=T/\T≠x/\H' T=none/\XRec qx s'.heap x C dx (.ref T)/\XTb s'.heap T/\E (.ref x) dx H':=by
 obtain ⟨x,C,dx,T,H',he,os,bare,un,hok,hx,nx,nT,ne,hT,r,tb,q⟩:=q;obtain ⟨hh,g,d,t,os'⟩:=s';obtain rfl:os'=s.os:=os;exact ⟨x,C,dx,T,H',he,I.call (h':=hh) (g':=g) (d':=d) (t':=t) (ch:=[]) un hok bare (λb z=>absurd z (by simp)),hx,nx,nT,ne,hT,r,tb,q⟩
theorem Inv.newT (I:Inv X pins Z H s)(h:s.heap.objs.size<=T):T≠X.env.locals/\(∀y c,X.env.cells.lookup y=some c->c≠T)/\∀p∈X.pn++pins,p.1≠T:=by
 have far:∀b o,s.heap.get? b=some o->b≠T:=λb o e z=>absurd (uf1 (un1 e) h) (by rw [z];exact ul8 _);refine ⟨λz=>absurd I.lt (by rw [<-z];exact Nat.not_lt.mpr h),λy c e=>?_,λp hp=>far _ _ (I.pin p hp).1⟩;obtain ⟨v,o,ho,_⟩:=I.cell y c e;exact far c o ho
end
section
variable {P:Program}{w:World}{K:PySem.W.Frag}{mg:Str->Option Value}{base:Heap}{N:List Str}{qual:Str}{scope:Scope}{f:Addr}{cd:Value}{A:Around}{outer:List Env}{s₀:Shared}{H₀:Hp}{E:XK}
end
end L2
namespace L2
open PySem PySem.Spec PyProof.Rows PySem.W
noncomputable def exO (x C tp:Addr):HO:=.ext λh=>h.get? x=some (excObj C tp)
noncomputable def EY (x C tp dx:Addr):HO:=.ext λh=>h.get? x=some { excObj C tp with dict:=some dx }
theorem Mq {P:Program}{w:World}{H:Hp}{h:Heap}{x C tp:Addr}(e:h.get? x=some (excObj C tp)):ObjOk P w H h x (exO x C tp):=⟨e,⟨_,e⟩,λ_ _ p k=>k _ p⟩
theorem UI {P:Program}{w:World}{H:Hp}{h:Heap}{x C tp dx:Addr}(e:h.get? x=some { excObj C tp with dict:=some dx }):ObjOk P w H h x (EY x C tp dx):=⟨e,⟨_,e⟩,λ_ _ p k=>k _ p⟩
structure XAt (K:PySem.W.Frag)(C P:Addr)(f:Str):Prop where
 cl:XCl K C (.ref P :: VE)
 set:findIn K (.ref C) "__setattr__" = some (some (.builtin "object.__setattr__"))
 no:findIn K (.ref C) f=some none
theorem XCl.cls {K:PySem.W.Frag}{C:Addr}{bm:List Value}(c:XCl K C bm):∃cd,clsIn K C=some cd/\cd.mro = .ref C :: bm/\cd.hasDict=true:=by
 obtain ⟨cd,dd,k0,k1,k2,k3,k5,h1,h2,_,h4,_⟩:=c.ex;exact ⟨cd,by unfold clsIn;rw [h1],h2,h4⟩
def sXF (K:PySem.W.Frag)(P:Addr)(ta tv:TE)(f:Str):TS:=λD Z H=>tv Z H λy H1=>ta Z H1 λx H2=>∃a C tp,x = .ref a/\H2 a=some (exO a C tp)/\XAt K C P f/\
 ∀dx,H2 dx=none->dx≠a->D.nx Z (upd (upd H2 dx (.xd [(f,y)])) a (EY a C tp dx))
theorem OY {X:Cx}{P:Addr}{o value:Expr}{ta tv:TE}{f:Str}{pos' pos:Pos}(ha:PE X o ta)(hv:PE X value tv)(hs:swapsWith value (some (.Attribute o f pos')) pos.line X.env=pure false):PS X (.Assign [.Attribute o f pos'] value pos) (sXF X.K P ta tv f):=by
 intro pins s Z H D I h;refine plainObj_wpAny_Assign_Attribute (thn (hv pins s Z H _ I h) λu s1 ⟨y,H1,I1,ry,q⟩=>thn (ha pins s1 Z H1 _ I1 q) λov s2 z9=>?_) hs;obtain ⟨x,H2,I2,rx,a,C,tp,ex,ea,c,q2⟩:=z9;subst ex;obtain rfl:ov=Value.ref a:=rx;obtain ⟨cd,c1,c2,c3⟩:=c.cl.cls;have hx:s2.heap.get? a=some (excObj C tp):=(I2.hok a _ ea).1;refine Ws I2.kIn hx c.set c1 c2 c3 c.no λh' k e n=>?_;have fr:=I2.hok.fresh (uo7 s2.heap.objs.size);have ne:s2.heap.objs.size≠a:=(λz=>by rw [z,ea] at fr;cases fr)
 have nn:∀b u,H2 b=some u->b≠s2.heap.objs.size:=λb u z=>AI z fr;have na:∀b u,s2.heap.get? b=some u->H2 b=none->b≠a:=λb u _ z w'=>by rw [w',ea] at z;cases z
 refine ⟨Z,_,I2.un (h':=h') (t':=s2.toks + 2) ⟨λb u e1 e2 _ _=>k b u (na b u e1 e2) e1,λb u e1 e2 _ _=>⟨u.slots,k b u (na b u e1 e2) e1⟩,λb u e1 e2 _=>?_,λb u e1 _=>?_,λb xs e1=>?_,λb o' u e1=>?_,λb ps e1=>⟨#[],?_⟩⟩ λb u e1=>?_,q2 s2.heap.objs.size fr ne⟩
 ·rw [Ah (na b u e1 e2),Ah (un2 (un1 e1))];exact e2
 ·by_cases hb:b=a
  ·subst hb;exact ⟨_,e⟩
  ·exact ⟨_,k b u hb e1⟩
 ·rw [Ah (λz=>by rw [z,ea] at e1;cases e1),Ah (nn _ _ e1)];exact e1
 ·rw [Ah (λz=>by rw [z,ea] at e1;cases e1),Ah (nn _ _ e1)];exact e1
 ·rw [Ah (λz=>by rw [z,ea] at e1;cases e1),Ah (nn _ _ e1),e1];simp
 ·by_cases hb:b=a
  ·subst hb;rw [Ak] at e1;cases e1;exact UI e
  ·rw [Ah hb] at e1
   by_cases hb2:b=s2.heap.objs.size
   ·subst hb2;rw [Ak] at e1;cases e1
    refine ⟨_,n,λg=>?_⟩
    by_cases hg:g=f
    ·subst hg;simp only [List.lookup,uj0,if_true];exact ry
    ·have hgb:(g == f)=false:=beq_eq_false_iff_ne.mpr hg;simp only [List.lookup,hgb,if_neg hg];trivial
   ·rw [Ah hb2] at e1;refine (I2.hok b u e1).stay (λz v hz q=>k z v ?_ q) (λz q=>?_) λz xs q=>?_
    ·rcases hz with rfl | hz
     ·exact hb
     ·intro w';rw [w',ea] at hz;cases hz
    ·rw [Ah (λz=>by rw [z,ea] at q;cases q),Ah (nn _ _ q)];exact q
    ·rw [Ah (λz=>by rw [z,ea] at q;cases q),Ah (nn _ _ q)];exact q
variable {qx:Bool}
theorem GU {K:PySem.W.Frag}{h:Heap}{N:Addr}{m:Str->Option Value}{n:Str}{v:Value}(X:K.In h)(G:h.Ns N m)(e:nsIn K N n=some (some v)):m n=some v:=by
 obtain ⟨o,es,ep,ho,hd,_,hf⟩:=G;unfold nsIn at e
 split at e
 ·next c d es' n' sl q=>
  have z:=X _ _ q;rw [ho] at z
  cases z
  cases hd
  split at e
  ·next en he=>
   rw [<-hf];unfold nsFind findBy;rw [<-uf4,he];simpa using e
  ·split at e <;> cases e
 ·cases e
structure XMk (K:PySem.W.Frag)(C P f:Addr):Prop where
 cl:XCl K C (.ref P :: VE)
 init:∃cd,clsIn K C=some cd/\nsIn K cd.ns "__init__" = some (some (.ref f))
 fn:isFn K (.ref f)=true
 kp:keepIn K (.ref C)=true
def spI (K:PySem.W.Frag)(P:Addr)(a:Str):Sp:=λvs H Q _=>∃x C tp v,vs=[.ref x,v]/\H x=some (exO x C tp)/\XAt K C P a/\∀dx,H dx=none->dx≠x->Q .non (upd (upd H dx (.xd [(a,v)])) x (EY x C tp dx))
section
variable {X:Cx}{k:Nat}{f C P:Addr}{fd:FuncData}{pins:List (Addr×Obj)}{Z:St}{H:Hp}{s:Shared}{Q:Value->Shared->Prop}{us:List Value}{vs:List V}{a:Str}{ps:List Str}{v:V}{u:Value}
theorem QY (M:XMk X.K C P f)(ha:XAt X.K C P a)(F:FnOk X.prog X.w X.K X.mg X.base CX0 k f fd ps (spI X.K P a))(hr:Room (k + 1) X.A)(hb:Binds X.K fd ps [])(I:Inv X pins Z H s)(r:RelV v u)
 (h:∀s' x dx,Inv X pins Z (upd (upd H dx (.xd [(a,v)])) x (.ext (F2.XIs qx x C (some dx)))) s'->H x=none->H dx=none->dx≠x->s.heap.objs.size<=x->XRec true s'.heap x C (some dx) .none->Q (.ref x) s'):wpAny (model X.prog X.w) X.A (call (.ref C) [u]) Q X.xe s:=by
 obtain ⟨nm,q,N,bs,sn,sub,ab,col,dd,k0,k1,k2,k3,k5,hC,hN⟩:=M.cl.obj I.kIn;have hni:s.heap.nsMap N "__init__" = some (.ref f):=by
  obtain ⟨cd,c1,c2⟩:=M.init;refine GU I.kIn hN ?_;unfold clsIn at c1
  split at c1
  ·next l=>
   cases c1
   have z:=I.kIn _ _ l;rw [hC] at z
   cases z
   exact c2
  ·cases c1
 have I1:Inv X pins Z (upd H (s.heap.objs.size + 1) (exO (s.heap.objs.size + 1) C s.heap.objs.size)) { s with heap:=DH s.heap C [u] }:=by
  refine I.laid (t':=s.toks) (λb o e=>uc3 _ (uc3 _ e)) (uo9 _) (Mq ?_);show ((s.heap.push _).push _).get? _=_
  heap_get
 have hx0:=I.hok.fresh (uo9 s.heap.objs.size);have r2:Vals [V.ref (s.heap.objs.size + 1),v] [Value.ref (s.heap.objs.size + 1),u]:=.cons rfl (.cons r .nil);have hsp:spI X.K P a [V.ref (s.heap.objs.size + 1),v] (upd H (s.heap.objs.size + 1) (exO (s.heap.objs.size + 1) C s.heap.objs.size))
  (λw' H'=>w' = .non/\∃dx,H dx=none/\dx≠s.heap.objs.size + 1/\H'=upd (upd H dx (.xd [(a,v)])) (s.heap.objs.size + 1) (EY (s.heap.objs.size + 1) C s.heap.objs.size dx)) E0:=by
  refine ⟨_,C,s.heap.objs.size,v,rfl,Ak,ha,λdx h1 h2=>⟨rfl,dx,by rw [Ah h2] at h1;exact h1,h2,?_⟩⟩
  funext b
  by_cases e1:b=s.heap.objs.size + 1
  ·subst e1;rw [Ak,Ak]
  ·by_cases e2:b=dx
   ·subst e2;rw [Ah e1,Ah e1,Ak,Ak]
   ·rw [Ah e1,Ah e1,Ah e2,Ah e2,Ah e1]
 have hl:([Value.ref (s.heap.objs.size + 1),u]++[]).length=ps.length:=by
  have e:=F.len _ _ _ _ hsp;simpa using e
 obtain ⟨hh,g,d,t,os⟩:=s;refine wpAny_call (Jj ua8 (M.cl.tail I.kIn) hC hN hni ((bind_fn I.kIn _ (beq_iff_eq.mp M.fn))) (by show 1<=sizeLine;decide) ?_);refine codeAny_mono (F.run _ X.stack _ _ ⟨[Value.ref (hh.objs.size + 1),u],[]⟩ [Value.ref (hh.objs.size + 1),u] _ _ E0 (hr.make C [u] []) (I1.env0.make C [u] []) (by have:=hb _ [Value.ref (hh.objs.size + 1),u] I1.kIn hl;simpa using this) r2 hsp) λr s' hq'=>?_
 cases r with
 | error e=>exact hq'.elim
 | ok fl=>
   cases fl with
   | ret w'=>
     obtain ⟨v',H',I3,rv,rfl,dx,d1,d2,rfl⟩:=I1.after hq';refine ⟨rv,?_⟩;have hx:=(I3.hok (hh.objs.size + 1) _ Ak).1;have hx:s'.heap.get? (hh.objs.size + 1)=some { excObj C hh.objs.size with dict:=some dx }:=hx;have xr:XRec true s'.heap (hh.objs.size + 1) C (some dx) .none:=⟨_,_,hx,rfl,rfl,rfl,rfl,λ_=>⟨rfl,by show 4 < 6;decide⟩⟩;have I4:=I3.write (x:=hh.objs.size + 1) (e:=hh.objs.size + 1) (o:=.ext (F2.XIs qx (hh.objs.size + 1) C (some dx))) (h':=s'.heap) (t':=s'.toks) (by rw [Ak];trivial) (.inl rfl) (λ_ _ _ z=>z) ⟨_,hx⟩ (Hi xr.to.is);rw [K5] at I4;exact h s' (hh.objs.size + 1) dx I4 hx0 d1 d2 (uo9 _) xr
   | next=>exact False.elim hq'
   | brk=>exact False.elim hq'
   | cont=>exact False.elim hq'
end
end L2
namespace L2
open PySem PySem.Spec PyProof.Rows PySem.W
variable {qx:Bool}
section
variable {M:Model}{A:Around}{E:Value->Shared->Prop}{K:PySem.W.Frag}{s:Shared}{x C C':Addr}{bm bm':List Value}{dx:Option Addr}{tb:Value}
theorem MI {Q:Bool->Shared->Prop}(c:XCl K C bm)(c':XCl K C' bm')(X:K.In s.heap)(hx:XRec qx s.heap x C dx tb)(h:Q ((Value.ref C :: bm).contains (.ref C')) s):wpAny M A (excMatches (.ref x) (.ref C')) Q E s:=by
 obtain ⟨nm,q,N,bs,sn,sub,ab,col,dd,k0,k1,k2,k3,k5,hC,_⟩:=c.obj X;obtain ⟨nm',q',N',bs',sn',sub',ab',col',dd',k0',k1',k2',k3',k5',hC',_⟩:=c'.obj X;have hb:=c'.has X;obtain ⟨o,vs,ho,hc,hd,hdt,h1⟩:=hx;obtain ⟨hp,g,d,tk,os⟩:=s;have ty:(⟨hp,g,d,tk,os⟩:Shared).TypeIs (.ref C') "type":=⟨_,hC',rfl⟩;have nt:=tc_notTuple
 cases hbb:(Value.ref C :: bm).contains (.ref C') <;> (
  rw [hbb] at h;unfold excMatches
  repeat (first
   | (with_reducible refine wpAny_loadPart_at ho ?_;rw [hc])
   | with_reducible refine wpAny_loadPart_at hC' ?_
   | (with_reducible refine wpAny_isSubtype_exc hC' ?_;rw [hb])
   | (with_reducible refine wpAny_isSubtype_exc hC ?_;rw [hbb])
   | wp_step)
  exact h)
end
end L2
namespace L2
open PySem PySem.Spec PyProof.Rows PySem.W
variable {qx:Bool}
def RB (h:Heap)(T:Addr)(fl:Value):Prop:=∃(o:Obj) (ts:Array Value),h.get? T=some o/\o.data = .fields ts/\ts[3]?=some fl
section
variable {M:Model}{A:Around}{E:Value->Shared->Prop}{s:Shared}{env:Env}{outer:List Env}{base:Heap}{L x C:Addr}{dx:Option Addr}{tb:Value}{Q:Unit->Shared->Prop}
theorem Lf {hadNext:Bool}{hd:Value}(hfr:A.frames=some (env :: outer))(hl:s.heap.FunFrames base (env :: outer))(hf:env.frame=some L)(hx:XRec qx s.heap x C dx tb)
 (h:∀h' T,s.heap.objs.size<=T->T≠x->XRec qx h' x C dx (.ref T)->RB h' T (rawInt L)->XKeep (frs (env :: outer)) [x] s.heap h'->Q () { s with heap:=h' }) :
 wpAny M A (do let fo <-frameOf env;let at' <-entryPlaceOf L hadNext;let en <-EntryCells.newEntry hd fo .none (rawInt L) .none at';setField (.ref x) 1 en) Q E s:=by
 obtain ⟨ox,vs,gx,cx,dxe,dtx,tbx,xc⟩:=hx;have v1:1 < vs.size:=(ua9.mp tbx).1;have nfr:x∉frs (env :: outer):=λz=>by
  obtain ⟨_,o2,g2,n2⟩:=hl.mem z;rw [gx] at g2;cases g2
  exact n2 vs dtx
 refine up1 (wpAny_frameOf_fun hfr hl hf λh1 so=>?_);refine up1 (wpAny_entryPlaceOf λat' ip=>?_);unfold EntryCells.newEntry newFields;refine up1 (wpAny_newObj_type ?_ (ip.sizeOk5 _ _ _ _ _));generalize hne:(Obj.mk (Value.type "traceback") none (Data.fields ([hd,Value.ref L,Value.none,rawInt L,Value.none]++if at'.isEmpty=true then List.replicate 6 Value.none else at').toArray) #[])=nob;have dn:nob.data = .fields ([hd,Value.ref L,Value.none,rawInt L,Value.none]++if at'.isEmpty=true then List.replicate 6 Value.none else at').toArray:=by rw [<-hne]
 have gx1:h1.get? x=some ox:=(so.2.1 x nfr).trans gx;have gx2:(h1.push nob).get? x=some ox:=uc3 _ gx1;have nex:h1.objs.size≠x:=un5 (un1 gx1);refine wpAny_setField gx2 dtx v1 ?_;obtain ⟨m1,m2,m3⟩:=FK dtx (·.setIfInBounds 1 (Value.ref h1.objs.size));have gx3:=ud6 (Obj.mapFields (·.setIfInBounds 1 (Value.ref h1.objs.size))) gx2 (Obj.isFreed_of_fields m1);have gT2:(h1.push nob).get? h1.objs.size=some nob:=ue4 h1 (Obj.isFreed_of_fields dn);have gT3:=(uc5 (h1.push nob) (Obj.mapFields (·.setIfInBounds 1 (Value.ref h1.objs.size))) (Ne.symm nex)).trans gT2;have vx:(vs.setIfInBounds 1 (Value.ref h1.objs.size))[1]?=some (.ref h1.objs.size):=by simp [v1]
 have old:∀b o,b≠x->h1.get? b=some o->((h1.push nob).update x (Obj.mapFields (·.setIfInBounds 1 (Value.ref h1.objs.size)))).get? b=some o:=λb o hb e=>by
  rw [uc5 _ _ (Ne.symm hb)];exact uc3 _ e
 refine h _ h1.objs.size (un6 so.1.symm) nex ⟨_,_,gx3,m2.trans cx,m3.trans dxe,m1,vx,Xc xc⟩ ⟨_,_,gT3,dn,?_⟩ ⟨λb o hb hbf e=>old b o (λz=>hb (by simp [z])) ((so.2.1 b hbf).trans e),λb o hb e=>?_⟩
 ·rw [List.getElem?_toArray];rfl
 ·obtain ⟨sl,e1⟩:=so.2.2 b o e;exact ⟨sl,old b _ (λz=>hb (by simp [z])) e1⟩
end
structure XOn (qx:Bool)(X:Cx)(pins:List (Addr×Obj))(H:Hp)(s:Shared)(x C:Addr)(dx:Option Addr)(T:Option Addr)(fl:Value):Prop where
 hx:H x=some (.ext (F2.XIs qx x C dx))
 nx:X.s₀.heap.objs.size<=x
 rc:XRec qx s.heap x C dx (match T with | some a=>.ref a | none=>.none)
 tb:∀a,T=some a->a≠x/\H a=none/\X.s₀.heap.objs.size<=a/\(a≠X.env.locals/\(∀y c,X.env.cells.lookup y=some c->c≠a)/\∀p∈X.pn++pins,p.1≠a)/\RB s.heap a fl
 fo:fl = .none\/fl=rawInt X.env.locals
section
variable {M:Model}{A:Around}{Er:Value->Shared->Prop}{X:Cx}{pins:List (Addr×Obj)}{Z:St}{H:Hp}{s:Shared}{x C:Addr}{dx T:Option Addr}{fl:Value}{Q:Unit->Shared->Prop}
theorem EF (fr:Option Addr)(I:Inv X pins Z H s){a:Addr}(o:XOn qx X pins H s x C dx (some a) fl)(hfr:fr=none\/fr=some X.env.locals)
 (k:∀h',Inv X pins Z H { s with heap:=h' }->XOn qx X pins H { s with heap:=h' } x C dx (some a) (fr.elim Value.none λf=>rawInt f)->Q () { s with heap:=h' }):wpAny M A (setFlight (.ref x) fr) Q Er s:=by
 obtain ⟨ox,vs,gx,cx,dxe,dtx,tbx,xc⟩:=id o.rc;obtain ⟨ne,hT,nT,oT,ot,ts,gT,dT,t3⟩:=o.tb a rfl;unfold setFlight;refine up1 (up0 gx dtx tbx ?_);rw [if_pos (show (Value.ref a != Value.none)=true from rfl)];refine wpAny_setField gT dT (ua9.mp t3).1 ?_;obtain ⟨m1,m2,m3⟩:=FK dT (·.setIfInBounds 3 (fr.elim Value.none λf=>rawInt f));have gT2:=ud6 (Obj.mapFields (·.setIfInBounds 3 (fr.elim Value.none λf=>rawInt f))) gT (Obj.isFreed_of_fields m1);have oth:∀b,b≠a->(s.heap.update a (Obj.mapFields (·.setIfInBounds 3 (fr.elim Value.none λf=>rawInt f)))).get? b=s.heap.get? b:=λb z=>uc5 _ _ (Ne.symm z);have rc':XRec qx (s.heap.update a (Obj.mapFields (·.setIfInBounds 3 (fr.elim Value.none λf=>rawInt f)))) x C dx (.ref a):=⟨ox,vs,(oth x (Ne.symm ne)).trans gx,cx,dxe,dtx,tbx,xc⟩;refine k _ (I.left o.hx hT o.nx nT (ch:=[a]) ⟨λb u hb _ e=>(oth b (by simpa using hb)).trans e,λb u hb e=>⟨u.slots,(oth b (by simpa using hb)).trans e⟩⟩ (λb hb=>.inr (by simpa using hb)) rc'.is oT.2.1 oT.1 oT.2.2) ⟨o.hx,o.nx,rc',λa' e=>?_,?_⟩
 ·cases e
  exact ⟨ne,hT,nT,oT,_,_,gT2,m1,by rw [Array.getElem?_setIfInBounds_self,if_pos (ua9.mp t3).1]⟩
 ·rcases hfr with rfl | rfl
  ·exact .inl rfl
  ·exact .inr rfl
theorem FM (hA:A.frames=some X.stack)(I:Inv X pins Z H s)(hs:X.stack=X.env :: X.outer)(hf:X.env.frame=some X.env.locals)(o:XOn qx X pins H s x C dx T fl)
 (k:∀h' a,Inv X pins Z H { s with heap:=h' }->XOn qx X pins H { s with heap:=h' } x C dx (some a) (rawInt X.env.locals)->Q () { s with heap:=h' }):wpAny M A (noteFrame (.ref x) X.env) Q Er s:=by
 obtain ⟨ox,vs,gx,cx,dxe,dtx,tbx,xc⟩:=id o.rc;have fin:∀(s1:Shared) (hh:∃h1,s1 = { s with heap:=h1 }) (ch:List Addr) (h':Heap) (a:Addr),Inv X pins Z H s1->s1.heap.objs.size<=a->a≠x->XRec qx h' x C dx (.ref a)->RB h' a (rawInt X.env.locals)->XKeep (frs (X.env :: X.outer)) [x] s1.heap h'->Q () { s1 with heap:=h' }:=by
  rintro s1 ⟨h1,rfl⟩ ch h' a I1 l1 l2 l3 l4 l5;obtain ⟨o1,o2,o3⟩:=I1.newT l1;have J:=I1.left o.hx (I1.hok.fresh l1) o.nx (un3 I1.sz l1) (ch:=[x]) (hs ▸ l5) (λb hb=>.inl (by simpa using hb)) l3.is o2 o1 o3;exact k h' a J ⟨o.hx,o.nx,l3,λa' e=>by cases e;exact ⟨l2,I1.hok.fresh l1,un3 I1.sz l1,⟨o1,o2,o3⟩,l4⟩,.inr rfl⟩
 unfold noteFrame;simp only [hf];refine up1 (up0 gx dtx tbx ?_)
 cases T with
 | none=>
   rw [if_neg (by decide)];exact Lf (hA.trans (congrArg some hs)) (hs ▸ I.stack) hf o.rc λh' a l1 l2 l3 l4 l5=>fin s ⟨s.heap,rfl⟩ [] h' a I l1 l2 l3 l4 l5
 | some T₀=>
   obtain ⟨ne,hT,nT,oT,ot,ts,gT,dT,t3⟩:=o.tb T₀ rfl;rw [if_pos (show (Value.ref T₀ != Value.none)=true from rfl)];refine up1 (up0 gT dT t3 ?_);rcases o.fo with rfl | rfl
   ·rw [if_neg (show ¬((Value.none == rawInt X.env.locals)=true) from by simp [rawInt])];refine up1 (wpAny_setField gT dT (ua9.mp t3).1 ?_);have oth:∀b,b≠T₀->(s.heap.update T₀ (Obj.mapFields (·.setIfInBounds 3 Value.none))).get? b=s.heap.get? b:=λb z=>uc5 _ _ (Ne.symm z);have rc':XRec qx (s.heap.update T₀ (Obj.mapFields (·.setIfInBounds 3 Value.none))) x C dx (.ref T₀):=⟨ox,vs,(oth x (Ne.symm ne)).trans gx,cx,dxe,dtx,tbx,xc⟩;have J:=I.left o.hx hT o.nx nT (ch:=[T₀]) ⟨λb u hb _ e=>(oth b (by simpa using hb)).trans e,λb u hb e=>⟨u.slots,(oth b (by simpa using hb)).trans e⟩⟩ (λb hb=>.inr (by simpa using hb)) rc'.is oT.2.1 oT.1 oT.2.2;exact Lf (s:={ s with heap:=s.heap.update T₀ (Obj.mapFields (·.setIfInBounds 3 Value.none)) }) (hA.trans (congrArg some hs)) (hs ▸ J.stack) hf rc' λh' a l1 l2 l3 l4 l5=>fin _ ⟨_,rfl⟩ [] h' a J l1 l2 l3 l4 l5
   ·rw [if_pos (show (rawInt X.env.locals == rawInt X.env.locals)=true from by first | (simp;done) | exact uj0 _)];exact up2 (k s.heap T₀ I ⟨o.hx,o.nx,o.rc,o.tb,.inr rfl⟩)
end
def XE (qx:Bool)(X:Cx)(E:St->XK):Value->Shared->Prop:=λe s=>∃pins Z H x C dx T fl,e = .ref x/\Inv X pins Z H s/\XOn qx X pins H s x C dx T fl/\E Z (.ref x) dx H
def Cd (CX:CXT)(X:Cx)(E:St->XK):Prop:=∀(pins:List (Addr×Obj)) (Z:St) (H:Hp) (s:Shared) (e:Value) (s':Shared),Inv X pins Z H s->CX X.stack H s (E Z) e s'->X.xe e s'
section
variable {M:Model}{X:Cx}{E:St->XK}
theorem XE.own (hs:X.stack=X.env :: X.outer)(hf:X.env.frame=some X.env.locals):PassesOwn M X.A X.env (XE qx X E):=by
 rintro e s ⟨pins,Z,H,x,C,dx,T,fl,rfl,I,o,q⟩;refine FM I.ok.frames I hs hf o λh' a I' o'=>?_;obtain ⟨ox,vs,gx,cx,dxe,dtx,tbx,xc⟩:=id o'.rc;unfold cameBackBy;refine up1 (up0 gx dtx tbx ?_);rw [if_neg (show ¬((Value.ref a == Value.none)=true) from by intro z;cases z)]
 rw [hf];exact EF _ I' o' (.inr rfl) λh'' I'' o''=>⟨pins,Z,H,x,C,dx,some a,_,rfl,I'',o'',q⟩
theorem XE.pass:Cd (CX1 qx X.prog X.w) (X.wish (XE qx X E)) E:=by
 intro pins Z H s e s' I q;obtain ⟨x,C,dx,T,H',rfl,J,hx,nx,nT,ne,hT,r,tb,q⟩:=I.unwish.raised q;exact ⟨pins,Z,H',x,C,dx,some T,.none,rfl,J,⟨hx,un3 I.sz nx,r,λa e=>by cases e;exact ⟨ne,hT,un3 I.sz nT,I.unwish.newT nT,tb⟩,.inl rfl⟩,q⟩
end
section
variable {P:Program}{w:World}{K:PySem.W.Frag}{mg:Str->Option Value}{base:Heap}
abbrev cxX (qx:Bool)(P:Program)(w:World)(K:PySem.W.Frag)(mg:Str->Option Value)(base:Heap)(N:List Str)(qual:Str)(scope:Scope)(f:Addr)(cd:Value)(A:Around)(outer:List Env)(s:Shared)(H:Hp)(E:XK):Cx:=
 (Dl (CX1 qx P w) P w K mg base N qual scope f cd A outer s H E).wish (XE qx (Dl (CX1 qx P w) P w K mg base N qual scope f cd A outer s H E) λ_=>E)
theorem XE.leaves {N:List Str}{qual:Str}{scope:Scope}{f:Addr}{cd:Value}{A:Around}{outer:List Env}{s₀:Shared}{H₀:Hp}{E:XK}{e:Value}{s:Shared}
 (h:XE qx (Dl (CX1 qx P w) P w K mg base N qual scope f cd A outer s₀ H₀ E) (λ_=>E) e s):(Dl (CX1 qx P w) P w K mg base N qual scope f cd A outer s₀ H₀ E).xe e s:=by
 obtain ⟨pins,Z,H,x,C,dx,T,fl,rfl,I,o,q⟩:=h;refine up1 (FM I.ok.frames I rfl rfl o λh' a I' o'=>?_);refine EF none I' o' (.inl rfl) λh'' I'' o''=>?_;obtain ⟨ne,hT,nT,oT,tb⟩:=o''.tb a rfl;exact ⟨x,C,dx,a,H,rfl,I''.os,I''.bare,I''.base,I''.hok,o''.hx,o''.nx,nT,ne,hT,o''.rc,tb,q⟩
theorem Fun.okX {x qual:Str}{st:Stmt}{f:Addr}{fd:FuncData}{N ps:List Str}{k:Nat}{sp:Sp}(F:Fun K x qual st f fd)(S:FnScope N ps (Al st))(len:∀vs H Q E,sp vs H Q E->vs.length=ps.length)
 (hbody:∀(cdv:Value) (A:Around) (outer:List Env) (s:Shared) (H:Hp) (vs:List V) (Q:VK) (E:XK),Room k (A.deeper (envOfC qual (Al st) s.heap.objs.size f cdv))->sp vs H Q E->
   ∃t,PSs (cxX qx P w K mg base N qual (Al st) f cdv A outer s H E) (A0 st) t/\t { nx:=λ_ H'=>Q .non H',rt:=Q } (start N vs) H):FnOk P w K mg base (CX1 qx P w) (k + 1) f fd ps sp:=by
 obtain ⟨oc,od,kV,doc,pm,an,cdv,ct,osl,rfl,lk,hcd⟩:=F.ex;refine T4 lk hcd S len λA outer s H vs Q E hr hsp=>?_;obtain ⟨t,h,q⟩:=hbody cdv A outer s H vs Q E hr hsp;exact ⟨t,λpins s1 Z H1 D I hw=>up3 (h pins s1 Z H1 D (I.wish _) hw) (λ_ _ q=>q.unwish) λ_ _ z=>z.leaves,q⟩
theorem FnOk.calm {k:Nat}{f:Addr}{fd:FuncData}{ps:List Str}{sp sp':Sp}(F:FnOk P w K mg base (CX1 qx P w) k f fd ps sp)(h:∀vs H Q E,sp' vs H Q E->sp vs H Q E0):FnOk P w K mg base CX0 k f fd ps sp':=by
 refine ⟨λvs H Q E q=>F.len vs H Q E0 (h _ _ _ _ q),λA outer s H args us vs Q E hr he hb hv hs=>codeAny_mono (F.run A outer s H args us vs Q E0 hr he hb hv (h _ _ _ _ hs)) λr s' q=>?_⟩
 cases r with
 | error e=>obtain ⟨_,_,_,_,_,_,_,_,_,_,_,_,_,_,_,_,_,z⟩:=q;exact z.elim
 | ok fl=>cases fl <;> exact q
end
section
variable {X:Cx}{CX:CXT}{k:Nat}{f:Addr}{fd:FuncData}{ps:List Str}{sp:Sp}{E:St->XK}{x:Str}{p pos:Pos}{e:Expr}{es:List Expr}{t:TA}
def Rb (sp:Sp)(E:St->XK)(t:TA):TE:=λZ H Q=>t Z H λvs H1=>sp vs H1 Q (E Z)
theorem SS (F:FnOk X.prog X.w X.K X.mg X.base CX k f fd ps sp)(hr:Room k X.A)(hg:Gl X x)(hm:X.mg x=some (.ref f))(hk:PySem.W.keepIn X.K (.ref f)=true)(hb:Binds X.K fd ps [])(hx:Cd CX X E)
 (ha:PA X (e :: es) t) (hdb:(x == ("__debug__" : Str))=false:=by decide) (he:starEach (e :: es) X.env=(false,eval e X.env) :: starEach es X.env:=by rfl) (hpl:(backTo pos (starEach es X.env)).any (·.1)=false:=by rfl) :
 PE X (.Call (.Name x p) (e :: es) [] pos) (Rb sp E t):=by
 intro pins s Z H Q I h;refine wpAny_Call_Name_kw (CB I hg hm ?_ hdb);refine uf5 (h₀:=X.base) I.ok.mod.kin hk (thn (ha pos pins s Z H _ I h) λus s1 z9=>?_) he hpl;obtain ⟨vs,H1,I1,r,q⟩:=z9;refine ⟨I1.kIn,?_⟩;have hl:(us++[]).length=ps.length:=by rw [uj5,<-r.length];exact F.len _ _ _ _ q
 refine wpAny_call (codeAny_mono (F.run X.A X.stack s1 H1 ⟨us,[]⟩ us vs Q (E Z) hr I1.env0 (by have:=hb s1 us I1.kIn hl;rwa [uj5] at this) r q) λr s' hq=>?_)
 cases r with
 | error e=>exact hx pins Z H1 s1 e s' I1 hq
 | ok fl=>
   cases fl with
   | ret u=>exact I1.after hq
   | next=>exact False.elim hq
   | brk=>exact False.elim hq
   | cont=>exact False.elim hq
end
end L2
namespace L2
open PySem PySem.Spec PyProof.Rows PySem.W
variable {qx:Bool}
def PM (qx:Bool)(X:Cx)(e:Expr)(C:Addr)(t:St->Hp->(Addr->Option Addr->Hp->Prop)->Prop):Prop:=
 ∀(pins:List (Addr×Obj)) (s:Shared) (Z:St) (H:Hp) (Q:Addr->Option Addr->Hp->Prop),Inv X pins Z H s->t Z H Q->
  wpAny (model X.prog X.w) X.A (eval e X.env) (λv s1=>∃x dx H1,v = .ref x/\Inv X pins Z H1 s1/\H1 x=some (.ext (F2.XIs qx x C dx))/\X.s₀.heap.objs.size<=x/\XRec true s1.heap x C dx .none/\Q x dx H1) X.xe s
def Ft (qx:Bool)(X:Cx)(E:St->XK):Prop:=∀(pins:List (Addr×Obj)) (Z:St) (H:Hp) (s:Shared) (x C:Addr) (dx:Option Addr),Inv X pins Z H s->XOn qx X pins H s x C dx none .none->E Z (.ref x) dx H->X.xe (.ref x) s
theorem XE.raises {X:Cx}{E:St->XK}:Ft qx (X.wish (XE qx X E)) E:=λpins Z H s x C dx I o q=>⟨pins,Z,H,x,C,dx,none,.none,rfl,I.unwish,⟨o.hx,o.nx,o.rc,o.tb,o.fo⟩,q⟩
theorem Jp {X:Cx}{e:Expr}{C:Addr}{bm:List Value}{t:St->Hp->(Addr->Option Addr->Hp->Prop)->Prop}{E:St->XK}{pos:Pos}(hc:X.calm=true)(c:XCl X.K C bm)(hx:Ft qx X E)(h:PM qx X e C t)
 (ho:evalOpt (some e) X.env=some (eval e X.env):=by rfl):PS X (.Raise (some e) none pos) (λ_ Z H=>t Z H λx dx H1=>E Z (.ref x) dx H1):=by
 intro pins s Z H D I q;rw [arm_exec_Raise,ho];refine up1 (wpAny_standAt ?_);refine Tm (qx:=true) c (I.ok.hd hc) ?_;refine up1 (up3 (h pins s Z H _ I q) (λv s1 z9=>?_) λ_ _ z=>z);obtain ⟨x,dx,H1,e1,I1,hx1,nx,r,q1⟩:=z9;subst e1;refine up1 (wpAny_standAt (up2 ⟨x,dx,rfl,I1.kIn,r,hx pins Z H1 s1 x C dx I1 ⟨hx1,nx,r.to,(λa e=>by cases e),.inl rfl⟩ q1⟩))
theorem OS {K:PySem.W.Frag}{h:Heap}{N:Addr}{m:Str->Option Value}{n:Str}(X:K.In h)(G:h.Ns N m)(e:nsIn K N n=some none):m n=none:=by
 obtain ⟨o,es,ep,ho,hd,_,hf⟩:=G;unfold nsIn at e
 split at e
 ·next c d es' n' sl q=>
  have z:=X _ _ q;rw [ho] at z
  cases z
  cases hd
  split at e
  ·cases e
  ·next he=>rw [<-hf];unfold nsFind findBy;rw [<-uf4,he];rfl
 ·cases e
section
variable {prog:Program}{w:World}{A:Around}{E:Value->Shared->Prop}{h:Heap}{g:Array GenState}{d:Drawn}{t:Nat}{os:OsState}{Q:Value->Shared->Prop}
variable {nm q:Str}{C N:Addr}{bs bm bmB:List Value}{hdct:Bool}{sn:List Str}{sub:List Value}{ab:Bool}{col:Option Bool}{dd:Option Addr}{k0 k1 k2 k3 k5:Option Value}{B newId initId:String}{mN:Str->Option Value}
theorem Qp (F:ExcBaseFacts B newId initId bmB)(T:OwnTail h bmB bm){us:List Value}(hC:h.get? C=some (excClassObj nm q C N bs bm hdct sn sub ab col dd k0 k1 k2 k3 k5 newId))(hn:h.Ns N mN)(hni:mN "__init__" = none)(hus:us.length<=sizeLine)
 (hq:∀h' tp,(∀b o,h.get? b=some o->h'.get? b=some o)->h'.get? (h.objs.size + 1)=some (excObj C tp)->Q (.ref (h.objs.size + 1)) ⟨h',g,d,t,os⟩) :
 wpAny (model prog w) A (call (.ref C) us) Q E ⟨h,g,d,t,os⟩:=by
 have c1:=tc_lookup;have c2:=tc_bind (.ref C);have ty:(⟨h,g,d,t,os⟩:Shared).TypeIs (.ref C) "type":=⟨_,hC,rfl⟩;refine wpAny_call (codeAny_of_tree ?_);show wpAny _ _ (callAny (.ref C) _) _ _ _
 repeat (any_goals (first
  | assumption
  | with_reducible refine wpAny_loadPart_at hC ?_
  | wp_step))
 refine ⟨rfl,codeAny_call_builtin_at (Code.quiet_builtin _ (by decide +kernel)) entry_typeCall (wpAny_check_type_call_sub hC ?_)⟩
 repeat (first
  | with_reducible refine wpAny_loadPart_at hC ?_
  | with_reducible refine wpAny_madeBy_exc hC ?_
  | wp_step)
 refine codeAny_call_builtin_code (Code.quiet_builtin _ F.quiet) (wpAny_check_new_subT F T hC (codeAny_exc_new_subT F T hC ?_ hus))
 change wpAny _ _ _ _ _ (Shared.mk (DH h C us) g d t os)
 have kp:∀b o,h.get? b=some o->(DH h C us).get? b=some o:=λb o e=>uc3 _ (uc3 _ e);have he:(DH h C us).get? (h.objs.size + 1)=some { cls:=.ref C,data:=.fields #[.ref h.objs.size,.none,.none,.none,.bool false,.none] }:=by heap_get
 have n1:(DH h C us).Ns N mN:=hn.keeps kp;have cC:(Value.ref C :: bm).contains (.ref C)=true:=by simp
 unfold isInstance
 repeat (first
  | with_reducible refine wpAny_loadPart_at he ?_
  | (with_reducible refine wpAny_isSubtype_exc (kp _ _ hC) ?_;rw [cC])
  | wp_step)
 show wpAny _ _ (typeLookup (.ref C) _) _ _ _;refine wpAny_typeLookup_tail (kp _ _ hC) n1 (T.keeps kp) F.mroIs F.init.lookup ?_;rw [hni];refine un0 (up1 (wpAny_of_eq (F.init.bind _) (up1 (wpAny_call (codeAny_call_builtin F.init.plain F.initEntry (wpAny_check_init_subT F (T.keeps kp) (kp _ _ hC) he rfl ?_))))))
 wp_walk
 refine hq _ ((DH h C us).objs.size) (λb o hb=>?_) ?_
 ·rw [uc5 _ _ (un5 (ug8 (un1 hb)))];exact uc3 _ (kp b o hb)
 ·rw [ud6 _ (uc3 _ he) rfl];rfl
end
section
variable {X:Cx}{k:Nat}{f C P:Addr}{fd:FuncData}{a:Str}{ps:List Str}{n:Str}{p pos:Pos}{e:Expr}{es:List Expr}
theorem Yt {t:TA}(M:XMk X.K C P f)(ha:XAt X.K C P a)(F:FnOk X.prog X.w X.K X.mg X.base CX0 k f fd ps (spI X.K P a))(hr:Room (k + 1) X.A)(hb:Binds X.K fd ps [])(hg:Gl X n)(hm:X.mg n=some (.ref C))(hA:PA X [e] t)
 (hdb:(n == ("__debug__" : Str))=false:=by decide) (h1:starEach [e] X.env=[(false,eval e X.env)]:=by rfl) :
 PM qx X (.Call (.Name n p) [e] [] pos) C (λZ H Q=>t Z H λvs H1=>∃v,vs=[v]/\∀x dx,H1 x=none->H1 dx=none->dx≠x->Q x (some dx) (upd (upd H1 dx (.xd [(a,v)])) x (.ext (F2.XIs qx x C (some dx))))):=by
 intro pins s Z H Q I h;refine wpAny_Call_Name_kw (CB I hg hm ?_ hdb);refine uf5 (h₀:=X.base) I.ok.mod.kin M.kp (thn (hA pos pins s Z H _ I h) λus s1 z9=>?_) h1 rfl;obtain ⟨vs,H1,I1,r,v,ev,q⟩:=z9;refine ⟨I1.kIn,?_⟩;subst ev
 cases r with
 | cons r0 rs=>
   cases rs
   exact QY M ha F hr hb I1 r0 λs' x dx I' hx hdx ne nx rc=>⟨x,some dx,_,rfl,I',Ak,un3 I1.sz nx,rc,q x dx hx hdx ne⟩
theorem VO {t:TA}{bm:List Value}{cd:ClassData}(c:XCl X.K C bm)(hk:keepIn X.K (.ref C)=true)(hcd:clsIn X.K C=some cd)(hni:nsIn X.K cd.ns "__init__" = some none)(hg:Gl X n)(hm:X.mg n=some (.ref C))(ha:PA X (e :: es) t)
 (hdb:(n == ("__debug__" : Str))=false:=by decide) (h1:starEach (e :: es) X.env=(false,eval e X.env) :: starEach es X.env:=by rfl) (hpl:(backTo pos (starEach es X.env)).any (·.1)=false:=by rfl) :
 PM qx X (.Call (.Name n p) (e :: es) [] pos) C (λZ H Q=>t Z H λvs H1=>vs.length<=1000/\∀x,H1 x=none->Q x none (upd H1 x (.ext (F2.XIs qx x C none)))):=by
 intro pins s Z H Q I h;refine wpAny_Call_Name_kw (CB I hg hm ?_ hdb);refine uf5 (h₀:=X.base) I.ok.mod.kin hk (thn (ha pos pins s Z H _ I h) λus s1 z9=>?_) h1 hpl;obtain ⟨vs,H1,I1,r,hl,q⟩:=z9;refine ⟨I1.kIn,?_⟩;obtain ⟨nm,q',N,bs,sn,sub,ab,col,dd,k0,k1,k2,k3,k5,hC,hN⟩:=c.obj I1.kIn;have hni':s1.heap.nsMap N "__init__" = none:=by
  unfold clsIn at hcd
  split at hcd
  ·next l=>
   cases hcd
   have z:=I1.kIn _ _ l;rw [hC] at z
   cases z
   exact OS I1.kIn hN hni
  ·cases hcd
 obtain ⟨hh,g,d,tk,os⟩:=s1;refine Qp ua8 (c.tail I1.kIn) hC hN hni' (by show us.length<=sizeLine;rw [<-r.length];exact un3 hl (by decide)) λh' tp kp ht=>?_;have xr:XRec true h' (hh.objs.size + 1) C none .none:=⟨_,_,ht,rfl,rfl,rfl,rfl,λ_=>⟨rfl,by show 4 < 6;decide⟩⟩;exact ⟨_,none,_,rfl,I1.laid (h':=h') (t':=tk) kp (uo9 _) (Hi xr.to.is),Ak,un3 I1.sz (uo9 _),xr,q _ (I1.hok.fresh (uo9 _))⟩
end
end L2
namespace L2
open PySem PySem.Spec PyProof.Rows PySem.W
variable {qx:Bool}
abbrev Cx.mark (X:Cx)(x:Addr):Cx:={ X with A:=X.A.mark (some (.ref x)),calm:=false,xe:=λ_ _=>False }
section
variable {X:Cx}{pins:List (Addr×Obj)}{Z:St}{H:Hp}{s:Shared}{D:Ends}
theorem Inv.mark (I:Inv X pins Z H s)(x:Addr):Inv (X.mark x) pins Z H s:=
 ⟨⟨I.ok.mod,I.ok.kind,I.ok.glob,I.ok.blt,I.ok.above,I.ok.inj,I.ok.has,I.ok.cab,(λz=>by cases z),I.ok.frames,I.ok.stk,I.ok.exf,I.ok.bs,I.ok.bsz,I.ok.noex,I.ok.exfs,I.ok.funs,I.ok.frf⟩,I.os,I.bare,I.base,I.loc,I.cell,I.free,I.freeC,I.pin,I.hok,I.len⟩
theorem Inv.unmark {x:Addr}(J:X.Ok)(I:Inv (X.mark x) pins Z H s):Inv X pins Z H s:=⟨J,I.os,I.bare,I.base,I.loc,I.cell,I.free,I.freeC,I.pin,I.hok,I.len⟩
theorem Inv.repin {pn' pins':List (Addr×Obj)}{xe:Value->Shared->Prop}(I:Inv X pins Z H s)(h:∀p∈pn'++pins',p∈X.pn++pins):Inv { X with pn:=pn',xe:=xe } pins' Z H s:=
 ⟨⟨I.ok.mod,I.ok.kind,I.ok.glob,I.ok.blt,I.ok.above,I.ok.inj,I.ok.has,I.ok.cab,I.ok.hd,I.ok.frames,I.ok.stk,I.ok.exf,I.ok.bs,I.ok.bsz,I.ok.noex,I.ok.exfs,I.ok.funs,I.ok.frf⟩,I.os,I.bare,I.base,I.loc,I.cell,I.free,I.freeC,λp hp=>I.pin p (h p hp),I.hok,I.len⟩
theorem SP.unmark {x:Addr}(J:X.Ok){f:Flow}(h:SP (X.mark x) pins D f s):SP X pins D f s:=by
 cases f with
 | next=>obtain ⟨Z',H',I,q⟩:=h;exact ⟨Z',H',I.unmark J,q⟩
 | brk=>obtain ⟨Z',H',I,q⟩:=h;exact ⟨Z',H',I.unmark J,q⟩
 | cont=>obtain ⟨Z',H',I,q⟩:=h;exact ⟨Z',H',I.unmark J,q⟩
 | ret u=>obtain ⟨v,Z',H',I,r,q⟩:=h;exact ⟨v,Z',H',I.unmark J,r,q⟩
end
def PH (qx:Bool)(X:Cx)(hs:List ExceptHandler)(th:Addr->Addr->Option Addr->TS):Prop:=∀(pins:List (Addr×Obj)) (s:Shared) (Z:St) (H:Hp) (x C:Addr) (dx:Option Addr) (T:Addr) (D:Ends),Inv X pins Z H s->XOn qx X pins H s x C dx (some T) .none->th x C dx D Z H->
 wpAny (model X.prog X.w) X.A (handleBy (.ref x) X.env hs) (SP X pins D) X.xe s
section
variable {X:Cx}{n v:Str}{C':Addr}{bm':List Value}{p pos:Pos}{b₀:Stmt}{suite:List Stmt}{rest:List ExceptHandler}{ts:Addr->TS}{tr:Addr->Addr->Option Addr->TS}{i:Nat}
def bJ (K:PySem.W.Frag)(C':Addr)(ts:TS)(tr:Addr->Addr->Option Addr->TS):Addr->Addr->Option Addr->TS:=λx C dx D Z H=>∃bm,XCl K C bm/\
 if (Value.ref C :: bm).contains (.ref C')=true then ts D Z H else tr x C dx D Z H
theorem ZW {ts:TS}(hg:Gl X n)(hm:X.mg n=some (.ref C'))(c':XCl X.K C' bm')(hb:∀x,PSs (X.mark x) (b₀ :: suite) ts)(hr:PH qx X rest tr)
 (hdb:(n == ("__debug__" : Str))=false:=by decide):PH qx X (.ExceptHandler (some (.Name n p)) none (b₀ :: suite) pos :: rest) (bJ X.K C' ts tr):=by
 intro pins s Z H x C dx T D I o ⟨bm,c,q⟩;have Im:=I.mark x;refine wpAny_handleBy_cons (codeAny_handlers_test (CB Im hg hm ?_ hdb)) (by intro z;cases z)
 refine MI c c' I.kIn o.rc ?_
 cases hc:(Value.ref C :: bm).contains (.ref C') with
 | false=>
   rw [hc,if_neg (by decide)] at q;exact hr pins s Z H x C dx T D I o q
 | true=>
   rw [hc,if_pos rfl] at q;refine codeAny_handlers_suite ?_;refine EF none I o (.inl rfl) λh1 I1 o1=>?_;exact up3 (hb x pins _ _ H _ (I1.mark x) q) (λf s3 z=>z.unmark I.ok) λ_ _ z=>z.elim
theorem Yx {body:List Stmt}{h₀:ExceptHandler}{hs:List ExceptHandler}{tb:(St->XK)->TS}{th:Addr->Addr->Option Addr->TS}(h1:X.stack=X.env :: X.outer)(h2:X.env.frame=some X.env.locals)
 (hb:∀(pn:List (Addr×Obj)) (E:St->XK),PSs { X with pn:=pn,xe:=XE qx { X with pn:=pn } E } body (tb E)) (hh:PH qx X (h₀ :: hs) th) :
 PS X (.Try body (h₀ :: hs) [] [] pos) (λD Z H=>tb (λZ' v dx H'=>∀x C,v = .ref x->H' x=some (.ext (F2.XIs qx x C dx))->(∃h,F2.XIs qx x C dx h)->th x C dx D Z' H') D Z H):=by
 intro pins s Z H D I q;refine wpAny_Try_except ?_;refine up3 (hb (X.pn++pins) _ [] s Z H D (I.repin λp hp=>by simpa using hp) q) (λf s1 z=>?_) λe s1 z=>?_
 ·have back:∀{Z':St} {H':Hp},Inv { X with pn:=X.pn++pins,xe:=XE qx { X with pn:=X.pn++pins } (λZ' v dx H'=>∀x C,v = .ref x->H' x=some (.ext (F2.XIs qx x C dx))->(∃h,F2.XIs qx x C dx h)->th x C dx D Z' H') } [] Z' H' s1->Inv X pins Z' H' s1:=λJ=>J.repin (X:={ X with pn:=X.pn++pins,xe:=_ }) (pn':=X.pn) (pins':=pins) (xe:=X.xe) λp hp=>by simpa using hp
  cases f with
  | next=>obtain ⟨Z',H',J,q'⟩:=z;exact wpAny_execs_nil ⟨Z',H',back J,q'⟩
  | brk=>obtain ⟨Z',H',J,q'⟩:=z;exact ⟨Z',H',back J,q'⟩
  | cont=>obtain ⟨Z',H',J,q'⟩:=z;exact ⟨Z',H',back J,q'⟩
  | ret u=>obtain ⟨w,Z',H',J,r,q'⟩:=z;exact ⟨w,Z',H',back J,r,q'⟩
 ·obtain ⟨pins',Z',H',x,C,dx,T,fl,rfl,J,o,q'⟩:=z;have J1:Inv X pins Z' H' s1:=J.repin (X:={ X with pn:=X.pn++pins }) (pn':=X.pn) (pins':=pins) (xe:=X.xe) λp hp=>by
   simp only [uj1] at hp ⊢;exact .inl hp
  have o1:XOn qx X pins H' s1 x C dx T fl:=⟨o.hx,o.nx,o.rc,λa e=>by
   obtain ⟨z1,z2,z3,⟨y1,y2,y3⟩,z5⟩:=o.tb a e;exact ⟨z1,z2,z3,⟨y1,y2,λp hp=>y3 p (by simp only [uj1] at hp ⊢;exact .inl hp)⟩,z5⟩,o.fo⟩
  refine FM J1.ok.frames J1 h1 h2 o1 λh' a I' o'=>EF none I' o' (.inl rfl) λh'' I'' o''=>?_;exact hh pins _ Z' H' x C dx a D I'' o'' (q' x C rfl o.hx ⟨_,o.rc.is⟩)
end
end L2
namespace F2
open PySem L2 PySem.Spec
variable {qx:Bool}
noncomputable def A1:D->Bool
 | .exc _ _=>true
 | _=>false
def exE (E:XK)(v:V)(H:Hp):Prop:=∀x dx,v = .ref x->E (.ref x) dx H
section
variable (K:PySem.W.Frag)
inductive RX (E:L2.St->XK)(f:M D)(Z:L2.St)(H:Hp)(Q:VK):Prop where
 | mk (Oo:Addr->Prop) (c:Cf) (t:T) (fi:FInv K Oo c t Z H) (r:D) (t':T) (e:f t=some (r,t')) (k:∀v H' c',FInv K Oo c' t' Z H'->Stp Oo c H c' H'->Rep K c' H' v r->if A1 r=true then exE (E Z) v H' else Q v H'):RX E f Z H Q
def μX (E:XK):Cf->Hp->D->(V->Hp->Prop)->Prop:=λc H r rt=>∀v,Rep K c H v r->if A1 r=true then exE E v H else rt v H
inductive RSX (E:L2.St->XK)(f:M Out)(D:Ends)(Z:L2.St)(H:Hp):Prop where
 | mk (Oo:Addr->Prop) (c:Cf) (t:T) (fi:FInv K Oo c t Z H) (o:Out) (t':T) (e:f t=some (o,t')) (k:∀Z' H' c',FInv K Oo c' t' Z' H'->Stp Oo c H c' H'->
 match (generalizing:=false) o with
 | .next=>D.nx Z' H'
 | .brk=>D.bk Z' H'
 | .cont=>D.ct Z' H'
 | .ret r=>∀v,Rep K c' H' v r->if A1 r=true then exE (E Z') v H' else D.rt v H'):RSX E f D Z H
inductive spX (f:Fn)(vs:List V)(H:Hp)(Q:VK)(E:XK):Prop where
 | mk (c:Cf) (ds:List D) (S:List Ob) (si:SInv K c S H) (rs:Reps K c H vs ds) (r:D) (S':List Ob) (e:f ds S=some (r,S')) (k:∀v H' c',SInv K c' S' H'->Stp c.O c H c' H'->(∀b,c'.O b↔c.O b)->Rep K c' H' v r->if A1 r=true then exE E v H' else Q v H'):spX f vs H Q E
end
def B5 (g:Fn):Fn:=λds S=>match g ds S with
 | some (r,S')=>if A1 r=true then none else some (r,S')
 | none=>none
variable {g:Fn}{r:D}
theorem QA {ds:List D}{S S':List Ob}(h:B5 g ds S=some (r,S')):g ds S=some (r,S')/\A1 r=false:=by
 unfold B5 at h
 split at h
 ·next r' S1 e=>
  by_cases hx:A1 r'=true
  ·rw [if_pos hx] at h;cases h
  ·rw [if_neg hx] at h;cases h;exact ⟨e,by simpa using hx⟩
 ·cases h
variable {fa:Addr}{fd:FuncData}{x:Str}
section
variable {P:Program}{w:World}{K:PySem.W.Frag}{mg:Str->Option Value}{base:Heap}
theorem Ox {k:Nat}{ps:List Str}(F:FnOk P w K mg base (CX1 qx P w) k fa fd ps (spX K g)):FnOk P w K mg base CX0 k fa fd ps (spF K (B5 g)):=
 F.calm λvs H Q E z9=>by
  obtain ⟨c,ds,S,si,rs,r,S',e,kk⟩:=z9;obtain ⟨e1,e2⟩:=QA e;exact ⟨c,ds,S,si,rs,r,S',e1,λv H' c' a1 a2 a3 a4=>by rw [if_neg (by rw [e2];decide)];exact kk v H' c' a1 a2 a3 a4⟩
theorem NJ {qual:Str}{st:Stmt}{N ps:List Str}{k n m:Nat}{g:M Out}(e1:ps.length=n)(e2:N.length=m)(F:Fun K x qual st fa fd)(S:FnScope N ps (Al st))
 (hb:∀(cdv:Value) (A:Around) (outer:List Env) (s:Shared) (H:Hp) (E:XK),Room k (A.deeper (PyProof.Rows.envOfC qual (Al st) s.heap.objs.size fa cdv))->
   Cd (CX1 qx P w) (cxX qx P w K mg base N qual (Al st) fa cdv A outer s H E) (λ_=>E)->Ft qx (cxX qx P w K mg base N qual (Al st) fa cdv A outer s H E) (λ_=>E)->
   PassesOwn (model P w) (cxX qx P w K mg base N qual (Al st) fa cdv A outer s H E).A (cxX qx P w K mg base N qual (Al st) fa cdv A outer s H E).env (cxX qx P w K mg base N qual (Al st) fa cdv A outer s H E).xe->
   PSs (cxX qx P w K mg base N qual (Al st) fa cdv A outer s H E) (A0 st) (RSg K (μX K E) g)):FnOk P w K mg base (CX1 qx P w) (k + 1) fa fd ps (spX K (fnOf n m g)):=by
 subst e1 e2;have hlen:∀{ds:List D} {S:List Ob} {z:D×List Ob},fnOf ps.length N.length g ds S=some z->ds.length=ps.length:=λ{ds S z} h=>by
  unfold fnOf at h
  split at h
  ·next h1=>exact h1
  ·cases h
 refine F.okX S (λvs H Q E h=>?_) (λcdv A outer s H vs Q E hr h=>?_)
 ·obtain ⟨c,ds,S,si,rs,r,S',e,_⟩:=h;rw [rs.length];exact hlen e
 obtain ⟨c,ds,S0,si,rs,r,S',e,kk⟩:=h;refine ⟨RSg K (μX K E) g,hb cdv A outer s H E hr XE.pass XE.raises (XE.own rfl rfl),?_⟩;have hl:=hlen e;unfold fnOf at e;rw [if_pos hl] at e
 cases eg:g ⟨env0 N.length ds,S0⟩ with
 | none=>rw [eg] at e;cases e
 | some p=>
   obtain ⟨o,t⟩:=p;rw [eg] at e;refine ⟨c.O,c,_,GI si rs,o,t,eg,λZ' H' c' f' s'=>?_⟩;obtain ⟨si',ext'⟩:=f'.leave;have st':Stp c.O c H ⟨c'.ι,c.O⟩ H':=⟨s'.ext.trans ext',s'.oo⟩
   cases o with
   | next=>cases e;exact kk .non H' _ si' st' (λ_=>Iff.rfl) .non
   | ret d=>cases e;exact λv rv=>kk v H' _ si' st' (λ_=>Iff.rfl) (rv.mono ext')
   | brk=>cases e
   | cont=>cases e
theorem N6 {ps:List Str}{k:Nat}{f:Fn}(e:f=g)(h:FnOk P w K mg base (CX1 qx P w) k fa fd ps (spX K g)):FnOk P w K mg base (CX1 qx P w) k fa fd ps (spX K f):=by rw [e];exact h
end
variable {f:M D}
section
variable {X:Cx}{e a b:Expr}{es:List Expr}{pos:Pos}{E:L2.St->XK}{st:Stmt}
theorem GZ {E:XK}{f:M Out}(h:PS X st (RSX X.K (λ_=>E) f)):PS X st (RSg X.K (μX X.K E) f):=A9 h λD Z H z9=>by
 obtain ⟨Oo,c,t,fi,o,t',eq,k⟩:=z9;refine ⟨Oo,c,t,fi,o,t',eq,λZ' H' c' f' s'=>?_⟩;have q:=k Z' H' c' f' s'
 cases o <;> exact q
theorem NP {k:Nat}{ps:List Str}{f:M (List D)}{p:Pos}(F:FnOk X.prog X.w X.K X.mg X.base (CX1 qx X.prog X.w) k fa fd ps (spX X.K g))(hr:Room k X.A)(hg:Gl X x)(hm:X.mg x=some (.ref fa))(hk:PySem.W.keepIn X.K (.ref fa)=true)(hb:Binds X.K fd ps [])
 (hx:Cd (CX1 qx X.prog X.w) X E) (ha:PA X (e :: es) (RA X.K f)) (hdb:(x == ("__debug__" : Str))=false:=by decide) (h1:AR e=false:=by rfl) (h2:AS es=true:=by rfl) :
 PE X (.Call (.Name x p) (e :: es) [] pos) (RX X.K E (Ag g f)):=
 AL (SS F hr hg hm hk hb hx ha hdb (AW h1) (AQ h2).1) λZ H Q z9=>by
  obtain ⟨Oo,c,t,fi,r,t',eq,kk⟩:=z9;obtain ⟨ds,t1,e1,eq⟩:=Af eq;obtain ⟨S',e2,rfl⟩:=FZ eq;refine ⟨Oo,c,t,fi,ds,t1,e1,λvs H1 c1 f1 s1 rvs=>?_⟩;refine ⟨c1,ds,t1.S,f1.s,rvs,r,S',e2,λv H' c' si st ho rv=>?_⟩;obtain ⟨f2,s2⟩:=f1.after si st ho;exact kk v H' c' f2 (s1.trans s2) rv
def nxD (f:M D):M D:=bnd f λd=>if A1 d=true then fail else ret d
theorem MO {t t':T}(h:nxD f t=some (r,t')):f t=some (r,t')/\A1 r=false:=by
 obtain ⟨d,t1,e1,h⟩:=Af h
 by_cases hx:A1 d=true
 ·rw [if_pos hx] at h;cases h
 ·rw [if_neg hx] at h;cases h;exact ⟨e1,by simpa using hx⟩
theorem Qb {A B:Prop}(h:A1 r=false)(q:if A1 r=true then A else B):B:=by rw [if_neg (by rw [h];decide)] at q;exact q
def Kz (g:M D)(h:D->M D):M D:=bnd g λy=>if A1 y=true then ret y else nxD (h y)
theorem RX.bind {K:PySem.W.Frag}{g:M D}{h:D->M D}{Z:L2.St}{H:Hp}{Q:VK}{Oo:Addr->Prop}{c:Cf}{t t':T}(fi:FInv K Oo c t Z H)(eq:Kz g h t=some (r,t'))
 (k:∀v H' c',FInv K Oo c' t' Z H'->Stp Oo c H c' H'->Rep K c' H' v r->if A1 r=true then exE (E Z) v H' else Q v H') {R:V->Hp->Prop}
 (s:∀y dy t1 H1 c1,FInv K Oo c1 t1 Z H1->Stp Oo c H c1 H1->Rep K c1 H1 y dy->h dy t1=some (r,t')->(∀v H' c',FInv K Oo c' t' Z H'->Stp Oo c1 H1 c' H'->Rep K c' H' v r->Q v H')->R y H1):RX K E g Z H R:=by
 obtain ⟨dy,t1,e1,eq⟩:=Af eq;refine ⟨Oo,c,t,fi,dy,t1,e1,λy H1 c1 f1 s1 ry=>?_⟩
 by_cases hx:A1 dy=true
 ·rw [if_pos hx] at eq ⊢
  cases eq
  have:=k y H1 c1 f1 s1 ry;rw [if_pos hx] at this;exact this
 ·rw [if_neg hx] at eq ⊢;obtain ⟨e2,e3⟩:=MO eq;exact s y dy t1 H1 c1 f1 s1 ry e2 λv H' c' f' s' rv=>Qb e3 (k v H' c' f' (s1.trans s') rv)
def H9 (f g:M D)(h:D->D->M D):M D:=bnd f λx=>Kz g λy=>h x y
theorem RX.two {K:PySem.W.Frag}{g:M D}{h:D->D->M D}{R:R2}(s:A8 K R h){Z:L2.St}{H:Hp}{Q:VK}(q:RX K E (H9 f g h) Z H Q):tOp R (RE K f) (RX K E g) Z H Q:=by
 obtain ⟨Oo,c,t,fi,r,t',eq,k⟩:=q;obtain ⟨dx,t1,e1,eq⟩:=Af eq;refine ⟨Oo,c,t,fi,dx,t1,e1,λx H1 c1 f1 s1 rx=>?_⟩;exact RX.bind f1 eq (λv H' c' f' s' rv=>k v H' c' f' (s1.trans s') rv) λy dy t2 H2 c2 f2 s2 ry e2 kk=>s f2 (rx.mono s2.ext) ry e2 kk
theorem ZI {op:Operator}{R:R2}{g:M D}{h:D->D->M D}(ho:OpR X (binaryOp op) R)(s:A8 X.K R h)(ha:PE X a (RE X.K f))(hb:PE X b (RX X.K E g)):PE X (.BinOp a op b pos) (RX X.K E (H9 f g h)):=
 AL (OU ho ha hb) λ_ _ _ q=>RX.two s q
def dk (f g:M D)(h:D->D->M D):M D:=Kz f λx=>bnd g λy=>h x y
def c9 (g:Fn)(f:M D):M D:=Kz f λd t=>match g [d] t.S with
 | some (r,S')=>some (r,{ t with S:=S' })
 | none=>none
theorem NN (h:PE X e (RX X.K E f)):PS X (.Return (some e) pos) (RSX X.K E (An f)):=
 A9 (HE h) λD Z H z9=>by
  obtain ⟨Oo,c,t,fi,o,t',eq,k⟩:=z9;obtain ⟨d,t1,e1,eq⟩:=Af eq
  cases eq
  exact ⟨Oo,c,t,fi,d,_,e1,λv H1 c1 f1 s1 rv=>k Z H1 c1 f1 s1 v rv⟩
def CH (i:Nat)(f:M D):M Out:=bnd f λd=>if A1 d=true then ret (.ret d) else bnd (AA i d) λ_=>ret .next
theorem NO {i:Nat}{pos':Pos}(hN:X.N.Nodup)(hi:X.N[i]?=some x)(hx:Loc X.env.scope x)(he:PE X e (RX X.K E f))(hs:swapsWith e (some (.Name x pos')) pos.line X.env=pure false:=by rfl)(hf:X.fn x=true\/X.env.scope.names.lookup x=some .local:=by walk_at "h") :
 PS X (.Assign [.Name x pos'] e pos) (RSX X.K E (CH i f)):=A9 (MT hN hi hx he hs hf) λD Z H z9=>by
 obtain ⟨Oo,c,t,fi,o,t',eq,k⟩:=z9;obtain ⟨d,t1,e1,eq⟩:=Af eq;refine ⟨Oo,c,t,fi,d,t1,e1,λv H1 c1 f1 s1 rv=>?_⟩
 by_cases hx:A1 d=true
 ·rw [if_pos hx] at eq ⊢
  cases eq
  have:=k Z H1 c1 f1 s1 v rv;rw [if_pos hx] at this;exact this
 ·rw [if_neg hx] at eq ⊢
  cases eq
  exact k _ H1 c1 (f1.set rv) s1
def dj (f:M D):M Out:=bnd f λd=>if A1 d=true then ret (.ret d) else ret .next
def dD (f:M D)(g:D->M Unit):M Out:=bnd f λd=>if A1 d=true then ret (.ret d) else bnd (g d) λ_=>ret .next
theorem Se {f:M Out}(h:PS X st (RSX X.K E f)):PSs X [st] (RSX X.K E f):=Go h
end
end F2
namespace L2
open PySem PySem.Spec PyProof.Rows PySem.W PySem.Builtin PySem.Builtin.ObjectAttr
structure XGet (K:PySem.W.Frag)(C:Addr):Prop where
 ga:findIn K (.ref C) "__getattribute__" = some (some (.builtin "BaseException.__getattribute__"))
 gt:findIn K (.ref C) "__getattr__" = some none
 mb:mroIn K C (.type "BaseException")=some true
 mo:mroIn K C (.type "object")=some true
 hd:hasDictIn K C=true
section
variable {prog:Program}{w:World}{A:Around}{E:Value->Shared->Prop}{s:Shared}{K:PySem.W.Frag}{x C:Addr}{ox:Obj}{od:Option Obj}{name:Str}{tk:Tok}{Q:Value->Shared->Prop}{R:Result->Shared->Prop}
theorem PD {fill expr:Bool}(X:K.In s.heap)(I:InstAt s.heap x ox C od)(g:XGet K C)
 (h:codeAny (model prog w) A (.call (.builtin "BaseException.__getattribute__") ⟨[.ref x,.str name tk],[]⟩) (λr s'=>match r with | .ok (.ret v)=>wpAny (model prog w) A (handedOut v) Q E s' | _=>False) s) :
 wpAny (model prog w) A (getAttrBy (.ref x) (.str name tk) fill expr) Q E s:=by
 have L0:=I.type (M:=model prog w);have L1:=looks_findIn (M:=model prog w) X g.ga;have L2:=looks_findIn (M:=model prog w) X g.gt;have ne:(onTheHeap (Value.ref C) && Value.builtin "BaseException.__getattribute__" == Value.builtin "object.__getattribute__")=false:=by
  rw [show (Value.builtin "BaseException.__getattribute__" == Value.builtin "object.__getattribute__")=false from by decide +kernel];rfl
 unfold getAttrBy;refine un0 (up1 (L0.here (up1 (L1.here ?_))));show wpAny _ _ (if (onTheHeap (Value.ref C) && Value.builtin "BaseException.__getattribute__" == Value.builtin "object.__getattribute__")=true then _ else _) _ _ _;rw [if_neg (by rw [ne];decide)];unfold getAttrByItsOwn hookBefore;rw [if_pos (show onTheHeap (Value.ref C)=true from rfl)];refine up1 (L2.here (up1 (wpAny_attempt (un0 ?_))));unfold callGetattribute;rw [if_neg (show ¬((expr && onTheHeap (Value.builtin "BaseException.__getattribute__"))=true) from by cases expr <;> decide)];unfold boundAndCalled;refine up1 (wpAny_of_eq (PySem.F.excAttr_ValueError.ga.bind _) (wpAny_call (codeAny_mono h λr s' z=>?_)))
 cases r with
 | error e=>exact z.elim
 | ok f=>cases f <;> first | exact z | exact z.elim
theorem Sf (X:K.In s.heap)(I:InstAt s.heap x ox C od)(g:XGet K C)
 (h:wpAny (model prog w) A.in1 («object.__getattribute__» ⟨[.ref x,.str name tk],[]⟩) (λfin s'=>match fin with | .done f=>R (.ok f) s' | .again c'=>c'.quiet=true/\codeAny (model prog w) A c' R s') (λe s'=>R (.error e) s') s) :
 codeAny (model prog w) A (.call (.builtin "BaseException.__getattribute__") ⟨[.ref x,.str name tk],[]⟩) R s:=by
 have ob:Looks (model prog w) s.heap (isInstance (.ref x) (.type "BaseException")) true:=I.type.andThen (looks_mroIn X g.mb);refine codeAny_call_builtin PySem.F.excAttr_ValueError.ga.plain PySem.F.entry_bexc_ga (@check_slot (model prog w) _ _ s "BaseException.__getattribute__" "BaseException" "__getattribute__" (.ref x) [.str name tk] [] _ (by decide +kernel) (by decide +kernel) ob (PySem.F.args_bexc_ga (.ref x) (.str name tk)) h)
theorem Sg {v:Value}(X:K.In s.heap)(I:InstAt s.heap x ox C od)(g:XGet K C)(hf:findObj K C od name=some (.value v))(h:R (.ok (.ret v)) s) :
 codeAny (model prog w) A (.call (.builtin "BaseException.__getattribute__") ⟨[.ref x,.str name tk],[]⟩) R s:=by
 refine Sf X I g ?_;have L0:=I.type (M:=model prog w);have L1:=looks_find (M:=model prog w) X I hf;refine up1 (up2 (up1 (up2 (up1 (L0.here (up1 (L1.here ?_)))))));exact up2 h
end
end L2
namespace L2
open PySem PySem.Spec PyProof.Rows PySem.W
end L2
namespace F2
open PySem L2 PySem.Spec PySem.W
variable {qx:Bool}
abbrev Bh:List Str:=["NoValue", "Short", "Broken", "NoTalk"]
structure XM (K:PySem.W.Frag)(mg:Str->Option Value)(P:Addr)(ca:Str->Addr):Prop where
 pm:mg "ParleyError" = some (.ref P)
 pc:XCl K P VE
 ns:∀n∈Bh,nsIn K mainGlobals n=some (some (.ref (ca n)))
 ms:∀n∈Bh,mg n=some (.ref (ca n))
 cl:∀n∈Bh,XCl K (ca n) (.ref P :: VE)
 inj:∀n∈Bh,∀m∈Bh,ca n=ca m->n=m
 np:∀n∈Bh,ca n≠P
 kp:∀n∈Bh,keepIn K (.ref (ca n))=true
 gt:∀n∈Bh,XGet K (ca n)
 gc:∀n∈Bh,findIn K (.ref (ca n)) "__class__" = some (some (.builtin "object.__class__"))
 na:∀n∈Bh,findIn K (.ref (ca n)) "at" = some none
 nd:∀n∈Bh,findIn K (.ref (ca n)) "side" = some none
noncomputable def Fb (n m:Str):Bool:=m == "ParleyError" || m == "ValueError" || n == m
theorem Hf {a b:Addr}{r:List Value}:(Value.ref a :: r).contains (.ref b)=(a == b || r.contains (.ref b)):=by
 rw [List.contains_cons]
 congr 1
 by_cases h:a=b
 ·subst h;simp
 ·rw [beq_eq_false_iff_ne.mpr h,beq_eq_false_iff_ne.mpr (λz:Value.ref b=Value.ref a=>h (Value.ref.inj z).symm)]
theorem WV {b:Addr}:VE.contains (.ref b)=false:=rfl
section
variable {K:PySem.W.Frag}{mg:Str->Option Value}{P:Addr}{ca:Str->Addr}
theorem XM.subE (x:XM K mg P ca){n m:Str}(hn:n∈Bh)(hm:m∈Bh):(Value.ref (ca n) :: .ref P :: VE).contains (.ref (ca m))=Fb n m:=by
 rw [Hf,Hf,WV,beq_eq_false_iff_ne.mpr (Ne.symm (x.np m hm)),um1,um1];have h1:(m == ("ParleyError" : Str))=false/\(m == ("ValueError" : Str))=false:=by
  simp only [Bh,ul9,ui3,or_false] at hm;rcases hm with rfl | rfl | rfl | rfl <;> exact ⟨by decide,by decide⟩
 unfold Fb;rw [h1.1,h1.2,Bool.false_or,Bool.false_or]
 by_cases h:n=m
 ·subst h;rw [uj0,uj0]
 ·rw [beq_eq_false_iff_ne.mpr h,beq_eq_false_iff_ne.mpr λz=>h (x.inj n hn m hm z)]
theorem XM.of (x:XM K mg P ca){n:Str}{C:Addr}(hn:n∈Bh)(h:nsIn K mainGlobals n=some (some (.ref C))):C=ca n:=by
 rw [x.ns n hn] at h;injection h with h;injection h with h;injection h with h
 exact h.symm
end
theorem WN {q1 q2:Bool}{x C C':Addr}{dx dx':Option Addr}(h:XIs q1 x C dx=XIs q2 x C' dx')(e:∃h,XIs q1 x C dx h):C=C'/\dx=dx':=by
 obtain ⟨hh,o,vs,e1,e2,e3,e4⟩:=e;have q:XIs q2 x C' dx' hh:=by rw [<-h];exact ⟨o,vs,e1,e2,e3,e4⟩
 obtain ⟨o',vs',q1,q2,q3,q4⟩:=q;rw [e1] at q1;cases q1
 rw [e2] at q2;cases q2
 exact ⟨rfl,e3.symm.trans q3⟩
section
variable {X:Cx}{e:Expr}{es:List Expr}{pos p pos2:Pos}{E:L2.St->XK}{P:Addr}{ca:Str->Addr}
def XN1 (prog:Program)(w:World)(K:PySem.W.Frag)(mg:Str->Option Value)(base:Heap)(C P:Addr):Prop:=
 ∃(f:Addr) (fd:FuncData) (ps:List Str),XMk K C P f/\XAt K C P "at"/\Binds K fd ps []/\FnOk prog w K mg base CX0 1 f fd ps (spI K P "at")
def MU (n:Str)(f:M (List D)):M Out:=bnd f λds=>match ds with
 | [d]=>ret (.ret (.exc n [d]))
 | _=>fail
theorem P1 {f:M (List D)}(x:XM X.K X.mg P ca)(xn:XN1 X.prog X.w X.K X.mg X.base (ca "NoTalk") P)(hr:L2.Room 2 X.A)(hc:X.calm=true)(hx:Ft qx X E)(hg:Gl X "NoTalk")(ha:PA X [e] (RA X.K f))
 (h1:AR e=false:=by rfl):PS X (.Raise (some (.Call (.Name "NoTalk" p) [e] [] pos)) none pos2) (RSX X.K E (MU "NoTalk" f)):=by
 obtain ⟨fa,fd,ps,M,A,B,F⟩:=xn;have hn:("NoTalk" : Str)∈Bh:=by decide
 refine A9 (Jp hc M.cl hx (Yt M A F hr B hg (x.ms _ hn) ha (by decide) (AW h1))) λD Z H z9=>?_;obtain ⟨Oo,c,t,fi,o,t',eq,k⟩:=z9;obtain ⟨ds,t1,e1,eq⟩:=Af eq;refine ⟨Oo,c,t,fi,ds,t1,e1,λvs H1 c1 f1 s1 rvs=>?_⟩
 match ds,rvs,eq with
 | [],_,eq=>cases eq
 | _ :: _ :: _,_,eq=>cases eq
 | [d],.cons (v:=v0) rv .nil,eq=>
   cases eq
   refine ⟨_,rfl,λy dx hy hdx ne=>?_⟩;have f2:=f1.laid (o:=.xd [("at",v0)]) hdx;have hy2:upd H1 dx (.xd [("at",v0)]) y=none:=by rw [Ah (Ne.symm ne)];exact hy
   have f3:=f2.laid (o:=.ext (XIs qx y (ca "NoTalk") (some dx))) hy2;have s3:=s1.trans ((f1.stp_laid (o:=.xd [("at",v0)]) hdx).trans (f2.stp_laid (o:=.ext (XIs qx y (ca "NoTalk") (some dx))) hy2));refine k Z _ c1 f3 s3 (.ref y) (.exc (x.ns _ hn) Ak (f2.s.free hy2) ?_ (.cons (rv.mono ((f1.stp_laid hdx).ext.trans (f2.stp_laid hy2).ext)) .nil)) y (some dx) rfl;exact ⟨by rw [Ah ne,Ak];rfl,f1.s.free hdx⟩
def XN0 (K:PySem.W.Frag)(C:Addr):Prop:=∃cd,clsIn K C=some cd/\nsIn K cd.ns "__init__" = some none
def FP (n:Str)(f:M (List D)):M Out:=bnd f λds=>if ds.length<=1000 then ret (.ret (.exc n [])) else fail
theorem Li {n:Str}{f:M (List D)}(x:XM X.K X.mg P ca)(hn:n∈Bh)(hf:Jf n=[])(xn:XN0 X.K (ca n))(hc:X.calm=true)(hx:Ft qx X E)(hg:Gl X n)(ha:PA X (e :: es) (RA X.K f))
 (hdb:(n == ("__debug__" : Str))=false:=by decide) (h1:AR e=false:=by rfl) (h2:AS es=true:=by rfl):PS X (.Raise (some (.Call (.Name n p) (e :: es) [] pos)) none pos2) (RSX X.K E (FP n f)):=by
 obtain ⟨cd,hcd,hni⟩:=xn;refine A9 (Jp hc (x.cl n hn) hx (VO (x.cl n hn) (x.kp n hn) hcd hni hg (x.ms _ hn) ha hdb (AW h1) (AQ h2).1)) λD Z H z9=>?_;obtain ⟨Oo,c,t,fi,o,t',eq,k⟩:=z9;obtain ⟨ds,t1,e1,eq⟩:=Af eq;refine ⟨Oo,c,t,fi,ds,t1,e1,λvs H1 c1 f1 s1 rvs=>?_⟩
 split at eq
 ·next hl=>
  cases eq
  refine ⟨by rw [rvs.length];exact hl,λy hy=>?_⟩;have f3:=f1.laid (o:=.ext (XIs qx y (ca n) none)) hy;exact k Z _ c1 f3 (s1.trans (f1.stp_laid hy)) (.ref y) (.exc (x.ns _ hn) Ak (f1.s.free hy) (vs:=[]) rfl .nil) y none rfl
 ·cases eq
end
section
variable {X:Cx}{pos p:Pos}{P:Addr}{ca:Str->Addr}{μ:Cf->Hp->D->(V->Hp->Prop)->Prop}
inductive RH (K:PySem.W.Frag)(ca:Str->Addr)(μ:Cf->Hp->D->(V->Hp->Prop)->Prop)(h:D->M Out)(x C:Addr)(dx:Option Addr)(E:Ends)(Z:L2.St)(H:Hp):Prop where
 | mk (Oo:Addr->Prop) (c:Cf) (t:T) (n:Str) (ds:List D) (fi:FInv K Oo c t Z H) (hn:n∈Bh) (hC:C=ca n) (rp:Rep K c H (.ref x) (.exc n ds)) (o:Out) (t':T) (e:h (.exc n ds) t=some (o,t')) (k:∀Z' H' c',FInv K Oo c' t' Z' H'->Stp Oo c H c' H'->
   match (generalizing:=false) o with
   | .next=>E.nx Z' H'
   | .brk=>E.bk Z' H'
   | .cont=>E.ct Z' H'
   | .ret r=>μ c' H' r E.rt):RH K ca μ h x C dx E Z H
noncomputable def unE (i:Nat)(t:T):T:={ t with env:=t.env.set i none }
theorem FInv.unset {K:PySem.W.Frag}{Oo:Addr->Prop}{c:Cf}{t:T}{Z:L2.St}{H:Hp}(f:FInv K Oo c t Z H)(i:Nat):FInv K Oo c (unE i t) (Z.set i none) H:=by
 have neq:∀{j:Nat} {x:Sl},(t.env.set i none)[j]?=some (some x)->j≠i/\t.env[j]?=some (some x):=λ{j x} q=>by
  by_cases h:j=i
  ·subst h;rw [ug9] at q
   split at q
   ·split at q
    ·injection q with q;cases q
    ·cases q
   ·next h1=>exact absurd rfl h1
  ·rw [ue0 (Ne.symm h)] at q;exact ⟨h,q⟩
 refine ⟨f.s,by simp [unE,f.len],f.sub,λj e q=>?_,λj ds q=>?_,λj k ds es a q1 q2 q3 q4=>?_⟩
 ·obtain ⟨h,q⟩:=neq q;obtain ⟨u,h1,h2⟩:=f.val j e q;exact ⟨u,by rw [ue0 (Ne.symm h)];exact h1,h2⟩
 ·obtain ⟨h,q⟩:=neq q;obtain ⟨a,vs,h1,h2⟩:=f.own j ds q;exact ⟨a,vs,by rw [ue0 (Ne.symm h)];exact h1,h2⟩
 ·obtain ⟨h,q1⟩:=neq q1;obtain ⟨h',q2⟩:=neq q2;rw [ue0 (Ne.symm h)] at q3;rw [ue0 (Ne.symm h')] at q4;exact f.inj j k ds es a q1 q2 q3 q4
def hAs (n':Str)(i:Nat)(s:M Out)(r:D->M Out):D->M Out:=λe t=>match e with
 | .exc n ds=>if Fb n n'=true then (match s { t with env:=t.env.set i (some (.val (.exc n ds))) } with
   | some (o,t2)=>some (o,unE i t2)
   | none=>none) else r (.exc n ds) t
 | _=>none
def hNo (n':Str)(s:M Out)(r:D->M Out):D->M Out:=λe t=>match e with
 | .exc n ds=>if Fb n n'=true then s t else r (.exc n ds) t
 | _=>none
noncomputable def XJ:D->M Out:=λ_ _=>none
theorem Xu:PH qx X [] (RH X.K ca μ XJ):=by
 rintro _ _ _ _ _ _ _ _ _ _ _ ⟨_,_,_,_,_,_,_,_,_,_,_,e,_⟩
 cases e
theorem ZC {n':Str}{C':Addr}{bm':List Value}{b₀:Stmt}{suite:List Stmt}{rest:List ExceptHandler}{s:M Out}{r:D->M Out}(x:XM X.K X.mg P ca)(hg:Gl X n')(hm:X.mg n'=some (.ref C'))(c':XCl X.K C' bm')(hs:∀n∈Bh,(Value.ref (ca n) :: .ref P :: VE).contains (.ref C')=Fb n n')
 (hb:∀x,PSs (X.mark x) (b₀ :: suite) (RSg X.K μ s)) (hr:PH qx X rest (RH X.K ca μ r)) (hdb:(n' == ("__debug__" : Str))=false:=by decide) :
 PH qx X (.ExceptHandler (some (.Name n' p)) none (b₀ :: suite) pos :: rest) (RH X.K ca μ (hNo n' s r)):=by
 intro pins s0 Z H y C dx T D I o q;refine ZW hg hm c' hb hr hdb pins s0 Z H y C dx T D I o ?_;obtain ⟨Oo,c,t,n,ds,fi,hn,rfl,rv,o1,t',eq,k⟩:=q;refine ⟨_,x.cl n hn,?_⟩;rw [hs n hn];unfold hNo at eq;dsimp only at eq
 by_cases hb':Fb n n'=true
 ·rw [if_pos hb'] at eq ⊢;exact ⟨Oo,c,t,fi,o1,t',eq,λZ' H' c2 f2 s2=>by
   have:=k _ H' c2 f2 s2
   cases o1 <;> exact this⟩
 ·rw [if_neg hb'] at eq ⊢;exact ⟨Oo,c,t,n,ds,fi,hn,rfl,rv,o1,t',eq,k⟩
noncomputable def FU (b:M Out)(h:D->M Out):M Out:=λt=>match b t with
 | some (.ret (.exc n ds),t1)=>if n∈Bh then h (.exc n ds) t1 else none
 | z=>z
theorem XC {body:List Stmt}{h₀:ExceptHandler}{hs:List ExceptHandler}{b:M Out}{h:D->M Out}(x:XM X.K X.mg P ca)(hμ:∀c H r rt,A1 r=false->(∀v,Rep X.K c H v r->rt v H)=μ c H r rt)(h1:X.stack=X.env :: X.outer)(h2:X.env.frame=some X.env.locals)
 (hb:∀(pn:List (Addr×Obj)) (E:L2.St->XK),Cd (CX1 qx X.prog X.w) { X with pn:=pn,xe:=XE qx { X with pn:=pn } E } E->PSs { X with pn:=pn,xe:=XE qx { X with pn:=pn } E } body (RSX X.K E b)) (hh:PH qx X (h₀ :: hs) (RH X.K ca μ h)):PS X (.Try body (h₀ :: hs) [] [] pos) (RSg X.K μ (FU b h)):=
 A9 (Yx h1 h2 (λpn E=>hb pn E (XE.pass (X:={ X with pn:=pn }))) hh) λD Z H z9=>by
  obtain ⟨Oo,c,t,fi,o,t',eq,k⟩:=z9;unfold FU at eq
  cases e1:b t with
  | none=>rw [e1] at eq;cases eq
  | some z=>
    obtain ⟨o1,t1⟩:=z;rw [e1] at eq;refine ⟨Oo,c,t,fi,o1,t1,e1,λσ1 H1 c1 f1 s1=>?_⟩
    cases o1 with
    | next=>cases eq;exact k σ1 H1 c1 f1 s1
    | brk=>cases eq;exact k σ1 H1 c1 f1 s1
    | cont=>cases eq;exact k σ1 H1 c1 f1 s1
    | ret r=>
      intro v rv
      cases hx:A1 r with
      | false=>
        rw [if_neg (by decide)];have eq':some (Out.ret r,t1)=some (o,t'):=by cases r <;> first | exact eq | cases hx
        cases eq'
        have q:=k σ1 H1 c1 f1 s1;have q:μ c1 H1 r D.rt:=q;rw [<-hμ _ _ _ _ hx] at q;exact q v rv
      | true=>
        rw [if_pos rfl];intro y dx hv y' C hy' hC hex
        cases rv with
        | @exc q0 x0 C0 dx0 n vs ds g hx0 hA fl rs=>
          cases hv
          cases hy'
          dsimp only at eq
          split at eq
          ·next hn=>
           rw [hx0] at hC;injection hC with hC;injection hC with hC
           obtain ⟨e2,e3⟩:=WN hC.symm hex;have:=x.of hn g;exact ⟨Oo,c1,t1,n,ds,f1,hn,e2.trans this,.exc g hx0 hA fl rs,o,t',eq,λZ' H' c' f' s'=>k Z' H' c' f' (s1.trans s')⟩
          ·cases eq
        | _=>cases hx
end
end F2
namespace F2
open PySem L2 PySem.Spec PySem.W
variable {qx:Bool}
def dE (n:Str):D->M D
 | .exc m _=>if m∈Bh then ret (.bl (Fb m n)) else fail
 | .non=>ret (.bl false)
 | .bl _=>ret (.bl false)
 | .int _=>ret (.bl false)
 | .str _=>ret (.bl false)
 | .lst _=>ret (.bl false)
 | .tup _=>ret (.bl false)
 | .dic=>ret (.bl false)
 | _=>fail
section
variable {X:Cx}{P:Addr}{ca:Str->Addr}{a:Expr}{f:M D}{p pos q:Pos}
def Ky (nm:Str):D->M D
 | .exc n ds=>if n∈Bh then (match ((Jf n).zip ds).lookup nm with
   | some d=>ret d
   | none=>fail) else fail
 | _=>fail
theorem IP {K:PySem.W.Frag}{c:Cf}{H:Hp}{nm:Str}{d:D}:∀{ns:List Str} {vs:List V} {ds:List D},Reps K c H vs ds->(ns.zip ds).lookup nm=some d->∃v,(ns.zip vs).lookup nm=some v/\Rep K c H v d
 | [],_,_,_,e=>by cases e
 | _ :: _,_,_,.nil,e=>by cases e
 | n :: ns,_,_,.cons (v:=v0) (d:=d0) r rs,e=>by
   by_cases h:nm=n
   ·subst h;simp only [List.zip_cons_cons,List.lookup,uj0,uh0] at e ⊢;subst e;exact ⟨v0,rfl,r⟩
   ·have hb:(nm == n)=false:=beq_eq_false_iff_ne.mpr h;simp only [List.zip_cons_cons,List.lookup,hb] at e ⊢;exact IP rs e
theorem Xj {nm:Str}(x:XM X.K X.mg P ca)(hno:∀n∈Bh,findIn X.K (.ref (ca n)) nm=some none)(ha:PE X a (RE X.K f))(hb:attributeBase a nm X.env (eval a X.env)=eval a X.env):PE X (.Attribute a nm pos) (RE X.K (bnd f (Ky nm))):=by
 intro pins s Z H Q I h;obtain ⟨Oo,c0,t,fi,r,t',eq,k⟩:=h;obtain ⟨d,t1,e1,eq⟩:=Af eq;refine Ny hb (thn (ha pins s Z H (λv H1=>∃c1,FInv X.K Oo c1 t1 Z H1/\Stp Oo c0 H c1 H1/\Rep X.K c1 H1 v d) I ⟨Oo,c0,t,fi,d,t1,e1,λv H1 c1 f1 s1 rv=>⟨c1,f1,s1,rv⟩⟩) λu s1 z9=>?_);obtain ⟨v,H1,I1,rx,c1,f1,st1,rv⟩:=z9
 cases rv with
 | @exc q0 x0 C0 dx0 m vs ds g hx0 hA fl rs=>
   cases (show u=Value.ref x0 from rx)
   unfold Ky at eq;dsimp only at eq
   split at eq
   ·next hm=>
    have hc:=x.of hm g;subst hc
    cases el:((Jf m).zip ds).lookup nm with
    | none=>rw [el] at eq;cases eq
    | some d'=>
      rw [el] at eq
      cases eq
      obtain ⟨v',l1,r1⟩:=IP rs el
      cases dx0 with
      | none=>
        have fl:vs=[]:=fl;subst fl;simp at l1
      | some dd=>
        have hdd:H1 dd=some (.xd ((Jf m).zip vs)):=fl.1;obtain ⟨o,vs0,q1,q2,q3,q4,_⟩:=(I1.hok x0 _ hx0).1;have nc:notCls o=true:=by unfold notCls;rw [q4]
        obtain ⟨mA,nA,rA⟩:=(show ObjOk X.prog X.w H1 s1.heap dd (.xd ((Jf m).zip vs)) from I1.hok dd _ hdd);obtain ⟨od,ho,hl⟩:=Hr nA;obtain ⟨u',hu,ru⟩:=RelO.some_of (v:=v') (o:=mA nm) (by rw [<-l1];exact rA nm);have IA:InstAt s1.heap x0 o (ca m) (some od):=⟨q1,q2,nc,by rw [q3];exact ho⟩;unfold getAttr;refine up1 (wpAny_mkText ?_);refine PD (s:={ s1 with toks:=s1.toks + 1 }) I1.kIn IA (x.gt m hm) (Sg I1.kIn IA (x.gt m hm) (findObj_own (x.gt m hm).hd (hno m hm) rfl (by rw [hl,hu])) ?_);exact handed_on (Lj ru) ⟨v',H1,I1.tok _,ru,k v' H1 c1 f1 st1 r1⟩
   ·cases eq
 | _=>cases eq
end
end F2
namespace F2
open PySem L2 PySem.Spec PySem.W
variable {qx:Bool}
def Pg (K:PySem.W.Frag)(P c:Addr):Bool:=LP K c (.ref P :: VE) && keepIn K (.ref c) && findIn K (.ref c) "__getattribute__" == some (some (.builtin "BaseException.__getattribute__")) && findIn K (.ref c) "__getattr__" == some none && mroIn K c (.type "BaseException") == some true
 && mroIn K c (.type "object") == some true && hasDictIn K c && findIn K (.ref c) "__class__" == some (some (.builtin "object.__class__")) && findIn K (.ref c) "at" == some none && findIn K (.ref c) "side" == some none
structure XOne (K:PySem.W.Frag)(P c:Addr):Prop where
 cl:XCl K c (.ref P :: VE)
 kp:keepIn K (.ref c)=true
 gt:XGet K c
 gc:findIn K (.ref c) "__class__" = some (some (.builtin "object.__class__"))
 na:findIn K (.ref c) "at" = some none
 nd:findIn K (.ref c) "side" = some none
variable {K:PySem.W.Frag}{P:Addr}
theorem IJ {c:Addr}(h:Pg K P c=true):XOne K P c:=by
 unfold Pg at h;simp only [uh9,beq_iff_eq] at h;obtain ⟨⟨⟨⟨⟨⟨⟨⟨⟨h1,h2⟩,h3⟩,h4⟩,h5⟩,h6⟩,h7⟩,h8⟩,h9⟩,h10⟩:=h;exact ⟨.of_in h1,h2,⟨h3,h4,h5,h6,h7⟩,h8,h9,h10⟩
noncomputable def IW (c1 c2 c3 c4:Addr):Str->Addr:=λn=>if n = "NoValue" then c1 else if n = "Short" then c2 else if n = "Broken" then c3 else c4
theorem Ct {Q:Str->Prop}(h1:Q "NoValue")(h2:Q "Short")(h3:Q "Broken")(h4:Q "NoTalk"):∀n∈Bh,Q n:=by
 intro n hn;simp only [Bh,ul9,ui3,or_false] at hn;rcases hn with rfl | rfl | rfl | rfl <;> assumption
def Pf (K:PySem.W.Frag)(P:Addr)(cs:List Addr):Bool:=LP K P VE && cs.all (Pg K P)
theorem aP {h:Heap}{mg:Str->Option Value}{c1 c2 c3 c4:Addr}(X:K.In h)(G:h.Ns mainGlobals mg)(p:nsIn K mainGlobals "ParleyError" = some (some (.ref P)))(a1:nsIn K mainGlobals "NoValue" = some (some (.ref c1)))(a2:nsIn K mainGlobals "Short" = some (some (.ref c2)))(a3:nsIn K mainGlobals "Broken" = some (some (.ref c3)))(a4:nsIn K mainGlobals "NoTalk" = some (some (.ref c4)))(q:Pf K P [c1,c2,c3,c4]=true)(nd:[P,c1,c2,c3,c4].Nodup):XM K mg P (IW c1 c2 c3 c4):=by
 unfold Pf at q;simp only [um2,List.all_nil,um5,uh9] at q;obtain ⟨q0,q1,q2,q3,q4⟩:=q;have o1:=IJ q1;have o2:=IJ q2;have o3:=IJ q3;have o4:=IJ q4;have inj:∀n∈Bh,∀m∈Bh,IW c1 c2 c3 c4 n=IW c1 c2 c3 c4 m->n=m:=by
  simp only [uj6,ul9,ui3,or_false,not_or,List.nodup_nil,and_true] at nd;obtain ⟨⟨n1,n2,n3,n4⟩,⟨m12,m13,m14⟩,⟨m23,m24⟩,m34,_⟩:=nd;have h1:IW c1 c2 c3 c4 "NoValue" = c1:=rfl;have h2:IW c1 c2 c3 c4 "Short" = c2:=rfl;have h3:IW c1 c2 c3 c4 "Broken" = c3:=rfl;have h4:IW c1 c2 c3 c4 "NoTalk" = c4:=rfl;refine Ct ?_ ?_ ?_ ?_ <;> refine Ct ?_ ?_ ?_ ?_ <;> intro e <;> first | rfl | (exfalso;rw [h1] at e) | (exfalso;rw [h2] at e) | (exfalso;rw [h3] at e) | (exfalso;rw [h4] at e)
  all_goals (first | rw [h1] at e | rw [h2] at e | rw [h3] at e | rw [h4] at e)
  all_goals (first | contradiction | (have e:=e.symm;contradiction))
 refine ⟨mg_of X G p,.of_in q0,Ct a1 a2 a3 a4,Ct (mg_of X G a1) (mg_of X G a2) (mg_of X G a3) (mg_of X G a4),Ct o1.cl o2.cl o3.cl o4.cl,inj,?_,
  Ct o1.kp o2.kp o3.kp o4.kp,Ct o1.gt o2.gt o3.gt o4.gt,Ct o1.gc o2.gc o3.gc o4.gc,Ct o1.na o2.na o3.na o4.na,Ct o1.nd o2.nd o3.nd o4.nd⟩
 simp only [uj6,ul9,ui3,or_false,not_or] at nd;obtain ⟨⟨n1,n2,n3,n4⟩,_⟩:=nd;exact Ct (Ne.symm n1) (Ne.symm n2) (Ne.symm n3) (Ne.symm n4)
noncomputable def Bb (s:Stmt)(k:Nat):Stmt:=match s with
 | .ClassDef _ _ _ body _ _ _ _ _ _ _=>body.getD k (.Pass ⟨0,0,0,0⟩)
 | _=>.Pass ⟨0,0,0,0⟩
noncomputable def Gi (K:PySem.W.Frag)(C f:Addr):Bool:=match clsIn K C with
 | some cd=>nsIn K cd.ns "__init__" == some (some (.ref f))
 | none=>false
def XF1 (K:PySem.W.Frag)(C P:Addr)(qual:Str)(st:Stmt):Prop:=∃(f:Addr) (fd:FuncData),XMk K C P f/\XAt K C P "at"/\Binds K fd ["self", "at"] []/\Fun K "__init__" qual st f fd
variable {C:Addr}
theorem Zo {f:Addr}{qual:Str}{st:Stmt}{od an:Option Addr}{sl:Array (Option Value)}{oc kV dc pm cd ct:Value}(o:XOne K P C)(i:Gi K C f=true)(hf:isFn K (.ref f)=true)(hs:findIn K (.ref C) "__setattr__" = some (some (.builtin "object.__setattr__")))
 (l:K.lookup f=some ⟨oc,od,.func (PySem.W.fnOf "__init__" qual (Cw st) (A0 st) (Al st) .none kV dc pm an cd ct),sl⟩) (c:codeIn K cd qual=true) (k:keepIn K (.ref f)=true)
 (hb:∀(kV doc pm:Value) (an:Option Addr) (cdv ct:Value) (us:List Value),us.length=2->bindArgs (PySem.W.fnOf "__init__" qual (Cw st) (A0 st) (Al st) .none kV doc pm an cdv ct) ⟨us,[]⟩=pure ((["self", "at"]:List Str).zip us)):XF1 K C P qual st:=by
 refine ⟨f,_,⟨o.cl,?_,hf,o.kp⟩,⟨o.cl,hs,o.na⟩,(ET (st:=st) l c k).binds (ps:=["self", "at"]) hb,ET (st:=st) l c k⟩;unfold Gi at i
 split at i
 ·next cd' e=>exact ⟨cd',e,beq_iff_eq.mp i⟩
 ·cases i
theorem Ss {prog:Program}{w:World}{mg:Str->Option Value}{base:Heap}{qual:Str}{st:Stmt}{p1 p2 p3 p4:Pos}(hbd:A0 st=[.Assign [.Attribute (.Name "self" p1) "at" p2] (.Name "at" p3) p4])(S:FnScope ["self", "at"] ["self", "at"] (Al st))
 (s1:(Al st).names.lookup ("self" : Str)=some NameKind.local) (s2:(Al st).names.lookup ("at" : Str)=some NameKind.local) (x:XF1 K C P qual st):XN1 prog w K mg base C P:=by
 obtain ⟨f,fd,M,A,B,F⟩:=x;refine ⟨f,fd,_,M,A,B,F.ok (k:=0) S (λvs H Q E h=>?_) λcdv A' outer s H vs Q E hr h=>?_⟩
 ·obtain ⟨y,C',tp,v,rfl,_⟩:=h;rfl
 ·rw [hbd];refine ⟨_,Go (OY (P:=P) (Cl (i:=0) rfl (.inl s1) (by decide) (by decide)) (Cl (i:=1) rfl (.inl s2) (by decide) (by decide)) rfl),?_⟩;obtain ⟨y,C',tp,v,rfl,hy,ha,k⟩:=h;exact ⟨v,rfl,.ref y,rfl,y,C',tp,rfl,hy,ha,λdx h1 h2=>k dx h1 h2⟩
noncomputable def Ka (K:PySem.W.Frag)(C:Addr):Bool:=match clsIn K C with
 | some cd=>nsIn K cd.ns "__init__" == some none
 | none=>false
theorem Rt (h:Ka K C=true):XN0 K C:=by
 unfold Ka at h
 split at h
 ·next cd e=>exact ⟨cd,e,beq_iff_eq.mp h⟩
 ·cases h
end F2
namespace F2
open PySem L2 PySem.Spec PySem.W
inductive Kd where
 | pl | fr | ex | er
abbrev okK (k:Kd)(P:Program)(w:World)(K:PySem.W.Frag)(mg:Str->Option Value)(base:Heap)(n:Nat)(fa:Addr)(fd:FuncData)(ps:List Str)(f:Fn):Prop:=match k with
 | .pl=>FnOk P w K mg base CX0 n fa fd ps (spF K f)
 | .fr=>FnOk P w K mg base CX0 n fa fd ps (spFF K f)
 | .ex=>FnOk P w K mg base (CX1 true P w) n fa fd ps (spX K f)
 | .er=>FnOk P w K mg base (CX1 false P w) n fa fd ps (spX K f)
section
variable {X:Cx}{e a b:Expr}{pos:Pos}{f g:M D}
theorem NM {E:XK}(h:PE X e (RE X.K f)):PS X (.Return (some e) pos) (RSg X.K (μX X.K E) (An (nxD f))):=
 A9 (HE h) λD Z H z9=>by
  obtain ⟨Oo,c,t,fi,o,t',eq,k⟩:=z9;obtain ⟨d,t1,e1,eq⟩:=Af eq
  cases eq
  obtain ⟨e2,e3⟩:=MO e1;exact ⟨Oo,c,t,fi,d,_,e2,λv H1 c1 f1 s1 rv=>Qb e3 (k Z H1 c1 f1 s1 v rv)⟩
end
theorem X0 {K:PySem.W.Frag}{E:XK}:∀(c:Cf) (H:Hp) (r:D) (rt:V->Hp->Prop),A1 r=false->(∀v,Rep K c H v r->rt v H)=μX K E c H r rt:=λc H r rt h=>by
 unfold μX;rw [h];rfl
variable {qx:Bool}
section
variable {X:Cx}{P:Addr}{ca:Str->Addr}{a:Expr}{es:List Expr}{f:M D}{p pos q:Pos}{i:Nat}{ns:List Str}
end
end F2
namespace F2
open PySem L2 PySem.Spec SeqAt
end F2
namespace L2
open PySem PySem.Spec PyProof.Rows PySem.W PySem.Builtin PySem.Builtin.ObjectAttr
variable {qx:Bool}
section
variable {prog:Program}{w:World}{A:Around}{s:Shared}{K:PySem.W.Frag}{x C P dx:Addr}{ox:Obj}{od:Option Obj}{R:Result->Shared->Prop}{name:Str}{v:Value}{tk:Tok}{cd:ClassData}
theorem SM (X:K.In s.heap)(I:InstAt s.heap x ox C od)(hc:clsIn K C=some cd)(hmr:cd.mro=F1 C P)(ha:findIn K (.ref C) name=some none)
 (h:wpAny (model prog w) A.in1 (storeInOwnDict (.ref x) (.ref C) (.str name tk) name v false) (λfin s'=>match fin with | .done f=>R (.ok f) s' | .again c'=>c'.quiet=true/\codeAny (model prog w) A c' R s') (λe s'=>R (.error e) s') s) :
 codeAny (model prog w) A (.call (.builtin "object.__setattr__") ⟨[.ref x,.str name tk,v],[]⟩) R s:=by
 have SF:=PySem.F.store_object;have ob:Looks (model prog w) s.heap (isInstance (.ref x) (.type "object")) true:=I.type.andThen (looks_mroIn X (by unfold mroIn;rw [hc,Option.bind_some,hmr];rfl));refine codeAny_call_builtin SF.slot.plain SF.entry (@check_slot (model prog w) _ _ s "object.__setattr__" "object" "__setattr__" (.ref x) [.str name tk,v] [] _ SF.kind SF.split ob (SF.args (.ref x) (.str name tk) v) ?_);have mr:Looks (model prog w) s.heap (mroOf (.ref C)) (F1 C P):=by rw [<-hmr];exact (looks_clsIn X hc).andThen .now
 rw [osa_eq,refuse_eq];refine up1 (up1 (I.type.here (up1 (mr.here ?_))));rw [Ke];refine up2 (up1 (I.type.here (up1 ((looks_findIn X ha).here ?_))));exact up1 (up2 h)
theorem Tv {E:Value->Shared->Prop}{Q:Unit->Shared->Prop}{m:Str->Option Value}{a:Str}{oD:Obj}(X:K.In s.heap)(hx:s.heap.get? x=some ox)(hcl:ox.cls = .ref C)(hno:notCls ox=true)(hod:ox.dict=some dx)(hdx:s.heap.get? dx=some oD)(n1:s.heap.Ns1 dx m)(hm:PySem.Within m [a])(hs:findIn K (.ref C) "__setattr__" = some (some (.builtin "object.__setattr__")))(hc:clsIn K C=some cd)(hmr:cd.mro=F1 C P)(hd:cd.hasDict=true)(ha:findIn K (.ref C) name=some none)
 (h:∀h',(∀b o,b≠dx->s.heap.get? b=some o->h'.get? b=some o)->h'.Ns1 dx (λy=>if y=name then some v else m y)->Q () { s with heap:=h',toks:=s.toks + 2 }) :
 wpAny (model prog w) A (setAttr (.ref x) name v) Q E s:=by
 have I:InstAt s.heap x ox C (some oD):=⟨hx,hcl,hno,by rw [hod];exact hdx⟩;refine set_plain X I hs (SM (s:={ s with toks:=s.toks + 1 }) X I hc hmr ha ?_);refine up1 (up2 (up1 (up1 (wpAny_loadPart (s:={ s with toks:=s.toks + 1 }) hx ?_))));rw [hod,hcl];refine up1 (Looks.here (s:={ s with toks:=s.toks + 1 }) (looks_clsIn X hc) ?_);rw [hd,if_neg (by decide)];refine up2 ?_;refine up1 (up2 (up1 ?_));refine wpAny_nsSet1 n1 λh' n2 sb=>?_;obtain ⟨oD,esD,epD,hoD,hdD,hcD⟩:=n2.count (PySem.Within.cons name v hm);refine up1 (wpAny_lookBehind hoD (by rw [hdD];exact pastItsLine_dict (un3 hcD (by show 2<=_;decide))) ?_);exact up2 (h h' (λb o hb e=>(sb.2 b hb).trans e) n2)
end
def bE (K:PySem.W.Frag)(P:Addr)(ta tv:TE)(f1 f:Str):TS:=λD Z H=>tv Z H λy H1=>ta Z H1 λx H2=>∃a C tp dx y1,x = .ref a/\H2 a=some (EY a C tp dx)/\H2 dx=some (.xd [(f1,y1)])/\dx≠a/\XAt K C P f/\D.nx Z (upd H2 dx (.xd [(f1,y1),(f,y)]))
theorem QP {X:Cx}{P:Addr}{o value:Expr}{ta tv:TE}{f1 f:Str}{pos' pos:Pos}(hf:f1≠f)(ha:PE X o ta)(hv:PE X value tv)(hs:swapsWith value (some (.Attribute o f pos')) pos.line X.env=pure false):PS X (.Assign [.Attribute o f pos'] value pos) (bE X.K P ta tv f1 f):=by
 intro pins s Z H D I h;refine plainObj_wpAny_Assign_Attribute (thn (hv pins s Z H _ I h) λu s1 ⟨y,H1,I1,ry,q⟩=>thn (ha pins s1 Z H1 _ I1 q) λov s2 z9=>?_) hs;obtain ⟨x,H2,I2,rx,a,C,tp,dx,y1,ex,ea,ed,ne,c,q2⟩:=z9;subst ex;obtain rfl:ov=Value.ref a:=rx;obtain ⟨cd,c1,c2,c3⟩:=c.cl.cls;have hx:s2.heap.get? a=some { excObj C tp with dict:=some dx }:=(I2.hok a _ ea).1;obtain ⟨m,n1,rm⟩:=(show ObjOk X.prog X.w H2 s2.heap dx (.xd [(f1,y1)]) from I2.hok dx _ ed);obtain ⟨oD,ho,_⟩:=Hr n1;have hw:PySem.Within m [f1]:=λg hg=>by
  by_cases e:g=f1
  ·simp [e]
  ·exfalso;have z:=rm g;have hgb:(g == f1)=false:=beq_eq_false_iff_ne.mpr e;simp only [List.lookup,hgb] at z
   cases hm:m g with
   | none=>exact hg hm
   | some u=>rw [hm] at z;exact z
 refine Tv I2.kIn hx rfl rfl rfl ho n1 hw c.set c1 c2 c3 c.no λh' k n=>?_;have na:∀b u,s2.heap.get? b=some u->H2 b=none->b≠dx:=λb u _ z w'=>by rw [w',ed] at z;cases z
 refine ⟨Z,_,I2.un (h':=h') (t':=s2.toks + 2) ⟨λb u e1 e2 _ _=>k b u (na b u e1 e2) e1,λb u e1 e2 _ _=>⟨u.slots,k b u (na b u e1 e2) e1⟩,λb u e1 e2 _=>?_,λb u e1 _=>?_,λb xs e1=>?_,λb o' u e1=>?_,λb ps e1=>⟨#[],?_⟩⟩ λb u e1=>?_,q2⟩
 ·rw [Ah (na b u e1 e2)];exact e2
 ·by_cases hb:b=dx
  ·subst hb;obtain ⟨od',es,ep,e,_⟩:=n;exact ⟨_,e⟩
  ·exact ⟨_,k b u hb e1⟩
 ·rw [Ah (λz=>by rw [z,ed] at e1;cases e1)];exact e1
 ·rw [Ah (λz=>by rw [z,ed] at e1;cases e1)];exact e1
 ·rw [Ah (λz=>by rw [z,ed] at e1;cases e1),e1];simp
 ·by_cases hb:b=dx
  ·subst hb;rw [Ak] at e1;cases e1
   refine ⟨_,n,λg=>?_⟩
   by_cases hg:g=f
   ·subst hg;have hgb:(g == f1)=false:=beq_eq_false_iff_ne.mpr (Ne.symm hf);simp only [List.lookup,hgb,uj0,if_true];exact ry
   ·have hgb:(g == f)=false:=beq_eq_false_iff_ne.mpr hg;have z:=rm g
    by_cases hg1:g=f1
    ·subst hg1;simp only [List.lookup,uj0] at z;simp only [List.lookup,uj0,if_neg hg];exact z
    ·have hgb1:(g == f1)=false:=beq_eq_false_iff_ne.mpr hg1;simp only [List.lookup,hgb1] at z;simp only [List.lookup,hgb,hgb1,if_neg hg];exact z
  ·rw [Ah hb] at e1;refine (I2.hok b u e1).stay (λz v hz q=>k z v ?_ q) (λz q=>?_) λz xs q=>?_
   ·rcases hz with rfl | hz
    ·exact hb
    ·intro w';rw [w',ed] at hz;cases hz
   ·rw [Ah (λz=>by rw [z,ed] at q;cases q)];exact q
   ·rw [Ah (λz=>by rw [z,ed] at q;cases q)];exact q
def HH (K:PySem.W.Frag)(P:Addr)(a b:Str):Sp:=λvs H Q _=>∃x C tp v u,vs=[.ref x,v,u]/\H x=some (exO x C tp)/\XAt K C P a/\XAt K C P b/\∀dx,H dx=none->dx≠x->Q .non (upd (upd H dx (.xd [(a,v),(b,u)])) x (EY x C tp dx))
section
variable {X:Cx}{k:Nat}{f C P:Addr}{fd:FuncData}{pins:List (Addr×Obj)}{Z:St}{H:Hp}{s:Shared}{Q:Value->Shared->Prop}{us:List Value}{vs:List V}{a b:Str}{ps:List Str}{v v2:V}{u u2:Value}
theorem O4 (M:XMk X.K C P f)(ha:XAt X.K C P a)(hab:XAt X.K C P b)(F:FnOk X.prog X.w X.K X.mg X.base CX0 k f fd ps (HH X.K P a b))(hr:Room (k + 1) X.A)(hb:Binds X.K fd ps [])(I:Inv X pins Z H s)(r:RelV v u)(rr:RelV v2 u2)
 (h:∀s' x dx,Inv X pins Z (upd (upd H dx (.xd [(a,v),(b,v2)])) x (.ext (F2.XIs qx x C (some dx)))) s'->H x=none->H dx=none->dx≠x->s.heap.objs.size<=x->XRec true s'.heap x C (some dx) .none->Q (.ref x) s'):wpAny (model X.prog X.w) X.A (call (.ref C) [u,u2]) Q X.xe s:=by
 obtain ⟨nm,q,N,bs,sn,sub,ab,col,dd,k0,k1,k2,k3,k5,hC,hN⟩:=M.cl.obj I.kIn;have hni:s.heap.nsMap N "__init__" = some (.ref f):=by
  obtain ⟨cd,c1,c2⟩:=M.init;refine GU I.kIn hN ?_;unfold clsIn at c1
  split at c1
  ·next l=>
   cases c1
   have z:=I.kIn _ _ l;rw [hC] at z
   cases z
   exact c2
  ·cases c1
 have I1:Inv X pins Z (upd H (s.heap.objs.size + 1) (exO (s.heap.objs.size + 1) C s.heap.objs.size)) { s with heap:=DH s.heap C [u,u2] }:=by
  refine I.laid (t':=s.toks) (λb o e=>uc3 _ (uc3 _ e)) (uo9 _) (Mq ?_);show ((s.heap.push _).push _).get? _=_
  heap_get
 have hx0:=I.hok.fresh (uo9 s.heap.objs.size);have r2:Vals [V.ref (s.heap.objs.size + 1),v,v2] [Value.ref (s.heap.objs.size + 1),u,u2]:=.cons rfl (.cons r (.cons rr .nil));have hsp:HH X.K P a b [V.ref (s.heap.objs.size + 1),v,v2] (upd H (s.heap.objs.size + 1) (exO (s.heap.objs.size + 1) C s.heap.objs.size))
  (λw' H'=>w' = .non/\∃dx,H dx=none/\dx≠s.heap.objs.size + 1/\H'=upd (upd H dx (.xd [(a,v),(b,v2)])) (s.heap.objs.size + 1) (EY (s.heap.objs.size + 1) C s.heap.objs.size dx)) E0:=by
  refine ⟨_,C,s.heap.objs.size,v,v2,rfl,Ak,ha,hab,λdx h1 h2=>⟨rfl,dx,by rw [Ah h2] at h1;exact h1,h2,?_⟩⟩
  funext b
  by_cases e1:b=s.heap.objs.size + 1
  ·subst e1;rw [Ak,Ak]
  ·by_cases e2:b=dx
   ·subst e2;rw [Ah e1,Ah e1,Ak,Ak]
   ·rw [Ah e1,Ah e1,Ah e2,Ah e2,Ah e1]
 have hl:([Value.ref (s.heap.objs.size + 1),u,u2]++[]).length=ps.length:=by
  have e:=F.len _ _ _ _ hsp;simpa using e
 obtain ⟨hh,g,d,t,os⟩:=s;refine wpAny_call (Jj ua8 (M.cl.tail I.kIn) hC hN hni ((bind_fn I.kIn _ (beq_iff_eq.mp M.fn))) (by show 2<=sizeLine;decide) ?_);refine codeAny_mono (F.run _ X.stack _ _ ⟨[Value.ref (hh.objs.size + 1),u,u2],[]⟩ [Value.ref (hh.objs.size + 1),u,u2] _ _ E0 (hr.make C [u,u2] []) (I1.env0.make C [u,u2] []) (by have:=hb _ [Value.ref (hh.objs.size + 1),u,u2] I1.kIn hl;simpa using this) r2 hsp) λr s' hq'=>?_
 cases r with
 | error e=>exact hq'.elim
 | ok fl=>
   cases fl with
   | ret w'=>
     obtain ⟨v',H',I3,rv,rfl,dx,d1,d2,rfl⟩:=I1.after hq';refine ⟨rv,?_⟩;have hx:=(I3.hok (hh.objs.size + 1) _ Ak).1;have hx:s'.heap.get? (hh.objs.size + 1)=some { excObj C hh.objs.size with dict:=some dx }:=hx;have xr:XRec true s'.heap (hh.objs.size + 1) C (some dx) .none:=⟨_,_,hx,rfl,rfl,rfl,rfl,λ_=>⟨rfl,by show 4 < 6;decide⟩⟩;have I4:=I3.write (x:=hh.objs.size + 1) (e:=hh.objs.size + 1) (o:=.ext (F2.XIs qx (hh.objs.size + 1) C (some dx))) (h':=s'.heap) (t':=s'.toks) (by rw [Ak];trivial) (.inl rfl) (λ_ _ _ z=>z) ⟨_,hx⟩ (Hi xr.to.is);rw [K5] at I4;exact h s' (hh.objs.size + 1) dx I4 hx0 d1 d2 (uo9 _) xr
   | next=>exact False.elim hq'
   | brk=>exact False.elim hq'
   | cont=>exact False.elim hq'
end
section
variable {X:Cx}{k:Nat}{f C P:Addr}{fd:FuncData}{a b:Str}{ps:List Str}{n:Str}{p pos:Pos}{e e':Expr}
theorem Yu {t:TA}(M:XMk X.K C P f)(ha:XAt X.K C P a)(hab:XAt X.K C P b)(F:FnOk X.prog X.w X.K X.mg X.base CX0 k f fd ps (HH X.K P a b))(hr:Room (k + 1) X.A)(hb:Binds X.K fd ps [])(hg:Gl X n)(hm:X.mg n=some (.ref C))(hA:PA X [e,e'] t)
 (hdb:(n == ("__debug__" : Str))=false:=by decide) (h1:starEach [e,e'] X.env=(false,eval e X.env) :: starEach [e'] X.env:=by rfl) (hpl:(backTo pos (starEach [e'] X.env)).any (·.1)=false:=by rfl) :
 PM qx X (.Call (.Name n p) [e,e'] [] pos) C (λZ H Q=>t Z H λvs H1=>∃v u,vs=[v,u]/\∀x dx,H1 x=none->H1 dx=none->dx≠x->Q x (some dx) (upd (upd H1 dx (.xd [(a,v),(b,u)])) x (.ext (F2.XIs qx x C (some dx))))):=by
 intro pins s Z H Q I h;refine wpAny_Call_Name_kw (CB I hg hm ?_ hdb);refine uf5 (h₀:=X.base) I.ok.mod.kin M.kp (thn (hA pos pins s Z H _ I h) λus s1 z9=>?_) h1 hpl;obtain ⟨vs,H1,I1,r,v,u,ev,q⟩:=z9;refine ⟨I1.kIn,?_⟩;subst ev
 cases r with
 | cons r0 rs=>
   cases rs with
   | cons r1 rs=>
     cases rs
     exact O4 M ha hab F hr hb I1 r0 r1 λs' x dx I' hx hdx ne nx rc=>⟨x,some dx,_,rfl,I',Ak,un3 I1.sz nx,rc,q x dx hx hdx ne⟩
end
end L2
namespace F2
open PySem L2 PySem.Spec PySem.W
variable {qx:Bool}
section
variable {X:Cx}{e e':Expr}{pos p pos2:Pos}{E:L2.St->XK}{P:Addr}{ca:Str->Addr}
def XN2 (prog:Program)(w:World)(K:PySem.W.Frag)(mg:Str->Option Value)(base:Heap)(C P:Addr):Prop:=
 ∃(f:Addr) (fd:FuncData) (ps:List Str),XMk K C P f/\XAt K C P "at"/\XAt K C P "side"/\Binds K fd ps []/\FnOk prog w K mg base CX0 1 f fd ps (HH K P "at" "side")
def Dv (n:Str)(f:M (List D)):M Out:=bnd f λds=>match ds with
 | [d,d']=>ret (.ret (.exc n [d,d']))
 | _=>fail
theorem PZ {f:M (List D)}(x:XM X.K X.mg P ca)(xn:XN2 X.prog X.w X.K X.mg X.base (ca "Broken") P)(hr:L2.Room 2 X.A)(hc:X.calm=true)(hx:Ft qx X E)(hg:Gl X "Broken")(ha:PA X [e,e'] (RA X.K f))
 (h1:AR e=false:=by rfl) (h2:AS [e']=true:=by rfl):PS X (.Raise (some (.Call (.Name "Broken" p) [e,e'] [] pos)) none pos2) (RSX X.K E (Dv "Broken" f)):=by
 obtain ⟨fa,fd,ps,M,A,A2,B,F⟩:=xn;have hn:("Broken" : Str)∈Bh:=by decide
 refine A9 (Jp hc M.cl hx (Yu M A A2 F hr B hg (x.ms _ hn) ha (by decide) (AW h1) (AQ h2).1)) λD Z H z9=>?_;obtain ⟨Oo,c,t,fi,o,t',eq,k⟩:=z9;obtain ⟨ds,t1,e1,eq⟩:=Af eq;refine ⟨Oo,c,t,fi,ds,t1,e1,λvs H1 c1 f1 s1 rvs=>?_⟩;rcases ds with _ | ⟨d,_ | ⟨d',_ | ⟨_,_⟩⟩⟩
 ·cases eq
 ·cases eq
 ·cases rvs with
  | @cons v0 _ _ _ rv r=>
  cases r with
  | @cons v1 _ _ _ rv1 r=>
  cases r
  cases eq
  refine ⟨_,_,rfl,λy dx hy hdx ne=>?_⟩;have f2:=f1.laid (o:=.xd [("at",v0),("side",v1)]) hdx;have hy2:upd H1 dx (.xd [("at",v0),("side",v1)]) y=none:=by rw [Ah (Ne.symm ne)];exact hy
  have f3:=f2.laid (o:=.ext (XIs qx y (ca "Broken") (some dx))) hy2;have ex:=(f1.stp_laid (o:=.xd [("at",v0),("side",v1)]) hdx).ext.trans (f2.stp_laid (o:=.ext (XIs qx y (ca "Broken") (some dx))) hy2).ext;have s3:=s1.trans ((f1.stp_laid (o:=.xd [("at",v0),("side",v1)]) hdx).trans (f2.stp_laid (o:=.ext (XIs qx y (ca "Broken") (some dx))) hy2));refine k Z _ c1 f3 s3 (.ref y) (.exc (x.ns _ hn) Ak (f2.s.free hy2) ?_ (.cons (rv.mono ex) (.cons (rv1.mono ex) .nil))) y (some dx) rfl;exact ⟨by rw [Ah ne,Ak];rfl,f1.s.free hdx⟩
 ·cases eq
end
def XF2 (K:PySem.W.Frag)(C P:Addr)(qual:Str)(st:Stmt):Prop:=∃(f:Addr) (fd:FuncData),XMk K C P f/\XAt K C P "at"/\XAt K C P "side"/\Binds K fd ["self", "at", "side"] []/\Fun K "__init__" qual st f fd
theorem Zp {K:PySem.W.Frag}{C P f:Addr}{qual:Str}{st:Stmt}{od an:Option Addr}{sl:Array (Option Value)}{oc kV dc pm cd ct:Value}(o:XOne K P C)(i:Gi K C f=true)(hf:isFn K (.ref f)=true)(hs:findIn K (.ref C) "__setattr__" = some (some (.builtin "object.__setattr__")))
 (l:K.lookup f=some ⟨oc,od,.func (PySem.W.fnOf "__init__" qual (Cw st) (A0 st) (Al st) .none kV dc pm an cd ct),sl⟩) (c:codeIn K cd qual=true) (k:keepIn K (.ref f)=true)
 (hb:∀(kV doc pm:Value) (an:Option Addr) (cdv ct:Value) (us:List Value),us.length=3->bindArgs (PySem.W.fnOf "__init__" qual (Cw st) (A0 st) (Al st) .none kV doc pm an cdv ct) ⟨us,[]⟩=pure ((["self", "at", "side"]:List Str).zip us)):XF2 K C P qual st:=by
 refine ⟨f,_,⟨o.cl,?_,hf,o.kp⟩,⟨o.cl,hs,o.na⟩,⟨o.cl,hs,o.nd⟩,(ET (st:=st) l c k).binds (ps:=["self", "at", "side"]) hb,ET (st:=st) l c k⟩;unfold Gi at i
 split at i
 ·next cd' e=>exact ⟨cd',e,beq_iff_eq.mp i⟩
 ·cases i
theorem Su {prog:Program}{w:World}{K:PySem.W.Frag}{mg:Str->Option Value}{base:Heap}{C P:Addr}{qual:Str}{st:Stmt}{p1 p2 p3 p4 p5 p6 p7 p8:Pos}(hbd:A0 st=[.Assign [.Attribute (.Name "self" p1) "at" p2] (.Name "at" p3) p4,.Assign [.Attribute (.Name "self" p5) "side" p6] (.Name "side" p7) p8])(S:FnScope ["self", "at", "side"] ["self", "at", "side"] (Al st))
 (s1:(Al st).names.lookup ("self" : Str)=some NameKind.local) (s2:(Al st).names.lookup ("at" : Str)=some NameKind.local) (s3:(Al st).names.lookup ("side" : Str)=some NameKind.local) (x:XF2 K C P qual st):XN2 prog w K mg base C P:=by
 obtain ⟨f,fd,M,A,A2,B,F⟩:=x;refine ⟨f,fd,_,M,A,A2,B,F.ok (k:=0) S (λvs H Q E h=>?_) λcdv A' outer s H vs Q E hr h=>?_⟩
 ·obtain ⟨y,C',tp,v,u,rfl,_⟩:=h;rfl
 ·rw [hbd];refine ⟨_,Jq (OY (P:=P) (Cl (i:=0) rfl (.inl s1) (by decide) (by decide)) (Cl (i:=1) rfl (.inl s2) (by decide) (by decide)) rfl) (Go (QP (P:=P) (f1:="at") (by decide) (Cl (i:=0) rfl (.inl s1) (by decide) (by decide)) (Cl (i:=2) rfl (.inl s3) (by decide) (by decide)) rfl)),?_⟩;obtain ⟨y,C',tp,v,u,rfl,hy,ha,ha2,k⟩:=h;refine ⟨v,rfl,.ref y,rfl,y,C',tp,rfl,hy,ha,λdx h1 h2=>⟨u,rfl,.ref y,rfl,y,C',tp,dx,v,rfl,Ak,by rw [Ah h2,Ak],h2,ha2,?_⟩⟩;have z:=k dx h1 h2;have e:upd (upd (upd H dx (.xd [("at",v)])) y (EY y C' tp dx)) dx (.xd [("at",v),("side",u)])=upd (upd H dx (.xd [("at",v),("side",u)])) y (EY y C' tp dx):=by
   funext b
   by_cases e1:b=dx
   ·subst e1;rw [Ak,Ah h2,Ak]
   ·by_cases e2:b=y
    ·subst e2;rw [Ah e1,Ak,Ak]
    ·rw [Ah e1,Ah e2,Ah e1,Ah e2,Ah e1]
  rw [e];exact z
end F2
namespace L2
open PySem PySem.Spec PyProof.Rows PySem.W
end L2
namespace F2
open PySem L2 PySem.Spec
section
variable {X:Cx}{a b:Expr}{pos:Pos}
end
end F2
namespace L2
open PySem PySem.Spec PyProof.Rows PySem.W
theorem LC:entryFor table "proto.unchain" = some Builtin.«proto.unchain»:=entryFor_of_tree (by kernel_rfl)
section
variable {prog:Program}{w:World}{A:Around}{E:Value->Shared->Prop}{env:Env}{K:PySem.W.Frag}{C:Addr}{bm:List Value}{s:Shared}
theorem Pb {x y:Addr}{ox:Obj}{vx:Array Value}{Q:Value->Shared->Prop}(gx:s.heap.get? x=some ox)(dx:ox.data = .fields vx)(x2:vx[2]?=some .none)(h:Q .none s) :
 wpAny (model prog w) A (runValue (.builtin "proto.unchain" ⟨[.ref y,.ref x,.ref x,.bool false],[]⟩)) Q E s:=by
 refine runValue_entry LC ?_;unfold Builtin.«proto.unchain»;refine up1 (up0 gx dx x2 ?_);rw [if_pos (by decide)];refine up1 (up2 (up2 ⟨_,rfl,h⟩))
theorem Tn {t c0:Sem Value}{x:Addr}{Q:Flow->Shared->Prop}(c:XCl K C bm)(hh:A.handled=some (.ref x))
 (hc0:∀(s:Shared) (Q:Value->Shared->Prop) (E:Value->Shared->Prop),Q Value.none s->wpAny (model prog w) A c0 Q E s)
 (h:wpAny (model prog w) A t (λv s1=>∃y dy ox vx,v = .ref y/\y≠x/\K.In s1.heap/\XRec true s1.heap y C dy .none/\s1.heap.get? x=some ox/\ox.data = .fields vx/\vx[2]?=some .none/\
   ∀h',XRec false h' y C dy .none->(∀b,b≠y->h'.get? b=s1.heap.get? b)->E v { s1 with heap:=h' }) E s):wpAny (model prog w) A (raiseStmt env (some t) (some c0)) Q E s:=by
 unfold raiseStmt;refine up1 (up3 h (λv s1 q=>?_) λ_ _ z=>z);obtain ⟨y,dy,ox,vx,rfl,ne,X,⟨o,vs,hx,hc,hd,hdt,h1,h2⟩,gx,dx,x2,hE⟩:=q;obtain ⟨h2,h4⟩:=h2 rfl;obtain ⟨nm,q,N,bs,sn,sub,ab,col,dd,k0,k1,k2,k3,k5,hC,_⟩:=c.obj X;have hb:=c.has X;obtain ⟨hp,g,d,tk,os⟩:=s1;refine up1 (un0 (hc0 _ _ _ (up1 (up2 ?_))))
 repeat (first
  | (with_reducible refine wpAny_loadPart_at hx ?_;rw [hc])
  | with_reducible refine wpAny_loadPart_at hC ?_
  | (with_reducible refine wpAny_isSubtype_exc hC ?_;rw [hb])
  | with_reducible refine up0 hx hdt h1 ?_
  | wp_step)
 have nC:C≠y:=by
  rintro rfl;rw [hC] at hx
  cases hx
  cases hdt
 rw [hdt];show wpAny _ _ (if 3 < vs.size then _ else _) _ _ _;rw [if_pos (Nat.lt_of_succ_lt h4)];refine wpAny_update hx ?_;obtain ⟨m1,m2,m3⟩:=FK hdt (·.setIfInBounds 3 Value.none);have hx1:=ud6 (Obj.mapFields (·.setIfInBounds 3 Value.none)) hx (Obj.isFreed_of_fields m1);refine up1 (wpAny_setField hx1 m1 (by rw [ub5];exact h4) ?_);obtain ⟨n1,n2,n3⟩:=FK m1 (·.setIfInBounds 4 (Value.bool true));have hx2:=ud6 (Obj.mapFields (·.setIfInBounds 4 (Value.bool true))) hx1 (Obj.isFreed_of_fields n1);have oth:∀b,b≠y->((hp.update y (Obj.mapFields (·.setIfInBounds 3 Value.none))).update y (Obj.mapFields (·.setIfInBounds 4 (Value.bool true)))).get? b=hp.get? b:=λb z=>by
  rw [uc5 _ _ (Ne.symm z),uc5 _ _ (Ne.symm z)]
 have hC2:=(oth C nC).trans hC;have gx2:=(oth x (Ne.symm ne)).trans gx;have hc2:=n2.trans (m2.trans hc);have hd2:=n3.trans (m3.trans hd);have t1:((vs.setIfInBounds 3 Value.none).setIfInBounds 4 (Value.bool true))[1]?=some .none:=by
  rw [ua1 (by decide),ua1 (by decide)];exact h1
 have t4:2 < ((vs.setIfInBounds 3 Value.none).setIfInBounds 4 (Value.bool true)).size:=by
  rw [ub5,ub5];lia
 show wpAny (model prog w) A _ Q E ⟨(hp.update y (Obj.mapFields (·.setIfInBounds 3 Value.none))).update y (Obj.mapFields (·.setIfInBounds 4 (Value.bool true))),g,d,tk,os⟩;generalize (hp.update y (Obj.mapFields (·.setIfInBounds 3 Value.none))).update y (Obj.mapFields (·.setIfInBounds 4 (Value.bool true)))=h3 at hx2 oth hC2 gx2;generalize ((o.mapFields (·.setIfInBounds 3 Value.none)).mapFields (·.setIfInBounds 4 (Value.bool true)))=o2 at hx2 hc2 hd2 n1;generalize ((vs.setIfInBounds 3 Value.none).setIfInBounds 4 (Value.bool true))=vs2 at n1 t1 t4;clear hx1 m1 m2 m3 n2 n3
 repeat (first
  | (with_reducible refine wpAny_loadPart_at hx2 ?_;rw [hc2])
  | with_reducible refine wpAny_loadPart_at hC2 ?_
  | (with_reducible refine wpAny_isSubtype_exc hC2 ?_;rw [hb])
  | with_reducible refine up0 hx2 n1 t1 ?_
  | wp_step)
 unfold raiseNew;refine up1 (wpAny_handled ?_);rw [hh];dsimp only;rw [if_pos (by simpa using Ne.symm ne)];refine up1 (un0 (Pb gx2 dx x2 (up1 ?_)));obtain ⟨z1,z2,z3⟩:=FK n1 (·.setIfInBounds 2 (Value.ref x));refine wpAny_setField hx2 n1 t4 ?_;have hx3:=ud6 (Obj.mapFields (·.setIfInBounds 2 (Value.ref x))) hx2 (Obj.isFreed_of_fields z1);refine wpAny_throw (hE _ ⟨_,_,hx3,z2.trans hc2,z3.trans hd2,z1,?_,λz=>by cases z⟩ λb hb'=>?_)
 ·rw [ua1 (by decide)];exact t1
 ·rw [uc5 _ _ (Ne.symm hb')];exact oth b hb'
end
section
variable {X:Cx}{pins:List (Addr×Obj)}{Z:St}{H:Hp}{s s':Shared}{qx:Bool}{x C:Addr}{dx T:Option Addr}{fl:Value}
theorem XOn.keep (I:Inv X pins Z H s)(o:XOn qx X pins H s x C dx T fl)(k:∀b,b≠X.env.locals->(∀z c,X.env.cells.lookup z=some c->c≠b)->s'.heap.get? b=s.heap.get? b):XOn qx X pins H s' x C dx T fl:=by
 obtain ⟨ox,vs,gx,cx,dxe,dtx,tbx,xc⟩:=id o.rc;have nl:x≠X.env.locals:=λz=>by have:=o.hx;rw [z,I.free] at this;cases this
 have nc:∀z c,X.env.cells.lookup z=some c->c≠x:=λz c e w=>by
  have:=o.hx;rw [<-w,I.freeC z c e] at this
  cases this
 refine ⟨o.hx,o.nx,⟨ox,vs,(k x nl nc).trans gx,cx,dxe,dtx,tbx,xc⟩,λa e=>?_,o.fo⟩;obtain ⟨z1,z2,z3,⟨y1,y2,y3⟩,ot,ts,gT,dT,t3⟩:=o.tb a e;exact ⟨z1,z2,z3,⟨y1,y2,y3⟩,ot,ts,(k a y1 y2).trans gT,dT,t3⟩
theorem Ri {M:Model}{A:Around}{E:Value->Shared->Prop}{i:Nat}{n:Str}{pos:Pos}{Q:Unit->Shared->Prop}(I:Inv X pins Z H s)(hN:X.N.Nodup)(hi:X.N[i]?=some n)(hk:X.env.scope.names.lookup n=some .local)
 (h:∀s',Inv X pins (Z.set i none) H s'->(∀b,b≠X.env.locals->(∀z c,X.env.cells.lookup z=some c->c≠b)->s'.heap.get? b=s.heap.get? b)->Q () s'):wpAny M A (do bindName X.env n .none;unbindBehindTheSuite X.env n pos) Q E s:=by
 refine up1 (wpAny_bindName (HK (v:=.non) I hN hi (.inl hk) rfl (λs1 I1 sb1=>?_) (.inr hk)));obtain ⟨a1,sb1,ha1⟩:=sb1;unfold unbindBehindTheSuite;have hiσ:i < Z.length:=by rw [I.len];exact (ub1.mp hi).1
 obtain ⟨m,hn,hl⟩:=id I1.loc;have hcls:(X.env.scope.kind == .class || (X.env.scope.kind == .module && X.env.locals != X.env.globals))=false:=by rw [I.ok.kind];rfl
 obtain ⟨u0,_,lk⟩:=hl i n .non hi (by rw [uc2 hiσ]) (.inl hk);have hv:m n=some u0:=by
  rcases lk with ⟨_,e⟩ | ⟨k,_⟩
  ·exact e
  ·have k:X.env.scope.names.lookup n=some .cell\/X.env.scope.names.lookup n=some .free:=k;rw [hk] at k;rcases k with k | k <;> cases k
 refine wpAny_onRaise (wpAny_unbindName_local hk hn hv hcls λh' u hn' hs=>?_);have cne:=I1.cne;have tracked:HOk X.prog X.w H h':=λb ob e=>by
  refine (I1.hok b ob e).stay (λc w' hc q=>(hs.2 c ?_).trans q) (λ_ q=>q) λ_ _ q=>q;rintro rfl;rcases hc with rfl | hc
  ·rw [I1.free] at e;cases e
  ·rw [I1.free] at hc;cases hc
 have far:∀b o,X.s₀.heap.get? b=some o->b≠X.env.locals:=λb o e=>un2 (uf1 (un1 e) I1.ok.above);refine h _ ⟨I1.ok,I1.os,I1.bare,⟨λb o e n hb hx=>?_,λb o e n hb hx=>?_,I1.base.free,λb o e hx=>?_,I1.base.tups,I1.base.frzs,I1.base.tbls⟩,⟨_,hn',λj y v' e1 e2 e3=>?_⟩,λy c e=>?_,I1.free,I1.freeC,λp hp=>?_,tracked,by simpa using I.len⟩ λb hb hc=>?_
 ·exact (hs.2 b (far b o e)).trans (I1.base.keep b o e n hb hx)
 ·obtain ⟨sl,e1⟩:=I1.base.slot b o e n hb hx;exact ⟨sl,(hs.2 b (far b o e)).trans e1⟩
 ·obtain ⟨o',e1⟩:=I1.base.there b o e hx;exact ⟨o',(hs.2 b (far b o e)).trans e1⟩
 ·by_cases hj:j=i
  ·subst hj;rw [uc2 hiσ] at e2
   cases e2
  ·rw [ue0 (Ne.symm hj)] at e2;obtain ⟨u',r',q⟩:=hl j y v' e1 (by rw [ue0 (Ne.symm hj)];exact e2) e3;refine ⟨u',r',?_⟩;rcases q with ⟨k,e⟩ | ⟨k,c,e,z⟩
   ·refine .inl ⟨k,?_⟩;have:y≠n:=λe=>hj (Jl hN e1 (e ▸ hi));simp [this,e]
   ·exact .inr ⟨k,c,e,z.sameBut hs (cne y c e)⟩
 ·obtain ⟨w',z⟩:=I1.cell y c e;exact ⟨w',z.sameBut hs (cne y c e)⟩
 ·obtain ⟨e,n,ne,nf,d⟩:=I1.pin p hp;exact ⟨(hs.2 p.1 ne).trans e,n,ne,nf,d⟩
 ·rw [hs.2 b hb];refine sb1.2 b ?_;rintro rfl;rcases ha1 with z | z
  ·exact hb z
  ·exact hc _ _ z rfl
end
def HS (X:Cx)(E:St->XK):Prop:=∀(pins:List (Addr×Obj)) (Z:St) (H:Hp) (s:Shared) (x C:Addr) (dx T:Option Addr) (fl:Value),Inv X pins Z H s->XOn false X pins H s x C dx T fl->E Z (.ref x) dx H->X.xe (.ref x) s
theorem XE.raisesT {X:Cx}{E:St->XK}:HS (X.wish (XE false X E)) E:=λpins Z H s x C dx T fl I o q=>⟨pins,Z,H,x,C,dx,T,fl,rfl,I.unwish,⟨o.hx,o.nx,o.rc,o.tb,o.fo⟩,q⟩
section
variable {X:Cx}{n v:Str}{C' C2:Addr}{bm' bm2:List Value}{p pos p2:Pos}{e cN:Expr}{rest:List ExceptHandler}{t:St->Hp->(Addr->Option Addr->Hp->Prop)->Prop}{tr:Addr->Addr->Option Addr->TS}{i:Nat}{E:St->XK}
def bK (K:PySem.W.Frag)(C':Addr)(i:Nat)(t:St->Hp->(Addr->Option Addr->Hp->Prop)->Prop)(E:St->XK)(tr:Addr->Addr->Option Addr->TS):Addr->Addr->Option Addr->TS:=λx C dx D Z H=>∃bm,XCl K C bm/\
 if (Value.ref C :: bm).contains (.ref C')=true then t (Z.set i (some (.ref x))) H (λy dy H1=>y≠x/\H1 x=some (.ext (F2.XIs true x C dx))/\E ((Z.set i (some (.ref x))).set i none) (.ref y) dy H1) else tr x C dx D Z H
theorem ZX (h1:X.stack=X.env :: X.outer)(h2:X.env.frame=some X.env.locals)(hg:Gl X n)(hm:X.mg n=some (.ref C'))(c':XCl X.K C' bm')(hN:X.N.Nodup)(hi:X.N[i]?=some v)(hl:X.env.scope.names.lookup v=some .local)
 (c2:XCl X.K C2 bm2) (hp:∀x,PM false (X.mark x) e C2 t) (hx:HS X E)
 (hz:∀(A:Around) (s:Shared) (Q:Value->Shared->Prop) (E:Value->Shared->Prop),Q Value.none s->wpAny (model X.prog X.w) A (eval cN X.env) Q E s)
 (hr:PH true X rest tr) (hdb:(n == ("__debug__" : Str))=false:=by decide):PH true X (.ExceptHandler (some (.Name n p)) (some v) [.Raise (some e) (some cN) p2] pos :: rest) (bK X.K C' i t E tr):=by
 intro pins s Z H x C dx T D I o ⟨bm,c,q⟩;have Im:=I.mark x;refine wpAny_handleBy_cons (codeAny_handlers_test (CB Im hg hm ?_ hdb)) (by intro z;cases z)
 refine MI c c' I.kIn o.rc ?_
 cases hc:(Value.ref C :: bm).contains (.ref C') with
 | false=>
   rw [hc,if_neg (by decide)] at q;exact hr pins s Z H x C dx T D I o q
 | true=>
   rw [hc,if_pos rfl] at q;refine codeAny_handlers_suite_as ?_;refine EF none I o (.inl rfl) λh1' I1 o1=>?_;refine Js (v:=.ref x) I1 hN hi (.inl hl) rfl (λs2 I2=>?_) (.inr hl);refine wpAny_execs_cons ?_;rw [arm_exec_Raise];refine up1 (wpAny_standAt ?_);refine Tn (x:=x) c2 rfl (λs Q E h=>up1 (hz _ _ _ _ (up1 (wpAny_standAt (up2 h))))) ?_;refine up1 (up3 (hp x pins s2 _ H _ (I2.mark x) q) (λw' s3 z9=>?_) λ_ _ z=>z.elim);obtain ⟨y,dy,H1,e1,I3,hy,ny,r,ne,hxx,q1⟩:=z9;subst e1;have J3:=I3.unmark I.ok;obtain ⟨ox,vx,gx,_,_,dtx,xc⟩:=(I3.hok x _ hxx).1;refine up1 (wpAny_standAt (up2 ⟨y,dy,ox,vx,rfl,ne,I3.kIn,r,gx,dtx,(xc rfl).1,λh' r' kp=>?_⟩));obtain ⟨o1',o2',o3'⟩:=J3.newT (uo7 _);have J4:=J3.left hy (J3.hok.fresh (uo7 _)) ny (un3 J3.sz (uo7 _)) (ch:=[y]) (h':=h') ⟨λb u hb _ e=>(kp b (by simpa using hb)).trans e,λb u hb e=>⟨u.slots,(kp b (by simpa using hb)).trans e⟩⟩ (λb hb=>.inl (by simpa using hb)) r'.is o2' o1' o3';have o4:XOn false X pins H1 { s3 with heap:=h' } y C2 dy none .none:=⟨hy,ny,r',(λa e=>by cases e),.inl rfl⟩;refine FM I3.ok.frames J4 h1 h2 o4 λh5 a J5 o5=>?_;refine Ri J5 hN hi hl λs6 J6 k6=>?_;have o6:=o5.keep J5 k6;obtain ⟨oy,vy,gy,_,_,dty,tby,_⟩:=id o6.rc;unfold PySem.passOn;refine up1 (up0 gy dty tby ?_);rw [if_neg (show ¬((Value.ref a == Value.none)=true) from by intro z;cases z)]
   rw [h2];refine up1 (EF (some X.env.locals) J6 o6 (.inr rfl) λh7 J7 o7=>wpAny_throw ?_);refine FM I3.ok.frames J7 h1 h2 o7 λh8 a8 J8 o8=>?_;obtain ⟨oz,vz,gz,_,_,dtz,tbz,_⟩:=id o8.rc;show cameBackBy _ _ _ _ _ _;unfold cameBackBy;refine up1 (up0 gz dtz tbz ?_);rw [if_neg (show ¬((Value.ref a8 == Value.none)=true) from by intro z;cases z)]
   rw [h2];exact EF (some X.env.locals) J8 o8 (.inr rfl) λh9 J9 o9=>hx pins _ H1 _ y C2 dy _ _ J9 o9 q1
end
structure FnOkH (P:Program)(w:World)(K:PySem.W.Frag)(mg:Str->Option Value)(base:Heap)(CX:CXT)(k:Nat)(f:Addr)(fd:FuncData)(ps:List Str)(sp:Sp):Prop where
 len:∀vs H Q E,sp vs H Q E->vs.length=ps.length
 run:∀(z:Addr) (A:Around) (outer:List Env) (s:Shared) (H:Hp) (args:Args) (us:List Value) (vs:List V) (Q:VK) (E:XK),Room k A->Env0 P w K mg base A outer s H->BindsTo s fd args (ps.zip us)->Vals vs us->sp vs H Q E->
  codeAny (model P w) (A.mark (some (.ref z))) (.call (.ref f) args) (CR CX outer P w H s Q E) s
theorem Xx {CX:CXT}{P:Program}{w:World}{K:PySem.W.Frag}{mg:Str->Option Value}{base:Heap}{k:Nat}{f:Addr}{name qual:Str}{params:Arguments}{body:List Stmt}{scope:Scope}{dV kV doc pm cdv ct oc:Value}{an od:Option Addr}
 {osl:Array (Option Value)} {N ps:List Str} {sp:Sp} (lk:K.lookup f=some ⟨oc,od,.func (PySem.W.fnOf name qual params body scope dV kV doc pm an cdv ct),osl⟩) (hcd:PySem.W.codeIn K cdv qual=true) (S:FnScope N ps scope)
 (len:∀vs H Q E,sp vs H Q E->vs.length=ps.length)
 (hbody:∀(z:Addr) (A:Around) (outer:List Env) (s:Shared) (H:Hp) (vs:List V) (Q:VK) (E:XK),Room k (A.deeper (envOfC qual scope s.heap.objs.size f cdv))->sp vs H Q E->
   ∃t,PSs ((Dl CX P w K mg base N qual scope f cdv A outer s H E).mark z) body t/\t { nx:=λ_ H'=>Q .non H',rt:=Q } (start N vs) H) :
 FnOkH P w K mg base CX (k + 1) f (PySem.W.fnOf name qual params body scope dV kV doc pm an cdv ct) ps sp:=by
 refine ⟨len,λz A outer s H args us vs Q E hr e0 hb r hsp=>?_⟩;have hl:=len _ _ _ _ hsp;have KX:K.In s.heap:=e0.mod.kin.keeps λb o e=>(e0.bs b o e).1;have lim:s.heap.NoLimit:=e0.mod.nolimit.keeps λb o e=>(e0.bs b o e).1;have hkind:∀y∈ps.zip us,scope.names.lookup y.1=some .local\/(scope.names.lookup y.1=some .cell/\((cellsFrom (s.heap.objs.size + 1) scope.names []).lookup y.1).isSome=true):=λz9 hy=>by
  obtain ⟨n,v⟩:=z9;rcases S.par n (uj7 hy).1 with q | q
  ·exact .inl q
  ·exact .inr ⟨q,uc4 _ _ _ (.inl q)⟩
 refine codeAny_call_function (A:=A.mark (some (.ref z))) hr.depth (KX _ _ lk) rfl S.co S.gen rfl (PySem.W.codeRec_of KX hcd) (hb _ _ _ _ ?_);refine wpAny_newFunctionEnv_cells S.kind hkind λenv he s1 x=>?_;subst he;refine ⟨lim.keeps x.toInCall.keep,codeAny_func ?_⟩;obtain ⟨t,ht,hq⟩:=hbody z A outer s H vs Q E (hr.deeper _) hsp;have I:Inv (Dl CX P w K mg base N qual scope f cdv A outer s H E) [] (start N vs) H s1:=Lk S hr.hd e0 hl r x;refine up3 (ht [] s1 (start N vs) H _ (I.mark z) hq) (λfl s' hs=>?_) λe s' hs=>hs.elim;have fin:∀{Z':St} {H':Hp} {v:V} {u:Value},Inv ((Dl CX P w K mg base N qual scope f cdv A outer s H E).mark z) [] Z' H' s'->RelV v u->Q v H'->CE outer P w H s Q u s':=
  λ{Z' H' v u} J rv q=>⟨v,H',J.os,J.bare,J.base,J.hok,rv,q⟩
 cases fl with
 | ret u=>
   obtain ⟨v,Z',H',J,rv,q⟩:=hs;exact fin J rv q
 | next=>
   obtain ⟨Z',H',J,q⟩:=hs;exact fin (v:=V.non) (u:=Value.none) J rfl q
 | brk=>
   obtain ⟨_,_,_,q⟩:=hs;exact False.elim q
 | cont=>
   obtain ⟨_,_,_,q⟩:=hs;exact False.elim q
theorem Fun.okH {P:Program}{w:World}{K:PySem.W.Frag}{mg:Str->Option Value}{base:Heap}{x qual:Str}{st:Stmt}{f:Addr}{fd:FuncData}{N ps:List Str}{k:Nat}{sp:Sp}(F:Fun K x qual st f fd)(S:FnScope N ps (Al st))(len:∀vs H Q E,sp vs H Q E->vs.length=ps.length)
 (hbody:∀(cdv:Value) (z:Addr) (A:Around) (outer:List Env) (s:Shared) (H:Hp) (vs:List V) (Q:VK) (E:XK),Room k (A.deeper (envOfC qual (Al st) s.heap.objs.size f cdv))->sp vs H Q E->
   ∃t,PSs ((Dl CX0 P w K mg base N qual (Al st) f cdv A outer s H E).mark z) (A0 st) t/\t { nx:=λ_ H'=>Q .non H',rt:=Q } (start N vs) H):FnOkH P w K mg base CX0 (k + 1) f fd ps sp:=by
 obtain ⟨oc,od,kV,doc,pm,an,cdv,ct,osl,rfl,lk,hcd⟩:=F.ex;exact Xx lk hcd S len λz A outer s H vs Q E hr hsp=>hbody cdv z A outer s H vs Q E hr hsp
section
variable {qx:Bool}{X:Cx}{k:Nat}{f C P:Addr}{fd:FuncData}{pins:List (Addr×Obj)}{Z:St}{H:Hp}{s:Shared}{Q:Value->Shared->Prop}{us:List Value}{vs:List V}{a b:Str}{ps:List Str}{v v2:V}{u u2:Value}{n:Str}{p pos:Pos}{e e':Expr}
theorem Nr {z:Addr}(M:XMk X.K C P f)(ha:XAt X.K C P a)(hab:XAt X.K C P b)(F:FnOkH X.prog X.w X.K X.mg X.base CX0 k f fd ps (HH X.K P a b))(hr:Room (k + 1) X.A)(hb:Binds X.K fd ps [])(I:Inv (X.mark z) pins Z H s)(r:RelV v u)(rr:RelV v2 u2)
 (h:∀s' x dx,Inv (X.mark z) pins Z (upd (upd H dx (.xd [(a,v),(b,v2)])) x (.ext (F2.XIs qx x C (some dx)))) s'->H x=none->H dx=none->dx≠x->s.heap.objs.size<=x->XRec true s'.heap x C (some dx) .none->Q (.ref x) s'):wpAny (model X.prog X.w) (X.mark z).A (call (.ref C) [u,u2]) Q (X.mark z).xe s:=by
 obtain ⟨nm,q,N,bs,sn,sub,ab,col,dd,k0,k1,k2,k3,k5,hC,hN⟩:=M.cl.obj I.kIn;have hni:s.heap.nsMap N "__init__" = some (.ref f):=by
  obtain ⟨cd,c1,c2⟩:=M.init;refine GU I.kIn hN ?_;unfold clsIn at c1
  split at c1
  ·next l=>
   cases c1
   have z:=I.kIn _ _ l;rw [hC] at z
   cases z
   exact c2
  ·cases c1
 have I1:Inv (X.mark z) pins Z (upd H (s.heap.objs.size + 1) (exO (s.heap.objs.size + 1) C s.heap.objs.size)) { s with heap:=DH s.heap C [u,u2] }:=by
  refine I.laid (t':=s.toks) (λb o e=>uc3 _ (uc3 _ e)) (uo9 _) (Mq ?_);show ((s.heap.push _).push _).get? _=_
  heap_get
 have hx0:=I.hok.fresh (uo9 s.heap.objs.size);have r2:Vals [V.ref (s.heap.objs.size + 1),v,v2] [Value.ref (s.heap.objs.size + 1),u,u2]:=.cons rfl (.cons r (.cons rr .nil));have hsp:HH X.K P a b [V.ref (s.heap.objs.size + 1),v,v2] (upd H (s.heap.objs.size + 1) (exO (s.heap.objs.size + 1) C s.heap.objs.size))
  (λw' H'=>w' = .non/\∃dx,H dx=none/\dx≠s.heap.objs.size + 1/\H'=upd (upd H dx (.xd [(a,v),(b,v2)])) (s.heap.objs.size + 1) (EY (s.heap.objs.size + 1) C s.heap.objs.size dx)) E0:=by
  refine ⟨_,C,s.heap.objs.size,v,v2,rfl,Ak,ha,hab,λdx h1 h2=>⟨rfl,dx,by rw [Ah h2] at h1;exact h1,h2,?_⟩⟩
  funext b
  by_cases e1:b=s.heap.objs.size + 1
  ·subst e1;rw [Ak,Ak]
  ·by_cases e2:b=dx
   ·subst e2;rw [Ah e1,Ah e1,Ak,Ak]
   ·rw [Ah e1,Ah e1,Ah e2,Ah e2,Ah e1]
 have hl:([Value.ref (s.heap.objs.size + 1),u,u2]++[]).length=ps.length:=by
  have e:=F.len _ _ _ _ hsp;simpa using e
 obtain ⟨hh,g,d,t,os⟩:=s;refine wpAny_call (Jj ua8 (M.cl.tail I.kIn) hC hN hni ((bind_fn I.kIn _ (beq_iff_eq.mp M.fn))) (by show 2<=sizeLine;decide) ?_);refine codeAny_mono (F.run z _ X.stack _ _ ⟨[Value.ref (hh.objs.size + 1),u,u2],[]⟩ [Value.ref (hh.objs.size + 1),u,u2] _ _ E0 (hr.make C [u,u2] []) (Env0.make (A:=X.A) ⟨I1.env0.frames,I1.env0.mod,I1.env0.bs,I1.env0.bsz,I1.env0.funs,I1.env0.frf,I1.env0.hok,I1.env0.bare⟩ C [u,u2] []) (by have:=hb _ [Value.ref (hh.objs.size + 1),u,u2] I1.kIn hl;simpa using this) r2 hsp) λr s' hq'=>?_
 cases r with
 | error e=>exact hq'.elim
 | ok fl=>
   cases fl with
   | ret w'=>
     obtain ⟨v',H',I3,rv,rfl,dx,d1,d2,rfl⟩:=I1.after hq';refine ⟨rv,?_⟩;have hx:=(I3.hok (hh.objs.size + 1) _ Ak).1;have hx:s'.heap.get? (hh.objs.size + 1)=some { excObj C hh.objs.size with dict:=some dx }:=hx;have xr:XRec true s'.heap (hh.objs.size + 1) C (some dx) .none:=⟨_,_,hx,rfl,rfl,rfl,rfl,λ_=>⟨rfl,by show 4 < 6;decide⟩⟩;have I4:=I3.write (x:=hh.objs.size + 1) (e:=hh.objs.size + 1) (o:=.ext (F2.XIs qx (hh.objs.size + 1) C (some dx))) (h':=s'.heap) (t':=s'.toks) (by rw [Ak];trivial) (.inl rfl) (λ_ _ _ z=>z) ⟨_,hx⟩ (Hi xr.to.is);rw [K5] at I4;exact h s' (hh.objs.size + 1) dx I4 hx0 d1 d2 (uo9 _) xr
   | next=>exact False.elim hq'
   | brk=>exact False.elim hq'
   | cont=>exact False.elim hq'
theorem VP {z:Addr}{t:TA}(M:XMk X.K C P f)(ha:XAt X.K C P a)(hab:XAt X.K C P b)(F:FnOkH X.prog X.w X.K X.mg X.base CX0 k f fd ps (HH X.K P a b))(hr:Room (k + 1) X.A)(hb:Binds X.K fd ps [])(hg:Gl (X.mark z) n)(hm:X.mg n=some (.ref C))(hA:PA (X.mark z) [e,e'] t)
 (hdb:(n == ("__debug__" : Str))=false:=by decide) (h1:starEach [e,e'] X.env=(false,eval e X.env) :: starEach [e'] X.env:=by rfl) (hpl:(backTo pos (starEach [e'] X.env)).any (·.1)=false:=by rfl) :
 PM qx (X.mark z) (.Call (.Name n p) [e,e'] [] pos) C (λZ H Q=>t Z H λvs H1=>∃v u,vs=[v,u]/\∀x dx,H1 x=none->H1 dx=none->dx≠x->Q x (some dx) (upd (upd H1 dx (.xd [(a,v),(b,u)])) x (.ext (F2.XIs qx x C (some dx))))):=by
 intro pins s Z H Q I h;refine wpAny_Call_Name_kw (CB I hg hm ?_ hdb);refine uf5 (h₀:=X.base) I.ok.mod.kin M.kp (thn (hA pos pins s Z H _ I h) λus s1 z9=>?_) h1 hpl;obtain ⟨vs,H1,I1,r,v,u,ev,q⟩:=z9;refine ⟨I1.kIn,?_⟩;subst ev
 cases r with
 | cons r0 rs=>
   cases rs with
   | cons r1 rs=>
     cases rs
     exact Nr (X:=X) (z:=z) M ha hab F hr hb I1 r0 r1 λs' x dx I' hx hdx ne nx rc=>⟨x,some dx,_,rfl,I',Ak,un3 I1.sz nx,rc,q x dx hx hdx ne⟩
end
end L2
namespace F2
open PySem L2 PySem.Spec PySem.W
section
variable {X:Cx}{pos p p2 p3 p4:Pos}{P:Addr}{ca:Str->Addr}{E:XK}{e e' cN:Expr}
def Rz (prog:Program)(w:World)(K:PySem.W.Frag)(mg:Str->Option Value)(base:Heap)(C P:Addr):Prop:=
 ∃(f:Addr) (fd:FuncData) (ps:List Str),XMk K C P f/\XAt K C P "at"/\XAt K C P "side"/\Binds K fd ps []/\FnOkH prog w K mg base CX0 1 f fd ps (HH K P "at" "side")
theorem ZD {n' v:Str}{C':Addr}{bm':List Value}{i:Nat}{rest:List ExceptHandler}{f:M (List D)}{r:D->M Out}(x:XM X.K X.mg P ca)(xn:Rz X.prog X.w X.K X.mg X.base (ca "Broken") P)(h1:X.stack=X.env :: X.outer)(h2:X.env.frame=some X.env.locals)(hr:L2.Room 2 X.A)
 (hg:Gl X n') (hm:X.mg n'=some (.ref C')) (c':XCl X.K C' bm') (hs:∀n∈Bh,(Value.ref (ca n) :: .ref P :: VE).contains (.ref C')=Fb n n')
 (hN:X.N.Nodup) (hi:X.N[i]?=some v) (hl:X.env.scope.names.lookup v=some .local) (hx:HS X (λ_=>E)) (hgB:Gl X "Broken") (ha:∀x,PA (X.mark x) [e,e'] (RA X.K f))
 (hz:∀(A:Around) (s:Shared) (Q:Value->Shared->Prop) (E:Value->Shared->Prop),Q Value.none s->wpAny (model X.prog X.w) A (eval cN X.env) Q E s)
 (hrest:PH true X rest (RH X.K ca (μX X.K E) r)) (hdb:(n' == ("__debug__" : Str))=false:=by decide) (hs1:AR e=false:=by rfl) (hs2:AS [e']=true:=by rfl) :
 PH true X (.ExceptHandler (some (.Name n' p)) (some v) [.Raise (some (.Call (.Name "Broken" p3) [e,e'] [] p4)) (some cN) p2] pos :: rest) (RH X.K ca (μX X.K E) (hAs n' i (Dv "Broken" f) r)):=by
 obtain ⟨fa,fd,ps,M,A,A2,B,F⟩:=xn;have hnB:("Broken" : Str)∈Bh:=by decide
 intro pins s0 Z H y C dx T D I o q;refine ZX h1 h2 hg hm c' hN hi hl M.cl (λz=>VP M A A2 F hr B hgB (x.ms _ hnB) (ha z) (by decide) (AW hs1) (AQ hs2).1) hx hz hrest hdb pins s0 Z H y C dx T D I o ?_;obtain ⟨Oo,c,t,n,ds,fi,hn,rfl,rv,o1,t',eq,k⟩:=q;refine ⟨_,x.cl n hn,?_⟩;rw [hs n hn];unfold hAs at eq;dsimp only at eq
 by_cases hb':Fb n n'=true
 ·rw [if_pos hb'] at eq ⊢
  cases e1:Dv "Broken" f { t with env:=t.env.set i (some (.val (.exc n ds))) } with
  | none=>rw [e1] at eq;cases eq
  | some z=>
    obtain ⟨o2,t2⟩:=z;rw [e1] at eq
    cases eq
    obtain ⟨es,t1,e2,e1⟩:=Af e1;have hny:¬c.A y:=by cases rv with | exc _ _ hA _ _=>exact hA
    refine ⟨Oo,c,_,fi.set rv,es,t1,e2,λvs H1 c1 f1 s1 rvs=>?_⟩;rcases es with _ | ⟨d,_ | ⟨d',_ | ⟨_,_⟩⟩⟩
    ·cases e1
    ·cases e1
    ·cases rvs with
     | @cons v0 _ _ _ r0 rs=>
     cases rs with
     | @cons v1 _ _ _ r1 rs=>
     cases rs
     cases e1
     refine ⟨_,_,rfl,λu du hu hdu ne=>?_⟩;have hy1:H1 y=some (.ext (XIs true y (ca n) dx)):=s1.ext.keep _ _ o.hx hny;have nyu:y≠u:=λz=>by rw [z,hu] at hy1;cases hy1
     have nyd:y≠du:=λz=>by rw [z,hdu] at hy1;cases hy1
     have f2:=f1.laid (o:=.xd [("at",v0),("side",v1)]) hdu;have hu2:upd H1 du (.xd [("at",v0),("side",v1)]) u=none:=by rw [Ah (Ne.symm ne)];exact hu
     have f3:=f2.laid (o:=.ext (XIs false u (ca "Broken") (some du))) hu2;have ex:=(f1.stp_laid (o:=.xd [("at",v0),("side",v1)]) hdu).ext.trans (f2.stp_laid (o:=.ext (XIs false u (ca "Broken") (some du))) hu2).ext;have s3:=s1.trans ((f1.stp_laid (o:=.xd [("at",v0),("side",v1)]) hdu).trans (f2.stp_laid (o:=.ext (XIs false u (ca "Broken") (some du))) hu2));refine ⟨Ne.symm nyu,by rw [Ah nyu,Ah nyd];exact hy1,?_⟩;refine k _ _ c1 (f3.unset i) s3 (.ref u) (.exc (x.ns _ hnB) Ak (f2.s.free hu2) ?_ (.cons (r0.mono ex) (.cons (r1.mono ex) .nil))) u (some du) rfl;exact ⟨by rw [Ah ne,Ak];rfl,f1.s.free hdu⟩
    ·cases e1
 ·rw [if_neg hb'] at eq ⊢;exact ⟨Oo,c,t,n,ds,fi,hn,rfl,rv,o1,t',eq,k⟩
end
theorem Qc {prog:Program}{w:World}{K:PySem.W.Frag}{mg:Str->Option Value}{base:Heap}{C P:Addr}{qual:Str}{st:Stmt}{p1 p2 p3 p4 p5 p6 p7 p8:Pos}(hbd:A0 st=[.Assign [.Attribute (.Name "self" p1) "at" p2] (.Name "at" p3) p4,.Assign [.Attribute (.Name "self" p5) "side" p6] (.Name "side" p7) p8])(S:FnScope ["self", "at", "side"] ["self", "at", "side"] (Al st))
 (s1:(Al st).names.lookup ("self" : Str)=some NameKind.local) (s2:(Al st).names.lookup ("at" : Str)=some NameKind.local) (s3:(Al st).names.lookup ("side" : Str)=some NameKind.local) (x:XF2 K C P qual st):Rz prog w K mg base C P:=by
 obtain ⟨f,fd,M,A,A2,B,F⟩:=x;refine ⟨f,fd,_,M,A,A2,B,F.okH (k:=0) S (λvs H Q E h=>?_) λcdv z A' outer s H vs Q E hr h=>?_⟩
 ·obtain ⟨y,C',tp,v,u,rfl,_⟩:=h;rfl
 ·rw [hbd];refine ⟨_,Jq (OY (P:=P) (Cl (i:=0) rfl (.inl s1) (by decide) (by decide)) (Cl (i:=1) rfl (.inl s2) (by decide) (by decide)) rfl) (Go (QP (P:=P) (f1:="at") (by decide) (Cl (i:=0) rfl (.inl s1) (by decide) (by decide)) (Cl (i:=2) rfl (.inl s3) (by decide) (by decide)) rfl)),?_⟩;obtain ⟨y,C',tp,v,u,rfl,hy,ha,ha2,k⟩:=h;refine ⟨v,rfl,.ref y,rfl,y,C',tp,rfl,hy,ha,λdx h1 h2=>⟨u,rfl,.ref y,rfl,y,C',tp,dx,v,rfl,Ak,by rw [Ah h2,Ak],h2,ha2,?_⟩⟩;have z:=k dx h1 h2;have e:upd (upd (upd H dx (.xd [("at",v)])) y (EY y C' tp dx)) dx (.xd [("at",v),("side",u)])=upd (upd H dx (.xd [("at",v),("side",u)])) y (EY y C' tp dx):=by
   funext b
   by_cases e1:b=dx
   ·subst e1;rw [Ak,Ah h2,Ak]
   ·by_cases e2:b=y
    ·subst e2;rw [Ah e1,Ak,Ak]
    ·rw [Ah e1,Ah e2,Ah e1,Ah e2,Ah e1]
  rw [e];exact z
end F2
namespace L2
open PySem PySem.Spec PyProof.Rows
section
variable {prog:Program}{w:World}{A:Around}{E:Value->Shared->Prop}{s:Shared}
variable {I:Addr}{fp wr:List Addr}{G:Array GenState->Array GenState->Prop}{n:Nat}{P:Nat->Value->Prop}{St:Nat->Shared->Prop}
def cZ (prog:Program)(w:World)(h:Heap)(no:List Addr)(k:Key)(x v:Value):Prop:=∃(p:Addr) (o:Obj) (kv:Value) (q:Nat),v = .ref p/\p∉no/\h.get? p=some o/\o.cls = .type "tuple"/\o.data = .seq #[kv,x] q/\(BH prog w).is k kv=true
end
section
variable {X:Cx}
end
end L2
namespace F2
open PySem L2 PySem.Spec PyProof.Rows
section
variable {X:Cx}{pos:Pos}{e:Expr}
end
end F2
namespace L2
open PySem PySem.Spec PyProof.Rows
def YE (neg:Bool):R2:=λx y H Q=>∃a kvs k,x = .str k/\y = .ref a/\H a=some (.dK kvs)/\Q (.bl (if neg then !(DM kvs (Sum.inr k:Key)).isSome else (DM kvs (Sum.inr k:Key)).isSome)) H
section
variable {X:Cx}
theorem Yb (hu:X.A.units + 64 < cLine):OpR X (compareOp .In) (YE false):=by
 intro pins s Z H x y v u Q I rx ry h;obtain ⟨a,kvs,k,rfl,rfl,e,q⟩:=h
 cases ry
 exact bg (by lia) I (DGet.k (k:=(Sum.inr k:Key)) e) rx λs' I'=>⟨.bl _,H,I',rfl,q⟩
theorem Ov:Ch X (.type "dict") (λxs H Q=>∃(p:Addr) (kvs:List (Key×V)),xs=[.ref p]/\H p=some (.dK kvs)/\∀l,H l=none->Q (.ref l) (upd H l (.dK kvs))):=by
 intro pins s Z H xs us0 Q I r h;obtain ⟨p,kvs,rfl,e,q⟩:=h;obtain ⟨u,rfl,rx⟩:=EN r
 cases rx
 obtain ⟨hz,hp,vs,rel,dd⟩:=LK I.hok e;refine kt_call_dict hp dd (by rw [<-rel.length];exact hz) λh' hD sb=>?_;have nm:(s.heap.objs.size == sysModules)=false:=by
  have:=I.big;rw [beq_eq_false_iff_ne];exact un5 this
 have hk:∀b o,s.heap.get? b=some o->h'.get? b=some o:=λb o eb=>by
  rw [sb.2 b (un2 (un1 eb))];exact uc3 _ eb
 exact ⟨.ref s.heap.objs.size,_,I.laid (t':=s.toks) hk (uo7 _) (Mo hz nm rel hD),rfl,q _ (I.hok.fresh (uo7 _))⟩
end
end L2
namespace F2
open PySem L2 PySem.Spec PyProof.Rows
def inS (neg:Bool):D->D->M D
 | .str k,.obj n=>λt=>match t.S[n]? with
   | some (.dct kvs)=>some (.bl (if neg then !(AV kvs (.inr k)).isSome else (AV kvs (.inr k)).isSome),t)
   | _=>none
 | _,_=>fail
def HZ:List D->M D
 | [.obj n]=>λt=>match t.S[n]? with
   | some (.dct kvs)=>some (.obj t.S.length,{ t with S:=t.S++[.dct kvs] })
   | _=>none
 | _=>fail
section
variable {K:PySem.W.Frag}
theorem V9 {neg:Bool}:A8 K (YE neg) (inS neg):=λ{Oo c t Z H x y dx dy r t' Q} f rx ry eq k=>by
 unfold inS at eq
 split at eq
 ·next z n=>
  cases rx
  cases ry with
  | @obj a kk hk=>
    split at eq
    ·next kvs es=>
     cases eq
     obtain ⟨us,g1,g2⟩:=f.s.obs _ a _ hk es;refine ⟨a,us,z,rfl,rfl,g1,?_⟩;rw [g2.has];exact k _ H c f .refl (.bl _)
    ·cases eq
 ·cases eq
end
section
variable {X:Cx}{pos:Pos}{e:Expr}
theorem RZ {f:M (List D)}{p:Pos}(hg:Gl X "dict")(hm:X.mg "dict" = none)(ha:PA X [e] (RA X.K f))(h1:AR e=false:=by rfl) :
 PE X (.Call (.Name "dict" p) [e] [] pos) (RE X.K (fB f HZ)):=
 AL (HB Ov hg hm (by decide +kernel) ha (by decide) (by decide) (AW h1) rfl) λZ H Q z9=>by
  obtain ⟨Oo,c,t,fi,r,t',eq,k⟩:=z9;obtain ⟨as,t1,e1,eq⟩:=Af eq;unfold HZ at eq
  split at eq
  ·next n=>
   split at eq
   ·next kvs es=>
    cases eq
    refine ⟨Oo,c,t,fi,_,_,e1,λvs H1 c1 f1 s1 rv=>?_⟩;obtain ⟨v,rfl,rw1⟩:=DT rv
    cases rw1 with
    | @obj a kk hk=>
    obtain ⟨us,g1,g2⟩:=f1.s.obs _ a _ hk es;refine ⟨a,us,rfl,g1,λl hnl=>?_⟩;obtain ⟨c2,f2,s2,eo⟩:=f1.newObj (o:=.dct kvs) (u:=.dK us) hnl λc' H' ex hu=>⟨_,hu,g2.mono ex⟩;exact k _ _ c2 f2 (s1.trans s2) (.obj eo)
   ·cases eq
  ·cases eq
end
end F2
namespace F2
open PySem L2 PySem.Spec PySem.W
theorem UW {P:Program}{w:World}{K:PySem.W.Frag}{mg:Str->Option Value}{base:Heap}{x qual:Str}{st:Stmt}{fa:Addr}{fd:FuncData}{N ps:List Str}{k n m:Nat}{g:M Out}(e1:ps.length=n)(e2:N.length=m)(F:Fun K x qual st fa fd)(S:FnScope N ps (Al st))
 (hb:∀(cdv:Value) (A:Around) (outer:List Env) (s:Shared) (H:Hp) (E:XK),L2.Room k (A.deeper (PyProof.Rows.envOfC qual (Al st) s.heap.objs.size fa cdv))->
   Cd (CX1 false P w) (cxX false P w K mg base N qual (Al st) fa cdv A outer s H E) (λ_=>E)->Ft false (cxX false P w K mg base N qual (Al st) fa cdv A outer s H E) (λ_=>E)->
   PassesOwn (model P w) (cxX false P w K mg base N qual (Al st) fa cdv A outer s H E).A (cxX false P w K mg base N qual (Al st) fa cdv A outer s H E).env (cxX false P w K mg base N qual (Al st) fa cdv A outer s H E).xe->
   HS (cxX false P w K mg base N qual (Al st) fa cdv A outer s H E) (λ_=>E)->
   PSs (cxX false P w K mg base N qual (Al st) fa cdv A outer s H E) (A0 st) (RSg K (μX K E) g)):FnOk P w K mg base (CX1 false P w) (k + 1) fa fd ps (spX K (fnOf n m g)):=
 NJ e1 e2 F S λcdv A outer s H E hr h1 h2 h3=>hb cdv A outer s H E hr h1 h2 h3 XE.raisesT
theorem U7 {M:Model}{env:Env}{j:Nat}{pos:Pos}:∀(A:Around) (s:Shared) (Q:Value->Shared->Prop) (E:Value->Shared->Prop),Q Value.none s->wpAny M A (eval (.Constant .none j pos) env) Q E s:=λA s Q E h=>up2 h
section
variable {X:Cx}
end
end F2
namespace F2
open PySem L2 PySem.Spec PyProof.Rows
section
variable {K:PySem.W.Frag}
end
abbrev Gd:=Option (Nat×List D)
def Gon (g:Gd)(S:List Ob):Prop:=∀k xs,g=some (k,xs)->S[k]?=some (.lst xs)
structure ItOk3 (K:PySem.W.Frag)(J:It)(g:Gd)(c:Cf)(H:Hp)(ds:List D):Prop where
 go:∀c' H' S' (i:Nat),Ext c H c' H'->SInv K c' S' H'->Gon g S'->i < ds.length->J.go i H'
 yld:∀c' H' S' (i:Nat) x H'' d,Ext c H c' H'->SInv K c' S' H'->Gon g S'->ds[i]?=some d->J.yld i H' x H''->∃p vs es,x = .ref p/\H' p=none/\H''=upd H' p (.tup vs)/\d = .tup es/\Reps K c' H' vs es
 stop:∀c' H' S',Ext c H c' H'->SInv K c' S' H'->Gon g S'->J.stop ds.length H'
inductive RI3 (K:PySem.W.Frag)(f:M (Gd×List D))(Z:L2.St)(H:Hp)(R:It->Hp->Prop):Prop where
 | mk (Oo:Addr->Prop) (c:Cf) (t:T) (fi:FInv K Oo c t Z H) (p:Gd×List D) (t':T) (e:f t=some (p,t')) (k:∀J H' c',FInv K Oo c' t' Z H'->Stp Oo c H c' H'->ItOk3 K J p.1 c' H' p.2->R J H'):RI3 K f Z H R
section
variable {X:Cx}{e a b tg iter elt:Expr}{ifs:List Expr}{pos:Pos}{scope:Scope}{N':List Str}{n:Nat}{fr:List Nat}{st:D->M Unit}{tst:M Bool}{el:M D}
end
structure ItOkG (K:PySem.W.Frag)(J:It)(g:Gd)(c:Cf)(H:Hp)(ds:List D):Prop where
 go:∀c' H' S' (i:Nat),Ext c H c' H'->SInv K c' S' H'->Gon g S'->i < ds.length->J.go i H'
 yld:∀c' H' S' (i:Nat) x H'' d,Ext c H c' H'->SInv K c' S' H'->Gon g S'->ds[i]?=some d->J.yld i H' x H''->H''=H'/\Rep K c' H' x d
 stop:∀c' H' S',Ext c H c' H'->SInv K c' S' H'->Gon g S'->J.stop ds.length H'
section
variable {X:Cx}{e a b tg iter elt:Expr}{ifs:List Expr}{pos:Pos}{scope:Scope}{N':List Str}{n:Nat}{fr:List Nat}{st:D->M Unit}{tst:M Bool}{el:M D}
end
end F2
namespace F2
open PySem L2 PySem.Spec PySem.W
def CM (K:PySem.W.Frag):Prop:=∀n∈KJ,∀C,nsIn K mainGlobals n=some (some (.ref C))->Cls K C/\∀f∈atN,NoAttr K C f
noncomputable def FO (f:Str)(v:D):List (Str×D)->List (Str×D)
 | []=>[(f,v)]
 | (g,x) :: r=>if g=f then (g,v) :: r else (g,x) :: FO f v r
section
variable {K:PySem.W.Frag}{c:Cf}{H:Hp}
theorem FldR.len:∀{us:List (Str×V)} {fs:List (Str×D)},FldR K c H us fs->us.length=fs.length
 | _,_,.nil=>rfl
 | _,_,.cons _ t=>by rw [uh5,uh5,FldR.len t]
theorem FldR.look {f:Str}{d:D}:∀{us:List (Str×V)} {fs:List (Str×D)},FldR K c H us fs->fs.lookup f=some d->∃v,us.lookup f=some v/\Rep K c H v d
 | _,_,.nil,e=>by cases e
 | (g,x) :: us,(g',y) :: fs,.cons ⟨h1,h2⟩ t,e=>by
   have h1:g=g':=h1;subst h1
   by_cases q:(f == g)=true
   ·simp only [List.lookup,q] at e ⊢
    cases e
    exact ⟨_,rfl,h2⟩
   ·have q:(f == g)=false:=by simpa using q
    simp only [List.lookup,q] at e ⊢;exact FldR.look t e
theorem FldR.none {f:Str}:∀{us:List (Str×V)} {fs:List (Str×D)},FldR K c H us fs->(∀p∈fs,p.1≠f)->us.lookup f=none
 | _,_,.nil,_=>rfl
 | (g,x) :: us,(g',y) :: fs,.cons ⟨h1,h2⟩ t,e=>by
   have h1:g=g':=h1;subst h1;have q:(f == g)=false:=by
    have:=e (g,y) (.head _);simpa using λz:f=g=>this z.symm
   simp only [List.lookup,q];exact FldR.none t λp hp=>e p (.tail _ hp)
theorem FldR.put {f:Str}{v:V}{d:D}(r:Rep K c H v d):∀{us:List (Str×V)} {fs:List (Str×D)},FldR K c H us fs->FldR K c H (CV f v us) (FO f d fs)
 | _,_,.nil=>.cons ⟨rfl,r⟩ .nil
 | (g,x) :: us,(g',y) :: fs,.cons ⟨h1,h2⟩ t=>by
   have h1:g=g':=h1;subst h1;show FldR K c H (if g=f then (g,v) :: us else (g,x) :: CV f v us) (if g=f then (g,d) :: fs else (g,y) :: FO f d fs)
   by_cases q:g=f
   ·rw [if_pos q,if_pos q];exact .cons ⟨rfl,r⟩ t
   ·rw [if_neg q,if_neg q];exact .cons ⟨rfl,h2⟩ (FldR.put r t)
theorem FldR.mono {c':Cf}{H':Hp}(e:Ext c H c' H'){us:List (Str×V)}{fs:List (Str×D)}(h:FldR K c H us fs):FldR K c' H' us fs:=Paired.mapP h λ_ _ z=>⟨z.1,z.2.mono e⟩
theorem N2 {f:Str}{v:D}(hf:f∈atN):∀{fs:List (Str×D)},(∀p∈fs,p.1∈atN)->∀p∈FO f v fs,p.1∈atN
 | [],_=>λp hp=>by rw [show FO f v []=[(f,v)] from rfl,uf8] at hp;subst hp;exact hf
 | (g,x) :: r,h=>λp hp=>by
   rw [show FO f v ((g,x) :: r)=(if g=f then (g,v) :: r else (g,x) :: FO f v r) from rfl] at hp
   split at hp
   ·rcases ul9.mp hp with e | e
    ·subst e;exact h (g,x) (.head _)
    ·exact h p (.tail _ e)
   ·rcases ul9.mp hp with e | e
    ·subst e;exact h (g,x) (.head _)
    ·exact N2 hf (λp hp=>h p (.tail _ hp)) p e
end
noncomputable def FB {α:Type}(d:D)(h:Nat->Str->List (Str×D)->M α):M α:=λt=>match d with
 | .obj k=>match t.S[k]? with
   | some (.ins n fs)=>h k n fs t
   | _=>none
 | _=>none
theorem Hm {α:Type}{d:D}{h:Nat->Str->List (Str×D)->M α}{t:T}{z:α×T}(e:FB d h t=some z):∃k n fs,d = .obj k/\t.S[k]?=some (.ins n fs)/\h k n fs t=some z:=by
 cases d with
 | obj k=>
   rw [show FB (.obj k) h t=(match t.S[k]? with | some (.ins n fs)=>h k n fs t | _=>none) from rfl] at e
   cases es:t.S[k]? with
   | none=>rw [es] at e;cases e
   | some o=>
     rw [es] at e
     cases o with
     | ins n fs=>exact ⟨k,n,fs,rfl,es,e⟩
     | _=>cases e
 | _=>cases e
def Ew (f:Str)(a:M D):M D:=bnd a λd=>FB d λ_ _ fs t=>(fs.lookup f).map λv=>(v,t)
def En (f:Str)(gv ga:M D):M Out:=bnd gv λv=>bnd ga λd=>FB d λk n fs t=>if fs.length < 1000 then some (.next,{ t with S:=t.S.set k (.ins n (FO f v fs)) }) else none
def Ia (n:Str)(g:Fn)(f:M (List D)):M D:=bnd f λds t=>match g (.obj t.S.length :: ds) (t.S++[.ins n []]) with
 | some (.non,S')=>some (.obj t.S.length,{ t with S:=S' })
 | _=>none
def BG (n:Str)(g:Fn)(o:M D)(f:M (List D)):M D:=bnd o λd=>FB d λ_ n' _=>if n'=n then bnd f λds t=>match g (d :: ds) t.S with
 | some (r,S')=>some (r,{ t with S:=S' })
 | none=>none else fail
theorem Gs {K:PySem.W.Frag}{c:Cf}{H:Hp}{v:V}{k:Nat}(h:Rep K c H v (.obj k)):∃a,v = .ref a/\c.ι[k]?=some a:=by
 cases h with
 | obj e=>exact ⟨_,rfl,e⟩
end F2
namespace L2
open PySem PySem.Spec PySem.W PyProof.Rows
section
variable {X:Cx}{CX:CXT}{k:Nat}{f C:Addr}{fd:FuncData}{ps:List Str}{sp:Sp}{E:St->XK}{x m:Str}{p pos apos:Pos}{e o:Expr}{es:List Expr}{ta:TE}{t:TA}
theorem N7 {pins:List (Addr×Obj)}{Z:St}{H:Hp}{s:Shared}{Q:VK}{us:List Value}{vs:List V}(F:FnOk X.prog X.w X.K X.mg X.base CX k f fd ps sp)(hr:Room k X.A)(hb:Binds X.K fd ps [])(hx:Cd CX X E)
 (I:Inv X pins Z H s) (r:Vals vs us) (h:sp vs H Q (E Z)):wpAny (model X.prog X.w) X.A (call (.ref f) us) (EP X pins Z Q) X.xe s:=by
 have hl:(us++[]).length=ps.length:=by rw [uj5,<-r.length];exact F.len _ _ _ _ h
 refine wpAny_call (codeAny_mono (F.run X.A X.stack s H ⟨us,[]⟩ us vs Q (E Z) hr I.env0 (by have:=hb s us I.kIn hl;rwa [uj5] at this) r h) λr s' hq=>?_)
 cases r with
 | error e=>exact hx pins Z H s e s' I hq
 | ok fl=>
   cases fl with
   | ret u=>exact I.after hq
   | next=>exact False.elim hq
   | brk=>exact False.elim hq
   | cont=>exact False.elim hq
def Y0 (C:Addr)(m:Str)(sp:Sp)(E:St->XK)(ta:TE)(t:TA):TE:=λZ H Q=>ta Z H λx H1=>∃a dx fs,x = .ref a/\H1 a=some (.ins C dx fs)/\fs.lookup m=none/\
 t Z H1 λvs H2=>sp (x :: vs) H2 Q (E Z)
abbrev Et (X:Cx)(o:Expr)(m:Str)(es:List Expr)(apos pos:Pos)(pl:Sem Bool):Prop:=eval (.Call (.Attribute o m apos) es [] pos) X.env=(do
 let ov <-eval o X.env
 standAt apos.atName
 let (f,first) <-holding [ov] (getMethod ov m pl)
 callWith pos f first (backTo pos (starEach es X.env)) (backToKw pos (keywordEach [] X.env)))
theorem SX {pl:Sem Bool}(he:PE X o ta)(c:Cls X.K C)(hm:Meth X.K C m f)(F:FnOk X.prog X.w X.K X.mg X.base CX k f fd ps sp)(hr:Room k X.A)(hb:Binds X.K fd ps [])(hx:Cd CX X E)(ha:PA X (e :: es) t)
 (hst:starEach (e :: es) X.env=(false,eval e X.env) :: starEach es X.env) (hpl:(backTo pos (starEach es X.env)).any (·.1)=false) (ht:Et X o m (e :: es) apos pos pl) :
 PE X (.Call (.Attribute o m apos) (e :: es) [] pos) (Y0 C m sp E ta t):=by
 intro pins s Z H Q I h;refine ud2 (pl:=pl) (thn (he pins s Z H _ I h) λu s1 z9=>?_) ht;obtain ⟨x,H1,I1,rx,a,dx,fs,ex,ea,l,q⟩:=z9;subst ex;obtain rfl:u=Value.ref a:=rx;refine GK I1 ea c hm l ?_;refine uf5 (first:=[.ref a]) (h₀:=X.base) I.ok.mod.kin hm.kp (thn (ha pos pins s1 Z H1 _ I1 q) λus s2 z9=>?_) hst hpl;obtain ⟨vs,H2,I2,r,q2⟩:=z9;refine ⟨I2.kIn,?_⟩;exact N7 (us:=.ref a :: us) (vs:=.ref a :: vs) F hr hb hx I2 (.cons rfl r) q2
structure ByCls (K:PySem.W.Frag)(C:Addr)(m:Str)(f:Addr):Prop where
 ga:specialIn K (.ref C) "__getattribute__" = some (some (.builtin "type.__getattribute__"))
 rd:readsIn K C (.type "type")=true
 at_:(match findCls K (.ref C) (.type "type") m with | some (.val (.ref g))=>g == f | _=>false)=true
 kp:keepIn K (.ref f)=true
theorem ByCls.found {K:PySem.W.Frag}{C f:Addr}{m:Str}(b:ByCls K C m f):findCls K (.ref C) (.type "type") m=some (.val (.ref f)):=by
 have q:=b.at_
 split at q
 ·next e=>rw [e];rw [beq_iff_eq.mp q]
 ·cases q
theorem SQ {pl:Sem Bool}(F:FnOk X.prog X.w X.K X.mg X.base CX k f fd ps sp)(hr:Room k X.A)(hg:Gl X x)(hm:X.mg x=some (.ref C))(bc:ByCls X.K C m f)(hb:Binds X.K fd ps [])(hx:Cd CX X E)(ha:PA X (e :: es) t)
 (hdb:(x == ("__debug__" : Str))=false) (hst:starEach (e :: es) X.env=(false,eval e X.env) :: starEach es X.env) (hpl:(backTo pos (starEach es X.env)).any (·.1)=false) (ht:Et X (.Name x p) m (e :: es) apos pos pl) :
 PE X (.Call (.Attribute (.Name x p) m apos) (e :: es) [] pos) (Rb sp E t):=by
 intro pins s Z H Q I h;refine ud2 (pl:=pl) (CB I hg hm ?_ hdb) ht;refine method_cls I.kIn bc.ga (cls_value I.kIn bc.rd bc.found rfl ?_);have I0:=I.tok (s.toks + 1);refine uf5 (first:=[]) (h₀:=X.base) I.ok.mod.kin bc.kp (thn (ha pos pins _ Z H _ I0 h) λus s2 z9=>?_) hst hpl;obtain ⟨vs,H2,I2,r,q2⟩:=z9;refine ⟨I2.kIn,?_⟩;exact N7 (us:=us) (vs:=vs) F hr hb hx I2 r q2
end
end L2
namespace F2
open PySem L2 PySem.Spec PySem.W
variable {n:Str}{h:Fn}{pl:Sem Bool}
section
variable {X:Cx}{e o a value:Expr}{es:List Expr}{pos pos' apos p:Pos}{f:Str}{g gv ga:M D}{fl:M (List D)}{C:Addr}
theorem Xk (cm:CM X.K)(hf:f∈atN)(he:PE X e (RE X.K g))(hb:attributeBase e f X.env (eval e X.env)=eval e X.env):PE X (.Attribute e f pos) (RE X.K (Ew f g)):=
 AL (Yj he hb) λZ H Q z9=>by
  obtain ⟨Oo,c,t,fi,r,t',eq,kk⟩:=z9;obtain ⟨d,t1,e1,eq⟩:=Af eq;obtain ⟨k,n,fs,rfl,es,eq⟩:=Hm eq;obtain ⟨y,e2,e3⟩:=uc6.mp eq
  cases e3
  refine ⟨Oo,c,t,fi,.obj k,_,e1,λv H1 c1 f1 s1 rv=>?_⟩;obtain ⟨b,rfl,hk⟩:=Gs rv;obtain ⟨⟨hn,hat⟩,C,dx,us,g1,g2,g3⟩:=f1.s.obs k b _ hk es;obtain ⟨w,l1,l2⟩:=g3.look e2;exact ⟨b,C,dx,us,w,rfl,g2,(cm n hn C g1).1,(cm n hn C g1).2 f hf,l1,kk w H1 c1 f1 s1 l2⟩
theorem XA {μ:Cf->Hp->D->(V->Hp->Prop)->Prop}(cm:CM X.K)(hf:f∈atN)(ha:PE X o (RE X.K ga))(hv:PE X value (RE X.K gv))(hs:swapsWith value (some (.Attribute o f pos')) pos.line X.env=pure false:=by rfl) :
 PS X (.Assign [.Attribute o f pos'] value pos) (RSg X.K μ (En f gv ga)):=
 A9 (Yv ha hv hs) λD Z H z9=>by
  obtain ⟨Oo,c,t,fi,r,t',eq,kk⟩:=z9;obtain ⟨d,t1,e1,eq⟩:=Af eq;obtain ⟨d2,t2,e2,eq⟩:=Af eq;obtain ⟨k,n,fs,rfl,es,eq⟩:=Hm eq
  split at eq
  ·next hl=>
   cases eq
   refine ⟨Oo,c,t,fi,d,t1,e1,λv H1 c1 f1 s1 rv=>⟨Oo,c1,t1,f1,.obj k,t2,e2,λx H2 c2 f2 s2 rx=>?_⟩⟩;obtain ⟨b,rfl,hk⟩:=Gs rx;obtain ⟨⟨hn,hat⟩,C,dx,us,g1,g2,g3⟩:=f2.s.obs k b _ hk es;refine ⟨b,C,dx,us,rfl,g2,(cm n hn C g1).1,(cm n hn C g1).2 f hf,by rw [g3.len];exact hl,?_⟩;obtain ⟨f3,s3⟩:=f2.wrObj (o:=.ins n (FO f d fs)) (u:=.ins C dx (CV f v us)) hk λc' H' ext hu=>⟨⟨hn,N2 hf hat⟩,C,dx,_,g1,hu,(FldR.put (rv.mono s2.ext) g3).mono ext⟩;exact kk Z _ c2 f3 ((s1.trans s2).trans s3)
  ·cases eq
theorem Qq {ds:List D}{t:T}{r:D}{t':T}(e:(match h (.obj t.S.length :: ds) (t.S++[.ins n []]) with | some (.non,S')=>some (.obj t.S.length,{ t with S:=S' }) | _=>none:Option (D×T))=some (r,t')) :
 ∃S',h (.obj t.S.length :: ds) (t.S++[.ins n []])=some (.non,S')/\r = .obj t.S.length/\t' = { t with S:=S' }:=by
 split at e
 ·next S' q=>cases e;exact ⟨S',q,rfl,rfl⟩
 ·cases e
theorem UN {k:Nat}{fa:Addr}{fd:FuncData}{ps:List Str}(hn:n∈KJ)(hC:nsIn X.K mainGlobals n=some (some (.ref C)))(M:Mk X.K C fa)(F:FnOk X.prog X.w X.K X.mg X.base CX0 k fa fd ps (spF X.K h))(hr:Room (k + 1) X.A)(hg:Gl X n)(hm:X.mg n=some (.ref C))(hb:Binds X.K fd ps [])
 (ha:PA X (e :: es) (RA X.K fl)) (hdb:(n == ("__debug__" : Str))=false:=by decide) (h1:AR e=false:=by rfl) (h2:AS es=true:=by rfl):PE X (.Call (.Name n p) (e :: es) [] pos) (RE X.K (Ia n h fl)):=
 AL (VH M F hr hg hm hb .nil Ix ha hdb (AW h1) (AQ h2).1) λZ H Q z9=>by
  obtain ⟨Oo,c,t,fi,r,t',eq,kk⟩:=z9;obtain ⟨ds,t1,e1,eq⟩:=Af eq;obtain ⟨S',e2,rfl,rfl⟩:=Qq eq;refine ⟨Oo,c,t,fi,ds,t1,e1,λvs H1 c1 f1 s1 rvs x dx hx hdx ne=>?_⟩;rw [uj5];have f2:=f1.laid (p:=dx) (o:=.own x) hdx;have s2:=f1.stp_laid (p:=dx) (o:=.own x) hdx;have hx2:upd H1 dx (.own x) x=none:=by rw [Ah (Ne.symm ne)];exact hx
  obtain ⟨c3,f3,s3,e3⟩:=f2.newObj (o:=.ins n []) (u:=.ins C dx []) hx2 λc' H' ext hu=>⟨⟨hn,λp hp=>by cases hp⟩,C,dx,[],hC,hu,.nil⟩;refine ⟨c3,.obj t1.S.length :: ds,_,f3.s,.cons (.obj e3) ((rvs.mono s2.ext).mono s3.ext),.non,S',e2,λv H' c' si st ho rv=>?_⟩;obtain ⟨f4,s4⟩:=f3.after si st ho
  cases rv
  exact ⟨rfl,kk _ H' c' f4 ((s1.trans s2).trans (s3.trans s4)) (.obj (st.ext.io _ _ e3))⟩
structure MAt (K:PySem.W.Frag)(n m:Str)(C fa:Addr):Prop where
 cl:n∈KJ
 at_:nsIn K mainGlobals n=some (some (.ref C))
 me:Meth K C m fa
 na:m∉atN
theorem Hx {d:D}{t:T}{r:D}{t':T}(e:FB d (λ_ n' _=>if n'=n then bnd fl λds t=>match h (d :: ds) t.S with | some (r,S')=>some (r,{ t with S:=S' }) | none=>none else fail) t=some (r,t')) :
 ∃k fs ds t1 S',d = .obj k/\t.S[k]?=some (.ins n fs)/\fl t=some (ds,t1)/\h (d :: ds) t1.S=some (r,S')/\t' = { t1 with S:=S' }:=by
 obtain ⟨k,n',fs,rfl,es,q⟩:=Hm e
 by_cases hn:n'=n
 ·subst hn;rw [if_pos rfl] at q;obtain ⟨ds,t1,e1,q⟩:=Af q;obtain ⟨S',e2,rfl⟩:=FZ q;exact ⟨k,fs,ds,t1,S',rfl,es,e1,e2,rfl⟩
 ·rw [if_neg hn] at q;cases q
section
variable {k:Nat}{fa:Addr}{fd:FuncData}{ps:List Str}{h:Fn}{n m:Str}{qx:Bool}{E:L2.St->XK}
theorem NI (cm:CM X.K)(ma:MAt X.K n m C fa)(F:FnOk X.prog X.w X.K X.mg X.base CX0 k fa fd ps (spF X.K h))(hr:Room k X.A)(hb:Binds X.K fd ps [])(he:PE X o (RE X.K g))(ha:PA X (e :: es) (RA X.K fl))
 (h1:AR e=false:=by rfl) (h2:AS es=true:=by rfl) (ht:Et X o m (e :: es) apos pos pl:=by rfl):PE X (.Call (.Attribute o m apos) (e :: es) [] pos) (RE X.K (BG n h g fl)):=
 AL (VI (pl:=pl) he (cm n ma.cl C ma.at_).1 ma.me F hr hb .nil Ix ha (AW h1) (AQ h2).1 ht) λZ H Q z9=>by
  obtain ⟨Oo,c,t,fi,r,t',eq,kk⟩:=z9;obtain ⟨d,t1,e1,eq⟩:=Af eq;obtain ⟨j,fs,ds,t2,S',rfl,es,e2,e3,rfl⟩:=Hx eq;refine ⟨Oo,c,t,fi,.obj j,t1,e1,λv H1 c1 f1 s1 rv=>?_⟩;obtain ⟨b,rfl,hk⟩:=Gs rv;obtain ⟨⟨_,hat⟩,C',dx,us,g1,g2,g3⟩:=f1.s.obs j b _ hk es;rw [ma.at_] at g1
  cases g1
  refine ⟨b,dx,us,rfl,g2,g3.none λp hp z=>ma.na (z ▸ hat p hp),Oo,c1,t1,f1,ds,t2,e2,λvs H2 c2 f2 s2 rvs=>?_⟩;show spF X.K h (V.ref b :: (vs++[])) H2 Q E0;rw [uj5];refine ⟨c2,.obj j :: ds,t2.S,f2.s,.cons (.obj (s2.ext.io _ _ hk)) rvs,r,S',e3,λv H' c' si st ho rv=>?_⟩;obtain ⟨f3,s3⟩:=f2.after si st ho;exact kk v H' c' f3 ((s1.trans s2).trans s3) rv
theorem Mr (cm:CM X.K)(ma:MAt X.K n m C fa)(F:FnOk X.prog X.w X.K X.mg X.base CX0 k fa fd ps (spF X.K h))(hr:Room k X.A)(hb:Binds X.K fd ps [])(he:PE X o (RE X.K g))(ht:Et X o m [] apos pos pl:=by rfl) :
 PE X (.Call (.Attribute o m apos) [] [] pos) (RE X.K (BG n h g (ret []))):=
 AL (SW (pl:=pl) he (cm n ma.cl C ma.at_).1 ma.me F hr hb .nil Ix ht) λZ H Q z9=>by
  obtain ⟨Oo,c,t,fi,r,t',eq,kk⟩:=z9;obtain ⟨d,t1,e1,eq⟩:=Af eq;obtain ⟨j,fs,ds,t2,S',rfl,es,e2,e3,rfl⟩:=Hx eq
  cases e2
  refine ⟨Oo,c,t,fi,.obj j,t1,e1,λv H1 c1 f1 s1 rv=>?_⟩;obtain ⟨b,rfl,hk⟩:=Gs rv;obtain ⟨⟨_,hat⟩,C',dx,us,g1,g2,g3⟩:=f1.s.obs j b _ hk es;rw [ma.at_] at g1
  cases g1
  refine ⟨b,dx,us,rfl,g2,g3.none λp hp z=>ma.na (z ▸ hat p hp),?_⟩;refine ⟨c1,[.obj j],t1.S,f1.s,.cons (.obj hk) .nil,r,S',e3,λv H' c' si st ho rv=>?_⟩;obtain ⟨f3,s3⟩:=f1.after si st ho;exact kk v H' c' f3 (s1.trans s3) rv
theorem U4 (cm:CM X.K)(ma:MAt X.K n m C fa)(F:FnOk X.prog X.w X.K X.mg X.base (CX1 qx X.prog X.w) k fa fd ps (spX X.K h))(hr:Room k X.A)(hb:Binds X.K fd ps [])(hx:Cd (CX1 qx X.prog X.w) X E)(he:PE X o (RE X.K g))(ha:PA X (e :: es) (RA X.K fl))
 (h1:AR e=false:=by rfl) (h2:AS es=true:=by rfl) (ht:Et X o m (e :: es) apos pos pl:=by rfl):PE X (.Call (.Attribute o m apos) (e :: es) [] pos) (RX X.K E (BG n h g fl)):=
 AL (SX (pl:=pl) he (cm n ma.cl C ma.at_).1 ma.me F hr hb hx ha (AW h1) (AQ h2).1 ht) λZ H Q z9=>by
  obtain ⟨Oo,c,t,fi,r,t',eq,kk⟩:=z9;obtain ⟨d,t1,e1,eq⟩:=Af eq;obtain ⟨j,fs,ds,t2,S',rfl,es,e2,e3,rfl⟩:=Hx eq;refine ⟨Oo,c,t,fi,.obj j,t1,e1,λv H1 c1 f1 s1 rv=>?_⟩;obtain ⟨b,rfl,hk⟩:=Gs rv;obtain ⟨⟨_,hat⟩,C',dx,us,g1,g2,g3⟩:=f1.s.obs j b _ hk es;rw [ma.at_] at g1
  cases g1
  refine ⟨b,dx,us,rfl,g2,g3.none λp hp z=>ma.na (z ▸ hat p hp),Oo,c1,t1,f1,ds,t2,e2,λvs H2 c2 f2 s2 rvs=>?_⟩;refine ⟨c2,.obj j :: ds,t2.S,f2.s,.cons (.obj (s2.ext.io _ _ hk)) rvs,r,S',e3,λv H' c' si st ho rv=>?_⟩;obtain ⟨f3,s3⟩:=f2.after si st ho;exact kk v H' c' f3 ((s1.trans s2).trans s3) rv
theorem RW {x:Str}(F:FnOk X.prog X.w X.K X.mg X.base CX0 k fa fd ps (spF X.K h))(hr:Room k X.A)(hg:Gl X x)(hm:X.mg x=some (.ref C))(bc:ByCls X.K C m fa)(hb:Binds X.K fd ps [])(ha:PA X (e :: es) (RA X.K fl))
 (hdb:(x == ("__debug__" : Str))=false:=by decide) (h1:AR e=false:=by rfl) (h2:AS es=true:=by rfl) (ht:Et X (.Name x p) m (e :: es) apos pos pl:=by rfl):PE X (.Call (.Attribute (.Name x p) m apos) (e :: es) [] pos) (RE X.K (Ag h fl)):=
 AL (SQ (pl:=pl) (E:=λ_=>E0) F hr hg hm bc hb (λpins Z H s e s'=>Ix pins Z H s e s') ha hdb (AW h1) (AQ h2).1 ht) λZ H Q z9=>by
  obtain ⟨Oo,c,t,fi,r,t',eq,kk⟩:=z9;obtain ⟨ds,t1,e1,eq⟩:=Af eq;obtain ⟨S',e2,rfl⟩:=FZ eq;refine ⟨Oo,c,t,fi,ds,t1,e1,λvs H1 c1 f1 s1 rvs=>?_⟩;refine ⟨c1,ds,t1.S,f1.s,rvs,r,S',e2,λv H' c' si st ho rv=>?_⟩;obtain ⟨f2,s2⟩:=f1.after si st ho;exact kk v H' c' f2 (s1.trans s2) rv
end
end
variable {K:PySem.W.Frag}
theorem X7 {k:Kd}{P:Program}{w:World}{mg:Str->Option Value}{base:Heap}{n:Nat}{fa:Addr}{fd:FuncData}{ps:List Str}{f:Fn}(h:okK k P w K mg base n fa fd ps f):okK k P w K mg base (n + 1) fa fd ps f:=by
 cases k <;> exact FnOk.mono h (uo9 _)
def Oy (K:PySem.W.Frag)(C:Addr):Bool:=plainGet K C Str.empty && hasDictIn K C && plainOver K C && findIn K (.ref C) "__setattr__" == some (some (.builtin "object.__setattr__")) && atN.all λf=>findIn K (.ref C) f == some none
variable {C:Addr}
theorem UC (h:Oy K C=true):Cls K C/\∀f∈atN,NoAttr K C f:=by
 unfold Oy at h;simp only [uh9,beq_iff_eq,ui2] at h;obtain ⟨⟨⟨⟨a,b⟩,c⟩,d⟩,e⟩:=h;exact ⟨⟨a,b,c,d⟩,λf hf=>e f hf⟩
theorem Zt (h:∀n∈KJ,nsIn K mainGlobals n=some none\/∃C,nsIn K mainGlobals n=some (some (.ref C))/\Oy K C=true):CM K:=λn hn C e=>by
 rcases h n hn with q | ⟨C',q,b⟩
 ·rw [e] at q;cases q
 ·rw [e] at q;cases q;exact UC b
noncomputable def ON (K:PySem.W.Frag)(C:Addr):Bool:=makesIn K C && keepIn K (.ref C)
theorem ZO {f:Addr}(h:ON K C=true)(i:findIn K (.ref C) "__init__" = some (some (.ref f)))(hf:isFn K (.ref f)=true):Mk K C f:=by
 unfold ON at h;simp only [uh9] at h;exact ⟨h.1,i,hf,h.2⟩
noncomputable def byB (K:PySem.W.Frag)(C:Addr)(m:Str):Bool:=specialIn K (.ref C) "__getattribute__" == some (some (.builtin "type.__getattribute__")) && readsIn K C (.type "type") && match findCls K (.ref C) (.type "type") m,findIn K (.ref C) m with | some (.val (.ref g)),some (some (.ref f))=>g == f | _,_=>false
theorem Zs {f:Addr}{m:Str}(h:byB K C m=true)(i:findIn K (.ref C) m=some (some (.ref f)))(k:keepIn K (.ref f)=true):ByCls K C m f:=by
 unfold byB at h;simp only [uh9,beq_iff_eq] at h;obtain ⟨⟨a,b⟩,c⟩:=h;refine ⟨a,b,?_,k⟩;rw [i] at c
 split at c
 ·next g f' e1 e2=>
  cases e2
  rw [e1];exact c
 ·cases c
end F2
namespace L2
open PySem PySem.Spec PyProof.Rows
section
variable {X:Cx}{k:Nat}{f l I S:Addr}{fd:FuncData}{ps:List Str}{sp:Sp}{pins:List (Addr×Obj)}{Z:St}{H:Hp}{s:Shared}{Q:VK}{oS oI oS' oI':Obj}{h':Heap}{t':Nat}
end
end L2
namespace F2
open PySem L2 PySem.Spec PySem.W
section
variable {K:PySem.W.Frag}{g:Fn}
end
end F2
namespace F2
open PySem L2 PySem.Spec PyProof.Rows
section
variable {X:Cx}{e:Expr}{pos:Pos}
end
section
variable {X:Cx}{e elt tg iter:Expr}{pos:Pos}{scope:Scope}{N':List Str}{ifs:List Expr}{n:Nat}{fr:List Nat}{f:M (List D)}{st:D->M Unit}{tst:M Bool}{el:M D}
end
section
variable {X:Cx}{e:Expr}
end
end F2
namespace L2
open PySem PySem.Spec PyProof.Rows
noncomputable def Cm {α:Type}(xs:List α)(lo hi st:Option Int):List α:=(sliceRange (sliceBounds lo hi st xs.length).1 (sliceBounds lo hi st xs.length).2.1 (sliceBounds lo hi st xs.length).2.2).filterMap λi=>xs[i]?
theorem Vals.pick {xs:List V}{us:List Value}(r:Vals xs us):∀l:List Nat,Vals (l.filterMap λi=>xs[i]?) (l.filterMap λi=>us[i]?)
 | []=>.nil
 | i :: l=>by
   cases e:xs[i]? with
   | none=>rw [ub6 e,ub6 (Vals.none_of r e)];exact Vals.pick r l
   | some x=>
     obtain ⟨u,e2,q⟩:=Vals.get r e;rw [ub7 e,ub7 e2];exact .cons q (Vals.pick r l)
section
variable {X:Cx}{e el eu ek:Expr}{p2 pos:Pos}{te:TE}{tl tu tk:TO}
def Z1 (K:PySem.W.Frag):V->Option Int->Option Int->Option Int->Hp->VK->Prop:=λx lo hi st H Q=>st≠some 0/\∃a xs,x = .ref a/\SqL K H a xs/\(Cm xs lo hi st).length<=sizeLine/\∀p,H p=none->Q (.ref p) (upd H p (.lst (Cm xs lo hi st)))
theorem VJ (he:PE X e te)(hl:PO X (some el) tl)(hu:PO X (some eu) tu)(hk:PO X (some ek) tk):PE X (.Subscript e (.Slice (some el) (some eu) (some ek) p2) pos) (λZ H Q=>te Z H λx H1=>tl Z H1 λl H2=>tu Z H2 λu H3=>tk Z H3 λo H4=>Z1 X.K x l u o H4 Q):=by
 intro pins s Z H Q I h;refine Subscript_ (thn (he pins s Z H _ I h) λv s1 z9=>?_);obtain ⟨x,H1,I1,r1,q1⟩:=z9;refine wpAny_Slice (thn (hl pins s1 Z H1 _ I1 q1) λvl s2 ⟨l,H2,I2,pl,q2⟩=>thn (hu pins s2 Z H2 _ I2 q2) λvu s3 z9=>?_);obtain ⟨u,H3,I3,pu,q3⟩:=z9;refine thn (hk pins s3 Z H3 _ I3 q3) λvk s4 z9=>?_;obtain ⟨k,H4,I4,pk,q4⟩:=z9;obtain ⟨h0,a,xs,rfl,hx,hlen',q⟩:=q4
 cases r1
 have I5:Inv X pins Z H4 { s4 with heap:=s4.heap.push { cls:=.type "slice",data:=.fields #[vl,vu,vk] } }:=I4.kept (t':=s4.toks) λb ob q=>uc3 _ q;obtain ⟨its,r,ht,hz⟩:=I5.list hx;have hlen:its.toArray.size=xs.length:=by rw [ug2];exact r.length.symm
 show wpAny (model X.prog X.w) X.A (subscriptTail e (.Slice (some el) (some eu) (some ek) p2) (.ref a) (.ref s4.heap.objs.size)) (EP X pins Z Q) X.xe { s4 with heap:=s4.heap.push { cls:=.type "slice",data:=.fields #[vl,vu,vk] } };refine tail_any (T:="list") (ops:=[.ref a,.ref s4.heap.objs.size]) ht.isList.typeIs slot_list_getitem.lookup ?_ (by with_unfolding_all rfl);refine wpAny_getItem_list_slice ht.isList (Heap.IsSliceOf.new ..) pl pu pk h0 ?_ (by rw [hlen];exact hz);have e1:slicePick its.toArray l u k=(Cm its l u k).toArray:=by
  unfold slicePick Cm;rw [ug2];generalize sliceBounds l u k its.length=z;obtain ⟨z1,z2,z3⟩:=z;simp
 have r2:Vals (Cm xs l u k) (Cm its l u k):=by
  have:=Vals.pick r (sliceRange (sliceBounds l u k xs.length).1 (sliceBounds l u k xs.length).2.1 (sliceBounds l u k xs.length).2.2);unfold Cm;rw [<-r.length];exact this
 rw [e1];refine ⟨.ref _,_,I5.laid (t':=s4.toks) (o:=.lst (Cm xs l u k)) (λb ob q=>uc3 _ q) (uo7 _) ?_,rfl,q _ (I5.hok.fresh (uo7 _))⟩;exact ⟨hlen',_,0,r2,ue4 _ rfl⟩
end
end L2
namespace F2
open PySem L2 PySem.Spec
def LO (d:D)(lo hi st:Option Int):M D:=match d with
 | .scr ns=>λt=>if st≠some 0/\(Cm ns lo hi st).length<=LIM then some (.lst ((Cm ns lo hi st).map .int),t) else none
 | _=>fail
def LL (f:M D)(l u k:M (Option Int)):M D:=bnd f λd=>bnd l λa=>bnd u λb=>bnd k λc=>LO d a b c
theorem Lo {α β:Type}(f:α->β)(xs:List α)(lo hi st:Option Int):Cm (xs.map f) lo hi st=(Cm xs lo hi st).map f:=by
 unfold Cm;rw [uj3];generalize sliceRange _ _ _=l
 induction l with
 | nil=>rfl
 | cons i l ih=>
   cases e:xs[i]? with
   | none=>rw [ub6 e,ub6 (by rw [ug3,e];rfl)];exact ih
   | some x=>rw [ub7 e,ub7 (by rw [ug3,e];rfl),um0,ih]
theorem UP {X:Cx}{e el eu ek:Expr}{p2 pos:Pos}{f:M D}{l u k:M (Option Int)}(he:PE X e (RE X.K f))(hl:PO X (some el) (RO X.K l))(hu:PO X (some eu) (RO X.K u))(hk:PO X (some ek) (RO X.K k)):PE X (.Subscript e (.Slice (some el) (some eu) (some ek) p2) pos) (RE X.K (LL f l u k)):=
 AL (VJ he hl hu hk) λZ H Q z9=>by
  obtain ⟨Oo,c,t,fi,r,t',eq,kk⟩:=z9;obtain ⟨d,t1,e1,eq⟩:=Af eq;obtain ⟨ol,t2,e2,eq⟩:=Af eq;obtain ⟨oh,t3,e3,eq⟩:=Af eq;obtain ⟨ok,t4,e4,eq⟩:=Af eq;refine ⟨Oo,c,t,fi,d,t1,e1,λv H1 c1 f1 s1 rv=>⟨Oo,c1,t1,f1,ol,t2,e2,λH2 c2 f2 s2=>⟨Oo,c2,t2,f2,oh,t3,e3,λH3 c3 f3 s3=>⟨Oo,c3,t3,f3,ok,t4,e4,λH4 c4 f4 s4=>?_⟩⟩⟩⟩;have rv4:=rv.mono ((s2.trans s3).trans s4).ext;have st:=((s1.trans s2).trans s3).trans s4
  cases rv4 with
  | @scr p ns h1=>
    unfold LO at eq;dsimp only at eq
    split at eq
    ·next hc=>
     cases eq
     refine ⟨hc.1,p,_,rfl,h1.sq,by rw [Lo,uj3];exact un3 hc.2 C4,λq hq=>kk _ _ c4 (f4.laid hq) (st.trans (f4.stp_laid hq)) (.lst Ak (f4.s.free hq) ?_)⟩;rw [Lo];exact Reps.ints _
    ·cases eq
  | _=>cases eq
end F2
namespace F2
open PySem L2 PySem.Spec PySem.SeqAt
def QS (K:PySem.W.Frag):R2:=λx y H Q=>∃a b xs,x = .ref a/\y = .ref b/\SqL K H a xs/\SqL K H b []/\Q (.bl (!xs.isEmpty)) H
theorem SL {X:Cx}(hu:X.A.units + 64 < cLine):OpR X (compareOp .NotEq) (QS X.K):=by
 intro pins s Z H x y v u Q I rx ry h;obtain ⟨a,b,xs,rfl,rfl,ha,hb,q⟩:=h;have hu0:X.A.units < cLine:=by lia
 cases rx
 cases ry
 obtain ⟨i1,r1,l1,_⟩:=I.list ha;obtain ⟨i2,r2,l2,_⟩:=I.list hb;have l1:=l1.isList;have l2:=l2.isList;have e2:i2=[]:=ua2 r2.length.symm;subst e2
 cases xs with
 | nil=>
   have e1:i1=[]:=ua2 r1.length.symm;subst e1;have rc:RcNeAt X.A s (.ref a) (.ref b) (!((List.range 0).all λ_=>true)):=RcNeAt.lists l1 l2 rfl hu0 λj h1 _=>absurd h1 (uk4 _);exact rc X.prog X.w _ _ ⟨.bl false,H,I,rfl,q⟩
 | cons z zs=>
   have hs:(i1.toArray.size != (#[]:Array Value).size)=true:=by
    have:=r1.length;have hl:(z :: zs).length=zs.length + 1:=rfl;rw [hl] at this;rw [bne_iff_ne,ug2,<-this];exact Nat.succ_ne_zero _
   exact RcNeAt.lists_lengths l1 l2 hs hu0 X.prog X.w _ _ ⟨.bl true,H,I,rfl,q⟩
def JZ:D->D->M D
 | .scr ns,.lst []=>ret (.bl (!ns.isEmpty))
 | _,_=>fail
theorem Q4 {K:PySem.W.Frag}:A8 K (QS K) JZ:=λ{Oo c t Z H x y dx dy r t' Q} f rx ry eq k=>by
 unfold JZ at eq
 split at eq
 ·next ns=>
  cases eq
  cases rx with
  | @scr p ns h1=>
    cases ry with
    | @lst q vs ds g1 g2 g3=>
      cases g3
      refine ⟨p,q,_,rfl,rfl,h1.sq,SqL.of g1,?_⟩;have:(ns.map V.int).isEmpty=ns.isEmpty:=by cases ns <;> rfl
      rw [this];exact k _ H c f .refl (.bl _)
 ·cases eq
end F2
namespace LW
open PySem L2 F2
def Ga:M Out:=
 (An (EJ (fB (Aa (Ab 0) (Aa (fC (.ty "int")) Ad)) Dc) (Ib (fB (Aa (Ab 0) (Aa (fC (.ty "bool")) Ad)) Dc))))
def Dt (Mc:Fn):M Out:=
 (An (EJ (Ag Mc (Aa (Ab 0) Ad)) (ER (Ab 1) (Ab 0) (Ab 2) leA leA)))
def MH (KD Ma L9 Mb C9:Fn):M Out:=
 (Ae (Ar 2 (Ac (Ab 0) (fC (.int 0)) ixD))
 (Ae (ifS (Ao (Ac (Ab 2) (fC (.str "nothing")) (eqS id)))
   (An (Ac (Ab 1) (fC .non) isC))
   Au)
 (Ae (ifS (Ao (Ac (Ab 2) (fC (.str "number")) (eqS id)))
   (An (Ag C9 (Aa (Ab 1) (Aa (Ac (Ab 0) (fC (.int 1)) ixD) (Aa (Ac (Ab 0) (fC (.int 2)) ixD) Ad)))))
   Au)
 (Ae (ifS (Ao (Ac (Ab 2) (fC (.str "text")) (eqS id)))
   (An (Ag Mb (Aa (Ab 0) (Aa (Ab 1) Ad))))
   Au)
 (Ae (ifS (Ao (Ac (Ab 2) (fC (.str "list")) (eqS id)))
   (An (Ag L9 (Aa (Ab 0) (Aa (Ab 1) Ad))))
   Au)
 (Ae (ifS (Ao (Ac (Ab 2) (fC (.str "pair")) (eqS id)))
   (An (Ag Ma (Aa (Ab 0) (Aa (Ab 1) Ad))))
   Au)
 (An (Ag KD (Aa (Ab 0) (Aa (Ab 1) Ad))))))))))
def F9 (GB:Fn):M Out:=
 (Ae (ifS (fOr (Cy (Ao (fB (Aa (Ab 1) (Aa (fC (.ty "str")) Ad)) Dc))) (Ao (Ac (fB (Aa (Ab 1) Ad) AM) (Ac (Ab 0) (fC (.int 1)) ixD) gtA)))
   (An (fC (.bl false)))
   Au)
 (Ae (Bj (Eb (Ab 1)) (AA 2)
   (ifS (Cy (Ao (Ag GB (Aa (fB (Aa (Ab 2) Ad) Jo) Ad))))
   (An (fC (.bl false)))
   Au))
 (An (fC (.bl true)))))
def Hs:M Out:=
 (An (EJ (ER (fC (.int 32)) (Ab 0) (fC (.int 126)) leA leA) (Ac (Ab 0) (fC (.int 37)) (eqS λb=>!b))))
def F7 (C7:Fn):M Out:=
 (Ae (ifS (fOr (Cy (Ao (fB (Aa (Ab 1) (Aa (fC (.ty "list")) Ad)) Dc))) (Ao (Ac (fB (Aa (Ab 1) Ad) AM) (Ac (Ab 0) (fC (.int 2)) ixD) gtA)))
   (An (fC (.bl false)))
   Au)
 (Ae (Bj (Eb (Ab 1)) (AA 2)
   (ifS (Cy (Ao (Ag C7 (Aa (Ac (Ab 0) (fC (.int 1)) ixD) (Aa (Ab 2) Ad)))))
   (An (fC (.bl false)))
   Au))
 (An (fC (.bl true)))))
def F8 (C7:Fn):M Out:=
 (Ae (ifS (fOr (Cy (Ao (fB (Aa (Ab 1) (Aa (fC (.ty "tuple")) Ad)) Dc))) (Ao (Ac (fB (Aa (Ab 1) Ad) AM) (fC (.int 2)) (eqS λb=>!b))))
   (An (fC (.bl false)))
   Au)
 (An (EJ (Ag C7 (Aa (Ac (Ab 0) (fC (.int 1)) ixD) (Aa (Ac (Ab 1) (fC (.int 0)) ixD) Ad))) (Ag C7 (Aa (Ac (Ab 0) (fC (.int 2)) ixD) (Aa (Ac (Ab 1) (fC (.int 1)) ixD) Ad))))))
def E4 (C7 C9:Fn):M Out:=
 (Ae (ifS (fOr (Cy (Ao (fB (Aa (Ab 1) (Aa (fC (.ty "tuple")) Ad)) Dc))) (Ao (Ac (fB (Aa (Ab 1) Ad) AM) (fC (.int 3)) (eqS λb=>!b))))
   (An (fC (.bl false)))
   Au)
 (Ae (ifS (fOr (Cy (Ao (fB (Aa (Ac (Ab 1) (fC (.int 0)) ixD) (Aa (fC (.ty "str")) Ad)) Dc))) (Ao (Ac (Ac (Ab 1) (fC (.int 0)) ixD) (fC (.str "of")) (eqS λb=>!b))))
   (An (fC (.bl false)))
   Au)
 (Ae (ifS (Cy (Ao (Ag C9 (Aa (Ac (Ab 1) (fC (.int 1)) ixD) (Aa (fC (.int 0)) (Aa (Ac (fB (Aa (Ac (Ab 0) (fC (.int 1)) ixD) Ad) AM) (fC (.int 1)) Bs) Ad))))))
   (An (fC (.bl false)))
   Au)
 (An (Ag C7 (Aa (Ac (Ac (Ab 0) (fC (.int 1)) ixD) (Ac (Ab 1) (fC (.int 1)) ixD) ixD) (Aa (Ac (Ab 1) (fC (.int 2)) ixD) Ad)))))))
def FJ:M Out:=
 (An (Ac (Ac (Ac (Ac (Ab 0) (Ac (Ab 1) (fC (.int 0)) ixD) ixD) (fC (.int 1)) ixD) (Ac (Ab 1) (fC (.int 1)) ixD) ixD) (fC (.int 2)) ixD))
def FH (C7 KF:Fn):M Out:=
 (Ae (ifS (fOr (Cy (Ao (fB (Aa (Ab 1) (Aa (fC (.ty "tuple")) Ad)) Dc))) (Ao (Ac (fB (Aa (Ab 1) Ad) AM) (fC (.int 3)) (eqS λb=>!b))))
   (An (fC .non))
   Au)
 (Ae (ifS (fOr (Cy (Ao (fB (Aa (Ac (Ab 1) (fC (.int 0)) ixD) (Aa (fC (.ty "str")) Ad)) Dc))) (Ao (Ac (Ac (Ab 1) (fC (.int 0)) ixD) (Ac (Ab 0) (fC (.int 0)) ixD) (eqS λb=>!b))))
   (An (fC .non))
   Au)
 (Ae (Ar 2 (Ag KF (Aa (Ab 0) (Aa (Ac (Ab 1) (fC (.int 1)) ixD) Ad))))
 (Ae (ifS (fOr (Ao (Ac (Ab 2) (fC .non) isC)) (Cy (Ao (Ag C7 (Aa (Ac (Ac (Ac (Ab 0) (fC (.int 1)) ixD) (Ab 2) ixD) (fC (.int 1)) ixD) (Aa (Ac (Ab 1) (fC (.int 2)) ixD) Ad))))))
   (An (fC .non))
   Au)
 (An (Ab 2))))))
def E5 (Nl:Fn):M Out:=
 (Ae (ifS (Cy (Ao (fB (Aa (Ab 1) (Aa (fC (.ty "str")) Ad)) Dc)))
   (An (fC .non))
   Au)
 (Ae (Ar 2 (Ag Nl (Aa (Ab 0) Ad)))
 (Ae (Bj (A5 (Aa (fB (Aa (Ab 2) Ad) AM) Ad)) (AA 3)
   (ifS (Ao (Ac (Ac (Ac (Ab 2) (Ab 3) ixD) (fC (.int 0)) ixD) (Ab 1) (eqS id)))
   (An (Ab 3))
   Au))
 (An (fC .non)))))
def GQ (Hc:Fn):M Out:=
 (An (fIf (Ao (Ag Hc (Aa (Ab 0) Ad))) (Av Ad) (Ac (Ab 0) (fC (.int 1)) ixD)))
def Ji:M Out:=
 (An (Ac (Ac (Ab 0) (fC (.int 0)) ixD) (fC (.str "end")) (eqS id)))
def Ej (Ba Eu JI:Fn):M Out:=
 (Ae (Ar 2 (Ac (Ab 0) (fC (.int 0)) ixD))
 (Ae (ifS (Ao (Ac (Ab 2) (fC (.str "nothing")) (eqS id)))
   (GY (AG Ad))
   Au)
 (Ae (ifS (Ao (Ac (Ab 2) (fC (.str "number")) (eqS id)))
   (GY (Dp JI (Aa (Ac (Ab 1) (Ac (Ab 0) (fC (.int 1)) ixD) Bs) (Aa (Ag Eu (Aa (Ac (Ac (Ab 0) (fC (.int 2)) ixD) (Ac (Ab 0) (fC (.int 1)) ixD) Bs) Ad)) Ad))))
   Au)
 (Ae (ifS (Ao (Ac (Ab 2) (fC (.str "text")) (eqS id)))
   (GY (bnd (Aw (AG (Aa (fB (Aa (Ab 1) Ad) AM) Ad))) λx=>bnd (Aw (Bl 1 [] (Eb (Ab 1)) (AA 0) DL (fB (Aa (Ab 0) Ad) Jo))) λy=>He x y))
   Au)
 (Ae (ifS (Ao (Ac (Ab 2) (fC (.str "list")) (eqS id)))
   (Ae (Df 3 (AG (Aa (fB (Aa (Ab 1) Ad) AM) Ad)))
 (Ae (Bj (Eb (Ab 1)) (AA 4)
   (ownM 3 Ev (Aa (Aw (Dp Ba (Aa (Ac (Ab 0) (fC (.int 1)) ixD) (Aa (Ab 4) Ad)))) Ad)))
 (Gu 3)))
   Au)
 (Ae (ifS (Ao (Ac (Ab 2) (fC (.str "pair")) (eqS id)))
   (GY (bnd (Aw (Dp Ba (Aa (Ac (Ab 0) (fC (.int 1)) ixD) (Aa (Ac (Ab 1) (fC (.int 0)) ixD) Ad)))) λx=>bnd (Aw (Dp Ba (Aa (Ac (Ab 0) (fC (.int 2)) ixD) (Aa (Ac (Ab 1) (fC (.int 1)) ixD) Ad)))) λy=>He x y))
   Au)
 (GY (bnd (Aw (AG (Aa (Ac (Ab 1) (fC (.int 1)) ixD) Ad))) λx=>bnd (Aw (Dp Ba (Aa (Ac (Ac (Ab 0) (fC (.int 1)) ixD) (Ac (Ab 1) (fC (.int 1)) ixD) ixD) (Aa (Ac (Ab 1) (fC (.int 2)) ixD) Ad)))) λy=>He x y))))))))
def E7:M Out:=
 (An (Ac (Ac (fUn (Ab 0) JF) (fC (.int 7)) AO) (fC (.int 8)) Fe))
def EA (GC:Fn):M Out:=
 (GY (Bl 1 [0,1] (GH (Aa (fC (.int 1)) (Aa (Ac (Ab 1) (fC (.int 1)) AO) Ad))) (AA 0) DL (Ac (Ag GC (Aa (Ab 1) (Aa (Ac (Ab 2) (Ab 0) Bs) Ad))) (fC (.int 256)) El)))
def Hu:M Out:=
 (An (Ac (Ab 0) (Ac (fC (.int 8)) (Ab 1) B4) M6))
def Di (KG Mf Me Mg KH:Fn):M Out:=
 (Ae (Ar 3 (Ac (Ab 0) (fC (.int 0)) ixD))
 (Ae (ifS (Ao (Ac (Ab 3) (fC (.str "nothing")) (eqS id)))
   (An (nxD (Av (Aa (fC .non) (Aa (Ab 2) Ad)))))
   Au)
 (Ae (ifS (Ao (Ac (Ab 3) (fC (.str "number")) (eqS id)))
   (An (Ag KH (Aa (Ab 0) (Aa (Ab 1) (Aa (Ab 2) Ad)))))
   Au)
 (Ae (ifS (Ao (Ac (Ab 3) (fC (.str "text")) (eqS id)))
   (An (Ag Mg (Aa (Ab 0) (Aa (Ab 1) (Aa (Ab 2) Ad)))))
   Au)
 (Ae (ifS (Ao (Ac (Ab 3) (fC (.str "list")) (eqS id)))
   (An (Ag Me (Aa (Ab 0) (Aa (Ab 1) (Aa (Ab 2) Ad)))))
   Au)
 (Ae (ifS (Ao (Ac (Ab 3) (fC (.str "pair")) (eqS id)))
   (An (Ag Mf (Aa (Ab 0) (Aa (Ab 1) (Aa (Ab 2) Ad)))))
   Au)
 (An (Ag KG (Aa (Ab 0) (Aa (Ab 1) (Aa (Ab 2) Ad)))))))))))
def FG:M Out:=
 (Ae (ifS (Ao (Ac (Ab 1) (fB (Aa (Ab 0) Ad) AM) geA))
   (FP "Short" (Aa (fC (.str "the bytes end within a value")) Ad))
   Au)
 (An (nxD (Ac (Ab 0) (Ab 1) ixD))))
def Eg (D8:Fn):M Out:=
 (Ae (CH 3 (Ag D8 (Aa (Ab 1) (Aa (Ab 2) Ad))))
 (Ae (ifS (Ao (Ac (Ab 3) (Ab 0) gtA))
   (Dv "Broken" (Aa (Ab 2) (Aa (fC .non) Ad)))
   Au)
 (An (nxD (Ab 3)))))
def CU (GC D8 Eu:Fn):M Out:=
 (Ae (Ar 3 (Ac (Ac (Ab 0) (fC (.int 2)) ixD) (Ac (Ab 0) (fC (.int 1)) ixD) Bs))
 (Ae (Ar 4 (Ag Eu (Aa (Ab 3) Ad)))
 (Ae (Ar 5 (fC (.int 0)))
 (Ae (Bj (A5 (Aa (Ab 4) Ad)) (AA 6)
   (Ae (CH 5 (H9 (Ac (Ab 5) (fC (.int 256)) B4) (Ag D8 (Aa (Ab 1) (Aa (Ac (Ab 2) (Ab 6) AO) Ad))) AO))
 (ifS (Ao (Ac (Ab 5) (Ag GC (Aa (Ab 3) (Aa (Ac (Ac (Ab 4) (fC (.int 1)) Bs) (Ab 6) Bs) Ad))) gtA))
   (Dv "Broken" (Aa (Ac (Ab 2) (Ab 6) AO) (Aa (fC .non) Ad)))
   Au)))
 (An (nxD (Av (Aa (Ac (Ac (Ab 0) (fC (.int 1)) ixD) (Ab 5) AO) (Aa (Ac (Ab 2) (Ab 4) AO) Ad)))))))))
def DG (Ot C5:Fn):M Out:=
 (Ae (CH 3 (Ag C5 (Aa (Ac (Ab 0) (fC (.int 1)) ixD) (Aa (Ab 1) (Aa (Ab 2) Ad)))))
 (Ae (Ar 4 (Ac (Ab 2) (fC (.int 1)) AO))
 (Ae (Ar 5 (fC (.str "")))
 (Ae (Bj (A5 (Aa (Ab 3) Ad)) (AA 6)
   (CH 5 (H9 (Ab 5) (Ag Ot (Aa (Ab 1) (Aa (Ac (Ab 4) (Ab 6) AO) Ad))) AO)))
 (An (nxD (Av (Aa (Ab 5) (Aa (Ac (Ab 4) (Ab 3) AO) Ad)))))))))
def FI (GB D8:Fn):M Out:=
 (Ae (CH 2 (Ag D8 (Aa (Ab 0) (Aa (Ab 1) Ad))))
 (Ae (ifS (Cy (Ao (Ag GB (Aa (Ab 2) Ad))))
   (Dv "Broken" (Aa (Ab 1) (Aa (fC .non) Ad)))
   Au)
 (An (nxD (Ac (fC (.str " !\"#$ &'()*+,-./0123456789:;<=>?@ABCDEFGHIJKLMNOPQRSTUVWXYZ[\\]^_`abcdefghijklmnopqrstuvwxyz{|}~")) (Ac (Ab 2) (fC (.int 32)) Bs) ixD)))))
def DE (BA C5:Fn):M Out:=
 (Ae (CH 3 (Ag C5 (Aa (Ac (Ab 0) (fC (.int 2)) ixD) (Aa (Ab 1) (Aa (Ab 2) Ad)))))
 (Ae (Ar 4 (Ac (Ab 2) (fC (.int 1)) AO))
 (Ae (Df 5 (AG Ad))
 (Ae (Bj (A5 (Aa (Ab 3) Ad)) (AA 6)
   (Ae (CH 7 (Ag BA (Aa (Ac (Ab 0) (fC (.int 1)) ixD) (Aa (Ab 1) (Aa (Ab 4) Ad)))))
 (Ae (ownM 5 Cn (Aa (Ac (Ab 7) (fC (.int 0)) ixD) Ad))
 (Ar 4 (Ac (Ab 7) (fC (.int 1)) ixD)))))
 (An (nxD (Av (Aa (Ab 5) (Aa (Ab 4) Ad)))))))))
def DF (BA:Fn):M Out:=
 (Ae (CH 3 (Ag BA (Aa (Ac (Ab 0) (fC (.int 1)) ixD) (Aa (Ab 1) (Aa (Ab 2) Ad)))))
 (Ae (CH 4 (Ag BA (Aa (Ac (Ab 0) (fC (.int 2)) ixD) (Aa (Ab 1) (Aa (Ac (Ab 3) (fC (.int 1)) ixD) Ad)))))
 (An (nxD (Av (Aa (Av (Aa (Ac (Ab 3) (fC (.int 0)) ixD) (Aa (Ac (Ab 4) (fC (.int 0)) ixD) Ad))) (Aa (Ac (Ab 4) (fC (.int 1)) ixD) Ad)))))))
def CT (BA C5:Fn):M Out:=
 (Ae (CH 3 (Ag C5 (Aa (Ac (fB (Aa (Ac (Ab 0) (fC (.int 1)) ixD) Ad) AM) (fC (.int 1)) Bs) (Aa (Ab 1) (Aa (Ab 2) Ad)))))
 (Ae (CH 4 (Ag BA (Aa (Ac (Ac (Ab 0) (fC (.int 1)) ixD) (Ab 3) ixD) (Aa (Ab 1) (Aa (Ac (Ab 2) (fC (.int 1)) AO) Ad)))))
 (An (nxD (Av (Aa (Av (Aa (fC (.str "of")) (Aa (Ab 3) (Aa (Ac (Ab 4) (fC (.int 0)) ixD) Ad)))) (Aa (Ac (Ab 4) (fC (.int 1)) ixD) Ad)))))))
def Ek (Ba:Fn):M Out:=
 (An (Ac (Aw (AG (Aa (Ab 1) Ad))) (Aw (Dp Ba (Aa (Ac (Ac (Ac (Ab 0) (fC (.int 1)) ixD) (Ab 1) ixD) (fC (.int 1)) ixD) (Aa (Ab 2) Ad)))) AO))
def By:M Out:=
 (Ae (ifS (Ao (Ac (Ab 1) (fB (Aa (Ab 0) Ad) AM) ltA))
   (An (Ac (Ab 0) (Ab 1) ixD))
   Au)
 (An (fC (.int 0))))
def Ck (JG:Fn):M Out:=
 (Ae (Ar 2 (Ag JG (Aa (Ab 0) (Aa (Ab 1) Ad))))
 (An (Fd [("rest",(Ab 2)),("mixed",(Ac (Ab 2) (Ac (fC (.int 10)) (fC (.int 12)) HD) ltA)),("count",(Ac (fC (.int 3)) (Ac (fC (.int 5)) (Ab 1) B4) AO))])))
def Ei:M Out:=
 (Ae (Ar 2 (Ac (Ab 0) (fC (.str "rest")) AJ))
 (Ae (ifS (Cy (Ao (Ac (Ab 0) (fC (.str "mixed")) AJ)))
   (Ae (C8 (Ac (Ab 2) (Ab 1) Ie) (EK (Ab 0) (fC (.str "rest"))))
 (An (Ac (Ab 2) (Ab 1) El)))
   Au)
 (Ae (C8 (Ac (Ac (Ab 0) (fC (.str "count")) AJ) (fC (.int 1)) AO) (EK (Ab 0) (fC (.str "count"))))
 (Ae (Ar 2 (Ac (Ac (Ab 2) (fC (.int 1000000000163)) El) (Ac (fC (.int 70001)) (Ac (Ab 0) (fC (.str "count")) AJ) Jk) AO))
 (Ae (Ar 2 (Ac (Ac (Ab 2) (Ac (Ab 2) (fC (.int 29)) AO) Jk) (fC (.int 1000000000193)) El))
 (Ae (Ar 2 (Ac (Ac (Ab 2) (Ab 2) Jk) (fC (.int 999999999959)) El))
 (Ae (C8 (Ab 2) (EK (Ab 0) (fC (.str "rest"))))
 (An (Ac (Ac (Ab 2) (fC (.int 9)) Ie) (Ab 1) El)))))))))
def DW (Am Ce:Fn):M Out:=
 (Ae (Ar 2 (Ag Am (Aa (Ab 0) (Aa (Ac (fC (.int 3)) (Ac (fC (.int 3)) (fB (Aa (Ac (Ab 1) (fC (.int 0)) gtA) Ad) GN) B4) AO) Ad))))
 (Ae (ifS (Ao (Ac (Ab 2) (fC (.int 0)) (eqS id)))
   (An (Av (Aa (fC (.str "nothing")) Ad)))
   Au)
 (Ae (ifS (Ao (Ac (Ab 2) (fC (.int 1)) (eqS id)))
   (Ae (Ar 3 (Ac (Aw (AG (Aa (fC (.int 0)) (Aa (Ac (Ag Am (Aa (Ab 0) (Aa (fC (.int 9)) Ad))) (fC (.int 4)) Bs) (Aa (Ac (Ag Am (Aa (Ab 0) (Aa (Ac (fC (.int 10)) (fC (.int 17)) HD) Ad))) (Ac (fC (.int 10)) (fC (.int 16)) HD) Bs) Ad))))) (Ag Am (Aa (Ab 0) (Aa (fC (.int 3)) Ad))) ixD))
 (An (Av (Aa (fC (.str "number")) (Aa (Ab 3) (Aa (Ac (Ab 3) (Ac (Aw (AG (Aa (fC (.int 0)) (Aa (fC (.int 1)) (Aa (fC (.int 255)) (Aa (fC (.int 256)) (Aa (fC (.int 300)) (Aa (fC (.int 70000)) (Aa (Ag Am (Aa (Ab 0) (Aa (Ac (fC (.int 10)) (fC (.int 17)) HD) Ad))) Ad))))))))) (Ag Am (Aa (Ab 0) (Aa (fC (.int 7)) Ad))) ixD) AO) Ad))))))
   Au)
 (Ae (ifS (Ao (Ac (Ab 2) (fC (.int 2)) (eqS id)))
   (An (Av (Aa (fC (.str "text")) (Aa (Ac (Aw (AG (Aa (fC (.int 0)) (Aa (fC (.int 1)) (Aa (fC (.int 5)) (Aa (fC (.int 250)) Ad)))))) (Ag Am (Aa (Ab 0) (Aa (fC (.int 4)) Ad))) ixD) Ad))))
   Au)
 (Ae (ifS (Ao (Ac (Ab 2) (fC (.int 3)) (eqS id)))
   (An (Av (Aa (fC (.str "list")) (Aa (Ag Ce (Aa (Ab 0) (Aa (Ac (Ab 1) (fC (.int 1)) Bs) Ad))) (Aa (Ac (Aw (AG (Aa (fC (.int 0)) (Aa (fC (.int 2)) (Aa (fC (.int 6)) (Aa (fC (.int 250)) Ad)))))) (Ag Am (Aa (Ab 0) (Aa (fC (.int 4)) Ad))) ixD) Ad)))))
   Au)
 (Ae (ifS (Ao (Ac (Ab 2) (fC (.int 4)) (eqS id)))
   (An (Av (Aa (fC (.str "pair")) (Aa (Ag Ce (Aa (Ab 0) (Aa (Ac (Ab 1) (fC (.int 1)) Bs) Ad))) (Aa (Ag Ce (Aa (Ab 0) (Aa (Ac (Ab 1) (fC (.int 1)) Bs) Ad))) Ad)))))
   Au)
 (An (Av (Aa (fC (.str "choice")) (Aa (fB (Aa (Aw (Bl 1 [0,1] (A5 (Aa (Ac (fC (.int 1)) (Ag Am (Aa (Ab 0) (Aa (fC (.int 3)) Ad))) AO) Ad)) (AA 0) DL (Ag Ce (Aa (Ab 1) (Aa (Ac (Ab 2) (fC (.int 1)) Bs) Ad))))) Ad) Jv) Ad))))))))))
def DX (Cg Am:Fn):M Out:=
 (Ae (Ar 2 (Ac (Ab 1) (fC (.int 0)) ixD))
 (Ae (ifS (Ao (Ac (Ab 2) (fC (.str "nothing")) (eqS id)))
   (An (fC .non))
   Au)
 (Ae (ifS (Ao (Ac (Ab 2) (fC (.str "number")) (eqS id)))
   (An (Ac (Aw (AG (Aa (Ac (Ab 1) (fC (.int 1)) ixD) (Aa (Ac (Ab 1) (fC (.int 2)) ixD) (Aa (Ac (Ac (Ab 1) (fC (.int 1)) ixD) (Ag Am (Aa (Ab 0) (Aa (Ac (Ac (Ac (Ab 1) (fC (.int 2)) ixD) (Ac (Ab 1) (fC (.int 1)) ixD) Bs) (fC (.int 1)) AO) Ad))) AO) Ad))))) (Ag Am (Aa (Ab 0) (Aa (fC (.int 3)) Ad))) ixD))
   Au)
 (Ae (ifS (Ao (Ac (Ab 2) (fC (.str "text")) (eqS id)))
   (Ae (Ar 3 (fC (.str " !#09AZaz~{")))
 (An (joinM (fC (.str "")) (Aa (Aw (Bl 1 [3,0] (A5 (Aa (fB (Aa (Ac (Ab 1) (fC (.int 1)) ixD) (Aa (Ag Am (Aa (Ab 0) (Aa (fC (.int 7)) Ad))) Ad)) GR) Ad)) (AA 0) DL (Ac (Ab 1) (Ag Am (Aa (Ab 2) (Aa (fC (.int 11)) Ad))) ixD))) Ad))))
   Au)
 (Ae (ifS (Ao (Ac (Ab 2) (fC (.str "list")) (eqS id)))
   (An (Aw (Bl 1 [0,1] (A5 (Aa (fB (Aa (Ac (Ab 1) (fC (.int 2)) ixD) (Aa (Ag Am (Aa (Ab 0) (Aa (fC (.int 4)) Ad))) Ad)) GR) Ad)) (AA 0) DL (Ag Cg (Aa (Ab 1) (Aa (Ac (Ab 2) (fC (.int 1)) ixD) Ad))))))
   Au)
 (Ae (ifS (Ao (Ac (Ab 2) (fC (.str "pair")) (eqS id)))
   (An (Av (Aa (Ag Cg (Aa (Ab 0) (Aa (Ac (Ab 1) (fC (.int 1)) ixD) Ad))) (Aa (Ag Cg (Aa (Ab 0) (Aa (Ac (Ab 1) (fC (.int 2)) ixD) Ad))) Ad))))
   Au)
 (Ae (Ar 4 (Ag Am (Aa (Ab 0) (Aa (fB (Aa (Ac (Ab 1) (fC (.int 1)) ixD) Ad) AM) Ad))))
 (An (Av (Aa (fC (.str "of")) (Aa (Ab 4) (Aa (Ag Cg (Aa (Ab 0) (Aa (Ac (Ac (Ab 1) (fC (.int 1)) ixD) (Ab 4) ixD) Ad))) Ad))))))))))))
def Ds (Am Ce Cv:Fn):M Out:=
 (Ae (Ar 1 (Ag Cv (Aa (Ab 0) (Aa (fC (.int 0)) Ad))))
 (Ae (Ar 2 (Ac (Aw (AG (Aa (Ac (fC (.int 1)) (Ag Am (Aa (Ab 1) (Aa (fC (.int 5)) Ad))) AO) (Aa (Ac (fC (.int 1)) (Ag Am (Aa (Ab 1) (Aa (fC (.int 9)) Ad))) AO) (Aa (fC (.int 30)) Ad))))) (Ag Am (Aa (Ab 1) (Aa (fC (.int 3)) Ad))) ixD))
 (Ae (Df 3 (AG Ad))
 (Ae (Bj (A5 (Aa (Ab 2) Ad)) (AA 4)
   (Ae (Ar 1 (Ag Cv (Aa (Ab 0) (Aa (Ac (fC (.int 1)) (Ac (Ab 4) (fC (.int 13)) El) AO) Ad))))
 (Ae (C8 (Ac (Ac (Ac (Ab 1) (fC (.str "rest")) AJ) (Ac (fC (.int 1)) (Ac (Ab 4) (fC (.int 13)) Fe) AO) Fe) (Ac (fC (.int 37)) (Ab 4) B4) AO) (EK (Ab 1) (fC (.str "rest"))))
 (ifS (KL (Ao (Ac (Ag Am (Aa (Ab 1) (Aa (fC (.int 6)) Ad))) (fC (.int 0)) (eqS id))) (Ao (Ac (Ab 4) (fC (.int 0)) gtA)))
   (ownM 3 Cn (Aa (Av (Aa (fC (.str "end")) Ad)) Ad))
   (Ae (Ar 5 (Ac (Aw (AG (Aa (fC (.str "left")) (Aa (fC (.str "right")) Ad)))) (Ag Am (Aa (Ab 1) (Aa (fC (.int 2)) Ad))) ixD))
 (Ae (Df 6 (AG Ad))
 (Ae (Bj (A5 (Aa (Ac (Aw (AG (Aa (fC (.int 1)) (Aa (fC (.int 2)) (Aa (fC (.int 3)) (Aa (fC (.int 9)) Ad)))))) (Ag Am (Aa (Ab 1) (Aa (fC (.int 4)) Ad))) ixD) Ad)) (AA 7)
   (Ae (Ar 8 (Ac (Ac (fC (.str "abcdefghi")) (Ab 7) ixD) (Ac (Ac (fC (.str "xyz")) (Ag Am (Aa (Ab 1) (Aa (fC (.int 3)) Ad))) ixD) (Ag Am (Aa (Ab 1) (Aa (fC (.int 8)) Ad))) B4) AO))
 (Ae (Ar 9 (Ac (Aw (AG (Aa (Ag Am (Aa (Ab 1) (Aa (Ab 2) Ad))) (Aa (fB (Aa (Ac (Ab 2) (fC (.int 1)) Bs) (Aa (Ac (Ab 4) (fC (.int 1)) AO) Ad)) GR) Ad)))) (Ag Am (Aa (Ab 1) (Aa (fC (.int 2)) Ad))) ixD))
 (ownM 6 Cn (Aa (Av (Aa (Ab 8) (Aa (Ag Ce (Aa (Ab 1) (Aa (Ag Am (Aa (Ab 1) (Aa (fC (.int 3)) Ad))) Ad))) (Aa (Ab 9) Ad)))) Ad)))))
 (ownM 3 Cn (Aa (Av (Aa (Ab 5) (Aa (Ab 6) Ad))) Ad)))))))))
 (An (Ab 3))))))
def E6 (LA Lz:Fn):M Out:=
 (Ae (Ar 2 (fC (.int 0)))
 (Ae (Df 3 (AG Ad))
 (Ae (Bj (A5 (Aa (fB (Aa (Ab 1) Ad) AM) Ad)) (AA 4)
   (Ae (Ar 5 (Ag Lz (Aa (Ac (Ab 0) (Ab 2) ixD) (Aa (Ac (Ab 1) (Ab 4) ixD) Ad))))
 (Ae (ifS (Ao (Ac (Ab 5) (fC .non) isC))
   (MU "NoTalk" (Aa (Ab 4) Ad))
   Au)
 (Ae (Ar 6 (Av (Aa (Ab 2) (Aa (Ab 5) Ad))))
 (Ae (ownM 3 Cn (Aa (Ab 6) Ad))
 (Ar 2 (Ag LA (Aa (Ab 0) (Aa (Ab 6) Ad)))))))))
 (An (nxD (Ab 3))))))
def E8 (IV Nk:Fn):M Out:=
 (Ae (Ar 2 (Fd [("left",(Hj (AG Ad))),("right",(Hj (AG Ad)))]))
 (Ae (CH 3 (Ag Nk (Aa (Ab 0) (Aa (Ab 1) Ad))))
 (Ae (Bj (A5 (Aa (fB (Aa (Ab 3) Ad) AM) Ad)) (AA 4)
   (Ae (Ar 5 (Ac (Ab 0) (Ac (Ac (Ab 3) (Ab 4) ixD) (fC (.int 0)) ixD) ixD))
 (F0 (objM Ev (Ac (Ab 2) (Ac (Ab 5) (fC (.int 0)) ixD) AJ) (Aa (Ag IV (Aa (Ab 5) (Aa (Ac (Ac (Ab 3) (Ab 4) ixD) (fC (.int 1)) ixD) (Aa (Ac (Ac (Ab 1) (Ab 4) ixD) (fC (.int 2)) ixD) Ad)))) Ad)))))
 (An (nxD (Av (Aa (Ac (Ab 2) (fC (.str "left")) AJ) (Aa (Ac (Ab 2) (fC (.str "right")) AJ) Ad))))))))
def DY (Ba C7:Fn):M Out:=
 (Ae (ifS (Cy (Ao (Ag C7 (Aa (Ab 0) (Aa (Ab 1) Ad)))))
   (FP "NoValue" (Aa (fC (.str "the value does not fit the shape")) Ad))
   Au)
 (An (nxD (Aw (Dp Ba (Aa (Ab 0) (Aa (Ab 1) Ad)))))))
def Hw (GD:Fn):M Out:=
 (Ae (CH 3 (Ag GD (Aa (Ab 0) (Aa (fC (.int 0)) (Aa (Fd [("left",(Ab 1)),("right",(Ab 2))]) (Aa (Fd [("left",(fC (.int 0))),("right",(fC (.int 0)))]) Ad))))))
 (An (nxD (Av (Aa (Ac (Ab 3) (fC (.int 0)) ixD) (Aa (Ac (Ab 3) (fC (.int 1)) ixD) (Aa (Av (Aa (Ac (Ac (Ab 3) (fC (.int 2)) ixD) (fC (.str "left")) AJ) (Aa (Ac (Ac (Ab 3) (fC (.int 2)) ixD) (fC (.str "right")) AJ) Ad))) Ad)))))))
def Hv (JJ:Fn):M Out:=
 (Ae (Df 4 (AG Ad))
 (Ae (Ar 5 (Ab 1))
 (Ae (Ar 6 (fB (Aa (Ab 3) Ad) HZ))
 (Ae (Nj (Ao (Ac (Ac (Ac (Ab 0) (Ab 5) ixD) (fC (.int 0)) ixD) (Ab 2) (inS false)))
   (Ae (Ar 7 (Ac (Ac (Ab 0) (Ab 5) ixD) (fC (.int 0)) ixD))
 (Ae (CH 8 (Ag JJ (Aa (Ac (Ab 0) (Ab 5) ixD) (Aa (Ac (Ab 2) (Ab 7) AJ) (Aa (Ac (Ab 6) (Ab 7) AJ) Ad)))))
 (Ae (ifS (Ao (Ac (Ab 8) (fC .non) isC))
   (ret .brk)
   Au)
 (Ae (ownM 4 Cn (Aa (Ac (Ab 8) (fC (.int 0)) ixD) Ad))
 (Ae (Ar 5 (Ac (Ab 8) (fC (.int 1)) ixD))
 (C8 (Ac (Ab 8) (fC (.int 2)) ixD) (EK (Ab 6) (Ab 7)))))))))
 (An (nxD (Av (Aa (Ab 4) (Aa (Ab 5) (Aa (Ab 6) Ad))))))))))
def EB (BA:Fn):M Out:=
 (Ae (ifS (Ao (Ac (Ab 2) (fB (Aa (Ab 1) Ad) AM) geA))
   (An (nxD (fC .non)))
   Au)
 (Ae (ifS (Ao (Ac (Ac (Ab 1) (Ab 2) ixD) (fB (Aa (Ac (Ab 0) (fC (.int 1)) ixD) Ad) AM) geA))
   (Dv "Broken" (Aa (Ab 2) (Aa (Ac (Ab 0) (fC (.int 0)) ixD) Ad)))
   Au)
 (Ae (Ar 3 (Ac (Ac (Ab 0) (fC (.int 1)) ixD) (Ac (Ab 1) (Ab 2) ixD) ixD))
 (Ae (FU (CH 4 (Ag BA (Aa (Ac (Ab 3) (fC (.int 1)) ixD) (Aa (Ab 1) (Aa (Ac (Ab 2) (fC (.int 1)) AO) Ad))))) (hNo "Short" (An (nxD (fC .non))) (hAs "Broken" 5 (Dv "Broken" (Aa (bnd (Ab 5) (Ky "at")) (Aa (Ac (Ab 0) (fC (.int 0)) ixD) Ad))) XJ)))
 (An (nxD (Av (Aa (Av (Aa (Ac (Ab 0) (fC (.int 0)) ixD) (Aa (Ac (Ab 3) (fC (.int 0)) ixD) (Aa (Ac (Ab 4) (fC (.int 0)) ixD) Ad)))) (Aa (Ac (Ab 3) (fC (.int 2)) ixD) (Aa (Ac (Ab 4) (fC (.int 1)) ixD) Ad))))))))))
def E3 (KI:Fn):M Out:=
 (Ae (Df 2 (AG Ad))
 (Ae (Ar 3 (fC (.int 0)))
 (Ae (Bj (Eb (Ab 1)) (unS 3 (Bf (AA 4) (Bf (AA 5) (Bf (AA 6) Em))))
   (Ae (Ar 7 (Ac (Ac (Ab 0) (Ab 3) ixD) (fC (.int 1)) ixD))
 (Ae (Ar 8 (idxM (Aw (Bl 1 [] (Eb (Ab 7)) (AA 0) DL (Ac (Ab 0) (fC (.int 0)) ixD))) (Aa (Ab 5) Ad)))
 (Ae (ownM 2 Cn (Aa (Ac (Aw (AG (Aa (Ab 8) Ad))) (Ag (B5 KI) (Aa (Ac (Ac (Ab 7) (Ab 8) ixD) (fC (.int 1)) ixD) (Aa (Ab 6) Ad))) AO) Ad))
 (Ar 3 (Ac (Ac (Ab 7) (Ab 8) ixD) (fC (.int 2)) ixD))))))
 (An (Ab 2)))))
def Dd:M Out:=
 (Ae (Ar 2 (Fd [("left",(Aw (AG Ad))),("right",(Aw (AG Ad)))]))
 (Ae (Bj (A5 (Aa (fB (Aa (Ab 0) Ad) AM) Ad)) (AA 3)
   (C8 (Ac (Ac (Ab 2) (Ac (Ac (Ab 0) (Ab 3) ixD) (fC (.int 0)) ixD) AJ) (Ac (Ab 1) (Ab 3) ixD) AO) (EK (Ab 2) (Ac (Ac (Ab 0) (Ab 3) ixD) (fC (.int 0)) ixD))))
 (An (Ab 2))))
def Ez (Hc:Fn):M Out:=
 (An (Aw (Bl 1 [] (Eb (Ab 0)) (AA 0) DL (fIf (Ao (Ag Hc (Aa (Ab 0) Ad))) (Ab 0) (Av (Aa (Ac (Ab 0) (fC (.int 0)) ixD) (Aa (Aw (fBF (Aa (Ac (Ab 0) (fC (.int 1)) ixD) Ad) Jh)) Ad)))))))
def Ee (JH:Fn):M Out:=
 (Ae (En "grammar" (Ag JH (Aa (Ab 1) Ad)) (Ab 0))
 (Ae (En "standing" (fC (.int 0)) (Ab 0))
 (Ae (En "wires" (ES []) (Ab 0))
 (Ae (En "places" (ES []) (Ab 0))
 (Bj (Eb (Ab 2)) (AA 3)
   (Ae (C8 (Hj (AG Ad)) (EK (Ew "wires" (Ab 0)) (Ab 3)))
 (C8 (fC (.int 0)) (EK (Ew "places" (Ab 0)) (Ab 3)))))))))
def CD:M Out:=
 (An (Ew "standing" (Ab 0)))
def EZ (GD:Fn):M Out:=
 (Ae (F0 (objM Ev (Ac (Ew "wires" (Ab 0)) (Ab 1) AJ) (Aa (Ab 2) Ad)))
 (Ae (CH 3 (Ag GD (Aa (Ew "grammar" (Ab 0)) (Aa (Ew "standing" (Ab 0)) (Aa (Ew "wires" (Ab 0)) (Aa (Ew "places" (Ab 0)) Ad))))))
 (Ae (En "standing" (Ac (Ab 3) (fC (.int 1)) ixD) (Ab 0))
 (Ae (En "places" (Ac (Ab 3) (fC (.int 2)) ixD) (Ab 0))
 (An (nxD (Ac (Ab 3) (fC (.int 0)) ixD)))))))
def Bc:M Out:=
 (An (Ac (fB (Aa (Ac (Ew "wires" (Ab 0)) (Ab 1) AJ) Ad) AM) (Ac (Ew "places" (Ab 0)) (Ab 1) AJ) Bs))
def Ef (Hb:Fn):M Out:=
 (F0 (Ag Hb (Aa (Ab 0) (Aa (Ab 1) (Aa (Av (Aa (fC (.str "left")) (Aa (fC (.str "right")) Ad))) Ad)))))
def E1 (KB:Fn):M Out:=
 (An (BG "Reader" KB (Ab 0) (Aa (Ab 1) (Aa (Ab 2) Ad))))
def BT (Es:Fn):M Out:=
 (An (Av (Aa (BG "Reader" Es (Ab 0) (Aa (fC (.str "left")) Ad)) (Aa (BG "Reader" Es (Ab 0) (Aa (fC (.str "right")) Ad)) Ad))))
def Eh (Cg Am Cv:Fn):M Out:=
 (Ae (Df 2 (AG Ad))
 (Ae (Df 3 (AG (Aa (fC (.int 0)) Ad)))
 (Ae (Ar 4 (fC (.int 0)))
 (Ae (Bj (A5 (Aa (fC (.int 100)) Ad)) (AA 5)
   (ifS (Ao (Ac (Ac (Ab 1) (Ab 4) ixD) (Av (Aa (fC (.str "end")) Ad)) (eqS λb=>!b)))
   (Ae (Ar 6 (Ag Cv (Aa (Aw (AG (Aa (fIf (Ao (Ac (Ab 0) (Aw (AG Ad)) JZ)) (Ac (Ab 0) (fC (.int 0)) ixD) (fC (.int 0))) (Aa (Ac (fB (Aa (LL (Ab 0) (Dh (Ac (Ab 5) (fC (.int 7)) El)) (Dh (fC (.int 63))) (Dh (fC (.int 5)))) Ad) Jt) (Ac (Ab 5) (Ab 5) B4) AO) Ad)))) (Aa (fC (.int 1)) Ad))))
 (Ae (C8 (Ac (Ab 1) (Ab 4) ixD) (unS 2 (Bf (AA 7) (Bf (AA 8) Em))))
 (Ae (C8 (Ac (Ab 8) (Ag Am (Aa (Ab 6) (Aa (fB (Aa (Ab 8) Ad) AM) Ad))) ixD) (unS 3 (Bf (AA 9) (Bf (AA 10) (Bf (AA 11) Em)))))
 (Ae (ownM 2 Cn (Aa (Av (Aa (Ab 7) (Aa (Ab 9) (Aa (Ag Cg (Aa (Ab 6) (Aa (Ab 10) Ad))) Ad)))) Ad))
 (Ae (Ar 4 (Ab 11))
 (ownM 3 Cn (Aa (Ab 4) Ad)))))))
   Au))
 (An (Aw (AG (Aa (Ab 2) (Aa (Ab 3) Ad)))))))))
def E2 (Am Cv:Fn):M Out:=
 (Ae (Ar 1 (Ag Cv (Aa (Aw (AG (Aa (fB (Aa (fSl (Ab 0) fNo (Dh (fC (.int 63))) FQ) Ad) Jt) Ad))) (Aa (fC (.int 0)) Ad))))
 (Ae (Ar 2 (Av (Aa (fC (.str "number")) (Aa (fC (.int 0)) (Aa (fC (.int 7)) Ad)))))
 (Ae (Ar 3 (Ag Am (Aa (Ab 1) (Aa (fC (.int 8)) Ad))))
 (Ae (Bj (A5 (Aa (fC (.int 5)) Ad)) (AA 4)
   (Ae (Ar 5 (Ag Am (Aa (Ab 1) (Aa (fC (.int 3)) Ad))))
 (ifS (Ao (Ac (Ab 5) (fC (.int 2)) (eqS id)))
   (Ae (Ar 2 (Av (Aa (fC (.str "choice")) (Aa (Av (Aa (Av (Aa (fC (.str "nothing")) Ad)) (Aa (Ab 2) Ad))) Ad))))
 (Ar 3 (Av (Aa (fC (.str "of")) (Aa (fC (.int 1)) (Aa (Ab 3) Ad))))))
   (Ae (Ar 2 (Ac (Aw (AG (Aa (Av (Aa (fC (.str "list")) (Aa (Ab 2) (Aa (fC (.int 250)) Ad)))) (Aa (Av (Aa (fC (.str "pair")) (Aa (Ab 2) (Aa (Av (Aa (fC (.str "text")) (Aa (fC (.int 3)) Ad))) Ad)))) Ad)))) (Ab 5) ixD))
 (Ar 3 (Ac (Aw (AG (Aa (Aw (AG (Aa (Ab 3) Ad))) (Aa (Av (Aa (Ab 3) (Aa (fC (.str "a~")) Ad))) Ad)))) (Ab 5) ixD))))))
 (Ae (Ar 6 (fB (Aa (Aw (Bl 1 [] (A5 (Aa (fC (.int 9)) Ad)) (AA 0) DL (Av (Aa (fC (.str "number")) (Aa (Ac (fC (.int 0)) (Ab 0) Bs) (Aa (Ac (fC (.int 300)) (Ab 0) B4) Ad)))))) Ad) Jv))
 (Ae (Ar 7 (Ag Am (Aa (Ab 1) (Aa (fC (.int 9)) Ad))))
 (Ae (Df 8 (AG (Aa (Av (Aa (fC (.str "left")) (Aa (Aw (AG (Aa (Av (Aa (fC (.str "a")) (Aa (Av (Aa (fC (.str "text")) (Aa (fC (.int 250)) Ad))) (Aa (fC (.int 1)) Ad)))) Ad))) Ad))) (Aa (Av (Aa (fC (.str "right")) (Aa (Aw (AG (Aa (Av (Aa (fC (.str "b")) (Aa (Av (Aa (fC (.str "list")) (Aa (Av (Aa (fC (.str "number")) (Aa (fUn (fC (.int 9)) Hz) (Aa (fC (.int 300)) Ad)))) (Aa (fC (.int 250)) Ad)))) (Aa (fC (.int 2)) Ad)))) Ad))) Ad))) Ad))))
 (Ae (ownM 8 Cn (Aa (Av (Aa (fC (.str "left")) (Aa (Aw (AG (Aa (Av (Aa (fC (.str "c")) (Aa (Av (Aa (fC (.str "choice")) (Aa (Ab 6) Ad))) (Aa (fC (.int 3)) Ad)))) Ad))) Ad))) Ad))
 (Ae (Df 8 (bnd (Ab 8) λx=>bnd (Aw (AG (Aa (Av (Aa (fC (.str "right")) (Aa (Aw (AG (Aa (Av (Aa (fC (.str "d")) (Aa (Ab 2) (Aa (fC (.int 4)) Ad)))) (Aa (Av (Aa (fC (.str "e")) (Aa (Ab 2) (Aa (fC (.int 0)) Ad)))) Ad)))) Ad))) (Aa (Av (Aa (fC (.str "end")) Ad)) Ad)))) λy=>He x y))
 (Ae (Ar 9 (fC (.str " ~azAZ09")))
 (Ae (Ar 10 (joinM (fC (.str "")) (Aa (Aw (Bl 1 [9,7] (A5 (Aa (Ac (fC (.int 250)) (Ag Am (Aa (Ab 1) (Aa (fC (.int 3)) Ad))) Bs) Ad)) (AA 0) DL (Ac (Ab 1) (Ac (Ac (Ac (Ac (Ab 0) (Ab 0) B4) (fC (.int 7)) Fe) (Ab 2) AO) (fC (.int 8)) El) ixD))) Ad)))
 (Ae (Ar 11 (Aw (Bl 1 [1] (A5 (Aa (Ac (fC (.int 100)) (Ag Am (Aa (Ab 1) (Aa (fC (.int 3)) Ad))) Bs) Ad)) (AA 0) DL (Ac (Ag Am (Aa (Ab 1) (Aa (fC (.int 310)) Ad))) (fC (.int 9)) Bs))))
 (Ae (Ar 12 (Aw (AG (Aa (Av (Aa (fC (.str "left")) (Aa (fC (.str "a")) (Aa (Ab 10) Ad)))) (Aa (Av (Aa (fC (.str "right")) (Aa (fC (.str "b")) (Aa (Ab 11) Ad)))) (Aa (Av (Aa (fC (.str "left")) (Aa (fC (.str "c")) (Aa (Av (Aa (fC (.str "of")) (Aa (Ab 7) (Aa (Ac (fC (.int 300)) (Ab 7) B4) Ad)))) Ad)))) Ad))))))
 (An (Aw (AG (Aa (Ab 8) (Aa (Ac (Ab 12) (Aw (AG (Aa (Av (Aa (fC (.str "right")) (Aa (fC (.str "d")) (Aa (Ab 3) Ad)))) Ad))) AO) Ad))))))))))))))))))
def DJ (B1 Cu BO:Fn):M Out:=
 (Ae (Ar 4 (Ia "Reader" BO (Aa (Ab 0) Ad)))
 (Ae (Ar 5 (Aw (AG Ad)))
 (Ae (Bj (Eb (Aw (AG (Aa (fC (.str "right")) (Aa (fC (.str "left")) Ad))))) (AA 6)
   (Bj (JN (Aa (fC (.int 0)) (Aa (fB (Aa (Ac (Ab 2) (Ab 6) AJ) Ad) AM) (Aa (Ab 3) Ad)))) (AA 7)
   (Ar 5 (Ac (Ab 5) (BG "Reader" (B5 Cu) (Ab 4) (Aa (Ab 6) (Aa (fSl (Ac (Ab 2) (Ab 6) AJ) (Dh (Ab 7)) (Dh (Ac (Ab 7) (Ab 3) AO)) FQ) Ad))) AO))))
 (An (EJ (Ac (Ab 5) (Ab 1) (eqS id)) (Ac (BG "Reader" B1 (Ab 4) (ret [])) (Av (Aa (fC (.int 0)) (Aa (fC (.int 0)) Ad))) (eqS id)))))))
def Ht (D7 B1 Cu BO Ea EI Ca DR Fy D9 KC Ly:Fn):M Out:=
 (Ae (C8 (Ag Ly (Aa (Ab 0) Ad)) (unS 2 (Bf (AA 1) (Bf (AA 2) Em))))
 (Ae (Ar 3 (Ag Ca (Aa (Ab 2) (Aa (Ag DR (Aa (Ab 1) (Aa (Ab 2) Ad))) Ad))))
 (Ae (ifS (Ao (Ac (Ag (B5 EI) (Aa (Ab 1) (Aa (Ab 2) Ad))) (Av (Aa (Ac (Ab 3) (fC (.str "left")) AJ) (Aa (Ac (Ab 3) (fC (.str "right")) AJ) Ad))) (eqT λb=>!b)))
   (An (fC (.bl false)))
   Au)
 (Ae (ifS (Ao (Ac (Ag (B5 Ea) (Aa (Ab 1) (Aa (Ac (Ab 3) (fC (.str "left")) AJ) (Aa (Ac (Ab 3) (fC (.str "right")) AJ) Ad)))) (Av (Aa (Ab 2) (Aa (fC (.int 4)) (Aa (Av (Aa (fB (Aa (Ac (Ab 3) (fC (.str "left")) AJ) Ad) AM) (Aa (fB (Aa (Ac (Ab 3) (fC (.str "right")) AJ) Ad) AM) Ad))) Ad)))) (eqS λb=>!b)))
   (An (fC (.bl false)))
   Au)
 (Ae (ifS (Ao (Ac (Ac (Ag (B5 Ea) (Aa (Ab 1) (Aa (Ac (Ab 3) (fC (.str "left")) AJ) (Aa (fSl (Ac (Ab 3) (fC (.str "right")) AJ) fNo (Dh (fUn (fC (.int 1)) Hz)) FQ) Ad)))) (fC (.int 0)) ixD) (fSl (Ab 2) fNo (Dh (fC (.int 3))) FQ) (eqS λb=>!b)))
   (An (fC (.bl false)))
   Au)
 (Ae (ifS (Cy (Ao (Ag KC (Aa (Ab 1) (Aa (Ab 2) (Aa (Ab 3) (Aa (Ac (fC (.int 1)) (fB (Aa (Ab 0) Ad) AM) AO) Ad)))))))
   (An (fC (.bl false)))
   Au)
 (Ae (Ar 1 (Ag D9 (Aa (Ab 0) Ad)))
 (Ae (C8 (Ag Fy (Aa (Ab 0) (Aa (Ab 1) Ad))) (unS 2 (Bf (AA 2) (Bf (AA 4) Em))))
 (Ae (Ar 5 (Ag DR (Aa (Ab 1) (Aa (Ab 2) Ad))))
 (Ae (Ar 3 (Ag Ca (Aa (Ab 2) (Aa (Ab 5) Ad))))
 (Ae (ifS (Ao (Ac (Ag (B5 EI) (Aa (Ab 1) (Aa (Ab 2) Ad))) (Av (Aa (Ac (Ab 3) (fC (.str "left")) AJ) (Aa (Ac (Ab 3) (fC (.str "right")) AJ) Ad))) (eqT λb=>!b)))
   (An (fC (.bl false)))
   Au)
 (Ae (ifS (Ao (Ac (Ag (B5 Ea) (Aa (Ab 1) (Aa (Ac (Ab 3) (fC (.str "left")) AJ) (Aa (Ac (Ab 3) (fC (.str "right")) AJ) Ad)))) (Av (Aa (Ab 2) (Aa (Ac (Ab 4) (fUn (fC (.int 1)) Hz) ixD) (Aa (Av (Aa (fB (Aa (Ac (Ab 3) (fC (.str "left")) AJ) Ad) AM) (Aa (fB (Aa (Ac (Ab 3) (fC (.str "right")) AJ) Ad) AM) Ad))) Ad)))) (eqS λb=>!b)))
   (An (fC (.bl false)))
   Au)
 (Ae (Ar 6 (Ia "Reader" BO (Aa (Ab 1) Ad)))
 (Ae (Bj (A5 (Aa (fB (Aa (Ab 2) Ad) AM) Ad)) (AA 7)
   (Ae (Bj (A5 (Aa (fB (Aa (Ac (Ab 5) (Ab 7) ixD) Ad) AM) Ad)) (AA 8)
   (Ae (Ar 9 (Ac (Aw (AG (Aa (Ac (Ab 2) (Ab 7) ixD) Ad))) (fB (Aa (Ac (Ab 8) (Ac (fB (Aa (Ac (Ab 5) (Ab 7) ixD) Ad) AM) (fC (.int 1)) Bs) (eqS id)) Ad) GN) B4))
 (ifS (Ao (Ac (BG "Reader" (B5 Cu) (Ab 6) (Aa (Ac (Ac (Ab 2) (Ab 7) ixD) (fC (.int 0)) ixD) (Aa (Aw (AG (Aa (Ac (Ac (Ab 5) (Ab 7) ixD) (Ab 8) ixD) Ad))) Ad))) (Ab 9) (eqS λb=>!b)))
   (An (fC (.bl false)))
   Au)))
 (ifS (fOr (Ao (Ac (BG "Reader" D7 (Ab 6) (ret [])) (Ac (Ab 4) (Ac (Ab 7) (fC (.int 1)) AO) ixD) (eqS λb=>!b))) (Ao (Ac (BG "Reader" B1 (Ab 6) (ret [])) (Av (Aa (fC (.int 0)) (Aa (fC (.int 0)) Ad))) (eqS λb=>!b))))
   (An (fC (.bl false)))
   Au)))
 (An (fC (.bl true)))))))))))))))))
end LW
namespace F2
open PySem L2
def W {α:Type}(m:M α)(t:T)(P:α->T->Prop):Prop:=∃a t',m t=some (a,t')/\P a t'
def Wf (g:Fn)(ds:List D)(S:List Ob)(P:D->List Ob->Prop):Prop:=∃r S',g ds S=some (r,S')/\P r S'
theorem W.mono {α:Type}{m:M α}{t:T}{P Q:α->T->Prop}(h:W m t P)(i:∀a t',P a t'->Q a t'):W m t Q:=by
 obtain ⟨a,t',e,p⟩:=h;exact ⟨a,t',e,i a t' p⟩
theorem Wf.mono {g:Fn}{ds:List D}{S:List Ob}{P Q:D->List Ob->Prop}(h:Wf g ds S P)(i:∀r S',P r S'->Q r S'):Wf g ds S Q:=by
 obtain ⟨a,t',e,p⟩:=h;exact ⟨a,t',e,i a t' p⟩
section
variable {α β:Type}
theorem Ay {m:M α}{t:T}{P:α->T->Prop}{a:α}{t':T}(e:m t=some (a,t')):W m t P↔P a t':=by
 constructor
 ·rintro ⟨a',t1,e',p⟩;rw [e] at e';cases e';exact p
 ·exact λp=>⟨a,t',e,p⟩
theorem D6 {m:M α}{t:T}{P:α->T->Prop}(e:m t=none):W m t P↔False:=by
 constructor
 ·rintro ⟨a',t1,e',p⟩;rw [e] at e';cases e'
 ·exact False.elim
@[simp] theorem W_ret {a:α} {t:T} {P:α->T->Prop}:W (ret a) t P↔P a t:=Ay rfl
@[simp] theorem W_fail {t:T} {P:α->T->Prop}:W (fail:M α) t P↔False:=D6 rfl
@[simp] theorem W_bnd {f:M α} {g:α->M β} {t:T} {P:β->T->Prop}:W (bnd f g) t P↔W f t λa t1=>W (g a) t1 P:=by
 constructor
 ·rintro ⟨b,t',e,p⟩;obtain ⟨a,t1,e1,e2⟩:=Af e;exact ⟨a,t1,e1,b,t',e2,p⟩
 ·rintro ⟨a,t1,e1,b,t',e2,p⟩;exact ⟨b,t',by unfold bnd;rw [e1];exact e2,p⟩
@[simp] theorem TY {c:Prop} [Decidable c] {f g:M α} {t:T} {P:α->T->Prop}:W (if c then f else g) t P↔if c then W f t P else W g t P:=by split <;> rfl
@[simp] theorem df {n:Nat} {a:α} {t:T} {P:α->T->Prop}:W (lim n a) t P↔n<=LIM/\P a t:=by
 unfold lim;constructor
 ·rintro ⟨a',t',e,p⟩
  split at e
  ·cases e;exact ⟨by assumption,p⟩
  ·cases e
 ·rintro ⟨h,p⟩;exact ⟨a,t,by simp only [h,if_true],p⟩
end
variable {t:T}{env:List (Option Sl)}{S:List Ob}
@[simp] theorem W_fC {d:D} {P:D->T->Prop}:W (fC d) t P↔P d t:=Ay rfl
@[simp] theorem Pp {i:Nat} {P:D->T->Prop}:W (Ab i) t P↔match t.env[i]? with
 | some (some (.val d))=>P d t
 | some (some (.own ds))=>P (.lst ds) ⟨t.env.set i (some (.val (.lst ds))),t.S⟩
 | _=>False:=by
 cases e:t.env[i]? with
 | none=>exact D6 (by unfold Ab;simp [e])
 | some o=>
   cases o with
   | none=>exact D6 (by unfold Ab;simp [e])
   | some sl=>
     cases sl with
     | val d=>exact Ay (by unfold Ab;simp [e])
     | own ds=>exact Ay (by unfold Ab;simp [e])
@[simp] theorem W_fBin {f g:M D} {h:D->D->M D} {P:D->T->Prop}:W (Ac f g h) t P↔W f t λx t1=>W g t1 λy t2=>W (h x y) t2 P:=by simp [Ac]
@[simp] theorem W_fUn {f:M D} {h:D->M D} {P:D->T->Prop}:W (fUn f h) t P↔W f t λx t1=>W (h x) t1 P:=by simp [fUn]
@[simp] theorem W_toB {b:Bool} {P:Bool->T->Prop}:W (toB (.bl b)) t P↔P b t:=Ay rfl
@[simp] theorem W_fTst {f:M D} {P:Bool->T->Prop}:W (Ao f) t P↔W f t λx t1=>W (toB x) t1 P:=by simp [Ao]
@[simp] theorem W_fChain {f g w:M D} {h h':D->D->M D} {P:D->T->Prop}:W (ER f g w h h') t P↔W f t λx t1=>W g t1 λy t2=>W (h x y) t2 λk t3=>W (toB k) t3 λk t4=>if k=true then W w t4 λz t5=>W (h' y z) t5 P else P (.bl false) t4:=by
 simp [ER]
@[simp] theorem W_fAnd {f g:M Bool} {P:Bool->T->Prop}:W (KL f g) t P↔W f t λk t1=>if k=true then W g t1 P else P false t1:=by simp [KL]
@[simp] theorem W_fOr {f g:M Bool} {P:Bool->T->Prop}:W (fOr f g) t P↔W f t λk t1=>if k=true then P true t1 else W g t1 P:=by simp [fOr]
@[simp] theorem W_fNot {f:M Bool} {P:Bool->T->Prop}:W (Cy f) t P↔W f t λk t1=>P (!k) t1:=by simp [Cy]
@[simp] theorem W_fAndV {f g:M D} {P:D->T->Prop}:W (EJ f g) t P↔W f t λx t1=>W (toB x) t1 λk t2=>if k=true then W g t2 P else P (.bl false) t2:=by simp [EJ]
@[simp] theorem c7 {f g:M D} {P:D->T->Prop}:W (Xg f g) t P↔W f t λx t1=>W (toB x) t1 λk t2=>if k=true then P (.bl true) t2 else W g t2 P:=by simp [Xg]
@[simp] theorem W_fNotV {f:M D} {P:D->T->Prop}:W (Ib f) t P↔W f t λx t1=>W (toB x) t1 λk t2=>P (.bl (!k)) t2:=by simp [Ib]
@[simp] theorem W_fIf {f:M Bool} {g h:M D} {P:D->T->Prop}:W (fIf f g h) t P↔W f t λk t1=>if k=true then W g t1 P else W h t1 P:=by simp [fIf]
@[simp] theorem W_fNil {P:List D->T->Prop}:W Ad t P↔P [] t:=Ay rfl
@[simp] theorem W_fCons {f:M D} {g:M (List D)} {P:List D->T->Prop}:W (Aa f g) t P↔W f t λd t1=>W g t1 λds t2=>P (d :: ds) t2:=by simp [Aa]
@[simp] theorem W_fTup {f:M (List D)} {P:D->T->Prop}:W (Av f) t P↔W f t λds t1=>ds.length<=LIM/\P (.tup ds) t1:=by simp [Av]
@[simp] theorem W_fLst {f:M (List D)} {P:List D->T->Prop}:W (AG f) t P↔W f t λds t1=>ds.length<=LIM/\P ds t1:=by simp [AG]
@[simp] theorem W_fPure {f:M (List D)} {P:D->T->Prop}:W (Aw f) t P↔W f t λds t1=>P (.lst ds) t1:=by simp [Aw]
@[simp] theorem W_newOb {o:Ob} {P:D->T->Prop}:W (OQ o) t P↔P (.obj t.S.length) ⟨t.env,t.S++[o]⟩:=Ay rfl
@[simp] theorem WW {f:M (List D)} {P:D->T->Prop}:W (Hj f) t P↔W f t λds t1=>W (OQ (.lst ds)) t1 P:=by simp [Hj]
@[simp] theorem W_fCall {g:Fn} {f:M (List D)} {P:D->T->Prop}:W (Ag g f) t P↔W f t λds t1=>Wf g ds t1.S λr S'=>P r ⟨t1.env,S'⟩:=by
 unfold Ag;rw [W_bnd];constructor
 ·rintro ⟨ds,t1,e1,r,t',e2,p⟩;refine ⟨ds,t1,e1,?_⟩;dsimp only at e2
  cases e:g ds t1.S with
  | none=>rw [e] at e2;cases e2
  | some z=>obtain ⟨r',S'⟩:=z;rw [e] at e2;cases e2;exact ⟨r,_,e,p⟩
 ·rintro ⟨ds,t1,e1,r,S',e2,p⟩;exact ⟨ds,t1,e1,r,_,by simp only [e2],p⟩
@[simp] theorem W_fB {f:M (List D)} {h:List D->M D} {P:D->T->Prop}:W (fB f h) t P↔W f t λds t1=>W (h ds) t1 P:=by simp [fB]
@[simp] theorem W_fBF {f:M (List D)} {h:List D->M (List D)} {P:List D->T->Prop}:W (fBF f h) t P↔W f t λds t1=>W (h ds) t1 P:=by simp [fBF]
@[simp] theorem W_seqS {f g:M Out} {P:Out->T->Prop}:W (Ae f g) t P↔W f t λo t1=>match o with
 | .next=>W g t1 P
 | .brk=>P .brk t1
 | .cont=>P .cont t1
 | .ret d=>P (.ret d) t1:=by
 unfold Ae;constructor
 ·rintro ⟨o,t',e,p⟩;dsimp only at e
  cases e1:f t with
  | none=>rw [e1] at e;cases e
  | some z=>
    obtain ⟨o1,t1⟩:=z;rw [e1] at e;refine ⟨o1,t1,e1,?_⟩
    cases o1 with
    | next=>exact ⟨o,t',e,p⟩
    | brk=>cases e;exact p
    | cont=>cases e;exact p
    | ret d=>cases e;exact p
 ·rintro ⟨o,t1,e,p⟩
  cases o with
  | next=>obtain ⟨o,t',e',p⟩:=p;exact ⟨o,t',by simp only [e];exact e',p⟩
  | brk=>exact ⟨_,_,by simp only [e],p⟩
  | cont=>exact ⟨_,_,by simp only [e],p⟩
  | ret d=>exact ⟨_,_,by simp only [e],p⟩
@[simp] theorem W_skipS {P:Out->T->Prop}:W Au t P↔P .next t:=Ay rfl
@[simp] theorem W_retS {f:M D} {P:Out->T->Prop}:W (An f) t P↔W f t λd t1=>P (.ret d) t1:=by simp [An]
@[simp] theorem W_dropS {f:M D} {P:Out->T->Prop}:W (F0 f) t P↔W f t λd t1=>P .next t1:=by simp [F0]
@[simp] theorem W_ifS {f:M Bool} {g h:M Out} {P:Out->T->Prop}:W (ifS f g h) t P↔W f t λk t1=>if k=true then W g t1 P else W h t1 P:=by simp [ifS]
@[simp] theorem W_putV {i:Nat} {d:D} {P:Unit->T->Prop}:W (AA i d) t P↔P () ⟨t.env.set i (some (.val d)),t.S⟩:=Ay rfl
@[simp] theorem W_setS {i:Nat} {f:M D} {P:Out->T->Prop}:W (Ar i f) t P↔W f t λd t1=>P .next ⟨t1.env.set i (some (.val d)),t1.S⟩:=by
 simp only [Ar,W_bnd,W_ret,W_putV]
@[simp] theorem W_ownS {i:Nat} {f:M (List D)} {P:Out->T->Prop}:W (Df i f) t P↔W f t λds t1=>P .next ⟨t1.env.set i (some (.own ds)),t1.S⟩:=by
 unfold Df;rw [W_bnd];have:∀(ds:List D) (t1:T),W (λt:T=>some (Out.next,({ t with env:=t.env.set i (some (.own ds)) }:T))) t1 P↔P .next ⟨t1.env.set i (some (.own ds)),t1.S⟩:=λds t1=>Ay rfl;simp only [this]
@[simp] theorem W_asgS {f:M D} {g:D->M Unit} {P:Out->T->Prop}:W (C8 f g) t P↔W f t λd t1=>W (g d) t1 λ_ t2=>P .next t2:=by simp [C8]
@[simp] theorem W_putNil {P:Unit->T->Prop}:W (Em []) t P↔P () t:=Ay rfl
@[simp] theorem W_putCons {f:D->M Unit} {g:List D->M Unit} {d:D} {ds:List D} {P:Unit->T->Prop}:W (Bf f g (d :: ds)) t P↔W (f d) t λ_ t1=>W (g ds) t1 P:=by simp [Bf]
@[simp] theorem W_unS_lst {n:Nat} {g:List D->M Unit} {ds:List D} {P:Unit->T->Prop}:W (unS n g (.lst ds)) t P↔ds.length=n/\W (g ds) t P:=by
 unfold unS;simp only [TY,W_fail];split <;> simp [*]
@[simp] theorem W_unS_tup {n:Nat} {g:List D->M Unit} {ds:List D} {P:Unit->T->Prop}:W (unS n g (.tup ds)) t P↔ds.length=n/\W (g ds) t P:=by
 unfold unS;simp only [TY,W_fail];split <;> simp [*]
@[simp] theorem W_forS {f:M (List D)} {st:D->M Unit} {b:M Out} {P:Out->T->Prop}:W (Bj f st b) t P↔W f t λds t1=>W (CA st b ds) t1 P:=by simp [Bj]
@[simp] theorem W_forL_nil {st:D->M Unit} {b:M Out} {P:Out->T->Prop}:W (CA st b []) t P↔P .next t:=Ay rfl
theorem W_forL_cons {st:D->M Unit}{b:M Out}{d:D}{r:List D}{P:Out->T->Prop}:W (CA st b (d :: r)) t P↔W (st d) t λ_ t1=>W b t1 λo t2=>match o with
 | .next=>W (CA st b r) t2 P
 | .cont=>W (CA st b r) t2 P
 | .brk=>P .next t2
 | .ret x=>P (.ret x) t2:=by
 constructor
 ·rintro ⟨o,t',e,p⟩;unfold CA at e
  cases e1:st d t with
  | none=>rw [e1] at e;cases e
  | some z=>
    obtain ⟨u,t1⟩:=z;rw [e1] at e
    try dsimp only at e
    refine ⟨u,t1,e1,?_⟩
    cases e2:b t1 with
    | none=>rw [e2] at e;cases e
    | some z=>
      obtain ⟨o2,t2⟩:=z;rw [e2] at e
      try dsimp only at e
      refine ⟨o2,t2,e2,?_⟩
      cases o2 with
      | next=>exact ⟨o,t',e,p⟩
      | cont=>exact ⟨o,t',e,p⟩
      | brk=>cases e;exact p
      | ret x=>cases e;exact p
 ·rintro ⟨u,t1,e1,o,t2,e2,p⟩
  cases o with
  | next=>obtain ⟨o,t',e',p⟩:=p;exact ⟨o,t',by unfold CA;simp only [e1,e2];exact e',p⟩
  | cont=>obtain ⟨o,t',e',p⟩:=p;exact ⟨o,t',by unfold CA;simp only [e1,e2];exact e',p⟩
  | brk=>exact ⟨_,_,by unfold CA;simp only [e1,e2],p⟩
  | ret x=>exact ⟨_,_,by unfold CA;simp only [e1,e2],p⟩
theorem BS {st:D->M Unit}{b:M Out}{P:Out->T->Prop}(I:List D->T->Prop):∀(ds:List D) (t:T),I ds t->
 (∀d r t,I (d :: r) t->d∈ds->W (st d) t λ_ t1=>W b t1 λo t2=>match o with
   | .next=>I r t2
   | .cont=>I r t2
   | .brk=>P .next t2
   | .ret x=>P (.ret x) t2)->(∀t,I [] t->P .next t)->W (CA st b ds) t P
 | [],t,h,_,fin=>W_forL_nil.mpr (fin t h)
 | d :: r,t,h,turn,fin=>by
   rw [W_forL_cons];refine (turn d r t h uf2).mono λ_ t1 h1=>h1.mono λo t2 h2=>?_
   cases o with
   | next=>exact BS I r t2 h2 (λd' r' t' h' m=>turn d' r' t' h' (ud9 _ m)) fin
   | cont=>exact BS I r t2 h2 (λd' r' t' h' m=>turn d' r' t' h' (ud9 _ m)) fin
   | brk=>exact h2
   | ret x=>exact h2
@[simp] theorem W_fComp {n:Nat} {fr:List Nat} {f:M (List D)} {st:D->M Unit} {tst:M Bool} {elt:M D} {P:List D->T->Prop}:W (Bl n fr f st tst elt) t P↔W f t λds t1=>W (Cb st tst elt ds) ⟨cenv n fr t1.env,t1.S⟩ λxs t'=>xs.length<=LIM/\P xs ⟨t1.env,t'.S⟩:=by
 unfold Bl;rw [W_bnd];constructor
 ·rintro ⟨ds,t1,e1,xs,t',e2,p⟩;refine ⟨ds,t1,e1,?_⟩;dsimp only at e2
  cases e:Cb st tst elt ds ⟨cenv n fr t1.env,t1.S⟩ with
  | none=>rw [e] at e2;cases e2
  | some z=>
    obtain ⟨ys,t3⟩:=z;rw [e] at e2;dsimp only at e2
    split at e2
    ·cases e2;exact ⟨_,_,e,by assumption,p⟩
    ·cases e2
 ·rintro ⟨ds,t1,e1,xs,t',e2,h,p⟩;exact ⟨ds,t1,e1,xs,_,by simp only [e2,h,if_true],p⟩
@[simp] theorem W_compL_nil {st:D->M Unit} {tst:M Bool} {elt:M D} {P:List D->T->Prop}:W (Cb st tst elt []) t P↔P [] t:=Ay rfl
theorem Fv {st:D->M Unit}{tst:M Bool}{elt:M D}{d:D}{r:List D}{P:List D->T->Prop}:W (Cb st tst elt (d :: r)) t P↔W (st d) t λ_ t1=>W tst t1 λk t2=>
 if k=true then W elt t2 λx t3=>W (Cb st tst elt r) t3 λxs t4=>P (x :: xs) t4 else W (Cb st tst elt r) t2 P:=by
 rw [Cb];simp
theorem Gg {st:D->M Unit}{tst:M Bool}{elt:M D}{P:List D->T->Prop}(I:List D->List D->T->Prop):∀(ds:List D) (acc:List D) (t:T),I acc ds t->
 (∀acc d r t,I acc (d :: r) t->d∈ds->W (st d) t λ_ t1=>W tst t1 λk t2=>if k=true then W elt t2 λx t3=>I (acc++[x]) r t3 else I acc r t2)->
 (∀acc t,I acc [] t->P acc t)->W (Cb st tst elt ds) t λxs t'=>P (acc++xs) t'
 | [],acc,t,h,_,fin=>W_compL_nil.mpr (by rw [uj5];exact fin acc t h)
 | d :: r,acc,t,h,turn,fin=>by
   rw [Fv];have turn':∀acc d' r' t',I acc (d' :: r') t'->d'∈r->_:=λacc d' r' t' h' m=>turn acc d' r' t' h' (ud9 _ m);refine (turn acc d r t h uf2).mono λ_ t1 h1=>h1.mono λk t2 h2=>?_
   cases k with
   | true=>
     rw [if_pos rfl] at h2 ⊢;refine h2.mono λx t3 h3=>(Gg I r (acc++[x]) t3 h3 turn' fin).mono λxs t4 h4=>?_;rw [ug6] at h4;exact h4
   | false=>
     rw [if_neg uf3] at h2 ⊢;exact Gg I r acc t2 h2 turn' fin
theorem Aq {n m:Nat}{g:M Out}{ds:List D}{P:D->List Ob->Prop}(h:ds.length=n)(w:W g ⟨env0 m ds,S⟩ λo t=>match o with
 | .ret r=>P r t.S
 | .next=>P .non t.S
 | _=>False):Wf (fnOf n m g) ds S P:=by
 obtain ⟨o,t,e,p⟩:=w
 cases o with
 | ret r=>exact ⟨r,t.S,by unfold fnOf;rw [if_pos h,e],p⟩
 | next=>exact ⟨.non,t.S,by unfold fnOf;rw [if_pos h,e],p⟩
 | brk=>exact p.elim
 | cont=>exact p.elim
@[simp] theorem W_tTru {P:Bool->T->Prop}:W DL t P↔P true t:=Ay rfl
@[simp] theorem c6 {P:D->T->Prop}:W bn t P↔P .dic t:=Ay rfl
end F2
namespace F2
open PySem L2
variable {t:T}{P:D->T->Prop}
theorem LI {α β:Type}{o:Option β}{g:β->α×T}{Q:α->T->Prop}{m:M α}(e:m t=o.map g):W m t Q↔∃b,o=some b/\Q (g b).1 (g b).2:=by
 constructor
 ·rintro ⟨a,t',e',p⟩;rw [e] at e';obtain ⟨b,h1,h2⟩:=uc6.mp e';exact ⟨b,h1,by rw [h2];exact p⟩
 ·rintro ⟨b,h,p⟩;exact ⟨_,_,by rw [e,h];rfl,p⟩
theorem Ry {α:Type}{c:Prop}[Decidable c]{z:α×T}{Q:α->T->Prop}{m:M α}(e:m t=if c then some z else none):W m t Q↔c/\Q z.1 z.2:=by
 constructor
 ·rintro ⟨a,t',e',p⟩;rw [e] at e'
  split at e'
  ·cases e';exact ⟨by assumption,p⟩
  ·cases e'
 ·rintro ⟨h,p⟩;exact ⟨_,_,by rw [e,if_pos h],p⟩
theorem LZ {α β:Type}{o:Option β}(f:β->α){Q:α->T->Prop}{m:M α}(e:m t=o.map λb=>(f b,t)):W m t Q↔∃b,o=some b/\Q (f b) t:=LI (g:=λb=>(f b,t)) e
theorem Gz {α:Type}{c:Prop}[Decidable c]{a:α}{Q:α->T->Prop}{m:M α}(e:m t=if c then some (a,t) else none):W m t Q↔c/\Q a t:=Ry (z:=(a,t)) e
@[simp] theorem W_ix_tup {ds:List D} {i:Int}:W (ixD (.tup ds) (.int i)) t P↔∃d,atI ds i=some d/\P d t:=LZ id rfl
@[simp] theorem W_ix_lst {ds:List D} {i:Int}:W (ixD (.lst ds) (.int i)) t P↔∃d,atI ds i=some d/\P d t:=LZ id rfl
@[simp] theorem W_ix_scr {ns:List Int} {i:Int}:W (ixD (.scr ns) (.int i)) t P↔∃n,atI ns i=some n/\P (.int n) t:=LZ D.int rfl
@[simp] theorem W_ix_str {x:Str} {i:Int}:W (ixD (.str x) (.int i)) t P↔x.length<=LIM/\∃n,atI x.cps.toList i=some n/\P (.str ⟨#[n]⟩) t:=by
 by_cases h:x.length<=LIM
 ·have:ixD (.str x) (.int i) t=(atI x.cps.toList i).map λn=>(.str ⟨#[n]⟩,t):=by simp only [ixD,h,if_true]
  rw [LI this];simp [h]
 ·rw [D6 (by simp only [ixD,h,if_false])];simp [h]
@[simp] theorem W_ix_obj {k:Nat} {i:Int}:W (ixD (.obj k) (.int i)) t P↔∃ds,t.S[k]?=some (.lst ds)/\∃d,atI ds i=some d/\P d t:=by
 cases e:t.S[k]? with
 | none=>rw [D6 (by simp only [ixD,e])];simp
 | some o=>
   cases o with
   | dct _ | ins _ _=>rw [D6 (by simp only [ixD,e])];simp
   | lst ds=>
     have:ixD (.obj k) (.int i) t=(atI ds i).map λd=>(d,t):=by simp only [ixD,e]
     rw [LI this];exact ⟨(⟨_,rfl,·⟩),λ⟨_,rfl,h⟩=>h⟩
@[simp] theorem HW {α:Type} {a:α} {r:List α}:atI (a :: r) 0=some a:=by simp [atI,ixN]
@[simp] theorem TZ {α:Type} {a b:α} {r:List α}:atI (a :: b :: r) 1=some b:=by
 have:(1:Int) < ((a :: b :: r).length:Nat):=by simp;lia
 simp only [atI,ixN,this,if_true,show (0:Int)<=1 by decide];rfl
@[simp] theorem T0 {α:Type} {a b c:α} {r:List α}:atI (a :: b :: c :: r) 2=some c:=by
 have:(2:Int) < ((a :: b :: c :: r).length:Nat):=by simp;lia
 simp only [atI,ixN,this,if_true,show (0:Int)<=2 by decide];rfl
theorem Uz {α:Type}{xs:List α}{i:Int}(h0:0<=i)(h1:i < xs.length):∃d,atI xs i=some d/\d∈xs/\xs[i.toNat]?=some d:=by
 have hl:i.toNat < xs.length:=by lia
 refine ⟨xs[i.toNat],?_,ui4 hl,ub4 hl⟩;simp [atI,ixN,h0,h1,hl]
@[simp] theorem W_len_lst {ds:List D}:W (AM [.lst ds]) t P↔P (.int ds.length) t:=Ay rfl
@[simp] theorem W_len_tup {ds:List D}:W (AM [.tup ds]) t P↔P (.int ds.length) t:=Ay rfl
@[simp] theorem W_len_scr {ds:List Int}:W (AM [.scr ds]) t P↔P (.int ds.length) t:=Ay rfl
@[simp] theorem W_len_str {x:Str}:W (AM [.str x]) t P↔x.length<=LIM/\P (.int x.length) t:=by simp [AM]
@[simp] theorem W_len_obj {k:Nat}:W (AM [.obj k]) t P↔∃ds,t.S[k]?=some (.lst ds)/\P (.int ds.length) t:=by
 cases e:t.S[k]? with
 | none=>rw [D6 (by simp only [AM,e])];simp
 | some o=>
   cases o with
   | dct _ | ins _ _=>rw [D6 (by simp only [AM,e])];simp
   | lst ds=>rw [Ay (a:=.int ds.length) (t':=t) (by simp only [AM,e])];exact ⟨(⟨_,rfl,·⟩),λ⟨_,rfl,h⟩=>h⟩
@[simp] theorem W_isi {d:D} {m:String}:W (Dc [d,.ty m]) t P↔∃n,tyD d=some n/\∃b,KO n m=some b/\P (.bl b) t:=by
 cases e:tyD d with
 | none=>rw [D6 (by simp only [Dc,e])];simp
 | some n=>
   have:Dc [d,.ty m] t=(KO n m).map λb=>(.bl b,t):=by simp only [Dc,e]
   rw [LI this];simp
noncomputable def Ik:D->Bool
 | .non=>true
 | _=>false
noncomputable def bw (b:Bool):D->Bool
 | .bl c=>c == b
 | _=>false
@[simp] theorem W_is_non {x:D}:W (isC x .non) t P↔P (.bl (Ik x)) t:=Ay (by cases x <;> rfl)
@[simp] theorem cX {x:D} {b:Bool}:W (isC x (.bl b)) t P↔P (.bl (bw b x)) t:=Ay (by cases x <;> rfl)
@[simp] theorem cW {x y:D}:W (Qg x y) t P↔W (isC x y) t λd t1=>W (toB d) t1 λb t2=>P (.bl (!b)) t2:=by
 unfold Qg;rw [W_bnd];constructor
 ·exact λh=>h.mono λd t1 h1=>by
   cases d with
   | bl b=>simpa using h1
   | _=>exact (W_fail.mp h1).elim
 ·exact λh=>h.mono λd t1 h1=>by
   cases d with
   | bl b=>simpa using h1
   | _=>obtain ⟨_,_,e,_⟩:=h1;cases e
@[simp] theorem W_add_int {i j:Int}:W (AO (.int i) (.int j)) t P↔P (.int (i + j)) t:=Ay rfl
@[simp] theorem W_sub_int {i j:Int}:W (Bs (.int i) (.int j)) t P↔P (.int (i - j)) t:=Ay rfl
@[simp] theorem W_lt_int {i j:Int}:W (ltA (.int i) (.int j)) t P↔P (.bl (decide (i < j))) t:=Ay rfl
@[simp] theorem W_le_int {i j:Int}:W (leA (.int i) (.int j)) t P↔P (.bl (decide (i<=j))) t:=Ay rfl
@[simp] theorem W_gt_int {i j:Int}:W (gtA (.int i) (.int j)) t P↔P (.bl (decide (j < i))) t:=Ay rfl
@[simp] theorem W_ge_int {i j:Int}:W (geA (.int i) (.int j)) t P↔P (.bl (decide (j<=i))) t:=Ay rfl
@[simp] theorem aX {i j:Str}:W (ltA (.str i) (.str j)) t P↔P (.bl (decide (i.cps.toList < j.cps.toList))) t:=Ay rfl
@[simp] theorem aV {i j:Str}:W (gtA (.str i) (.str j)) t P↔P (.bl (decide (j.cps.toList < i.cps.toList))) t:=Ay rfl
@[simp] theorem W_neg {i:Int}:W (Hz (.int i)) t P↔P (.int (-i)) t:=Ay rfl
@[simp] theorem W_fdiv {i j:Int}:W (Fe (.int i) (.int j)) t P↔(0 < j/\j < 1073741824)/\P (.int (i / j)) t:=by
 rw [Ry (m:=Fe (.int i) (.int j)) (c:=LJ i j=true) (z:=(.int (i / j),t)) rfl];simp [LJ]
@[simp] theorem W_mod {i j:Int}:W (El (.int i) (.int j)) t P↔0 < j/\P (.int (i % j)) t:=by
 rw [Ry (m:=El (.int i) (.int j)) (c:=decide (0 < j)=true) (z:=(.int (i % j),t)) rfl];simp
@[simp] theorem W_pow {i j:Int}:W (HD (.int i) (.int j)) t P↔LM i j=true/\P (.int (i ^ j.toNat)) t:=Gz rfl
@[simp] theorem W_mul_int {i j:Int}:W (B4 (.int i) (.int j)) t P↔Fj i j=true/\P (.int (i * j)) t:=Gz rfl
@[simp] theorem W_mul_lst {xs:List D} {k:Int}:W (B4 (.lst xs) (.int k)) t P↔(small k=true/\xs.length * k.toNat<=LIM)/\P (.lst (List.replicate k.toNat xs).flatten) t:=Gz rfl
@[simp] theorem W_mul_str {x:Str} {k:Int}:W (B4 (.str x) (.int k)) t P↔(small k=true/\x.length * k.toNat<=LIM/\k<=LIM/\x.length<=LIM)/\P (.str (Txt.mul x k)) t:=Gz rfl
theorem EC {i j:Int}(h1 : -18446744073709551616 < i)(h2:i < 18446744073709551616):Fj i j=true:=by simp [Fj,h1,h2]
theorem KQ {i j:Int}(h1 : -18446744073709551616 < j)(h2:j < 18446744073709551616):Fj i j=true:=by simp [Fj,h1,h2]
theorem Br {k:Int}(h1 : -4611686018427387904<=k)(h2:k < 4611686018427387904):small k=true:=by simp [small,h1,h2]
@[simp] theorem W_add_str {x y:Str}:W (AO (.str x) (.str y)) t P↔x.length + y.length<=LIM/\P (.str (x++y)) t:=by
 have:AO (.str x) (.str y)=lim (x.length + y.length) (.str (x++y)):=rfl;rw [this];simp
@[simp] theorem W_add_lst {x y:List D}:W (AO (.lst x) (.lst y)) t P↔x.length + y.length<=LIM/\P (.lst (x++y)) t:=by
 have:AO (.lst x) (.lst y)=lim (x.length + y.length) (.lst (x++y)):=rfl;rw [this];simp
@[simp] theorem W_cat {x y:List D} {Q:List D->T->Prop}:W (He (.lst x) (.lst y)) t Q↔x.length + y.length<=LIM/\Q (x++y) t:=by
 have:He (.lst x) (.lst y)=lim (x.length + y.length) (x++y):=rfl;rw [this];simp
@[simp] theorem de {i:Int}:W (aY [.int i]) t P↔P (.int (if i < 0 then -i else i)) t:=Ay rfl
@[simp] theorem W_min {i j:Int}:W (GR [.int i,.int j]) t P↔P (.int (if j < i then j else i)) t:=Ay rfl
@[simp] theorem dg {i j:Int}:W (bz [.int i,.int j]) t P↔P (.int (if j > i then j else i)) t:=Ay rfl
@[simp] theorem aQ {i:Int}:W (GN [.int i]) t P↔P (.int i) t:=Ay rfl
@[simp] theorem W_int_bl {b:Bool}:W (GN [.bl b]) t P↔P (.int (if b then 1 else 0)) t:=Ay rfl
@[simp] theorem W_ord {x:Str}:W (Jo [.str x]) t P↔x.length=1/\P (.int (x.cps.getD 0 0:Nat)) t:=Gz rfl
@[simp] theorem W_tup_lst {ds:List D}:W (Jv [.lst ds]) t P↔P (.tup ds) t:=Ay rfl
@[simp] theorem W_lst_lst {ds:List D} {Q:List D->T->Prop}:W (Jh [.lst ds]) t Q↔Q ds t:=Ay rfl
@[simp] theorem aR {ds:List D} {Q:List D->T->Prop}:W (Jh [.tup ds]) t Q↔Q ds t:=Ay rfl
@[simp] theorem W_eq_str {g:Bool->Bool} {x y:Str}:W (eqS g (.str x) (.str y)) t P↔P (.bl (g (x == y))) t:=Ay rfl
@[simp] theorem W_eq_int {g:Bool->Bool} {x y:Int}:W (eqS g (.int x) (.int y)) t P↔P (.bl (g (x == y))) t:=Ay rfl
@[simp] theorem cV {g:Bool->Bool} {x y:Bool}:W (eqS g (.bl x) (.bl y)) t P↔P (.bl (g (x == y))) t:=Ay rfl
@[simp] theorem aU {g:Bool->Bool} {x:List D}:W (eqS g (.lst x) (.lst [])) t P↔P (.bl (g x.isEmpty)) t:=by
 refine Ay ?_
 cases x <;> rfl
theorem Du {a b:String}:Str.ofString a=Str.ofString b↔a=b:=by
 constructor
 ·intro h;rw [Str.ofString_eq_toList,Str.ofString_eq_toList] at h;injection h with h
  have h:=congrArg Array.toList h;simp only at h;have hinj:∀xs ys:List Char,xs.map Char.toNat=ys.map Char.toNat->xs=ys:=by
   intro xs
   induction xs with
   | nil=>intro ys h;cases ys with | nil=>rfl | cons _ _=>simp at h
   | cons x xs ih=>
     intro ys h
     cases ys with
     | nil=>simp at h
     | cons y ys=>
       simp only [um0,List.cons.injEq] at h;rw [ih ys h.2,Char.toNat_inj.mp h.1]
  exact String.toList_inj.mp (hinj _ _ (by simpa using h))
 ·exact λh=>by rw [h]
@[simp] theorem X6 {a b:String}:(Str.ofString a == Str.ofString b)=(a == b):=by
 rw [Bool.eq_iff_iff,beq_iff_eq,beq_iff_eq,Du]
@[simp] theorem W_sl_lst {ds:List D} {lo hi:Option Int}:W (FQ (.lst ds) lo hi) t P↔P (.lst (Da ds lo hi)) t:=Ay rfl
@[simp] theorem W_sl_scr {ds:List Int} {lo hi:Option Int}:W (FQ (.scr ds) lo hi) t P↔P (.lst ((Da ds lo hi).map .int)) t:=Ay rfl
@[simp] theorem W_fSl {f:M D} {l u:M (Option Int)} {h:D->Option Int->Option Int->M D}:W (fSl f l u h) t P↔W f t λx t1=>W l t1 λlo t2=>W u t2 λhi t3=>W (h x lo hi) t3 P:=by simp [fSl]
@[simp] theorem W_fNo {Q:Option Int->T->Prop}:W fNo t Q↔Q none t:=Ay rfl
@[simp] theorem W_asI {i:Int} {Q:Option Int->T->Prop}:W (asI (.int i)) t Q↔Q (some i) t:=Ay rfl
@[simp] theorem W_fPart {f:M D} {Q:Option Int->T->Prop}:W (Dh f) t Q↔W f t λx t1=>W (asI x) t1 Q:=by simp [Dh]
@[simp] theorem W_fItA {f:M D} {Q:List D->T->Prop}:W (Eb f) t Q↔W f t λx t1=>W (DP x) t1 Q:=by simp [Eb]
@[simp] theorem W_it_lst {ds:List D} {Q:List D->T->Prop}:W (DP (.lst ds)) t Q↔Q ds t:=Ay rfl
@[simp] theorem W_it_tup {ds:List D} {Q:List D->T->Prop}:W (DP (.tup ds)) t Q↔Q ds t:=Ay rfl
@[simp] theorem aW {ds:List Int} {Q:List D->T->Prop}:W (DP (.scr ds)) t Q↔Q (ds.map .int) t:=Ay rfl
@[simp] theorem W_it_str {x:Str} {Q:List D->T->Prop}:W (DP (.str x)) t Q↔Q (x.cps.toList.map λc=>.str ⟨#[c]⟩) t:=Ay rfl
@[simp] theorem W_fRng1 {f:M (List D)} {Q:List D->T->Prop}:W (A5 f) t Q↔W f t λx t1=>W (KZ x) t1 Q:=by simp [A5]
@[simp] theorem W_fRng2 {f:M (List D)} {Q:List D->T->Prop}:W (GH f) t Q↔W f t λx t1=>W (K0 x) t1 Q:=by simp [GH]
@[simp] theorem W_rng1 {j:Int} {Q:List D->T->Prop}:W (KZ [.int j]) t Q↔small j=true/\Q (rngL 0 j.toNat) t:=Gz rfl
@[simp] theorem W_rng2 {i j:Int} {Q:List D->T->Prop}:W (K0 [.int i,.int j]) t Q↔(small i && small j)=true/\Q (rngL i (j - i).toNat) t:=Gz rfl
@[simp] theorem W_ownM {i:Nat} {h:List D->List D->Option (List D)} {g:M (List D)} {Q:Out->T->Prop}:W (ownM i h g) t Q↔(∃xs,t.env[i]?=some (some (.own xs)))/\W g t λds t1=>∃xs,t1.env[i]?=some (some (.own xs))/\∃ys,h xs ds=some ys/\Q .next ⟨t1.env.set i (some (.own ys)),t1.S⟩:=by
 constructor
 ·rintro ⟨o,t',e,p⟩;unfold ownM at e
  split at e
  ·next xs e0=>
   refine ⟨⟨xs,e0⟩,?_⟩;obtain ⟨ds,t1,e1,e⟩:=Af e;refine ⟨ds,t1,e1,?_⟩
   split at e
   ·next ys e2=>
    obtain ⟨zs,e3,e4⟩:=uc6.mp e
    cases e4
    exact ⟨ys,e2,zs,e3,p⟩
   ·cases e
  ·cases e
 ·rintro ⟨⟨xs,e0⟩,ds,t1,e1,ys,e2,zs,e3,p⟩;exact ⟨_,_,by unfold ownM bnd;simp only [e0,e1,e2,e3,uk2],p⟩
@[simp] theorem app1_one {xs:List D} {d:D} {ys:List D}:Cn xs [d]=some ys↔xs.length < LIM/\xs++[d]=ys:=by
 unfold Cn;split <;> simp [*]
@[simp] theorem dh {f g:M D} {d:D} {Q:Unit->T->Prop}:W (stD f g d) t Q↔W f t λo t1=>W g t1 λi t2=>W (YT o i d) t2 Q:=by simp [stD]
end F2
namespace F2
open PySem L2
variable {t:T}{P:D->T->Prop}{Q:List D->T->Prop}{R:Out->T->Prop}{B:Bool->T->Prop}{U:Unit->T->Prop}
def FD (k:Bool)(A B:Prop):Prop:=if k=true then A else B
theorem FF {k:Bool}{A B:Prop}(h:k=true)(a:A):FD k A B:=by unfold FD;rw [if_pos h];exact a
theorem FE {k:Bool}{A B:Prop}(h:k=false)(b:B):FD k A B:=by unfold FD;rw [if_neg (by rw [h];exact uf3)];exact b
theorem Cr {k:Bool}{A B:Prop}(a:k=true->A)(b:k=false->B):FD k A B:=by cases h:k with
 | true=>exact FF rfl (a h)
 | false=>exact FE rfl (b h)
def Fa (g:M Out)(R:Out->T->Prop)(o:Out)(t1:T):Prop:=match o with
 | .next=>W g t1 R
 | o=>R o t1
variable {g:M Out}{t1:T}
theorem Bn (h:W g t1 R):Fa g R .next t1:=h
theorem M4 {d:D}(h:R (.ret d) t1):Fa g R (.ret d) t1:=h
theorem TQ {f:M Out}(h:W f t (Fa g R)):W (Ae f g) t R:=W_seqS.mpr (h.mono λo t1 h1=>by cases o <;> exact h1)
theorem Uw (h:R .next t):W Au t R:=W_skipS.mpr h
variable {f:M D}
theorem cK (h:W f t λd t1=>R (.ret d) t1):W (An f) t R:=W_retS.mpr h
theorem aq (h:W f t λd t1=>R .next t1):W (F0 f) t R:=W_dropS.mpr h
theorem wIf {f:M Bool}{h:M Out}(w:W f t λk t1=>FD k (W g t1 R) (W h t1 R)):W (ifS f g h) t R:=W_ifS.mpr w
theorem Zk {i:Nat}(h:W f t λd t1=>R .next ⟨t1.env.set i (some (.val d)),t1.S⟩):W (Ar i f) t R:=W_setS.mpr h
theorem cI {i:Nat}{f:M (List D)}(h:W f t λd t1=>R .next ⟨t1.env.set i (some (.own d)),t1.S⟩):W (Df i f) t R:=W_ownS.mpr h
theorem bX {g:D->M Unit}(h:W f t λd t1=>W (g d) t1 λ_ t2=>R .next t2):W (C8 f g) t R:=W_asgS.mpr h
theorem TK {f:M (List D)}{st:D->M Unit}{b:M Out}(h:W f t λds t1=>W (CA st b ds) t1 R):W (Bj f st b) t R:=W_forS.mpr h
theorem wC {d:D}(h:P d t):W (fC d) t P:=W_fC.mpr h
theorem Fc {i:Nat}{d:D}(e:t.env[i]?=some (some (.val d)))(h:P d t):W (Ab i) t P:=by rw [Pp,e];exact h
variable {ds:List D}
theorem aM {i:Nat}(e:t.env[i]?=some (some (.own ds)))(h:P (.lst ds) ⟨t.env.set i (some (.val (.lst ds))),t.S⟩):W (Ab i) t P:=by rw [Pp,e];exact h
theorem K6 {g:M D}{h:D->D->M D}(w:W f t λx t1=>W g t1 λy t2=>W (h x y) t2 P):W (Ac f g h) t P:=W_fBin.mpr w
theorem wUn {h:D->M D}(w:W f t λx t1=>W (h x) t1 P):W (fUn f h) t P:=W_fUn.mpr w
theorem BW {α β:Type}{f:M α}{g:α->M β}{K:β->T->Prop}(w:W f t λx t1=>W (g x) t1 K):W (bnd f g) t K:=W_bnd.mpr w
theorem Nh {b:Bool}(h:B b t):W (toB (.bl b)) t B:=W_toB.mpr h
theorem Pe (h:W f t λx t1=>W (toB x) t1 B):W (Ao f) t B:=W_fTst.mpr h
theorem Y8 {g w:M D}{h h':D->D->M D}(q:W f t λx t1=>W g t1 λy t2=>W (h x y) t2 λk t3=>W (toB k) t3 λk t4=>FD k (W w t4 λz t5=>W (h' y z) t5 P) (P (.bl false) t4)):W (ER f g w h h') t P:=W_fChain.mpr q
theorem bU {f g:M Bool}(h:W f t λk t1=>FD k (W g t1 B) (B false t1)):W (KL f g) t B:=W_fAnd.mpr h
theorem wOr {f g:M Bool}(h:W f t λk t1=>FD k (B true t1) (W g t1 B)):W (fOr f g) t B:=W_fOr.mpr h
theorem cG {f:M Bool}(h:W f t λk t1=>B (!k) t1):W (Cy f) t B:=W_fNot.mpr h
theorem aj {g:M D}(h:W f t λx t1=>W (toB x) t1 λk t2=>FD k (W g t2 P) (P (.bl false) t2)):W (EJ f g) t P:=W_fAndV.mpr h
theorem aC (h:W f t λx t1=>W (toB x) t1 λk t2=>P (.bl (!k)) t2):W (Ib f) t P:=W_fNotV.mpr h
theorem b9 {f:M Bool}{g h:M D}(w:W f t λk t1=>FD k (W g t1 P) (W h t1 P)):W (fIf f g h) t P:=W_fIf.mpr w
theorem Jw (h:Q [] t):W Ad t Q:=W_fNil.mpr h
theorem Dj {g:M (List D)}(h:W f t λd t1=>W g t1 λds t2=>Q (d :: ds) t2):W (Aa f g) t Q:=W_fCons.mpr h
def Hq (n:Nat)(A:Prop):Prop:=n<=LIM/\A
variable {n:Nat}
theorem Bx {A:Prop}(h:n<=LIM)(a:A):Hq n A:=⟨h,a⟩
theorem cR {f:M (List D)}(h:W f t λds t1=>Hq ds.length (P (.tup ds) t1)):W (Av f) t P:=W_fTup.mpr h
theorem Zf {f:M (List D)}(h:W f t λds t1=>Hq ds.length (Q ds t1)):W (AG f) t Q:=W_fLst.mpr h
theorem Uu {f:M (List D)}(h:W f t λds t1=>P (.lst ds) t1):W (Aw f) t P:=W_fPure.mpr h
theorem cH {f:M (List D)}(h:W f t λds t1=>P (.obj t1.S.length) ⟨t1.env,t1.S++[.lst ds]⟩):W (Hj f) t P:=by rw [WW];exact h.mono λds t1 h=>W_newOb.mpr h
theorem IF {g:Fn}{f:M (List D)}(h:W f t λds t1=>Wf g ds t1.S λr S'=>P r ⟨t1.env,S'⟩):W (Ag g f) t P:=W_fCall.mpr h
theorem wB {f:M (List D)}{h:List D->M D}(w:W f t λds t1=>W (h ds) t1 P):W (fB f h) t P:=W_fB.mpr w
theorem wBF {f:M (List D)}{h:List D->M (List D)}(w:W f t λds t1=>W (h ds) t1 Q):W (fBF f h) t Q:=W_fBF.mpr w
theorem Gc {i:Nat}{d:D}(h:U () ⟨t.env.set i (some (.val d)),t.S⟩):W (AA i d) t U:=W_putV.mpr h
theorem WH (h:U () t):W (Em []) t U:=W_putNil.mpr h
theorem TN {f:D->M Unit}{g:List D->M Unit}{d:D}(h:W (f d) t λ_ t1=>W (g ds) t1 U):W (Bf f g (d :: ds)) t U:=W_putCons.mpr h
theorem cS {g:List D->M Unit}(e:ds.length=n)(h:W (g ds) t U):W (unS n g (.lst ds)) t U:=W_unS_lst.mpr ⟨e,h⟩
theorem cT {g:List D->M Unit}(e:ds.length=n)(h:W (g ds) t U):W (unS n g (.tup ds)) t U:=W_unS_tup.mpr ⟨e,h⟩
theorem ap {fr:List Nat}{f:M (List D)}{st:D->M Unit}{tst:M Bool}{elt:M D}(h:W f t λds t1=>W (Cb st tst elt ds) ⟨cenv n fr t1.env,t1.S⟩ λxs t'=>Hq xs.length (Q xs ⟨t1.env,t'.S⟩)):W (Bl n fr f st tst elt) t Q:=W_fComp.mpr h
theorem K8 (h:B true t):W DL t B:=W_tTru.mpr h
variable {i:Int}
theorem G6 {d:D}(e:atI ds i=some d)(h:P d t):W (ixD (.tup ds) (.int i)) t P:=W_ix_tup.mpr ⟨d,e,h⟩
theorem AU {d:D}(e:atI ds i=some d)(h:P d t):W (ixD (.lst ds) (.int i)) t P:=W_ix_lst.mpr ⟨d,e,h⟩
theorem Pc (h:P (.int ds.length) t):W (AM [.lst ds]) t P:=W_len_lst.mpr h
theorem Uq (h:P (.int ds.length) t):W (AM [.tup ds]) t P:=W_len_tup.mpr h
theorem ay {ds:List Int}(h:P (.int ds.length) t):W (AM [.scr ds]) t P:=W_len_scr.mpr h
theorem ax {k:Nat}(e:t.S[k]?=some (.lst ds))(h:P (.int ds.length) t):W (AM [.obj k]) t P:=W_len_obj.mpr ⟨ds,e,h⟩
variable {x:Str}
theorem Up (e:x.length<=LIM)(h:P (.int x.length) t):W (AM [.str x]) t P:=W_len_str.mpr ⟨e,h⟩
theorem cj {d:D}{m n:String}{b:Bool}(e:tyD d=some n)(e':KO n m=some b)(h:P (.bl b) t):W (Dc [d,.ty m]) t P:=W_isi.mpr ⟨n,e,b,e',h⟩
theorem cg {x:D}(h:P (.bl (Ik x)) t):W (isC x .non) t P:=W_is_non.mpr h
variable {j:Int}
theorem ag (h:P (.int (i + j)) t):W (AO (.int i) (.int j)) t P:=W_add_int.mpr h
theorem aI (h:P (.int (i - j)) t):W (Bs (.int i) (.int j)) t P:=W_sub_int.mpr h
theorem cD (h:P (.bl (decide (i < j))) t):W (ltA (.int i) (.int j)) t P:=W_lt_int.mpr h
theorem cB (h:P (.bl (decide (i<=j))) t):W (leA (.int i) (.int j)) t P:=W_le_int.mpr h
theorem b5 (h:P (.bl (decide (j < i))) t):W (gtA (.int i) (.int j)) t P:=W_gt_int.mpr h
theorem b4 (h:P (.bl (decide (j<=i))) t):W (geA (.int i) (.int j)) t P:=W_ge_int.mpr h
theorem cF (h:P (.int (-i)) t):W (Hz (.int i)) t P:=W_neg.mpr h
theorem Za (h1:0 < j)(h2:j < 1073741824)(h:P (.int (i / j)) t):W (Fe (.int i) (.int j)) t P:=W_fdiv.mpr ⟨⟨h1,h2⟩,h⟩
theorem TM (h1:0 < j)(h:P (.int (i % j)) t):W (El (.int i) (.int j)) t P:=W_mod.mpr ⟨h1,h⟩
theorem cJ (h1:LM i j=true)(h:P (.int (i ^ j.toNat)) t):W (HD (.int i) (.int j)) t P:=W_pow.mpr ⟨h1,h⟩
theorem EO (h1:Fj i j=true)(h:P (.int (i * j)) t):W (B4 (.int i) (.int j)) t P:=W_mul_int.mpr ⟨h1,h⟩
variable {xs:List D}
theorem aA {k:Int}(h1:small k=true/\xs.length * k.toNat<=LIM)(h:P (.lst (List.replicate k.toNat xs).flatten) t):W (B4 (.lst xs) (.int k)) t P:=W_mul_lst.mpr ⟨h1,h⟩
theorem aB {k:Int}(h1:small k=true/\x.length * k.toNat<=LIM/\k<=LIM/\x.length<=LIM)(h:P (.str (Txt.mul x k)) t):W (B4 (.str x) (.int k)) t P:=W_mul_str.mpr ⟨h1,h⟩
theorem ai {y:Str}(h:Hq (x.length + y.length) (P (.str (x++y)) t)):W (AO (.str x) (.str y)) t P:=W_add_str.mpr h
theorem ah {x y:List D}(h:Hq (x.length + y.length) (P (.lst (x++y)) t)):W (AO (.lst x) (.lst y)) t P:=W_add_lst.mpr h
theorem bY {x y:List D}(h:Hq (x.length + y.length) (Q (x++y) t)):W (He (.lst x) (.lst y)) t Q:=W_cat.mpr h
theorem cE (h:P (.int (if j < i then j else i)) t):W (GR [.int i,.int j]) t P:=W_min.mpr h
theorem au {i:Bool}(h:P (.int (if i then 1 else 0)) t):W (GN [.bl i]) t P:=W_int_bl.mpr h
theorem Zh (e:x.length=1)(h:P (.int (x.cps.getD 0 0:Nat)) t):W (Jo [.str x]) t P:=W_ord.mpr ⟨e,h⟩
theorem aJ (h:P (.tup ds) t):W (Jv [.lst ds]) t P:=W_tup_lst.mpr h
theorem az (h:Q ds t):W (Jh [.lst ds]) t Q:=W_lst_lst.mpr h
theorem TH {g:Bool->Bool}{y:Str}(h:P (.bl (g (x == y))) t):W (eqS g (.str x) (.str y)) t P:=W_eq_str.mpr h
theorem Zc {g:Bool->Bool}{x y:Int}(h:P (.bl (g (x == y))) t):W (eqS g (.int x) (.int y)) t P:=W_eq_int.mpr h
theorem cM {lo hi:Option Int}(h:P (.lst (Da ds lo hi)) t):W (FQ (.lst ds) lo hi) t P:=W_sl_lst.mpr h
theorem cO {ds:List Int}{lo hi:Option Int}(h:P (.lst ((Da ds lo hi).map .int)) t):W (FQ (.scr ds) lo hi) t P:=W_sl_scr.mpr h
theorem wSl {l u:M (Option Int)}{h:D->Option Int->Option Int->M D}(w:W f t λx t1=>W l t1 λlo t2=>W u t2 λhi t3=>W (h x lo hi) t3 P):W (fSl f l u h) t P:=W_fSl.mpr w
variable {K:Option Int->T->Prop}
theorem wNo (h:K none t):W fNo t K:=W_fNo.mpr h
theorem bW (h:K (some i) t):W (asI (.int i)) t K:=W_asI.mpr h
theorem aE (h:W f t λx t1=>W (asI x) t1 K):W (Dh f) t K:=W_fPart.mpr h
theorem ck (h:W f t λx t1=>W (DP x) t1 Q):W (Eb f) t Q:=W_fItA.mpr h
theorem cq (h:Q ds t):W (DP (.lst ds)) t Q:=W_it_lst.mpr h
theorem cA (h:Q ds t):W (DP (.tup ds)) t Q:=W_it_tup.mpr h
theorem cy (h:Q (x.cps.toList.map λc=>.str ⟨#[c]⟩) t):W (DP (.str x)) t Q:=W_it_str.mpr h
theorem Uv {f:M (List D)}(h:W f t λx t1=>W (KZ x) t1 Q):W (A5 f) t Q:=W_fRng1.mpr h
theorem aF {f:M (List D)}(h:W f t λx t1=>W (K0 x) t1 Q):W (GH f) t Q:=W_fRng2.mpr h
theorem Dy (e:small j=true)(h:Q (rngL 0 j.toNat) t):W (KZ [.int j]) t Q:=W_rng1.mpr ⟨e,h⟩
theorem Zi (e:(small i && small j)=true)(h:Q (rngL i (j - i).toNat) t):W (K0 [.int i,.int j]) t Q:=W_rng2.mpr ⟨e,h⟩
theorem aD {i:Nat}{h:List D->List D->Option (List D)}{g:M (List D)}(e:t.env[i]?=some (some (.own xs)))(w:W g t λds t1=>∃xs,t1.env[i]?=some (some (.own xs))/\∃ys,h xs ds=some ys/\R .next ⟨t1.env.set i (some (.own ys)),t1.S⟩):W (ownM i h g) t R:=W_ownM.mpr ⟨⟨xs,e⟩,w⟩
theorem bV {i:Nat}{d:D}{A:List D->Prop}(e:t1.env[i]?=some (some (.own xs)))(w:Hq (xs.length + 1) (A (xs++[d]))):∃xs,t1.env[i]?=some (some (.own xs))/\∃ys,Cn xs [d]=some ys/\A ys:=
 ⟨xs,e,_,app1_one.mpr ⟨w.1,rfl⟩,w.2⟩
end F2
namespace F2
open PySem L2
variable {i:Nat}{g:Fn}{d':D}
section
variable {t:T}{P:D->T->Prop}{B:Bool->T->Prop}{Q:List D->T->Prop}
theorem aL {n:Int}{ds:List D}{d:D}(e:t.env[i]?=some (some (.val (.tup ds))))(a:atI ds n=some d)(h:P d t):W (Ac (Ab i) (fC (.int n)) ixD) t P:=K6 (Fc e (wC (G6 a h)))
theorem aw {x y:Str}{ds:List D}{g:Bool->Bool}(e:t.env[i]?=some (some (.val (.tup (.str y :: ds)))))(h:B (g (y == x)) t):W (Ao (Ac (Ac (Ab i) (fC (.int 0)) ixD) (fC (.str x)) (eqS g))) t B:=Pe (K6 (K6 (Fc e (wC (G6 HW (wC (TH (Nh h))))))))
theorem Zn {x y:Str}{g:Bool->Bool}(e:t.env[i]?=some (some (.val (.str y))))(h:B (g (y == x)) t):W (Ao (Ac (Ab i) (fC (.str x)) (eqS g))) t B:=Pe (K6 (Fc e (wC (TH (Nh h)))))
theorem Zm {x y:Int}{g:Bool->Bool}(e:t.env[i]?=some (some (.val (.int y))))(h:B (g (y == x)) t):W (Ao (Ac (Ab i) (fC (.int x)) (eqS g))) t B:=Pe (K6 (Fc e (wC (Zc (Nh h)))))
theorem WC {d:D}(e:t.env[i]?=some (some (.val d)))(h:Wf g [d] t.S λr S'=>P r ⟨t.env,S'⟩):W (Ag g (Aa (Ab i) Ad)) t P:=IF (Dj (Fc e (Jw h)))
theorem WD {j:Nat}{d:D}(e:t.env[i]?=some (some (.val d)))(e':t.env[j]?=some (some (.val d')))(h:Wf g [d,d'] t.S λr S'=>P r ⟨t.env,S'⟩):W (Ag g (Aa (Ab i) (Aa (Ab j) Ad))) t P:=IF (Dj (Fc e (Dj (Fc e' (Jw h)))))
theorem WF {d:D}(e:t.env[i]?=some (some (.val d)))(h:Wf g [d,d'] t.S λr S'=>P r ⟨t.env,S'⟩):W (Ag g (Aa (Ab i) (Aa (fC d') Ad))) t P:=IF (Dj (Fc e (Dj (wC (Jw h)))))
theorem WE {j k:Nat}{d d'':D}(e:t.env[i]?=some (some (.val d)))(e':t.env[j]?=some (some (.val d')))(e'':t.env[k]?=some (some (.val d'')))(h:Wf g [d,d',d''] t.S λr S'=>P r ⟨t.env,S'⟩):W (Ag g (Aa (Ab i) (Aa (Ab j) (Aa (Ab k) Ad)))) t P:=IF (Dj (Fc e (Dj (Fc e' (Dj (Fc e'' (Jw h)))))))
end
end F2
namespace LW
open PySem L2 F2
set_option compiler.extract_closed false
local macro_rules | `(tactic| clear 31 $t*)=>`(tactic| with_reducible first $[| refine $t ?_]*)
local macro_rules | `(tactic| clear 32 $t*)=>`(tactic| ((with_reducible first $[| refine' $t ?wv ?_]*);(case wv=>exact rfl)))
local macro_rules | `(tactic| clear 33 $t*)=>`(tactic| ((with_reducible first $[| refine' $t ?wv ?_]*);(case wv=>decide)))
local macro_rules | `(tactic| walk_at "w1")=>`(tactic| first
 | clear 32 aw Zn WC
 | clear 32 Zm WF
 | ((with_reducible refine' aL ?wv ?wu ?_);(case wv=>exact rfl);(case wu=>first | exact rfl | exact HW | exact TZ | exact T0))
 | ((with_reducible refine' WD ?wv ?wu ?_);(case wv=>exact rfl);(case wu=>exact rfl))
 | ((with_reducible refine' WE ?wv ?wu ?wt ?_);(case wv=>exact rfl);(case wu=>exact rfl);(case wt=>exact rfl))
 | clear 31 TQ Bn M4 Zk K6 wC Dj Jw wIf Pe Nh cK IF TH Zc ag aI Uw wB wBF Uu cR Zf cH bX TK bU wOr cG aj aC b9 Y8 wUn cF cg cD cB b5 b4 Pc Uq ay cE au aJ az ai ah bY wSl wNo aE bW cM cO ck cq cA cy Uv aF Gc WH TN ap K8 cI BW aq
 | clear 32 Fc FF cS aD bV
 | clear 32 FE aM cT
 | ((with_reducible first | refine' G6 ?wv ?_ | refine' AU ?wv ?_);(case wv=>first | exact rfl | exact HW | exact TZ | exact T0))
 | ((with_reducible refine Bx ?wv ?_);(case wv=>exact ud5 rfl))
 | ((with_reducible refine' cj ?wv ?wu ?_);(case wv=>exact rfl);(case wu=>exact rfl))
 | ((with_reducible refine Za ?wv ?wu ?_);(case wv=>decide);(case wu=>decide))
 | clear 33 cJ TM Dy Zi)
local macro_rules | `(tactic| right)=>`(tactic| repeat (walk_at "w1"))
structure DeckAt (k c:Nat)(S:List Ob):Prop where
 ne:k≠c
 at_:∃(cells:List Int) (par pos:Int),S[k]?=some (.lst [.obj c,.int par,.int pos])/\S[c]?=some (.lst (cells.map .int))/\cells≠[]/\0<=pos
def dB (k c:Nat)(S S':List Ob):Prop:=S'.length=S.length/\∀j:Nat,j≠k->j≠c->S'[j]?=S[j]?
variable {n:Nat}{i:Int}
theorem Be (h0:0<=i)(h1:i < n):ixN n i=some i.toNat:=by simp [ixN,h0,h1]
variable {S:List Ob}{o:Ob}
theorem Ih {k:Nat}{o':Ob}(h:S[k]?=some o):(S.set k o')[k]?=some o':=by
 obtain ⟨hl,_⟩:=ub1.mp h;exact uc2 hl
inductive Sh where
 | nothing | number (lo hi:Int) | text (m:Int) | list (s:Sh) (m:Int) | pair (s r:Sh) | choice (ss:List Sh)
mutual
noncomputable def Sh.d:Sh->D
 | .nothing=>.tup [.str "nothing"]
 | .number lo hi=>.tup [.str "number",.int lo,.int hi]
 | .text m=>.tup [.str "text",.int m]
 | .list s m=>.tup [.str "list",s.d,.int m]
 | .pair s r=>.tup [.str "pair",s.d,r.d]
 | .choice ss=>.tup [.str "choice",.tup (shD ss)]
noncomputable def shD:List Sh->List D
 | []=>[]
 | s :: r=>s.d :: shD r
end
mutual
noncomputable def Sh.depth:Sh->Nat
 | .nothing=>1
 | .number _ _=>1
 | .text _=>1
 | .list s _=>s.depth + 1
 | .pair s r=>max s.depth r.depth + 1
 | .choice ss=>DI ss + 1
noncomputable def DI:List Sh->Nat
 | []=>0
 | s :: r=>max s.depth (DI r)
end
theorem D1:∀ss:List Sh,(shD ss).length=ss.length
 | []=>rfl
 | s :: r=>by simp [shD,D1 r]
theorem Gv:∀(ss:List Sh) (k:Nat),(shD ss)[k]?=(ss[k]?).map Sh.d
 | [],k=>by simp [shD]
 | s :: r,0=>by simp [shD]
 | s :: r,k + 1=>by simp [shD,Gv r k]
theorem CI:∀(ss:List Sh) (k:Nat) (s:Sh),ss[k]?=some s->s.depth<=DI ss
 | [],k,s,h=>by simp at h
 | s :: r,0,s',h=>by simp at h;subst h;simp [DI];lia
 | s :: r,k + 1,s',h=>by
   have:=CI r k s' (by simpa using h);simp [DI];lia
theorem Sh.depth_pos (s:Sh):1<=s.depth:=by cases s <;> simp [Sh.depth]
noncomputable def Bo (n:Nat):Bool:=decide (32<=n) && decide (n<=126) && decide (n≠37)
noncomputable def FC:Str->Bool:=λo=>o == ("of" : Str)
mutual
def Aj:Sh->D->Bool
 | .nothing,d=>Ik d
 | .number lo hi,d=>match d with
   | .int i=>decide (lo<=i) && decide (i<=hi)
   | _=>false
 | .text m,d=>match d with
   | .str x=>decide ((x.length:Int)<=m) && x.cps.toList.all Bo
   | _=>false
 | .list s m,d=>match d with
   | .lst ds=>decide ((ds.length:Int)<=m) && ds.all λe=>Aj s e
   | _=>false
 | .pair s r,d=>match d with
   | .tup [a,b]=>Aj s a && Aj r b
   | _=>false
 | .choice ss,d=>match d with
   | .tup [.str o,.int k,x]=>FC o && (decide (0<=k) && decide (k < ss.length)) && Ig ss k.toNat x
   | _=>false
def Ig:List Sh->Nat->D->Bool
 | [],_,_=>false
 | s :: _,0,d=>Aj s d
 | _ :: r,k + 1,d=>Ig r k d
end
theorem BX:∀(ss:List Sh) (k:Nat) (s:Sh) (d:D),ss[k]?=some s->Ig ss k d=Aj s d
 | [],k,s,d,h=>by simp at h
 | s :: r,0,s',d,h=>by simp at h;subst h;simp [Ig]
 | s :: r,k + 1,s',d,h=>by rw [Ig];exact BX r k s' d (by simpa using h)
mutual
noncomputable def okD:D->Bool
 | .str x=>decide (x.length<=90000)
 | .tup xs=>oks xs
 | .lst xs=>oks xs
 | .obj _=>false
 | .scr _=>false
 | .exc _ _=>false
 | .ty _=>false
 | _=>true
noncomputable def oks:List D->Bool
 | []=>true
 | d :: r=>okD d && oks r
end
theorem Iw:∀{xs:List D},oks xs=true->∀d∈xs,okD d=true
 | x :: r,h,d,m=>by
   rw [oks,uh9] at h;rcases ul9.mp m with z | z
   ·subst z;exact h.1
   ·exact Iw h.2 d z
abbrev Pure1 (f:Fn)(ds:List D)(r:D):Prop:=∀S,Wf f ds S λv S'=>v=r/\S'=S
variable {ds:List D}
theorem Pure1.use {f:Fn}{r:D}(h:Pure1 f ds r){S:List Ob}{P:D->List Ob->Prop}(p:P r S):Wf f ds S P:=(h S).mono λ_ _ ⟨e1,e2⟩=>by subst e1 e2;exact p
noncomputable def Qf:D->Bool
 | .int _=>true
 | _=>false
theorem MC {d:D}(h:okD d=true):Pure1 (fnOf 1 1 Ga) [d] (.bl (Qf d)):=by
 intro S;refine Aq rfl ?_;unfold Ga
 cases d <;> first | (simp [okD] at h;done) | (right;exact ⟨rfl,rfl⟩)
noncomputable def Fq (lo hi:Int):D->Bool
 | .int i=>decide (lo<=i) && decide (i<=hi)
 | _=>false
def Nu (f:Fn):Prop:=∀d,okD d=true->Pure1 f [d] (.bl (Qf d))
def GA (f:Fn):Prop:=∀d lo hi,okD d=true->Pure1 f [d,.int lo,.int hi] (.bl (Fq lo hi d))
variable {c:Fn}
theorem Rp (hc:Nu c):GA (fnOf 3 3 (Dt c)):=by
 intro d lo hi h S;refine Aq rfl ?_;unfold Dt;right;refine (hc d h).use ?_
 cases d with
 | int i=>
   right;refine Cr (λe=>?_) λe=>?_
   ·right;exact ⟨by simp only [Fq,e,um6],rfl⟩
   ·exact ⟨by simp only [Fq,e,ul2],rfl⟩
 | _=>right;exact ⟨rfl,rfl⟩
def JC (f:Fn):Prop:=∀n:Nat,Pure1 f [.int n] (.bl (Bo n))
theorem OJ:JC (fnOf 1 1 Hs):=by
 intro n S;refine Aq rfl ?_;unfold Hs;right;have c1:decide ((32:Int)<=n)=decide (32<=n):=decide_eq_decide.mpr (by lia);have c2:decide ((n:Int)<=126)=decide (n<=126):=decide_eq_decide.mpr (by lia);have c3:(!((n:Int) == 37))=decide (n≠37):=by
  by_cases h:n=37
  ·subst h;rfl
  ·have:¬((n:Int)=37):=by lia
   simp [h,this]
 rw [c1];refine Cr (λe=>?_) λe=>?_
 ·right;rw [c2];refine Cr (λe'=>?_) λe'=>?_
  ·right;exact ⟨by simp only [Bo,e,e',c3,um6],rfl⟩
  ·exact ⟨by simp only [Bo,e,e',ul2,ul4],rfl⟩
 ·right;exact ⟨by simp only [Bo,e,ul2],rfl⟩
def LY (f:Fn):Prop:=∀m d,okD d=true->Pure1 f [(Sh.text m).d,d] (.bl (Aj (.text m) d))
theorem Mw (hc:JC c):LY (fnOf 2 3 (F9 c)):=by
 intro m d h S;refine Aq rfl ?_;unfold F9;rw [Sh.d]
 cases d with
 | str x=>
   have hx:x.length<=LIM:=un3 (by simpa [okD] using h) (show 90000<=LIM by decide);right;refine Up hx ?_;right;refine Cr (λe=>?_) λe=>?_
   ·right;have:¬((x.length:Int)<=m):=by have:=uh3 e;lia
    exact ⟨by simp [Aj,this],rfl⟩
   ·right;have e':(x.length:Int)<=m:=by have:=of_decide_eq_false e;lia
    refine BS (λr t=>t.S=S/\∃cs:List Nat,r=cs.map (λc=>D.str ⟨#[c]⟩)/\(x.cps.toList.all Bo=cs.all Bo)/\∃z,t.env=[some (.val (.tup [.str "text",.int m])),some (.val (.str x)),z]) _ _ ⟨rfl,x.cps.toList,rfl,rfl,_,rfl⟩ ?_ ?_
    ·rintro d r t ⟨hs,cs,hr,hall,z,ht⟩ _;obtain ⟨env,S2⟩:=t;subst hs ht
     cases cs with
     | nil=>simp at hr
     | cons c cs=>
       simp only [um0,List.cons.injEq] at hr;obtain ⟨rfl,rfl⟩:=hr;right;refine Zh rfl ?_;right;refine (hc c).use ?_;right;refine Cr (λq=>?_) λq=>?_
       ·right;have q':Bo c=false:=by simpa using q
        refine ⟨?_,rfl⟩;simp only [Aj,hall,um2,q',ul2,ul4]
       ·right;have q':Bo c=true:=by simpa using q
        exact ⟨rfl,cs,rfl,by rw [hall,um2,q',um6],_,rfl⟩
    ·rintro t ⟨hs,cs,hr,hall,z,ht⟩;obtain ⟨env,S2⟩:=t;subst hs ht;have:cs=[]:=by cases cs with | nil=>rfl | cons _ _=>simp at hr
     subst this;right;exact ⟨by simp [Aj,e',hall],rfl⟩
 | obj _=>simp [okD] at h
 | scr _=>simp [okD] at h
 | ty _=>simp [okD] at h
 | exc _ _=>simp [okD] at h
 | _=>right;exact ⟨by simp [Aj],rfl⟩
def Fr (f:Fn)(n:Nat):Prop:=∀s:Sh,s.depth<=n->∀d,okD d=true->Pure1 f [s.d,d] (.bl (Aj s d))
def Pi (f:Fn)(n:Nat):Prop:=∀(s:Sh) (m:Int),s.depth<=n->∀d,okD d=true->Pure1 f [(Sh.list s m).d,d] (.bl (Aj (.list s m) d))
theorem Mt (hc:Fr c n):Pi (fnOf 2 3 (F7 c)) n:=by
 intro s m hs d h S;refine Aq rfl ?_;unfold F7;rw [Sh.d]
 cases d with
 | lst ds=>
   have hx:∀d∈ds,okD d=true:=Iw (by simpa [okD] using h);right;refine Cr (λe=>?_) λe=>?_
   ·right;have:¬((ds.length:Int)<=m):=by have:=uh3 e;lia
    exact ⟨by simp [Aj,this],rfl⟩
   ·right;have e':(ds.length:Int)<=m:=by have:=of_decide_eq_false e;lia
    refine BS (λr t=>t.S=S/\(ds.all (λe=>Aj s e)=r.all λe=>Aj s e)/\∃z,t.env=[some (.val (.tup [.str "list",s.d,.int m])),some (.val (.lst ds)),z]) _ _ ⟨rfl,rfl,_,rfl⟩ ?_ ?_
    ·rintro d r t ⟨hS,hall,z,ht⟩ hm;obtain ⟨env,S2⟩:=t;subst hS ht;right;refine (hc s hs d (hx d hm)).use ?_;right;refine Cr (λq=>?_) λq=>?_
     ·right;have q':Aj s d=false:=by simpa using q
      refine ⟨?_,rfl⟩;simp only [Aj,hall,um2,q',ul2,ul4]
     ·right;have q':Aj s d=true:=by simpa using q
      exact ⟨rfl,by rw [hall,um2,q',um6],_,rfl⟩
    ·rintro t ⟨hS,hall,z,ht⟩;obtain ⟨env,S2⟩:=t;subst hS ht;right;exact ⟨by simp only [Aj,e',decide_true,hall,List.all_nil,um6],rfl⟩
 | obj _=>simp [okD] at h
 | scr _=>simp [okD] at h
 | ty _=>simp [okD] at h
 | exc _ _=>simp [okD] at h
 | _=>right;exact ⟨by simp [Aj],rfl⟩
def Po (f:Fn)(n:Nat):Prop:=∀(s r:Sh),s.depth<=n->r.depth<=n->∀d,okD d=true->Pure1 f [(Sh.pair s r).d,d] (.bl (Aj (.pair s r) d))
theorem Mu (hc:Fr c n):Po (fnOf 2 2 (F8 c)) n:=by
 intro s r hs hr d h S;refine Aq rfl ?_;unfold F8;rw [Sh.d]
 cases d with
 | tup ds=>
   have hx:∀d∈ds,okD d=true:=Iw (by simpa [okD] using h);right
   match ds,hx with
   | [],_=>right;exact ⟨by simp [Aj],rfl⟩
   | [a],_=>right;exact ⟨by simp [Aj],rfl⟩
   | [a,b],hx=>
     right;refine (hc s hs a (hx a (by simp))).use ?_;right;refine Cr (λe=>?_) λe=>?_
     ·right;refine (hc r hr b (hx b (by simp))).use ?_;exact ⟨by simp only [Aj,e,um6],rfl⟩
     ·exact ⟨by simp only [Aj,e,ul2],rfl⟩
   | a :: b :: e :: l,_=>
     refine FF ?_ ?_
     ·show (!(((a :: b :: e :: l).length:Int) == 2))=true;simp;lia
     right;exact ⟨by simp [Aj],rfl⟩
 | obj _=>simp [okD] at h
 | scr _=>simp [okD] at h
 | ty _=>simp [okD] at h
 | exc _ _=>simp [okD] at h
 | _=>right;exact ⟨by simp [Aj],rfl⟩
def LQ (f:Fn)(n:Nat):Prop:=∀(ss:List Sh),DI ss<=n->∀d,okD d=true->Pure1 f [(Sh.choice ss).d,d] (.bl (Aj (.choice ss) d))
theorem KN {c':Fn}(hc:Fr c n)(hw:GA c'):LQ (fnOf 2 2 (E4 c c')) n:=by
 intro ss hs d h S;refine Aq rfl ?_;unfold E4;rw [Sh.d]
 cases d with
 | tup ds=>
   have hx:∀d∈ds,okD d=true:=Iw (by simpa [okD] using h);right
   match ds,hx with
   | [],_=>right;exact ⟨by simp [Aj],rfl⟩
   | [a],_=>right;exact ⟨by simp [Aj],rfl⟩
   | [a,b],_=>right;exact ⟨by simp [Aj],rfl⟩
   | [a,b,e],hx=>
     right;have ha:=hx a (by simp)
     cases a with
     | str o=>
       right;refine Cr (λq=>?_) λq=>?_
       ·right;have q':FC o=false:=by simpa [FC] using q
        refine ⟨?_,rfl⟩
        cases b <;> simp only [Aj,q',ul2]
       ·right;have q':FC o=true:=by simpa [FC] using q
        refine (hw b 0 _ (hx b (by simp))).use ?_;right
        cases b with
        | int k=>
          refine Cr (λq=>?_) λq=>?_
          ·right;refine ⟨?_,rfl⟩;have:(decide (0<=k) && decide (k < (ss.length:Int)))=false:=by
            have q2:k < 0\/((shD ss).length:Int) - 1 < k:=by simpa [Fq] using q
            rw [D1] at q2;simp;lia
           simp only [Aj,this,ul2,ul4]
          ·have q2:0<=k/\k<=((shD ss).length:Int) - 1:=by simpa [Fq] using q
           have q3:=q2;rw [D1] at q3;have hk:k.toNat < ss.length:=by lia
           have e1:ss[k.toNat]?=some ss[k.toNat]:=ub4 hk;have e2:atI (shD ss) k=some (ss[k.toNat]).d:=by
            unfold atI;rw [D1,Be q3.1 (by lia)];simp [Gv,e1]
           right;refine G6 e2 ?_;right;refine (hc _ (un3 (CI ss _ _ e1) hs) e (hx e (by simp))).use ?_;refine ⟨?_,rfl⟩;have:(decide (0<=k) && decide (k < (ss.length:Int)))=true:=by simp;lia
           simp only [Aj,q',this,um6,BX ss _ _ e e1]
        | _=>
          right;exact ⟨by simp [Aj],rfl⟩
     | obj _=>simp [okD] at ha
     | scr _=>simp [okD] at ha
     | ty _=>simp [okD] at ha
     | exc _ _=>simp [okD] at ha
     | _=>right;exact ⟨by simp [Aj],rfl⟩
   | a :: b :: e :: f :: l,_=>
     refine FF ?_ ?_
     ·show (!(((a :: b :: e :: f :: l).length:Int) == 3))=true;simp;lia
     right;exact ⟨by simp [Aj],rfl⟩
 | obj _=>simp [okD] at h
 | scr _=>simp [okD] at h
 | ty _=>simp [okD] at h
 | exc _ _=>simp [okD] at h
 | _=>right;exact ⟨by simp [Aj],rfl⟩
variable {cc cp cl ct cw:Fn}
theorem UT (h1:LQ cc n)(h2:Po cp n)(h3:Pi cl n)(h4:LY ct)(h5:GA cw):Fr (fnOf 2 3 (MH cc cp cl ct cw)) (n + 1):=by
 intro s hs d h S;refine Aq rfl ?_;unfold MH
 cases s with
 | nothing=>
   rw [Sh.d];right;exact ⟨by rw [Aj],rfl⟩
 | number lo hi=>
   rw [Sh.d];right;refine (h5 d lo hi h).use ⟨?_,rfl⟩
   cases d <;> simp [Aj,Fq]
 | text m=>
   rw [Sh.d];right;exact (h4 m d h).use ⟨rfl,rfl⟩
 | list s m=>
   rw [Sh.depth] at hs;have q:=h3 s m (by lia) d h;rw [Sh.d] at q ⊢;right;exact q.use ⟨rfl,rfl⟩
 | pair s r=>
   rw [Sh.depth] at hs;have q:=h2 s r (by lia) (by lia) d h;rw [Sh.d] at q ⊢;right;exact q.use ⟨rfl,rfl⟩
 | choice ss=>
   rw [Sh.depth] at hs;have q:=h1 ss (by lia) d h;rw [Sh.d] at q ⊢;right;exact q.use ⟨rfl,rfl⟩
theorem Lg (x:Array Nat):∀(n:Nat) (acc:Array Nat),((List.replicate n x).foldl (·++·) acc).toList=acc.toList++(List.replicate n x.toList).flatten
 | 0,acc=>by simp
 | n + 1,acc=>by
   rw [ue6,uj8,Lg x n,ue6,ug5];simp
variable {x:Str}
theorem Qw {k:Int}:(Txt.mul x k).cps.toList=(List.replicate k.toNat x.cps.toList).flatten:=by
 unfold Txt.mul
 split
 ·have:k.toNat=0:=by lia
  rw [this];rfl
 ·split
  ·next h=>
   rw [uk3] at h;rcases h with h | h
   ·have:k=1:=by simpa using h
    subst this;simp
   ·have:x.cps.toList=[]:=by
     have h':x.length=0:=by simpa using h
     exact ua2 (by simpa [Str.length] using h')
    rw [this];simp
  ·have:=Lg x.cps k.toNat #[];simpa using this
theorem Dq (x:Str):x.length=x.cps.toList.length:=by simp [Str.length]
theorem FY (x y:Str):(x++y).cps.toList=x.cps.toList++y.cps.toList:=by
 show (x.cps++y.cps).toList=_;simp
variable {α:Type}
theorem V0 (a:α)(k:Nat):(List.replicate k [a]).flatten=List.replicate k a:=by
 induction k with
 | zero=>rfl
 | succ k ih=>rw [ue6,ug5,ih,ue6];rfl
theorem EQ {f:D->D}{fr:List (Option Sl)}{elt:M D}{z:Option Sl}(h:∀d∈ds,W elt ⟨some (.val d) :: fr,S⟩ λx t'=>x=f d/\t'=⟨some (.val d) :: fr,S⟩) :
 W (Cb (AA 0) DL elt ds) ⟨z :: fr,S⟩ λxs t'=>xs=ds.map f/\t'.S=S:=by
 refine (Gg (P:=λxs t'=>xs=ds.map f/\t'.S=S) (λacc r t=>acc++r.map f=ds.map f/\∃z,t=⟨z :: fr,S⟩) ds [] _ ⟨rfl,z,rfl⟩ ?_ ?_).mono λxs t' h=>h
 ·rintro acc d r t ⟨h1,z,rfl⟩ hm;refine Gc (K8 ?_);rw [if_pos rfl];refine (h d hm).mono λx t' z9=>?_;obtain ⟨e1,e2⟩:=z9;subst e1 e2;exact ⟨by rw [ug6];exact h1,_,rfl⟩
 ·rintro acc t ⟨h1,z,rfl⟩;exact ⟨by simpa using h1,rfl⟩
mutual
noncomputable def sz:D->Nat
 | .tup xs=>szs xs + 1
 | .lst xs=>szs xs + 1
 | _=>1
noncomputable def szs:List D->Nat
 | []=>0
 | d :: r=>sz d + szs r
end
theorem Wy {y:Str}(h:x.cps.toList=y.cps.toList):x=y:=by
 cases x;cases y
 congr
 exact Array.toList_inj.mp h
mutual
noncomputable def wf:Sh->Bool
 | .nothing=>true
 | .number lo hi=>decide (-1000000000000000000 < lo) && decide (lo<=hi) && decide (hi < 1000000000000000000)
 | .text m=>decide (0<=m) && decide (m<=250)
 | .list s m=>decide (0<=m) && decide (m<=250) && wf s
 | .pair s r=>wf s && wf r
 | .choice ss=>decide (1<=ss.length) && decide (ss.length<=9) && wfs ss
noncomputable def wfs:List Sh->Bool
 | []=>true
 | s :: r=>wf s && wfs r
end
mutual
noncomputable def cnt:Sh->Nat
 | .list s _=>cnt s + 1
 | .pair s r=>cnt s + cnt r + 1
 | .choice ss=>W8 ss + 1
 | _=>1
noncomputable def W8:List Sh->Nat
 | []=>0
 | s :: r=>cnt s + W8 r
end
theorem D4:∀{ss:List Sh},wfs ss=true->∀s∈ss,wf s=true
 | x :: r,h,s,m=>by
   rw [wfs,uh9] at h;rcases ul9.mp m with z | z
   ·subst z;exact h.1
   ·exact D4 h.2 s z
theorem Rm:∀{ss:List Sh},(∀s∈ss,wf s=true)->wfs ss=true
 | [],_=>rfl
 | x :: r,h=>by rw [wfs,h x uf2,Rm λs m=>h s (ud9 _ m)];rfl
theorem M5:∀ss:List Sh,shD ss=ss.map Sh.d
 | []=>rfl
 | s :: r=>by rw [shD,M5 r];rfl
theorem Lr:∀{ss:List Sh} {s:Sh},s∈ss->s.depth<=DI ss
 | x :: r,s,m=>by
   rw [DI];rcases ul9.mp m with z | z
   ·subst z;lia
   ·have:=Lr z;lia
variable {xs:List D}
theorem pick (h0:0<=i)(h1:i < xs.length){p:D->Prop}(h:∀d∈xs,p d):∃d,atI xs i=some d/\p d:=by
 obtain ⟨d,e,m,_⟩:=Uz h0 h1;exact ⟨d,e,h d m⟩
def Oh (k c l:Nat)(S S':List Ob):Prop:=S'.length=S.length/\∀j:Nat,j≠k->j≠c->j≠l->S'[j]?=S[j]?
noncomputable def O6 (deep:Int):Int:=if deep < 2 then 0 else 2 * deep + 4
def bd (deep x:Int):Int:=if deep < 2 then 1 else max x 1 + O6 deep - (if deep + 1<=x then 1 else 0)
def tb (deep y i:Int):Int:=if deep=2 then i else if i=0 then 0 else y + O6 (deep - 1) + i - 1 - (if deep<=y then 1 else 0)
structure ShapeRes (k c l:Nat)(S:List Ob)(deep x:Int)(s:Sh)(S':List Ob):Prop where
 w:wf s=true
 dep:(s.depth:Int)<=max deep 1
 lft:S'[l]?=some (.lst [.int (x - cnt s)])
 one:x<=1->cnt s=1
 few:(cnt s:Int)<=max x 1 + O6 deep
 deck:DeckAt k c S'
 kp:Oh k c l S S'
 few2:(cnt s:Int)<=bd deep x
theorem X1 {k:Int}:(Txt.mul ⟨#[n]⟩ k).cps.toList=List.replicate k.toNat n:=by rw [Qw];exact V0 n k.toNat
theorem Sx {k:Int}:(Txt.mul ⟨#[n]⟩ k).length=k.toNat:=by rw [Dq,X1,ud3]
structure Sep (ks:List (Nat×Nat)):Prop where
 sep:∀p∈ks,∀q∈ks,p=q\/(q.1≠p.1/\q.1≠p.2/\q.2≠p.1/\q.2≠p.2)
mutual
noncomputable def dpt:D->Nat
 | .lst ds=>FA ds + 1
 | .tup ds=>FA ds + 1
 | _=>1
noncomputable def FA:List D->Nat
 | []=>0
 | d :: r=>max (dpt d) (FA r)
end
theorem ND:∀{ds:List D} {n:Nat},(∀d∈ds,dpt d<=n)->FA ds<=n
 | [],n,_=>by simp [FA]
 | x :: r,n,h=>by
   rw [FA];have h1:=h x uf2;have h2:=ND λd m=>h d (ud9 _ m);lia
theorem NC (d:D):0 < dpt d:=by cases d <;> simp [dpt]
mutual
noncomputable def smD:D->Bool
 | .str x=>decide (x.length<=300)
 | .int i=>decide (-1000000000000000000000000 < i) && decide (i < 1000000000000000000000000)
 | .tup xs=>decide (xs.length<=300) && sms xs
 | .lst xs=>decide (xs.length<=300) && sms xs
 | .obj _=>false
 | .scr _=>false
 | .ty _=>false
 | .exc _ _=>false
 | _=>true
noncomputable def sms:List D->Bool
 | []=>true
 | d :: r=>smD d && sms r
end
theorem Q6:∀{xs:List D},(∀d∈xs,smD d=true)->sms xs=true
 | [],_=>rfl
 | x :: r,h=>by
   rw [sms,uh9];exact ⟨h x uf2,Q6 λd m=>h d (ud9 _ m)⟩
mutual
theorem Ug:∀{d:D},smD d=true->okD d=true
 | .str x,h=>by rw [smD,uh2] at h;rw [okD,uh2];lia
 | .tup xs,h=>by rw [smD,uh9] at h;rw [okD];exact Na h.2
 | .lst xs,h=>by rw [smD,uh9] at h;rw [okD];exact Na h.2
 | .obj _,h=>by simp [smD] at h
 | .scr _,h=>by simp [smD] at h
 | .ty _,h=>by simp [smD] at h
 | .non,_=>by simp [okD]
 | .bl _,_=>by simp [okD]
 | .int _,_=>by simp [okD]
 | .dic,_=>by simp [okD]
theorem Na:∀{xs:List D},sms xs=true->oks xs=true
 | [],_=>by simp [oks]
 | d :: r,h=>by rw [sms,uh9] at h;rw [oks,uh9];exact ⟨Ug h.1,Na h.2⟩
end
theorem Dn {f:D->D->Option Bool}:∀{xs:List D},(∀d∈xs,f d d=some true)->Db f xs xs=some true
 | [],_=>rfl
 | x :: r,h=>by
   rw [Db,h x uf2,Dn λd m=>h d (ud9 _ m)];rfl
theorem Do:∀(n:Nat) (d:D),dpt d<=n->smD d=true->d≠.dic->(∀xs,d = .lst xs\/d = .tup xs->∀x∈xs,eqN (n - 1) x x=some true)->eqN n d d=some true
 | 0,d,hd,_,_,_=>absurd hd (by have:=NC d;lia)
 | n + 1,.lst xs,_,_,_,h=>by
   rw [eqN,if_pos rfl];exact Dn (h xs (.inl rfl))
 | n + 1,.tup xs,_,_,_,h=>by
   have e:Db (eqN n) xs xs=some true:=Dn (h xs (.inr rfl));rw [eqN,e];simp
 | n + 1,.non,_,_,_,_=>rfl
 | n + 1,.bl b,_,_,_,_=>by show some (b == b)=some true;rw [uj0]
 | n + 1,.int b,_,_,_,_=>by show some (b == b)=some true;rw [uj0]
 | n + 1,.str b,_,_,_,_=>by show some (b == b)=some true;rw [uj0]
 | n + 1,.dic,_,_,h,_=>absurd rfl h
 | n + 1,.obj _,_,h,_,_=>by simp [smD] at h
 | n + 1,.scr _,_,h,_,_=>by simp [smD] at h
 | n + 1,.ty _,_,h,_,_=>by simp [smD] at h
theorem Gh:∀(n:Nat) (s:Sh),s.depth<=n->wf s=true->∀d,Aj s d=true->smD d=true/\dpt d<=s.depth/\∀m,s.depth<=m->eqN m d d=some true
 | 0,s,h,_,_,_=>absurd s.depth_pos (by lia)
 | n + 1,s,hs,hw,d,hf=>by
   have l2:(Str.ofString "of").length<=300:=by decide +kernel
   cases s with
   | nothing=>
     cases d <;> simp [Aj,Ik] at hf
     refine ⟨rfl,by simp [dpt,Sh.depth],λm hm=>?_⟩;have:=(Sh.nothing).depth_pos;obtain ⟨m,rfl⟩:∃k,m=k + 1:=Nat.exists_eq_add_of_le' (by lia);exact Do _ _ (by simp [dpt]) rfl (by simp) (by simp)
   | number lo hi=>
     simp only [wf,uh9,uh2] at hw
     cases d <;> simp [Aj] at hf
     rename_i i;have sm:smD (.int i)=true:=by
      simp only [smD,uh9,uh2];lia
     refine ⟨sm,by simp [dpt,Sh.depth],λm hm=>?_⟩;rw [Sh.depth] at hm;obtain ⟨m,rfl⟩:∃k,m=k + 1:=Nat.exists_eq_add_of_le' (by lia);exact Do _ _ (by simp [dpt]) sm (by simp) (by simp)
   | text q=>
     simp only [wf,uh9,uh2] at hw
     cases d <;> simp [Aj] at hf
     rename_i x;have sm:smD (.str x)=true:=by
      simp only [smD,uh2];lia
     refine ⟨sm,by simp [dpt,Sh.depth],λm hm=>?_⟩;rw [Sh.depth] at hm;obtain ⟨m,rfl⟩:∃k,m=k + 1:=Nat.exists_eq_add_of_le' (by lia);exact Do _ _ (by simp [dpt]) sm (by simp) (by simp)
   | list s q=>
     simp only [wf,uh9,uh2] at hw;rw [Sh.depth] at hs
     cases d <;> simp only [Aj,uf7] at hf
     rename_i ds;rw [uh9,uh2,ui2] at hf;have ih:=λd m=>Gh n s (by lia) hw.2 d (hf.2 d m);have sm:smD (.lst ds)=true:=by
      rw [smD,uh9,uh2];exact ⟨by lia,Q6 λd m=>(ih d m).1⟩
     have dd:FA ds<=s.depth:=ND λd m=>(ih d m).2.1;refine ⟨sm,by rw [dpt,Sh.depth];lia,λm hm=>?_⟩;rw [Sh.depth] at hm;obtain ⟨m,rfl⟩:∃k,m=k + 1:=Nat.exists_eq_add_of_le' (by lia);refine Do _ _ (by rw [dpt];lia) sm (by simp) λxs e x hx=>?_;rcases e with e | e
     ·cases e;exact (ih x hx).2.2 m (by lia)
     ·cases e
   | pair s r=>
     simp only [wf,uh9] at hw;rw [Sh.depth] at hs;unfold Aj at hf
     split at hf
     case h_2=>cases hf
     case h_1 a b=>
      rw [uh9] at hf;have i1:=Gh n s (by lia) hw.1 a hf.1;have i2:=Gh n r (by lia) hw.2 b hf.2;have sm:smD (.tup [a,b])=true:=by simp [smD,sms,i1.1,i2.1]
      have h1:=i1.2.1;have h2:=i2.2.1;refine ⟨sm,by simp only [dpt,FA,Sh.depth];lia,λm hm=>?_⟩;rw [Sh.depth] at hm;obtain ⟨m,rfl⟩:∃k,m=k + 1:=Nat.exists_eq_add_of_le' (by lia);refine Do _ _ (by simp only [dpt,FA];lia) sm (by simp) λxs e x hx=>?_;rcases e with e | e
      ·cases e
      ·cases e
       simp only [ul9,ui3,or_false] at hx;rcases hx with rfl | rfl
       ·exact i1.2.2 m (by lia)
       ·exact i2.2.2 m (by lia)
   | choice ss=>
     simp only [wf,uh9,uh2] at hw;rw [Sh.depth] at hs;unfold Aj at hf
     split at hf
     case h_2=>cases hf
     case h_1 o k x=>
      simp only [uh9,uh2] at hf;obtain ⟨⟨ho,k0,k1⟩,hf⟩:=hf;have hk:k.toNat < ss.length:=by lia
      have e1:ss[k.toNat]?=some ss[k.toNat]:=ub4 hk;rw [BX ss _ _ _ e1] at hf;have hd:=CI ss _ _ e1;have ih:=Gh n _ (by lia) (D4 hw.2 _ (ui4 hk)) x hf;have ho':o.length<=300:=by
       have:o=("of" : Str):=by simpa [FC] using ho
       subst this;exact l2
      have sm:smD (.tup [.str o,.int k,x])=true:=by
       simp only [smD,sms,ih.1,um5,uh9,uh2,uh5,uk1];lia
      have h1:=ih.2.1;have h2:=NC x;have p1:=(ss[k.toNat]).depth_pos;refine ⟨sm,by simp only [dpt,FA,Sh.depth];lia,λm hm=>?_⟩;rw [Sh.depth] at hm;obtain ⟨m,rfl⟩:∃k,m=k + 1:=Nat.exists_eq_add_of_le' (by lia);refine Do _ _ (by simp only [dpt,FA];lia) sm (by simp) λxs e y hy=>?_;rcases e with e | e
      ·cases e
      ·cases e
       obtain ⟨m',rfl⟩:∃k,m=k + 1:=Nat.exists_eq_add_of_le' (by lia);simp only [ul9,ui3,or_false] at hy;rcases hy with rfl | rfl | rfl
       ·exact Do _ _ (by simp [dpt]) (by simp [smD,ho']) (by simp) (by simp)
       ·exact Do _ _ (by simp [dpt]) (by simp only [smD,uh9,uh2];lia) (by simp) (by simp)
       ·exact ih.2.2 _ (by lia)
variable {t:T}{P:D->T->Prop}
theorem EG {d:D}{g:Bool->Bool}(h0:Sv d=false)(h:eqN EQD d d=some true)(p:P (.bl (g true)) t):W (eqS g d d) t P:=⟨_,_,by simp [eqS,h0,h],p⟩
variable {f:M D}
theorem Uo {g:M (List D)}(h:W f t λo t1=>W g t1 λas t2=>∃z ds ys,o = .str z/\as=[.lst ds]/\FR ds=some ys/\(z.length<=8/\ys.length<=1048576)/\P (.str (Txt.join z ys)) t2):W (joinM f g) t P:=by
 refine BW (h.mono λo t1 h1=>BW (h1.mono λas t2 h2=>?_));obtain ⟨z,ds,ys,rfl,rfl,e,hl,p⟩:=h2;refine ⟨_,_,?_,p⟩;simp only [e];rw [if_pos hl]
theorem FS:∀ns:List Nat,FR (ns.map λn=>D.str ⟨#[n]⟩)=some (ns.map λn=>(⟨#[n]⟩:Str))
 | []=>rfl
 | n :: r=>by
   rw [um0,FR,if_pos (ud5 rfl),FS r];rfl
theorem JS:∀(ns:List Nat) (acc:Array Nat),((ns.map λn=>(⟨#[n]⟩:Str)).foldl (λacc p=>acc++(Str.ofString "").cps++p.cps) acc).toList=acc.toList++ns
 | [],acc=>by simp
 | n :: r,acc=>by
   have e:(Str.ofString "").cps=#[]:=by decide +kernel
   rw [um0,uj8,JS r,e];simp
theorem Fh (ns:List Nat):(Txt.join (Str.ofString "") (ns.map λn=>(⟨#[n]⟩:Str))).cps.toList=ns:=by
 show (List.foldl (λ(acc:Array Nat) (p:Str)=>acc++(Str.ofString "").cps++p.cps) (((ns.map λn=>(⟨#[n]⟩:Str)).headD Str.empty).cps) ((ns.map λn=>(⟨#[n]⟩:Str)).drop 1)).toList=ns
 cases ns with
 | nil=>rfl
 | cons n r=>
   rw [um0,List.drop_one,List.tail_cons,JS];rfl
structure ValueRes (k c l:Nat)(S:List Ob)(s:Sh)(r:D)(S':List Ob):Prop where
 fit:Aj s r=true
 lft:∃a b:Int,S'[l]?=some (.lst [.int a,.int b])
 deck:DeckAt k c S'
 kp:Oh k c l S S'
theorem II {f:M (List D)}{P:Out->T->Prop}(h:W f t λds t1=>P (.ret (.lst ds)) t1):W (GY f) t P:=W_bnd.mpr (h.mono λ_ _ p=>W_ret.mpr p)
theorem FV {g:Fn}{f:M (List D)}{P:List D->T->Prop}(h:W f t λds t1=>Wf g ds t1.S λr S'=>∃rs,r = .lst rs/\P rs ⟨t1.env,S'⟩):W (Dp g f) t P:=by
 refine W_bnd.mpr (h.mono λds t1 z9=>?_);obtain ⟨r,S',e,rs,er,p⟩:=z9;subst er;exact ⟨rs,⟨t1.env,S'⟩,by simp only [e],p⟩
theorem WK {i:Nat}{P:Out->T->Prop}(e:t.env[i]?=some (some (.own xs)))(h:P (.ret (.lst xs)) ⟨t.env.set i none,t.S⟩):W (Gu i) t P:=⟨_,_,by simp only [Gu,e],h⟩
theorem am (h:P (.int (Builtin.Int.intBits i:Nat)) t):W (JF (.int i)) t P:=⟨_,_,rfl,h⟩
theorem cL {j:Int}(h0:0<=j)(h:P (.int (i / 2 ^ j.toNat)) t):W (M6 (.int i) (.int j)) t P:=⟨_,_,by simp [M6,i2C,h0],h⟩
variable {ys:List D}{t1:T}
theorem bZ {i:Nat}{A:List D->Prop}(e:t1.env[i]?=some (some (.own xs)))(l:xs.length + ys.length<=LIM)(w:A (xs++ys)):∃xs,t1.env[i]?=some (some (.own xs))/\∃zs,Ev xs [.lst ys]=some zs/\A zs:=
 ⟨xs,e,xs++ys,by simp [Ev,l],w⟩
theorem IT {f:M Bool}{b:M Out}{P:Out->T->Prop}(I:Nat->T->Prop)(turn:∀n t,I n t->W f t λk t1=>match k with
 | true=>∃m,n=m + 1/\W b t1 λo t2=>match o with
   | .next=>I m t2
   | .cont=>I m t2
   | .brk=>P .next t2
   | .ret x=>P (.ret x) t2
 | false=>P .next t1):∀(fuel n:Nat) (t:T),n < fuel->I n t->W (C6 f b fuel) t P
 | 0,n,t,h,_=>absurd h (uk4 _)
 | fuel + 1,n,t,h,i=>by
   obtain ⟨k,t1,e1,p⟩:=turn n t i
   cases k with
   | false=>exact ⟨_,_,by simp only [C6,e1],p⟩
   | true=>
     obtain ⟨m,rfl,o,t2,e2,p⟩:=p
     cases o with
     | next=>obtain ⟨o,t',e',p⟩:=IT I turn fuel m t2 (by lia) p;exact ⟨o,t',by simp only [C6,e1,e2];exact e',p⟩
     | cont=>obtain ⟨o,t',e',p⟩:=IT I turn fuel m t2 (by lia) p;exact ⟨o,t',by simp only [C6,e1,e2];exact e',p⟩
     | brk=>exact ⟨_,_,by simp only [C6,e1,e2],p⟩
     | ret x=>exact ⟨_,_,by simp only [C6,e1,e2],p⟩
noncomputable def wid (n:Nat):Nat:=if n=0 then 0 else n.log2 / 8 + 1
theorem Qn (h:2<=n):n.log2=(n / 2).log2 + 1:=by rw [Nat.log2_def,if_pos h]
theorem SC (h:n < 2):n.log2=0:=by rw [Nat.log2_def,if_neg (by lia)]
theorem MF:∀(k:Nat) {n:Nat},2 ^ k<=n->n.log2=(n / 2 ^ k).log2 + k
 | 0,n,_=>by rw [Nat.pow_zero,Nat.div_one,un9]
 | k + 1,n,h=>by
   have h2:2 ^ k * 2<=n:=by rw [<-uo0];exact h
   have h3:2<=n / 2 ^ k:=(Nat.le_div_iff_mul_le (Nat.pow_pos (by decide))).mpr (by rw [un7];exact h2);rw [MF k (un3 (Nat.le_mul_of_pos_right _ (by decide)) h2),Qn h3,uc8,<-uo0,um7,Nat.add_comm 1 k]
theorem Sz (h:256<=n):n.log2=(n / 256).log2 + 8:=MF 8 h
theorem SA (h:n < 256):n.log2 < 8:=by
 by_cases z:n=0
 ·subst z;rw [SC (by lia)];lia
 ·exact (Nat.log2_lt z).mpr h
theorem Jy (h:0 < n):wid n=wid (n / 256) + 1:=by
 unfold wid;rw [if_neg (by lia)]
 by_cases z:n < 256
 ·have:=SA z;rw [if_pos (by lia)];lia
 ·rw [if_neg (by lia),Sz (by lia)];lia
theorem HN:∀(k n:Nat),n < 256 ^ k->wid n<=k
 | 0,n,h=>by
   have:n=0:=by simpa using h
   subst this;decide
 | k + 1,n,h=>by
   by_cases z:n=0
   ·subst z;exact uo8 _
   ·rw [Jy (by lia)];have:=HN k (n / 256) (Nat.div_lt_of_lt_mul (by rw [uo0] at h;lia));lia
theorem RD (n:Nat):((Builtin.Int.intBits (n:Int):Nat) + 7) / 8=wid n:=by
 unfold Builtin.Int.intBits wid
 by_cases z:n=0
 ·subst z;rfl
 ·have:((n:Int) == 0)=false:=by simp;exact z
  rw [this,if_neg (by simp),if_neg z,Int.natAbs_natCast];lia
noncomputable def nb:Nat->Nat->List D
 | 0,_=>[]
 | w + 1,n=>nb w (n / 256)++[.int ((n % 256:Nat):Int)]
theorem Gm:∀w n,(nb w n).length=w
 | 0,n=>rfl
 | w + 1,n=>by rw [nb,uf6,Gm];rfl
theorem Qy:∀w n:Nat,(List.range w).map (λk=>D.int ((n / 2 ^ (8 * (w - 1 - k)) % 256:Nat):Int))=nb w n
 | 0,n=>rfl
 | w + 1,n=>by
   rw [List.range_succ,uk5,nb,<-Qy w (n / 256)]
   congr 1
   ·refine ue7 λk hk=>?_;rw [ul1] at hk;have e:8 * (w + 1 - 1 - k)=8 + 8 * (w - 1 - k):=by lia
    rw [e,Nat.pow_add,uc8]
   ·simp
mutual
def As:Sh->D->List D
 | .nothing,_=>[]
 | .number lo hi,d=>match d with
   | .int i=>nb (wid (hi - lo).toNat) (i - lo).toNat
   | _=>[]
 | .text _,d=>match d with
   | .str x=>.int (x.length:Nat) :: x.cps.toList.map λn=>D.int (n:Nat)
   | _=>[]
 | .list s _,d=>match d with
   | .lst ds=>.int (ds.length:Nat) :: (ds.map λd=>As s d).flatten
   | _=>[]
 | .pair s r,d=>match d with
   | .tup [a,b]=>As s a++As r b
   | _=>[]
 | .choice ss,d=>match d with
   | .tup [_,.int k,x]=>.int k :: HY ss k.toNat x
   | _=>[]
def HY:List Sh->Nat->D->List D
 | [],_,_=>[]
 | s :: _,0,d=>As s d
 | _ :: r,k + 1,d=>HY r k d
end
theorem Dk:∀(ss:List Sh) (k:Nat) (s:Sh) (d:D),ss[k]?=some s->HY ss k d=As s d
 | [],k,s,d,h=>by simp at h
 | s :: r,0,s',d,h=>by simp at h;subst h;simp [HY]
 | s :: r,k + 1,s',d,h=>by rw [HY];exact Dk r k s' d (by simpa using h)
def Ge (f:Fn)(n:Nat):Prop:=∀(s:Sh),s.depth<=n->wf s=true->∀d,Aj s d=true->(As s d).length<=LIM->Pure1 f [s.d,d] (.lst (As s d))
def G9 (f:Fn):Prop:=∀(n j:Nat),j<=1000->Pure1 f [.int n,.int j] (.int ((n / 2 ^ (8 * j):Nat):Int))
theorem Ve:G9 (fnOf 2 2 Hu):=by
 intro n j hj S;refine Aq rfl ?_;unfold Hu;right;refine EO (EC (by decide) (by decide)) ?_;refine cL (by lia) ?_;refine ⟨?_,rfl⟩;have:(8 * (j:Int)).toNat=8 * j:=by lia
 rw [this];simp
def JD (f:Fn):Prop:=∀n:Nat,n < 256 ^ 9->Pure1 f [.int n] (.int (wid n:Nat))
theorem TU:JD (fnOf 1 1 E7):=by
 intro n _ S;refine Aq rfl ?_;unfold E7;right;refine am ?_;right;refine ⟨?_,rfl⟩;rw [<-RD];simp
def LS (f:Fn):Prop:=∀(n w:Nat),w<=1000->Pure1 f [.int n,.int w] (.lst (nb w n))
theorem K1 (i:Int)(n:Nat):rngL i n=(List.range n).map λk:Nat=>D.int (i + k):=by
 rfl
theorem Vr (hc:G9 c):LS (fnOf 2 2 (EA c)):=by
 intro n w hw S;have hL:LIM=100000:=rfl;refine Aq rfl ?_;unfold EA;refine II ?_;right;refine Zi (by rw [Br (by decide) (by decide),Br (by lia) (by lia)];rfl) ?_;refine (EQ (f:=λd=>match d with | .int k=>.int ((n / 2 ^ (8 * (w - k.toNat)) % 256:Nat):Int) | _=>d) (fr:=[some (.val (.int n)),some (.val (.int w))]) ?_).mono ?_
 ·intro d m;rw [K1] at m;obtain ⟨k,hk,rfl⟩:=uo1.mp m;rw [ul1] at hk;right;have e:((w:Int) - (1 + (k:Int)))=((w - (1 + k):Nat):Int):=by lia
  rw [e];refine (hc n (w - (1 + k)) (by lia)).use ?_;right;refine ⟨?_,rfl⟩;have e2:(1 + (k:Int)).toNat=1 + k:=by lia
  dsimp only;rw [e2];simp
 ·rintro xs t' ⟨rfl,hS⟩;have hn:((w:Int) + 1 - 1).toNat=w:=by lia
  rw [K1,hn];refine Bx (by simp only [uj3,uh1,hL];lia) ?_;refine ⟨?_,hS⟩;rw [<-Qy w n,uo2]
  congr 1
  refine ue7 λk hk=>?_;rw [ul1] at hk;have e2:(1 + (k:Int)).toNat=1 + k:=by lia
  have e3:w - (1 + k)=w - 1 - k:=by lia
  simp only [Function.comp,e2,e3]
variable {lo hi:Int}
theorem Od (h:wf (.number lo hi)=true):(hi - lo).toNat < 256 ^ 9:=by
 simp only [wf,uh9,uh2] at h;have:(256:Nat) ^ 9=4722366482869645213696:=by decide
 lia
theorem Px (x:Str):(x.cps.toList.map λc=>D.str ⟨#[c]⟩).map (λd=>match d with | .str y=>D.int (y.cps.getD 0 0:Nat) | _=>d)=x.cps.toList.map λn=>D.int (n:Nat):=by
 rw [uo2];refine ue7 λn _=>?_;rfl
variable {cn:Fn}
theorem US (hc:Ge c n)(hw:JD cw)(hn:LS cn):Ge (fnOf 2 5 (Ej c cw cn)) (n + 1):=by
 intro s hs hwf d hf hlen S;have hL:LIM=100000:=rfl;refine Aq rfl ?_;unfold Ej
 cases s with
 | nothing=>
   rw [Sh.d];right;refine II ?_;right;exact ⟨by rw [As],rfl⟩
 | number lo hi=>
   have hsp:=Od hwf;have hwd:=HN 9 _ hsp;simp only [wf,uh9,uh2] at hwf
   cases d <;> simp [Aj] at hf
   rename_i i;rw [Sh.d];right;refine II (FV ?_);right;have e1:hi - lo=(((hi - lo).toNat:Nat):Int):=by lia
   have e2:i - lo=(((i - lo).toNat:Nat):Int):=by lia
   rw [e1,e2];refine (hw _ hsp).use ?_;right;refine (hn _ _ (by lia)).use ?_;exact ⟨_,rfl,by rw [As],rfl⟩
 | text q=>
   simp only [wf,uh9,uh2] at hwf
   cases d <;> simp [Aj] at hf
   rename_i x;rw [Sh.d];right;refine II ?_;refine BW ?_;right;refine Up (by rw [hL];lia) ?_;right;refine (EQ (f:=λd=>match d with | .str y=>D.int (y.cps.getD 0 0:Nat) | _=>d) (fr:=[]) ?_).mono ?_
   ·intro d m;obtain ⟨k,hk,rfl⟩:=uo1.mp m;right;refine Zh rfl ?_;exact ⟨rfl,rfl⟩
   ·rintro xs t' ⟨rfl,hS⟩;rw [Px];have hl:x.cps.toList.length<=250:=by rw [<-Dq];lia
    refine Bx (by rw [uj3,hL];lia) ?_;right;refine Bx (by simp only [uj3,uh5,uk1,hL];lia) ?_;exact ⟨by rw [As];rfl,hS⟩
 | list s q=>
   simp only [wf,uh9,uh2] at hwf;rw [Sh.depth] at hs
   cases d <;> simp only [Aj,uf7] at hf
   rename_i ds;rw [uh9,uh2,ui2] at hf;rw [As] at hlen ⊢;rw [Sh.d];right;refine BS (λr t=>∃(z:Option Sl) (acc:List D),t=⟨[some (.val (.tup [.str "list",s.d,.int q])),some (.val (.lst ds)),some (.val (.str "list")),some (.own acc),z],S⟩/\acc++(r.map λd=>As s d).flatten = .int (ds.length:Nat) :: (ds.map λd=>As s d).flatten) _ _ ⟨_,_,rfl,rfl⟩ ?_ ?_
   ·rintro d r t ⟨z,acc,rfl,hacc⟩ m;rw [um0,ug5,<-ug6] at hacc;have hl:acc.length + (As s d).length<=LIM:=by
     have:=congrArg List.length hacc;rw [uf6,uf6] at this;lia
    right;refine FV ?_;right;refine (hc s (uc9 hs) hwf.2 d (hf.2 d m) (un3 (uk6 _ _) hl)).use ⟨_,rfl,?_⟩;right;refine bZ rfl hl ?_;exact ⟨_,_,rfl,hacc⟩
   ·rintro t ⟨z,acc,rfl,hacc⟩;rw [un8,ui5,uj5] at hacc;right;refine WK rfl ?_;exact ⟨by rw [hacc],rfl⟩
 | pair s r=>
   simp only [wf,uh9] at hwf;rw [Sh.depth] at hs;unfold Aj at hf
   split at hf
   case h_2=>cases hf
   case h_1 a b=>
    rw [uh9] at hf;rw [As] at hlen ⊢;rw [uf6] at hlen;rw [Sh.d];right;refine II ?_;refine BW ?_;right;refine FV ?_;right;refine (hc s (un3 (Nat.le_max_left _ _) (uc9 hs)) hwf.1 a hf.1 (un3 (ui1 _ _) hlen)).use ⟨_,rfl,?_⟩;refine BW ?_;right;refine FV ?_;right;refine (hc r (un3 (Nat.le_max_right _ _) (uc9 hs)) hwf.2 b hf.2 (un3 (uk6 _ _) hlen)).use ⟨_,rfl,?_⟩;right;refine Bx hlen ?_;exact ⟨rfl,rfl⟩
 | choice ss=>
   simp only [wf,uh9,uh2] at hwf;rw [Sh.depth] at hs;unfold Aj at hf
   split at hf
   case h_2=>cases hf
   case h_1 o k x=>
    simp only [uh9,uh2] at hf;obtain ⟨⟨ho,k0,k1⟩,hf⟩:=hf;have hk:k.toNat < ss.length:=by lia
    have e1:ss[k.toNat]?=some ss[k.toNat]:=ub4 hk;have hl:=D1 ss;have e2:atI (shD ss) k=some (ss[k.toNat]).d:=by
     unfold atI;rw [Be k0 (by lia)];show (shD ss)[k.toNat]?=_;rw [Gv,e1];rfl
    rw [BX ss _ _ _ e1] at hf;rw [As] at hlen ⊢;rw [Dk ss _ _ _ e1] at hlen ⊢;rw [uh5] at hlen;rw [Sh.d];right;refine II ?_;right;refine FV ?_;right;refine G6 e2 ?_;right;refine (hc _ (un3 (CI ss _ _ e1) (uc9 hs)) (D4 hwf.2 _ (ui4 hk)) x hf (Nat.le_of_succ_le hlen)).use ⟨_,rfl,?_⟩;right;refine Bx (by simp only [uh5,uk1];lia) ?_;exact ⟨rfl,rfl⟩
theorem Kf (a:Int)(n:Nat):(rngL a n).length=n:=by simp [rngL]
variable {j:Nat}
theorem KW {a:Int}{d:D}{r:List D}(e:d :: r=(rngL a n).drop j):d = .int (a + j)/\r=(rngL a n).drop (j + 1)/\j < n:=by
 have hj:j < (rngL a n).length:=by
  rcases uo3 j (rngL a n).length with h | h
  ·exact h
  ·rw [List.drop_eq_nil_of_le h] at e;cases e
 rw [ub3 hj] at e;injection e with e1 e2
 rw [Kf] at hj;refine ⟨?_,e2,hj⟩;rw [e1];simp [rngL]
noncomputable def sgs:Str:=" !\"#$ &'()*+,-./0123456789:;<=>?@ABCDEFGHIJKLMNOPQRSTUVWXYZ[\\]^_`abcdefghijklmnopqrstuvwxyz{|}~"
theorem YS {c:Nat}(h:Bo c=true):atI sgs.cps.toList ((c:Int) - 32)=some c:=by
 have hl:sgs.cps.toList.length=95:=by decide +kernel
 have hall:(List.range 127).all (λc=>!Bo c || decide (sgs.cps.toList[c - 32]?=some c))=true:=by decide +kernel
 have h':=h;simp only [Bo,uh9,uh2] at h';have:=ui2.mp hall c (ul1.mpr (by lia));rw [h,Bool.not_true,Bool.false_or,uh2] at this;rw [show ((c:Int) - 32)=((c - 32:Nat):Int) by lia];exact HX this
variable {n':Str}
section
variable {t:T}{P:D->T->Prop}{R:Out->T->Prop}
def TD (h:D->M Out)(R:Out->T->Prop)(o:Out)(t1:T):Prop:=match o with
 | .ret (.exc n ds)=>n∈Bh/\W (h (.exc n ds)) t1 R
 | o=>R o t1
theorem cQ {b:M Out}{h:D->M Out}(w:W b t (TD h R)):W (FU b h) t R:=by
 obtain ⟨o,t1,e,q⟩:=w;have rest:∀d,A1 d=false->o = .ret d->W (FU b h) t R:=λd hd ho=>by
  subst ho;refine ⟨.ret d,t1,?_,?_⟩
  ·unfold FU;rw [e];cases d <;> first | rfl | cases hd
  ·cases d <;> first | exact q | cases hd
 cases o with
 | next=>exact ⟨.next,t1,by unfold FU;rw [e],q⟩
 | brk=>exact ⟨.brk,t1,by unfold FU;rw [e],q⟩
 | cont=>exact ⟨.cont,t1,by unfold FU;rw [e],q⟩
 | ret d=>
   cases d with
   | exc n ds=>
     obtain ⟨hn,o2,t2,e2,q2⟩:=q;exact ⟨o2,t2,by unfold FU;rw [e];dsimp only;rw [if_pos hn,e2],q2⟩
   | _=>exact rest _ rfl rfl
theorem Rf {h:D->M Out}(q:R .next t1):TD h R .next t1:=q
theorem WA {h:D->M Out}{n:Str}(e:n∈Bh)(q:W (h (.exc n ds)) t1 R):TD h R (.ret (.exc n ds)) t1:=⟨e,q⟩
def xK (d:D)(A B:Prop):Prop:=if A1 d=true then A else B
theorem aO {d:D}{A B:Prop}(e:A1 d=false)(b:B):xK d A B:=by unfold xK;rw [if_neg (by rw [e];decide)];exact b
theorem aN {d:D}{A B:Prop}(e:A1 d=true)(a:A):xK d A B:=by unfold xK;rw [if_pos e];exact a
theorem aG {i:Nat}(w:W f t λd t1=>xK d (R (.ret d) t1) (R .next ⟨t1.env.set i (some (.val d)),t1.S⟩)):W (CH i f) t R:=by
 refine BW (w.mono λd t1 q=>?_);unfold xK at q
 split at q
 ·next h=>rw [if_pos h];exact ⟨_,_,rfl,q⟩
 ·next h=>rw [if_neg h];exact ⟨_,_,rfl,q⟩
theorem wNx (w:W f t λd t1=>A1 d=false/\P d t1):W (nxD f) t P:=by
 refine BW (w.mono λd t1 z9=>?_);obtain ⟨h,q⟩:=z9;rw [if_neg (by rw [h];decide)];exact ⟨_,_,rfl,q⟩
theorem ao {g:M D}{h:D->M D}(w:W g t λy t1=>xK y (P y t1) (W (h y) t1 λd t2=>A1 d=false/\P d t2)):W (Kz g h) t P:=by
 refine BW (w.mono λy t1 q=>?_);unfold xK at q
 split at q
 ·next z=>rw [if_pos z];exact ⟨_,_,rfl,q⟩
 ·next z=>rw [if_neg z];exact wNx q
theorem al {g:M D}{h:D->D->M D}(w:W f t λx t1=>W (Kz g (h x)) t1 P):W (H9 f g h) t P:=BW w
theorem WI {n:Str}{f:M (List D)}(w:W f t λds t1=>ds.length<=1000/\R (.ret (.exc n [])) t1):W (FP n f) t R:=
 BW (w.mono λds t1 ⟨e,q⟩=>by rw [if_pos e];exact ⟨_,_,rfl,q⟩)
theorem WJ {n:Str}(w:W f t λ_ t1=>R (.ret (.exc n [])) t1):W (FP n (Aa f Ad)) t R:=WI (Dj (w.mono λd t1 q=>Jw ⟨by show 1<=1000;decide,q⟩))
theorem b6 {n:Str}{i:Nat}{s:M Out}{r:D->M Out}(e:Fb n n'=true)(w:W s { t with env:=t.env.set i (some (.val (.exc n ds))) } λo t2=>R o (unE i t2)):W (hAs n' i s r (.exc n ds)) t R:=by
 obtain ⟨o,t2,e1,q⟩:=w;exact ⟨o,unE i t2,by unfold hAs;dsimp only;rw [if_pos e,e1],q⟩
theorem b7 {n:Str}{s:M Out}{r:D->M Out}(e:Fb n n'=true)(w:W s t R):W (hNo n' s r (.exc n ds)) t R:=by
 obtain ⟨o,t2,e1,q⟩:=w;exact ⟨o,t2,by unfold hNo;dsimp only;rw [if_pos e,e1],q⟩
theorem ar {n:Str}{s:M Out}{r:D->M Out}(e:Fb n n'=false)(w:W (r (.exc n ds)) t R):W (hNo n' s r (.exc n ds)) t R:=by
 obtain ⟨o,t2,e1,q⟩:=w;exact ⟨o,t2,by unfold hNo;dsimp only;rw [if_neg (by rw [e];decide),e1],q⟩
theorem ak {m n:Str}{d:D}(e:m∈Bh)(l:((Jf m).zip ds).lookup n=some d)(q:P d t):W (Ky n (.exc m ds)) t P:=⟨_,_,by unfold Ky;dsimp only;rw [if_pos e,l];rfl,q⟩
theorem FX {g:Fn}{Q:D->List Ob->Prop}(w:Wf g ds S λr S'=>A1 r=false/\Q r S'):Wf (B5 g) ds S Q:=by
 obtain ⟨r,S',e,h,q⟩:=w;exact ⟨r,S',by unfold B5;rw [e];dsimp only;rw [if_neg (by rw [h];decide)],q⟩
end
theorem IH {n:Str}{g:M D}{R:Out->T->Prop}(w:W f t λa t1=>W g t1 λb t2=>R (.ret (.exc n [a,b])) t2):W (Dv n (Aa f (Aa g Ad))) t R:=
 BW (Dj (w.mono λa t1 q=>Dj (q.mono λb t2 q=>Jw ⟨_,_,rfl,q⟩)))
local macro_rules | `(tactic| walk_at "x1")=>`(tactic| first
 | walk_at "w1" | clear 31 cQ aG wNx al ao Rf | clear 33 WA | clear 32 aO | clear 32 aN | clear 31 WJ | clear 33 b6 | clear 33 b7 | clear 33 ar | ((with_reducible refine' ak ?wv ?wu ?_);(case wv=>decide);(case wu=>exact rfl)))
local macro_rules | `(tactic| left)=>`(tactic| repeat (walk_at "x1"))
inductive Rd where
 | done (v:D)
 | need (ok:Nat->Bool) (nx:Nat->Rd)
inductive RR where
 | told (v:D) (a:Nat)
 | short
 | broken (a:Nat)
noncomputable def Rd.run:Rd->List Nat->Nat->RR
 | .done v,_,a=>.told v a
 | .need ok nx,w,a=>match w[a]? with
   | none=>.short
   | some b=>if ok b=true then (nx b).run w (a + 1) else .broken a
noncomputable def Rd.bnd:Rd->(D->Rd)->Rd
 | .done v,k=>k v
 | .need ok nx,k=>.need ok λb=>(nx b).bnd k
def RR.thn (r:RR)(w:List Nat)(k:D->Rd):RR:=match r with
 | .told v a=>(k v).run w a
 | .short=>.short
 | .broken a=>.broken a
variable {w:List Nat}{a:Nat}
theorem B8 {ok:Nat->Bool}{nx:Nat->Rd}(h:w[a]?=none):(Rd.need ok nx).run w a = .short:=by rw [Rd.run,h]
variable {b:Nat}
theorem Bd {ok:Nat->Bool}{nx:Nat->Rd}(h:w[a]?=some b):(Rd.need ok nx).run w a=if ok b=true then (nx b).run w (a + 1) else .broken a:=by rw [Rd.run,h]
theorem D0 (k:D->Rd)(w:List Nat):∀(p:Rd) (a:Nat),(p.bnd k).run w a=(p.run w a).thn w k:=by
 intro p
 induction p with
 | done v=>intro a;rfl
 | need ok nx ih=>
   intro a;rw [Rd.bnd]
   cases h:w[a]? with
   | none=>rw [B8 h,B8 h];rfl
   | some b=>
     rw [Bd h,Bd h]
     by_cases q:ok b=true
     ·rw [if_pos q,if_pos q];exact ih b (a + 1)
     ·rw [if_neg q,if_neg q];rfl
variable {v:D}
theorem Gy:∀(p:Rd) (a:Nat),a<=w.length->p.run w a = .told v b->a<=b/\b<=w.length:=by
 intro p
 induction p with
 | done v'=>intro a ha h;cases h;exact ⟨uo7 _,ha⟩
 | need ok nx ih=>
   intro a ha h
   cases e:w[a]? with
   | none=>rw [B8 e] at h;cases h
   | some c=>
     rw [Bd e] at h;have hl:=(ub1.mp e).1
     by_cases q:ok c=true
     ·rw [if_pos q] at h;have:=ih c (a + 1) hl h;lia
     ·rw [if_neg q] at h;cases h
def Rd.good:Rd->Prop
 | .done _=>True
 | .need ok nx=>(ok 0=true\/ok 32=true)/\∀b,ok b=true->(nx b).good
noncomputable def GW (lo:Int)(M:Nat):Nat->Nat->Rd
 | 0,x=>.done (.int (lo + x))
 | r + 1,x=>.need (λb=>decide (x * 256 + b<=M / 2 ^ (8 * r))) λb=>GW lo M r (x * 256 + b)
def HA:Nat->List Nat->Rd
 | 0,cs=>.done (.str ⟨cs.toArray⟩)
 | n + 1,cs=>.need Bo λc=>HA n (cs++[c])
def GV (p:Rd):Nat->List D->Rd
 | 0,ds=>.done (.lst ds)
 | n + 1,ds=>p.bnd λv=>GV p n (ds++[v])
def pSh:Nat->Sh->Rd
 | 0,_=>.done .non
 | _ + 1,.nothing=>.done .non
 | _ + 1,.number lo hi=>GW lo (hi - lo).toNat (wid (hi - lo).toNat) 0
 | _ + 1,.text q=>.need (λb=>decide ((b:Int)<=q)) λb=>HA b []
 | n + 1,.list s q=>.need (λb=>decide ((b:Int)<=q)) λb=>GV (pSh n s) b []
 | n + 1,.pair s r=>(pSh n s).bnd λv=>(pSh n r).bnd λu=>.done (.tup [v,u])
 | n + 1,.choice ss=>.need (λb=>decide (b < ss.length)) λb=>(pSh n (ss.getD b .nothing)).bnd λv=>.done (.tup [.str "of",.int b,v])
mutual
noncomputable def plD:D->Bool
 | .lst xs=>pls xs
 | .tup xs=>pls xs
 | .obj _=>false
 | .scr _=>false
 | .ty _=>false
 | .exc _ _=>false
 | .dic=>false
 | _=>true
noncomputable def pls:List D->Bool
 | []=>true
 | d :: r=>plD d && pls r
end
noncomputable def pos (i:Int):Int:=if 0 < i then i else 0
structure ValueRes2 (k c l:Nat)(S:List Ob)(s:Sh)(a b:Int)(r:D)(S':List Ob):Prop where
 fit:Aj s r=true
 lft:∃a' b':Int,S'[l]?=some (.lst [.int a',.int b'])/\((As s r).length:Int)<=9 * (a - a') + (pos b - pos b')/\pos b'<=pos b/\1<=a - a'/\a - a'<=cnt s + (14 * (s.depth:Int)) * pos a
 deck:DeckAt k c S'
 kp:Oh k c l S S'
mutual
noncomputable def szE:D->Nat
 | .lst xs=>1 + Tz xs
 | .tup xs=>1 + Tz xs
 | _=>1
noncomputable def Tz:List D->Nat
 | []=>0
 | d :: r=>szE d + Tz r
end
structure VOk (s:Sh)(v:D):Prop where
 fit:Aj s v=true
 len:(As s v).length<=14809
local macro_rules | `(tactic| walk_at "y1")=>`(tactic| first
 | walk_at "x1" | clear 31 IH)
local macro_rules | `(tactic| symm)=>`(tactic| repeat (walk_at "y1"))
noncomputable def wD (w:List Nat):List D:=w.map λ(n:Nat)=>D.int (n:Int)
theorem AE (w:List Nat):(wD w).length=w.length:=by unfold wD;rw [uj3]
theorem Rj (h:w[a]?=some b):(wD w)[a]?=some (.int (b:Int)):=by unfold wD;rw [ug3,h];rfl
abbrev exS:D:=.exc "Short" []
abbrev exB (a:Nat):D:=.exc "Broken" [.int (a:Int),.non]
noncomputable def rrD:RR->D
 | .told v b=>.tup [v,.int (b:Int)]
 | .short=>exS
 | .broken a=>exB a
noncomputable def byX:Option Nat->D
 | none=>exS
 | some b=>.int (b:Int)
noncomputable def upX (m:Int)(a:Nat):Option Nat->D
 | none=>exS
 | some b=>if (b:Int)<=m then .int (b:Int) else exB a
def sgX (a:Nat):Option Nat->D
 | none=>exS
 | some c=>if Bo c=true then .str ⟨#[c]⟩ else exB a
def RX (c:Fn)(s:Sh)(p:Rd):Prop:=∀(w:List Nat) (a:Nat),a<=w.length->Pure1 c [s.d,.lst (wD w),.int (a:Int)] (rrD (p.run w a))
noncomputable def seg (w:List Nat)(a b:Nat):List Nat:=(w.drop a).take (b - a)
theorem EV (x y:List Nat):wD (x++y)=wD x++wD y:=by unfold wD;rw [uk5]
theorem NU:∀(r y:Nat),nb (r + 1) y = .int ((y / 256 ^ r % 256:Nat):Int) :: nb r y
 | 0,y=>by rw [nb,nb,nb,Nat.pow_zero,Nat.div_one];rfl
 | r + 1,y=>by
   rw [show nb (r + 1 + 1) y=nb (r + 1) (y / 256)++[.int ((y % 256:Nat):Int)] from rfl,NU r (y / 256),ui6,show nb (r + 1) y=nb r (y / 256)++[.int ((y % 256:Nat):Int)] from rfl,uc8,show 256 * 256 ^ r=256 ^ (r + 1) by rw [uo0,un7]]
variable {kvs:List (Key×D)}
theorem A4 {d:D}(e:t.S[n]?=some (.dct kvs))(e2:AV kvs (.inr x)=some d)(h:P d t):W (AJ (.obj n) (.str x)) t P:=
 ⟨d,t,by simp only [AJ,e,e2];rfl,h⟩
theorem Eo {g:M D}{d:D}{U:Unit->T->Prop}(h:W f t λo t1=>W g t1 λi t2=>W (Gx o i d) t2 U):W (EK f g d) t U:=BW (h.mono λo t1 h1=>BW h1)
theorem Cs {d:D}{U:Unit->T->Prop}(e:t.S[n]?=some (.dct kvs))(hl:kvs.length < LIM)(h:U () ⟨t.env,t.S.set n (.dct (Bm kvs (.inr x) d))⟩):W (Gx (.obj n) (.str x) d) t U:=
 ⟨(),_,by simp only [Gx,e,if_pos hl],h⟩
theorem IG {l:List (Str×M D)}(h:W (DO l) ⟨t.env,t.S++[.dct []]⟩ λps t1=>t1.S[t.S.length]?=some (.dct [])/\ps.length<=15/\P (.obj t.S.length) ⟨t1.env,t1.S.set t.S.length (.dct (AZ ps))⟩):W (Fd l) t P:=by
 obtain ⟨ps,t1,e1,e2,e3,p⟩:=h;refine ⟨_,_,?_,p⟩;unfold Fd bnd;simp only [e1];unfold Fm;simp only [e2,if_pos e3]
theorem D2 {Q:List (Key×D)->T->Prop}(h:Q [] t):W (DO []) t Q:=⟨_,_,rfl,h⟩
theorem A7 {k:Str}{r:List (Str×M D)}{Q:List (Key×D)->T->Prop}(h:W f t λd t1=>W (DO r) t1 λps t2=>Q ((.inr k,d) :: ps) t2):W (DO ((k,f) :: r)) t Q:=
 BW (h.mono λd t1 h1=>BW (h1.mono λps t2 h2=>⟨_,_,rfl,h2⟩))
structure St where
 rest:Int
 mixed:Bool
 turn:Int
noncomputable def St.ob (s:St):Ob:=.dct [(.inr (Str.ofString "rest"),.int s.rest),(.inr (Str.ofString "mixed"),.bl s.mixed),(.inr (Str.ofString "turn"),.int s.turn)]
noncomputable def take (s:St)(m:Int):Int×St:=
 if s.mixed=false then (s.rest % m,⟨s.rest / m,s.mixed,s.turn⟩)
 else
  let stir:=(s.rest % 2147483579 + 70001 * (s.turn + 1)) % 2147483579
  let rest:=(stir * stir % 2147483563 * 50021 + 7) % 2147483579
  (rest / 5 % m,⟨rest,s.mixed,s.turn + 1⟩)
theorem A3 (a:Int)(n:Nat):(rngL a n).length=n:=by simp [rngL]
inductive GS where
 | fin
 | st (side:Str) (ws:List (Str×Sh×Int))
def wdD (w:Str×Sh×Int):D:=.tup [.str w.1,w.2.1.d,.int w.2.2]
def GS.d:GS->D
 | .fin=>.tup [.str (Str.ofString "end")]
 | .st side ws=>.tup [.str side,.lst (ws.map wdD)]
noncomputable def GS.isFin:GS->Bool
 | .fin=>true
 | _=>false
theorem Zb {g:Bool->Bool}{x:GS}(h:P (.bl (g x.isFin)) t):W (eqS g x.d (.tup [.str (Str.ofString "end")])) t P:=by
 cases x with
 | fin=>exact ⟨_,_,by
    show Option.map (λb=>(D.bl (g b),t)) (Option.map (λb=>b && true) (some ((Str.ofString "end" == Str.ofString "end") && true)))=some (D.bl (g true),t);rw [uj0];rfl,h⟩
 | st side ws=>exact ⟨_,_,by
    show Option.map (λb=>(D.bl (g b),t)) (Option.map (λb=>b && false) (some ((side == Str.ofString "end") && true)))=some (D.bl (g false),t)
    cases (side == Str.ofString "end") <;> rfl,h⟩
theorem C3 {a:Int}{d:D}{r:List D}(e:d :: r=(rngL a n).drop j):d = .int (a + j)/\r=(rngL a n).drop (j + 1)/\j < n:=by
 have hj:j < (rngL a n).length:=by
  rcases uo3 j (rngL a n).length with h | h
  ·exact h
  ·rw [List.drop_eq_nil_of_le h] at e;cases e
 rw [ub3 hj] at e;injection e with e1 e2
 rw [A3] at hj;refine ⟨?_,e2,hj⟩;rw [e1];simp [rngL]
structure WOk (n:Int)(w:Str×Sh×Int):Prop where
 ok:wf w.2.1=true
 dep:w.2.1.depth<=6
 lo:0<=w.2.2
 hi:w.2.2 < n
 nm:w.1.length<=90000
inductive GSOk (n:Int):GS->Prop
 | fin:GSOk n .fin
 | st {side:Str} {ws:List (Str×Sh×Int)}:(side=Str.ofString "left"\/side=Str.ofString "right")->0 < ws.length->ws.length<=9->(ws.map (·.1)).Nodup->(∀w∈ws,WOk n w)->GSOk n (.st side ws)
structure GOk (g:List GS):Prop where
 ne:0 < g.length
 le:g.length<=30
 all:∀x∈g,GSOk g.length x
def HQ (f:Fn):Prop:=∀(n:Int) (x:GS),GSOk n x->Pure1 f [x.d] (.bl x.isFin)
theorem Qh:HQ (fnOf 1 1 Ji):=by
 intro n x hx S;refine Aq rfl ?_;unfold Ji
 cases hx with
 | fin=>
   rw [GS.d];right;exact ⟨by simp [GS.isFin],rfl⟩
 | st hs _ _ _ _=>
   rw [GS.d];right;refine ⟨?_,rfl⟩;rcases hs with rfl | rfl <;> simp [GS.isFin]
def GS.words:GS->D
 | .fin=>.tup []
 | .st _ ws=>.lst (ws.map wdD)
noncomputable def GS.ws:GS->List (Str×Sh×Int)
 | .fin=>[]
 | .st _ ws=>ws
def Kw (f:Fn):Prop:=∀(n:Int) (x:GS),GSOk n x->Pure1 f [x.d] x.words
theorem TV {ce:Fn}(he:HQ ce):Kw (fnOf 1 1 (GQ ce)):=by
 intro n x hx S;refine Aq rfl ?_;unfold GQ
 cases x with
 | fin=>
   right;refine (he n .fin hx).use ?_;right;exact ⟨rfl,rfl⟩
 | st side ws=>
   right;refine (he n (.st side ws) hx).use ?_;rw [GS.d];right;exact ⟨rfl,rfl⟩
noncomputable def MS:Option Nat->D
 | some i=>.int i
 | none=>.non
def IR (f:Fn):Prop:=∀(n:Int) (x:GS) (nm:Str),GSOk n x->Pure1 f [x.d,.str nm] (MS (x.ws.findIdx? λw=>w.1 == nm))
theorem Hl {p:α->Bool}{l:List α}(h:∀i (hi:i < l.length),i < j->p l[i]=false){x:α}(hx:l[j]?=some x)(hp:p x=true):l.findIdx? p=some j:=by
 obtain ⟨hj,e⟩:=ub1.mp hx;rw [ua0];exact ⟨hj,by rw [e];exact hp,λi hi=>by simpa using h i (by lia) hi⟩
theorem KR (hw:Kw cw):IR (fnOf 2 4 (E5 cw)):=by
 intro n x nm hx S;refine Aq rfl ?_;unfold E5;right;refine (hw n x hx).use ?_;have key:∀(ws:List (Str×Sh×Int)) (d:D),ws.length<=9->(∀(t:T) (P:D->T->Prop),P (.int ws.length) t->W (AM [d]) t P)->(∀(t:T) (P:D->T->Prop) (i:Nat) (w:Str×Sh×Int),ws[i]?=some w->P (wdD w) t->W (ixD d (.int i)) t P)->
  W (Ae (Bj (A5 (Aa (fB (Aa (Ab 2) Ad) AM) Ad)) (AA 3)
  (ifS (Ao (Ac (Ac (Ac (Ab 2) (Ab 3) ixD) (fC (.int 0)) ixD) (Ab 1) (eqS id)))
  (An (Ab 3))
  Au))
 (An (fC .non))) ⟨[some (.val x.d),some (.val (.str nm)),some (.val d),none],S⟩ λo t=>match o with
   | .ret r=>r=MS (ws.findIdx? λw=>w.1 == nm)/\t.S=S
   | .next=>D.non=MS (ws.findIdx? λw=>w.1 == nm)/\t.S=S
   | _=>False:=by
   intro ws d hl len ix;right;refine len _ _ ?_;right;refine Dy (Br (by lia) (by lia)) ?_;refine BS (λr t=>∃(j:Nat) (e3:Option Sl),(∀i (hi:i < ws.length),i < j->(ws[i].1 == nm)=false)/\j<=ws.length/\r=(rngL 0 ((ws.length:Nat):Int).toNat).drop j/\t=⟨[some (.val x.d),some (.val (.str nm)),some (.val d),e3],S⟩) _ _ ⟨0,none,λi hi h=>absurd h (by lia),by lia,rfl,rfl⟩ ?_ ?_
   ·rintro d' r t ⟨j,e3,hj,hjl,hr,rfl⟩ _;obtain ⟨rfl,hr',hjn⟩:=C3 hr;rw [ug4] at hjn;have e:ws[j]?=some ws[j]:=ub4 hjn;rw [uo4];right;refine ix _ _ j _ e ?_;unfold wdD;right;refine Cr (λq=>?_) λq=>?_
    ·right;refine ⟨?_,rfl⟩;rw [Hl hj e q];rfl
    ·right;refine ⟨j + 1,_,λi hi hij=>?_,by lia,hr',rfl⟩;rcases uo3 i j with h | h
     ·exact hj i hi h
     ·have:i=j:=by lia
      subst this;exact q
   ·rintro t ⟨j,e3,hj,hjl,hr,rfl⟩;have hj':j=ws.length:=by
     have:=congrArg List.length hr;rw [uk1,uh8,A3,ug4] at this;lia
    subst hj';right;refine ⟨?_,rfl⟩;rw [List.findIdx?_eq_none_iff.mpr]
    ·rfl
    ·intro w hw';obtain ⟨i,hi,rfl⟩:=List.mem_iff_getElem.mp hw';exact hj i hi hi
 cases hx with
 | fin=>
   refine Bn ?_;refine key [] (.tup []) (by decide) (λt P h=>Uq h) λt P i w e h=>?_;simp at e
 | @st side ws h1 h2 h3 h4 h5=>
   refine Bn ?_;refine key ws (.lst (ws.map wdD)) h3 (λt P h=>Pc (by rw [uj3];exact h)) λt P i w e h=>?_;obtain ⟨hi,_⟩:=ub1.mp e;refine AU ?_ h;unfold atI;rw [Be (by lia) (by rw [uj3];lia)];show (ws.map wdD)[(i:Int).toNat]?=_;rw [ug4,ug3,e];rfl
theorem UF {x:Int}:eqN n (.int x) (.int x)=some true:=by
 cases n <;> (show some (x == x)=some true;rw [uj0])
theorem UH (h:∀x∈xs,eqN n x x=some true):eqN (n + 1) (.tup xs) (.tup xs)=some true:=by
 rw [eqN,Dn h];simp
theorem UG (h:∀x∈xs,eqN n x x=some true):eqN (n + 1) (.lst xs) (.lst xs)=some true:=by
 rw [eqN,if_pos rfl,Dn h]
noncomputable def GS.side:GS->Str
 | .fin=>Str.ofString "end"
 | .st s _=>s
noncomputable def AF (g:List GS)(q:Nat):GS:=g.getD q .fin
def wdAt (g:List GS)(q p:Nat):Str×Sh×Int:=(AF g q).ws.getD p (Str.ofString "",.nothing,0)
def BU (g:List GS)(q p:Nat):Nat:=(wdAt g q p).2.2.toNat
def De (g:List GS)(q p:Nat)(v:D):D:=.tup [.str (AF g q).side,.str (wdAt g q p).1,v]
abbrev Mv:=Nat×D
def lastQ (g:List GS):Nat->List Mv->Nat
 | q,[]=>q
 | q,(p,_) :: r=>lastQ g (BU g q p) r
def Ap (g:List GS):Nat->List Mv->List D
 | _,[]=>[]
 | q,(p,v) :: r=>De g q p v :: Ap g (BU g q p) r
def B9 (g:List GS):Nat->List Mv->List D
 | _,[]=>[]
 | q,(p,_) :: r=>.tup [.int q,.int p] :: B9 g (BU g q p) r
def Bg (g:List GS):Nat->List Mv->List D
 | q,[]=>[.int q]
 | q,(p,_) :: r=>.int q :: Bg g (BU g q p) r
structure MvOk (g:List GS)(q:Nat)(p:Nat)(v:D):Prop where
 lt:q < g.length
 pl:p < (AF g q).ws.length
 fit:Aj (wdAt g q p).2.1 v=true
def okQ (g:List GS):Nat->List Mv->Prop
 | _,[]=>True
 | q,(p,v) :: r=>MvOk g q p v/\okQ g (BU g q p) r
theorem F3 (g:List GS):∀(q:Nat) (a b:List Mv),lastQ g q (a++b)=lastQ g (lastQ g q a) b
 | q,[],b=>rfl
 | q,(p,v) :: r,b=>by rw [ui6,lastQ,lastQ,F3 g _ r b]
theorem Hy (g:List GS):∀(q:Nat) (a b:List Mv),Ap g q (a++b)=Ap g q a++Ap g (lastQ g q a) b
 | q,[],b=>rfl
 | q,(p,v) :: r,b=>by rw [ui6,Ap,Ap,lastQ,Hy g _ r b];rfl
theorem Kj (g:List GS):∀(q:Nat) (a b:List Mv),B9 g q (a++b)=B9 g q a++B9 g (lastQ g q a) b
 | q,[],b=>rfl
 | q,(p,v) :: r,b=>by rw [ui6,B9,B9,lastQ,Kj g _ r b];rfl
theorem HI (g:List GS):∀(q:Nat) (a:List Mv) (p:Nat) (v:D),Bg g q (a++[(p,v)])=Bg g q a++[.int (BU g (lastQ g q a) p)]
 | q,[],p,v=>rfl
 | q,(p',v') :: r,p,v=>by rw [ui6,Bg,Bg,lastQ,HI g _ r p v];rfl
theorem Iv (g:List GS):∀(q:Nat) (a b:List Mv),okQ g q (a++b)↔okQ g q a/\okQ g (lastQ g q a) b
 | q,[],b=>by simp [okQ,lastQ]
 | q,(p,v) :: r,b=>by rw [ui6,okQ,okQ,lastQ,Iv g _ r b,and_assoc]
theorem AX (g:List GS):∀(q:Nat) (a:List Mv),(Ap g q a).length=a.length
 | q,[]=>rfl
 | q,(p,v) :: r=>by rw [Ap,uh5,AX g _ r,uh5]
theorem Fk (g:List GS):∀(q:Nat) (a:List Mv),(B9 g q a).length=a.length
 | q,[]=>rfl
 | q,(p,v) :: r=>by rw [B9,uh5,Fk g _ r,uh5]
theorem EM (g:List GS):∀(q:Nat) (a:List Mv),(Bg g q a).length=a.length + 1
 | q,[]=>rfl
 | q,(p,v) :: r=>by rw [Bg,uh5,EM g _ r,uh5]
theorem JY (g:List GS):∀(q:Nat) (a:List Mv) (i:Nat),(Ap g q a).take i=Ap g q (a.take i)
 | q,[],i=>by simp [Ap]
 | q,(p,v) :: r,0=>rfl
 | q,(p,v) :: r,i + 1=>by rw [Ap,ue8,ue8,Ap,JY g _ r i]
theorem Gb (g:List GS):∀(q:Nat) (a:List Mv) (i:Nat),i<=a.length->(Bg g q a)[i]?=some (.int (lastQ g q (a.take i)))
 | q,[],0,_=>rfl
 | q,[],i + 1,h=>absurd h (by simp)
 | q,(p,v) :: r,0,_=>rfl
 | q,(p,v) :: r,i + 1,h=>by
   rw [Bg,uc0,Gb g _ r i (by simpa using h),ue8,lastQ]
theorem DZ (g:List GS):∀(q:Nat) (a:List Mv) (i:Nat) (p:Nat) (v:D),a[i]?=some (p,v)->(Ap g q a)[i]?=some (De g (lastQ g q (a.take i)) p v)
 | q,[],i,p,v,h=>by simp at h
 | q,(p',v') :: r,0,p,v,h=>by
   simp at h;obtain ⟨rfl,rfl⟩:=h;rfl
 | q,(p',v') :: r,i + 1,p,v,h=>by
   rw [Ap,uc0,DZ g _ r i p v (by simpa using h),ue8,lastQ]
variable {g:List GS}{q:Nat}
theorem Jn {a:List Mv}(h:okQ g q a)(i:Nat):okQ g q (a.take i):=by
 rw [<-ud7 i a,Iv] at h;exact h.1
theorem Fo {a:List Mv}(h:okQ g q a){i p:Nat}{v:D}(e:a[i]?=some (p,v)):MvOk g (lastQ g q (a.take i)) p v:=by
 obtain ⟨hi,e'⟩:=ub1.mp e;have hd:a.drop i=(p,v) :: a.drop (i + 1):=by rw [ub3 hi,e']
 rw [<-ud7 i a,Iv,hd,okQ] at h;exact h.2.1
theorem DB (h:GOk g){q:Nat}(hq:q < g.length):GSOk g.length (AF g q):=by
 unfold AF;rw [ua7,ub4 hq];exact h.all _ (ui4 hq)
theorem DV (hq:q < g.length):atI (g.map GS.d) q=some (AF g q).d:=by
 unfold atI;rw [Be (by lia) (by rw [uj3];lia)];show (g.map GS.d)[(q:Int).toNat]?=_;unfold AF;rw [ug4,ug3,ua7,ub4 hq];rfl
variable {p:Nat}
theorem EL (hp:p < (AF g q).ws.length):∃side ws,AF g q = .st side ws/\p < ws.length/\ws[p]?=some (wdAt g q p):=by
 unfold wdAt
 cases e:AF g q with
 | fin=>rw [e] at hp;simp [GS.ws] at hp
 | st side ws=>
   rw [e] at hp;have hp:p < ws.length:=hp;refine ⟨side,ws,rfl,hp,?_⟩;show ws[p]?=some (ws.getD p _);rw [ua7,ub4 hp];rfl
theorem FW {ws:List (Str×Sh×Int)}{w:Str×Sh×Int}(e:ws[p]?=some w):atI (ws.map wdD) p=some (wdD w):=by
 obtain ⟨hp,_⟩:=ub1.mp e;unfold atI;rw [Be (by lia) (by rw [uj3];lia)];show (ws.map wdD)[(p:Int).toNat]?=_;rw [ug4,ug3,e];rfl
theorem Fl (h:GOk g){q p:Nat}(hq:q < g.length)(hp:p < (AF g q).ws.length):WOk g.length (wdAt g q p):=by
 obtain ⟨side,ws,e,hp',e2⟩:=EL hp;have:=DB h hq;rw [e] at this
 cases this with
 | st _ _ _ _ h5=>exact h5 _ (ue1 e2)
theorem Vm (h:GOk g){q p:Nat}(hq:q < g.length)(hp:p < (AF g q).ws.length):BU g q p < g.length:=by
 have:=Fl h hq hp;unfold BU;have h1:=this.lo;have h2:=this.hi;lia
theorem Io {g:List GS}(h:GOk g):∀{a:List Mv} {q:Nat},q < g.length->okQ g q a->lastQ g q a < g.length
 | [],q,hq,_=>hq
 | (p,v) :: r,q,hq,hk=>by
   rw [okQ] at hk;rw [lastQ];exact Io h (Vm h hq hk.1.pl) hk.2
theorem JQ {ws:List (Str×Sh×Int)}(nd:(ws.map (·.1)).Nodup){p:Nat}{w:Str×Sh×Int}(e:ws[p]?=some w):(ws.findIdx? λx=>x.1 == w.1)=some p:=by
 obtain ⟨hp,ep⟩:=ub1.mp e;refine Hl (λi hi hip=>?_) e (by simp);rw [<-ep];have hne:¬ws[i].1=ws[p].1:=λz=>by
  have h1:i < (ws.map (·.1)).length:=by rw [uj3];exact hi
  have h2:p < (ws.map (·.1)).length:=by rw [uj3];exact hp
  have:(ws.map (·.1))[i]=(ws.map (·.1))[p]:=by rw [ui7,ui7];exact z
  have:=(uh4 nd).mp this;lia
 simpa using hne
theorem NW:∀{xs:List D},(∀d∈xs,okD d=true)->oks xs=true
 | [],_=>by rw [oks]
 | d :: r,h=>by rw [oks,h d uf2,NW λx m=>h x (ud9 _ m)];rfl
theorem Ex:∀(n:Nat) (s:Sh),s.depth<=n->wf s=true->∀v,Aj s v=true->okD v=true
 | 0,s,h,_,_,_=>absurd s.depth_pos (by lia)
 | n + 1,s,hd,hw,v,h=>by
   cases s with
   | nothing=>cases v <;> first | rfl | (simp [Aj,Ik] at h;done)
   | number lo hi=>cases v <;> first | rfl | (simp [Aj] at h;done)
   | text q=>
     simp only [wf,uh9,uh2] at hw
     cases v <;> simp only [Aj,uf7] at h
     simp only [uh9,uh2] at h;rw [okD,uh2];lia
   | list s q=>
     rw [Sh.depth] at hd;simp only [wf,uh9,uh2] at hw
     cases v <;> simp only [Aj,uf7] at h
     simp only [uh9,uh2,ui2] at h;rw [okD];exact NW λd m=>Ex n s (by lia) hw.2 d (h.2 d m)
   | pair a b=>
     rw [Sh.depth] at hd;simp only [wf,uh9] at hw;unfold Aj at h
     split at h
     ·rw [uh9] at h;rw [okD,oks,oks,oks,Ex n a (by lia) hw.1 _ h.1,Ex n b (by lia) hw.2 _ h.2];rfl
     ·cases h
   | choice ss=>
     rw [Sh.depth] at hd;simp only [wf,uh9,uh2] at hw;unfold Aj at h
     split at h
     ·next o k x=>
      simp only [uh9,uh2] at h;have hk:k.toNat < ss.length:=by lia
      have e1:ss[k.toNat]?=some ss[k.toNat]:=ub4 hk;have h2:=h.2;rw [BX ss _ _ _ e1] at h2;have ho:o=("of" : Str):=eq_of_beq h.1.1;have hx:=Ex n _ (un3 (CI ss _ _ e1) (by lia)) (D4 hw.2 _ (ui4 hk)) x h2;subst ho;have hl:okD (.str ("of" : Str))=true:=by decide +kernel
      rw [okD,oks,oks,oks,oks,hl,hx];rfl
     ·cases h
def IS (f:Fn):Prop:=∀(g:List GS) (q p:Nat) (v:D),GOk g->MvOk g q p v->Pure1 f [(AF g q).d,De g q p v] (.int p)
variable {cf:Fn}
theorem LF (hf:Fr cf 6)(hp:IR cp):IS (fnOf 2 3 (FH cf cp)):=by
 intro g q p v hg hm S;refine Aq rfl ?_;unfold FH;obtain ⟨side,ws,e,hpl,ew⟩:=EL hm.pl;have hgs:=DB hg hm.lt;have hw:=Fl hg hm.lt hm.pl;have hfit:=hm.fit;unfold De;rw [e] at hgs ⊢;generalize wdAt g q p=w at ew hw hfit ⊢;have hov:okD v=true:=Ex 6 w.2.1 hw.dep hw.ok v hfit;show W _ ⟨[some (.val (.tup [.str side,.lst (ws.map wdD)])),some (.val (.tup [.str side,.str w.1,v])),none],S⟩ _;right;refine FE (by simp) ?_;right;have hpn:=hp g.length (.st side ws) w.1 hgs;have hidx:((GS.st side ws).ws.findIdx? λx=>x.1 == w.1)=some p:=by
  cases hgs with
  | st _ _ _ h4 _=>exact JQ h4 ew
 rw [hidx] at hpn;refine hpn.use ?_;show Fa _ _ .next ⟨[some (.val (.tup [.str side,.lst (ws.map wdD)])),some (.val (.tup [.str side,.str w.1,v])),some (.val (.int p))],S⟩;right;refine AU (FW ew) ?_;unfold wdD;right;refine (hf w.2.1 hw.dep v hov).use ?_;rw [hfit];right;exact ⟨rfl,rfl⟩
def LR (f:Fn):Prop:=∀(g:List GS) (q p:Nat),GOk g->q < g.length->p < (AF g q).ws.length->Pure1 f [.lst (g.map GS.d),.tup [.int q,.int p]] (.int (BU g q p))
theorem Vn:LR (fnOf 2 2 FJ):=by
 intro g q p hg hq hp S;refine Aq rfl ?_;unfold FJ;obtain ⟨side,ws,e,hpl,ew⟩:=EL hp;have hw:=Fl hg hq hp;have hlo:=hw.lo;right;refine AU (DV hq) ?_;rw [e,GS.d];right;refine AU (FW ew) ?_;unfold wdD;right;refine ⟨?_,rfl⟩;unfold BU
 congr 1
 lia
variable {a0 a1 e4 e5 e6:Option Sl}{y:D}{X Y:List D}
theorem t7 {x:D}(h:x=y)(h2:X=Y):(⟨[a0,a1,some (.val x),some (.own X),e4,e5,e6],S⟩:T)=⟨[a0,a1,some (.val y),some (.own Y),e4,e5,e6],S⟩:=by subst h h2;rfl
abbrev kR:Key:=.inr (Str.ofString "rest")
abbrev kM:Key:=.inr (Str.ofString "mixed")
abbrev kC:Key:=.inr (Str.ofString "count")
theorem kRM:¬kR=kM:=by intro h;injection h with h;rw [Du] at h;exact absurd h (by decide)
theorem kRC:¬kR=kC:=by intro h;injection h with h;rw [Du] at h;exact absurd h (by decide)
theorem kMC:¬kM=kC:=by intro h;injection h with h;rw [Du] at h;exact absurd h (by decide)
theorem kMR:¬kM=kR:=λh=>kRM h.symm
theorem kCR:¬kC=kR:=λh=>kRC h.symm
abbrev BM (a b c:D):List (Key×D):=[(kR,a),(kM,b),(kC,c)]
theorem N1 {a b c:D}:AV (BM a b c) kR=some a:=by simp [AV,uk0]
theorem Tb {a b c:D}:AV (BM a b c) kM=some b:=by
 unfold AV BM;rw [uk0,show decide (kR=kM)=false from ul0 kRM];simp [uk0]
theorem MQ {a b c:D}:AV (BM a b c) kC=some c:=by
 unfold AV BM;rw [uk0,show decide (kR=kC)=false from ul0 kRC];dsimp only;rw [uk0,show decide (kM=kC)=false from ul0 kMC];simp [uk0]
theorem KU {a b c d:D}:Bm (BM a b c) kR d=BM d b c:=by
 unfold Bm BM;rw [if_pos (by simp)];simp only [um0,un8,if_true,if_neg kMR,if_neg kCR]
theorem Th {a b c d:D}:Bm (BM a b c) kC d=BM a b d:=by
 unfold Bm BM;rw [if_pos (by simp)];simp only [um0,un8,if_true,if_neg kRC,if_neg kMC]
theorem MR {a b c:D}:AZ (BM a b c)=BM a b c:=by
 unfold AZ;simp only [uj8,List.foldl_nil];have e1:Bm [] kR a=[(kR,a)]:=by simp [Bm]
 rw [e1];have e2:Bm [(kR,a)] kM b=[(kR,a),(kM,b)]:=by
  unfold Bm;rw [if_neg (by simp only [um3,List.any_nil,um1,uh2];exact kRM)];rfl
 rw [e2];unfold Bm;rw [if_neg (by
  simp only [um3,List.any_nil,um1,uk3,uh2];intro h;rcases h with h | h
  ·exact kRC h
  ·exact kMC h)]
 rfl
def Room (k r:Nat)(S:List Ob):Prop:=∃(a c:Int) (b:Bool),S[k]?=some (.dct (BM (.int a) (.bl b) (.int c)))/\0<=c/\c + r<=1000000000000000000000000000000
variable {r:Nat}
theorem Room.mono {k r':Nat}(h:Room k r S)(e:r'<=r):Room k r' S:=by
 obtain ⟨a,c,b,h1,h2,h3⟩:=h;exact ⟨a,c,b,h1,h2,by lia⟩
variable {m:Nat}
theorem Room.drop {k:Nat}(h:Room k (r + m) S):Room k r S:=h.mono (ui1 _ _)
theorem Room.loop {k:Nat}(h:Room k (r + q * (m + 1)) S):Room k (r + q * m + q) S:=by rw [Nat.mul_succ,<-um7] at h;exact h
theorem Pd {j:Int}(h1:i.natAbs < 2 ^ 512)(h2:j.natAbs < 2 ^ 512)(h:P (.int (i * j)) t):W (Jk (.int i) (.int j)) t P:=
 ⟨_,_,by simp only [Jk,i2C,MK,ul7 h1,ul7 h2];rfl,h⟩
theorem Ul {j:Int}(h1:0 < j)(h2:j < 18446744073709551616)(h:P (.int (i / j)) t):W (Ie (.int i) (.int j)) t P:=
 ⟨_,_,by simp only [Ie,i2C,Mm,ul7 h1,ul7 h2];rfl,h⟩
theorem JX (h0:0<=i)(h:i < 10000000000000000000000000000000000000000000000000000000000000000000000000000000):i.natAbs < 2 ^ 512:=by
 have:(10000000000000000000000000000000000000000000000000000000000000000000000000000000:Nat)<=2 ^ 512:=by decide
 lia
theorem AT {k:Nat}{o':Ob}(h:S[k]?=some o):(S.set k o')[k]?=some o':=Ih h
def PTakeOk (f:Fn):Prop:=∀(k r:Nat) (S:List Ob) (m:Int),0 < m->m < 4611686018427387904->Room k (r + 1) S->Wf f [.obj k,.int m] S λv S'=>(∃i,v = .int i/\0<=i/\i < m)/\Room k r S'
theorem PTakeOk.use {f:Fn}(h:PTakeOk f){k r:Nat}{S:List Ob}{m:Int}(many:Int)(d:Room k (r + 1) S){P:D->List Ob->Prop}(p:∀i S',0<=i->i < many->Room k r S'->P (.int i) S')(e:m=many:=by first | rfl | decide)(h1:0 < many:=by decide)(h2:many < 4611686018427387904:=by decide):Wf f [.obj k,.int m] S P:=by
 subst e;exact (h k r S m h1 h2 d).mono λv S' ⟨⟨i,e,i0,i1⟩,q⟩=>by subst e;exact p i S' i0 i1 q
theorem Tj:PTakeOk (fnOf 2 3 Ei):=by
 intro k n S m hm0 hm1 ⟨a,c,b,hS,c0,c1⟩;refine Aq rfl ?_;unfold Ei;right;refine A4 hS N1 ?_;right;refine A4 hS Tb ?_;right;refine Cr (λz=>?_) λz=>?_
 ·right;refine Ul hm0 (by lia) ?_;refine Eo ?_;right;refine Cs hS (by show 3 < 100000;decide) ?_;rw [KU];right;refine TM hm0 ?_;exact ⟨⟨_,rfl,uk7 _ (by lia),uf9 _ hm0⟩,_,_,_,AT hS,c0,by lia⟩
 ·right;refine A4 hS MQ ?_;right;refine Eo ?_;right;refine Cs hS (by show 3 < 100000;decide) ?_;rw [Th];have g1:(S.set k (.dct (BM (.int a) (.bl b) (.int (c + 1)))))[k]?=some (.dct (BM (.int a) (.bl b) (.int (c + 1)))):=AT hS;refine Bn ?_
  change W _ ⟨[some (.val (.obj k)),some (.val (.int m)),some (.val (.int a))],S.set k (.dct (BM (.int a) (.bl b) (.int (c + 1))))⟩ _
  generalize S.set k (.dct (BM (.int a) (.bl b) (.int (c + 1))))=S1 at g1 ⊢;right;have a0:=uk7 a (b:=1000000000163) (by decide);have a1:=uf9 a (b:=1000000000163) (by decide);generalize a % 1000000000163=x at a0 a1;refine A4 g1 MQ ?_;obtain ⟨s,es⟩:∃s,s=c + 1:=⟨_,rfl⟩;rw [<-es];rw [<-es] at g1;have s0:0<=s:=by lia
  have s1:s<=1000000000000000000000000000000:=by lia
  refine Pd (by decide) (JX s0 (by lia)) ?_;right;refine Pd (JX (by lia) (by lia)) (JX (by lia) (by lia)) ?_;right;have b0:=uk7 ((x + 70001 * s) * (x + 70001 * s + 29)) (b:=1000000000193) (by decide);have b1:=uf9 ((x + 70001 * s) * (x + 70001 * s + 29)) (b:=1000000000193) (by decide);generalize (x + 70001 * s) * (x + 70001 * s + 29) % 1000000000193=y at b0 b1;refine Pd (JX (by lia) (by lia)) (JX (by lia) (by lia)) ?_;right;refine Eo ?_;right;refine Cs g1 (by show 3 < 100000;decide) ?_;rw [KU];right;refine Ul (by decide) (by decide) ?_;right;refine TM hm0 ?_;exact ⟨⟨_,rfl,uk7 _ (by lia),uf9 _ hm0⟩,_,_,_,AT g1,by lia,by lia⟩
def Ku (f:Fn):Prop:=∀(ns:List Int) (k:Nat),k<=1000->∃c:Int,Pure1 f [.scr ns,.int k] (.int c)
theorem SO:Ku (fnOf 2 2 By):=by
 intro ns k hk
 by_cases z:k < ns.length
 ·refine ⟨ns[k],λS=>Aq rfl ?_⟩;unfold By;right;refine FF (ul7 (by lia)) ?_;right;refine W_ix_scr.mpr ⟨ns[k],?_,?_⟩
  ·unfold atI;rw [Be (by lia) (by lia)];show ns[(k:Int).toNat]?=_;rw [ug4,ub4 z]
  ·right;exact ⟨rfl,rfl⟩
 ·refine ⟨0,λS=>Aq rfl ?_⟩;unfold By;right;refine FE (ul0 (by lia)) ?_;right;exact ⟨rfl,rfl⟩
theorem B0 {x:Ob}:(S++[x])[S.length]?=some x:=by simp
def Kv (f:Fn):Prop:=∀(ns:List Int) (k:Nat) (S:List Ob),k<=1000->Wf f [.scr ns,.int k] S λr S'=>∃n,r = .obj n/\Room n 900000000000000000000000000000 S'
theorem Te (hc:Ku cc):Kv (fnOf 2 3 (Ck cc)):=by
 intro ns k S hk;obtain ⟨c,hc⟩:=hc ns k hk;refine Aq rfl ?_;unfold Ck;right;refine hc.use ?_;right;refine IG ?_;refine A7 ?_;right;refine A7 ?_;right;refine A7 ?_;right;refine EO (EC (by decide) (by decide)) ?_;right;refine D2 ?_;refine ⟨B0,by show 3<=15;decide,S.length,rfl,?_⟩;exact ⟨c,3 + 5 * (k:Int),_,(AT B0).trans (congrArg (λl=>some (Ob.dct l)) MR),by lia,by lia⟩
noncomputable def cs:Nat->Nat
 | 0=>10
 | d + 1=>10 + 3 * cs d
theorem Zu (d:Nat):10<=cs d:=by cases d <;> simp [cs]
theorem HG (h:n<=m)(hm:m<=1000:=by decide):small (n:Int)=true:=Br (by lia) (by lia)
theorem Jg {l:List α}{x:α}(h:l.length + (m + 1)=n):(l++[x]).length + m=n:=by rw [uf6,<-h];simp only [uh5,uk1];lia
theorem Ir {l:List α}{x:α}{p:α->Prop}(h:∀y∈l,p y)(hx:p x):∀y∈l++[x],p y:=λy hy=>by
 rcases uj1.mp hy with h' | h'
 ·exact h y h'
 ·rw [uf8] at h';subst h';exact hx
theorem ME (h:a<=n)(hn:n<=100000:=by decide):a<=LIM:=un3 h hn
variable {ss:List Sh}
theorem bh (h:∀x∈ss,x.depth<=n):(Sh.choice ss).depth<=n + 1:=by
 rw [Sh.depth];refine ui8 ?_
 induction ss with
 | nil=>rw [DI];exact uo8 _
 | cons x r ih=>rw [DI];exact Nat.max_le.mpr ⟨h x uf2,ih λy m=>h y (ud9 _ m)⟩
structure Drawn (k r:Nat)(dp:Nat)(v:D)(S':List Ob):Prop where
 ex:∃s:Sh,v=s.d/\s.depth<=dp/\wf s=true
 pool:Room k r S'
def PShapeOk (f:Fn)(n:Nat):Prop:=∀(d k r:Nat) (S:List Ob),d < n->Room k (r + cs d) S->Wf f [.obj k,.int d] S λv S'=>Drawn k r (d + 1) v S'
theorem PShapeOk.use {f:Fn}(h:PShapeOk f n){d k r:Nat}{S:List Ob}(hd:d < n)(q:Room k (r + cs d) S){P:D->List Ob->Prop}(p:∀s S',s.depth<=d + 1->wf s=true->Room k r S'->P s.d S'):Wf f [.obj k,.int d] S P:=
 (h d k r S hd q).mono λv S' ⟨⟨s,e,h1,h2⟩,q⟩=>by subst e;exact p s S' h1 h2 q
theorem QQ {cr:Fn}(ht:PTakeOk ct)(hr:n=0\/PShapeOk cr n):PShapeOk (fnOf 2 4 (DW ct cr)) (n + 1):=by
 intro d k r S hd p0;refine Aq rfl ?_;unfold DW;have hcs:=Zu d;right;refine EO (EC (by decide) (by decide)) ?_;right;refine ht.use (r:=r + (cs d - 1)) (if d=0 then 3 else 6) (p0.mono (by lia)) (λi S1 i0 i1 p1=>?_) ?_ (by split <;> decide) (by split <;> decide)
 ·right;refine Cr (λz=>?_) λz=>?_
  ·right;exact ⟨⟨.nothing,by rw [Sh.d],by show 1<=_;lia,rfl⟩,p1.drop⟩
  right;refine Cr (λy=>?_) λy=>?_
  ·right;refine ht.use (r:=r + 8) 9 (p1.mono (by lia)) λa S2 a0 a1 p2=>?_;right;refine ht.use (r:=r + 7) 100000000000000000 p2 λb S3 b0 b1 p3=>?_;right;refine ht.use (r:=r + 6) 3 p3 λg S4 z0 z1 p4=>?_;have e16:(10:Int) ^ (16:Int).toNat=10000000000000000:=by decide
   rw [e16];obtain ⟨dd,ed,lo,rfl,l0,l1⟩:=pick (xs:=[D.int 0,D.int (a - 4),D.int (b - 10000000000000000)]) z0 (by simpa using z1) (p:=λd=>∃m:Int,d = .int m/\-100000000000000000<=m/\m<=100000000000000000) (by
    simp only [ue2];clear z0 z1 ht p4 p3 p2 p1 p0;exact ⟨⟨_,rfl,by decide,by decide⟩,⟨_,rfl,by lia,by lia⟩,⟨_,rfl,by lia,by lia⟩,λ_ z=>nomatch z⟩)
   refine AU ed ?_;right;refine ht.use (r:=r + 5) 100000000000000000 p4 λx S5 x0 x1 p5=>?_;right;refine ht.use (r:=r + 4) 7 p5 λh S6 h0 h1 p6=>?_;obtain ⟨dd,ed,hi,rfl,m0,m1⟩:=pick (xs:=[D.int 0,D.int 1,D.int 255,D.int 256,D.int 300,D.int 70000,D.int x]) h0 (by simpa using h1) (p:=λd=>∃m:Int,d = .int m/\0<=m/\m<=100000000000000000) (by
    simp only [ue2];exact ⟨⟨_,rfl,by decide,by decide⟩,⟨_,rfl,by decide,by decide⟩,⟨_,rfl,by decide,by decide⟩,⟨_,rfl,by decide,by decide⟩,⟨_,rfl,by decide,by decide⟩,⟨_,rfl,by decide,by decide⟩,⟨_,rfl,x0,Int.le_of_lt x1⟩,λ_ z=>nomatch z⟩)
   refine AU ed ?_;right;refine ⟨⟨.number lo (lo + hi),by rw [Sh.d],by show 1<=_;lia,?_⟩,p6.drop⟩;simp only [wf,uh9,uh2];clear p0 p1 p2 p3 p4 p5 p6;lia
  right;refine Cr (λx=>?_) λx=>?_
  ·right;refine ht.use (r:=r + 8) 4 (p1.mono (by lia)) λg S4 z0 z1 p4=>?_;obtain ⟨dd,ed,m,rfl,m0,m1⟩:=pick (xs:=[D.int 0,D.int 1,D.int 5,D.int 250]) z0 (by simpa using z1) (p:=λd=>∃m:Int,d = .int m/\0<=m/\m<=250) (by
    simp only [ue2];exact ⟨⟨_,rfl,by decide,by decide⟩,⟨_,rfl,by decide,by decide⟩,⟨_,rfl,by decide,by decide⟩,⟨_,rfl,by decide,by decide⟩,λ_ z=>nomatch z⟩)
   refine AU ed ?_;right;refine ⟨⟨.text m,by rw [Sh.d],by show 1<=_;lia,?_⟩,p4.drop⟩;simp only [wf,uh9,uh2];exact ⟨m0,m1⟩
  have i3:3<=i:=by
   have z':¬i=0:=by simpa using z
   have y':¬i=1:=by simpa using y
   have x':¬i=2:=by simpa using x
   lia
  obtain ⟨d,rfl⟩:∃e,d=e + 1:=⟨d - 1,by
   have:¬d=0:=λe=>by rw [if_pos e] at i1;lia
   lia⟩
  have e0:(((d + 1:Nat):Int) - 1)=(d:Int):=by lia
  rcases hr with rfl | hr
  ·exact absurd (Nat.lt_of_succ_lt_succ hd) (uk4 _)
  have hd':=Nat.lt_of_succ_lt_succ hd;have ec:cs (d + 1)=10 + 3 * cs d:=rfl;rw [ec] at p1;replace p1:Room k (r + 9 + 3 * cs d) S1:=p1.mono (by lia);clear p0 hcs ec;right;refine Cr (λw=>?_) λw=>?_
  ·right;rw [e0];refine hr.use (r:=r + 9) hd' (p1.mono (by lia)) λs S2 s1 s2 p2=>?_;right;refine ht.use (r:=r + 8) 4 p2 λg S4 z0 z1 p4=>?_;obtain ⟨dd,ed,m,rfl,m0,m1⟩:=pick (xs:=[D.int 0,D.int 2,D.int 6,D.int 250]) z0 (by simpa using z1) (p:=λd=>∃m:Int,d = .int m/\0<=m/\m<=250) (by
    simp only [ue2];exact ⟨⟨_,rfl,by decide,by decide⟩,⟨_,rfl,by decide,by decide⟩,⟨_,rfl,by decide,by decide⟩,⟨_,rfl,by decide,by decide⟩,λ_ z=>nomatch z⟩)
   refine AU ed ?_;right;refine ⟨⟨.list s m,by rw [Sh.d],by rw [Sh.depth];lia,?_⟩,p4.drop⟩;simp only [wf,uh9,uh2];exact ⟨⟨m0,m1⟩,s2⟩
  right;refine Cr (λv=>?_) λv=>?_
  ·right;rw [e0];refine hr.use (r:=r + cs d) hd' (p1.mono (by lia)) λs S2 s1 s2 p2=>?_;right;rw [e0];refine hr.use hd' p2 λs' S3 s3 s4 p3=>?_;right;exact ⟨⟨.pair s s',by rw [Sh.d],by rw [Sh.depth];lia,by simp only [wf,s2,s4,um8]⟩,p3⟩
  right;refine ht.use (r:=r + 3 * cs d) 3 (p1.mono (by lia)) λa S3 a0 a1 p3=>?_;right;obtain ⟨m,em⟩:=uc1 (Int.add_nonneg (by decide:(0:Int)<=1) a0);rw [em];have m13:1<=m/\m<=3:=by clear p1 p3;lia
  refine Dy (HG m13.2) ?_;refine (Gg (P:=λxs t'=>∃ss:List Sh,xs=ss.map Sh.d/\ss.length=m/\(∀s∈ss,s.depth<=d + 1/\wf s=true)/\Room k r t'.S) (λacc q t=>∃(ss:List Sh) (S':List Ob) (z:Option Sl),acc=ss.map Sh.d/\ss.length + q.length=m/\(∀s∈ss,s.depth<=d + 1/\wf s=true)/\Room k (r + cs d * q.length) S'/\t=⟨[z,some (.val (.obj k)),some (.val (.int ((d + 1:Nat):Int)))],S'⟩) _ [] _ ⟨[],S3,_,rfl,by simp [rngL],by simp,p3.mono (by rw [A3,ug4,un7];exact ue9 (Nat.mul_le_mul_right _ m13.2) _),rfl⟩ ?_ ?_).mono ?_
  ·rintro acc d' q t ⟨ss,S',z,rfl,h1,h2,h3,rfl⟩ _;rw [uh5] at h1 h3;refine Gc (K8 ?_);rw [if_pos rfl];right;rw [e0];refine hr.use hd' h3.loop λs S5 q1 q2 q3=>?_;exact ⟨ss++[s],S5,_,by rw [uk5];rfl,Jg h1,Ir h2 ⟨q1,q2⟩,q3,rfl⟩
  ·rintro acc t ⟨ss,S',z,rfl,h1,h2,h3,rfl⟩;exact ⟨ss,rfl,h1,h2,h3⟩
  ·rintro xs t' ⟨ss,hxs,h1,h2,h3⟩;rw [uj9] at hxs;subst hxs;refine Bx (ME (n:=3) (by rw [uj3,h1];exact m13.2)) ?_;right;refine ⟨⟨.choice ss,by rw [Sh.d,M5],bh λx hx=>(h2 x hx).1,?_⟩,h3⟩;simp only [wf,uh9,uh2];exact ⟨⟨by lia,by lia⟩,Rm λx hx=>(h2 x hx).2⟩
 ·by_cases e:d=0
  ·subst e;decide
  ·rw [if_neg e];have:decide ((d:Int) > 0)=true:=ul7 (by lia);rw [this];decide
variable {s:Sh}
theorem bj {q:Int}(h:(Sh.list s q).depth<=m + 1):s.depth<=m:=by rw [Sh.depth] at h;exact uc9 h
theorem Xd {a b:Sh}(h:(Sh.pair a b).depth<=m + 1):a.depth<=m/\b.depth<=m:=by rw [Sh.depth] at h;lia
theorem bi (h:(Sh.choice ss).depth<=m + 1):∀x∈ss,x.depth<=m:=λx hx=>by rw [Sh.depth] at h;exact un3 (Lr hx) (uc9 h)
theorem Z3 {k:Nat}(h:k < ss.length):atI (shD ss) (k:Int)=some (ss[k]).d:=by
 unfold atI;rw [Be (by lia) (by rw [D1];lia)];show (shD ss)[(k:Int).toNat]?=_;rw [ug4,Gv,ub4 h];rfl
noncomputable def sg11:Str:=" !#09AZaz~{"
theorem Wu (h0:0<=i)(h1:i < 11):∃c,atI sg11.cps.toList i=some c/\Bo c=true:=by
 have hl:sg11.cps.toList.length=11:=by decide +kernel
 have ha:sg11.cps.toList.all Bo=true:=by decide +kernel
 have hi:i.toNat < sg11.cps.toList.length:=by lia
 refine ⟨sg11.cps.toList[i.toNat],?_,ui2.mp ha _ (ui4 hi)⟩;unfold atI;rw [Be h0 (by lia)];show sg11.cps.toList[i.toNat]?=_;rw [ub4 hi]
noncomputable def vB:Nat->Nat
 | 0=>10
 | m + 1=>10 + vB m * 3
theorem Room.vA {k:Nat}(h:Room k (r + vB (m + 1)) S):Room k (r + 10) S:=h.mono (by rw [vB];lia)
theorem Room.vL {k:Nat}(h:Room k (r + vB (m + 1)) S):Room k (r + vB m * 3 + 1) S:=h.mono (by rw [vB];lia)
theorem Room.vP {k:Nat}(h:Room k (r + vB (m + 1)) S):Room k (r + vB m + vB m) S:=h.mono (by rw [vB];lia)
theorem Room.vC {k:Nat}(h:Room k (r + vB (m + 1)) S):Room k (r + vB m + 1) S:=h.mono (by rw [vB];lia)
theorem Uk (h:n<=10):n<=vB (m + 1):=by rw [vB];lia
theorem bS (h:n<=vB m * 3):n + 1<=vB (m + 1):=by rw [vB];lia
theorem bT (h:n<=vB m)(h2:p<=vB m):n + p<=vB (m + 1):=by rw [vB];lia
theorem bR (h:n<=vB m):n + 1<=vB (m + 1):=by rw [vB];lia
variable {l:Nat}
theorem UU {A v c:Nat}(h:A + b * (l + 1)<=c)(hv:v<=b):A + v + b * l<=c:=by rw [Nat.mul_succ] at h;lia
theorem X5 (h:wf (.number lo hi)=true):lo<=hi/\0 < hi - lo + 1/\hi - lo + 1 < 4611686018427387904/\wid (hi - lo).toNat<=8:=by
 simp only [wf,uh9,uh2] at h;refine ⟨by lia,by lia,by lia,HN 8 _ ?_⟩;have:(256:Nat) ^ 8=18446744073709551616:=by decide
 lia
theorem Vq {g:Int}(z0:0<=g)(z1:g < hi - lo + 1):lo<=lo + g/\lo + g<=hi:=by lia
theorem T7 {g q:Int}(c:Nat)(g0:0<=g)(q0:0<=q)(g1:g < (c:Int) + 1):∃m:Nat,(if g < q then g else q)=m/\m<=c/\(m:Int)<=q:=⟨(if g < q then g else q).toNat,by split <;> lia⟩
structure Val (k r:Nat)(s:Sh)(c:Nat)(v:D)(S':List Ob):Prop where
 fit:Aj s v=true
 len:(As s v).length<=c
 pool:Room k r S'
def PValOk (f:Fn)(m:Nat):Prop:=∀(s:Sh) (k r:Nat) (S:List Ob),s.depth<=m->wf s=true->Room k (r + vB m) S->Wf f [.obj k,s.d] S λv S'=>Val k r s (vB m) v S'
theorem VX {cv:Fn}(ht:PTakeOk ct)(hv:m=0\/PValOk cv m):PValOk (fnOf 2 5 (DX cv ct)) (m + 1):=by
 intro s k r S hd hw p0;have rec_:∀{s':Sh} {r':Nat} {S':List Ob} {P:D->List Ob->Prop},s'.depth<=m->wf s'=true->Room k (r' + vB m) S'->(∀v S'',Aj s' v=true->(As s' v).length<=vB m->Room k r' S''->P v S'')->Wf cv [.obj k,s'.d] S' P:=λ{s' r' S' P} h1 h2 q p=>by
  rcases hv with rfl | hv
  ·exact absurd (uf1 s'.depth_pos h1) (uk4 _)
  ·exact (hv s' k r' S' h1 h2 q).mono λv S'' ⟨g1,g2,g3⟩=>p v S'' g1 g2 g3
 refine Aq rfl ?_;unfold DX
 cases s with
 | nothing=>
   rw [Sh.d];right;exact ⟨by rw [Aj];rfl,by rw [As];exact uo8 _,p0.drop⟩
 | number lo hi=>
   obtain ⟨w0,w1,w2,w3⟩:=X5 hw;rw [Sh.d];right;refine ht.use (r:=r + 9) (hi - lo + 1) p0.vA (λg S1 z0 z1 p1=>?_) rfl w1 w2;right;refine ht.use (r:=r + 8) 3 p1 λi S2 i0 i1 p2=>?_;obtain ⟨d,ed,q,rfl,q0,q1⟩:=pick (xs:=[D.int lo,D.int hi,D.int (lo + g)]) i0 (by simpa using i1) (p:=λd=>∃m:Int,d = .int m/\lo<=m/\m<=hi) (by
    simp only [ue2];exact ⟨⟨_,rfl,Int.le_refl _,w0⟩,⟨_,rfl,w0,Int.le_refl _⟩,⟨_,rfl,Vq z0 z1⟩,λ_ z=>nomatch z⟩)
   refine AU ed ?_;exact ⟨by simp only [Aj,uh9,uh2];exact ⟨q0,q1⟩,by rw [As,Gm];exact Uk (un3 w3 (by decide)),p2.drop⟩
 | text q=>
   simp only [wf,uh9,uh2] at hw;rw [Sh.d];right;refine Uo ?_;right;refine ht.use (r:=r + 9) 7 p0.vA λg S1 z0 z1 p1=>?_;right;obtain ⟨n,en,n3,nq⟩:=T7 6 z0 hw.1 z1;rw [en];refine Dy (HG n3) ?_;refine (Gg (P:=λxs t'=>∃ns:List Nat,xs=ns.map (λn=>D.str ⟨#[n]⟩)/\ns.all Bo=true/\ns.length=n/\Room k r t'.S) (λacc q t=>∃(ns:List Nat) (S':List Ob) (z:Option Sl),acc=ns.map (λn=>D.str ⟨#[n]⟩)/\ns.all Bo=true/\ns.length + q.length=n/\Room k (r + 1 * q.length) S'/\t=⟨[z,some (.val (.str sg11)),some (.val (.obj k))],S'⟩) _ [] _ ⟨[],S1,_,rfl,rfl,by simp [rngL],p1.mono (by rw [A3,ug4];exact ue9 (un3 (Nat.mul_le_mul_left 1 n3) (by decide)) _),rfl⟩ ?_ ?_).mono ?_
   ·rintro acc d q t ⟨ns,S',z,rfl,h1,h2,h3,rfl⟩ _;rw [uh5] at h2 h3;refine Gc (K8 ?_);rw [if_pos rfl];right;refine ht.use 11 h3.loop λi S5 i0 i1 p5=>?_;obtain ⟨c,ec,hc⟩:=Wu i0 i1;refine W_ix_str.mpr ⟨by decide +kernel,c,ec,?_⟩;refine ⟨ns++[c],S5,_,by rw [uk5];rfl,by simp [List.all_append,h1,hc],Jg h2,p5,rfl⟩
   ·rintro acc t ⟨ns,S',z,rfl,h1,h2,h3,rfl⟩;exact ⟨ns,rfl,h1,h2,h3.drop⟩
   ·rintro xs t' ⟨ns,e,h1,h2,h3⟩;rw [uj9] at e;subst e h2;refine Bx (ME (n:=6) (by rw [uj3];exact n3)) ?_;right;refine ⟨_,_,_,rfl,rfl,FS ns,⟨by decide +kernel,by rw [uj3];clear p0 p1;lia⟩,?_⟩;refine M4 ?_;refine ⟨?_,?_,h3⟩
    ·rw [Aj];simp only [uh9,uh2];rw [Dq,Fh];exact ⟨nq,h1⟩
    ·rw [As,uh5,uj3,Fh];exact Uk (un3 (ui8 n3) (by decide))
 | list s q=>
   simp only [wf,uh9,uh2] at hw;rw [Sh.d];right;refine ht.use 4 p0.vL λg S1 z0 z1 p1=>?_;right;obtain ⟨n,en,n2,nq⟩:=T7 3 z0 hw.1.1 z1;rw [en];have nb2:vB m * n<=vB m * 3:=Nat.mul_le_mul_left _ n2;refine Dy (HG n2) ?_;refine (Gg (P:=λxs t'=>(∀x∈xs,Aj s x=true)/\xs.length=n/\((xs.map λd=>As s d).flatten).length<=vB m * 3/\Room k r t'.S) (λacc l t=>∃(S':List Ob) (z:Option Sl),(∀x∈acc,Aj s x=true)/\acc.length + l.length=n/\((acc.map λd=>As s d).flatten).length + vB m * l.length<=vB m * 3/\Room k (r + vB m * l.length) S'/\t=⟨[z,some (.val (.obj k)),some (.val (.tup [.str "list",s.d,.int q]))],S'⟩) _ [] _ ⟨S1,_,by simp,by simp [rngL],by rw [A3,ug4];exact un3 (un6 (uo5 _)) nb2,p1.mono (by rw [A3,ug4];exact ue9 nb2 _),rfl⟩ ?_ ?_).mono ?_
   ·rintro acc d l t ⟨S',z,h1,h2,h3,h4,rfl⟩ _;rw [uh5] at h2 h3 h4;refine Gc (K8 ?_);rw [if_pos rfl];right;refine rec_ (bj hd) hw.2 h4.loop λv S5 f1 f2 p5=>?_;refine ⟨S5,_,Ir h1 f1,Jg h2,?_,p5,rfl⟩;rw [uk5,List.flatten_append,uf6];simp only [um0,un8,ug5,ui5,uj5];exact UU h3 f2
   ·rintro acc t ⟨S',z,h1,h2,h3,h4,rfl⟩;exact ⟨h1,h2,h3,h4.drop⟩
   ·rintro xs t' ⟨h1,h2,h3,h4⟩;rw [uj9] at h1 h2 h3;subst h2;refine Bx (ME (n:=3) n2) ?_;refine ⟨?_,by rw [As,uh5];exact bS h3,h4⟩;rw [Aj,uh9,uh2,ui2];exact ⟨nq,h1⟩
 | pair a b=>
   simp only [wf,uh9] at hw;rw [Sh.d];right;refine rec_ (Xd hd).1 hw.1 p0.vP λv S1 f1 f2 p1=>?_;right;refine rec_ (Xd hd).2 hw.2 p1 λu S2 g1 g2 p2=>?_;right;exact ⟨by simp only [Aj,f1,g1,um8],by rw [As,uf6];exact bT f2 g2,p2⟩
 | choice ss=>
   simp only [wf,uh9,uh2] at hw;rw [Sh.d];right;rw [D1];refine ht.use (ss.length:Int) p0.vC (λi S1 i0 i1 p1=>?_) rfl (by clear p0;lia) (by clear p0;lia);obtain ⟨j,rfl⟩:=uc1 i0;have hj:j < ss.length:=Int.ofNat_lt.mp i1;have e1:ss[j]?=some ss[j]:=ub4 hj;right;refine G6 (Z3 hj) ?_;right;refine rec_ (bi hd _ (ui4 hj)) (D4 hw.2 _ (ui4 hj)) p1 λv S2 f1 f2 p2=>?_;right;have hof:FC (Str.ofString "of")=true:=by decide +kernel
   refine ⟨?_,?_,p2⟩
   ·simp only [Aj,uh9,uh2];exact ⟨⟨hof,i0,i1⟩,by rw [ug4,BX ss _ _ _ e1];exact f1⟩
   ·rw [As,ug4,Dk ss _ _ _ e1,uh5];exact bR f2
def hd1 (x:Str):Option Nat:=x.cps.toList.head?
noncomputable def abc9:Str:="abcdefghi"
noncomputable def xyz3:Str:="xyz"
theorem WX (h:j < 9):atI abc9.cps.toList (j:Int)=some (97 + j):=by
 have:j=0\/j=1\/j=2\/j=3\/j=4\/j=5\/j=6\/j=7\/j=8:=by lia
 rcases this with rfl | rfl | rfl | rfl | rfl | rfl | rfl | rfl | rfl <;> decide +kernel
theorem Zq (h0:0<=i)(h1:i < 3):∃c,atI xyz3.cps.toList i=some c:=by
 have hl:xyz3.cps.toList.length=3:=by decide +kernel
 have hi:i.toNat < xyz3.cps.toList.length:=by lia
 refine ⟨xyz3.cps.toList[i.toNat],?_⟩;unfold atI;rw [Be h0 (by lia)];show xyz3.cps.toList[i.toNat]?=_;rw [ub4 hi]
theorem X4 {k:Int}(h:k < 8):((⟨#[n]⟩:Str)++Txt.mul ⟨#[m]⟩ k).length<=90000:=by
 rw [Dq,FY,uf6,X1,ud3];show 1 + _<=_;lia
theorem ZQ {k:Int}:hd1 ((⟨#[n]⟩:Str)++Txt.mul ⟨#[m]⟩ k)=some n:=by
 unfold hd1;rw [FY];rfl
theorem ZP {ws:List (Str×Sh×Int)}(h:ws.map (λw=>hd1 w.1)=(List.range ws.length).map λi=>some (97 + i)):(ws.map (·.1)).Nodup:=by
 have h1:((ws.map (·.1)).map hd1).Nodup:=by
  rw [uo2];show (ws.map λw=>hd1 w.1).Nodup;rw [h];refine List.Pairwise.map _ (R:=λa b:Nat=>a≠b) (λa b h e=>?_) List.nodup_range;injection e with e
  lia
 exact (List.pairwise_map.mp h1).imp λh e=>h (congrArg hd1 e)
theorem U6 {ws:List (Str×Sh×Int)}{w:Str×Sh×Int}(h:ws.map (λw=>hd1 w.1)=(List.range ws.length).map λi=>some (97 + i))(hw:hd1 w.1=some (97 + ws.length)):(ws++[w]).map (λw=>hd1 w.1)=(List.range (ws++[w]).length).map λi=>some (97 + i):=by
 rw [uk5,h,uf6,ud4,List.range_succ,uk5];simp [hw]
def D3 (x:GS):Prop:=∀w∈x.ws,w.2.1.depth<=3
def HR (f:Fn):Prop:=∀(ns:List Int) (S:List Ob),Wf f [.scr ns] S λr _=>∃g:List GS,GOk g/\(∀x∈g,D3 x)/\r = .lst (g.map GS.d)
variable {a2 e7 e8 e9:Option Sl}
theorem t10 (h:X=Y):(⟨[a0,a1,a2,some (.own X),e4,e5,e6,e7,e8,e9],S⟩:T)=⟨[a0,a1,a2,some (.own Y),e4,e5,e6,e7,e8,e9],S⟩:=by subst h;rfl
theorem bF {a3:Option Sl}(h:X=Y):(⟨[a0,a1,a2,a3,e4,e5,some (.own X),e7,e8,e9],S⟩:T)=⟨[a0,a1,a2,a3,e4,e5,some (.own Y),e7,e8,e9],S⟩:=by subst h;rfl
theorem SZ {cz:Fn}(ht:PTakeOk ct)(hs:PShapeOk cz 3)(hp:Kv cp):HR (fnOf 1 10 (Ds ct cz cp)):=by
 intro ns S;have hL:LIM=100000:=rfl;refine Aq rfl ?_;unfold Ds;right;refine (hp ns 0 S (by decide)).mono λr S1 z9=>?_;obtain ⟨K,e1,p1⟩:=z9;subst e1;right;refine ht.use (r:=3) 5 (p1.mono (by decide)) λa S2 a0 a1 p2=>?_;right;refine ht.use (r:=2) 9 (p2.mono (by decide)) λb S3 b0 b1 p3=>?_;right;refine ht.use (r:=1) 3 p3 λc S4 c0 c1 p4=>?_;obtain ⟨dd,ed,many,rfl,m0,m1⟩:=pick (xs:=[D.int (1 + a),D.int (1 + b),D.int 30]) c0 (by simpa using c1) (p:=λd=>∃m:Nat,d = .int m/\1<=m/\m<=30) (by
  simp only [ue2];exact ⟨⟨(1 + a).toNat,by rw [uf0 (by lia)],by lia,by lia⟩,⟨(1 + b).toNat,by rw [uf0 (by lia)],by lia,by lia⟩,⟨30,rfl,by decide,by decide⟩,λ_ z=>nomatch z⟩)
 refine AU ed ?_;clear p1 p2 p3 p4 ed a0 a1 b0 b1 c0 c1;right;refine Dy (HG m1) ?_;refine BS (λr t=>∃(gs:List GS) (S':List Ob) (e1 e4 e5 e6 e7 e8 e9:Option Sl),gs.length<=many/\r=(rngL 0 ((many:Nat):Int).toNat).drop gs.length/\(∀x∈gs,GSOk many x/\D3 x)/\t=⟨[some (.val (.scr ns)),e1,some (.val (.int many)),some (.own (gs.map GS.d)),e4,e5,e6,e7,e8,e9],S'⟩) _ _ ⟨[],S4,_,none,none,none,none,none,none,uo8 _,rfl,(λ_ z=>nomatch z),rfl⟩ ?_ ?_
 ·rintro d r t ⟨gs,S',e1,e4,e5,e6,e7,e8,e9,hj,hr,hg,rfl⟩ _;obtain ⟨rfl,hr',hjn⟩:=C3 hr;rw [ug4] at hjn;rw [uo4];generalize hJ:gs.length=j at hj hjn;right;rw [show ((1:Int) + (j:Int) % 13)=((1 + j % 13:Nat):Int) by lia];refine (hp ns (1 + j % 13) S' (by lia)).mono λr1 S1 z9=>?_;obtain ⟨K,e,p1⟩:=z9;subst e;refine Bn ?_;obtain ⟨ra,rc,rb,hS,c0,c1⟩:=p1;right;refine A4 hS N1 ?_;right;refine Za (by lia) (by lia) ?_;right;refine EO (EC (by decide) (by decide)) ?_;right;refine Eo ?_;right;refine Cs hS (by show 3 < 100000;decide) ?_;rw [KU];have p2:Room K 900000000000000000000000000000 (S1.set K (.dct (BM (.int (ra / (1 + (j:Int) / 13) + 37 * (j:Int))) (.bl rb) (.int rc)))):=⟨_,_,_,AT hS,c0,c1⟩;refine Bn ?_
  change W _ ⟨[some (.val (.scr ns)),some (.val (.obj K)),some (.val (.int many)),some (.own (gs.map GS.d)),some (.val (.int j)),e5,e6,e7,e8,e9],S1.set K (.dct (BM (.int (ra / (1 + (j:Int) / 13) + 37 * (j:Int))) (.bl rb) (.int rc)))⟩ _
  generalize S1.set K (.dct (BM (.int (ra / (1 + (j:Int) / 13) + 37 * (j:Int))) (.bl rb) (.int rc)))=S2 at p2 ⊢;clear hS c0 c1 ra rc rb;right;refine ht.use (r:=5002) 6 (p2.mono (by decide)) λq S3 q0 q1 p3=>?_;have grow:∀(x:GS) (S':List Ob) (e1 e4 e5 e6 e7 e8 e9:Option Sl),GSOk many x/\D3 x->∃(gs':List GS) (S'':List Ob) (f1 f4 f5 f6 f7 f8 f9:Option Sl),gs'.length<=many/\r=(rngL 0 ((many:Nat):Int).toNat).drop gs'.length/\(∀x∈gs',GSOk many x/\D3 x)/\(⟨[some (.val (.scr ns)),e1,some (.val (.int many)),some (.own (gs.map GS.d++[x.d])),e4,e5,e6,e7,e8,e9],S'⟩:T)=⟨[some (.val (.scr ns)),f1,some (.val (.int many)),some (.own (gs'.map GS.d)),f4,f5,f6,f7,f8,f9],S''⟩:=by
   intro x S' e1 e4 e5 e6 e7 e8 e9 hx;refine ⟨gs++[x],S',e1,e4,e5,e6,e7,e8,e9,?_,?_,Ir hg hx,t10 (by rw [uk5];rfl)⟩
   ·rw [uf6,ud4];lia
   ·rw [uf6,ud4];exact hr'
  have fin:W (ownM 3 Cn (Aa (Av (Aa (fC (.str "end")) Ad)) Ad)) ⟨[some (.val (.scr ns)),some (.val (.obj K)),some (.val (.int many)),some (.own (gs.map GS.d)),some (.val (.int j)),e5,e6,e7,e8,e9],S3⟩ λo t=>o = .next/\∃(gs':List GS) (S'':List Ob) (f1 f4 f5 f6 f7 f8 f9:Option Sl),gs'.length<=many/\r=(rngL 0 ((many:Nat):Int).toNat).drop gs'.length/\(∀x∈gs',GSOk many x/\D3 x)/\t=⟨[some (.val (.scr ns)),f1,some (.val (.int many)),some (.own (gs'.map GS.d)),f4,f5,f6,f7,f8,f9],S''⟩:=by
   right;refine Bx (by rw [uj3,hL];lia) ?_;exact ⟨rfl,grow .fin _ _ _ _ _ _ _ _ ⟨.fin,λ_ z=>nomatch z⟩⟩
  have els:W (Ae (Ar 5 (Ac (Aw (AG (Aa (fC (.str "left")) (Aa (fC (.str "right")) Ad)))) (Ag ct (Aa (Ab 1) (Aa (fC (.int 2)) Ad))) ixD)) (Ae (Df 6 (AG Ad)) (Ae (Bj (A5 (Aa (Ac (Aw (AG (Aa (fC (.int 1)) (Aa (fC (.int 2)) (Aa (fC (.int 3)) (Aa (fC (.int 9)) Ad)))))) (Ag ct (Aa (Ab 1) (Aa (fC (.int 4)) Ad))) ixD) Ad)) (AA 7) (Ae (Ar 8 (Ac (Ac (fC (.str "abcdefghi")) (Ab 7) ixD) (Ac (Ac (fC (.str "xyz")) (Ag ct (Aa (Ab 1) (Aa (fC (.int 3)) Ad))) ixD) (Ag ct (Aa (Ab 1) (Aa (fC (.int 8)) Ad))) B4) AO)) (Ae (Ar 9 (Ac (Aw (AG (Aa (Ag ct (Aa (Ab 1) (Aa (Ab 2) Ad))) (Aa (fB (Aa (Ac (Ab 2) (fC (.int 1)) Bs) (Aa (Ac (Ab 4) (fC (.int 1)) AO) Ad)) GR) Ad)))) (Ag ct (Aa (Ab 1) (Aa (fC (.int 2)) Ad))) ixD)) (ownM 6 Cn (Aa (Av (Aa (Ab 8) (Aa (Ag cz (Aa (Ab 1) (Aa (Ag ct (Aa (Ab 1) (Aa (fC (.int 3)) Ad))) Ad))) (Aa (Ab 9) Ad)))) Ad))))) (ownM 3 Cn (Aa (Av (Aa (Ab 5) (Aa (Ab 6) Ad))) Ad))))) ⟨[some (.val (.scr ns)),some (.val (.obj K)),some (.val (.int many)),some (.own (gs.map GS.d)),some (.val (.int j)),e5,e6,e7,e8,e9],S3⟩ λo t=>o = .next/\∃(gs':List GS) (S'':List Ob) (f1 f4 f5 f6 f7 f8 f9:Option Sl),gs'.length<=many/\r=(rngL 0 ((many:Nat):Int).toNat).drop gs'.length/\(∀x∈gs',GSOk many x/\D3 x)/\t=⟨[some (.val (.scr ns)),f1,some (.val (.int many)),some (.own (gs'.map GS.d)),f4,f5,f6,f7,f8,f9],S''⟩:=by
   clear fin;right;refine ht.use (r:=5001) 2 p3 λs S4 s0 s1 p4=>?_;obtain ⟨dd,ed,side,rfl,hside⟩:=pick (xs:=[D.str (Str.ofString "left"),D.str (Str.ofString "right")]) s0 (by simpa using s1) (p:=λd=>∃x:Str,d = .str x/\(x=Str.ofString "left"\/x=Str.ofString "right")) (by
    simp only [ue2];exact ⟨⟨_,rfl,.inl rfl⟩,⟨_,rfl,.inr rfl⟩,λ_ z=>nomatch z⟩)
   refine AU ed ?_;right;refine ht.use (r:=5000) 4 p4 λg S5 z0 z1 p5=>?_;obtain ⟨dd,ed',cnt,rfl,n0,n1⟩:=pick (xs:=[D.int 1,D.int 2,D.int 3,D.int 9]) z0 (by simpa using z1) (p:=λd=>∃m:Nat,d = .int m/\1<=m/\m<=9) (by
    simp only [ue2];exact ⟨⟨1,rfl,by decide,by decide⟩,⟨2,rfl,by decide,by decide⟩,⟨3,rfl,by decide,by decide⟩,⟨9,rfl,by decide,by decide⟩,λ_ z=>nomatch z⟩)
   refine AU ed' ?_;right;clear ed ed' z0 z1 s0 s1 p2 p3 p4 q0 q1;refine Dy (HG n1) ?_;refine BS (λr t=>∃(ws:List (Str×Sh×Int)) (S':List Ob) (e7 e8 e9:Option Sl),ws.length<=cnt/\r=(rngL 0 ((cnt:Nat):Int).toNat).drop ws.length/\ws.map (λw=>hd1 w.1)=(List.range ws.length).map (λi=>some (97 + i))/\(∀w∈ws,WOk many w/\w.2.1.depth<=3)/\Room K (200 * (cnt - ws.length)) S'/\t=⟨[some (.val (.scr ns)),some (.val (.obj K)),some (.val (.int many)),some (.own (gs.map GS.d)),some (.val (.int j)),some (.val (.str side)),some (.own (ws.map wdD)),e7,e8,e9],S'⟩) _ _ ⟨[],S5,_,_,_,uo8 _,rfl,rfl,(λ_ z=>nomatch z),p5.mono (by simp;lia),rfl⟩ ?_ ?_
   ·rintro d q t ⟨ws,S',e7,e8,e9,hl,hq,hh,hw,p6,rfl⟩ _;obtain ⟨rfl,hq',hin⟩:=C3 hq;rw [ug4] at hin;rw [uo4];obtain ⟨m,em⟩:∃m,cnt - ws.length=m + 1:=⟨cnt - ws.length - 1,by lia⟩;rw [em] at p6;replace p6:Room K (200 * m + 200) S':=p6;right;refine W_ix_str.mpr ⟨by decide +kernel,97 + ws.length,WX (by lia),?_⟩;right;refine ht.use (r:=200 * m + 199) 3 p6 λx S6 x0 x1 p7=>?_;obtain ⟨c,ec⟩:=Zq x0 x1;refine W_ix_str.mpr ⟨by decide +kernel,c,ec,?_⟩;right;refine ht.use (r:=200 * m + 198) 8 p7 λy S7 y0 y1 p8=>?_;refine aB ⟨Br (by lia) (by lia),?_,by rw [hL];show y<=(100000:Int);lia,by rw [hL];show 1<=_;decide⟩ ?_
    ·show 1 * _<=_;rw [hL];lia
    right;have hnl:=X4 (n:=97 + ws.length) (m:=c) (k:=y) y1;refine Bx (by rw [Sx,hL];show 1 + _<=_;lia) ?_;right;refine ht.use (r:=200 * m + 197) (many:Int) p8 (λu S8 u0 u1 p9=>?_) rfl (by lia) (by lia);right;refine ht.use (r:=200 * m + 196) 2 p9 λv S9 v0 v1 p10=>?_;obtain ⟨dd,ed,then_,rfl,h0,h1⟩:=pick (xs:=[D.int u,D.int (if (j:Int) + 1 < (many:Int) - 1 then (j:Int) + 1 else (many:Int) - 1)]) v0 (by simpa using v1) (p:=λd=>∃m:Int,d = .int m/\0<=m/\m < many) (by
     simp only [ue2];exact ⟨⟨_,rfl,u0,u1⟩,⟨_,rfl,by split <;> lia,by split <;> lia⟩,λ_ z=>nomatch z⟩)
    refine AU ed ?_;right;refine ht.use (r:=200 * m + 195) 3 p10 λdp S10 d0 d1 p11=>?_;obtain ⟨dq,rfl⟩:=uc1 d0;have hdq:dq < 3:=Int.ofNat_lt.mp d1;have hcs:cs dq<=130:=by
     have:dq=0\/dq=1\/dq=2:=by lia
     rcases this with rfl | rfl | rfl <;> decide
    right;refine hs.use (r:=200 * m) hdq (p11.mono (by lia)) λsh S11 g1 g2 p12=>?_;right;refine Bx (by rw [uj3,hL];lia) ?_;refine ⟨ws++[(⟨#[97 + ws.length]⟩++Txt.mul ⟨#[c]⟩ y,sh,then_)],S11,_,_,_,?_,?_,U6 hh ZQ,Ir hw ⟨⟨g2,by show sh.depth<=6;lia,h0,h1,hnl⟩,by show sh.depth<=3;lia⟩,p12.mono (by rw [uf6,ud4];lia),bF (by rw [uk5];rfl)⟩
    ·rw [uf6,ud4];lia
    ·rw [uf6,ud4];exact hq'
   ·rintro t ⟨ws,S',e7,e8,e9,hl,hq,hh,hw,p6,rfl⟩;have hl':ws.length=cnt:=by
     have:=congrArg List.length hq;rw [uk1,uh8,A3,ug4] at this;lia
    right;refine Bx (by rw [uj3,hL];lia) ?_;exact ⟨rfl,grow (.st side ws) _ _ _ _ _ _ _ _ ⟨.st hside (by lia) (by lia) (ZP hh) λw h=>(hw w h).1,λw h=>(hw w h).2⟩⟩
  right;refine Cr (λz=>?_) λz=>?_
  ·right;refine Cr (λy=>?_) λy=>?_
   ·exact fin.mono λo t ⟨e,h⟩=>by subst e;exact h
   ·exact els.mono λo t ⟨e,h⟩=>by subst e;exact h
  ·exact els.mono λo t ⟨e,h⟩=>by subst e;exact h
 ·rintro t ⟨gs,S',e1,e4,e5,e6,e7,e8,e9,hj,hr,hg,rfl⟩;have hj':gs.length=many:=by
   have:=congrArg List.length hr;rw [uk1,uh8,A3,ug4] at this;lia
  right;exact ⟨gs,⟨by lia,by lia,by rw [hj'];exact λx hx=>(hg x hx).1⟩,λx hx=>(hg x hx).2,rfl⟩
def okB (g:List GS):Nat->List Mv->Prop
 | _,[]=>True
 | q,(p,v) :: r=>(As (wdAt g q p).2.1 v).length<=400/\okB g (BU g q p) r
theorem Iu (g:List GS):∀(q:Nat) (a b:List Mv),okB g q (a++b)↔okB g q a/\okB g (lastQ g q a) b
 | q,[],b=>by simp [okB,lastQ]
 | q,(p,v) :: r,b=>by rw [ui6,okB,okB,lastQ,Iu g _ r b,and_assoc]
theorem Jm {a:List Mv}(h:okB g q a)(i:Nat):okB g q (a.take i):=by
 rw [<-ud7 i a,Iu] at h;exact h.1
structure TOk (g:List GS)(mv:List Mv):Prop where
 ok:okQ g 0 mv
 bd:okB g 0 mv
 len:mv.length<=100
theorem PValOk.use {f:Fn}(h:PValOk f m){s:Sh}{k r:Nat}{S:List Ob}(hd:s.depth<=m)(hw:wf s=true)(q:Room k (r + vB m) S){P:D->List Ob->Prop}(p:∀v S',Aj s v=true->(As s v).length<=vB m->P v S'):Wf f [.obj k,s.d] S P:=
 (h s k r S hd hw q).mono λv S' ⟨h1,h2,_⟩=>p v S' h1 h2
theorem Ut {k:Nat}{h:List D->List D->Option (List D)}{g:M (List D)}(w:W f t λo t1=>o = .obj k/\∃xs0,t1.S[k]?=some (.lst xs0)/\W g t1 λds t2=>∃xs ys,t2.S[k]?=some (.lst xs)/\h xs ds=some ys/\P .non ⟨t2.env,t2.S.set k (.lst ys)⟩):W (objM h f g) t P:=by
 unfold objM;refine W_bnd.mpr (w.mono λo t1 z9=>?_);obtain ⟨e,xs0,e1,w⟩:=z9;subst e;obtain ⟨ds,t2,e2,xs,ys,e3,e4,p⟩:=w;refine ⟨_,_,?_,p⟩;simp only [e1,bnd,e2,e3,e4];rfl
def Ai (g:List GS)(sd:Str):Nat->List Mv->List D
 | _,[]=>[]
 | q,(p,v) :: r=>(if (AF g q).side=sd then .int p :: As (wdAt g q p).2.1 v else [])++Ai g sd (BU g q p) r
theorem D5 (g:List GS)(sd:Str):∀(q:Nat) (a b:List Mv),Ai g sd q (a++b)=Ai g sd q a++Ai g sd (lastQ g q a) b
 | q,[],b=>rfl
 | q,(p,v) :: r,b=>by rw [ui6,Ai,Ai,lastQ,D5 g sd _ r b,ug6]
theorem Dz (g:List GS)(sd:Str):∀(q:Nat) (a:List Mv),okB g q a->(Ai g sd q a).length<=401 * a.length
 | q,[],_=>uo8 _
 | q,(p,v) :: r,h=>by
   rw [okB] at h;have:=Dz g sd _ r h.2;rw [Ai,uf6,uh5];have h1:(if (AF g q).side=sd then D.int p :: As (wdAt g q p).2.1 v else []).length<=401:=by
    split
    ·rw [uh5];exact ui8 h.1
    ·exact uo8 _
   lia
theorem Kk (g:List GS):∀(q:Nat) (a:List Mv) (i:Nat) (p:Nat) (v:D),a[i]?=some (p,v)->(B9 g q a)[i]?=some (.tup [.int (lastQ g q (a.take i)),.int p])
 | q,[],i,p,v,h=>by simp at h
 | q,(p',v') :: r,0,p,v,h=>by
   simp at h;obtain ⟨rfl,rfl⟩:=h;rfl
 | q,(p',v') :: r,i + 1,p,v,h=>by
   rw [B9,uc0,Kk g _ r i p v (by simpa using h),ue8,lastQ]
abbrev kL:Key:=.inr (Str.ofString "left")
abbrev kRt:Key:=.inr (Str.ofString "right")
theorem kLR:¬kL=kRt:=by intro h;injection h with h;rw [Du] at h;exact absurd h (by decide)
theorem kRL:¬kRt=kL:=λh=>kLR h.symm
theorem sLR:¬Str.ofString "left" = Str.ofString "right":=λh=>kLR (congrArg Sum.inr h)
theorem Ip {a b:D}:AV [(kL,a),(kRt,b)] kL=some a:=by simp [AV,uk0]
theorem Iq {a b:D}:AV [(kL,a),(kRt,b)] kRt=some b:=by
 unfold AV;rw [uk0,show decide (kL=kRt)=false from ul0 kLR];simp [uk0]
theorem GP {a b:D}:AZ [(kL,a),(kRt,b)]=[(kL,a),(kRt,b)]:=by
 unfold AZ;simp only [uj8,List.foldl_nil];have e1:Bm [] kL a=[(kL,a)]:=by simp [Bm]
 rw [e1];unfold Bm;rw [if_neg (by simp only [um3,List.any_nil,um1,uh2];exact kLR)];rfl
theorem Vg {a b d:D}:Bm [(kL,a),(kRt,b)] kL d=[(kL,d),(kRt,b)]:=by
 unfold Bm;rw [if_pos (by simp)];simp only [um0,un8,if_true,if_neg kRL]
theorem Vh {a b d:D}:Bm [(kL,a),(kRt,b)] kRt d=[(kL,a),(kRt,d)]:=by
 unfold Bm;rw [if_pos (by simp)];simp only [um0,un8,if_true,if_neg kLR]
theorem IE (hg:GOk g){q p:Nat}{v:D}(h:MvOk g q p v):(AF g q).side=Str.ofString "left"\/(AF g q).side=Str.ofString "right":=by
 obtain ⟨side,ws,e,hpl,ew⟩:=EL h.pl;have:=DB hg h.lt;rw [e] at this ⊢
 cases this with
 | st hs _ _ _ _=>exact hs
abbrev sL:Str:=Str.ofString "left"
abbrev sR:Str:=Str.ofString "right"
structure Wr (K A B:Nat)(S:List Ob)(xs ys:List D):Prop where
 k:S[K]?=some (.dct [(kL,.obj A),(kRt,.obj B)])
 a:S[A]?=some (.lst xs)
 b:S[B]?=some (.lst ys)
 ab:A≠B
 ka:K≠A
 kb:K≠B
theorem Kh {i:Nat}{x:Ob}(h:i≠j)(e:S[j]?=some o):(S.set i x)[j]?=some o:=by rw [ue0 h];exact e
variable {B:Nat}
theorem Wr.setA {K A:Nat}{zs:List D}(h:Wr K A B S xs ys):Wr K A B (S.set A (.lst zs)) zs ys:=⟨Kh (Ne.symm h.ka) h.k,Ih h.a,Kh h.ab h.b,h.ab,h.ka,h.kb⟩
theorem Wr.setB {K A:Nat}{zs:List D}(h:Wr K A B S xs ys):Wr K A B (S.set B (.lst zs)) xs zs:=⟨Kh (Ne.symm h.kb) h.k,Kh (Ne.symm h.ab) h.a,Ih h.b,h.ab,h.ka,h.kb⟩
def FrO (F:List (Nat×Ob))(k:Nat)(S:List Ob):Prop:=∀p∈F,p.1≠k/\S[p.1]?=some p.2
def dA (F:List (Nat×Ob))(S:List Ob):Prop:=∀p∈F,S[p.1]?=some p.2
def Zr (F:List (Nat×Ob))(k r:Nat)(S:List Ob):Prop:=Room k r S/\FrO F k S
structure ValF (F:List (Nat×Ob))(k r:Nat)(s:Sh)(c:Nat)(v:D)(S':List Ob):Prop where
 fit:Aj s v=true
 len:(As s v).length<=c
 pool:Zr F k r S'
noncomputable def GS.sd:GS->Str
 | .fin=>Str.ofString "end"
 | .st s _=>s
inductive Odd (x:GS):D->Prop
 | non:Odd x .non
 | lst {ds:List D}:Odd x (.lst ds)
 | two {a b:D}:Odd x (.tup [a,b])
 | four {a b c d:D}:Odd x (.tup [a,b,c,d])
 | sideN {b c:D}:Odd x (.tup [.non,b,c])
 | side {s:Str} {b c:D}:¬s=x.sd->Odd x (.tup [.str s,b,c])
 | nmN {s:Str} {c:D}:Odd x (.tup [.str s,.non,c])
 | nmI {s:Str} {i:Int} {c:D}:Odd x (.tup [.str s,.int i,c])
 | nm {s nm:Str} {c:D}:(x.ws.findIdx? λw=>w.1 == nm)=none->Odd x (.tup [.str s,.str nm,c])
 | val {s nm:Str} {c:D} {p:Nat} {w:Str×Sh×Int}:(x.ws.findIdx? λw=>w.1 == nm)=some p->x.ws[p]?=some w->okD c=true->Aj w.2.1 c=false->Odd x (.tup [.str s,.str nm,c])
def Rq (n:Nat)(d:D):Prop:=∀m,n<=m->eqN m d d=some true
theorem Rq.mono {d:D}(h:Rq n d)(e:n<=m):Rq m d:=λk hk=>h k (un3 e hk)
theorem MZ:Rq n (.int i):=λm _=>by cases m <;> (show some (i == i)=some true;rw [uj0])
theorem QW {i:Str}:Rq n (.str i):=λm _=>by cases m <;> (show some (i == i)=some true;rw [uj0])
theorem Kg (h:∀x∈xs,Rq n x):Rq (n + 1) (.tup xs):=λm hm=>by
 obtain ⟨k,rfl⟩:∃k,m=k + 1:=Nat.exists_eq_add_of_le' (by lia);have e:Db (eqN k) xs xs=some true:=Dn λx hx=>h x hx k (by lia);rw [eqN,e];simp
theorem M0 (h:∀x∈xs,Rq n x):Rq (n + 1) (.lst xs):=λm hm=>by
 obtain ⟨k,rfl⟩:∃k,m=k + 1:=Nat.exists_eq_add_of_le' (by lia);rw [eqN,if_pos rfl];exact Dn λx hx=>h x hx k (by lia)
theorem a7 {p:D->Prop}{a:D}(h:p a):∀x∈[a],p x:=λx hx=>by rw [uf8.mp hx];exact h
theorem a9 {p:D->Prop}{a b:D}(h:p a)(h2:p b):∀x∈[a,b],p x:=λx hx=>(ul9.mp hx).elim (λe=>by rw [e];exact h) (a7 h2 x)
theorem WZ {p:D->Prop}{a b c:D}(h:p a)(h2:p b)(h3:p c):∀x∈[a,b,c],p x:=λx hx=>(ul9.mp hx).elim (λe=>by rw [e];exact h) (a9 h2 h3 x)
def mB:Nat->Nat
 | 0=>0
 | m + 1=>10 + vB m * 2 + mB m * 2
structure Mis (n:Nat)(s:Sh)(v:D):Prop where
 ok:okD v=true
 no:Aj s v=false
 rq:Rq n v
structure Fit (n:Nat)(s:Sh)(v:D):Prop where
 ok:okD v=true
 fit:Aj s v=true
 rq:Rq n v
theorem Xw (hn:s.depth<=n)(hw:wf s=true)(h:Aj s v=true):Fit n s v:=by
 obtain ⟨h1,h2,h3⟩:=Gh s.depth s (uo7 _) hw v h;exact ⟨Ug h1,h,λm hm=>h3 m (un3 hn hm)⟩
def Gr (S S':List Ob):Prop:=S.length<=S'.length/\∀i,i < S.length->S'[i]?=S[i]?
theorem Gr.trans {S S1 S2:List Ob}(a:Gr S S1)(b:Gr S1 S2):Gr S S2:=⟨un3 a.1 b.1,λi h=>(b.2 i (uf1 h a.1)).trans (a.2 i h)⟩
theorem Gr.app {ex:List Ob}:Gr S (S++ex):=⟨by rw [uf6];lia,λi h=>ub2 h⟩
theorem Gr.set {S S':List Ob}{k:Nat}{o:Ob}(a:Gr S S')(h:S.length<=k):Gr S (S'.set k o):=⟨by rw [uk8];exact a.1,λi hi=>by rw [ue0 (by lia)];exact a.2 i hi⟩
theorem Gr.get {S S':List Ob}{k:Nat}{o:Ob}(a:Gr S S')(h:S[k]?=some o):S'[k]?=some o:=by rw [a.2 k (ub1.mp h).1];exact h
abbrev lr (a b:D):List (Key×D):=[(kL,a),(kRt,b)]
abbrev dW (l r:List Nat):List (Key×D):=lr (.lst (wD l)) (.lst (wD r))
abbrev dP (a b:Nat):List (Key×D):=lr (.int a) (.int b)
noncomputable def onS {α:Type}(s:Str)(a b:α):α:=if s=sL then a else b
theorem Dr {s:Str}{a b:D}(h:s=sL\/s=sR):AV (lr a b) (.inr s)=some (onS s a b):=by
 unfold onS;rcases h with rfl | rfl
 ·rw [if_pos rfl];exact Ip
 ·rw [if_neg (Ne.symm sLR)];exact Iq
theorem Qo {s:Str}{a b d:D}(h:s=sL\/s=sR):Bm (lr a b) (.inr s) d=lr (onS s d a) (onS s b d):=by
 unfold onS;rcases h with rfl | rfl
 ·rw [if_pos rfl,if_pos rfl];exact Vg
 ·rw [if_neg (Ne.symm sLR),if_neg (Ne.symm sLR)];exact Vh
inductive Sr where
 | stop
 | brk (k:Nat) (s:Str)
 | next (m:D) (h a b:Nat)
def msgR (side:Str)(ws:List (Str×Sh×Int))(w:List Nat)(p:Nat):RR×Nat:=match w[p]? with
 | none=>(.short,0)
 | some c=>match ws[c]? with
   | none=>(.broken p,0)
   | some wd=>((pSh 6 wd.2.1).run w (p + 1),c)
def E9 (side:Str)(ws:List (Str×Sh×Int))(w:List Nat)(p:Nat):D:=match msgR side ws w p with
 | (.short,_)=>.non
 | (.broken k,_)=>.exc "Broken" [.int k,.str side]
 | (.told v e,c)=>.tup [.tup [.str side,.str (ws.getD c (Str.ofString "",.nothing,0)).1,v],.int (ws.getD c (Str.ofString "",.nothing,0)).2.2,.int e]
def BV (g:List GS)(wl wr:List Nat)(h a b:Nat):Sr:=match AF g h with
 | .fin=>.stop
 | .st side ws=>match msgR side ws (onS side wl wr) (onS side a b) with
   | (.short,_)=>.stop
   | (.broken k,_)=>.brk k side
   | (.told v e,c)=>.next (.tup [.str side,.str (ws.getD c (Str.ofString "",.nothing,0)).1,v]) (ws.getD c (Str.ofString "",.nothing,0)).2.2.toNat (onS side e a) (onS side b e)
abbrev Rs:=List D×Nat×Nat×Nat×Option (Nat×Str)
def walkR (g:List GS)(wl wr:List Nat):Nat->Nat->Nat->Nat->List D->Rs
 | 0,h,a,b,t=>(t,h,a,b,none)
 | f + 1,h,a,b,t=>match BV g wl wr h a b with
   | .stop=>(t,h,a,b,none)
   | .brk k s=>(t,h,a,b,some (k,s))
   | .next m h' a' b'=>walkR g wl wr f h' a' b' (t++[m])
structure Pl (g:List GS)(wl wr:List Nat)(h a b:Nat):Prop where
 h:h < g.length
 a:a<=wl.length
 b:b<=wr.length
variable {wl wr:List Nat}
theorem X8 {s:Str}(ha:a<=wl.length)(hb:b<=wr.length):onS s a b<=(onS s wl wr).length:=by unfold onS;split <;> assumption
variable {h:Nat}
theorem HJ (hg:GOk g)(p:Pl g wl wr h a b){m:D}{h' a' b':Nat}(e:BV g wl wr h a b = .next m h' a' b'):Pl g wl wr h' a' b'/\a + b < a' + b':=by
 have hgs:=DB hg p.h;unfold BV at e
 cases eg:AF g h with
 | fin=>rw [eg] at e;cases e
 | st side ws=>
   rw [eg] at e hgs
   cases hgs with
   | @st _ _ hs1 hs2 hs3 hs4 hs5=>
   dsimp only at e;unfold msgR at e
   cases hb:(onS side wl wr)[onS side a b]? with
   | none=>rw [hb] at e;cases e
   | some c=>
     rw [hb] at e;dsimp only at e
     cases hw:ws[c]? with
     | none=>rw [hw] at e;cases e
     | some wd=>
       rw [hw] at e;dsimp only at e;obtain ⟨hpl,_⟩:=ub1.mp hb;have hwo:=hs5 wd (ue1 hw);have hlo:=hwo.lo;have hhi:=hwo.hi;have hgd:ws.getD c (Str.ofString "",.nothing,0)=wd:=by rw [ua7,hw];rfl
       cases er:(pSh 6 wd.2.1).run (onS side wl wr) (onS side a b + 1) with
       | short=>rw [er] at e;cases e
       | broken k=>rw [er] at e;cases e
       | told v x=>
         rw [er] at e;dsimp only at e;rw [hgd] at e;injection e with e1 e2 e3 e4
         obtain ⟨l1,l2⟩:=Gy _ _ hpl er;have pa:=p.a;have pb:=p.b;subst e2;unfold onS at e3 e4 l1 l2
         by_cases q:side=sL
         ·rw [if_pos q] at e3 e4 l1 l2;exact ⟨⟨by lia,by lia,by lia⟩,by lia⟩
         ·rw [if_neg q] at e3 e4 l1 l2;exact ⟨⟨by lia,by lia,by lia⟩,by lia⟩
theorem Ze {neg:Bool}(e:t.S[n]?=some (.dct kvs))(h:P (.bl (if neg then !(AV kvs (.inr x)).isSome else (AV kvs (.inr x)).isSome)) t):W (inS neg (.str x) (.obj n)) t P:=
 ⟨_,_,by simp only [inS,e],h⟩
theorem Y9 (e:t.S[n]?=some (.dct kvs))(h:P (.obj t.S.length) ⟨t.env,t.S++[.dct kvs]⟩):W (HZ [.obj n]) t P:=
 ⟨_,_,by simp only [HZ,e],h⟩
theorem RU {a b:D}:AV (lr a b) (.inr (Str.ofString "end"))=none:=by
 have h1:decide (kL=(Sum.inr (Str.ofString "end"):Key))=false:=by decide +kernel
 have h2:decide (kRt=(Sum.inr (Str.ofString "end"):Key))=false:=by decide +kernel
 unfold AV;rw [uk0,show decide ((kL,a).1=(Sum.inr (Str.ofString "end"):Key))=false from h1];dsimp only;rw [uk0,show decide ((kRt,b).1=(Sum.inr (Str.ofString "end"):Key))=false from h2];rfl
theorem t9 {a3 a6:Option Sl}{x:D}(h1:X=Y)(h2:x=y):(⟨[a0,a1,a2,a3,some (.own X),some (.val x),a6,e7,e8],S⟩:T)=⟨[a0,a1,a2,a3,some (.own Y),some (.val y),a6,e7,e8],S⟩:=by subst h1 h2;rfl
def roD (r:D)(S':List Ob):Rs->Prop
 | (t,h,a,b,none)=>∃K,r = .tup [.lst t,.int h,.obj K]/\S'[K]?=some (.dct (dP a b))
 | (_,_,_,_,some (k,s))=>r = .exc "Broken" [.int k,.str s]
theorem UD {l:List α}{d:α}{r:List α}(e:d :: r=l.drop j):l[j]?=some d/\r=l.drop (j + 1):=by
 constructor
 ·have:=congrArg (λx=>x[0]?) e;simp only [List.getElem?_cons_zero,List.getElem?_drop,un9] at this;exact this.symm
 ·have:=congrArg List.tail e;rw [List.tail_drop] at this;exact this
abbrev Jz (xs:List D):Prop:=∀x∈xs,∃i:Int,x = .int i
theorem HF:∀{xs:List D},Jz xs->FN xs=true
 | [],_=>rfl
 | x :: r,h=>by
   obtain ⟨i,rfl⟩:=h x uf2;rw [FN,HF λy m=>h y (ud9 _ m)];rfl
theorem NF {L R:List D}(hl:Jz L)(hr:Jz R):eqN EQD (.tup [.lst L,.lst R]) (.tup [.lst L,.lst R])=some true:=by
 have key:∀{X:List D},Jz X->eqN (38 + 1) (.lst X) (.lst X)=some true:=λ{X} h=>UG λx hx=>by
  obtain ⟨i,rfl⟩:=h x hx;exact UF
 show eqN (39 + 1) _ _=_;exact UH (by simp only [ue2];exact ⟨key hl,key hr,λ_ z=>nomatch z⟩)
theorem Zd {g:Bool->Bool}{x d:D}(hx:EE t.S x=d)(hy:EE t.S y=d)(hp:BN d=true)(he:eqN EQD d d=some true)(h:P (.bl (g true)) t):W (eqT g x y) t P:=
 ⟨_,_,by unfold eqT;rw [hx,hy,hp,he];rfl,h⟩
theorem N5 {A:Nat}(ha:S[A]?=some (.lst xs))(hb:S[B]?=some (.lst ys)):EE S (.tup [.obj A,.obj B]) = .tup [.lst xs,.lst ys]:=by
 simp only [EE,um0,un8,Dg,ha,hb]
def isB (l:List D):Prop:=∀d∈l,∃x:Nat,d = .int (x:Int)/\x < 256
theorem Qe:∀{l:List D},isB l->∃w:List Nat,l=wD w/\∀x∈w,x < 256
 | [],_=>⟨[],rfl,λx z=>nomatch z⟩
 | d :: r,h=>by
   obtain ⟨x,rfl,hx⟩:=h d uf2;obtain ⟨w,rfl,hw⟩:=Qe λd m=>h d (ud9 _ m);refine ⟨x :: w,rfl,λy hy=>?_⟩;rcases ul9.mp hy with rfl | hy
   ·exact hx
   ·exact hw y hy
theorem NR {a b:List D}(ha:isB a)(hb:isB b):isB (a++b):=λd h=>(uj1.mp h).elim (ha d) (hb d)
theorem GO {x:Nat}{b:List D}(hx:x < 256)(hb:isB b):isB (.int (x:Int) :: b):=λd h=>by
 rcases ul9.mp h with rfl | h
 ·exact ⟨x,rfl,hx⟩
 ·exact hb d h
theorem Qx:∀(w n:Nat),isB (nb w n)
 | 0,n=>λd h=>nomatch h
 | w + 1,n=>NR (Qx w _) (GO (Nat.mod_lt _ (by decide)) λd h=>nomatch h)
theorem Fw:∀(n:Nat) (s:Sh),s.depth<=n->wf s=true->∀v,Aj s v=true->isB (As s v)
 | 0,s,h,_,_,_=>absurd s.depth_pos (by lia)
 | n + 1,s,hs,hw,v,hf=>by
   cases s with
   | nothing=>rw [As];exact λd h=>nomatch h
   | number lo hi=>
     cases v <;> simp [Aj] at hf
     rw [As];exact Qx _ _
   | text q=>
     simp only [wf,uh9,uh2] at hw
     cases v <;> simp only [Aj,uf7] at hf
     rename_i x;simp only [uh9,uh2,ui2] at hf;rw [As];refine GO (by lia) λd h=>?_;obtain ⟨c,hc,rfl⟩:=uo1.mp h;have:=hf.2 c hc;simp only [Bo,uh9,uh2] at this;exact ⟨c,rfl,by lia⟩
   | list s q=>
     simp only [wf,uh9,uh2] at hw;rw [Sh.depth] at hs
     cases v <;> simp only [Aj,uf7] at hf
     rename_i ds;simp only [uh9,uh2,ui2] at hf;rw [As];refine GO (by lia) λd h=>?_;obtain ⟨l,hl,hd⟩:=List.mem_flatten.mp h;obtain ⟨e,he,rfl⟩:=uo1.mp hl;exact Fw n s (by lia) hw.2 e (hf.2 e he) d hd
   | pair s r=>
     simp only [wf,uh9] at hw;rw [Sh.depth] at hs;unfold Aj at hf
     split at hf
     ·rw [uh9] at hf;rw [As];exact NR (Fw n s (by lia) hw.1 _ hf.1) (Fw n r (by lia) hw.2 _ hf.2)
     ·cases hf
   | choice ss=>
     simp only [wf,uh9,uh2] at hw;rw [Sh.depth] at hs;unfold Aj at hf
     split at hf
     ·next o k x=>
      simp only [uh9,uh2] at hf;obtain ⟨j,rfl⟩:=uc1 hf.1.2.1;have hj:j < ss.length:=by have:=hf.1.2.2;lia
      have e1:ss[j]?=some ss[j]:=ub4 hj;have h2:=hf.2;rw [ug4,BX ss _ _ _ e1] at h2;rw [As,ug4,Dk ss _ _ _ e1];exact GO (by lia) (Fw n _ (un3 (CI ss _ _ e1) (by lia)) (D4 hw.2 _ (ui4 hj)) x h2)
     ·cases hf
theorem b8 {g:M (List D)}(h:W f t λo t1=>W g t1 λas t2=>∃ds y j,o = .lst ds/\as=[y]/\(GJ y=true/\ds.all GJ=true)/\Mz (toV y) (ds.map toV)=some j/\P (.int (j:Nat)) t2):W (idxM f g) t P:=by
 obtain ⟨o,t1,e1,as,t2,e2,ds,y,j,rfl,rfl,hf,hj,p⟩:=h;refine ⟨_,_,?_,p⟩;simp only [idxM,bnd,e1,e2,if_pos hf,hj]
theorem Qa {ws:List (Str×Sh×Int)}(nd:(ws.map (·.1)).Nodup){p:Nat}{w:Str×Sh×Int}(e:ws[p]?=some w):Mz (toV (.str w.1)) ((ws.map λw=>D.str w.1).map toV)=some p:=by
 unfold Mz;rw [uo2,List.findIdx?_map];rw [<-JQ nd e]
 congr 1
theorem OE {ws:List (Str×Sh×Int)}:(ws.map λw=>D.str w.1).all GJ=true:=by
 rw [List.all_map,ui2];intro w _;rfl
theorem Oq {l:List α}{ι f:α->D}{fr:List (Option Sl)}{elt:M D}{z:Option Sl}(h:∀a∈l,W elt ⟨some (.val (ι a)) :: fr,S⟩ λx t'=>x=f a/\t'=⟨some (.val (ι a)) :: fr,S⟩) :
 W (Cb (AA 0) DL elt (l.map ι)) ⟨z :: fr,S⟩ λxs t'=>xs=l.map f/\t'.S=S:=by
 induction l generalizing z with
 | nil=>exact W_compL_nil.mpr ⟨rfl,rfl⟩
 | cons a r ih=>
   rw [um0,Fv];refine Gc (K8 ?_);rw [if_pos rfl];refine (h a uf2).mono λx t' z9=>?_;obtain ⟨e1,e2⟩:=z9;subst e1 e2;refine (ih (z:=some (.val (ι a))) λb hb=>h b (ud9 _ hb)).mono λxs t' z9=>?_;obtain ⟨e1,e2⟩:=z9;subst e1;exact ⟨rfl,e2⟩
def aS (w:List Nat):Prop:=∀x∈w,x < 256
def VBF (f:Fn):Prop:=∀(s:Sh),s.depth<=6->wf s=true->∀d,Aj s d=true->(As s d).length<=400->Pure1 f [s.d,d] (.lst (As s d))
theorem Y7 (hc:Ge c 6)(hf:Fr cf 6):VBF (fnOf 2 2 (DY c cf)):=by
 intro s hs hwf d h hlen S;have hd:okD d=true:=Ex 6 s hs hwf d h;refine Aq rfl ?_;unfold DY;left;refine (hf s hs d hd).use ?_;rw [h];left;refine FV ?_;left;exact (hc s hs hwf d h (un3 hlen (by decide))).use ⟨_,rfl,rfl,rfl,rfl⟩
theorem t9s {x:D}(h1:X=Y)(h2:x=y):(⟨[a0,a1,some (.own X),some (.val x),e4,e5,e6,e7,e8],S⟩:T)=⟨[a0,a1,some (.own Y),some (.val y),e4,e5,e6,e7,e8],S⟩:=by subst h1 h2;rfl
structure Mvs (g:List GS)(wl wr:List Nat)(mv:List Mv)(h a b:Nat)(t:List D):Prop where
 t:t=Ap g 0 mv
 ok:okQ g 0 mv
 h:lastQ g 0 mv=h
 a:Ai g sL 0 mv=wD (wl.take a)
 b:Ai g sR 0 mv=wD (wr.take b)
theorem ID {side:Str}(h:side=sL\/side=sR):(side=sL/\¬side=sR)\/(¬side=sL/\side=sR):=by
 rcases h with rfl | rfl
 ·exact .inl ⟨rfl,sLR⟩
 ·exact .inr ⟨Ne.symm sLR,rfl⟩
def Agr (c:Nat)(w w2:List Nat):Prop:=∀i,i < c->w2[i]?=w[i]?
theorem Sy {w2:List Nat}{c:Nat}(hw:Agr c w w2):∀(p:Rd) (a:Nat),p.run w a = .told v b->b<=c->p.run w2 a = .told v b:=by
 intro p
 induction p with
 | done v'=>intro a h _;exact h
 | need ok nx ih=>
   intro a h hb
   cases e:w[a]? with
   | none=>rw [B8 e] at h;cases h
   | some x=>
     rw [Bd e] at h;have hl:=(ub1.mp e).1
     by_cases q:ok x=true
     ·rw [if_pos q] at h;have hlt:a < c:=by have:=(Gy _ (a + 1) hl h).1;lia
      rw [Bd ((hw a hlt).trans e),if_pos q];exact ih x (a + 1) h hb
     ·rw [if_neg q] at h;cases h
theorem Qr {side:Str}{ws:List (Str×Sh×Int)}{w2:List Nat}{c e x:Nat}(hw:Agr c w w2)(h:msgR side ws w p=(.told v e,x))(he:e<=c):msgR side ws w2 p=(.told v e,x):=by
 unfold msgR at h ⊢
 cases hb:w[p]? with
 | none=>rw [hb] at h;cases h
 | some y=>
   rw [hb] at h;dsimp only at h;obtain ⟨hpl,_⟩:=ub1.mp hb
   cases hws:ws[y]? with
   | none=>rw [hws] at h;cases h
   | some wd=>
     rw [hws] at h;injection h with h1 h2
     have hlt:p < c:=by have:=(Gy _ _ hpl h1).1;lia
     rw [(hw p hlt).trans hb];dsimp only;rw [hws];dsimp only;rw [Sy hw _ _ h1 he,h2]
variable {vl vr:List Nat}
theorem Vt {side:Str}(h1:Agr a wl vl)(h2:Agr b wr vr):Agr (onS side a b) (onS side wl wr) (onS side vl vr):=by unfold onS;split <;> assumption
theorem Q8 {ca cb:Nat}(hl:Agr ca vl wl)(hr:Agr cb vr wr){m:D}{h' a' b':Nat}(e:BV g vl vr h a b = .next m h' a' b')(ha:a'<=ca)(hb:b'<=cb):BV g wl wr h a b = .next m h' a' b':=by
 unfold BV at e ⊢
 cases eg:AF g h with
 | fin=>rw [eg] at e;cases e
 | st side ws=>
   rw [eg] at e;dsimp only at e ⊢;generalize hm:msgR side ws (onS side vl vr) (onS side a b)=r at e;obtain ⟨r0,c⟩:=r
   cases r0 with
   | short=>cases e
   | broken k'=>cases e
   | told v x=>
     have hx:x<=onS side ca cb:=by
      injection e with e1 e2 e3 e4
      unfold onS at e3 e4 ⊢
      split at e3
      ·next q=>rw [if_pos q] at e4 ⊢;lia
      ·next q=>rw [if_neg q] at e4 ⊢;lia
     rw [Qr (Vt hl hr) hm hx];exact e
def LX (f:Fn):Prop:=∀(g:List GS) (mv:List Mv),GOk g->okQ g 0 mv->mv.length<=95000->Pure1 f [.lst (g.map GS.d),.lst (Ap g 0 mv)] (.lst (B9 g 0 mv))
theorem Wx (hn:LR cn)(hp:IS cp):LX (fnOf 2 7 (E6 cn cp)):=by
 intro g mv hg hk hl S;have hL:LIM=100000:=rfl;refine Aq rfl ?_;unfold E6;left;rw [AX];refine Dy (Br (by lia) (by lia)) ?_;refine BS (λr t=>∃(j:Nat) (e4 e5 e6:Option Sl),j<=mv.length/\r=(rngL 0 ((mv.length:Nat):Int).toNat).drop j/\t=⟨[some (.val (.lst (g.map GS.d))),some (.val (.lst (Ap g 0 mv))),some (.val (.int (lastQ g 0 (mv.take j)))),some (.own (B9 g 0 (mv.take j))),e4,e5,e6],S⟩) _ _ ⟨0,none,none,none,uo8 _,rfl,rfl⟩ ?_ ?_
 ·rintro d' r t ⟨j,e4,e5,e6,hj,hr,rfl⟩ _;obtain ⟨rfl,hr',hjm⟩:=C3 hr;rw [ug4] at hjm;rw [uo4];have hlt:=Io hg hg.ne (Jn hk j);obtain ⟨p,v,hpv⟩:∃p v,mv[j]=(p,v):=⟨_,_,rfl⟩;have em:mv[j]?=some (p,v):=by rw [ub4 hjm,hpv]
  have hmv:=Fo hk em;have hmsg:atI (Ap g 0 mv) (j:Int)=some (De g (lastQ g 0 (mv.take j)) p v):=by
   unfold atI;rw [Be (by lia) (by rw [AX];lia)];show (Ap g 0 mv)[(j:Int).toNat]?=_;rw [ug4,DZ g 0 mv j p v em]
  have htk:mv.take (j + 1)=mv.take j++[(p,v)]:=by rw [List.take_succ_eq_append_getElem hjm,hpv]
  left;refine AU (DV hlt) ?_;left;refine AU hmsg ?_;left;refine (hp g _ p v hg hmv).use ?_;left;refine Bx (by rw [Fk,uh7,hL];lia) ?_;left;refine (hn g _ p hg hlt hmv.pl).use ?_;left;refine ⟨j + 1,_,_,_,hjm,hr',t7 ?_ ?_⟩
  ·rw [htk,F3];rfl
  ·rw [htk,Kj];rfl
 ·rintro t ⟨j,e4,e5,e6,hj,hr,rfl⟩;have hz:=congrArg List.length hr;rw [uk1,uh8,A3,ug4] at hz;have hje:j=mv.length:=by lia
  subst hje;rw [ui9];left;exact ⟨rfl,rfl,rfl⟩
def Oi (f:Fn):Prop:=∀(g:List GS) (q p:Nat) (v:D),GOk g->MvOk g q p v->(As (wdAt g q p).2.1 v).length<=50000->Pure1 f [(AF g q).d,.int p,v] (.lst (.int p :: As (wdAt g q p).2.1 v))
theorem XY (hc:Ge c 6):Oi (fnOf 3 3 (Ek c)):=by
 intro g q p v hg hm hb S;have hL:LIM=100000:=rfl;refine Aq rfl ?_;unfold Ek;obtain ⟨side,ws,e,hpl,ew⟩:=EL hm.pl;have hw:=Fl hg hm.lt hm.pl;have hfit:=hm.fit;rw [e,GS.d];right;refine FV ?_;right;refine AU (FW ew) ?_;unfold wdD;right;refine (hc _ hw.dep hw.ok v hfit (by lia)).use ?_;refine ⟨_,rfl,?_⟩;right;refine Bx (by rw [hL];show 1 + _<=_;lia) ?_;exact ⟨rfl,rfl⟩
theorem F5 (g:List GS)(sd:Str)(mv:List Mv)(j:Nat):(Ai g sd 0 (mv.take j)).length<=(Ai g sd 0 mv).length:=by
 have e:Ai g sd 0 mv=Ai g sd 0 (mv.take j++mv.drop j):=by rw [ud7]
 rw [e,D5,uf6];exact ui1 _ _
def JE (f:Fn):Prop:=∀(g:List GS) (mv:List Mv) (S:List Ob),GOk g->okQ g 0 mv->mv.length<=95000->(Ai g sL 0 mv).length<=45000->(Ai g sR 0 mv).length<=45000->Wf f [.lst (g.map GS.d),.lst (Ap g 0 mv)] S λr S'=>∃K A B,r = .tup [.obj A,.obj B]/\Wr K A B S' (Ai g sL 0 mv) (Ai g sR 0 mv)/\Gr S S'/\S.length<=A/\S.length<=B
theorem WM {cm cs:Fn}(hm:Oi cm)(hs:LX cs):JE (fnOf 2 6 (E8 cm cs)):=by
 intro g mv S hg hk hlen hll hlr;have hL:LIM=100000:=rfl;refine Aq rfl ?_;unfold E8;left;refine IG ?_;refine A7 ?_;left;refine A7 ?_;left;refine D2 ?_;refine ⟨by simp,by show 2<=15;decide,?_⟩;obtain ⟨S1,hS1⟩:∃S1:List Ob,S1=(S++[Ob.dct []]++[Ob.lst []]++[Ob.lst []]).set S.length (.dct (AZ [(kL,.obj (S++[Ob.dct []]).length),(kRt,.obj (S++[Ob.dct []]++[Ob.lst []]).length)])):=⟨_,rfl⟩;have w0:Wr S.length (S++[Ob.dct []]).length (S++[Ob.dct []]++[Ob.lst []]).length S1 [] []:=by
  rw [hS1,GP];refine ⟨Ih (o:=.dct []) (by simp),?_,?_,by simp,by simp,by simp⟩
  ·rw [ue0 (by simp)];simp
  ·rw [ue0 (by simp)];simp
 have hFS:Gr S S1:=by
  rw [hS1];exact Gr.set ((Gr.app.trans Gr.app).trans Gr.app) (uo7 _)
 have hne:S.length<=(S++[Ob.dct []]).length/\S.length<=(S++[Ob.dct []]++[Ob.lst []]).length:=by
  simp only [uf6,uh5,uk1];exact ⟨by lia,by lia⟩
 refine Bn ?_;show W _ ⟨[some (.val (.lst (g.map GS.d))),some (.val (.lst (Ap g 0 mv))),some (.val (.obj S.length)),none,none,none],(S++[Ob.dct []]++[Ob.lst []]++[Ob.lst []]).set S.length (.dct (AZ [(kL,.obj (S++[Ob.dct []]).length),(kRt,.obj (S++[Ob.dct []]++[Ob.lst []]).length)]))⟩ _;rw [<-hS1];clear hS1;generalize (S++[Ob.dct []]++[Ob.lst []]).length=B at w0 hne;generalize (S++[Ob.dct []]).length=A at w0 hne;generalize hSK:S.length=K at w0 ⊢;left;refine (hs g mv hg hk (by lia)).use ?_;left;rw [Fk];refine Dy (Br (by lia) (by lia)) ?_;refine BS (λr t=>∃(j:Nat) (S':List Ob) (e4 e5:Option Sl),j<=mv.length/\r=(rngL 0 ((mv.length:Nat):Int).toNat).drop j/\Wr K A B S' (Ai g sL 0 (mv.take j)) (Ai g sR 0 (mv.take j))/\Gr S S'/\t=⟨[some (.val (.lst (g.map GS.d))),some (.val (.lst (Ap g 0 mv))),some (.val (.obj K)),some (.val (.lst (B9 g 0 mv))),e4,e5],S'⟩) _ _ ⟨0,S1,none,none,by lia,rfl,w0,hFS,rfl⟩ ?_ ?_
 ·rintro d' r t ⟨j,S',e4,e5,hjl,hr,hw,hF',rfl⟩ _;obtain ⟨rfl,hr',hjn⟩:=C3 hr;rw [ug4] at hjn;rw [uo4]
  cases em:mv[j]? with
  | none=>rw [ub0] at em;lia
  | some x=>
  obtain ⟨p,v⟩:=x;have hm':=Fo hk em;have htk:mv.take (j + 1)=mv.take j++[(p,v)]:=by
   rw [ul6,em];rfl
  have hsi:atI (B9 g 0 mv) j=some (.tup [.int (lastQ g 0 (mv.take j)),.int p]):=by
   unfold atI;rw [Be (by lia) (by rw [Fk];lia)];show (B9 g 0 mv)[(j:Int).toNat]?=_;rw [ug4,Kk g 0 mv j p v em]
  have hmi:atI (Ap g 0 mv) j=some (De g (lastQ g 0 (mv.take j)) p v):=by
   unfold atI;rw [Be (by lia) (by rw [AX];lia)];show (Ap g 0 mv)[(j:Int).toNat]?=_;rw [ug4,DZ g 0 mv j p v em]
  have hside:=IE hg hm';have lA:=F5 g sL mv j;have lB:=F5 g sR mv j;have lA':=F5 g sL mv (j + 1);have lB':=F5 g sR mv (j + 1);have nA:Ai g sL 0 (mv.take (j + 1))=Ai g sL 0 (mv.take j)++(if (AF g (lastQ g 0 (mv.take j))).side=sL then D.int p :: As (wdAt g (lastQ g 0 (mv.take j)) p).2.1 v else []):=by
   rw [htk,D5,Ai,Ai,uj5]
  have nB:Ai g sR 0 (mv.take (j + 1))=Ai g sR 0 (mv.take j)++(if (AF g (lastQ g 0 (mv.take j))).side=sR then D.int p :: As (wdAt g (lastQ g 0 (mv.take j)) p).2.1 v else []):=by
   rw [htk,D5,Ai,Ai,uj5]
  have hbd:(As (wdAt g (lastQ g 0 (mv.take j)) p).2.1 v).length<=45000:=by
   rcases hside with h | h
   ·rw [nA,if_pos h,uf6,uh5] at lA';lia
   ·rw [nB,if_pos h,uf6,uh5] at lB';lia
  generalize hq:lastQ g 0 (mv.take j)=q at *;have hix:∀(t:T) (P:D->T->Prop),P (.str (AF g q).side) t->W (ixD (AF g q).d (.int 0)) t P:=λt P h=>by
   cases e:AF g q with
   | fin=>rw [e] at h;rw [GS.d];exact G6 HW h
   | st s w=>rw [e] at h;rw [GS.d];exact G6 HW h
  left;refine AU hsi ?_;left;refine AU (DV hm'.lt) ?_;left;obtain ⟨C,xs,hCn,hC,hxl,hget,hnew⟩:∃(C:Nat) (xs:List D),S.length<=C/\S'[C]?=some (.lst xs)/\xs.length<=45000/\AV [(kL,.obj A),(kRt,.obj B)] (.inr (AF g q).side)=some (.obj C)/\Wr K A B (S'.set C (.lst (xs++D.int p :: As (wdAt g q p).2.1 v))) (Ai g sL 0 (mv.take (j + 1))) (Ai g sR 0 (mv.take (j + 1))):=by
   rcases hside with h | h
   ·refine ⟨A,_,hne.1,hw.a,by lia,by rw [h];exact Ip,?_⟩;rw [nA,nB,if_pos h,if_neg (by rw [h];exact sLR),uj5];exact hw.setA
   ·refine ⟨B,_,hne.2,hw.b,by lia,by rw [h];exact Iq,?_⟩;rw [nA,nB,if_pos h,if_neg (by rw [h];exact Ne.symm sLR),uj5];exact hw.setB
  refine Ut (k:=C) ?_;left;refine hix _ _ ?_;refine A4 hw.k hget ?_;refine ⟨rfl,_,hC,?_⟩;left;refine AU hsi ?_;left;refine AU hmi ?_;unfold De;left;refine (hm g q p v hg hm' (by lia)).use ?_;left;refine ⟨xs,_,hC,if_pos (by rw [hL,uh5];lia),?_⟩;exact ⟨j + 1,_,_,_,hjn,hr',hnew,hF'.set hCn,rfl⟩
 ·rintro t ⟨j,S',e4,e5,hjl,hr,hw,hF',rfl⟩;have hj':j=mv.length:=by
   have:=congrArg List.length hr;rw [uk1,uh8,A3,ug4] at this;lia
  subst hj';rw [ui9] at hw;left;refine A4 hw.k Ip ?_;left;refine A4 hw.k Iq ?_;left;exact ⟨rfl,K,A,B,rfl,hw,hF',by rw [<-hSK];exact hne.1,by rw [<-hSK];exact hne.2⟩
theorem ML {g:List GS}(hg:GOk g):∀(q:Nat) (mv:List Mv),okQ g q mv->mv.length<=(Ai g sL q mv).length + (Ai g sR q mv).length
 | q,[],_=>uo8 _
 | q,(p,v) :: r,h=>by
   rw [okQ] at h;have ih:=ML hg _ r h.2;rw [Ai,Ai,uf6,uf6,uh5];rcases IE hg h.1 with e | e
   ·rw [if_pos e,uh5];lia
   ·rw [if_pos (show (AF g q).side=sR from e),uh5];lia
def At (w:List Nat)(a:Nat)(xs:List D):Prop:=∃p q,wD w=p++(xs++q)/\p.length=a
theorem At.left (h:At w a (xs++ys)):At w a xs:=by
 obtain ⟨p,q,e,l⟩:=h;exact ⟨p,ys++q,by rw [e,ug6],l⟩
theorem At.right (h:At w a (xs++ys)):At w (a + xs.length) ys:=by
 obtain ⟨p,q,e,l⟩:=h;exact ⟨p++xs,q,by rw [e,ug6,ug6],by rw [uf6,l]⟩
theorem At.head {c:Nat}(h:At w a (.int (c:Int) :: xs)):w[a]?=some c/\At w (a + 1) xs:=by
 refine ⟨?_,At.right (xs:=[.int (c:Int)]) h⟩;obtain ⟨p,q,e,l⟩:=h;have e1:(wD w)[a]?=some (.int (c:Int)):=by rw [e,ua6 (by lia),l,uo6];rfl
 unfold wD at e1;rw [ug3] at e1
 cases e2:w[a]? with
 | none=>rw [e2] at e1;cases e1
 | some x=>
   rw [e2] at e1;injection e1 with e1
   injection e1 with e1
   rw [show x=c by lia]
theorem MN {lo:Int}{M:Nat}{w:List Nat}:∀(r x y a:Nat),y / 256 ^ r=x->y<=M->At w a (nb r y)->(GW lo M r x).run w a = .told (.int (lo + y)) (a + r)
 | 0,x,y,a,hx,hy,h=>by
   rw [Nat.pow_zero,Nat.div_one] at hx;subst hx;rfl
 | r + 1,x,y,a,hx,hy,h=>by
   rw [NU] at h;obtain ⟨h1,h2⟩:=h.head;have e:x * 256 + y / 256 ^ r % 256=y / 256 ^ r:=by
    rw [<-hx,uo0,<-uc8];lia
   rw [GW,Bd h1,if_pos (ul7 (by rw [e,Nat.pow_mul];exact Nat.div_le_div_right hy)),MN r _ y (a + 1) e.symm hy h2]
   congr 1
   lia
theorem M7 {w:List Nat}:∀(xs cs:List Nat) (a:Nat),(∀c∈xs,Bo c=true)->At w a (xs.map λ(n:Nat)=>D.int (n:Int))->(HA xs.length cs).run w a = .told (.str ⟨(cs++xs).toArray⟩) (a + xs.length)
 | [],cs,a,_,_=>by rw [uj5];rfl
 | x :: r,cs,a,hs,h=>by
   obtain ⟨h1,h2⟩:=At.head h;rw [uh5,HA,Bd h1,if_pos (hs x uf2),M7 r (cs++[x]) (a + 1) (λc hc=>hs c (ud9 _ hc)) h2,ug6]
   congr 1
   lia
theorem MG {w:List Nat}{s:Sh}{p:Rd}(hp:∀(v:D) (a:Nat),Aj s v=true->At w a (As s v)->p.run w a = .told v (a + (As s v).length)):∀(es ds:List D) (a:Nat),(∀e∈es,Aj s e=true)->At w a (es.map λd=>As s d).flatten->(GV p es.length ds).run w a = .told (.lst (ds++es)) (a + ((es.map λd=>As s d).flatten).length)
 | [],ds,a,_,_=>by rw [uj5];rfl
 | e :: r,ds,a,hf,h=>by
   rw [um0,ug5] at h;rw [uh5,GV,D0,hp e a (hf e uf2) h.left,RR.thn,MG hp r (ds++[e]) _ (λx hx=>hf x (ud9 _ hx)) h.right,ug6,um0,ug5,uf6]
   congr 1
   lia
theorem Rn:∀(k n:Nat),wid n<=k->n < 256 ^ k
 | 0,n,h=>by
   by_cases z:n=0
   ·subst z;decide
   ·rw [Jy (by lia)] at h;lia
 | k + 1,n,h=>by
   by_cases z:n=0
   ·subst z;exact Nat.pow_pos (by decide)
   ·rw [Jy (by lia)] at h;have:=Rn k (n / 256) (by lia);rw [Nat.div_lt_iff_lt_mul (by decide)] at this;rw [uo0];exact this
theorem Vb {o:Str}(h:FC o=true):o=Str.ofString "of":=by
 unfold FC at h;simpa using h
theorem back:∀(n:Nat) (s:Sh),s.depth<=n->wf s=true->∀(w:List Nat) (v:D) (a:Nat),Aj s v=true->At w a (As s v)->(pSh n s).run w a = .told v (a + (As s v).length)
 | 0,s,hs,_,_,_,_,_,_=>absurd s.depth_pos (by lia)
 | n + 1,s,hs,hwf,w,v,a,hf,h=>by
   cases s with
   | nothing=>
     have:v = .non:=by cases v <;> simp [Aj,Ik] at hf <;> rfl
     subst this;rfl
   | number lo hi=>
     simp only [wf,uh9,uh2] at hwf
     cases v with
     | int i=>
       simp only [Aj,uh9,uh2] at hf;rw [As] at h ⊢;rw [pSh,MN (wid (hi - lo).toNat) 0 (i - lo).toNat a ?_ (by lia) h,Gm]
       ·congr 2;lia
       ·exact Nat.div_eq_of_lt (Nat.lt_of_le_of_lt (show (i - lo).toNat<=(hi - lo).toNat by lia) (Rn _ _ (uo7 _)))
     | _=>simp [Aj] at hf
   | text q=>
     cases v with
     | str x=>
       simp only [Aj,uh9,uh2,ui2] at hf;rw [As] at h ⊢;obtain ⟨h1,h2⟩:=At.head h;rw [pSh,Bd h1,if_pos (ul7 hf.1)];have hl:x.length=x.cps.toList.length:=rfl;rw [hl,M7 x.cps.toList [] (a + 1) hf.2 h2,uj9,uh5,uj3]
       congr 1
       lia
     | _=>simp [Aj] at hf
   | list s q=>
     simp only [wf,uh9,uh2] at hwf;rw [Sh.depth] at hs
     cases v with
     | lst ds=>
       rw [Aj,uh9,uh2,ui2] at hf;rw [As] at h ⊢;obtain ⟨h1,h2⟩:=At.head h;rw [pSh,Bd h1,if_pos (ul7 hf.1),MG (λv a=>back n s (by lia) hwf.2 w v a) ds [] (a + 1) hf.2 h2,uj9,uh5]
       congr 1
       lia
     | _=>simp [Aj] at hf
   | pair s r=>
     simp only [wf,uh9] at hwf;rw [Sh.depth] at hs;unfold Aj at hf
     split at hf
     ·rw [uh9] at hf;rw [As] at h ⊢;rw [pSh,D0,back n s (by lia) hwf.1 w _ a hf.1 h.left,RR.thn,D0,back n r (by lia) hwf.2 w _ _ hf.2 h.right,RR.thn,Rd.run,uf6,um7]
     ·cases hf
   | choice ss=>
     simp only [wf,uh9,uh2] at hwf;rw [Sh.depth] at hs;unfold Aj at hf
     split at hf
     ·next o k x=>
      simp only [uh9,uh2] at hf;obtain ⟨j,rfl⟩:=uc1 hf.1.2.1;have hj:j < ss.length:=by have:=hf.1.2.2;lia
      have e1:ss[j]?=some ss[j]:=ub4 hj;have h2:=hf.2;rw [ug4,BX ss _ _ _ e1] at h2;rw [As,ug4,Dk ss _ _ _ e1] at h ⊢;obtain ⟨h3,h4⟩:=At.head h;have ho:o=Str.ofString "of":=Vb hf.1.1;subst ho;rw [pSh,Bd h3,if_pos (ul7 hj),ua7,e1,Option.getD_some,D0,back n _ (un3 (CI ss _ _ e1) (by lia)) (D4 hwf.2 _ (ui4 hj)) w x (a + 1) h2 h4,RR.thn,Rd.run,uh5]
      congr 1
      lia
     ·cases hf
theorem TC {c:Nat}:∀(p:Rd) (a:Nat),p.run w a = .told v b->a<=c->c < b->p.run (w.take c) a = .short:=by
 intro p
 induction p with
 | done v'=>intro a h h1 h2;rw [Rd.run] at h;cases h;lia
 | need ok nx ih=>
   intro a h h1 h2
   cases e:w[a]? with
   | none=>rw [B8 e] at h;cases h
   | some x=>
     rw [Bd e] at h
     by_cases q:ok x=true
     ·rw [if_pos q] at h
      by_cases hac:a < c
      ·rw [Bd (b:=x) (by rw [ug0,if_pos hac];exact e),if_pos q];exact ih x (a + 1) h hac h2
      ·exact B8 (by rw [ug0,if_neg hac])
     ·rw [if_neg q] at h;cases h
theorem Q7 (hg:GOk g){q p a b:Nat}{v:D}(hm:MvOk g q p v)(ha:At wl a (if (AF g q).side=sL then .int (p:Int) :: As (wdAt g q p).2.1 v else []))(hb:At wr b (if (AF g q).side=sR then .int (p:Int) :: As (wdAt g q p).2.1 v else [])) :
 BV g wl wr q a b = .next (De g q p v) (BU g q p) (a + (if (AF g q).side=sL then D.int (p:Int) :: As (wdAt g q p).2.1 v else []).length) (b + (if (AF g q).side=sR then D.int (p:Int) :: As (wdAt g q p).2.1 v else []).length):=by
 have hw:=Fl hg hm.lt hm.pl;have hsd:=IE hg hm;have hfit:=hm.fit;obtain ⟨side,ws,e,hpl,ew⟩:=EL hm.pl;have es:(AF g q).side=side:=by rw [e];rfl
 have hgd:ws.getD p (Str.ofString "",.nothing,0)=wdAt g q p:=by rw [ua7,ew];rfl
 rw [es] at ha hb hsd;have key:∀(w:List Nat) (c:Nat),At w c (.int (p:Int) :: As (wdAt g q p).2.1 v)->msgR side ws w c=(.told v (c + (As (wdAt g q p).2.1 v).length + 1),p):=λw c h=>by
  obtain ⟨h1,h2⟩:=At.head h;unfold msgR;rw [h1];dsimp only;rw [ew];dsimp only;rw [back 6 _ hw.dep hw.ok w v (c + 1) hfit h2]
  congr 2
  lia
 unfold BV;rw [e];dsimp only;unfold De BU;rw [es];rcases ID hsd with ⟨q1,q2⟩ | ⟨q1,q2⟩
 ·rw [if_pos q1] at ha;unfold onS;simp only [if_pos q1,key wl a ha,hgd];rw [show (GS.st side ws).side=side from rfl,if_pos q1,if_neg q2,uh5,uk1];rfl
 ·rw [if_pos q2] at hb;unfold onS;simp only [if_neg q1,key wr b hb,hgd];rw [show (GS.st side ws).side=side from rfl,if_neg q1,if_pos q2,uh5,uk1];rfl
theorem HM {g:List GS}{wl wr:List Nat}(hg:GOk g):∀(mv:List Mv) (q a b F:Nat) (t:List D),okQ g q mv->At wl a (Ai g sL q mv)->At wr b (Ai g sR q mv)->walkR g wl wr (F + mv.length) q a b t=walkR g wl wr F (lastQ g q mv) (a + (Ai g sL q mv).length) (b + (Ai g sR q mv).length) (t++Ap g q mv)
 | [],q,a,b,F,t,_,_,_=>by rw [Ap,uj5];rfl
 | (p,v) :: r,q,a,b,F,t,hk,ha,hb=>by
   rw [okQ] at hk;rw [Ai] at ha hb;rw [uh5,<-um7,walkR,Q7 hg hk.1 ha.left hb.left];dsimp only;rw [HM hg r _ _ _ F _ hk.2 ha.right hb.right,Ai,Ai,Ap,lastQ,uf6,uf6,ug6,List.singleton_append,um7,um7]
theorem Ty (e:(AF g h).isFin=true):BV g wl wr h a b = .stop:=by
 unfold BV
 cases e1:AF g h with
 | fin=>rfl
 | st s w=>rw [e1] at e;cases e
theorem Tx:BV g wl wr h wl.length wr.length = .stop:=by
 unfold BV
 cases e1:AF g h with
 | fin=>rfl
 | st s ws=>
   dsimp only;unfold msgR;rw [show (onS s wl wr)[onS s wl.length wr.length]?=none by unfold onS;split <;> exact List.getElem?_eq_none (uo7 _)]
theorem Lw {t:List D}(e:BV g wl wr h a b = .stop):∀F,walkR g wl wr F h a b t=(t,h,a,b,none)
 | 0=>rfl
 | F + 1=>by unfold walkR;rw [e]
theorem Ni (hg:GOk g){mv:List Mv}(hk:okQ g 0 mv)(ml mr:List Nat)(el:wD wl=Ai g sL 0 mv)(er:wD wr=Ai g sR 0 mv)(h:(ml=[]/\mr=[])\/(AF g (lastQ g 0 mv)).isFin=true):walkR g (wl++ml) (wr++mr) ((wl++ml).length + (wr++mr).length + 1) 0 0 0 []=(Ap g 0 mv,lastQ g 0 mv,wl.length,wr.length,none):=by
 have hlen:=ML hg 0 mv hk;rw [<-el,<-er,AE,AE] at hlen;obtain ⟨F,hF⟩:∃F,(wl++ml).length + (wr++mr).length + 1=F + mv.length:=⟨(wl++ml).length + (wr++mr).length + 1 - mv.length,by rw [uf6,uf6];lia⟩;rw [hF,HM hg mv 0 0 0 F [] hk ⟨[],wD ml,by rw [<-el,uj9,EV],rfl⟩ ⟨[],wD mr,by rw [<-er,uj9,EV],rfl⟩,<-el,<-er,AE,AE,uo5,uo5,uj9];refine Lw ?_ F;rcases h with ⟨rfl,rfl⟩ | h
 ·rw [uj5,uj5];exact Tx
 ·exact Ty h
def Gw (S S':List Ob):Prop:=S.length<=S'.length/\∀i,i < S.length->S'[i]?=S[i]?
mutual
inductive Ow (S:List Ob):D->D->List Nat->Prop
 | non:Ow S .non .non []
 | int (i:Int):Ow S (.int i) (.int i) []
 | str (x:Str):Ow S (.str x) (.str x) []
 | tup {ds vs:List D} {fp:List Nat}:Ows S ds vs fp->Ow S (.tup ds) (.tup vs) fp
 | obj {k:Nat} {ds vs:List D} {fp:List Nat}:S[k]?=some (.lst ds)->Ows S ds vs fp->k∉fp->Ow S (.obj k) (.lst vs) (k :: fp)
inductive Ows (S:List Ob):List D->List D->List Nat->Prop
 | nil:Ows S [] [] []
 | cons {d v:D} {fp fp':List Nat} {ds vs:List D}:Ow S d v fp->Ows S ds vs fp'->(∀k∈fp,k∉fp')->Ows S (d :: ds) (v :: vs) (fp++fp')
end
def prt (g:List GS)(mv:List Mv)(i:Nat):List D:=match mv[i]? with
 | some (p,v)=>.int (p:Int) :: As (wdAt g (lastQ g 0 (mv.take i)) p).2.1 v
 | none=>[]
def PsX (g:List GS)(mv:List Mv)(n:Nat)(ps:List (List Nat)):Prop:=ps.length=n/\∀(i:Nat) (w:List Nat),ps[i]?=some w->wD w=prt g mv i/\w.length<=401/\aS w
def Ks (f:Fn):Prop:=∀(g:List GS) (mv:List Mv) (S:List Ob),GOk g->TOk g mv->Wf f [.lst (g.map GS.d),.lst (Ap g 0 mv)] S λr S'=>S'=S/\∃ps,PsX g mv mv.length ps/\r = .lst (ps.map λw=>.lst (wD w))
theorem OL (hc:VBF c):Ks (fnOf 2 9 (E3 c)):=by
 intro g mv S hg hT;have hL:LIM=100000:=rfl;have hlen:=hT.len;refine Aq rfl ?_;unfold E3;left;obtain ⟨I,hI⟩:∃I:List D->T->Prop,∀r t,I r t↔∃(j:Nat) (ps:List (List Nat)) (e4 e5 e6 e7 e8:Option Sl),j<=mv.length/\r=(Ap g 0 mv).drop j/\PsX g mv j ps/\t=⟨[some (.val (.lst (g.map GS.d))),some (.val (.lst (Ap g 0 mv))),some (.own (ps.map λw=>.lst (wD w))),some (.val (.int (lastQ g 0 (mv.take j)))),e4,e5,e6,e7,e8],S⟩:=⟨_,λ_ _=>.rfl⟩;refine BS I _ _ ((hI _ _).mpr ⟨0,[],none,none,none,none,none,uo8 _,rfl,⟨rfl,λi w z=>by simp at z⟩,rfl⟩) ?_ ?_
 ·rintro d r t h0 _;obtain ⟨j,ps,e4,e5,e6,e7,e8,hjl,hr,hps,rfl⟩:=(hI _ _).mp h0;obtain ⟨hdj,hr'⟩:=UD hr;have hjn:j < mv.length:=by
   obtain ⟨h,_⟩:=ub1.mp hdj;rw [AX] at h;exact h
  cases em:mv[j]? with
  | none=>rw [ub0] at em;lia
  | some x=>
  obtain ⟨p,v⟩:=x;have hm:=Fo hT.ok em;have htk:mv.take (j + 1)=mv.take j++[(p,v)]:=by
   rw [ul6,em];rfl
  have hprt:prt g mv j = .int (p:Int) :: As (wdAt g (lastQ g 0 (mv.take j)) p).2.1 v:=by unfold prt;rw [em]
  have hbd:(As (wdAt g (lastQ g 0 (mv.take j)) p).2.1 v).length<=400:=by
   have:=Jm hT.bd (j + 1);rw [htk,Iu] at this;exact this.2.1
  rw [DZ g 0 mv j p v em] at hdj
  cases hdj
  have nQ:lastQ g 0 (mv.take (j + 1))=BU g (lastQ g 0 (mv.take j)) p:=by rw [htk,F3];rfl
  have hlt:=hm.lt;obtain ⟨side,ws,egs,hpl,ew⟩:=EL hm.pl;have hgs:=DB hg hlt;have hw:=Fl hg hlt hm.pl;have hfit:=hm.fit;have hget:=DV hlt;have hnx:D.int (wdAt g (lastQ g 0 (mv.take j)) p).2.2=D.int (lastQ g 0 (mv.take (j + 1)):Nat):=by
   have:=hw.lo;rw [nQ];unfold BU
   congr 1
   lia
  unfold De;have hpc:p < 9:=by
   rw [egs] at hgs
   cases hgs with
   | st _ _ h3 _ _=>lia
  obtain ⟨bs,hbs,hb256⟩:=Qe (Fw 6 _ hw.dep hw.ok v hfit);have hvb:=hc _ hw.dep hw.ok v hfit hbd;generalize lastQ g 0 (mv.take j)=q at *;generalize wdAt g q p=w at *;rw [egs] at hgs hget;obtain ⟨nd,h9⟩:(ws.map (·.1)).Nodup/\ws.length<=9:=by
   cases hgs with
   | st _ _ h3 h4 _=>exact ⟨h4,h3⟩
  rw [GS.d] at hget;rw [hbs] at hvb hbd;rw [AE] at hbd;left;refine AU hget ?_;left;refine b8 ?_;left;refine (Oq (f:=λw=>.str w.1) (fr:=[]) ?_).mono ?_
  ·intro w' _;unfold wdD;left;exact ⟨rfl,rfl⟩
  rintro xs tc ⟨rfl,hS⟩;refine Bx (by rw [uj3,hL];lia) ?_;rw [hS];left;refine ⟨_,_,p,rfl,rfl,⟨rfl,OE⟩,Qa nd ew,?_⟩;left;refine AU (FW ew) ?_;unfold wdD;dsimp only;left;refine FX (hvb.use ⟨rfl,?_⟩);left;refine Bx (by rw [AE,hL];show 1 + _<=_;lia) ?_;left;refine Bx (by rw [uj3,hps.1,hL];lia) ?_;left;refine AU (FW ew) ?_;unfold wdD;dsimp only;left;refine (hI _ _).mpr ?_;refine ⟨j + 1,ps++[p :: bs],_,_,_,_,_,hjn,hr',⟨by rw [uf6,hps.1];rfl,λi x hx=>?_⟩,t9s (by rw [uk5];rfl) hnx⟩
  by_cases hi:i < ps.length
  ·rw [ub2 hi] at hx;exact hps.2 i x hx
  ·have hi':i=j:=by
    have:=(ub1.mp hx).1;rw [uf6,ud4] at this;have:=hps.1;lia
   subst hi';rw [ua6 (by lia),hps.1,uo6] at hx;have hx:p :: bs=x:=uj2 hx;subst hx;exact ⟨by rw [hprt];exact congrArg _ hbs.symm,by rw [uh5];lia,λy hy=>(ul9.mp hy).elim (λe=>by rw [e];lia) (hb256 y)⟩
 ·rintro t h0;obtain ⟨j,ps,e4,e5,e6,e7,e8,hjl,hr,hps,rfl⟩:=(hI _ _).mp h0;have hj':j=mv.length:=by
   have:=congrArg List.length hr;rw [uk1,uh8,AX] at this;lia
  subst hj';left;exact ⟨rfl,ps,hps,rfl⟩
variable {mv:List Mv}
theorem EW (sd:Str)(em:mv[j]?=some (p,v)):Ai g sd 0 (mv.take (j + 1))=Ai g sd 0 (mv.take j)++(if (AF g (lastQ g 0 (mv.take j))).side=sd then prt g mv j else []):=by
 rw [show mv.take (j + 1)=mv.take j++[(p,v)] by rw [ul6,em];rfl,D5,Ai,Ai,uj5];unfold prt;rw [em]
structure Due (g:List GS)(mv:List Mv)(rl rr k:Nat):Prop where
 le:k<=mv.length
 a:(Ai g sL 0 (mv.take k)).length<=rl
 b:(Ai g sR 0 (mv.take k)).length<=rr
 z:k=mv.length\/(k < mv.length/\onS (AF g (lastQ g 0 (mv.take k))).side rl rr < onS (AF g (lastQ g 0 (mv.take k))).side (Ai g sL 0 (mv.take k)).length (Ai g sR 0 (mv.take k)).length + (prt g mv k).length)
theorem WG (w:List Nat)(r:Nat):wD (w.take r)=(wD w).take r:=by unfold wD;rw [um4]
theorem Pq {m:List Nat}{R:List D}(e:wD w=xs++R)(h:xs.length<=r):At (w.take r++m) 0 xs:=by
 refine ⟨[],R.take (r - xs.length)++wD m,?_,rfl⟩;rw [uj9,EV,WG,e,List.take_append,uc7 h,ug6]
theorem Ep (sd:Str)(k:Nat):Ai g sd 0 mv=Ai g sd 0 (mv.take k)++Ai g sd (lastQ g 0 (mv.take k)) (mv.drop k):=by
 have e:Ai g sd 0 mv=Ai g sd 0 (mv.take k++mv.drop k):=by rw [ud7]
 rw [e,D5]
theorem Qs {k:Nat}{sd:Str}(em:mv[k]?=some (p,v))(es:(AF g (lastQ g 0 (mv.take k))).side=sd)(e:wD w=Ai g sd 0 mv):At w (Ai g sd 0 (mv.take k)).length (prt g mv k):=by
 have hk:=(ub1.mp em).1;have ed:mv.drop k=(p,v) :: mv.drop (k + 1):=by
  rw [ub3 hk];rw [ub4 hk] at em;rw [uj2 em]
 refine ⟨Ai g sd 0 (mv.take k),Ai g sd (BU g (lastQ g 0 (mv.take k)) p) (mv.drop (k + 1)),?_,rfl⟩;rw [e,Ep sd k,ed,Ai,if_pos es];unfold prt;rw [em]
theorem RQ {k:Nat}{side:Str}{ws:List (Str×Sh×Int)}(hg:GOk g)(hok:okQ g 0 mv)(em:mv[k]?=some (p,v))(eg:AF g (lastQ g 0 (mv.take k)) = .st side ws)(e:wD w=Ai g side 0 mv)(h:r < (Ai g side 0 (mv.take k)).length + (prt g mv k).length):(msgR side ws (w.take r) (Ai g side 0 (mv.take k)).length).1 = .short:=by
 have hm:=Fo hok em;have hw:=Fl hg hm.lt hm.pl;have hfit:=hm.fit;have hA:=Qs em (by rw [eg];rfl) e;have hp:prt g mv k = .int (p:Int) :: As (wdAt g (lastQ g 0 (mv.take k)) p).2.1 v:=by unfold prt;rw [em]
 rw [hp] at hA h;rw [uh5] at h;obtain ⟨h1,h2⟩:=At.head hA;have hrun:=back 6 _ hw.dep hw.ok w v _ hfit h2;generalize (Ai g side 0 (mv.take k)).length=a at *;obtain ⟨side',ws',eg',hpl,ew⟩:=EL hm.pl;rw [eg] at eg'
 cases eg'
 unfold msgR
 by_cases hr:a < r
 ·rw [show (w.take r)[a]?=some p by rw [ug0,if_pos hr];exact h1];dsimp only;rw [ew];dsimp only;exact TC _ _ hrun hr (by lia)
 ·rw [show (w.take r)[a]?=none by rw [ug0,if_neg hr]]
variable {rl rr:Nat}
theorem TR {ml mr:List Nat}{k:Nat}(hg:GOk g)(hok:okQ g 0 mv)(el:wD wl=Ai g sL 0 mv)(er:wD wr=Ai g sR 0 mv)(hrl:rl<=wl.length)(hrr:rr<=wr.length)(hD:Due g mv rl rr k)(hml:ml=[]\/(AF g (lastQ g 0 (mv.take k))).side≠sL)(hmr:mr=[]\/(AF g (lastQ g 0 (mv.take k))).side≠sR) :
 walkR g (wl.take rl++ml) (wr.take rr++mr) ((wl.take rl++ml).length + (wr.take rr++mr).length + 1) 0 0 0 []=(Ap g 0 (mv.take k),lastQ g 0 (mv.take k),(Ai g sL 0 (mv.take k)).length,(Ai g sR 0 (mv.take k)).length,none):=by
 have hokk:=Jn hok k;have hlen:=ML hg 0 (mv.take k) hokk;have ha:=hD.a;have hb:=hD.b;have l1:(wl.take rl).length=rl:=by rw [uh7];lia
 have l2:(wr.take rr).length=rr:=by rw [uh7];lia
 obtain ⟨F,hF⟩:∃F,(wl.take rl++ml).length + (wr.take rr++mr).length + 1=F + (mv.take k).length:=⟨(wl.take rl++ml).length + (wr.take rr++mr).length + 1 - (mv.take k).length,by rw [uf6,uf6];lia⟩;rw [hF,HM hg (mv.take k) 0 0 0 F [] hokk (Pq (el.trans (Ep sL k)) ha) (Pq (er.trans (Ep sR k)) hb),uo5,uo5,uj9];refine Lw ?_ F;unfold BV
 cases eg:AF g (lastQ g 0 (mv.take k)) with
 | fin=>rfl
 | st side ws=>
   rw [eg] at hml hmr;have hz:=hD.z;rw [eg] at hz;have hs:side=sL\/side=sR:=by
    have hgs:=DB hg (Io hg hg.ne hokk);rw [eg] at hgs
    cases hgs with
    | st h1 _ _ _ _=>exact h1
   dsimp only;have key:(msgR side ws (onS side (wl.take rl++ml) (wr.take rr++mr)) (onS side (Ai g sL 0 (mv.take k)).length (Ai g sR 0 (mv.take k)).length)).1 = .short:=by
    have one:∀(w:List Nat) (r:Nat),wD w=Ai g side 0 mv->r<=w.length->(Ai g side 0 (mv.take k)).length<=r->(k=mv.length\/(k < mv.length/\r < (Ai g side 0 (mv.take k)).length + (prt g mv k).length))->(msgR side ws (w.take r) (Ai g side 0 (mv.take k)).length).1 = .short:=λw r e h1 h2 h3=>by
     rcases h3 with h3 | ⟨h3,h4⟩
     ·subst h3;rw [ui9] at h2 ⊢;rw [<-e,AE] at h2 ⊢;unfold msgR;rw [show (w.take r)[w.length]?=none by rw [ug0];split <;> first | exact List.getElem?_eq_none (uo7 _) | rfl]
     ·obtain ⟨p,v,hpv⟩:∃p v,mv[k]?=some (p,v):=⟨mv[k].1,mv[k].2,ub4 h3⟩;exact RQ hg hok hpv eg e h4
    have hsd:(GS.st side ws).side=side:=rfl;rw [hsd] at hml hmr hz;unfold onS at hz ⊢;rcases ID hs with ⟨q1,q2⟩ | ⟨q1,q2⟩
    ·rw [if_pos q1,if_pos q1] at hz ⊢;have hml:ml=[]:=by rcases hml with h | h;exact h;exact absurd q1 h
     rw [hml,uj5];subst q1;exact one wl rl el hrl ha hz
    ·rw [if_neg q1,if_neg q1] at hz ⊢;have hmr:mr=[]:=by rcases hmr with h | h;exact h;exact absurd q2 h
     rw [hmr,uj5];subst q2;exact one wr rr er hrr hb hz
   generalize msgR side ws (onS side (wl.take rl++ml) (wr.take rr++mr)) (onS side (Ai g sL 0 (mv.take k)).length (Ai g sR 0 (mv.take k)).length)=mr' at key;obtain ⟨r0,c0⟩:=mr';have key:r0 = .short:=key;subst key;rfl
def Wir (S:List Ob)(d:D)(w:List Nat):Prop:=d = .lst (wD w)\/∃k,d = .obj k/\S[k]?=some (.lst (wD w))
def PureS (S:List Ob)(f:Fn)(ds:List D)(r:D):Prop:=Wf f ds S λr' S'=>r'=r/\S'=S
theorem PureS.use {f:Fn}{r:D}(h:PureS S f ds r){P:D->List Ob->Prop}(p:P r S):Wf f ds S P:=h.mono λ_ _ ⟨e1,e2⟩=>by subst e1 e2;exact p
theorem Kn {d:D}(h:Wir t.S d w)(p:P (.int (w.length:Nat)) t):W (AM [d]) t P:=by
 rcases h with rfl | ⟨k,rfl,e⟩
 ·refine Pc ?_;rw [AE];exact p
 ·refine ax e ?_;rw [AE];exact p
theorem TL {d:D}(h:Wir t.S d w)(e:w[a]?=some b)(p:P (.int (b:Int)) t):W (ixD d (.int (a:Int))) t P:=by
 rcases h with rfl | ⟨k,rfl,e'⟩
 ·exact AU (HX (Rj e)) p
 ·exact W_ix_obj.mpr ⟨_,e',_,HX (Rj e),p⟩
def BXw (f:Fn):Prop:=∀(S:List Ob) (wv:D) (w:List Nat) (a:Nat),Wir S wv w->PureS S f [wv,.int (a:Int)] (byX w[a]?)
theorem W6:BXw (fnOf 2 2 FG):=by
 intro S wv w a hv;refine Aq rfl ?_;unfold FG;have hl:=AE w
 cases h:w[a]? with
 | none=>
   have:=ub0.mp h;symm;refine Kn hv ?_;symm;refine FF (ul7 (by lia)) ?_;symm;exact ⟨rfl,rfl⟩
 | some b=>
   obtain ⟨hj,_⟩:=ub1.mp h;symm;refine Kn hv ?_;symm;refine FE (ul0 (by lia)) ?_;symm;refine TL hv h ?_;exact ⟨rfl,rfl,rfl⟩
def UXw (f:Fn):Prop:=∀(S:List Ob) (wv:D) (m:Int) (w:List Nat) (a:Nat),Wir S wv w->PureS S f [.int m,wv,.int (a:Int)] (upX m a w[a]?)
theorem Y6 (hc:BXw c):UXw (fnOf 3 4 (Eg c)):=by
 intro S wv m w a hv;refine Aq rfl ?_;unfold Eg;have hb:=hc S wv w a hv
 cases h:w[a]? with
 | none=>
   rw [h,byX] at hb;symm;refine hb.use ?_;symm;exact ⟨rfl,rfl⟩
 | some b=>
   rw [h,byX] at hb;symm;refine hb.use ?_;symm;rw [upX]
   by_cases q:(b:Int)<=m
   ·rw [if_pos q];refine FE (ul0 (by lia)) ?_;symm;exact ⟨rfl,rfl,rfl⟩
   ·rw [if_neg q];refine FF (ul7 (by lia)) ?_;symm;exact ⟨rfl,rfl⟩
def SXw (f:Fn):Prop:=∀(S:List Ob) (wv:D) (w:List Nat) (a:Nat),Wir S wv w->PureS S f [wv,.int (a:Int)] (sgX a w[a]?)
variable {cb:Fn}
theorem YW {cs:Fn}(hs:JC cs)(hb:BXw cb):SXw (fnOf 2 3 (FI cs cb)):=by
 intro S wv w a hv;refine Aq rfl ?_;unfold FI;have hb:=hb S wv w a hv
 cases h:w[a]? with
 | none=>
   rw [h,byX] at hb;symm;refine hb.use ?_;symm;exact ⟨rfl,rfl⟩
 | some c=>
   rw [h,byX] at hb;symm;refine hb.use ?_;symm;refine (hs c).use ?_;rw [sgX]
   by_cases q:Bo c=true
   ·rw [if_pos q,q];symm;refine W_ix_str.mpr ⟨by decide +kernel,c,YS q,?_⟩;exact ⟨rfl,rfl,rfl⟩
   ·have q':Bo c=false:=by simpa using q
    rw [if_neg q,q'];symm;exact ⟨rfl,rfl⟩
theorem YM (hl:G9 cl)(hb:BXw cb)(hw:JD cw){lo hi:Int}(hwf:wf (.number lo hi)=true)(w:List Nat)(a:Nat){S:List Ob}{wv:D}(hv:Wir S wv w):PureS S (fnOf 3 7 (CU cl cb cw)) [(Sh.number lo hi).d,wv,.int (a:Int)] (rrD ((GW lo (hi - lo).toNat (wid (hi - lo).toNat) 0).run w a)):=by
 have hsp:=Od hwf;have hwd:=HN 9 _ hsp;refine Aq rfl ?_;unfold CU;rw [Sh.d];have em:hi - lo=(((hi - lo).toNat:Nat):Int):=by
  simp only [wf,uh9,uh2] at hwf;lia
 have hww:=λS P p=>(hw (hi - lo).toNat hsp).use (S:=S) (P:=P) p;rw [<-em] at hww;generalize (hi - lo).toNat=M at *;generalize hW:wid M=n at *;symm;refine hww _ _ ?_;rw [em];symm;refine Dy (Br (by lia) (by lia)) ?_;refine BS (λr t=>∃(j x:Nat) (e6:Option Sl),j<=n/\r=(rngL 0 ((n:Nat):Int).toNat).drop j/\(GW lo M n 0).run w a=(GW lo M (n - j) x).run w (a + j)/\t=⟨[some (.val (.tup [.str "number",.int lo,.int hi])),some (.val wv),some (.val (.int a)),some (.val (.int M)),some (.val (.int n)),some (.val (.int x)),e6],S⟩) _ _ ⟨0,0,none,uo8 _,rfl,rfl,rfl⟩ ?_ ?_
 ·rintro d r t ⟨j,x,e6,hj,hr,hrun,rfl⟩ _;obtain ⟨rfl,hr',hjn⟩:=KW hr;rw [ug4] at hjn;rw [uo4];obtain ⟨e,he⟩:∃e,n - j=e + 1:=⟨n - j - 1,by lia⟩;rw [he,GW] at hrun;have hby:=hb S wv w (a + j) hv;symm;refine EO (KQ (by decide) (by decide)) ?_;symm;rw [show ((a:Int) + (j:Int))=((a + j:Nat):Int) by lia]
  cases h:w[a + j]? with
  | none=>
    rw [h,byX] at hby;rw [B8 h] at hrun;refine hby.use ?_;symm;exact ⟨by rw [hrun];rfl,rfl⟩
  | some b=>
    rw [h,byX] at hby;rw [Bd h] at hrun;refine hby.use ?_;symm;refine ⟨rfl,?_⟩;symm;rw [show ((n:Int) - 1 - (j:Int))=((e:Nat):Int) by lia,show ((x:Int) * 256 + (b:Int))=((x * 256 + b:Nat):Int) by lia];refine (hl M e (by lia)).use ?_;symm
    by_cases q:x * 256 + b<=M / 2 ^ (8 * e)
    ·rw [if_pos (ul7 q)] at hrun;refine FE (ul0 (by lia)) ?_;symm;exact ⟨j + 1,x * 256 + b,_,hjn,hr',by rw [show n - (j + 1)=e by lia,hrun,um7],rfl⟩
    ·rw [if_neg (by rw [uh2];exact q)] at hrun;refine FF (ul7 (by lia)) ?_;symm;exact ⟨by rw [hrun];rfl,rfl⟩
 ·rintro t ⟨j,x,e6,hj,hr,hrun,rfl⟩;have hj':j=n:=by
   have:=congrArg List.length hr;rw [uk1,uh8,Kf,ug4] at this;lia
  subst hj';rw [uo6,GW,Rd.run] at hrun;symm;exact ⟨rfl,by rw [hrun];rfl,rfl⟩
variable {cu:Fn}
theorem V3 {ca:Fn}(ha:SXw ca)(hu:UXw cu){q:Int}(hwf:wf (.text q)=true)(n:Nat)(w:List Nat)(a:Nat){S:List Ob}{wv:D}(hv:Wir S wv w):PureS S (fnOf 3 7 (DG ca cu)) [(Sh.text q).d,wv,.int (a:Int)] (rrD ((pSh (n + 1) (.text q)).run w a)):=by
 have hL:LIM=100000:=rfl;refine Aq rfl ?_;unfold DG;rw [Sh.d,pSh];simp only [wf,uh9,uh2] at hwf;have hup:=hu S wv q w a hv;symm
 cases h:w[a]? with
 | none=>
   rw [h,upX] at hup;rw [B8 h];refine hup.use ?_;symm;exact ⟨rfl,rfl⟩
 | some b=>
   rw [h,upX] at hup;rw [Bd h]
   by_cases hb:(b:Int)<=q
   ·rw [if_pos hb] at hup;rw [if_pos (ul7 hb)];refine hup.use ?_;symm;refine Dy (Br (by lia) (by lia)) ?_;refine BS (λr t=>∃(j:Nat) (y:Str) (e6:Option Sl),j<=b/\r=(rngL 0 ((b:Nat):Int).toNat).drop j/\y.cps.toList.length=j/\(HA b []).run w (a + 1)=(HA (b - j) y.cps.toList).run w (a + 1 + j)/\t=⟨[some (.val (.tup [.str "text",.int q])),some (.val wv),some (.val (.int a)),some (.val (.int b)),some (.val (.int ((a:Int) + 1))),some (.val (.str y)),e6],S⟩) _ _ ⟨0,Str.ofString "",none,uo8 _,rfl,by decide +kernel,by rw [Nat.sub_zero,un9,show (Str.ofString "").cps.toList=[] by decide +kernel],rfl⟩ ?_ ?_
    ·rintro d r t ⟨j,y,e6,hj,hr,hyl,hrun,rfl⟩ _;obtain ⟨rfl,hr',hjn⟩:=KW hr;rw [ug4] at hjn;rw [uo4];obtain ⟨e,he⟩:∃e,b - j=e + 1:=⟨b - j - 1,by lia⟩;rw [he,HA] at hrun;have hsg:=ha S wv w (a + 1 + j) hv;symm;rw [show ((a:Int) + 1 + (j:Int))=((a + 1 + j:Nat):Int) by lia]
     cases h2:w[a + 1 + j]? with
     | none=>
       rw [h2,sgX] at hsg;rw [B8 h2] at hrun;refine hsg.use ?_;symm;exact ⟨by rw [hrun];rfl,rfl⟩
     | some c=>
       rw [h2,sgX] at hsg;rw [Bd h2] at hrun
       by_cases hc:Bo c=true
       ·rw [if_pos hc] at hsg hrun;refine hsg.use ?_;symm;refine Bx (by rw [Dq y,hyl,hL];show j + 1<=_;lia) ?_;refine ⟨rfl,?_⟩;symm;refine ⟨j + 1,_,_,hjn,hr',?_,?_,rfl⟩
        ·rw [FY,uf6,hyl];rfl
        ·rw [hrun,FY,show b - (j + 1)=e by lia,um7 (a + 1)]
       ·rw [if_neg hc] at hsg hrun;refine hsg.use ?_;symm;exact ⟨by rw [hrun];rfl,rfl⟩
    ·rintro t ⟨j,y,e6,hj,hr,hyl,hrun,rfl⟩;have hj':j=b:=by
      have:=congrArg List.length hr;rw [uk1,uh8,Kf,ug4] at this;lia
     subst hj';rw [uo6,HA,Rd.run] at hrun;have ey:(⟨y.cps.toList.toArray⟩:Str)=y:=Wy (by simp);rw [ey] at hrun;symm;refine ⟨rfl,?_,rfl⟩;rw [hrun,rrD,show ((a:Int) + 1 + (j:Int))=((a + 1 + j:Nat):Int) by lia]
   ·rw [if_neg hb] at hup;rw [if_neg (by rw [uh2];exact hb)];refine hup.use ?_;symm;exact ⟨rfl,rfl⟩
def RXw (c:Fn)(s:Sh)(p:Rd):Prop:=∀(S:List Ob) (wv:D) (w:List Nat) (a:Nat),Wir S wv w->a<=w.length->PureS S c [s.d,wv,.int (a:Int)] (rrD (p.run w a))
theorem V1 {p:Rd}{q:Int}(hu:UXw cu)(hq2:q<=250)(hc:RXw c s p)(w:List Nat)(a:Nat){S:List Ob}{wv:D}(hv:Wir S wv w):PureS S (fnOf 3 8 (DE c cu)) [(Sh.list s q).d,wv,.int (a:Int)] (rrD ((Rd.need (λb=>decide ((b:Int)<=q)) λb=>GV p b []).run w a)):=by
 have hL:LIM=100000:=rfl;refine Aq rfl ?_;unfold DE;rw [Sh.d];have hup:=hu S wv q w a hv;symm
 cases h:w[a]? with
 | none=>
   rw [h,upX] at hup;rw [B8 h];refine hup.use ?_;symm;exact ⟨rfl,rfl⟩
 | some b=>
   have hal:=(ub1.mp h).1;rw [h,upX] at hup;rw [Bd h]
   by_cases hb:(b:Int)<=q
   ·rw [if_pos hb] at hup;rw [if_pos (ul7 hb)];refine hup.use ?_;symm;refine Dy (Br (by lia) (by lia)) ?_;refine BS (λr t=>∃(j a':Nat) (ds:List D) (e6 e7:Option Sl),j<=b/\r=(rngL 0 ((b:Nat):Int).toNat).drop j/\ds.length=j/\a'<=w.length/\(GV p b []).run w (a + 1)=(GV p (b - j) ds).run w a'/\t=⟨[some (.val (.tup [.str "list",s.d,.int q])),some (.val wv),some (.val (.int a)),some (.val (.int b)),some (.val (.int (a':Int))),some (.own ds),e6,e7],S⟩) _ _ ⟨0,a + 1,[],none,none,uo8 _,rfl,rfl,hal,rfl,rfl⟩ ?_ ?_
    ·rintro d r t ⟨j,a',ds,e6,e7,hj,hr,hdl,ha',hrun,rfl⟩ _;obtain ⟨rfl,hr',hjn⟩:=KW hr;rw [ug4] at hjn;obtain ⟨e,he⟩:∃e,b - j=e + 1:=⟨b - j - 1,by lia⟩;rw [he,GV,D0] at hrun;have hcc:=hc S wv w a' hv ha'
     cases h2:p.run w a' with
     | short=>
       rw [h2] at hrun hcc;symm;refine hcc.use ?_;rw [rrD];symm;exact ⟨by rw [hrun];rfl,rfl⟩
     | broken k=>
       rw [h2] at hrun hcc;symm;refine hcc.use ?_;rw [rrD];symm;exact ⟨by rw [hrun];rfl,rfl⟩
     | told v a2=>
       have hle:=Gy p a' ha' h2;rw [h2] at hrun hcc;symm;refine hcc.use ?_;rw [rrD];symm;refine Bx (by rw [hdl,hL];lia) ?_;symm;exact ⟨j + 1,a2,ds++[v],_,_,hjn,hr',by rw [uf6,hdl];rfl,hle.2,by rw [hrun,show b - (j + 1)=e by lia];rfl,rfl⟩
    ·rintro t ⟨j,a',ds,e6,e7,hj,hr,hdl,ha',hrun,rfl⟩;have hj':j=b:=by
      have:=congrArg List.length hr;rw [uk1,uh8,Kf,ug4] at this;lia
     subst hj';rw [uo6,GV,Rd.run] at hrun;symm;exact ⟨rfl,by rw [hrun];rfl,rfl⟩
   ·rw [if_neg hb] at hup;rw [if_neg (by rw [uh2];exact hb)];refine hup.use ?_;symm;exact ⟨rfl,rfl⟩
theorem V2 {r:Sh}{p p':Rd}(hs:RXw c s p)(hr:RXw c r p')(w:List Nat)(a:Nat){S:List Ob}{wv:D}(hv:Wir S wv w)(ha:a<=w.length):PureS S (fnOf 3 5 (DF c)) [(Sh.pair s r).d,wv,.int (a:Int)] (rrD ((p.bnd λv=>p'.bnd λu=>.done (.tup [v,u])).run w a)):=by
 refine Aq rfl ?_;unfold DF;rw [Sh.d,D0];have h1:=hs S wv w a hv ha
 cases e1:p.run w a with
 | short=>
   rw [e1] at h1;symm;refine h1.use ?_;rw [rrD];symm;exact ⟨rfl,rfl⟩
 | broken k=>
   rw [e1] at h1;symm;refine h1.use ?_;rw [rrD];symm;exact ⟨rfl,rfl⟩
 | told v a'=>
   have hle:=Gy p a ha e1;rw [e1] at h1;have h2:=hr S wv w a' hv hle.2;rw [RR.thn,D0];symm;refine h1.use ?_;rw [rrD];symm;refine h2.use ?_
   cases e2:p'.run w a' with
   | short=>rw [rrD];symm;exact ⟨rfl,rfl⟩
   | broken k=>rw [rrD];symm;exact ⟨rfl,rfl⟩
   | told u a2=>rw [rrD];symm;exact ⟨rfl,rfl,rfl⟩
theorem QT {p:Nat->Rd}(hu:UXw cu)(hc:∀(k:Nat) (h:k < ss.length),RXw c ss[k] (p k))(w:List Nat)(a:Nat){S:List Ob}{wv:D}(hv:Wir S wv w):PureS S (fnOf 3 5 (CT c cu)) [(Sh.choice ss).d,wv,.int (a:Int)] (rrD ((Rd.need (λb=>decide (b < ss.length)) λb=>(p b).bnd λv=>.done (.tup [.str "of",.int b,v])).run w a)):=by
 refine Aq rfl ?_;unfold CT;rw [Sh.d];have hup:=hu S wv ((ss.length:Int) - 1) w a hv;symm;rw [D1];refine hup.use ?_
 cases h:w[a]? with
 | none=>
   rw [B8 h,upX];symm;exact ⟨rfl,rfl⟩
 | some b=>
   have hal:=(ub1.mp h).1;rw [Bd h,upX]
   by_cases hb:b < ss.length
   ·rw [if_pos (show (b:Int)<=(ss.length:Int) - 1 by lia),if_pos (ul7 hb),D0];have e0:ss[b]?=some ss[b]:=ub4 hb;have hsd:atI (shD ss) (b:Int)=some ss[b].d:=HX (by rw [Gv,e0];rfl);have h2:=hc b hb S wv w (a + 1) hv hal;symm;refine G6 hsd ?_;symm;rw [show ((a:Int) + 1)=((a + 1:Nat):Int) by lia];refine h2.use ?_
    cases e2:(p b).run w (a + 1) with
    | short=>rw [rrD];symm;exact ⟨rfl,rfl⟩
    | broken k=>rw [rrD];symm;exact ⟨rfl,rfl⟩
    | told u a2=>rw [rrD];symm;exact ⟨rfl,rfl,rfl⟩
   ·rw [if_neg (show ¬(b:Int)<=(ss.length:Int) - 1 by lia),if_neg (by rw [uh2];exact hb)];symm;exact ⟨rfl,rfl⟩
def Ha (f:Fn)(n:Nat):Prop:=∀s:Sh,s.depth<=n->wf s=true->RXw f s (pSh n s)
theorem QU (hn:∀lo hi,wf (.number lo hi)=true->RXw cn (.number lo hi) (pSh (n + 1) (.number lo hi)))(ht:∀q,wf (.text q)=true->RXw ct (.text q) (pSh (n + 1) (.text q)))
 (hl:∀s q,q<=250->s.depth<=n->wf s=true->RXw cl (.list s q) (pSh (n + 1) (.list s q))) (hp:∀s r,s.depth<=n->r.depth<=n->wf s=true->wf r=true->RXw cp (.pair s r) (pSh (n + 1) (.pair s r)))
 (hc:∀ss:List Sh,(∀(k:Nat) (h:k < ss.length),ss[k].depth<=n/\wf ss[k]=true)->RXw cc (.choice ss) (pSh (n + 1) (.choice ss))):Ha (fnOf 3 4 (Di cc cp cl ct cn)) (n + 1):=by
 intro s hs hwf S wv w a hv ha;refine Aq rfl ?_;unfold Di
 cases s with
 | nothing=>
   rw [Sh.d,pSh,Rd.run,rrD];symm;exact ⟨rfl,rfl,rfl⟩
 | number lo hi=>
   have h:=hn lo hi hwf S wv w a hv ha;rw [Sh.d] at h ⊢;symm;exact h.use ⟨rfl,rfl⟩
 | text q=>
   have h:=ht q hwf S wv w a hv ha;rw [Sh.d] at h ⊢;symm;exact h.use ⟨rfl,rfl⟩
 | list s q=>
   simp only [wf,uh9,uh2] at hwf;rw [Sh.depth] at hs;have h:=hl s q hwf.1.2 (by lia) hwf.2 S wv w a hv ha;rw [Sh.d] at h ⊢;symm;exact h.use ⟨rfl,rfl⟩
 | pair s r=>
   simp only [wf,uh9] at hwf;rw [Sh.depth] at hs;have h:=hp s r (by lia) (by lia) hwf.1 hwf.2 S wv w a hv ha;rw [Sh.d] at h ⊢;symm;exact h.use ⟨rfl,rfl⟩
 | choice ss=>
   simp only [wf,uh9,uh2] at hwf;rw [Sh.depth] at hs;have h:=hc ss (λk hk=>⟨un3 (CI ss _ _ (ub4 hk)) (by lia),D4 hwf.2 _ (ui4 hk)⟩) S wv w a hv ha;rw [Sh.d] at h ⊢;symm;exact h.use ⟨rfl,rfl⟩
theorem O2 {ca cl':Fn}(e1:cc=fnOf 3 5 (CT c cu))(e2:cp=fnOf 3 5 (DF c))(e3:cl=fnOf 3 8 (DE c cu))(e4:ct=fnOf 3 7 (DG ca cu))(e5:cn=fnOf 3 7 (CU cl' cb cw))
 (hu:UXw cu) (ha:SXw ca) (hl':G9 cl') (hb:BXw cb) (hw:JD cw) (hc:Ha c n):Ha (fnOf 3 4 (Di cc cp cl ct cn)) (n + 1):=by
 subst e1 e2 e3 e4 e5;refine QU (λlo hi h S wv w a hv _=>?_) (λq h S wv w a hv _=>V3 ha hu h n w a hv) (λs q h2 hd h S wv w a hv _=>?_) (λs r d1 d2 w1 w2 S wv w a hv ha=>?_) λss h S wv w a hv _=>?_
 ·rw [pSh];exact YM hl' hb hw h w a hv
 ·rw [pSh];exact V1 hu h2 (hc s hd h) w a hv
 ·rw [pSh];exact V2 (hc s d1 w1) (hc r d2 w2) w a hv ha
 ·rw [pSh];refine QT hu (p:=λb=>pSh n (ss.getD b .nothing)) (λk hk=>?_) w a hv;show RXw c ss[k] (pSh n (ss.getD k .nothing));rw [ua7,ub4 hk,Option.getD_some];exact hc _ (h k hk).1 (h k hk).2
variable {S':List Ob}
theorem Wir.gr {d:D}(h:Wir S d w)(g:Gr S S'):Wir S' d w:=h.imp id λ⟨k,e1,e2⟩=>⟨k,e1,g.get e2⟩
def Rv (f:Fn):Prop:=∀(S:List Ob) (wv:D) (n:Int) (side:Str) (ws:List (Str×Sh×Int)) (w:List Nat) (p:Nat),Wir S wv w->GSOk n (.st side ws)->p<=w.length->w.length<=50000->PureS S f [(GS.st side ws).d,wv,.int p] (E9 side ws w p)
theorem Vi (hc:Ha c 6):Rv (fnOf 3 6 (EB c)):=by
 intro S wv n side ws w p hv hgs hp hwl
 cases hgs with
 | @st _ _ hs1 hs2 hs3 hs4 hs5=>
 refine Aq rfl ?_;unfold EB;rw [GS.d]
 cases hb:w[p]? with
 | none=>
   have hpl:¬p < w.length:=by rw [ub0] at hb;lia
   rw [show E9 side ws w p = .non by unfold E9 msgR;rw [hb]];symm;refine Kn hv ?_;symm;refine FF (by simp;lia) ?_;symm;refine ⟨rfl,?_⟩;symm;exact ⟨rfl,rfl⟩
 | some cc=>
   obtain ⟨hpl,_⟩:=ub1.mp hb;symm;refine Kn hv ?_;symm;refine FE (by simp;lia) ?_;symm;refine TL hv hb ?_;symm;rw [uj3]
   cases hw:ws[cc]? with
   | none=>
     have hcl:¬cc < ws.length:=by rw [ub0] at hw;lia
     rw [show E9 side ws w p = .exc "Broken" [.int p,.str side] by unfold E9 msgR;simp only [hb,hw]];refine FF (by simp;lia) ?_;symm;exact ⟨rfl,rfl⟩
   | some wd=>
     obtain ⟨hcl,_⟩:=ub1.mp hw;have hwo:=hs5 wd (ue1 hw);have hgd:ws.getD cc (Str.ofString "",.nothing,0)=wd:=by rw [ua7,hw];rfl
     have hrd:=hc wd.2.1 hwo.dep hwo.ok S wv w (p + 1) hv hpl;refine FE (by simp;lia) ?_;symm;refine TL hv hb ?_;symm;refine AU (FW hw) ?_;unfold wdD;dsimp only;symm
     cases e:(pSh 6 wd.2.1).run w (p + 1) with
     | told v b=>
       rw [show E9 side ws w p = .tup [.tup [.str side,.str wd.1,v],.int wd.2.2,.int b] by unfold E9 msgR;simp only [hb,hw,e,hgd]];rw [e,rrD] at hrd;refine hrd.use ?_;symm;exact ⟨rfl,rfl,rfl⟩
     | short=>
       rw [show E9 side ws w p = .non by unfold E9 msgR;simp only [hb,hw,e]];rw [e,rrD] at hrd;refine hrd.use ?_;symm;refine ⟨rfl,?_⟩;symm;exact ⟨rfl,rfl⟩
     | broken k=>
       rw [show E9 side ws w p = .exc "Broken" [.int k,.str side] by unfold E9 msgR;simp only [hb,hw,e]];rw [e,rrD] at hrd;refine hrd.use ?_;symm;exact ⟨rfl,rfl⟩
def HU (f:Fn):Prop:=∀(g:List GS) (wl wr:List Nat) (dl dr:D) (h a b W P:Nat) (S:List Ob),GOk g->Pl g wl wr h a b->wl.length<=45000->wr.length<=45000->Wir S dl wl->Wir S dr wr->S[W]?=some (.dct (lr dl dr))->S[P]?=some (.dct (dP a b))->
 Wf f [.lst (g.map GS.d),.int h,.obj W,.obj P] S λr S'=>Gr S S'/\roD r S' (walkR g wl wr (wl.length + wr.length + 1) h a b [])
theorem Nq (hc:Rv c):HU (fnOf 4 9 (Hv c)):=by
 intro g wl wr dl dr h a b W P S hg p hl1 hl2 hvl hvr hW hP;have hL:LIM=100000:=rfl;refine Aq rfl ?_;unfold Hv;symm;refine Y9 hP ?_;symm;generalize hR:walkR g wl wr (wl.length + wr.length + 1) h a b []=R;obtain ⟨K,hK⟩:∃K,K=S.length:=⟨_,rfl⟩;rw [<-hK];refine IT (λn t=>∃(h' a' b':Nat) (tk:List D) (S':List Ob) (e7 e8:Option Sl),Pl g wl wr h' a' b'/\wl.length + wr.length + 1<=n + (a' + b')/\tk.length + n<=wl.length + wr.length + 1/\walkR g wl wr n h' a' b' tk=R/\Gr S S'/\S'[K]?=some (.dct (dP a' b'))/\t=⟨[some (.val (.lst (g.map GS.d))),some (.val (.int h)),some (.val (.obj W)),some (.val (.obj P)),some (.own tk),some (.val (.int h')),some (.val (.obj K)),e7,e8],S'⟩) ?_ Op (wl.length + wr.length + 1) _ ?_ ?_
 ·rintro n t ⟨h',a',b',tk,S',e7,e8,p',hn,ht,hR',hG,hK',rfl⟩;have pa:=p'.a;have pb:=p'.b;obtain ⟨m,rfl⟩:∃m,n=m + 1:=Nat.exists_eq_add_of_le' (by lia);have hgs:=DB hg p'.h;have hix:=DV p'.h;have hW':=hG.get hW;unfold walkR BV at hR'
  cases eg:AF g h' with
  | fin=>
    rw [eg] at hix hR';rw [GS.d] at hix;symm;refine AU hix ?_;symm;refine Ze hW' ?_;rw [RU];symm;show Fa _ _ Out.next _;symm;subst hR';exact ⟨rfl,hG,K,rfl,hK'⟩
  | st side ws=>
    rw [eg] at hix hR' hgs;have hs:side=sL\/side=sR:=by cases hgs with | st hs1 _ _ _ _=>exact hs1
    have hix2:=hix;rw [GS.d] at hix2;symm;refine AU hix2 ?_;symm;refine Ze hW' ?_;rw [Dr hs];symm;refine ⟨m,rfl,?_⟩;symm;refine AU hix2 ?_;symm;refine AU hix ?_;symm;refine A4 hW' (Dr hs) ?_;symm;refine A4 hK' (Dr hs) ?_;symm;have hon:(onS side (D.int (a':Int)) (D.int (b':Int))) = .int ((onS side a' b':Nat):Int):=by unfold onS;split <;> rfl
    have hon2:Wir S' (onS side dl dr) (onS side wl wr):=by unfold onS;split;exact hvl.gr hG;exact hvr.gr hG
    rw [hon];have hle:=X8 (s:=side) pa pb;have hms:=hc S' (onS side dl dr) g.length side ws (onS side wl wr) (onS side a' b') hon2 hgs hle (by unfold onS;split <;> lia)
    unfold E9 at hms;dsimp only at hR';generalize hmr:msgR side ws (onS side wl wr) (onS side a' b')=mr at hms hR';obtain ⟨r0,c0⟩:=mr
    cases r0 with
    | short=>
      dsimp only at hms hR';refine hms.use ?_;symm;refine W_ret.mpr ?_;show Fa _ _ Out.next _;symm;subst hR';exact ⟨rfl,hG,K,rfl,hK'⟩
    | broken k=>
      dsimp only at hms hR';refine hms.use ?_;symm;subst hR';exact ⟨hG,rfl⟩
    | told v e=>
      dsimp only at hms hR';have hst:BV g wl wr h' a' b' = .next (.tup [.str side,.str (ws.getD c0 (Str.ofString "",.nothing,0)).1,v]) (ws.getD c0 (Str.ofString "",.nothing,0)).2.2.toNat (onS side e a') (onS side b' e):=by
       unfold BV;rw [eg];dsimp only;rw [hmr]
      obtain ⟨p2,hlt⟩:=HJ hg p' hst;refine hms.use ?_;symm;refine Bx (by rw [hL];lia) ?_;symm;refine Eo ?_;symm;refine Cs hK' (by show 2 < 100000;decide) ?_;rw [Qo hs];have hwl:(0:Int)<=(ws.getD c0 (Str.ofString "",.nothing,0)).2.2:=by
       cases hgs with
       | st _ h2 _ _ h5=>
         cases hq:ws[c0]? with
         | none=>rw [ua7,hq];exact Int.le_refl _
         | some wd=>rw [ua7,hq];exact (h5 wd (ue1 hq)).lo
      have hd:lr (onS side (D.int (e:Int)) (D.int (a':Int))) (onS side (D.int (b':Int)) (D.int (e:Int)))=dP (onS side e a') (onS side b' e):=by unfold onS;split <;> rfl
      refine ⟨_,_,_,tk++[_],_,_,_,p2,by lia,by rw [uf6,ud4];lia,hR',hG.set (by lia),(AT hK').trans (congrArg (λl=>some (Ob.dct l)) hd),t9 rfl (congrArg D.int (uf0 hwl).symm)⟩
 ·show _ < 1000000;lia
 ·exact ⟨h,a,b,[],_,none,none,p,by lia,by simp,hR,Gr.app,by rw [hK];exact B0,rfl⟩
def HV (f:Fn):Prop:=∀(g:List GS) (wl wr:List Nat) (S:List Ob),GOk g->wl.length<=45000->wr.length<=45000->Wf f [.lst (g.map GS.d),.lst (wD wl),.lst (wD wr)] S λr S'=>Gr S S'/\match walkR g wl wr (wl.length + wr.length + 1) 0 0 0 [] with
 | (t,h,a,b,none)=>r = .tup [.lst t,.int h,.tup [.int a,.int b]]
 | (_,_,_,_,some (k,s))=>r = .exc "Broken" [.int k,.str s]
theorem Nt (hc:HU c):HV (fnOf 3 4 (Hw c)):=by
 intro g wl wr S hg hl1 hl2;refine Aq rfl ?_;unfold Hw;symm;refine IG ?_;refine A7 ?_;symm;refine A7 ?_;symm;refine D2 ?_;refine ⟨by simp,by show 2<=15;decide,?_⟩;have hA:Gr S ((S++[Ob.dct []]).set S.length (.dct (AZ (dW wl wr)))):=Gr.app.set (uo7 _);have hB:((S++[Ob.dct []]).set S.length (.dct (AZ (dW wl wr))))[S.length]?=some (.dct (dW wl wr)):=by rw [GP];exact AT B0
 show W _ ⟨_,(S++[Ob.dct []]).set S.length (.dct (AZ (dW wl wr)))⟩ _;generalize (S++[Ob.dct []]).set S.length (.dct (AZ (dW wl wr)))=S1 at hA hB ⊢;symm;refine IG ?_;refine A7 ?_;symm;refine A7 ?_;symm;refine D2 ?_;refine ⟨by simp,by show 2<=15;decide,?_⟩;have hC:Gr S1 ((S1++[Ob.dct []]).set S1.length (.dct (AZ (dP 0 0)))):=Gr.app.set (uo7 _);have hD:((S1++[Ob.dct []]).set S1.length (.dct (AZ (dP 0 0))))[S1.length]?=some (.dct (dP 0 0)):=by rw [GP];exact AT B0
 show W _ ⟨_,(S1++[Ob.dct []]).set S1.length (.dct (AZ (dP 0 0)))⟩ _;generalize (S1++[Ob.dct []]).set S1.length (.dct (AZ (dP 0 0)))=S2 at hC hD ⊢;symm;refine (hc g wl wr _ _ 0 0 0 S.length S1.length S2 hg ⟨hg.ne,uo8 _,uo8 _⟩ hl1 hl2 (.inl rfl) (.inl rfl) (hC.get hB) hD).mono λr S3 z9=>?_;obtain ⟨hG,hr⟩:=z9;have hS:=hA.trans (hC.trans hG);generalize walkR g wl wr (wl.length + wr.length + 1) 0 0 0 []=R at hr ⊢;obtain ⟨t,h,a,b,o⟩:=R
 cases o with
 | none=>
   obtain ⟨K,rfl,hK⟩:=hr;symm;refine A4 hK Ip ?_;symm;refine A4 hK Iq ?_;symm;exact ⟨rfl,hS,rfl⟩
 | some z=>
   obtain ⟨k,s⟩:=z;have hr:r = .exc "Broken" [.int k,.str s]:=hr;subst hr;symm;exact ⟨hS,rfl⟩
theorem G7 (g:List GS)(wl wr:List Nat):∀(F h a b:Nat) (t:List D),walkR g wl wr F h a b t=(t++(walkR g wl wr F h a b []).1,(walkR g wl wr F h a b []).2)
 | 0,h,a,b,t=>by show (t,h,a,b,none)=(t++[],h,a,b,none);rw [uj5]
 | F + 1,h,a,b,t=>by
   unfold walkR
   cases BV g wl wr h a b with
   | stop=>show (t,_)=(t++[],_);rw [uj5]
   | brk k s=>show (t,_)=(t++[],_);rw [uj5]
   | next m h' a' b'=>
     dsimp only;rw [G7 g wl wr F h' a' b' (t++[m]),G7 g wl wr F h' a' b' ([]++[m])];rw [uj9,ug6]
theorem Ko {g:List GS}{wl wr:List Nat}(hg:GOk g):∀(F F' h a b:Nat) (t:List D),Pl g wl wr h a b->wl.length + wr.length + 1<=F + (a + b)->wl.length + wr.length + 1<=F' + (a + b)->walkR g wl wr F h a b t=walkR g wl wr F' h a b t
 | 0,F',h,a,b,t,p,hf,_=>by have:=p.a;have:=p.b;lia
 | F + 1,0,h,a,b,t,p,_,hf=>by have:=p.a;have:=p.b;lia
 | F + 1,F' + 1,h,a,b,t,p,h1,h2=>by
   unfold walkR
   cases e:BV g wl wr h a b with
   | stop=>rfl
   | brk k s=>rfl
   | next m h' a' b'=>
     obtain ⟨p',hlt⟩:=HJ hg p e;exact Ko hg F F' h' a' b' (t++[m]) p' (by lia) (by lia)
abbrev Fu (wl wr:List Nat):Nat:=wl.length + wr.length + 1
theorem L3 {v x:List Nat}:Agr v.length v (v++x):=λi hi=>ub2 hi
theorem Pl.more (p:Pl g vl vr h a b)(xl xr:List Nat):Pl g (vl++xl) (vr++xr) h a b:=
 ⟨p.h,un3 p.a (by rw [uf6];lia),un3 p.b (by rw [uf6];lia)⟩
theorem Jx {g:List GS}{vl vr:List Nat}(hg:GOk g)(xl xr:List Nat):∀(F h a b:Nat) (t t':List D) (h' a' b':Nat),Pl g vl vr h a b->walkR g vl vr F h a b t=(t',h',a',b',none)->
 Pl g vl vr h' a' b'/\walkR g (vl++xl) (vr++xr) (Fu (vl++xl) (vr++xr)) h a b t=walkR g (vl++xl) (vr++xr) (Fu (vl++xl) (vr++xr)) h' a' b' t'
 | 0,h,a,b,t,t',h',a',b',p,e=>by cases e;exact ⟨p,rfl⟩
 | F + 1,h,a,b,t,t',h',a',b',p,e=>by
   unfold walkR at e
   cases es:BV g vl vr h a b with
   | stop=>rw [es] at e;cases e;exact ⟨p,rfl⟩
   | brk k s=>rw [es] at e;cases e
   | next m h1 a1 b1=>
     rw [es] at e;obtain ⟨p1,hlt⟩:=HJ hg p es;obtain ⟨q1,q2⟩:=Jx hg xl xr F h1 a1 b1 (t++[m]) t' h' a' b' p1 e;refine ⟨q1,?_⟩;rw [<-q2];have e2:=Q8 L3 L3 es p1.a p1.b (wl:=vl++xl) (wr:=vr++xr);have hs:walkR g (vl++xl) (vr++xr) (Fu (vl++xl) (vr++xr)) h a b t=walkR g (vl++xl) (vr++xr) ((vl++xl).length + (vr++xr).length) h1 a1 b1 (t++[m]):=by
      show walkR g (vl++xl) (vr++xr) ((vl++xl).length + (vr++xr).length + 1) h a b t=_;rw [walkR,e2]
     rw [hs];exact Ko hg _ _ _ _ _ _ (p1.more xl xr) (by lia) (by show _<=(vl++xl).length + (vr++xr).length + 1 + _;lia)
def Rch (g:List GS)(vl vr:List Nat)(tk:List D)(h a b:Nat):Prop:=Pl g vl vr h a b/\∀xl xr:List Nat,walkR g (vl++xl) (vr++xr) (Fu (vl++xl) (vr++xr)) 0 0 0 []=walkR g (vl++xl) (vr++xr) (Fu (vl++xl) (vr++xr)) h a b tk
theorem Rch.start (hg:GOk g):Rch g [] [] [] 0 0 0:=⟨⟨hg.ne,uo8 _,uo8 _⟩,λ_ _=>rfl⟩
theorem Rch.more {g:List GS}{vl vr:List Nat}{tk:List D}{h a b:Nat}(r:Rch g vl vr tk h a b)(xl xr:List Nat):Rch g (vl++xl) (vr++xr) tk h a b:=
 ⟨r.1.more xl xr,λyl yr=>by rw [ug6,ug6];exact r.2 _ _⟩
theorem Rch.all {tk:List D}(r:Rch g vl vr tk h a b):walkR g vl vr (Fu vl vr) 0 0 0 []=(tk++(walkR g vl vr (Fu vl vr) h a b []).1,(walkR g vl vr (Fu vl vr) h a b []).2):=by
 have:=r.2 [] [];rw [uj5,uj5] at this;rw [this,G7]
theorem Rch.step (hg:GOk g){vl vr:List Nat}{tk t:List D}{h a b h' a' b':Nat}(r:Rch g vl vr tk h a b)(e:walkR g vl vr (Fu vl vr) h a b []=(t,h',a',b',none)):Rch g vl vr (tk++t) h' a' b':=by
 have e1:walkR g vl vr (Fu vl vr) h a b tk=(tk++t,h',a',b',none):=by rw [G7,e]
 refine ⟨(Jx hg [] [] _ _ _ _ _ _ _ _ _ r.1 e1).1,λxl xr=>?_⟩;rw [r.2 xl xr];exact (Jx hg xl xr _ _ _ _ _ _ _ _ _ r.1 e1).2
def Fed (g:List GS)(vl vr:List Nat)(tk:List D)(h a b:Nat)(fl:D):Prop:=Rch g vl vr tk h a b/\match walkR g vl vr (Fu vl vr) 0 0 0 [] with
 | (t',h',a',b',none)=>tk=t'/\h=h'/\a=a'/\b=b'/\fl = .non
 | (_,_,_,_,some (k,s))=>fl = .tup [.int (k:Nat),.str s]
section
variable {f:Str}{t:T}{P:D->T->Prop}{O:Out->T->Prop}{k:Nat}{n:Str}{fs:List (Str×D)}{v:D}
def R9 (f:Str)(d:D):M D:=FB d λ_ _ fs t=>(fs.lookup f).map λv=>(v,t)
def K4 (f:Str)(v d:D):M Out:=FB d λk n fs t=>if fs.length < 1000 then some (.next,{ t with S:=t.S.set k (.ins n (FO f v fs)) }) else none
theorem TJ {a:M D}(h:W a t λd t1=>W (R9 f d) t1 P):W (Ew f a) t P:=BW h
theorem DU (e:t.S[k]?=some (.ins n fs))(l:fs.lookup f=some v)(h:P v t):W (R9 f (.obj k)) t P:=⟨_,_,by simp only [R9,FB,e,l];rfl,h⟩
theorem K7 {gv ga:M D}(h:W gv t λv t1=>W ga t1 λd t2=>W (K4 f v d) t2 O):W (En f gv ga) t O:=BW (h.mono λ_ _ z=>BW z)
theorem EH (e:t.S[k]?=some (.ins n fs))(l:fs.length < 1000)(h:O .next ⟨t.env,t.S.set k (.ins n (FO f v fs))⟩):W (K4 f v (.obj k)) t O:=⟨_,_,by simp only [K4,FB,e,if_pos l],h⟩
theorem Ur {g:Fn}{fl:M (List D)}(h:W fl t λds t1=>Wf g (.obj t1.S.length :: ds) (t1.S++[.ins n []]) λr S'=>r = .non/\P (.obj t1.S.length) ⟨t1.env,S'⟩):W (Ia n g fl) t P:=
 BW (h.mono λds t1 ⟨r,S',e,e2,p⟩=>by subst e2;exact ⟨_,_,by simp only [e],p⟩)
theorem Us {g:Fn}{o:M D}{fl:M (List D)}(h:W o t λd t1=>∃k fs,d = .obj k/\t1.S[k]?=some (.ins n fs)/\W fl t1 λds t2=>Wf g (d :: ds) t2.S λr S'=>P r ⟨t2.env,S'⟩):W (BG n g o fl) t P:=by
 refine BW (h.mono λd t1 z=>?_);obtain ⟨k,fs,e1,e2,w⟩:=z;subst e1;obtain ⟨ds,t2,w1,r,S',w2,p⟩:=w;refine ⟨r,_,?_,p⟩;simp only [FB,e2,if_pos,bnd,w1,w2]
theorem Rk (h:P (.obj t.S.length) ⟨t.env,t.S++[.dct []]⟩):W (ES []) t P:=by
 refine ⟨_,_,?_,h⟩;simp [ES,Ic,bnd,F2.ret,Fm,AZ]
end
local macro_rules | `(tactic| walk_at "y1")=>`(tactic| first
 | walk_at "x1" | clear 31 IH TJ K7 Rk Eo)
def Og (f:Fn):Prop:=∀g:List GS,GOk g->Pure1 f [.lst (g.map GS.d)] (.lst (g.map GS.d))
theorem Si (hc:HQ c):Og (fnOf 1 1 (Ez c)):=by
 intro g hg S;have hL:LIM=100000:=rfl;refine Aq rfl ?_;unfold Ez;symm;refine (EQ (f:=id) (fr:=[]) (λd hd=>?_)).mono λxs t' ⟨e1,e2⟩=>?_
 ·obtain ⟨x,hx,rfl⟩:=uo1.mp hd;have hok:=hg.all x hx;symm;refine (hc _ x hok).use ?_
  cases x with
  | fin=>
    rw [GS.isFin];symm;exact ⟨rfl,rfl⟩
  | st side ws=>
    rw [show (GS.st side ws).isFin=false from rfl,GS.d];symm;exact ⟨rfl,rfl⟩
 ·subst e1;rw [List.map_id];have:=hg.le;refine Bx (by rw [uj3,hL];lia) ?_;symm;exact ⟨rfl,e2⟩
abbrev rdF (g:List GS)(h W P:Nat):List (Str×D):=[("grammar",.lst (g.map GS.d)),("standing",.int (h:Nat)),("wires",.obj W),("places",.obj P)]
structure Rdr (n0:Nat)(S:List Ob)(k:Nat)(g:List GS)(vl vr:List Nat)(h a b W P l r:Nat):Prop where
 k0:n0<=k
 l0:n0<=l
 r0:n0<=r
 ne:l≠r
 k:S[k]?=some (.ins "Reader" (rdF g h W P))
 w:S[W]?=some (.dct (lr (.obj l) (.obj r)))
 p:S[P]?=some (.dct (dP a b))
 l:S[l]?=some (.lst (wD vl))
 r:S[r]?=some (.lst (wD vr))
def Low (n0:Nat)(S S':List Ob):Prop:=n0<=S'.length/\∀i,i < n0->S'[i]?=S[i]?
variable {n0:Nat}
theorem Rdr.gr {k:Nat}{W P:Nat}(R:Rdr n0 S k g vl vr h a b W P l r)(G:Gr S S'):Rdr n0 S' k g vl vr h a b W P l r:=
 ⟨R.k0,R.l0,R.r0,R.ne,G.get R.k,G.get R.w,G.get R.p,G.get R.l,G.get R.r⟩
variable {u:Ob}
theorem Az {i:Nat}(h:S[i]?=some u)(n:j≠i):(S.set j o)[i]?=some u:=by rw [ue0 n];exact h
theorem BP {i:Nat}(h:S[i]?=some o)(h':S[j]?=some u)(n:o≠u):i≠j:=λe=>by subst e;rw [h] at h';exact n (uj2 h')
theorem Rdr.ext {k:Nat}{W P:Nat}{side:Str}(x:List Nat)(R:Rdr n0 S k g vl vr h a b W P l r) :
 S[onS side l r]?=some (.lst (wD (onS side vl vr)))/\Rdr n0 (S.set (onS side l r) (.lst (wD (onS side vl vr)++wD x))) k g (onS side (vl++x) vl) (onS side vr (vr++x)) h a b W P l r:=by
 unfold onS
 split
 ·refine ⟨R.l,R.k0,R.l0,R.r0,R.ne,Az R.k (BP R.l R.k (by simp)),Az R.w (BP R.l R.w (by simp)),Az R.p (BP R.l R.p (by simp)),?_,Az R.r R.ne⟩;rw [<-EV];exact AT R.l
 ·refine ⟨R.r,R.k0,R.l0,R.r0,R.ne,Az R.k (BP R.r R.k (by simp)),Az R.w (BP R.r R.w (by simp)),Az R.p (BP R.r R.p (by simp)),Az R.l (Ne.symm R.ne),?_⟩;rw [<-EV];exact AT R.r
theorem Rdr.put {k:Nat}{h' a' b' W P Q:Nat}(R:Rdr n0 S k g vl vr h a b W P l r)(e:S[Q]?=some (.dct (dP a' b'))):Rdr n0 (S.set k (.ins "Reader" (rdF g h' W Q))) k g vl vr h' a' b' W Q l r:=
 ⟨R.k0,R.l0,R.r0,R.ne,AT R.k,Az R.w (BP R.k R.w (by simp)),Az e (BP R.k e (by simp)),Az R.l (BP R.k R.l (by simp)),Az R.r (BP R.k R.r (by simp))⟩
def Gf (f:Fn):Prop:=∀(S:List Ob) (k:Nat) (g:List GS),GOk g->S[k]?=some (.ins "Reader" [])->Wf f [.obj k,.lst (g.map GS.d)] S λq S'=>q = .non/\(∀i,i < S.length->i≠k->S'[i]?=S[i]?)/\S.length<=S'.length/\∃W P l r,Rdr k S' k g [] [] 0 0 0 W P l r
def Kr (f:Fn):Prop:=∀(S:List Ob) (k:Nat) (g:List GS),GOk g->S[k]?=some (.ins "Reader" [])->Wf f [.obj k,.lst (g.map GS.d),.tup [.str sL,.str sR]] S λq S'=>q = .non/\(∀i,i < S.length->i≠k->S'[i]?=S[i]?)/\S.length<=S'.length/\∃W P l r,Rdr k S' k g [] [] 0 0 0 W P l r
def Kp (k:Nat)(S S':List Ob):Prop:=S.length<=S'.length/\∀i,i < S.length->i≠k->S'[i]?=S[i]?
theorem Kp.refl {k:Nat}:Kp k S S:=⟨uo7 _,λ_ _ _=>rfl⟩
theorem Kp.setk {k:Nat}(a:Kp k S S'):Kp k S (S'.set k o):=⟨by rw [uk8];exact a.1,λi h n=>by rw [ue0 (Ne.symm n)];exact a.2 i h n⟩
theorem Kp.set {k j:Nat}{S S':List Ob}{o:Ob}(a:Kp k S S')(h:S.length<=j):Kp k S (S'.set j o):=⟨by rw [uk8];exact a.1,λi hi n=>by rw [ue0 (by lia)];exact a.2 i hi n⟩
theorem Kp.app {k:Nat}(a:Kp k S S'):Kp k S (S'++[o]):=⟨by rw [uf6];exact un3 a.1 (ui1 _ _),λi hi n=>by rw [ub2 (uf1 hi a.1)];exact a.2 i hi n⟩
theorem Bt {i:Nat}(h:S[i]?=some u):(S++[o])[i]?=some u:=by rw [ub2 (ub1.mp h).1];exact h
theorem Ed {i:Nat}(h:S[i]?=some u):i < S.length:=(ub1.mp h).1
theorem Sq (hc:Og c):Kr (fnOf 3 4 (Ee c)):=by
 intro S k g hg hk;have hkl:=Ed hk;refine Aq rfl ?_;unfold Ee;symm;refine (hc g hg).use ?_;symm;refine EH hk (by show 0 < 1000;decide) ?_;have k1:Kp k S (S.set k (.ins "Reader" [("grammar",.lst (g.map GS.d))])):=Kp.refl.setk;have g1:(S.set k (.ins "Reader" [("grammar",.lst (g.map GS.d))]))[k]?=some (.ins "Reader" [("grammar",.lst (g.map GS.d))]):=AT hk;show Fa _ _ Out.next ⟨_,S.set k (.ins "Reader" [("grammar",.lst (g.map GS.d))])⟩;generalize S.set k (.ins "Reader" [("grammar",.lst (g.map GS.d))])=S1 at k1 g1 ⊢;symm;refine EH g1 (by show 1 < 1000;decide) ?_;have k2:Kp k S (S1.set k (.ins "Reader" [("grammar",.lst (g.map GS.d)),("standing",.int (0:Nat))])):=k1.setk;have g2:(S1.set k (.ins "Reader" [("grammar",.lst (g.map GS.d)),("standing",.int (0:Nat))]))[k]?=some (.ins "Reader" [("grammar",.lst (g.map GS.d)),("standing",.int (0:Nat))]):=AT g1;show Fa _ _ Out.next ⟨_,S1.set k (.ins "Reader" [("grammar",.lst (g.map GS.d)),("standing",.int (0:Nat))])⟩;generalize S1.set k (.ins "Reader" [("grammar",.lst (g.map GS.d)),("standing",.int (0:Nat))])=S2 at k2 g2 ⊢;symm;refine EH (Bt g2) (by show 2 < 1000;decide) ?_;obtain ⟨W,hW⟩:∃W,W=S2.length:=⟨_,rfl⟩;have w3:((S2++[Ob.dct []]).set k (.ins "Reader" [("grammar",.lst (g.map GS.d)),("standing",.int (0:Nat)),("wires",.obj W)]))[W]?=some (.dct []):=by rw [hW];exact Az B0 (un2 (Ed g2))
 have k3:Kp k S ((S2++[Ob.dct []]).set k (.ins "Reader" [("grammar",.lst (g.map GS.d)),("standing",.int (0:Nat)),("wires",.obj W)])):=k2.app.setk;have g3:((S2++[Ob.dct []]).set k (.ins "Reader" [("grammar",.lst (g.map GS.d)),("standing",.int (0:Nat)),("wires",.obj W)]))[k]?=some (.ins "Reader" [("grammar",.lst (g.map GS.d)),("standing",.int (0:Nat)),("wires",.obj W)]):=AT (Bt g2);have hSW:S.length<=W:=by rw [hW];exact k2.1
 show Fa _ _ Out.next ⟨_,(S2++[Ob.dct []]).set k (.ins "Reader" [("grammar",.lst (g.map GS.d)),("standing",.int (0:Nat)),("wires",.obj S2.length)])⟩;rw [<-hW];generalize (S2++[Ob.dct []]).set k (.ins "Reader" [("grammar",.lst (g.map GS.d)),("standing",.int (0:Nat)),("wires",.obj W)])=S3 at w3 k3 g3 ⊢;symm;refine EH (Bt g3) (by show 3 < 1000;decide) ?_;obtain ⟨P,hP⟩:∃P,P=S3.length:=⟨_,rfl⟩;have w4:((S3++[Ob.dct []]).set k (.ins "Reader" (rdF g 0 W P)))[W]?=some (.dct []):=Az (Bt w3) (BP g3 w3 (by simp));have p4:((S3++[Ob.dct []]).set k (.ins "Reader" (rdF g 0 W P)))[P]?=some (.dct []):=by rw [hP];exact Az B0 (un2 (Ed g3))
 have k4:Kp k S ((S3++[Ob.dct []]).set k (.ins "Reader" (rdF g 0 W P))):=k3.app.setk;have g4:((S3++[Ob.dct []]).set k (.ins "Reader" (rdF g 0 W P)))[k]?=some (.ins "Reader" (rdF g 0 W P)):=AT (Bt g3);have hWP:W < P:=by rw [hP];exact Ed w3
 show Fa _ _ Out.next ⟨_,(S3++[Ob.dct []]).set k (.ins "Reader" (rdF g 0 W S3.length))⟩;rw [<-hP];generalize (S3++[Ob.dct []]).set k (.ins "Reader" (rdF g 0 W P))=S4 at w4 p4 k4 g4 ⊢;symm;have hWk:W≠k:=λe=>by subst e;lia
 have hPk:P≠k:=λe=>by subst e;lia
 refine W_forL_cons.mpr ?_;symm;refine DU (Bt g4) rfl ?_;symm;refine Cs (Bt w4) (by show 0 < 100000;decide) ?_;obtain ⟨l,hl⟩:∃l,l=S4.length:=⟨_,rfl⟩;have hlk:k < l:=by rw [hl];exact Ed g4
 have hlW:W < l:=by rw [hl];exact Ed w4
 have hlP:P < l:=by rw [hl];exact Ed p4
 have k5:Kp k S ((S4++[Ob.lst []]).set W (.dct [(kL,.obj l)])):=k4.app.set hSW;have g5:((S4++[Ob.lst []]).set W (.dct [(kL,.obj l)]))[k]?=some (.ins "Reader" (rdF g 0 W P)):=Az (Bt g4) hWk;have w5:((S4++[Ob.lst []]).set W (.dct [(kL,.obj l)]))[W]?=some (.dct [(kL,.obj l)]):=AT (Bt w4);have p5:((S4++[Ob.lst []]).set W (.dct [(kL,.obj l)]))[P]?=some (.dct []):=Az (Bt p4) (by lia);have l5:((S4++[Ob.lst []]).set W (.dct [(kL,.obj l)]))[l]?=some (.lst []):=by rw [hl];exact Az B0 (by lia)
 have n5:((S4++[Ob.lst []]).set W (.dct [(kL,.obj l)])).length=l + 1:=by rw [uk8,uf6,hl];rfl
 show Fa _ _ Out.next ⟨_,(S4++[Ob.lst []]).set W (.dct [(kL,.obj S4.length)])⟩;rw [<-hl];generalize (S4++[Ob.lst []]).set W (.dct [(kL,.obj l)])=S5 at k5 g5 w5 p5 l5 n5 ⊢;symm;refine DU g5 rfl ?_;symm;refine Cs p5 (by show 0 < 100000;decide) ?_;have k6:Kp k S (S5.set P (.dct [(kL,.int (0:Nat))])):=k5.set (by lia);have g6:(S5.set P (.dct [(kL,.int (0:Nat))]))[k]?=some (.ins "Reader" (rdF g 0 W P)):=Az g5 hPk;have w6:(S5.set P (.dct [(kL,.int (0:Nat))]))[W]?=some (.dct [(kL,.obj l)]):=Az w5 (by lia);have p6:(S5.set P (.dct [(kL,.int (0:Nat))]))[P]?=some (.dct [(kL,.int (0:Nat))]):=AT p5;have l6:(S5.set P (.dct [(kL,.int (0:Nat))]))[l]?=some (.lst []):=Az l5 (by lia);have n6:(S5.set P (.dct [(kL,.int (0:Nat))])).length=l + 1:=by rw [uk8];exact n5
 show F2.W (CA _ _ _) ⟨_,S5.set P (.dct [(kL,.int (0:Nat))])⟩ _;generalize S5.set P (.dct [(kL,.int (0:Nat))])=S6 at k6 g6 w6 p6 l6 n6 ⊢;refine W_forL_cons.mpr ?_;symm;refine DU (Bt g6) rfl ?_;symm;refine Cs (Bt w6) (by show 1 < 100000;decide) ?_;have k7:Kp k S ((S6++[Ob.lst []]).set W (.dct (lr (.obj l) (.obj (l + 1))))):=k6.app.set hSW;have g7:((S6++[Ob.lst []]).set W (.dct (lr (.obj l) (.obj (l + 1)))))[k]?=some (.ins "Reader" (rdF g 0 W P)):=Az (Bt g6) hWk;have w7:((S6++[Ob.lst []]).set W (.dct (lr (.obj l) (.obj (l + 1)))))[W]?=some (.dct (lr (.obj l) (.obj (l + 1)))):=AT (Bt w6);have p7:((S6++[Ob.lst []]).set W (.dct (lr (.obj l) (.obj (l + 1)))))[P]?=some (.dct [(kL,.int (0:Nat))]):=Az (Bt p6) (by lia);have l7:((S6++[Ob.lst []]).set W (.dct (lr (.obj l) (.obj (l + 1)))))[l]?=some (.lst []):=Az (Bt l6) (by lia);have r7:((S6++[Ob.lst []]).set W (.dct (lr (.obj l) (.obj (l + 1)))))[l + 1]?=some (.lst []):=by rw [<-n6];exact Az B0 (by lia)
 have hput:Bm [(kL,D.obj l)] (.inr sR) (.obj S6.length)=lr (.obj l) (.obj (l + 1)):=by rw [n6];rfl
 rw [hput];generalize (S6++[Ob.lst []]).set W (.dct (lr (.obj l) (.obj (l + 1))))=S7 at k7 g7 w7 p7 l7 r7 ⊢;symm;refine DU g7 rfl ?_;symm;refine Cs p7 (by show 1 < 100000;decide) ?_;show F2.W (CA _ _ []) ⟨_,S7.set P (.dct (dP 0 0))⟩ _;refine W_forL_nil.mpr ?_;refine ⟨rfl,λi h n=>(k7.set (by lia)).2 i h n,(k7.set (by lia)).1,W,P,l,l + 1,?_⟩;exact ⟨uo7 _,by lia,by lia,by lia,Az g7 hPk,Az w7 (by lia),AT p7,Az l7 (by lia),Az r7 (by lia)⟩
theorem U9 (hc:Kr c):Gf (fnOf 2 2 (Ef c)):=by
 intro S k g hg hk;refine Aq rfl ?_;unfold Ef;symm;refine (hc S k g hg hk).mono λq S' z9=>?_;obtain ⟨e,h1,h2,h3⟩:=z9;symm;exact ⟨rfl,h1,h2,h3⟩
theorem QX {k:Nat}{W P:Nat}(R:Rdr n0 S k g vl vr h a b W P l r):PureS S (fnOf 1 1 CD) [.obj k] (.int (h:Nat)):=by
 refine Aq rfl ?_;unfold CD;symm;refine DU R.k rfl ?_;symm;exact ⟨rfl,rfl⟩
local macro_rules | `(tactic| walk_at "y1")=>`(tactic| first
 | walk_at "x1" | clear 31 IH TJ K7 Rk Eo Us Ur)
section
variable {n0:Nat}{S:List Ob}{k:Nat}{g:List GS}{vl vr:List Nat}{h a b W P l r:Nat}
theorem HL (R:Rdr n0 S k g vl vr h a b W P l r){side:Str}(hs:side=sL\/side=sR):PureS S (fnOf 2 2 Bc) [.obj k,.str side] (.int (((onS side vl vr).length:Nat) - ((onS side a b:Nat):Int))):=by
 have hon:(onS side (D.int (a:Int)) (D.int (b:Int))) = .int ((onS side a b:Nat):Int):=by unfold onS;split <;> rfl
 have hon2:Wir S (onS side (D.obj l) (D.obj r)) (onS side vl vr):=by unfold onS;split;exact .inr ⟨l,rfl,R.l⟩;exact .inr ⟨r,rfl,R.r⟩
 refine Aq rfl ?_;unfold Bc;symm;refine DU R.k rfl ?_;symm;refine A4 R.w (Dr hs) ?_;symm;refine Kn hon2 ?_;symm;refine DU R.k rfl ?_;symm;refine A4 R.p (Dr hs) ?_;rw [hon];symm;exact ⟨rfl,rfl⟩
theorem Lu (R:Rdr n0 S k g vl vr h a b W P l r):PureS S (fnOf 1 1 (BT (fnOf 2 2 Bc))) [.obj k] (.tup [.int ((vl.length:Nat) - (a:Int)),.int ((vr.length:Nat) - (b:Int))]):=by
 refine Aq rfl ?_;unfold BT;symm;refine ⟨k,_,rfl,R.k,?_⟩;symm;refine (HL R (.inl rfl)).use ?_;symm;refine ⟨k,_,rfl,R.k,?_⟩;symm;refine (HL R (.inr rfl)).use ?_;symm;refine ⟨?_,rfl⟩;rw [show onS sL vl vr=vl from if_pos rfl,show onS sR vl vr=vr from if_neg (Ne.symm sLR),show onS sL a b=a from if_pos rfl,show onS sR a b=b from if_neg (Ne.symm sLR)]
end
theorem bA {side:Str}(v x:List Nat):onS side (v++x) v=v++(if side=sL then x else []):=by
 unfold onS
 split
 ·rfl
 ·rw [uj5]
theorem bB {side:Str}(hs:side=sL\/side=sR)(v x:List Nat):onS side v (v++x)=v++(if side=sR then x else []):=by
 unfold onS;rcases hs with rfl | rfl
 ·rw [if_pos rfl,if_neg sLR,uj5]
 ·rw [if_neg (Ne.symm sLR),if_pos rfl]
def Rd.tells (P:D->Prop):Rd->Prop
 | .done v=>P v
 | .need _ nx=>∀b,(nx b).tells P
local macro_rules | `(tactic| walk_at "y1")=>`(tactic| first
 | walk_at "x1" | clear 31 IH TJ K7 Eo Us Ur)
def KpR (k l r:Nat)(S S':List Ob):Prop:=S.length<=S'.length/\∀i,i < S.length->i≠k->i≠l->i≠r->S'[i]?=S[i]?
section
variable {n0:Nat}{S S1 S2:List Ob}{k:Nat}{g:List GS}{vl vr:List Nat}{h a b W P l r:Nat}{o:Ob}
theorem KpR.get (h:KpR k l r S S1){i:Nat}(e:S[i]?=some o)(h1:i≠k)(h2:i≠l)(h3:i≠r):S1[i]?=some o:=(h.2 i (Ed e) h1 h2 h3).trans e
theorem KpR.gr (a:KpR k l r S S1)(b:Gr S1 S2):KpR k l r S S2:=⟨un3 a.1 b.1,λi h h1 h2 h3=>(b.2 i (uf1 h a.1)).trans (a.2 i h h1 h2 h3)⟩
theorem KpR.setk (a:KpR k l r S S1):KpR k l r S (S1.set k o):=⟨by rw [uk8];exact a.1,λi h h1 h2 h3=>by rw [ue0 (Ne.symm h1)];exact a.2 i h h1 h2 h3⟩
end
def hrK (n0:Nat)(S':List Ob)(k:Nat)(g:List GS)(vl vr:List Nat)(h a b W P l r:Nat)(q:D):Rs->Prop
 | (t,h',a',b',none)=>q = .lst t/\∃P',Rdr n0 S' k g vl vr h' a' b' W P' l r
 | (_,_,_,_,some (c,s))=>q = .exc "Broken" [.int (c:Nat),.str s]/\Rdr n0 S' k g vl vr h a b W P l r
def DQ (f:Fn):Prop:=∀(n0:Nat) (S:List Ob) (k:Nat) (g:List GS) (vl vr x:List Nat) (h a b W P l r:Nat) (side:Str),GOk g->Pl g vl vr h a b->(onS side (vl++x) vl).length<=45000->(onS side vr (vr++x)).length<=45000->(side=sL\/side=sR)->Rdr n0 S k g vl vr h a b W P l r->
 Wf f [.obj k,.str side,.lst (wD x)] S λq S'=>KpR k l r S S'/\hrK n0 S' k g (onS side (vl++x) vl) (onS side vr (vr++x)) h a b W P l r q (walkR g (onS side (vl++x) vl) (onS side vr (vr++x)) (Fu (onS side (vl++x) vl) (onS side vr (vr++x))) h a b [])
theorem Sm (hc:HU c):DQ (fnOf 3 4 (EZ c)):=by
 intro n0 S k g vl vr x h a b W P l r side hg hp hw1 hw2 hs R;have hL:LIM=100000:=rfl;obtain ⟨hx,R1⟩:=R.ext (side:=side) x;have hp1:Pl g (onS side (vl++x) vl) (onS side vr (vr++x)) h a b:=by
  have:=hp.a;have:=hp.b;refine ⟨hp.h,?_,?_⟩ <;> (unfold onS;split <;> (try rw [uf6]) <;> lia)
 have hlw:(onS side vl vr).length + x.length<=50000:=by
  unfold onS at hw1 hw2 ⊢
  split
  ·next q=>rw [if_pos q,uf6] at hw1;lia
  ·next q=>rw [if_neg q,uf6] at hw2;lia
 refine Aq rfl ?_;unfold EZ;symm;refine Ut (k:=onS side l r) ?_;symm;refine DU R.k rfl ?_;symm;refine A4 R.w (Dr hs) ?_;refine ⟨by unfold onS;split <;> rfl,_,hx,?_⟩
 symm;refine ⟨_,wD (onS side vl vr)++wD x,hx,by simp only [Ev];rw [if_pos (by rw [AE,AE,hL];lia)],?_⟩;have hlow:KpR k l r S (S.set (onS side l r) (.lst (wD (onS side vl vr)++wD x))):=⟨by rw [uk8];exact uo7 _,λi _ _ h2 h3=>ue0 (by unfold onS;split;exact Ne.symm h2;exact Ne.symm h3)⟩
 generalize hS1:S.set (onS side l r) (.lst (wD (onS side vl vr)++wD x))=S1 at R1 hlow ⊢;generalize onS side (vl++x) vl=ul at *;generalize onS side vr (vr++x)=ur at *;symm;refine DU R1.k rfl ?_;symm;refine DU R1.k rfl ?_;symm;refine DU R1.k rfl ?_;symm;refine DU R1.k rfl ?_;symm;refine (hc g ul ur (.obj l) (.obj r) h a b W P S1 hg hp1 hw1 hw2 (.inr ⟨l,rfl,R1.l⟩) (.inr ⟨r,rfl,R1.r⟩) R1.w R1.p).mono λq S2 z9=>?_;obtain ⟨hG,hr⟩:=z9;have R2:=R1.gr hG;have hlow2:=hlow.gr hG;generalize walkR g ul ur (Fu ul ur) h a b []=Z at hr ⊢;obtain ⟨t,h',a',b',o⟩:=Z
 cases o with
 | none=>
   obtain ⟨K,rfl,hK⟩:=hr;symm;refine EH R2.k (by show 4 < 1000;decide) ?_;symm;refine EH (AT R2.k) (by show 4 < 1000;decide) ?_;symm;refine ⟨rfl,hlow2.setk.setk,rfl,K,?_⟩;show Rdr n0 ((S2.set k (.ins "Reader" (rdF g h' W P))).set k (.ins "Reader" (rdF g h' W K))) k g ul ur h' a' b' W K l r;rw [List.set_set];exact R2.put hK
 | some z=>
   obtain ⟨cc,s⟩:=z;have hr:q = .exc "Broken" [.int cc,.str s]:=hr;subst hr;symm;exact ⟨hlow2,rfl,R2⟩
theorem R6 (hc:DQ c):DQ (fnOf 3 3 (E1 c)):=by
 intro n0 S k g vl vr x h a b W P l r side hg hp hl1 hl2 hs R;refine Aq rfl ?_;unfold E1;symm;refine ⟨k,_,rfl,R.k,?_⟩;symm;refine (hc n0 S k g vl vr x h a b W P l r side hg hp hl1 hl2 hs R).mono λq S' z=>?_;symm;exact z
def Bk (g:List GS)(vl vr:List Nat)(h a b c:Nat)(s:Str):Prop:=Pl g vl vr h a b/\∃t h' a' b',walkR g vl vr (Fu vl vr) h a b []=(t,h',a',b',some (c,s))
def dG (g:List GS)(vl vr:List Nat)(k h a b W P l r:Nat):List (Nat×Ob):=[(k,.ins "Reader" (rdF g h W P)),(W,.dct (lr (.obj l) (.obj r))),(P,.dct (dP a b)),(l,.lst (wD vl)),(r,.lst (wD vr))]
section
variable {F:List (Nat×Ob)}{n0:Nat}{S S1:List Ob}{k:Nat}{g:List GS}{vl vr:List Nat}{h a b W P l r m R:Nat}
end
theorem Um {g:Bool->Bool}{a b a' b':Int}(e1:a=a')(e2:b=b')(h:P (.bl (g true)) t):F2.W (eqS g (.tup [.int a,.int b]) (.tup [.int a',.int b'])) t P:=by
 subst e1 e2;exact EG rfl (Kg (n:=1) (λd hd=>by simp only [ul9,ui3,or_false] at hd;rcases hd with rfl | rfl <;> exact MZ) EQD (by decide)) h
def Kt (f:Fn):Prop:=∀(g:List GS) (mv:List Mv) (ps:List (List Nat)) (S:List Ob),GOk g->TOk g mv->PsX g mv mv.length ps->Wf f [.lst (Ap g 0 mv),.lst (ps.map λw=>.lst (wD w))] S λr S'=>Gr S S'/\∃K wl wr,r = .obj K/\S.length<=K/\S'[K]?=some (.dct (dW wl wr))/\wD wl=Ai g sL 0 mv/\wD wr=Ai g sR 0 mv
theorem OM:Kt (fnOf 2 4 Dd):=by
 intro g mv ps S hg hT hps;have hL:LIM=100000:=rfl;have hlen:=hT.len;have hok:=hT.ok;refine Aq rfl ?_;unfold Dd;left;refine IG ?_;refine A7 ?_;left;refine A7 ?_;left;refine D2 ?_;refine ⟨by simp,by show 2<=15;decide,?_⟩;have hA:Gr S ((S++[Ob.dct []]).set S.length (.dct (AZ (dW [] [])))):=Gr.app.set (uo7 _);have hB:((S++[Ob.dct []]).set S.length (.dct (AZ (dW [] []))))[S.length]?=some (.dct (dW [] [])):=by rw [GP];exact AT B0
 show Fa _ _ Out.next ⟨_,(S++[Ob.dct []]).set S.length (.dct (AZ (dW [] [])))⟩;generalize (S++[Ob.dct []]).set S.length (.dct (AZ (dW [] [])))=S1 at hA hB ⊢;obtain ⟨K,hK⟩:∃K,K=S.length:=⟨_,rfl⟩;rw [<-hK] at hB ⊢;left;rw [AX];refine Dy (Br (by lia) (by lia)) ?_;obtain ⟨I,hI⟩:∃I:List D->T->Prop,∀r t,I r t↔∃(j:Nat) (S':List Ob) (e3:Option Sl) (wl wr:List Nat),j<=mv.length/\r=(rngL 0 ((mv.length:Nat):Int).toNat).drop j/\Gr S S'/\S'[K]?=some (.dct (dW wl wr))/\wD wl=Ai g sL 0 (mv.take j)/\wD wr=Ai g sR 0 (mv.take j)/\t=⟨[some (.val (.lst (Ap g 0 mv))),some (.val (.lst (ps.map λw=>.lst (wD w)))),some (.val (.obj K)),e3],S'⟩:=⟨_,λ_ _=>.rfl⟩;refine BS I _ _ ((hI _ _).mpr ⟨0,S1,none,[],[],uo8 _,rfl,hA,hB,rfl,rfl,rfl⟩) ?_ ?_
 ·rintro d r t h0 _;obtain ⟨j,S',e3,wl,wr,hjl,hr,hG,hKw,el,er,rfl⟩:=(hI _ _).mp h0;obtain ⟨rfl,hr',hjn⟩:=C3 hr;rw [ug4] at hjn;rw [uo4]
  cases em:mv[j]? with
  | none=>rw [ub0] at em;lia
  | some x=>
  obtain ⟨p,v⟩:=x;have hm:=Fo hok em;have hmi:atI (Ap g 0 mv) j=some (De g (lastQ g 0 (mv.take j)) p v):=by
   unfold atI;rw [Be (by lia) (by rw [AX];lia)];show (Ap g 0 mv)[(j:Int).toNat]?=_;rw [ug4,DZ g 0 mv j p v em]
  have hjp:j < ps.length:=by rw [hps.1];exact hjn
  have hpi:atI (ps.map λw=>D.lst (wD w)) (j:Int)=some (.lst (wD ps[j])):=by
   unfold atI;rw [Be (by lia) (by rw [uj3];lia)];show (ps.map λw=>D.lst (wD w))[(j:Int).toNat]?=_;rw [ug4,ug3,ub4 hjp];rfl
  obtain ⟨hp1,hp2,_⟩:=hps.2 j _ (ub4 hjp);have hs:=IE hg hm;have nA:=EW (g:=g) sL em;have nB:=EW (g:=g) sR em;rw [<-hp1] at nA nB;have lA:=Dz g sL 0 (mv.take j) (Jm hT.bd j);have lB:=Dz g sR 0 (mv.take j) (Jm hT.bd j);rw [<-el,AE,uh7] at lA;rw [<-er,AE,uh7] at lB;unfold De at hmi;generalize (AF g (lastQ g 0 (mv.take j))).side=side at *;have hon2:(onS side (D.lst (wD wl)) (D.lst (wD wr))) = .lst (wD (onS side wl wr)):=by unfold onS;split <;> rfl
  have hol:(onS side wl wr).length<=45000:=by unfold onS;split <;> lia
  left;refine AU hmi ?_;left;refine A4 hKw (Dr hs) ?_;rw [hon2];left;refine AU hpi ?_;left;refine Bx (by rw [AE,AE,hL];lia) ?_;rw [<-EV];left;refine Eo ?_;left;refine AU hmi ?_;left;refine Cs hKw (by show 2 < 100000;decide) ?_;rw [Qo hs];have hd:lr (onS side (D.lst (wD (onS side wl wr++ps[j]))) (D.lst (wD wl))) (onS side (D.lst (wD wr)) (D.lst (wD (onS side wl wr++ps[j]))))=dW (onS side (wl++ps[j]) wl) (onS side wr (wr++ps[j])):=by unfold onS;split <;> rfl
  rw [hd];refine (hI _ _).mpr ?_;refine ⟨j + 1,_,_,onS side (wl++ps[j]) wl,onS side wr (wr++ps[j]),hjn,hr',hG.set (by lia),AT hKw,?_,?_,rfl⟩
  ·rw [nA,<-el];unfold onS;rcases ID hs with ⟨q1,q2⟩ | ⟨q1,q2⟩
   ·rw [if_pos q1,if_pos q1,EV]
   ·rw [if_neg q1,if_neg q1,uj5]
  ·rw [nB,<-er];unfold onS;rcases ID hs with ⟨q1,q2⟩ | ⟨q1,q2⟩
   ·rw [if_pos q1,if_neg q2,uj5]
   ·rw [if_neg q1,if_pos q2,EV]
 ·rintro t h0;obtain ⟨j,S',e3,wl,wr,hjl,hr,hG,hKw,el,er,rfl⟩:=(hI _ _).mp h0;have hj':j=mv.length:=by
   have:=congrArg List.length hr;rw [uk1,uh8,A3,ug4] at this;lia
  subst hj';rw [ui9] at el er;left;exact ⟨hG,K,wl,wr,rfl,by lia,hKw,el,er⟩
theorem Pz {g:List GS}{mv:List Mv}{rl rr:Nat}:∀(n k:Nat),n + k=mv.length->(Ai g sL 0 (mv.take k)).length<=rl->(Ai g sR 0 (mv.take k)).length<=rr->∃c,Due g mv rl rr c
 | 0,k,h,a,b=>⟨k,by lia,a,b,.inl (by lia)⟩
 | n + 1,k,h,a,b=>by
   by_cases z:onS (AF g (lastQ g 0 (mv.take k))).side rl rr < onS (AF g (lastQ g 0 (mv.take k))).side (Ai g sL 0 (mv.take k)).length (Ai g sR 0 (mv.take k)).length + (prt g mv k).length
   ·exact ⟨k,by lia,a,b,.inr ⟨by lia,z⟩⟩
   ·have em:mv[k]?=some (mv[k].1,mv[k].2):=ub4 (by lia);refine Pz n (k + 1) (by lia) ?_ ?_
    ·rw [EW sL em,uf6];unfold onS at z
     split
     ·next q=>rw [if_pos q,if_pos q] at z;lia
     ·rw [uk1];lia
    ·rw [EW sR em,uf6];unfold onS at z
     split
     ·next q=>rw [if_neg (by rw [q];decide),if_neg (by rw [q];decide)] at z;lia
     ·rw [uk1];lia
section
variable {g:List GS}{mv:List Mv}{wl wr:List Nat}
theorem GG {c:Nat}(hg:GOk g)(hok:okQ g 0 mv)(el:wD wl=Ai g sL 0 mv)(er:wD wr=Ai g sR 0 mv)(h1:rl<=wl.length)(h2:rr<=wr.length)(hD:Due g mv rl rr c) :
 walkR g (wl.take rl) (wr.take rr) (Fu (wl.take rl) (wr.take rr)) 0 0 0 []=(Ap g 0 (mv.take c),lastQ g 0 (mv.take c),(Ai g sL 0 (mv.take c)).length,(Ai g sR 0 (mv.take c)).length,none):=by
 have:=TR (ml:=[]) (mr:=[]) hg hok el er h1 h2 hD (.inl rfl) (.inl rfl);rw [uj5,uj5] at this;exact this
theorem Ja {c c':Nat}(hg:GOk g)(hok:okQ g 0 mv)(el:wD wl=Ai g sL 0 mv)(er:wD wr=Ai g sR 0 mv)(h1:rl<=wl.length)(h2:rr<=wr.length)(hD:Due g mv rl rr c)(hD':Due g mv rl rr c'):c=c':=by
 have e:=(GG hg hok el er h1 h2 hD).symm.trans (GG hg hok el er h1 h2 hD');have e:=congrArg (λz:Rs=>z.1.length) e;dsimp only at e;rw [AX,AX,uh7,uh7] at e;have:=hD.le;have:=hD'.le;lia
theorem UE {c:Nat}(el:wD wl=Ai g sL 0 mv)(er:wD wr=Ai g sR 0 mv)(hg:GOk g)(hok:okQ g 0 mv)(hD:Due g mv wl.length wr.length c):c=mv.length:=by
 refine Ja hg hok el er (uo7 _) (uo7 _) hD ⟨uo7 _,?_,?_,.inl rfl⟩
 ·rw [ui9,<-el,AE];exact uo7 _
 ·rw [ui9,<-er,AE];exact uo7 _
theorem Xs (hf:DQ cf)(hg:GOk g)(hok:okQ g 0 mv)(el:wD wl=Ai g sL 0 mv)(er:wD wr=Ai g sR 0 mv)(l1:wl.length<=45000)(l2:wr.length<=45000){k l r W:Nat}{S:List Ob}{rl rr c P m c' rl' rr':Nat}{x:List Nat}{side:Str}(hs:side=sL\/side=sR)
 (ch:Rch g (wl.take rl) (wr.take rr) (Ap g 0 (mv.take c)) (lastQ g 0 (mv.take c)) (Ai g sL 0 (mv.take c)).length (Ai g sR 0 (mv.take c)).length) (rd:Rdr 0 S k g (wl.take rl) (wr.take rr) (lastQ g 0 (mv.take c)) (Ai g sL 0 (mv.take c)).length (Ai g sR 0 (mv.take c)).length W P l r) (hc:c<=mv.length)
 (hx:((onS side wl wr).drop (onS side rl rr)).take m=x) (e3:onS side (rl + m) rl=rl') (e4:onS side rr (rr + m)=rr') (h1:rl'<=wl.length) (h2:rr'<=wr.length) (hD:Due g mv rl' rr' c') :
 Wf cf [.obj k,.str side,.lst (wD x)] S λq S'=>A1 q=false/\KpR k l r S S'/\∃P',q = .lst ((Ap g 0 (mv.take c')).drop c)/\Ap g 0 (mv.take c)++(Ap g 0 (mv.take c')).drop c=Ap g 0 (mv.take c')/\Rch g (wl.take rl') (wr.take rr') (Ap g 0 (mv.take c')) (lastQ g 0 (mv.take c')) (Ai g sL 0 (mv.take c')).length (Ai g sR 0 (mv.take c')).length/\Rdr 0 S' k g (wl.take rl') (wr.take rr') (lastQ g 0 (mv.take c')) (Ai g sL 0 (mv.take c')).length (Ai g sR 0 (mv.take c')).length W P' l r:=by
 subst hx e3 e4;have e1:onS side (wl.take rl++((onS side wl wr).drop (onS side rl rr)).take m) (wl.take rl)=wl.take (onS side (rl + m) rl):=by
  unfold onS
  split
  ·rw [<-List.take_add]
  ·rfl
 have e2:onS side (wr.take rr) (wr.take rr++((onS side wl wr).drop (onS side rl rr)).take m)=wr.take (onS side rr (rr + m)):=by
  unfold onS
  split
  ·rfl
  ·rw [<-List.take_add]
 have ch2:=ch.more (if side=sL then ((onS side wl wr).drop (onS side rl rr)).take m else []) (if side=sR then ((onS side wl wr).drop (onS side rl rr)).take m else []);rw [<-bA,<-bB hs,e1,e2] at ch2;have hw:=GG hg hok el er h1 h2 hD;have ha:=ch2.all;rw [hw] at ha;have hf:=hf 0 S k g (wl.take rl) (wr.take rr) (((onS side wl wr).drop (onS side rl rr)).take m) _ _ _ W P l r side hg ch.1 (by rw [e1,uh7];lia) (by rw [e2,uh7];lia) hs rd;rw [e1,e2] at hf;generalize hZ:walkR g (wl.take (onS side (rl + m) rl)) (wr.take (onS side rr (rr + m))) (Fu (wl.take (onS side (rl + m) rl)) (wr.take (onS side rr (rr + m)))) (lastQ g 0 (mv.take c)) (Ai g sL 0 (mv.take c)).length (Ai g sR 0 (mv.take c)).length []=Z at ha hf;obtain ⟨t,h',a',b',o⟩:=Z;simp only [Prod.mk.injEq] at ha;obtain ⟨at1,rfl,rfl,rfl,rfl⟩:=ha;have ht:(Ap g 0 (mv.take c')).drop c=t:=by
  rw [at1];have:(Ap g 0 (mv.take c)).length=c:=by rw [AX,uh7];lia
  rw [List.drop_append_of_le_length (by lia),ud0 (by lia)];rfl
 refine hf.mono ?_;rintro q S' ⟨KK,rfl,P',R'⟩;have st:=ch2.step hg hZ;rw [<-at1] at st;exact ⟨rfl,KK,P',by rw [ht],by rw [ht];exact at1.symm,st,R'⟩
end
theorem Zg {ns:List Int}(h:P (.bl (!ns.isEmpty)) t):W (JZ (.scr ns) (.lst [])) t P:=⟨_,_,rfl,h⟩
theorem ZY {ns:List Int}{a:Int}(h0:0<=a):(Cm ns (some a) (some 63) (some 5)).length<=100:=by
 unfold Cm;refine un3 (List.length_filterMap_le _ _) ?_;have hb:sliceBounds (some a) (some 63) (some 5) ns.length=(max 0 (min a (ns.length:Int)),max 0 (min 63 (ns.length:Int)),5):=by
  have h1:¬a < 0:=by lia
  simp [sliceBounds,h1]
 rw [hb];show ((List.range (if (5:Int) > 0 then (if max 0 (min a ns.length) < max 0 (min 63 (ns.length:Int)) then (max 0 (min 63 (ns.length:Int)) - max 0 (min a ns.length) + 5 - 1) / 5 else 0) else (if max 0 (min a ns.length) > max 0 (min 63 (ns.length:Int)) then (max 0 (min a ns.length) - max 0 (min 63 (ns.length:Int)) - 5 - 1) / (-5) else 0)).toNat).map _).length<=100;rw [uj3,uh1,if_pos (by decide)]
 split <;> lia
theorem aH {l u k:M (Option Int)}(h:W f t λd t1=>W l t1 λa t2=>W u t2 λb t3=>W k t3 λc t4=>W (LO d a b c) t4 P):W (LL f l u k) t P:=BW (h.mono λ_ _ h=>BW (h.mono λ_ _ h=>BW (h.mono λ_ _ h=>BW h)))
theorem Zl {ns:List Int}{a:Int}(h0:0<=a)(h:P (.lst ((Cm ns (some a) (some 63) (some 5)).map .int)) t):W (LO (.scr ns) (some a) (some 63) (some 5)) t P:=
 ⟨_,_,if_pos ⟨by decide,un3 (ZY h0) (by decide)⟩,h⟩
theorem NQ:∀ns:List Int,Hn (ns.map D.int)=some ns
 | []=>rfl
 | n :: r=>by rw [um0,Hn,NQ r];rfl
theorem Rl {ns:List Int}(h:P (.int ns.sum) t):W (Jt [.lst (ns.map D.int)]) t P:=⟨_,_,by simp only [Jt,NQ],h⟩
def JB (f:Fn):Prop:=∀(l:List Int) (k:Nat) (S:List Ob),k < l.length->l.length<=10->Wf f [.lst (l.map D.int),.int (k:Nat)] S λr S'=>∃n,r = .obj n/\Room n 900000000000000000000000000000 S'
theorem QN:JB (fnOf 2 3 (Ck (fnOf 2 2 By))):=by
 intro l k S hk hl;have hc:Pure1 (fnOf 2 2 By) [.lst (l.map D.int),.int (k:Nat)] (.int l[k]):=λS=>by
  refine Aq rfl ?_;unfold By;right;rw [uj3];refine FF (ul7 (by lia)) ?_;right;refine AU (d:=.int l[k]) ?_ ?_
  ·unfold atI;rw [Be (by lia) (by rw [uj3];lia)];show (l.map D.int)[(k:Int).toNat]?=_;rw [ug4,ug3,ub4 hk];rfl
  ·exact ⟨rfl,rfl⟩
 refine Aq rfl ?_;unfold Ck;right;refine hc.use ?_;right;refine IG ?_;refine A7 ?_;right;refine A7 ?_;right;refine A7 ?_;right;refine EO (EC (by decide) (by decide)) ?_;right;refine D2 ?_;refine ⟨B0,by show 3<=15;decide,S.length,rfl,?_⟩;exact ⟨l[k],3 + 5 * (k:Int),_,(AT B0).trans (congrArg (λl=>some (Ob.dct l)) MR),by lia,by lia⟩
theorem LN {d:D}(h:d∈rngL 0 n):∃k:Int,d = .int k/\0<=k/\k < n:=by
 rw [K1] at h;obtain ⟨i,hi,rfl⟩:=uo1.mp h;have:=ul1.mp hi;exact ⟨0 + i,rfl,by lia,by lia⟩
theorem OI (hq:q < g.length):AF g q∈g:=by
 unfold AF;rw [ua7,ub4 hq];exact ui4 hq
def Ol (f:Fn):Prop:=∀(ns:List Int) (g:List GS) (S:List Ob),GOk g->(∀x∈g,D3 x)->Wf f [.scr ns,.lst (g.map GS.d)] S λr _=>∃mv:List Mv,TOk g mv/\r = .lst [.lst (Ap g 0 mv),.lst (Bg g 0 mv)]
theorem bG {e10 e11:Option Sl}{x:D}{X' Y':List D}(h:X=Y)(h2:x=y)(h3:X'=Y'):(⟨[a0,a1,some (.own X),some (.own X'),some (.val x),e5,e6,e7,e8,e9,e10,e11],S⟩:T)=⟨[a0,a1,some (.own Y),some (.own Y'),some (.val y),e5,e6,e7,e8,e9,e10,e11],S⟩:=by subst h h2 h3;rfl
theorem Tc {cv:Fn}(hv:PValOk cv 3)(ht:PTakeOk ct)(hp:JB cp):Ol (fnOf 2 12 (Eh cv ct cp)):=by
 intro ns g S hg h3;have hL:LIM=100000:=rfl;refine Aq rfl ?_;unfold Eh;right;have hlen:(rngL 0 (100:Int).toNat).length<=100:=by rw [A3];decide
 have hmem:∀d∈rngL 0 (100:Int).toNat,∃k:Nat,d = .int k/\k<=1000:=λd hd=>by
  obtain ⟨k,rfl,h0,h1⟩:=LN hd;exact ⟨k.toNat,by rw [uf0 h0],by lia⟩
 generalize rngL 0 (100:Int).toNat=ds at hlen hmem ⊢;refine BS (λr t=>∃(mv:List Mv) (st:List D) (S':List Ob) (e5 e6 e7 e8 e9 e10 e11:Option Sl),mv.length + r.length<=100/\okQ g 0 mv/\okB g 0 mv/\st=Bg g 0 mv/\t=⟨[some (.val (.scr ns)),some (.val (.lst (g.map GS.d))),some (.own (Ap g 0 mv)),some (.own st),some (.val (.int (lastQ g 0 mv))),e5,e6,e7,e8,e9,e10,e11],S'⟩) _ _ ⟨[],[.int 0],S,none,none,none,none,none,none,none,by rw [uk1];lia,trivial,trivial,rfl,rfl⟩ ?_ ?_
 ·rintro d r t ⟨mv,st,S',e5,e6,e7,e8,e9,e10,e11,hl,hk,hb,hst,rfl⟩ hd;obtain ⟨k,rfl,hk1⟩:=hmem d hd;rw [uh5] at hl;have hlt:=Io hg hg.ne hk;right;refine AU (DV hlt) ?_;right;refine Zb ?_;right;refine Cr (λq=>?_) λq=>?_
  ·have hnf:¬(AF g (lastQ g 0 mv)).isFin=true:=by simpa using q
   have hgs:=DB hg hlt;obtain ⟨side,ws,egs⟩:∃side ws,AF g (lastQ g 0 mv) = .st side ws:=by
    cases e:AF g (lastQ g 0 mv) with
    | fin=>rw [e] at hnf;simp [GS.isFin] at hnf
    | st side ws=>exact ⟨side,ws,rfl⟩
   have hws:(AF g (lastQ g 0 mv)).ws=ws:=by rw [egs];rfl
   have hside:(AF g (lastQ g 0 mv)).side=side:=by rw [egs];rfl
   have hpos:0 < ws.length/\ws.length<=9:=by
    rw [egs] at hgs
    cases hgs with
    | st _ h2 h3 _ _=>exact ⟨h2,h3⟩
   have hd3:=h3 _ (OI hlt);rw [egs] at hd3;refine TQ ?_;refine Zk ?_;refine IF ?_;refine Dj ?_;refine Uu ?_;refine Zf ?_;refine Dj ?_;refine F2.W.mono (P:=λd t1=>∃a:Int,d = .int a/\t1=⟨[some (.val (.scr ns)),some (.val (.lst (g.map GS.d))),some (.own (Ap g 0 mv)),some (.own st),some (.val (.int (lastQ g 0 mv))),some (.val (.int (k:Nat))),e6,e7,e8,e9,e10,e11],S'⟩) ?_ ?_
   ·right;refine Zg ?_;right;refine Cr (λz=>?_) λz=>?_
    ·cases ns with
     | nil=>cases z
     | cons n0 r0=>
       right;refine W_ix_scr.mpr ⟨n0,HW,?_⟩;exact ⟨_,rfl,rfl⟩
    ·right;exact ⟨_,rfl,rfl⟩
   rintro d t1 ⟨a,rfl,rfl⟩;right;refine aH ?_;right;refine Zl (by lia) ?_;right;refine Rl ?_;right;refine EO (KQ (by lia) (by lia)) ?_;right;refine (hp [a,(Cm ns (some ((k:Int) % 7)) (some 63) (some 5)).sum + (k:Int) * (k:Int)] 1 S' (by show 1 < 2;decide) (by show 2<=10;decide)).mono ?_;rintro r1 S1 ⟨K,rfl,p1⟩;refine Bn ?_;right;refine AU (DV hlt) ?_;rw [egs,GS.d];right;rw [uj3];refine ht.use (r:=1000) (ws.length:Int) (p1.mono (by decide)) (λi S2 i0 i1 p2=>?_) rfl (by lia) (by lia);obtain ⟨p,rfl⟩:=uc1 i0;have hpl:p < (AF g (lastQ g 0 mv)).ws.length:=by rw [hws];exact Int.ofNat_lt.mp i1
   obtain ⟨side',ws',egs',_,ew⟩:=EL hpl;rw [egs] at egs'
   cases egs'
   have hw:=Fl hg hlt hpl;have hlo:=hw.lo;refine AU (FW ew) ?_;unfold wdD;right;refine hv.use (r:=0) (hd3 _ (ue1 ew)) hw.ok (p2.mono (by decide)) λx S3 x1 x2=>?_;right;refine Bx (by rw [AX,hL];lia) ?_;right;refine Bx (by rw [hst,EM,hL];lia) ?_;refine ⟨mv++[(p,x)],st++[.int (wdAt g (lastQ g 0 mv) p).2.2],S3,_,_,_,_,_,_,_,?_,?_,?_,?_,bG ?_ ?_ rfl⟩
   ·rw [uf6,ud4];lia
   ·rw [Iv];exact ⟨hk,⟨hlt,hpl,x1⟩,trivial⟩
   ·rw [Iu];exact ⟨hb,x2,trivial⟩
   ·rw [HI,hst];unfold BU
    congr 2
    congr 1
    lia
   ·rw [Hy];show _=_++[De g (lastQ g 0 mv) p _];unfold De;rw [hside]
   ·rw [F3];show _=D.int (BU g (lastQ g 0 mv) p:Nat);unfold BU
    congr 1
    lia
  ·right;exact ⟨mv,st,_,_,_,_,_,_,_,_,by lia,hk,hb,hst,rfl⟩
 ·rintro t ⟨mv,st,S',e5,e6,e7,e8,e9,e10,e11,hl,hk,hb,hst,rfl⟩;right;exact ⟨mv,⟨hk,hb,by rw [uk1] at hl;lia⟩,by rw [hst]⟩
theorem Ln {ct:Fn}(ht:PTakeOk ct){K:Nat}:∀(ds:List D) (r:Nat) (S:List Ob) (z:Option Sl),Room K (r + ds.length) S->W (Cb (AA 0) DL (Ac (Ag ct (Aa (Ab 1) (Aa (fC (.int 310)) Ad))) (fC (.int 9)) Bs) ds) ⟨[z,some (.val (.obj K))],S⟩ λxs t'=>(∃is:List Int,xs=is.map D.int/\is.length=ds.length/\∀i∈is,-9<=i/\i<=300)/\Room K r t'.S
 | [],r,S,z,h=>W_compL_nil.mpr ⟨⟨[],rfl,rfl,λ_ q=>nomatch q⟩,h⟩
 | d :: ds,r,S,z,h=>by
   rw [Fv];refine Gc ?_;right;rw [if_pos rfl];right;refine ht.use (r:=r + ds.length) 310 h λi S1 i0 i1 p1=>?_;right;refine (Ln ht ds r S1 _ p1).mono ?_;rintro xs t' ⟨⟨is,rfl,e,hi⟩,h2⟩;exact ⟨⟨(i - 9) :: is,rfl,by rw [uh5,e];rfl,λj hj=>(ul9.mp hj).elim (λq=>by lia) (hi j)⟩,h2⟩
noncomputable def sg8 (i:Int):Nat:=[32,126,97,122,65,90,48,57].getD i.toNat 32
theorem Q5 (i:Int):atI (Str.ofString " ~azAZ09").cps.toList (i % 8)=some (sg8 (i % 8))/\Bo (sg8 (i % 8))=true:=by
 have e:(Str.ofString " ~azAZ09").cps.toList=[32,126,97,122,65,90,48,57]:=by decide +kernel
 rw [e];have:i % 8=0\/i % 8=1\/i % 8=2\/i % 8=3\/i % 8=4\/i % 8=5\/i % 8=6\/i % 8=7:=by lia
 rcases this with h | h | h | h | h | h | h | h <;> rw [h] <;> exact ⟨rfl,by decide⟩
def ch8 (p:Int)(d:D):Nat:=match d with
 | .int k=>sg8 ((k * k / 7 + p) % 8)
 | _=>32
noncomputable def nineS:List Sh:=(List.range 9).map λ(k:Nat)=>.number (0 - (k:Int)) (300 * (k:Int))
noncomputable def OR (d:D):D:=match d with
 | .int k=>.tup [.str (Str.ofString "number"),.int (0 - k),.int (300 * k)]
 | _=>d
theorem X3:(rngL 0 9).map OR=shD nineS:=rfl
theorem Vo:wf (.choice nineS)=true:=by decide
def grG (s:Sh):List GS:=[.st sL [(Str.ofString "a",.text 250,1)],.st sR [(Str.ofString "b",.list (.number (-9) 300) 250,2)],.st sL [(Str.ofString "c",.choice nineS,3)],.st sR [(Str.ofString "d",s,4),(Str.ofString "e",s,0)],.fin]
noncomputable def mvG (x:Str)(is:List Int)(p:Nat)(v:D):List Mv:=[(0,.str x),(0,.lst (is.map D.int)),(0,.tup [.str (Str.ofString "of"),.int (p:Int),.int (300 * (p:Int))]),(0,v)]
theorem XI (h1:wf s=true)(h2:s.depth<=6):GOk (grG s):=by
 have hn:∀{x:Str} {z:Sh} {i:Int},wf z=true->z.depth<=6->0<=i->i < 5->x.length<=90000->WOk 5 (x,z,i):=λa b c d e=>⟨a,b,c,d,e⟩;refine ⟨by show 0 < 5;decide,by show 5<=30;decide,λx hx=>?_⟩;show GSOk 5 x;simp only [grG,ul9,ui3,or_false] at hx;rcases hx with rfl | rfl | rfl | rfl | rfl
 ·exact .st (.inl rfl) (by decide) (by decide) (by simp) λw hw=>by rw [uf8.mp hw];exact hn (by decide) (by decide) (by decide) (by decide) (by decide +kernel)
 ·exact .st (.inr rfl) (by decide) (by decide) (by simp) λw hw=>by rw [uf8.mp hw];exact hn (by decide) (by decide) (by decide) (by decide) (by decide +kernel)
 ·exact .st (.inl rfl) (by decide) (by decide) (by simp) λw hw=>by rw [uf8.mp hw];exact hn Vo (by decide) (by decide) (by decide) (by decide +kernel)
 ·refine .st (.inr rfl) (by show 0 < 2;decide) (by show 2<=9;decide) (by show [Str.ofString "d",Str.ofString "e"].Nodup;decide +kernel) λw hw=>?_;simp only [ul9,ui3,or_false] at hw;rcases hw with rfl | rfl
  ·exact hn h1 h2 (by decide) (by decide) (by decide +kernel)
  ·exact hn h1 h2 (by decide) (by decide) (by decide +kernel)
 ·exact .fin
theorem PU {s:Sh}{n:Nat}:∀(ds:List D),(∀d∈ds,(As s d).length<=n)->((ds.map λd=>As s d).flatten).length<=ds.length * n
 | [],_=>uo8 _
 | d :: r,h=>by
   have h1:=PU r λx m=>h x (ud9 _ m);have h2:=h d uf2;rw [um0,ug5,uf6,uh5,Nat.add_mul,Nat.one_mul];lia
theorem NV (h:p < 9):nineS[p]?=some (.number (0 - (p:Int)) (300 * (p:Int))):=by
 unfold nineS;rw [ug3,List.getElem?_range h];rfl
theorem X2 {is:List Int}(hx:(x.length:Int)<=250)(hxs:x.cps.toList.all Bo=true)(hi:is.length<=100)(hir:∀i∈is,-9<=i/\i<=300)(hp:p < 9)(hv:Aj s v=true)(hb:(As s v).length<=400):TOk (grG s) (mvG x is p v):=by
 have f2:Aj (.list (.number (-9) 300) 250) (.lst (is.map D.int))=true:=by
  simp only [Aj,uh9,uh2,ui2,uj3];refine ⟨by lia,λd hd=>?_⟩;obtain ⟨i,hi2,rfl⟩:=uo1.mp hd;have:=hir i hi2;simp only [uh9,uh2];exact this
 have ho:FC (Str.ofString "of")=true:=by decide +kernel
 have f3:Aj (.choice nineS) (.tup [.str (Str.ofString "of"),.int (p:Int),.int (300 * (p:Int))])=true:=by
  have h1:decide ((0:Int)<=p)=true:=ul7 (by lia);have h2:decide ((p:Int) < (nineS.length:Int))=true:=ul7 (by show (p:Int) < 9;lia);simp only [Aj,ho,h1,h2,um8,um6,ug4,BX nineS _ _ _ (NV hp),uh9,uh2];lia
 refine ⟨⟨⟨by show 0 < 5;decide,by show 0 < 1;decide,?_⟩,⟨by show 1 < 5;decide,by show 0 < 1;decide,f2⟩,⟨by show 2 < 5;decide,by show 0 < 1;decide,f3⟩,⟨by show 3 < 5;decide,by show 0 < 2;decide,hv⟩,trivial⟩,⟨?_,?_,?_,hb,trivial⟩,by show 4<=100;decide⟩
 ·show Aj (.text 250) (.str x)=true;simp only [Aj,uh9,uh2];exact ⟨hx,hxs⟩
 ·show (As (.text 250) (.str x)).length<=400;rw [As,uh5,uj3,<-Dq];lia
 ·show (As (.list (.number (-9) 300) 250) (.lst (is.map D.int))).length<=400;have:=PU (s:=.number (-9) 300) (n:=2) (is.map D.int) λd hd=>by
   obtain ⟨i,_,rfl⟩:=uo1.mp hd;rw [As,Gm];decide
  rw [uj3] at this;rw [As,uh5];lia
 ·show (As (.choice nineS) (.tup [.str (Str.ofString "of"),.int (p:Int),.int (300 * (p:Int))])).length<=400;rw [As,ug4,Dk nineS _ _ _ (NV hp),As,uh5,Gm];have:=HN 3 (300 * (p:Int) - (0 - (p:Int))).toNat (by show _ < 16777216;lia);lia
def Pk (f:Fn):Prop:=∀(ns:List Int) (S:List Ob),Wf f [.scr ns] S λr _=>∃(s:Sh) (x:Str) (is:List Int) (p:Nat) (v:D),GOk (grG s)/\TOk (grG s) (mvG x is p v)/\r = .lst [.lst ((grG s).map GS.d),.lst (Ap (grG s) 0 (mvG x is p v))]
theorem QI (ht:PTakeOk ct)(hp:JB cp):Pk (fnOf 1 13 (E2 ct cp)):=by
 intro ns S;have hL:LIM=100000:=rfl;refine Aq rfl ?_;unfold E2;right;refine Rl ?_;right;refine (hp [_] 0 S (by show 0 < 1;decide) (by show 1<=10;decide)).mono ?_;rintro r1 S1 ⟨K,rfl,p1⟩;refine Bn ?_;right;refine ht.use (r:=1000) 8 (p1.mono (by decide)) λi S2 i0 i1 p2=>?_;right;refine BS (λr t=>∃(s:Sh) (v:D) (S':List Ob) (e4 e5:Option Sl),(∃j,j<=5/\r=(rngL 0 (5:Int).toNat).drop j/\s.depth<=1 + j/\(As s v).length<=1 + 4 * j/\Room K (900 + r.length) S')/\wf s=true/\Aj s v=true/\t=⟨[some (.val (.scr ns)),some (.val (.obj K)),some (.val (s.d)),some (.val (v)),e4,e5,none,none,none,none,none,none,none],S'⟩) _ _ ⟨.number 0 7,.int i,S2,none,none,⟨0,by decide,rfl,by decide,by rw [As,Gm];decide,p2.mono (by decide)⟩,by decide,by simp only [Aj,uh9,uh2];lia,rfl⟩ ?_ ?_
 ·rintro d r t ⟨s,v,S',e4,e5,⟨j,hj5,hr,h1,h2,h3⟩,h4,h5,rfl⟩ _;obtain ⟨rfl,hr',hlt⟩:=C3 hr;have hlt:j < 5:=hlt;right;refine ht.use (r:=900 + r.length) 3 h3 λw S3 w0 w1 p3=>?_;right;have ho:FC (Str.ofString "of")=true:=by decide +kernel
  obtain rfl | rfl | rfl:w=0\/w=1\/w=2:=by lia
  ·right;refine ⟨.list s 250,.lst [v],S3,_,_,⟨j + 1,hlt,hr',by rw [Sh.depth];lia,?_,p3⟩,by simp only [wf,h4,um5];decide,by simp only [Aj,um2,List.all_nil,h5,um5];exact ul7 (by show (1:Int)<=250;decide),rfl⟩;rw [As,um0,un8,ug5,ui5,uj5,uh5];lia
  ·right;refine ⟨.pair s (.text 3),.tup [v,.str (Str.ofString "a~")],S3,_,_,⟨j + 1,hlt,hr',by rw [Sh.depth,Sh.depth];lia,?_,p3⟩,by simp only [wf,h4,um6];decide,by simp only [Aj,h5,um6];decide +kernel,rfl⟩;rw [As,uf6,show (As (.text 3) (.str (Str.ofString "a~"))).length=3 by decide +kernel];lia
  ·right;refine ⟨.choice [.nothing,s],.tup [.str (Str.ofString "of"),.int 1,v],S3,_,_,⟨j + 1,hlt,hr',by rw [Sh.depth,DI,DI,DI,Sh.depth];lia,?_,p3⟩,by simp only [wf,wfs,h4,um5,uh5,uk1];rfl,?_,rfl⟩
   ·rw [As,uh5];show (HY [.nothing,s] 1 v).length + 1<=_;rw [Dk [.nothing,s] 1 s v rfl];lia
   ·simp only [Aj,ho,um6];show (decide ((0:Int)<=1) && decide ((1:Int) < 2) && Ig [.nothing,s] 1 v)=true;rw [BX [.nothing,s] 1 s v rfl,h5];decide
 rintro t ⟨s,v,S',e4,e5,⟨j,hj5,hr,h1,h2,h3⟩,h4,h5,rfl⟩;have hd6:s.depth<=6:=by lia
 have hb:(As s v).length<=400:=by lia
 clear h1 h2 hr hj5;have h3:Room K 900 S':=h3;refine Bn ?_;right;refine (EQ (f:=OR) (fr:=[]) ?_).mono ?_
 ·intro d hd;obtain ⟨k,rfl,k0,k1⟩:=LN hd;right;refine EO (EC (by decide) (by decide)) ?_;right;exact ⟨rfl,rfl⟩
 rintro xs t' ⟨rfl,hS⟩;have hS:t'.S=S':=hS;refine Bx (by rw [uj3,A3,hL];decide) ?_;rw [hS];right;rw [show (rngL 0 (Int.toNat 9)).map OR=shD nineS from X3];refine ht.use (r:=899) 9 h3 λp S3 p0 p1' q1=>?_;obtain ⟨p,rfl⟩:=uc1 p0;have hp9:p < 9:=by lia
 right;refine Uo ?_;right;refine ht.use (r:=898) 3 q1 λa S4 a0 a1 q2=>?_;right;refine Dy (Br (by lia) (by lia)) ?_;refine (EQ (f:=λd=>.str ⟨#[ch8 (p:Int) d]⟩) (fr:=[some (.val (.str (Str.ofString " ~azAZ09"))),some (.val (.int (p:Int)))]) ?_).mono ?_
 ·intro d hd;obtain ⟨k,rfl,k0,k1⟩:=LN hd;right;refine EO (KQ (by lia) (by lia)) ?_;right;refine W_ix_str.mpr ⟨by decide +kernel,_,(Q5 _).1,?_⟩;exact ⟨rfl,rfl⟩
 rintro xs t' ⟨rfl,hS4⟩;have hS4:t'.S=S4:=hS4;refine Bx (by rw [uj3,A3,hL];lia) ?_;rw [hS4];right;have e1:(rngL 0 (250 - a).toNat).map (λd=>D.str ⟨#[ch8 (p:Int) d]⟩)=((rngL 0 (250 - a).toNat).map (ch8 (p:Int))).map λn=>D.str ⟨#[n]⟩:=by rw [uo2];rfl
 refine ⟨_,_,_,rfl,rfl,by rw [e1];exact FS _,⟨by decide +kernel,by rw [uj3,uj3,A3];lia⟩,?_⟩;obtain ⟨x,hx⟩:∃x,x=Txt.join (Str.ofString "") (((rngL 0 (250 - a).toNat).map (ch8 (p:Int))).map λn=>(⟨#[n]⟩:Str)):=⟨_,rfl⟩;have hx1:(x.length:Int)<=250:=by rw [hx,Dq,Fh,uj3,A3];lia
 have hx2:x.cps.toList.all Bo=true:=by
  rw [hx,Fh,ui2];intro z hz;obtain ⟨d,hd,rfl⟩:=uo1.mp hz;obtain ⟨k,rfl,_,_⟩:=LN hd;exact (Q5 _).2
 rw [<-hx];right;refine ht.use (r:=897) 3 q2 λb S5 b0 b1 q3=>?_;right;refine Dy (Br (by lia) (by lia)) ?_;refine (Ln ht (rngL 0 (100 - b).toNat) 700 S5 _ (q3.mono (by rw [A3];lia))).mono ?_;rintro xs t' ⟨⟨is,rfl,hil,hir⟩,_⟩;rw [A3] at hil;refine Bx (by rw [uj3,hil,hL];lia) ?_;right;refine EO (EC (by decide) (by decide)) ?_;right;exact ⟨s,x,is,p,v,XI h4 hd6,X2 hx1 hx2 (by lia) hir hp9 h5 hb,rfl⟩
theorem Zj {f:M (List D)}{P:List D->T->Prop}(h:W f t λds t1=>W (O3 ds) t1 P):W (JN f) t P:=W_bnd.mpr h
theorem aK {c:Nat}{P:List D->T->Prop}(hc:1<=c)(hc1:c<=1000)(hb:b<=90000)(h:∀n:Nat,b<=n * c->(∀i,i < n->i * c < b)->P ((List.range n).map λi:Nat=>D.int ((i * c:Nat):Int)) t):W (O3 [.int 0,.int (b:Nat),.int (c:Nat)]) t P:=by
 have e:Builtin.Range.rangeSize 0 (b:Int) (c:Int)=((if b=0 then 0 else (b - 1) / c + 1:Nat):Int):=by
  unfold Builtin.Range.rangeSize;rw [if_pos (by lia)]
  split
  ·rw [if_neg (by lia),show (b:Int) - 0 - 1=((b - 1:Nat):Int) by lia]
   norm_cast
  ·rw [if_pos (by lia)];rfl
 have hdiv:(b - 1) / c<=b - 1:=Nat.div_le_self _ _;have hn:rngS 0 (b:Int) (c:Int)=if b=0 then 0 else (b - 1) / c + 1:=by unfold rngS;rw [e];exact ug4 _
 have hsz:(if b=0 then 0 else (b - 1) / c + 1:Nat)<=90001:=by split <;> lia
 refine ⟨_,_,(by show (if _ then _ else _)=_;rw [if_pos ⟨⟨by lia,by lia⟩,?_,by rw [e];lia⟩]),?_⟩
 ·have em:(List.range (rngS 0 (b:Int) (c:Int))).map (λi:Nat=>D.int (0 + (i:Int) * (c:Int)))=(List.range (rngS 0 (b:Int) (c:Int))).map λi:Nat=>D.int ((i * c:Nat):Int):=ue7 λi _=>by rw [uo4,Int.natCast_mul]
  rw [em,hn]
  by_cases z:b=0
  ·rw [if_pos z];exact h 0 (by lia) λi hi=>absurd hi (uk4 _)
  ·rw [if_neg z];refine h _ ?_ λi hi=>?_
   ·have:=Nat.lt_mul_div_succ (b - 1) (show 0 < c by lia);rw [un7] at this;lia
   ·have h1:i<=(b - 1) / c:=by lia
    have h2:=(Nat.le_div_iff_mul_le (show 0 < c by lia)).mp h1;lia
 ·unfold Builtin.Range.small Builtin.Range.rangeFitsLong;rw [if_pos (by lia)];simp only [uh9,uk3,uh2];refine ⟨⟨⟨⟨⟨?_,?_⟩,?_,?_⟩,?_,?_⟩,?_,?_⟩,.inr ⟨?_,?_⟩⟩ <;> lia
theorem Xb (h:a<=w.length):Da (wD w) (some (a:Int)) (some ((a:Int) + (b:Int)))=wD ((w.drop a).take b):=by
 rw [<-Int.natCast_add];unfold Da;rw [HT.K3,HT.K3,AE];unfold wD;rw [um4,List.map_drop,uk9 h,ud8 (i:=b),uh8,uj3,ud8,uh8,uj3]
 congr 1
 lia
section
variable {g:List GS}{mv:List Mv}{wl wr:List Nat}{k l r W K:Nat}
structure F35 (g:List GS)(mv:List Mv)(wl wr:List Nat)(k l r W K:Nat)(S:List Ob)(rl rr c P:Nat):Prop where
 hl:rl<=wl.length
 hr:rr<=wr.length
 du:Due g mv rl rr c
 ch:Rch g (wl.take rl) (wr.take rr) (Ap g 0 (mv.take c)) (lastQ g 0 (mv.take c)) (Ai g sL 0 (mv.take c)).length (Ai g sR 0 (mv.take c)).length
 rd:Rdr 0 S k g (wl.take rl) (wr.take rr) (lastQ g 0 (mv.take c)) (Ai g sL 0 (mv.take c)).length (Ai g sR 0 (mv.take c)).length W P l r
 kw:S[K]?=some (.dct (dW wl wr))
 nk:K≠k/\K≠l/\K≠r
theorem Iy (h:j < mv.length):0 < (prt g mv j).length:=by
 unfold prt;rw [ub4 h];exact Nat.succ_pos _
theorem onq {s:Str}{q a b:α}:onS s (onS s q a) (onS s b q)=q:=by unfold onS;split <;> rfl
theorem F35.feed (hf:DQ cf)(hg:GOk g)(hok:okQ g 0 mv)(el:wD wl=Ai g sL 0 mv)(er:wD wr=Ai g sR 0 mv)(l1:wl.length<=45000)(l2:wr.length<=45000){S:List Ob}{a b q m c P:Nat}{x:List Nat}{side:Str}(hs:side=sL\/side=sR)(J:F35 g mv wl wr k l r W K S (onS side q a) (onS side b q) c P)(hx:((onS side wl wr).drop q).take m=x)(hm:q + m<=(onS side wl wr).length) :
 Wf cf [.obj k,.str side,.lst (wD x)] S λz S'=>A1 z=false/\∃c' P',z = .lst ((Ap g 0 (mv.take c')).drop c)/\Ap g 0 (mv.take c)++(Ap g 0 (mv.take c')).drop c=Ap g 0 (mv.take c')/\F35 g mv wl wr k l r W K S' (onS side (q + m) a) (onS side b (q + m)) c' P':=by
 have hL:=J.hl;have hR:=J.hr;have h1:onS side (q + m) a<=wl.length:=by
  revert hm hL;unfold onS
  split
  ·exact λh _=>h
  ·exact λ_ h=>h
 have h2:onS side b (q + m)<=wr.length:=by
  revert hm hR;unfold onS
  split
  ·exact λ_ h=>h
  ·exact λh _=>h
 obtain ⟨c',hD⟩:=Pz (g:=g) (mv:=mv) (rl:=onS side (q + m) a) (rr:=onS side b (q + m)) mv.length 0 (un9 _) (uo8 _) (uo8 _);refine (Xs (m:=m) hf hg hok el er l1 l2 hs J.ch J.rd J.du.le (by rw [onq];exact hx) (by unfold onS;split <;> rfl) (by unfold onS;split <;> rfl) h1 h2 hD).mono ?_
 rintro z S' ⟨e0,KK,P',rfl,e1,e2,e3⟩;exact ⟨e0,c',P',rfl,e1,⟨h1,h2,hD,e2,e3,KK.get J.kw J.nk.1 J.nk.2.1 J.nk.2.2,J.nk⟩⟩
theorem NY (hf:DQ cf)(hg:GOk g)(hok:okQ g 0 mv)(hml:mv.length<=100)(el:wD wl=Ai g sL 0 mv)(er:wD wr=Ai g sR 0 mv)(l1:wl.length<=45000)(l2:wr.length<=45000){c:Nat}(hc:1<=c)(hc1:c<=1000){S:List Ob}{a b c0 P:Nat}{side:Str}(hs:side=sL\/side=sR)(J:F35 g mv wl wr k l r W K S (onS side 0 a) (onS side b 0) c0 P){e7:Option Sl} :
 F2.W (Bj (JN (Aa (fC (.int 0)) (Aa (fB (Aa (Ac (Ab 2) (Ab 6) AJ) Ad) AM) (Aa (Ab 3) Ad)))) (AA 7) (Ar 5 (Ac (Ab 5) (BG "Reader" (B5 cf) (Ab 4) (Aa (Ab 6) (Aa (fSl (Ac (Ab 2) (Ab 6) AJ) (Dh (Ab 7)) (Dh (Ac (Ab 7) (Ab 3) AO)) FQ) Ad))) AO))) ⟨[some (.val (.lst (g.map GS.d))),some (.val (.lst (Ap g 0 mv))),some (.val (.obj K)),some (.val (.int (c:Nat))),some (.val (.obj k)),some (.val (.lst (Ap g 0 (mv.take c0)))),some (.val (.str side)),e7],S⟩ λo t=>o = .next/\∃S' c' P' e7',F35 g mv wl wr k l r W K S' (onS side wl.length a) (onS side b wr.length) c' P'/\t=⟨[some (.val (.lst (g.map GS.d))),some (.val (.lst (Ap g 0 mv))),some (.val (.obj K)),some (.val (.int (c:Nat))),some (.val (.obj k)),some (.val (.lst (Ap g 0 (mv.take c')))),some (.val (.str side)),e7'],S'⟩:=by
 have hL:LIM=100000:=rfl;have hw:∀{S':List Ob},S'[K]?=some (.dct (dW wl wr))->∀{t:T} {Q:D->T->Prop},t.S=S'->Q (.lst (wD (onS side wl wr))) t->F2.W (AJ (.obj K) (.str side)) t Q:=by
  intro S' h t Q e q;refine A4 (by rw [e];exact h) ?_ q;rcases hs with rfl | rfl
  ·exact Dr (.inl rfl)
  ·exact Dr (.inr rfl)
 have hol:(onS side wl wr).length<=45000:=by unfold onS;split <;> assumption
 refine TK ?_;refine Zj ?_;symm;refine hw J.kw rfl ?_;symm;rw [AE];refine aK hc hc1 (by lia) λn hn1 hn2=>?_;refine BS (λr' t=>∃(j q c' P':Nat) (S':List Ob) (e7':Option Sl),r'=((List.range n).map λi:Nat=>D.int ((i * c:Nat):Int)).drop j/\j<=n/\q=min (j * c) (onS side wl wr).length/\F35 g mv wl wr k l r W K S' (onS side q a) (onS side b q) c' P'/\t=⟨[some (.val (.lst (g.map GS.d))),some (.val (.lst (Ap g 0 mv))),some (.val (.obj K)),some (.val (.int (c:Nat))),some (.val (.obj k)),some (.val (.lst (Ap g 0 (mv.take c')))),some (.val (.str side)),e7'],S'⟩) _ _ ⟨0,0,c0,P,S,e7,rfl,uo8 _,by rw [Nat.zero_mul,Nat.zero_min],J,rfl⟩ ?_ ?_
 ·rintro d r' t ⟨j,q,c',P',S',e7',hr,hj,hq,J',rfl⟩ _;have hjn:j < n:=by
   rcases uo3 j n with z | z
   ·exact z
   ·rw [ud0 (by rw [uj3,uh1];exact z)] at hr;cases hr
  rw [ub3 (by rw [uj3,uh1];exact hjn),ui7,List.getElem_range] at hr;injection hr with hd hr
  subst hd hr;have hjc:=hn2 j hjn;have hqj:q=j * c:=by rw [hq];exact uk9 (un4 hjc)
  subst hqj;clear hq;symm;refine ⟨k,_,rfl,J'.rd.k,?_⟩;symm;refine hw J'.kw rfl ?_;symm;rw [Xb (un4 hjc)];have hx:((onS side wl wr).drop (j * c)).take (min c ((onS side wl wr).length - j * c))=((onS side wl wr).drop (j * c)).take c:=by rw [ud8 (i:=c),uh8]
  rw [<-hx];refine FX ?_;refine (J'.feed hf hg hok el er l1 l2 hs (m:=min c ((onS side wl wr).length - j * c)) rfl (by lia)).mono ?_;rintro z S'' ⟨e0,c2,P2,rfl,e1,J2⟩;refine ⟨e0,?_⟩;symm;have hl1:=J2.du.le;have hl2:=J'.du.le;refine Bx (by have:=congrArg List.length e1;rw [uf6,AX,AX,uh7,uh7] at this;rw [AX,uh7,hL];lia) ?_;rw [e1];refine ⟨j + 1,_,c2,P2,S'',_,rfl,hjn,?_,J2,rfl⟩;rw [Nat.add_mul,Nat.one_mul];lia
 ·rintro t ⟨j,q,c',P',S',e7',hr,hj,hq,J',rfl⟩;have hjn:j=n:=by
   have:=congrArg List.length hr;rw [uk1,uh8,uj3,uh1] at this;lia
  subst hjn;have hqe:q=(onS side wl wr).length:=by rw [hq];exact Nat.min_eq_right hn1
  subst hqe;refine ⟨rfl,S',c',P',e7',?_,rfl⟩;have e1:onS side (onS side wl wr).length a=onS side wl.length a:=by unfold onS;split <;> rfl
  have e2:onS side b (onS side wl wr).length=onS side b wr.length:=by unfold onS;split <;> rfl
  rw [e1,e2] at J';exact J'
end
theorem F4 {g:List GS}(hg:GOk g):∀{mv:List Mv} {q:Nat},okQ g q mv->∀x∈Ap g q mv,Rq 8 x
 | [],q,_,x,hx=>nomatch hx
 | (p,v) :: r,q,hk,x,hx=>by
   rw [okQ] at hk;rw [Ap] at hx;rcases ul9.mp hx with e | hx
   ·subst e;have hw:=Fl hg hk.1.lt hk.1.pl;unfold De;exact Kg (n:=7) (WZ QW QW ((Xw hw.dep hw.ok hk.1.fit).rq.mono (by decide)))
   ·exact F4 hg hk.2 x hx
theorem NH (hg:GOk g){mv:List Mv}(hk:okQ g 0 mv):eqN EQD (.lst (Ap g 0 mv)) (.lst (Ap g 0 mv))=some true:=M0 (F4 hg hk) EQD (by decide)
theorem Mp (hg:GOk g){mv:List Mv}(hk:okQ g 0 mv){i a b:Int}:eqN EQD (.tup [.lst (Ap g 0 mv),.int i,.tup [.int a,.int b]]) (.tup [.lst (Ap g 0 mv),.int i,.tup [.int a,.int b]])=some true:=by
 refine Kg (n:=20) (WZ ((M0 (F4 hg hk)).mono (by decide)) MZ (Kg (n:=19) λd hd=>?_)) EQD (by decide);simp only [ul9,ui3,or_false] at hd;rcases hd with rfl | rfl <;> exact MZ
variable {ci:Fn}
section
variable {g:List GS}{mv:List Mv}{wl wr:List Nat}
theorem Zw:Due g mv 0 0 0:=by
 refine ⟨uo8 _,uo7 0,uo7 0,?_⟩
 by_cases z:mv.length=0
 ·exact .inl z.symm
 ·refine .inr ⟨by lia,?_⟩;have:=Iy (g:=g) (mv:=mv) (j:=0) (by lia);have e:∀s:Str,onS s 0 0=0:=λs=>by unfold onS;split <;> rfl
  rw [e];exact uf1 this (uk6 _ _)
theorem Qd (hi:Gf ci)(hg:GOk g){S:List Ob}{K:Nat}(hK:S[K]?=some (.dct (dW wl wr))):Wf ci [.obj S.length,.lst (g.map GS.d)] (S++[.ins "Reader" []]) λq S'=>q = .non/\∃W P l r,F35 g mv wl wr S.length l r W K S' 0 0 0 P:=by
 have hKl:=Ed hK;refine (hi (S++[.ins "Reader" []]) S.length g hg B0).mono ?_;rintro q S1 ⟨rfl,h1,h2,W,P,l,r,R⟩;have:=R.l0;have:=R.r0;exact ⟨rfl,W,P,l,r,⟨uo8 _,uo8 _,Zw,Rch.start hg,⟨uo8 _,uo8 _,uo8 _,R.ne,R.k,R.w,R.p,R.l,R.r⟩,(h1 K (by rw [uf6];lia) (by lia)).trans (Bt hK),⟨by lia,by lia,by lia⟩⟩⟩
end
def LPc (f:Fn):Prop:=∀(g:List GS) (mv:List Mv) (wl wr:List Nat) (K c:Nat) (S:List Ob),GOk g->TOk g mv->wD wl=Ai g sL 0 mv->wD wr=Ai g sR 0 mv->wl.length<=45000->wr.length<=45000->1<=c->c<=1000->S[K]?=some (.dct (dW wl wr))->Wf f [.lst (g.map GS.d),.lst (Ap g 0 mv),.obj K,.int (c:Nat)] S λr _=>r = .bl true
theorem XX (hf:DQ cf)(hi:Gf ci):LPc (fnOf 4 8 (DJ (fnOf 1 1 (BT (fnOf 2 2 Bc))) cf ci)):=by
 intro g mv wl wr K c S hg hT el er l1 l2 hc hc1 hK;refine Aq rfl ?_;unfold DJ;symm;refine (Qd (mv:=mv) hi hg hK).mono ?_;rintro q S1 ⟨rfl,W,P,l,r,J0⟩;refine ⟨rfl,?_⟩;symm;refine W_forL_cons.mpr ?_;refine Gc ?_;refine (NY (a:=0) (b:=0) (c0:=0) (side:=sR) hf hg hT.ok hT.len el er l1 l2 hc hc1 (.inr rfl) J0).mono ?_;rintro o t ⟨rfl,S2,c2,P2,e7,J2,rfl⟩;refine W_forL_cons.mpr ?_;refine Gc ?_;refine (NY (a:=0) (b:=wr.length) (c0:=c2) (side:=sL) hf hg hT.ok hT.len el er l1 l2 hc hc1 (.inl rfl) J2).mono ?_;rintro o t ⟨rfl,S3,c3,P3,e8,J3,rfl⟩;refine W_forL_nil.mpr ?_;have J3:F35 g mv wl wr S.length l r W K S3 wl.length wr.length c3 P3:=J3;have hc3:=UE el er hg hT.ok J3.du;subst hc3;have hrd:=J3.rd;rw [ui9,ui9,ui9,<-el,<-er,AE,AE] at hrd;rw [ui9];symm;refine EG rfl (NH hg hT.ok) ?_;symm;refine ⟨S.length,_,rfl,hrd.k,W_ret.mpr ?_⟩;refine (Lu hrd).use ?_;symm;refine Um (by lia) (by lia) ?_;rfl
section
variable {g:List GS}{mv:List Mv}{wl wr:List Nat}{k l r W K:Nat}
theorem Xe (hok:okQ g 0 mv){j:Nat}(hj:j<=mv.length):Due g mv (Ai g sL 0 (mv.take j)).length (Ai g sR 0 (mv.take j)).length j:=by
 refine ⟨hj,uo7 _,uo7 _,?_⟩
 by_cases z:j=mv.length
 ·exact .inl z
 ·refine .inr ⟨by lia,?_⟩;have:=Iy (g:=g) (mv:=mv) (j:=j) (by lia);lia
theorem F6 {sd:Str}(em:mv[j]?=some (p,v))(es:(AF g (lastQ g 0 (mv.take j))).side=sd)(s:Str)(hs:s=sL\/s=sR)(hsd:sd=sL\/sd=sR):(Ai g s 0 (mv.take (j + 1))).length=(Ai g s 0 (mv.take j)).length + (if sd=s then (prt g mv j).length else 0):=by
 rw [EW s em,uf6,es]
 split <;> simp
theorem Pt {i:Nat}{sd:Str}{ws:List Nat}(em:mv[j]?=some (p,v))(es:(AF g (lastQ g 0 (mv.take j))).side=sd)(e:wD w=Ai g sd 0 mv)(hw:wD ws=prt g mv j)(hi:i < ws.length):(w.drop ((Ai g sd 0 (mv.take j)).length + i)).take 1=[ws[i]]:=by
 obtain ⟨P0,Q0,h1,h2⟩:=Qs em es e;have h3:w[(Ai g sd 0 (mv.take j)).length + i]?=some ws[i]:=by
  have h4:(wD w)[(Ai g sd 0 (mv.take j)).length + i]?=some (.int (ws[i]:Nat)):=by
   rw [h1,<-h2,ua6 (by lia),Nat.add_sub_cancel_left,<-hw,ub2 (by rw [AE];exact hi)];unfold wD;rw [ug3,ub4 hi];rfl
  unfold wD at h4;rw [ug3] at h4
  cases e5:w[(Ai g sd 0 (mv.take j)).length + i]? with
  | none=>rw [e5] at h4;cases h4
  | some y=>
    rw [e5] at h4;have h6:D.int (y:Int) = .int (ws[i]:Nat):=uj2 h4;injection h6 with h6
    exact congrArg some (Int.ofNat.inj h6)
 obtain ⟨hlt,h7⟩:=ub1.mp h3;rw [ub3 hlt,h7];rfl
theorem SE (hf:DQ cf)(hg:GOk g)(hT:TOk g mv)(el:wD wl=Ai g sL 0 mv)(er:wD wr=Ai g sR 0 mv)(l1:wl.length<=45000)(l2:wr.length<=45000){ps:List (List Nat)}(hps:PsX g mv mv.length ps){j:Nat}(hj:j < mv.length){S:List Ob}{P:Nat}(J:F35 g mv wl wr k l r W K S (Ai g sL 0 (mv.take j)).length (Ai g sR 0 (mv.take j)).length j P){e0 e1 e3 e8 e9:Option Sl} :
 F2.W (Bj (A5 (Aa (fB (Aa (Ac (Ab 5) (Ab 7) ixD) Ad) AM) Ad)) (AA 8)
 (Ae (Ar 9 (Ac (Aw (AG (Aa (Ac (Ab 2) (Ab 7) ixD) Ad))) (fB (Aa (Ac (Ab 8) (Ac (fB (Aa (Ac (Ab 5) (Ab 7) ixD) Ad) AM) (fC (.int 1)) Bs) (eqS id)) Ad) GN) B4))
 (ifS (Ao (Ac (BG "Reader" (B5 cf) (Ab 6) (Aa (Ac (Ac (Ab 2) (Ab 7) ixD) (fC (.int 0)) ixD) (Aa (Aw (AG (Aa (Ac (Ac (Ab 5) (Ab 7) ixD) (Ab 8) ixD) Ad))) Ad))) (Ab 9) (eqS λb=>!b)))
   (An (fC (.bl false)))
   Au))) ⟨[e0,e1,some (.val (.lst (Ap g 0 mv))),e3,some (.val (.lst (Bg g 0 mv))),some (.val (.lst (ps.map λw=>.lst (wD w)))),some (.val (.obj k)),some (.val (.int (j:Nat))),e8,e9],S⟩ λo t=>o = .next/\∃S' P' e8' e9',F35 g mv wl wr k l r W K S' (Ai g sL 0 (mv.take (j + 1))).length (Ai g sR 0 (mv.take (j + 1))).length (j + 1) P'/\t=⟨[e0,e1,some (.val (.lst (Ap g 0 mv))),e3,some (.val (.lst (Bg g 0 mv))),some (.val (.lst (ps.map λw=>.lst (wD w)))),some (.val (.obj k)),some (.val (.int (j:Nat))),e8',e9'],S'⟩:=by
 have hL:LIM=100000:=rfl;obtain ⟨p,v,em⟩:∃p v,mv[j]?=some (p,v):=⟨mv[j].1,mv[j].2,ub4 hj⟩;have hm:=Fo hT.ok em;obtain ⟨sd,ws,egs,_,_⟩:=EL hm.pl;have es:(AF g (lastQ g 0 (mv.take j))).side=sd:=by rw [egs];rfl
 have hsd:sd=sL\/sd=sR:=by
  have:=DB hg hm.lt;rw [egs] at this
  cases this with
  | st h1 _ _ _ _=>exact h1
 have hpl:j < ps.length:=by rw [hps.1];exact hj
 have epj:ps[j]?=some ps[j]:=ub4 hpl;obtain ⟨hw,hwl,_⟩:=hps.2 j ps[j] epj;have hmsg:=DZ g 0 mv j p v em;have eat:atI (ps.map λw=>D.lst (wD w)) (j:Int)=some (.lst (wD ps[j])):=by
  unfold atI;rw [Be (by lia) (by rw [uj3];lia)];show (ps.map λw=>D.lst (wD w))[(j:Int).toNat]?=_;rw [ug4,ug3,epj];rfl
 have emat:atI (Ap g 0 mv) (j:Int)=some (De g (lastQ g 0 (mv.take j)) p v):=by
  unfold atI;rw [Be (by lia) (by rw [AX];lia)];show (Ap g 0 mv)[(j:Int).toNat]?=_;rw [ug4];exact hmsg
 have hw':(prt g mv j).length=ps[j].length:=by rw [<-hw,AE]
 have hpos:=Iy (g:=g) (mv:=mv) hj;generalize ps[j]=wj at hw hwl eat hw';obtain ⟨nm,hmq⟩:∃nm:Str,De g (lastQ g 0 (mv.take j)) p v = .tup [.str sd,.str nm,v]:=⟨_,by unfold De;rw [es]⟩;have hrq:eqN EQD (.lst [.tup [.str sd,.str nm,v]]) (.lst [.tup [.str sd,.str nm,v]])=some true:=by
  rw [<-hmq];exact M0 (n:=8) (λd hd=>by rw [uf8.mp hd];exact F4 hg hT.ok _ (ue1 hmsg)) EQD (by decide)
 have hsnoc:Ap g 0 (mv.take (j + 1))=Ap g 0 (mv.take j)++[.tup [.str sd,.str nm,v]]:=by
  rw [show mv.take (j + 1)=mv.take j++[(p,v)] by rw [ul6,em];rfl,Hy,<-hmq];rfl
 have hlj:(Ap g 0 (mv.take j)).length=j:=by rw [AX,uh7];lia
 rw [hmq] at emat;obtain ⟨q0,hq0⟩:∃q0,q0=(Ai g sd 0 (mv.take j)).length:=⟨_,rfl⟩;obtain ⟨a,ha⟩:∃a,a=(Ai g sL 0 (mv.take j)).length:=⟨_,rfl⟩;obtain ⟨b,hb⟩:∃b,b=(Ai g sR 0 (mv.take j)).length:=⟨_,rfl⟩;have eq0:onS sd a b=q0:=by rw [ha,hb,hq0];rcases hsd with rfl | rfl <;> rfl
 have hgl:=F6 em es sL (.inl rfl) hsd;have hgr:=F6 em es sR (.inr rfl) hsd;rw [<-ha] at hgl;rw [<-hb] at hgr;have elw:wD (onS sd wl wr)=Ai g sd 0 mv:=by rcases hsd with rfl | rfl;exact el;exact er
 have hfull:q0 + wj.length<=(onS sd wl wr).length:=by
  have h:=congrArg List.length elw;rw [AE,Ep sd (j + 1),uf6,F6 em es sd hsd hsd,if_pos rfl,<-hq0,hw'] at h;lia
 have J:F35 g mv wl wr k l r W K S (onS sd (q0 + 0) a) (onS sd b (q0 + 0)) j P:=by
  rw [<-ha,<-hb] at J;have z1:onS sd (q0 + 0) a=a:=by rw [un9,<-eq0];unfold onS;split <;> rfl
  have z2:onS sd b (q0 + 0)=b:=by rw [un9,<-eq0];unfold onS;split <;> rfl
  rw [z1,z2];exact J
 refine TK ?_;refine Uv ?_;symm;refine AU eat ?_;symm;rw [AE];refine Dy (Br (by lia) (by lia)) ?_;rw [ug4];refine BS (λr' t=>∃(i c P':Nat) (S':List Ob) (e8' e9':Option Sl),r'=(rngL 0 wj.length).drop i/\i<=wj.length/\c=(if i=wj.length then j + 1 else j)/\F35 g mv wl wr k l r W K S' (onS sd (q0 + i) a) (onS sd b (q0 + i)) c P'/\t=⟨[e0,e1,some (.val (.lst (Ap g 0 mv))),e3,some (.val (.lst (Bg g 0 mv))),some (.val (.lst (ps.map λw=>.lst (wD w)))),some (.val (.obj k)),some (.val (.int (j:Nat))),e8',e9'],S'⟩) _ _ ⟨0,j,P,S,e8,e9,rfl,uo8 _,by rw [if_neg (by lia)],J,rfl⟩ ?_ ?_
 ·rintro d r' t ⟨i,c,P',S',e8',e9',hr,hi,hc,J',rfl⟩ _;obtain ⟨rfl,hr2,hlt⟩:=C3 hr;rw [if_neg (by lia)] at hc;rw [hc] at J';clear hc;rw [uo4];have eby:atI (wD wj) (i:Int)=some (.int (wj[i]:Nat)):=by
   unfold atI;rw [Be (by lia) (by rw [AE];lia)];show (wD wj)[(i:Int).toNat]?=_;unfold wD;rw [ug4,ug3,ub4 hlt];rfl
  symm;refine AU emat ?_;symm;refine AU eat ?_;symm;rw [AE];obtain ⟨bb,hbb⟩:∃bb:Bool,bb=id ((i:Int) == (wj.length:Int) - 1):=⟨_,rfl⟩;rw [<-hbb];refine aA ⟨by cases bb <;> decide,by cases bb <;> (show 1 * _<=100000;decide)⟩ ?_;symm;refine ⟨k,_,rfl,J'.rd.k,?_⟩;symm;refine AU emat ?_;symm;refine AU eat ?_;symm;refine AU eby ?_;symm;refine FX ?_;show Wf cf [.obj k,.str sd,.lst (wD [wj[i]])] S' _;refine (J'.feed hf hg hT.ok el er l1 l2 hsd (m:=1) (by rw [hq0];exact Pt em es elw hw hlt) (by lia)).mono ?_;rintro z S'' ⟨x0,c2,P2,rfl,x1,J2⟩;refine ⟨x0,?_⟩
  by_cases z:i + 1=wj.length
  ·have z1:onS sd (q0 + i + 1) a=(Ai g sL 0 (mv.take (j + 1))).length:=by
    rw [hgl,hw',<-eq0,<-z];rcases hsd with rfl | rfl
    ·rw [if_pos rfl];rfl
    ·rw [if_neg (by decide)];rfl
   have z2:onS sd b (q0 + i + 1)=(Ai g sR 0 (mv.take (j + 1))).length:=by
    rw [hgr,hw',<-eq0,<-z];rcases hsd with rfl | rfl
    ·rw [if_neg (by decide)];rfl
    ·rw [if_pos rfl];rfl
   have hD:Due g mv (onS sd (q0 + i + 1) a) (onS sd b (q0 + i + 1)) (j + 1):=by rw [z1,z2];exact Xe hT.ok hj
   have hc2:=Ja hg hT.ok el er J2.hl J2.hr J2.du hD;subst hc2;have hb1:bb=true:=by rw [hbb];simp only [id,beq_iff_eq];lia
   rw [hb1,hsnoc,List.drop_left' hlj];symm;refine EG rfl hrq ?_;symm;exact ⟨i + 1,_,P2,S'',_,_,hr2,hlt,by rw [if_pos z],J2,rfl⟩
  ·have hD:Due g mv (onS sd (q0 + i + 1) a) (onS sd b (q0 + i + 1)) j:=by
    refine ⟨un4 hj,?_,?_,.inr ⟨hj,?_⟩⟩
    ·rw [<-ha];unfold onS;split
     ·next h=>rw [h] at eq0;have eq0:a=q0:=eq0;lia
     ·exact uo7 _
    ·rw [<-hb];unfold onS;split
     ·exact uo7 _
     ·next h=>rw [show onS sd a b=b from if_neg h] at eq0;lia
    ·rw [es,onq,<-ha,<-hb,eq0,hw'];lia
   have hc2:=Ja hg hT.ok el er J2.hl J2.hr J2.du hD;subst hc2;have hb1:bb=false:=by rw [hbb];simp only [id,beq_eq_false_iff_ne,ne_eq];lia
   rw [hb1,ud0 (by lia)];symm;refine EG rfl rfl ?_;symm;exact ⟨i + 1,_,P2,S'',_,_,hr2,hlt,by rw [if_neg z],J2,rfl⟩
 ·rintro t ⟨i,c,P',S',e8',e9',hr,hi,hc,J',rfl⟩;have hie:i=wj.length:=by
   have:=congrArg List.length hr;rw [uk1,uh8,A3] at this;lia
  subst hie;rw [if_pos rfl] at hc;subst hc;refine ⟨rfl,S',P',e8',e9',?_,rfl⟩;have z1:onS sd (q0 + wj.length) a=(Ai g sL 0 (mv.take (j + 1))).length:=by
   rw [hgl,hw',<-eq0];rcases hsd with rfl | rfl
   ·rw [if_pos rfl];rfl
   ·rw [if_neg (by decide)];rfl
  have z2:onS sd b (q0 + wj.length)=(Ai g sR 0 (mv.take (j + 1))).length:=by
   rw [hgr,hw',<-eq0];rcases hsd with rfl | rfl
   ·rw [if_neg (by decide)];rfl
   ·rw [if_pos rfl];rfl
  rw [z1,z2] at J';exact J'
end
theorem Gj (w:List Nat):Jz (wD w):=λx hx=>by
 obtain ⟨y,_,rfl⟩:=uo1.mp hx;exact ⟨_,rfl⟩
theorem IZ {a b:List Nat}:AV (dW a b) (.inr sL)=some (.lst (wD a)):=Dr (.inl rfl)
theorem I9 {a b:List Nat}:AV (dW a b) (.inr sR)=some (.lst (wD b)):=Dr (.inr rfl)
theorem W9:Da (wD w) none (some (-1))=wD (w.take (w.length - 1)):=by
 unfold Da;rw [HT.M2,ul5,Nat.sub_zero];have e:HT.sIx (wD w).length (wD w).length (some (-1))=w.length - 1:=by simp only [HT.sIx,AE];rw [if_pos (by decide)];lia
 rw [e];unfold wD;rw [um4]
theorem Xa:Da xs none (some 3)=xs.take 3:=by
 unfold Da;rw [HT.M2,ul5,Nat.sub_zero,show (3:Int)=((3:Nat):Int) from rfl,HT.K3];exact (ud8 ..).symm
theorem Ww:atI (Bg g 0 mv) (-1)=some (.int (lastQ g 0 mv:Nat)):=by
 have h:=Gb g 0 mv mv.length (uo7 _);rw [ui9] at h;unfold atI;rw [show ixN (Bg g 0 mv).length (-1)=some mv.length by unfold ixN;rw [EM];simp;lia];exact h
def T6 (D7 B1 Cu BO Ea EI Ca DR Fy D9:Fn):M Out:=
 (Ae (Ar 1 (Ag D9 (Aa (Ab 0) Ad)))
 (Ae (C8 (Ag Fy (Aa (Ab 0) (Aa (Ab 1) Ad))) (unS 2 (Bf (AA 2) (Bf (AA 4) Em))))
 (Ae (Ar 5 (Ag DR (Aa (Ab 1) (Aa (Ab 2) Ad))))
 (Ae (Ar 3 (Ag Ca (Aa (Ab 2) (Aa (Ab 5) Ad))))
 (Ae (ifS (Ao (Ac (Ag (B5 EI) (Aa (Ab 1) (Aa (Ab 2) Ad))) (Av (Aa (Ac (Ab 3) (fC (.str "left")) AJ) (Aa (Ac (Ab 3) (fC (.str "right")) AJ) Ad))) (eqT λb=>!b)))
   (An (fC (.bl false)))
   Au)
 (Ae (ifS (Ao (Ac (Ag (B5 Ea) (Aa (Ab 1) (Aa (Ac (Ab 3) (fC (.str "left")) AJ) (Aa (Ac (Ab 3) (fC (.str "right")) AJ) Ad)))) (Av (Aa (Ab 2) (Aa (Ac (Ab 4) (fUn (fC (.int 1)) Hz) ixD) (Aa (Av (Aa (fB (Aa (Ac (Ab 3) (fC (.str "left")) AJ) Ad) AM) (Aa (fB (Aa (Ac (Ab 3) (fC (.str "right")) AJ) Ad) AM) Ad))) Ad)))) (eqS λb=>!b)))
   (An (fC (.bl false)))
   Au)
 (Ae (Ar 6 (Ia "Reader" BO (Aa (Ab 1) Ad)))
 (Ae (Bj (A5 (Aa (fB (Aa (Ab 2) Ad) AM) Ad)) (AA 7)
   (Ae (Bj (A5 (Aa (fB (Aa (Ac (Ab 5) (Ab 7) ixD) Ad) AM) Ad)) (AA 8)
   (Ae (Ar 9 (Ac (Aw (AG (Aa (Ac (Ab 2) (Ab 7) ixD) Ad))) (fB (Aa (Ac (Ab 8) (Ac (fB (Aa (Ac (Ab 5) (Ab 7) ixD) Ad) AM) (fC (.int 1)) Bs) (eqS id)) Ad) GN) B4))
 (ifS (Ao (Ac (BG "Reader" (B5 Cu) (Ab 6) (Aa (Ac (Ac (Ab 2) (Ab 7) ixD) (fC (.int 0)) ixD) (Aa (Aw (AG (Aa (Ac (Ac (Ab 5) (Ab 7) ixD) (Ab 8) ixD) Ad))) Ad))) (Ab 9) (eqS λb=>!b)))
   (An (fC (.bl false)))
   Au)))
 (ifS (fOr (Ao (Ac (BG "Reader" D7 (Ab 6) (ret [])) (Ac (Ab 4) (Ac (Ab 7) (fC (.int 1)) AO) ixD) (eqS λb=>!b))) (Ao (Ac (BG "Reader" B1 (Ab 6) (ret [])) (Av (Aa (fC (.int 0)) (Aa (fC (.int 0)) Ad))) (eqS λb=>!b))))
   (An (fC (.bl false)))
   Au)))
 (An (fC (.bl true)))))))))))
theorem XW {ctb cwo cww csz clg cgr:Fn}(hf:DQ cf)(hi:Gf ci)(htb:HV ctb)(hwo:JE cwo)(hww:Kt cww)(hsz:Ks csz)(hlg:Ol clg)(hgr:HR cgr){ns:List Int}{S:List Ob}{e1 e2 e3:Option Sl} :
 F2.W (T6 (fnOf 1 1 CD) (fnOf 1 1 (BT (fnOf 2 2 Bc))) cf ci ctb cwo cww csz clg cgr) ⟨[some (.val (.scr ns)),e1,e2,e3,none,none,none,none,none,none],S⟩ λo _=>o = .ret (.bl true):=by
 have hL:LIM=100000:=rfl;unfold T6;symm;refine (hgr ns S).mono ?_;rintro r0 S0 ⟨g,hg,hd3,rfl⟩;symm;refine (hlg ns g S0 hg hd3).mono ?_;rintro r0 S0' ⟨mv,hT,rfl⟩;symm;refine (hsz g mv S0' hg hT).mono ?_;rintro r1 S0'' ⟨e,ps,hps,rfl⟩;subst e;symm;refine (hww g mv ps _ hg hT hps).mono ?_;rintro r1 S1 ⟨G1,K,wl,wr,rfl,hKl,hK,el,er⟩;refine Bn ?_;have b1:wl.length<=45000:=by have h:=Dz g sL 0 mv hT.bd;rw [<-el,AE] at h;have:=hT.len;lia
 have b2:wr.length<=45000:=by have h:=Dz g sR 0 mv hT.bd;rw [<-er,AE] at h;have:=hT.len;lia
 symm;refine FX ?_;refine (hwo g mv S1 hg hT.ok (by have:=hT.len;lia) (by rw [<-el,AE];exact b1) (by rw [<-er,AE];exact b2)).mono ?_;rintro r2 S2 ⟨K2,A,B,rfl,w,G2,_,_⟩;refine ⟨rfl,?_⟩;rw [<-el,<-er] at w;have hK2:=G2.get hK;symm;refine A4 hK2 IZ ?_;symm;refine A4 hK2 I9 ?_;symm;refine Zd (d:=.tup [.lst (wD wl),.lst (wD wr)]) (N5 w.a w.b) (by simp only [EE,um0,un8,Dg]) (by simp only [BN,FN,HF (Gj _),um8]) (NF (Gj _) (Gj _)) ?_;symm;refine A4 hK2 IZ ?_;symm;refine A4 hK2 I9 ?_;symm;refine FX ?_;refine (htb g wl wr S2 hg b1 b2).mono ?_;rintro r3 S3 ⟨G3,hr3⟩;have hwa:=Ni hg hT.ok [] [] el er (.inl ⟨rfl,rfl⟩);rw [uj5,uj5] at hwa;rw [hwa] at hr3;have hr3:r3 = .tup [.lst (Ap g 0 mv),.int (lastQ g 0 mv:Nat),.tup [.int (wl.length:Nat),.int (wr.length:Nat)]]:=hr3;subst hr3;refine ⟨rfl,?_⟩;have hK3:=G3.get hK2;symm;refine AU Ww ?_;symm;refine A4 hK3 IZ ?_;symm;rw [AE];refine A4 hK3 I9 ?_;symm;rw [AE];refine EG rfl (Mp hg hT.ok) ?_;symm;refine (Qd (mv:=mv) hi hg hK3).mono ?_;rintro q S4 ⟨rfl,W,P,l,r,J0⟩;refine ⟨rfl,?_⟩;generalize S3.length=k at J0;symm;rw [AX];have hml:=hT.len;refine Dy (Br (by lia) (by lia)) ?_;rw [ug4];refine BS (λr' t=>∃(j P':Nat) (S':List Ob) (e7 e8 e9:Option Sl),r'=(rngL 0 mv.length).drop j/\j<=mv.length/\F35 g mv wl wr k l r W K S' (Ai g sL 0 (mv.take j)).length (Ai g sR 0 (mv.take j)).length j P'/\t=⟨[some (.val (.scr ns)),some (.val (.lst (g.map GS.d))),some (.val (.lst (Ap g 0 mv))),some (.val (.obj K)),some (.val (.lst (Bg g 0 mv))),some (.val (.lst (ps.map λw=>.lst (wD w)))),some (.val (.obj k)),e7,e8,e9],S'⟩) _ _ ⟨0,P,S4,none,none,none,rfl,uo8 _,J0,rfl⟩ ?_ ?_
 ·rintro d r' t ⟨j,P',S',e7,e8,e9,hr,hj,J,rfl⟩ _;obtain ⟨rfl,hr2,hlt⟩:=C3 hr;rw [uo4];refine Gc ?_;refine TQ ?_;refine (SE hf hg hT el er b1 b2 hps hlt J).mono ?_;rintro o t ⟨rfl,S5,P5,e8',e9',J5,rfl⟩;refine Bn ?_;have hrd:=J5.rd;symm;refine ⟨k,_,rfl,hrd.k,W_ret.mpr ?_⟩;refine (QX hrd).use ?_;symm;have est:atI (Bg g 0 mv) ((j:Int) + 1)=some (.int (lastQ g 0 (mv.take (j + 1)):Nat)):=by
   unfold atI;rw [show ((j:Int) + 1)=((j + 1:Nat):Int) by lia,Be (by lia) (by rw [EM];lia)];show (Bg g 0 mv)[((j + 1:Nat):Int).toNat]?=_;rw [ug4];exact Gb g 0 mv (j + 1) (by lia)
  refine AU est ?_;symm;refine FE (by simp) ?_;symm;refine ⟨k,_,rfl,hrd.k,W_ret.mpr ?_⟩;refine (Lu hrd).use ?_;have h1:=J5.hl;have h2:=J5.hr;rw [uh7,uh7,uk9 h1,uk9 h2];symm;refine Um (by lia) (by lia) ?_;symm;exact ⟨j + 1,P5,S5,_,_,_,hr2,hlt,J5,rfl⟩
 ·rintro t ⟨j,P',S',e7,e8,e9,hr,hj,J,rfl⟩;symm;rfl
theorem ZN {ctb cwo cww csz clg cgr cpc cgt:Fn}(hf:DQ cf)(hi:Gf ci)(htb:HV ctb)(hwo:JE cwo)(hww:Kt cww)(hsz:Ks csz)(hlg:Ol clg)(hgr:HR cgr)(hpc:LPc cpc)(hgt:Pk cgt){ns:List Int}(hns:ns.length<=63) :
 Wf (fnOf 1 10 (Ht (fnOf 1 1 CD) (fnOf 1 1 (BT (fnOf 2 2 Bc))) cf ci ctb cwo cww csz clg cgr cpc cgt)) [.scr ns] [] λr _=>r = .bl true:=by
 have hL:LIM=100000:=rfl;refine Aq rfl ?_;unfold Ht;symm;refine (hgt ns []).mono ?_;rintro r0 S0 ⟨s,x,is,p,v,hg,hT,rfl⟩;obtain ⟨g,hgd⟩:∃g,g=grG s:=⟨_,rfl⟩;obtain ⟨mv,hmd⟩:∃mv,mv=mvG x is p v:=⟨_,rfl⟩;have h4:lastQ g 0 mv=4:=by rw [hgd,hmd];rfl
 have h3s:(AF g (lastQ g 0 (mv.take 3))).side=sR:=by rw [hgd,hmd];rfl
 have hml:mv.length=4:=by rw [hmd];rfl
 rw [<-hgd] at hg hT ⊢;rw [<-hmd] at hT ⊢;clear hgd hmd;symm;refine (hsz g mv S0 hg hT).mono ?_;rintro r1 S0' ⟨e,ps,hps,rfl⟩;subst e;symm;refine (hww g mv ps _ hg hT hps).mono ?_;rintro r1 S1 ⟨G1,K,wl,wr,rfl,hKl,hK,el,er⟩;refine Bn ?_;have b1:wl.length<=45000:=by have h:=Dz g sL 0 mv hT.bd;rw [<-el,AE] at h;have:=hT.len;lia
 have b2:wr.length<=45000:=by have h:=Dz g sR 0 mv hT.bd;rw [<-er,AE] at h;have:=hT.len;lia
 symm;refine FX ?_;refine (hwo g mv S1 hg hT.ok (by have:=hT.len;lia) (by rw [<-el,AE];exact b1) (by rw [<-er,AE];exact b2)).mono ?_;rintro r2 S2 ⟨K2,A,B,rfl,w,G2,_,_⟩;refine ⟨rfl,?_⟩;rw [<-el,<-er] at w;have hK2:=G2.get hK;symm;refine A4 hK2 IZ ?_;symm;refine A4 hK2 I9 ?_;symm;refine Zd (d:=.tup [.lst (wD wl),.lst (wD wr)]) (N5 w.a w.b) (by simp only [EE,um0,un8,Dg]) (by simp only [BN,FN,HF (Gj _),um8]) (NF (Gj _) (Gj _)) ?_;symm;refine A4 hK2 IZ ?_;symm;refine A4 hK2 I9 ?_;symm;refine FX ?_;refine (htb g wl wr S2 hg b1 b2).mono ?_;rintro r3 S3 ⟨G3,hr3⟩;have hwa:=Ni hg hT.ok [] [] el er (.inl ⟨rfl,rfl⟩);rw [uj5,uj5] at hwa;rw [hwa] at hr3;have hr3:r3 = .tup [.lst (Ap g 0 mv),.int (lastQ g 0 mv:Nat),.tup [.int (wl.length:Nat),.int (wr.length:Nat)]]:=hr3;subst hr3;refine ⟨rfl,?_⟩;have hK3:=G3.get hK2;symm;rw [h4];refine A4 hK3 IZ ?_;symm;rw [AE];refine A4 hK3 I9 ?_;symm;rw [AE];refine EG rfl (Mp hg hT.ok) ?_;symm;refine A4 hK3 IZ ?_;symm;refine A4 hK3 I9 ?_;symm;rw [W9];have hwr:(Ai g sR 0 (mv.take 3)).length + (prt g mv 3).length=wr.length:=by
  have h:=congrArg List.length er;have em:mv[3]?=some (mv[3].1,mv[3].2):=ub4 (by lia);rw [AE,<-uc7 (show mv.length<=3 + 1 by lia),F6 em h3s sR (.inr rfl) (.inr rfl),if_pos rfl] at h;exact h.symm
 have hpp:=Iy (g:=g) (mv:=mv) (j:=3) (by lia);have hD:Due g mv wl.length (wr.length - 1) 3:=by
  refine ⟨by lia,?_,by lia,.inr ⟨by lia,?_⟩⟩
  ·have h:=congrArg List.length el;rw [AE,Ep sL 3,uf6] at h;lia
  ·rw [h3s];show wr.length - 1 < (Ai g sR 0 (mv.take 3)).length + _;lia
 have hdw:=GG hg hT.ok el er (uo7 _) (by lia) hD;rw [ui9] at hdw;refine FX ?_;refine (htb g wl (wr.take (wr.length - 1)) S3 hg b1 (by rw [uh7];lia)).mono ?_;rintro r4 S4 ⟨G4,hr4⟩;rw [hdw] at hr4;have hr4:r4 = .tup [.lst (Ap g 0 (mv.take 3)),.int (lastQ g 0 (mv.take 3):Nat),.tup [.int ((Ai g sL 0 (mv.take 3)).length:Nat),.int ((Ai g sR 0 (mv.take 3)).length:Nat)]]:=hr4;subst hr4;refine ⟨rfl,?_⟩;have hK4:=G4.get hK3;symm;rw [Xa,JY];refine EG rfl (NH hg (Jn hT.ok 3)) ?_;symm;rw [show (1:Int) + (ns.length:Int)=((1 + ns.length:Nat):Int) by lia];refine (hpc g mv wl wr K (1 + ns.length) S4 hg hT el er b1 b2 (by lia) (by lia) hK4).mono ?_;rintro r5 S5 rfl;refine Nh ?_;refine FE rfl ?_;refine Uw ?_;refine Bn ?_;refine (XW hf hi htb hwo hww hsz hlg hgr).mono ?_;rintro o t rfl;rfl
end LW
namespace F2
open PySem L2 PySem.Spec PySem.W
theorem SJ {k:Kd}{P:Program}{w:World}{K:PySem.W.Frag}{mg:Str->Option Value}{base:Heap}{n:Nat}{fa:Addr}{fd:FuncData}{ps:List Str}:okK k P w K mg base n fa fd ps (λ_ _=>none):=by
 cases k <;> exact ⟨λvs H Q E h=>(by obtain ⟨c,ds,S,_,_,r,S',e,_⟩:=h;cases e),λA' outer s H args us vs Q E _ _ _ _ h=>(by obtain ⟨c,ds,S,_,_,r,S',e,_⟩:=h;cases e)⟩
theorem us0 {n:Nat}:∀{us:List Value},us.length=n + 1->∃a vs,us=a :: vs/\vs.length=n
 | _ :: _,h=>⟨_,_,rfl,Nat.succ.inj h⟩
variable {us:List Value}
theorem us1 (h:us.length=1):∃a,us=[a]:=by
 obtain ⟨a,vs,rfl,q⟩:=us0 h;exact ⟨a,by rw [ua2 q]⟩
theorem us2 (h:us.length=2):∃a b,us=[a,b]:=by
 obtain ⟨_,vs,rfl,q⟩:=us0 h;obtain ⟨_,rfl⟩:=us1 q;exact ⟨_,_,rfl⟩
theorem us3 (h:us.length=3):∃a b c,us=[a,b,c]:=by
 obtain ⟨_,vs,rfl,q⟩:=us0 h;obtain ⟨_,_,rfl⟩:=us2 q;exact ⟨_,_,_,rfl⟩
theorem us4 (h:us.length=4):∃a b c d,us=[a,b,c,d]:=by
 obtain ⟨_,vs,rfl,q⟩:=us0 h;obtain ⟨_,_,_,rfl⟩:=us3 q;exact ⟨_,_,_,_,rfl⟩
theorem us5 (h:us.length=5):∃a b c d e,us=[a,b,c,d,e]:=by
 obtain ⟨_,vs,rfl,q⟩:=us0 h;obtain ⟨_,_,_,_,rfl⟩:=us4 q;exact ⟨_,_,_,_,_,rfl⟩
theorem us6 (h:us.length=6):∃a b c d e f,us=[a,b,c,d,e,f]:=by
 obtain ⟨_,vs,rfl,q⟩:=us0 h;obtain ⟨_,_,_,_,_,rfl⟩:=us5 q;exact ⟨_,_,_,_,_,_,rfl⟩
theorem us7 (h:us.length=7):∃a b c d e f g,us=[a,b,c,d,e,f,g]:=by
 obtain ⟨_,vs,rfl,q⟩:=us0 h;obtain ⟨_,_,_,_,_,_,rfl⟩:=us6 q;exact ⟨_,_,_,_,_,_,_,rfl⟩
end F2
namespace K35
open PySem L2 F2 LW
inductive Fx where
 | Cj | AY | DS | Ci | CQ | CO | CP | B3 | CJ | BZ | BY | BQ | CL | DC | BD | BR | A6 | Bz | BE | CS | Bp | Co | Bv | B7 | C1 | Dw | CW | CZ | B6 | CK | Bu | Dx | CY | BF | BB | Bw | Bq | BJ | BK | BC | Cq | Bi | CN | Cp | B2 | law_ | AB | AK | AN | Ax | AC | AH | AD
noncomputable def top (i:Nat):Stmt:=PySem.Challenge.pw_wireparley_k35_long_talks.main.body.getD i (.Pass ⟨0,0,0,0⟩)
noncomputable abbrev nm:Fx->Str
 | .Cj=>"is_number"
 | .AY=>"is_number_within"
 | .DS=>"fits"
 | .Ci=>"fits_text"
 | .CQ=>"is_sign"
 | .CO=>"fits_list"
 | .CP=>"fits_pair"
 | .B3=>"fits_choice"
 | .CJ=>"steps_of"
 | .BZ=>"state_next"
 | .BY=>"place_said"
 | .BQ=>"place_named"
 | .CL=>"words_of"
 | .DC=>"is_end"
 | .BD=>"grammar_copy"
 | .BR=>"value_bytes"
 | .A6=>"fitting_bytes"
 | .Bz=>"width_up_to"
 | .BE=>"number_bytes"
 | .CS=>"leading"
 | .Bp=>"read_value"
 | .Co=>"byte_at"
 | .Bv=>"byte_up_to"
 | .B7=>"read_number"
 | .C1=>"read_text"
 | .Dw=>"sign_at"
 | .CW=>"read_list"
 | .CZ=>"read_pair"
 | .B6=>"read_choice"
 | .CK=>"wires_of"
 | .Bu=>"message_bytes"
 | .Dx=>"talk_by"
 | .CY=>"read_on"
 | .BF=>"read_message"
 | .BB=>"_law_cell_at"
 | .Bw=>"_law_pool"
 | .Bq=>"_law_take"
 | .BJ=>"_law_shape"
 | .BK=>"_law_value"
 | .BC=>"_law_grammar"
 | .Cq=>"_law_sizes"
 | .Bi=>"_law_whole_wires"
 | .CN=>"_law_long"
 | .Cp=>"_law_great"
 | .B2=>"_law_pieces"
 | .law_=>"law"
 | .AB=>"__init__"
 | .AK=>"state"
 | .AN=>"hear"
 | .Ax=>"unread_of"
 | .AC=>"__init__"
 | .AH=>"feed"
 | .AD=>"unread"
abbrev ql:Fx->Str
 | .AB=>"Hearer.__init__"
 | .AK=>"Hearer.state"
 | .AN=>"Hearer.hear"
 | .Ax=>"Hearer.unread_of"
 | .AC=>"Reader.__init__"
 | .AH=>"Reader.feed"
 | .AD=>"Reader.unread"
 | x=>nm x
noncomputable abbrev me:Fx->Bool
 | .AB=>true
 | .AK=>true
 | .AN=>true
 | .Ax=>true
 | .AC=>true
 | .AH=>true
 | .AD=>true
 | _=>false
noncomputable abbrev ow:Fx->Str
 | .AB=>"Hearer"
 | .AK=>"Hearer"
 | .AN=>"Hearer"
 | .Ax=>"Hearer"
 | .AC=>"Reader"
 | .AH=>"Reader"
 | .AD=>"Reader"
 | _=>""
abbrev st:Fx->Stmt
 | .Cj=>top 10
 | .AY=>top 11
 | .DS=>top 12
 | .Ci=>top 13
 | .CQ=>top 14
 | .CO=>top 15
 | .CP=>top 16
 | .B3=>top 17
 | .CJ=>top 19
 | .BZ=>top 20
 | .BY=>top 21
 | .BQ=>top 22
 | .CL=>top 23
 | .DC=>top 24
 | .BD=>top 25
 | .BR=>top 28
 | .A6=>top 29
 | .Bz=>top 30
 | .BE=>top 31
 | .CS=>top 32
 | .Bp=>top 33
 | .Co=>top 34
 | .Bv=>top 35
 | .B7=>top 36
 | .C1=>top 37
 | .Dw=>top 38
 | .CW=>top 39
 | .CZ=>top 40
 | .B6=>top 41
 | .CK=>top 43
 | .Bu=>top 44
 | .Dx=>top 45
 | .CY=>top 46
 | .BF=>top 47
 | .BB=>top 52
 | .Bw=>top 53
 | .Bq=>top 54
 | .BJ=>top 55
 | .BK=>top 56
 | .BC=>top 57
 | .Cq=>top 59
 | .Bi=>top 60
 | .CN=>top 61
 | .Cp=>top 62
 | .B2=>top 63
 | .law_=>top 64
 | .AB=>Bb (top 49) 0
 | .AK=>Bb (top 49) 1
 | .AN=>Bb (top 49) 2
 | .Ax=>Bb (top 49) 3
 | .AC=>Bb (top 50) 0
 | .AH=>Bb (top 50) 1
 | .AD=>Bb (top 50) 2
noncomputable abbrev ps:Fx->List Str
 | .Cj=>["thing"]
 | .AY=>["thing", "low", "high"]
 | .DS=>["s", "thing"]
 | .Ci=>["s", "thing"]
 | .CQ=>["number"]
 | .CO=>["s", "thing"]
 | .CP=>["s", "thing"]
 | .B3=>["s", "thing"]
 | .CJ=>["g", "talk"]
 | .BZ=>["g", "step"]
 | .BY=>["state", "thing"]
 | .BQ=>["state", "thing"]
 | .CL=>["state"]
 | .DC=>["state"]
 | .BD=>["g"]
 | .BR=>["s", "value"]
 | .A6=>["s", "value"]
 | .Bz=>["most"]
 | .BE=>["number", "width"]
 | .CS=>["number", "cut"]
 | .Bp=>["s", "wire", "at"]
 | .Co=>["wire", "at"]
 | .Bv=>["most", "wire", "at"]
 | .B7=>["s", "wire", "at"]
 | .C1=>["s", "wire", "at"]
 | .Dw=>["wire", "at"]
 | .CW=>["s", "wire", "at"]
 | .CZ=>["s", "wire", "at"]
 | .B6=>["s", "wire", "at"]
 | .CK=>["g", "talk"]
 | .Bu=>["state", "place", "value"]
 | .Dx=>["g", "left", "right"]
 | .CY=>["g", "state", "wires", "places"]
 | .BF=>["state", "wire", "at"]
 | .BB=>["script", "k"]
 | .Bw=>["script", "k"]
 | .Bq=>["pool", "many"]
 | .BJ=>["pool", "deep"]
 | .BK=>["pool", "s"]
 | .BC=>["script"]
 | .Cq=>["g", "talk"]
 | .Bi=>["talk", "parts"]
 | .CN=>["script", "g"]
 | .Cp=>["script"]
 | .B2=>["g", "talk", "wires", "many"]
 | .law_=>["script"]
 | .AB=>["self", "g", "sides"]
 | .AK=>["self"]
 | .AN=>["self", "side", "piece"]
 | .Ax=>["self", "side"]
 | .AC=>["self", "g"]
 | .AH=>["self", "side", "piece"]
 | .AD=>["self"]
noncomputable abbrev ns:Fx->List Str
 | .Cj=>["thing"]
 | .AY=>["thing", "low", "high"]
 | .DS=>["s", "thing", "kind"]
 | .Ci=>["s", "thing", "sign"]
 | .CQ=>["number"]
 | .CO=>["s", "thing", "part"]
 | .CP=>["s", "thing"]
 | .B3=>["s", "thing"]
 | .CJ=>["g", "talk", "state", "steps", "k", "place", "step"]
 | .BZ=>["g", "step"]
 | .BY=>["state", "thing", "place"]
 | .BQ=>["state", "thing", "words", "place"]
 | .CL=>["state"]
 | .DC=>["state"]
 | .BD=>["g"]
 | .BR=>["s", "value"]
 | .A6=>["s", "value", "kind", "row", "thing"]
 | .Bz=>["most"]
 | .BE=>["number", "width"]
 | .CS=>["number", "cut"]
 | .Bp=>["s", "wire", "at", "kind"]
 | .Co=>["wire", "at"]
 | .Bv=>["most", "wire", "at", "byte"]
 | .B7=>["s", "wire", "at", "most", "width", "number", "k"]
 | .C1=>["s", "wire", "at", "length", "place", "text", "k"]
 | .Dw=>["wire", "at", "number"]
 | .CW=>["s", "wire", "at", "length", "place", "things", "k", "part"]
 | .CZ=>["s", "wire", "at", "first", "second"]
 | .B6=>["s", "wire", "at", "k", "part"]
 | .CK=>["g", "talk", "wires", "steps", "k", "state"]
 | .Bu=>["state", "place", "value"]
 | .Dx=>["g", "left", "right", "read"]
 | .CY=>["g", "state", "wires", "places", "talk", "standing", "behind", "side", "read"]
 | .BF=>["state", "wire", "at", "word", "read", "e"]
 | .BB=>["script", "k"]
 | .Bw=>["script", "k", "cell"]
 | .Bq=>["pool", "many", "rest"]
 | .BJ=>["pool", "deep", "kind", "low"]
 | .BK=>["pool", "s", "kind", "signs", "k"]
 | .BC=>["script", "pool", "many", "g", "h", "side", "words", "k", "name", "then"]
 | .Cq=>["g", "talk", "found", "here", "side", "name", "value", "words", "k"]
 | .Bi=>["talk", "parts", "wires", "k"]
 | .CN=>["script", "g", "talk", "states", "here", "k", "pool", "side", "words", "name", "shape", "then"]
 | .Cp=>["script", "pool", "deep", "value", "k", "way", "nine", "place", "g", "signs", "text", "numbers", "talk"]
 | .B2=>["g", "talk", "wires", "many", "reader", "found", "side", "k"]
 | .law_=>["script", "g", "talk", "wires", "states", "parts", "reader", "k", "j", "due"]
 | .AB=>["self", "g", "sides", "side"]
 | .AK=>["self"]
 | .AN=>["self", "side", "piece", "read"]
 | .Ax=>["self", "side"]
 | .AC=>["self", "g"]
 | .AH=>["self", "side", "piece"]
 | .AD=>["self"]
def body (Φ:Fx->Fn):Fx->Fn
 | .Cj=>fnOf 1 1 (Ga)
 | .AY=>fnOf 3 3 (Dt (Φ .Cj))
 | .DS=>fnOf 2 3 (MH (Φ .B3) (Φ .CP) (Φ .CO) (Φ .Ci) (Φ .AY))
 | .Ci=>fnOf 2 3 (F9 (Φ .CQ))
 | .CQ=>fnOf 1 1 (Hs)
 | .CO=>fnOf 2 3 (F7 (Φ .DS))
 | .CP=>fnOf 2 2 (F8 (Φ .DS))
 | .B3=>fnOf 2 2 (E4 (Φ .DS) (Φ .AY))
 | .CJ=>fnOf 2 7 (E6 (Φ .BZ) (Φ .BY))
 | .BZ=>fnOf 2 2 (FJ)
 | .BY=>fnOf 2 3 (FH (Φ .DS) (Φ .BQ))
 | .BQ=>fnOf 2 4 (E5 (Φ .CL))
 | .CL=>fnOf 1 1 (GQ (Φ .DC))
 | .DC=>fnOf 1 1 (Ji)
 | .BD=>fnOf 1 1 (Ez (Φ .DC))
 | .BR=>fnOf 2 2 (DY (Φ .A6) (Φ .DS))
 | .A6=>fnOf 2 5 (Ej (Φ .A6) (Φ .Bz) (Φ .BE))
 | .Bz=>fnOf 1 1 (E7)
 | .BE=>fnOf 2 2 (EA (Φ .CS))
 | .CS=>fnOf 2 2 (Hu)
 | .Bp=>fnOf 3 4 (Di (Φ .B6) (Φ .CZ) (Φ .CW) (Φ .C1) (Φ .B7))
 | .Co=>fnOf 2 2 (FG)
 | .Bv=>fnOf 3 4 (Eg (Φ .Co))
 | .B7=>fnOf 3 7 (CU (Φ .CS) (Φ .Co) (Φ .Bz))
 | .C1=>fnOf 3 7 (DG (Φ .Dw) (Φ .Bv))
 | .Dw=>fnOf 2 3 (FI (Φ .CQ) (Φ .Co))
 | .CW=>fnOf 3 8 (DE (Φ .Bp) (Φ .Bv))
 | .CZ=>fnOf 3 5 (DF (Φ .Bp))
 | .B6=>fnOf 3 5 (CT (Φ .Bp) (Φ .Bv))
 | .CK=>fnOf 2 6 (E8 (Φ .Bu) (Φ .CJ))
 | .Bu=>fnOf 3 3 (Ek (Φ .A6))
 | .Dx=>fnOf 3 4 (Hw (Φ .CY))
 | .CY=>fnOf 4 9 (Hv (Φ .BF))
 | .BF=>fnOf 3 6 (EB (Φ .Bp))
 | .BB=>fnOf 2 2 (By)
 | .Bw=>fnOf 2 3 (Ck (Φ .BB))
 | .Bq=>fnOf 2 3 (Ei)
 | .BJ=>fnOf 2 4 (DW (Φ .Bq) (Φ .BJ))
 | .BK=>fnOf 2 5 (DX (Φ .BK) (Φ .Bq))
 | .BC=>fnOf 1 10 (Ds (Φ .Bq) (Φ .BJ) (Φ .Bw))
 | .Cq=>fnOf 2 9 (E3 (Φ .BR))
 | .Bi=>fnOf 2 4 (Dd)
 | .CN=>fnOf 2 12 (Eh (Φ .BK) (Φ .Bq) (Φ .Bw))
 | .Cp=>fnOf 1 13 (E2 (Φ .Bq) (Φ .Bw))
 | .B2=>fnOf 4 8 (DJ (Φ .AD) (Φ .AH) (Φ .AC))
 | .law_=>fnOf 1 10 (Ht (Φ .AK) (Φ .AD) (Φ .AH) (Φ .AC) (Φ .Dx) (Φ .CK) (Φ .Bi) (Φ .Cq) (Φ .CN) (Φ .BC) (Φ .B2) (Φ .Cp))
 | .AB=>fnOf 3 4 (Ee (Φ .BD))
 | .AK=>fnOf 1 1 (CD)
 | .AN=>fnOf 3 4 (EZ (Φ .CY))
 | .Ax=>fnOf 2 2 (Bc)
 | .AC=>fnOf 2 2 (Ef (Φ .AB))
 | .AH=>fnOf 3 3 (E1 (Φ .AN))
 | .AD=>fnOf 1 1 (BT (Φ .Ax))
def run:Nat->Fx->Fn
 | 0=>λ_ _ _=>none
 | n + 1=>body (run n)
structure Md (K:PySem.W.Frag)(mg:Str->Option Value)(A:Fx->Addr)(fd:Fx->FuncData):Prop where
 fn:∀x,Fun K (nm x) (ql x) (st x) (A x) (fd x)
 mgs:∀x,me x=false->mg (nm x)=some (.ref (A x))
 bd:∀x,Binds K (fd x) (ps x) []
 cm:CM K
 L8:∃C,PySem.W.nsIn K mainGlobals "Reader" = some (some (.ref C))/\mg "Reader" = some (.ref C)/\Mk K C (A .AC)/\Meth K C "feed" (A .AH)/\Meth K C "unread" (A .AD)/\Meth K C "state" (A .AK)/\Meth K C "hear" (A .AN)/\Meth K C "unread_of" (A .Ax)
 eU:∃C,mg "Hearer" = some (.ref C)/\ByCls K C "__init__" (A .AB)
 eC:mg "bool" = none
 eA:mg "dict" = none
 eF:mg "int" = none
 d8:mg "isinstance" = none
 eO:mg "len" = none
 dX:mg "list" = none
 eN:mg "min" = none
 eM:mg "ord" = none
 dJ:mg "range" = none
 eK:mg "str" = none
 eL:mg "sum" = none
 dM:mg "tuple" = none
 d6:∃tk,mg "FIRST_SIGN" = some (.int 32 tk)
 d7:∃tk,mg "LAST_SIGN" = some (.int 126 tk)
 d5:∃tk,mg "PERCENT_SIGN" = some (.int 37 tk)
 dI:∃tk,mg "SIGNS" = some (.str " !\"#$ &'()*+,-./0123456789:;<=>?@ABCDEFGHIJKLMNOPQRSTUVWXYZ[\\]^_`abcdefghijklmnopqrstuvwxyz{|}~" tk)
 xm:∃(P:Addr) (ca:Str->Addr),XM K mg P ca/\(XF1 K (ca "NoTalk") P "NoTalk.__init__" (Bb (top 5) 0)/\XF2 K (ca "Broken") P "Broken.__init__" (Bb (top 4) 0))/\∀n∈(["NoValue", "Short"]:List Str),XN0 K (ca n)
noncomputable abbrev kd:Fx->Kd
 | .Cj=>.pl
 | .AY=>.pl
 | .DS=>.pl
 | .Ci=>.pl
 | .CQ=>.pl
 | .CO=>.pl
 | .CP=>.pl
 | .B3=>.pl
 | .CJ=>.ex
 | .BZ=>.pl
 | .BY=>.pl
 | .BQ=>.pl
 | .CL=>.pl
 | .DC=>.pl
 | .BD=>.pl
 | .BR=>.ex
 | .A6=>.fr
 | .Bz=>.pl
 | .BE=>.fr
 | .CS=>.pl
 | .Bp=>.ex
 | .Co=>.ex
 | .Bv=>.ex
 | .B7=>.ex
 | .C1=>.ex
 | .Dw=>.ex
 | .CW=>.ex
 | .CZ=>.ex
 | .B6=>.ex
 | .CK=>.ex
 | .Bu=>.pl
 | .Dx=>.er
 | .CY=>.er
 | .BF=>.er
 | .BB=>.pl
 | .Bw=>.pl
 | .Bq=>.pl
 | .BJ=>.pl
 | .BK=>.pl
 | .BC=>.pl
 | .Cq=>.pl
 | .Bi=>.pl
 | .CN=>.pl
 | .Cp=>.pl
 | .B2=>.pl
 | .law_=>.pl
 | .AB=>.pl
 | .AK=>.pl
 | .AN=>.er
 | .Ax=>.pl
 | .AC=>.pl
 | .AH=>.er
 | .AD=>.pl
theorem Uf:FnScope ["self", "at", "side"] ["self", "at", "side"] (Al (Bb (top 4) 0)):=⟨rfl,rfl,rfl,by decide +kernel,rfl,by decide +kernel,by decide +kernel⟩
theorem Z2:FnScope ["self", "at"] ["self", "at"] (Al (Bb (top 5) 0)):=⟨rfl,rfl,rfl,by decide +kernel,rfl,by decide +kernel,by decide +kernel⟩
section
variable {P:Program}{w:World}{K:PySem.W.Frag}{mg:Str->Option Value}{base:Heap}{A:Fx->Addr}{fd:Fx->FuncData}{n:Nat}
theorem Gn {a:Kd}(k:Kd){P:Program}{w:World}{K:PySem.W.Frag}{mg:Str->Option Value}{base:Heap}{n:Nat}{fa:Addr}{fd:FuncData}{ps:List Str}{f:Fn}(h:okK a P w K mg base n fa fd ps f)(e:a=k):okK k P w K mg base n fa fd ps f:=e ▸ h
section
variable {X:Cx}{A:Fx->Addr}{fd:Fx->FuncData}{n k:Nat}{x:Fx}{s:Str}{e:Expr}{es:List Expr}{f:M (List D)}{p pos:Pos}{E:L2.St->XK}
theorem ba (M:Md X.K X.mg A fd)(ih:∀x,okK (kd x) X.prog X.w X.K X.mg X.base k (A x) (fd x) (ps x) (run n x))(hr:Room k X.A)(ha:PA X (e :: es) (RA X.K f))(hk:kd x = .er)(hm:me x=false)(hs:nm x=s)(hg:Gl X s)(h1:AR e=false)(h2:AS es=true)(hd:(s == ("__debug__" : Str))=false):PE X (.Call (.Name s p) (e :: es) [] pos) (RE X.K (Ag (B5 (run n x)) f)):=by subst hs;exact Jc (Ox (Gn .er (ih x) hk)) hr hg (M.mgs x hm) (Fun.kp (M.fn x)) (M.bd x) ha hd h1 h2
theorem bf (M:Md X.K X.mg A fd)(ih:∀x,okK (kd x) X.prog X.w X.K X.mg X.base k (A x) (fd x) (ps x) (run n x))(hr:Room k X.A)(ha:PA X (e :: es) (RA X.K f))(hk:kd x = .ex)(hm:me x=false)(hs:nm x=s)(hg:Gl X s)(h1:AR e=false)(h2:AS es=true)(hd:(s == ("__debug__" : Str))=false):PE X (.Call (.Name s p) (e :: es) [] pos) (RE X.K (Ag (B5 (run n x)) f)):=by subst hs;exact Jc (Ox (Gn .ex (ih x) hk)) hr hg (M.mgs x hm) (Fun.kp (M.fn x)) (M.bd x) ha hd h1 h2
theorem cP (M:Md X.K X.mg A fd)(ih:∀x,okK (kd x) X.prog X.w X.K X.mg X.base k (A x) (fd x) (ps x) (run n x))(hr:Room k X.A)(ha:PA X (e :: es) (RA X.K f))(hk:kd x = .pl)(hm:me x=false)(hs:nm x=s)(hg:Gl X s)(h1:AR e=false)(h2:AS es=true)(hd:(s == ("__debug__" : Str))=false):PE X (.Call (.Name s p) (e :: es) [] pos) (RE X.K (Ag (run n x) f)):=by subst hs;exact Jc (Gn .pl (ih x) hk) hr hg (M.mgs x hm) (Fun.kp (M.fn x)) (M.bd x) ha hd h1 h2
theorem fF (M:Md X.K X.mg A fd)(ih:∀x,okK (kd x) X.prog X.w X.K X.mg X.base k (A x) (fd x) (ps x) (run n x))(hr:Room k X.A)(ha:PA X (e :: es) (RA X.K f))(hk:kd x = .fr)(hm:me x=false)(hs:nm x=s)(hg:Gl X s)(h1:AR e=false)(h2:AS es=true)(hd:(s == ("__debug__" : Str))=false):PE X (.Call (.Name s p) (e :: es) [] pos) (RF X.K (Dp (run n x) f)):=by subst hs;exact R7 (Gn .fr (ih x) hk) hr hg (M.mgs x hm) (Fun.kp (M.fn x)) (M.bd x) ha hd h1 h2
theorem xer (M:Md X.K X.mg A fd)(ih:∀x,okK (kd x) X.prog X.w X.K X.mg X.base k (A x) (fd x) (ps x) (run n x))(hr:Room k X.A)(hp:Cd (CX1 false X.prog X.w) X E)(ha:PA X (e :: es) (RA X.K f))(hk:kd x = .er)(hm:me x=false)(hs:nm x=s)(hg:Gl X s)(h1:AR e=false)(h2:AS es=true)(hd:(s == ("__debug__" : Str))=false):PE X (.Call (.Name s p) (e :: es) [] pos) (RX X.K E (Ag (run n x) f)):=by subst hs;exact NP (Gn .er (ih x) hk) hr hg (M.mgs x hm) (Fun.kp (M.fn x)) (M.bd x) hp ha hd h1 h2
theorem xex (M:Md X.K X.mg A fd)(ih:∀x,okK (kd x) X.prog X.w X.K X.mg X.base k (A x) (fd x) (ps x) (run n x))(hr:Room k X.A)(hp:Cd (CX1 true X.prog X.w) X E)(ha:PA X (e :: es) (RA X.K f))(hk:kd x = .ex)(hm:me x=false)(hs:nm x=s)(hg:Gl X s)(h1:AR e=false)(h2:AS es=true)(hd:(s == ("__debug__" : Str))=false):PE X (.Call (.Name s p) (e :: es) [] pos) (RX X.K E (Ag (run n x) f)):=by subst hs;exact NP (Gn .ex (ih x) hk) hr hg (M.mgs x hm) (Fun.kp (M.fn x)) (M.bd x) hp ha hd h1 h2
end
seal PH PA PE PSs PS PG PT PI PGs PPf PIf PW PO
theorem sc (x:Fx):FnScope (ns x) (ps x) (Al (st x)):=by
 cases x <;> exact ⟨rfl,rfl,rfl,by decide +kernel,rfl,by decide +kernel,by decide +kernel⟩
local macro_rules | `(tactic| clear 30 $t)=>`(tactic| with_reducible refine (?_ : $t))
theorem step (M:Md K mg A fd)(ih0:∀x,okK (kd x) P w K mg base (2 * n + 2) (A x) (fd x) (ps x) (run n x))(y:Fx):okK (kd y) P w K mg base (2 * n + 2 + 1 + 1) (A y) (fd y) (ps y) (run (n + 1) y):=by
 have ih:=λx=>X7 (ih0 x);obtain ⟨_,d6⟩:=M.d6;obtain ⟨_,d7⟩:=M.d7;obtain ⟨_,d5⟩:=M.d5;obtain ⟨P',ca,x,xt,x0⟩:=M.xm;have xn:XN1 P w K mg base (ca "NoTalk") P':=Ss rfl Z2 rfl rfl xt.1;have xb:XN2 P w K mg base (ca "Broken") P':=Su rfl Uf rfl rfl rfl xt.2;obtain ⟨_,dI⟩:=M.dI;have xh:Rz P w K mg base (ca "Broken") P':=Qc rfl Uf rfl rfl rfl xt.2;obtain ⟨Reader_,d4,fK,fD,fP,fJ,fN,fO,eZ⟩:=M.L8;have fM:MAt K "Reader" "feed" Reader_ (A .AH):=⟨by decide,d4,fP,by decide⟩;have fE:MAt K "Reader" "unread" Reader_ (A .AD):=⟨by decide,d4,fJ,by decide⟩;have fH:MAt K "Reader" "state" Reader_ (A .AK):=⟨by decide,d4,fN,by decide⟩;obtain ⟨Hearer_b,fA,fG⟩:=M.eU;have fL:MAt K "Reader" "hear" Reader_ (A .AN):=⟨by decide,d4,fO,by decide⟩;have eV:MAt K "Reader" "unread_of" Reader_ (A .Ax):=⟨by decide,d4,eZ,by decide⟩;have sy:=sc y;have nd:=sy.nd;have mf:=M.fn y
 cases y <;> first | (clear 30 (okK .pl ..);refine YN (g:=fnOf _ _ _) rfl (Xy rfl rfl mf sy (λcdv A' outer s H E hr=>?_))) | (clear 30 (okK .ex ..);refine N6 (g:=fnOf _ _ _) rfl (NJ rfl rfl mf sy (λcdv A' outer s H E hr hp hq ho=>?_))) | (clear 30 (okK .fr ..);refine V4 (g:=fnOf _ _ _) rfl (UV rfl rfl mf sy (λcdv A' outer s H E hr=>?_))) | (clear 30 (okK .er ..);refine N6 (g:=fnOf _ _ _) rfl (UW rfl rfl mf sy (λcdv A' outer s H E hr hp hq ho ht=>?_)))
 all_goals repeat' first
  | (clear 30 (PH ..);first
    | (clear 30 (PH _ _ (.ExceptHandler (some (.Name _ _)) (some _) [.Raise (some (.Call (.Name _ _) [_,_] [] _)) (some _) _] _ :: _) (RH _ _ (μX _ _) (hAs _ _ (Dv _ _) _)));refine ZD x xh rfl rfl (hr.mono (by omega)) rfl (x.ms "Broken" (by decide)) (x.cl "Broken" (by decide)) (λ_ hn=>x.subE hn (by decide)) nd rfl rfl ht rfl (λy=>?_) U7 ?_)
    | (clear 30 (PH _ _ (.ExceptHandler (some (.Name _ _)) none (_ :: _) _ :: _) (RH _ _ _ (hNo _ _ _)));refine ZC x rfl (x.ms "Short" (by decide)) (x.cl "Short" (by decide)) (λ_ hn=>x.subE hn (by decide)) (λy=>?_) ?_)
    | exact Xu)
  | (clear 30 (PA ..);first
    | refine @RV _ _ _ _ _ ?_ ?_ rfl
    | exact Xh)
  | (clear 30 (PE ..);first
    | (clear 30 (PE _ (.Name ..) ..);first
      | (clear 30 (PE _ _ (RE _ (Ab _)));exact (Xr _))
      | (clear 30 (PE _ (.Name _ _) (RE _ (fC (.ty _))));exact (JP rfl M.eK W4))
      | (clear 30 (PE _ (.Name _ _) (RE _ (fC (.ty _))));exact (JP rfl M.dM L6))
      | (clear 30 (PE _ (.Name _ _) (RE _ (fC (.int _))));exact (KM rfl d6))
      | (clear 30 (PE _ (.Name _ _) (RE _ (fC (.ty _))));exact (JP rfl M.eF Ps))
      | (clear 30 (PE _ (.Name _ _) (RE _ (fC (.ty _))));exact (JP rfl M.eC UB))
      | (clear 30 (PE _ (.Name _ _) (RE _ (fC (.int _))));exact (KM rfl d7))
      | (clear 30 (PE _ (.Name _ _) (RE _ (fC (.int _))));exact (KM rfl d5))
      | (clear 30 (PE _ (.Name _ _) (RE _ (fC (.ty _))));exact (JP rfl M.dX Nz))
      | (clear 30 (PE _ _ (RE _ (fC (.str _))));exact (R0 rfl dI)))
    | (clear 30 (PE _ (.Constant ..) ..);first
      | (clear 30 (PE _ _ (RE _ (fC (.int _))));exact Xl)
      | (clear 30 (PE _ _ (RE _ (fC (.str _))));exact Xq)
      | (clear 30 (PE _ _ (RE _ (fC (.bl _))));exact Zx)
      | (clear 30 (PE _ _ (RE _ (fC .non)));exact Xm))
    | (clear 30 (PE _ (.Subscript ..) ..);first
      | (clear 30 (PE _ _ (RE _ (Ac _ _ ixD)));refine T3 XQ YQ ?_ ?_ (λ_ _=>rfl))
      | (clear 30 (PE _ _ (RE _ (Ac _ _ AJ)));refine T3 XN Q1 ?_ ?_ (λ_ _=>rfl))
      | (clear 30 (PE _ _ (RE _ (fSl _ _ _ FQ)));refine R5 sl3 Wn ?_ ?_ ?_)
      | (clear 30 (PE _ _ (RE _ (LL _ _ _ _)));refine UP ?_ ?_ ?_ ?_))
    | (clear 30 (PE _ (.Call ..) ..);first
      | (clear 30 (PE _ _ (RE _ (Ag (run _ _) _)));refine @cP _ _ _ _ _ _ _ _ _ _ _ _ M ih hr ?_ (by rfl) (by rfl) (by rfl) (by rfl) (by rfl) (by rfl) (by decide))
      | (clear 30 (PE _ _ (RE _ (fB _ AM)));refine JO RK Wc rfl M.eO W1 ?_)
      | (clear 30 (PE _ (.Call (.Name _ _) _ _ _) (RX _ _ (Ag (run _ _) _)));refine @xex _ _ _ _ _ _ _ _ _ _ _ _ _ M ih hr hp ?_ (by rfl) (by rfl) (by rfl) (by rfl) (by rfl) (by rfl) (by decide))
      | (clear 30 (PE _ _ (RE _ (fB _ Dc)));refine JO RJ Wb rfl M.d8 Lx ?_)
      | (clear 30 (PE _ _ (RF _ (Dp (run _ _) _)));refine @fF _ _ _ _ _ _ _ _ _ _ _ _ M ih hr ?_ (by rfl) (by rfl) (by rfl) (by rfl) (by rfl) (by rfl) (by decide))
      | (clear 30 (PE _ (.Call (.Name _ _) _ _ _) (RX _ _ (Ag (run _ _) _)));refine @xer _ _ _ _ _ _ _ _ _ _ _ _ _ M ih hr hp ?_ (by rfl) (by rfl) (by rfl) (by rfl) (by rfl) (by rfl) (by decide))
      | (clear 30 (PE _ _ (RE _ (fB _ GR)));refine JO (Pv rfl) We rfl M.eN W2 ?_)
      | (clear 30 (PE _ (.Call (.Name _ _) _ _ _) (RE _ (Ag (B5 (run _ _)) _)));refine bf M ih hr ?_ (by rfl) (by rfl) (by rfl) (by rfl) (by rfl) (by rfl) (by decide))
      | (clear 30 (PE _ (.Call (.Name _ _) _ _ _) (RE _ (Ag (B5 (run _ _)) _)));refine ba M ih hr ?_ (by rfl) (by rfl) (by rfl) (by rfl) (by rfl) (by rfl) (by decide))
      | (clear 30 (PE _ _ (RE _ (fB _ Jo)));refine JO RL Wj rfl M.eM W3 ?_)
      | (clear 30 (PE _ _ (RE _ (objM Ev _ _)));refine PK ?_ ?_)
      | (clear 30 (PE _ _ (RE _ (fB _ GN)));refine T2 Pu Wa rfl M.eF Ps ?_)
      | (clear 30 (PE _ _ (RE _ (fB _ Jv)));refine T2 LB Wp rfl M.dM L6 ?_)
      | (clear 30 (PE _ _ (RE _ (joinM _ _)));refine UM ?_ ?_)
      | (clear 30 (PE _ _ (RE _ (fB _ Jt)));refine JO (Pw rfl) Tu rfl M.eL W5 ?_)
      | (clear 30 (PE _ _ (RE _ (Ia _ _ _)));refine UN (by decide) d4 fD (ih0 .AC) hr rfl fK (M.bd .AC) ?_)
      | (clear 30 (PE _ _ (RE _ (BG _ (B5 (run _ .AH)) _ _)));refine NI M.cm fM (Ox (ih .AH)) hr (M.bd .AH) ?_ ?_)
      | (clear 30 (PE _ _ (RE _ (BG _ (run _ .AD) _ (ret []))));refine Mr M.cm fE (ih .AD) hr (M.bd .AD) ?_)
      | (clear 30 (PE _ _ (RE _ (BG _ (run _ .Ax) _ _)));refine NI M.cm eV (ih .Ax) hr (M.bd .Ax) ?_ ?_)
      | (clear 30 (PE _ _ (RF _ (fBF _ Jh)));refine Zz Mh Wd rfl M.dX Nz ?_)
      | (clear 30 (PE _ _ (RE _ (fUn _ JF)));refine PF ?_)
      | (clear 30 (PE _ _ (RE _ (fB _ HZ)));refine RZ rfl M.eA ?_)
      | (clear 30 (PE _ _ (RE _ (idxM _ _)));refine R4 ?_ ?_)
      | (clear 30 (PE _ _ (RE _ (BG _ (run _ .AK) _ (ret []))));refine Mr M.cm fH (ih .AK) hr (M.bd .AK) ?_)
      | (clear 30 (PE _ _ (RE _ (Ag _ _)));refine RW (ih .AB) hr rfl fA fG (M.bd .AB) ?_)
      | (clear 30 (PE _ _ (RX _ _ (BG _ (run _ .AN) _ _)));refine U4 M.cm fL (ih .AN) hr (M.bd .AN) hp ?_ ?_))
    | (clear 30 (PE _ (.Tuple ..) ..);first
      | (clear 30 (PE _ (.Tuple _ _ _) (RE _ (Av _)));refine @PL _ _ _ _ _ ?_)
      | (clear 30 (PE _ (.Tuple _ _ _) (RE _ (Av _)));refine PL ?_))
    | (clear 30 (PE _ (.List ..) ..);first
      | refine @Xt _ _ _ _ ?_)
    | (clear 30 (PE _ (.BinOp ..) ..);first
      | (clear 30 (PE _ _ (RE _ (Ac _ _ AO)));refine Ff NX M3 ?_ ?_)
      | (clear 30 (PE _ _ (RE _ (Ac _ _ Bs)));refine Ff Yg Wo ?_ ?_)
      | (clear 30 (PE _ _ (RE _ (Ac _ _ B4)));refine Ff Vw Ts ?_ ?_)
      | (clear 30 (PE _ _ (RE _ (Ac _ _ El)));refine Ff Yc Wg ?_ ?_)
      | (clear 30 (PE _ _ (RF _ _));refine ZA QB Tq ?_ ?_)
      | (clear 30 (PE _ _ (RE _ (Ac _ _ Fe)));refine Ff Vv Tr ?_ ?_)
      | (clear 30 (PE _ _ (RE _ (Ac _ _ HD)));refine Ff Yd Wl ?_ ?_)
      | (clear 30 (PE _ _ (RE _ (Ac _ _ Jk)));refine Ff Vy Tt ?_ ?_)
      | (clear 30 (PE _ _ (RX _ _ (H9 _ _ AO)));refine ZI NX M3 ?_ ?_)
      | (clear 30 (PE _ _ (RE _ (Ac _ _ Ie)));refine Ff SK Q2 ?_ ?_)
      | (clear 30 (PE _ _ (RE _ (Ac _ _ M6)));refine Ff Yf Wm ?_ ?_))
    | (clear 30 (PE _ (.Attribute ..) ..);first
      | (clear 30 (PE _ _ (RE _ (Ew _ _)));refine Xk M.cm (by decide) ?_ rfl)
      | (clear 30 (PE _ _ (RE _ (bnd _ (Ky _))));refine Xj x x.na ?_ rfl))
    | (clear 30 (PE _ (.BoolOp ..) ..);first
      | (clear 30 (PE _ _ (RE _ (EJ _ _)));refine Xi ?_ ?_)
      | (clear 30 (PE _ _ (RE _ _));refine Xp ?_))
    | (clear 30 (PE _ (.Dict ..) ..);first
      | (clear 30 (PE _ _ (RE _ (Fd _)));refine UL ?_)
      | (clear 30 (PE _ _ (RE _ (ES [])));exact PJ))
    | (clear 30 (PE _ (.Compare ..) ..);first
      | (clear 30 (PE _ (.Compare _ [.Eq] [_] _) (RE _ (Ac _ _ (eqS _))));refine Hk (QC hr.units) (IC (g:=id)) ?_ ?_ (CG _))
      | (clear 30 (PE _ _ (RE _ (ER _ _ _ _ _)));refine RY QF QF Oa Oa ?_ ?_ ?_)
      | (clear 30 (PE _ _ (RE _ (Ac _ _ isC)));refine Hk QE Q3 ?_ ?_ (CG _))
      | (clear 30 (PE _ (.Compare _ [.NotEq] [_] _) (RE _ (Ac _ _ (eqS _))));refine Hk (MP hr.units) (IC (g:=λb=>!b)) ?_ ?_ (CG _))
      | (clear 30 (PE _ _ (RE _ (Ac _ _ ltA)));refine Hk QG Oc ?_ ?_ (CG _))
      | (clear 30 (PE _ _ (RE _ (Ac _ _ gtA)));refine Hk QD N9 ?_ ?_ (CG _)))
    | (clear 30 (PE _ (.IfExp ..) ..);first
      | refine R3 ?_ ?_ ?_)
    | (clear 30 (PE _ (.UnaryOp ..) ..);first
      | (clear 30 (PE _ _ (RE _ (fUn _ Hz)));refine Zy Y4 Wi ?_)
      | (clear 30 (PE _ _ (RE _ (Ib _)));refine Xn ?_))
    | (clear 30 (PE _ (.ListComp ..) ..);first
      | (clear 30 (PE _ (.ListComp _ [⟨(.Name ("state" : Str) _),_,_,0⟩] _ _) (RF _ (Bl _ [] _ _ _ _)));refine DA (DN ["state"] [] rfl rfl rfl rfl rfl) rfl ?_ (λ_ _ _ _ _=>?_) (λ_ _ _ _ _=>?_) (λ_ _ _ _ _=>?_))
      | (clear 30 (PE _ (.ListComp _ [⟨(.Name ("sign" : Str) _),_,_,0⟩] _ _) (RF _ (Bl _ [] _ _ _ _)));refine DA (DN ["sign"] [] rfl rfl rfl rfl rfl) rfl ?_ (λ_ _ _ _ _=>?_) (λ_ _ _ _ _=>?_) (λ_ _ _ _ _=>?_))
      | (clear 30 (PE _ (.ListComp _ [⟨(.Name ("k" : Str) _),_,_,0⟩] _ _) (RF _ (Bl _ [0,1] _ _ _ _)));refine DA (DN ["k"] [(0 , "number") ,(1 , "width")] rfl rfl rfl rfl rfl) rfl ?_ (λ_ _ _ _ _=>?_) (λ_ _ _ _ _=>?_) (λ_ _ _ _ _=>?_))
      | (clear 30 (PE _ (.ListComp _ [⟨(.Name ("k" : Str) _),_,_,0⟩] _ _) (RF _ (Bl _ [0,1] _ _ _ _)));refine DA (DN ["k"] [(0 , "pool") ,(1 , "deep")] rfl rfl rfl rfl rfl) rfl ?_ (λ_ _ _ _ _=>?_) (λ_ _ _ _ _=>?_) (λ_ _ _ _ _=>?_))
      | (clear 30 (PE _ _ (RF _ (Bl _ [3,0] _ _ _ _)));refine DA (DN ["k"] [(3 , "signs") ,(0 , "pool")] rfl rfl rfl rfl rfl) rfl ?_ (λ_ _ _ _ _=>?_) (λ_ _ _ _ _=>?_) (λ_ _ _ _ _=>?_))
      | (clear 30 (PE _ (.ListComp _ [⟨(.Name ("k" : Str) _),_,_,0⟩] _ _) (RF _ (Bl _ [0,1] _ _ _ _)));refine DA (DN ["k"] [(0 , "pool") ,(1 , "s")] rfl rfl rfl rfl rfl) rfl ?_ (λ_ _ _ _ _=>?_) (λ_ _ _ _ _=>?_) (λ_ _ _ _ _=>?_))
      | (clear 30 (PE _ (.ListComp _ [⟨(.Name ("word" : Str) _),_,_,0⟩] _ _) (RF _ (Bl _ [] _ _ _ _)));refine DA (DN ["word"] [] rfl rfl rfl rfl rfl) rfl ?_ (λ_ _ _ _ _=>?_) (λ_ _ _ _ _=>?_) (λ_ _ _ _ _=>?_))
      | (clear 30 (PE _ (.ListComp _ [⟨(.Name ("k" : Str) _),_,_,0⟩] _ _) (RF _ (Bl _ [] _ _ _ _)));refine DA (DN ["k"] [] rfl rfl rfl rfl rfl) rfl ?_ (λ_ _ _ _ _=>?_) (λ_ _ _ _ _=>?_) (λ_ _ _ _ _=>?_))
      | (clear 30 (PE _ _ (RF _ (Bl _ [9,7] _ _ _ _)));refine DA (DN ["k"] [(9 , "signs") ,(7 , "place")] rfl rfl rfl rfl rfl) rfl ?_ (λ_ _ _ _ _=>?_) (λ_ _ _ _ _=>?_) (λ_ _ _ _ _=>?_)))
    | (clear 30 (PE _ _ (RE _ (Aw _)));refine UO ?_)
    | (clear 30 (PE _ _ (RE _ (Hj _)));refine Xo ?_))
  | (clear 30 (PSs ..);first
    | refine @Sd _ _ _ _ _ _ ?_ ?_
    | refine @U2 _ _ _ _ ?_
    | exact U1
    | refine Se ?_)
  | (clear 30 (PS ..);first
    | (clear 30 (PS _ (.Return ..) ..);first
      | (clear 30 (PS _ _ (RSg _ (μR _) (An _)));refine P4 ?_)
      | (clear 30 (PS _ _ (RSg _ (μX _ _) (An (nxD _))));refine NM ?_)
      | (clear 30 (PS _ _ (RSg _ (μF _) (GY _)));refine NL ?_)
      | (clear 30 (PS _ _ (RSg _ (μX _ _) (An _)));refine GZ (NN ?_))
      | (clear 30 (PS _ _ (RSg _ (μF _) (Gu _)));exact (P6 _)))
    | (clear 30 (PS _ (.Assign ..) ..);first
      | (clear 30 (PS _ (.Assign [.Name _ _] _ _) (RSg _ _ (Ar _ _)));refine My nd rfl (.inl rfl) ?_)
      | (clear 30 (PS _ _ (RSg _ (μX _ _) (CH _ _)));refine GZ (NO nd rfl (.inl rfl) ?_))
      | (clear 30 (PS _ _ (RSg _ _ (C8 _ _)));refine Xz ?_ ?_)
      | (clear 30 (PS _ _ (RSg _ _ (Df _ _)));refine XB nd rfl (.inl rfl) ?_)
      | (clear 30 (PS _ _ (RSg _ _ (En _ _ _)));refine XA M.cm (by decide) ?_ ?_)
      | (clear 30 (PS _ (.Assign [.Name _ _] _ _) (RSg _ _ (Ar _ _)));refine My nd rfl (.inr rfl) ?_)
      | (clear 30 (PS _ (.Assign [.Name _ _] _ _) (RSg _ _ (Ar _ _)));refine My nd rfl (.inr rfl) ?_)
      | (clear 30 (PS _ _ (RSX _ _ (CH _ _)));refine NO nd rfl (.inl rfl) ?_)
      | (clear 30 (PS _ _ (RSg _ _ (Ar _ (Aw (Bl _ [1] _ _ _ _)))));refine U0 (DN ["k"] [(1 , "pool")] rfl rfl rfl rfl rfl) rfl nd rfl rfl ?_ (λ_ _ _ _ _=>?_) (λ_ _ _ _ _=>?_) (λ_ _ _ _ _=>?_)))
    | (clear 30 (PS _ (.If ..) ..);first
      | refine ZF ?_ ?_ ?_)
    | (clear 30 (PS _ (.For ..) ..);first
      | (clear 30 (PS _ (.For _ _ _ [] _) (RSg _ _ (Bj _ _ _)));refine PY PassesOwn.never rfl ?_ ?_ ?_)
      | (clear 30 (PS _ (.For _ _ _ [] _) (RSg _ _ (Bj _ _ _)));refine PY ho rfl ?_ ?_ ?_))
    | (clear 30 (PS _ (.Expr ..) ..);first
      | (clear 30 (PS _ _ (RSg _ _ (ownM _ Cn _)));refine OF _ ?_)
      | (clear 30 (PS _ _ (RSg _ _ (F0 _)));refine NK ?_)
      | (clear 30 (PS _ _ (RSg _ _ (ownM _ Ev _)));refine OG _ ?_))
    | (clear 30 (PS _ (.Raise ..) ..);first
      | (clear 30 (PS _ _ (RSg _ (μX _ _) (Dv _ _)));refine GZ (PZ x xb (hr.mono (by omega)) rfl hq rfl ?_))
      | (clear 30 (PS _ _ (RSg _ (μX _ _) (MU _ _)));refine GZ (P1 x xn (hr.mono (by omega)) rfl hq rfl ?_))
      | (clear 30 (PS _ _ (RSg _ (μX _ _) (FP ("NoValue" : Str) _)));refine GZ (Li (n:="NoValue") x (by decide) rfl (x0 "NoValue" (by decide)) rfl hq rfl ?_))
      | (clear 30 (PS _ _ (RSg _ (μX _ _) (FP ("Short" : Str) _)));refine GZ (Li (n:="Short") x (by decide) rfl (x0 "Short" (by decide)) rfl hq rfl ?_)))
    | (clear 30 (PS _ (.While ..) ..);first
      | refine Sc ho ?_ ?_)
    | (clear 30 (PS _ (.Break ..) ..);first
      | exact Sb)
    | (clear 30 (PS _ (.Try ..) ..);first
      | (clear 30 (PS _ _ (RSg _ (μX _ _) (FU _ _)));refine XC (qx:=true) x X0 rfl rfl (λpn E hp=>?_) ?_))
    | refine P4 ?_
    | refine NL ?_
    | refine NM ?_
    | refine GZ (NN ?_)
    | refine NK ?_)
  | (clear 30 (PG ..);first
    | (clear 30 (PG _ (.Name ..) ..);first
      | (clear 30 (PG _ (.Name _ _) (RG _ (AA _)));exact (Cz nd rfl (.inl rfl)))
      | (clear 30 (PG _ (.Name _ _) (RG _ (AA _)));exact (Cz (by show List.Nodup [("state" : Str)] ;decide +kernel) rfl (.inl rfl)))
      | (clear 30 (PG _ (.Name _ _) (RG _ (AA _)));exact (Cz (by show List.Nodup [("sign" : Str)] ;decide +kernel) rfl (.inl rfl)))
      | (clear 30 (PG _ (.Name _ _) (RG _ (AA _)));exact (Cz (by show List.Nodup [("k" : Str) ,("number" : Str) ,("width" : Str)] ;decide +kernel) rfl (.inl rfl)))
      | (clear 30 (PG _ (.Name _ _) (RG _ (AA _)));exact (Cz (by show List.Nodup [("k" : Str) ,("pool" : Str) ,("deep" : Str)] ;decide +kernel) rfl (.inl rfl)))
      | (clear 30 (PG _ (.Name _ _) (RG _ (AA _)));exact (Cz (by show List.Nodup [("k" : Str) ,("signs" : Str) ,("pool" : Str)] ;decide +kernel) rfl (.inl rfl)))
      | (clear 30 (PG _ (.Name _ _) (RG _ (AA _)));exact (Cz (by show List.Nodup [("k" : Str) ,("pool" : Str) ,("s" : Str)] ;decide +kernel) rfl (.inl rfl)))
      | (clear 30 (PG _ (.Name _ _) (RG _ (AA _)));exact (Cz (by show List.Nodup [("word" : Str)] ;decide +kernel) rfl (.inl rfl)))
      | (clear 30 (PG _ (.Name _ _) (RG _ (AA _)));exact (Cz (by show List.Nodup [("k" : Str)] ;decide +kernel) rfl (.inl rfl)))
      | (clear 30 (PG _ (.Name _ _) (RG _ (AA _)));exact (Cz (by show List.Nodup [("k" : Str) ,("signs" : Str) ,("place" : Str)] ;decide +kernel) rfl (.inl rfl)))
      | (clear 30 (PG _ (.Name _ _) (RG _ (AA _)));exact (Cz (by show List.Nodup [("k" : Str) ,("pool" : Str)] ;decide +kernel) rfl (.inl rfl))))
    | (clear 30 (PG _ (.Subscript ..) ..);first
      | refine PP ?_ ?_)
    | (clear 30 (PG _ (.Tuple ..) ..);first
      | refine ZB rfl ?_))
  | (clear 30 (PT ..);first
    | (clear 30 (PT _ (.Compare ..) ..);first
      | (clear 30 (PT _ (.Compare _ [.Eq] [_] _) (RT _ (Ao (Ac _ _ (eqS _)))));refine Ec (QC hr.units) (IC (g:=id)) ?_ ?_ (CG _))
      | (clear 30 (PT _ (.Compare _ [.NotEq] [_] _) (RT _ (Ao (Ac _ _ (eqS _)))));refine Ec (MP hr.units) (IC (g:=λb=>!b)) ?_ ?_ (CG _))
      | (clear 30 (PT _ _ (RT _ (Ao (Ac _ _ gtA))));refine Ec QD N9 ?_ ?_ (CG _))
      | (clear 30 (PT _ _ (RT _ (Ao (Ac _ _ isC))));refine Ec QE Q3 ?_ ?_ (CG _))
      | (clear 30 (PT _ _ (RT _ (Ao (Ac _ _ geA))));refine Ec Ya V8 ?_ ?_ (CG _))
      | (clear 30 (PT _ _ (RT _ (Ao (Ac _ _ (eqT _)))));refine Ec (MP hr.units) (V7 (g:=λb=>!b)) ?_ ?_ (CG _))
      | (clear 30 (PT _ _ (RT _ (Ao (Ac _ _ (inS _)))));refine Ec (Yb hr.units) (V9 (neg:=false)) ?_ ?_ (by with_unfolding_all rfl))
      | (clear 30 (PT _ _ (RT _ (Ao (Ac _ _ ltA))));refine Ec QG Oc ?_ ?_ (CG _))
      | (clear 30 (PT _ _ (RT _ (Ao (Ac _ _ JZ))));refine Ec (SL hr.units) Q4 ?_ ?_ (CG _)))
    | (clear 30 (PT _ (.UnaryOp ..) ..);first
      | refine XD ?_)
    | (clear 30 (PT _ (.BoolOp ..) ..);first
      | refine ZG ?_)
    | (clear 30 (PT _ _ (RT _ (Ao _)));refine XF ?_))
  | (clear 30 (PI ..);first
    | (clear 30 (PI _ _ (.Call ..) ..);first
      | (clear 30 (PI _ _ _ (RI _ (A5 _)));refine OA rfl M.dJ ?_)
      | (clear 30 (PI _ _ _ (RI _ (GH _)));refine OB rfl M.dJ ?_)
      | (clear 30 (PI _ _ _ (RI _ (JN _)));refine OC rfl M.dJ ?_))
    | (clear 30 (PI _ _ _ (RI _ (Eb _)));refine Xv ?_))
  | (clear 30 (PGs ..);first
    | refine R8 ?_ ?_
    | exact UQ)
  | (clear 30 (PPf ..);first
    | refine Sa ?_ ?_
    | exact UZ)
  | (clear 30 (PIf ..);first
    | exact UR)
  | (clear 30 (PW ..);first
    | (clear 30 (PW _ (.BoolOp .Or (_ :: _ :: _) _) (RT _ (fOr _ _)));refine ZH ?_ ?_)
    | (clear 30 (PW _ (.BoolOp .Or [_] _) (RT _ _));refine XH ?_)
    | (clear 30 (PW _ (.BoolOp .And (_ :: _ :: _) _) (RT _ (KL _ _)));refine XG ?_ ?_)
    | (clear 30 (PW _ (.BoolOp .And [_] _) (RT _ _));refine U3 ?_))
  | (clear 30 (PO ..);first
    | refine UY ?_
    | exact UX)
theorem all_ok (M:Md K mg A fd):∀(n:Nat) (x:Fx),okK (kd x) P w K mg base (2 * n + 2) (A x) (fd x) (ps x) (run n x)
 | 0,x=>SJ
 | n + 1,x=>by
   have ih:=all_ok M n;exact step M ih x
end
abbrev fno (x:Fx)(kV dc pm:Value)(an:Option Addr)(cd ct:Value):FuncData:=PySem.W.fnOf (nm x) (ql x) (Cw (st x)) (A0 (st x)) (Al (st x)) .none kV dc pm an cd ct
structure At (K:PySem.W.Frag)(x:Fx)(f:Addr)(fd:FuncData):Prop where
 a:me x=false->PySem.W.nsIn K mainGlobals (nm x)=some (some (.ref f))
 m:me x=true->∃C,PySem.W.nsIn K mainGlobals (ow x)=some (some (.ref C))/\PySem.W.findIn K (.ref C) (nm x)=some (some (.ref f))/\PySem.W.isFn K (.ref f)=true
 fn:Fun K (nm x) (ql x) (st x) f fd
 bd:Binds K fd (ps x) []
 eq:∃kV dc pm an cd ct,fd=fno x kV dc pm an cd ct
theorem at_mk {K:PySem.W.Frag}{x:Fx}{f:Addr}{od an:Option Addr}{sl:Array (Option Value)}{oc kV dc pm cd ct:Value}(e:me x=false)(a:PySem.W.nsIn K mainGlobals (nm x)=some (some (.ref f)))(l:K.lookup f=some ⟨oc,od,.func (fno x kV dc pm an cd ct),sl⟩)(c:PySem.W.codeIn K cd (ql x)=true)(k:PySem.W.keepIn K (.ref f)=true):∃p:Addr×FuncData,At K x p.1 p.2:=by
 refine ⟨(f,fno x kV dc pm an cd ct),λ_=>a,λz=>(by rw [e] at z;cases z),ET (st:=st x) l c k,(ET (st:=st x) l c k).binds (ps:=ps x) λ_ _ _ _ _ _ us hl=>?_,_,_,_,_,_,_,rfl⟩
 cases x <;> first | (obtain rfl:=ua2 hl;rfl) | (obtain ⟨_,rfl⟩:=us1 hl;rfl) | (obtain ⟨_,_,rfl⟩:=us2 hl;rfl) | (obtain ⟨_,_,_,rfl⟩:=us3 hl;rfl) | (obtain ⟨_,_,_,_,rfl⟩:=us4 hl;rfl) | (obtain ⟨_,_,_,_,_,rfl⟩:=us5 hl;rfl) | (obtain ⟨_,_,_,_,_,_,rfl⟩:=us6 hl;rfl) | (obtain ⟨_,_,_,_,_,_,_,rfl⟩:=us7 hl;rfl)
theorem W0 {K:PySem.W.Frag}{x:Fx}{f C:Addr}{od an:Option Addr}{sl:Array (Option Value)}{oc kV dc pm cd ct:Value}(e:me x=true)(hc:PySem.W.nsIn K mainGlobals (ow x)=some (some (.ref C)))(a:PySem.W.findIn K (.ref C) (nm x)=some (some (.ref f)))(l:K.lookup f=some ⟨oc,od,.func (fno x kV dc pm an cd ct),sl⟩)(c:PySem.W.codeIn K cd (ql x)=true)(k:PySem.W.keepIn K (.ref f)=true)(t:PySem.W.isFn K (.ref f)=true):∃p:Addr×FuncData,At K x p.1 p.2:=by
 refine ⟨(f,fno x kV dc pm an cd ct),λz=>(by rw [e] at z;cases z),λ_=>⟨C,hc,a,t⟩,ET (st:=st x) l c k,(ET (st:=st x) l c k).binds (ps:=ps x) λ_ _ _ _ _ _ us hl=>?_,_,_,_,_,_,_,rfl⟩
 cases x <;> first | (obtain rfl:=ua2 hl;rfl) | (obtain ⟨_,rfl⟩:=us1 hl;rfl) | (obtain ⟨_,_,rfl⟩:=us2 hl;rfl) | (obtain ⟨_,_,_,rfl⟩:=us3 hl;rfl) | (obtain ⟨_,_,_,_,rfl⟩:=us4 hl;rfl) | (obtain ⟨_,_,_,_,_,rfl⟩:=us5 hl;rfl) | (obtain ⟨_,_,_,_,_,_,rfl⟩:=us6 hl;rfl) | (obtain ⟨_,_,_,_,_,_,_,rfl⟩:=us7 hl;rfl)
theorem xm_all {K:PySem.W.Frag}{h:Heap}{mg:Str->Option Value}{P c1 c2 c3 c4:Addr}{f:Addr}{od an:Option Addr}{sl:Array (Option Value)}{oc kV dc pm cd ct:Value}{f2:Addr}{od2 an2:Option Addr}{sl2:Array (Option Value)}{oc2 kV2 dc2 pm2 cd2 ct2:Value}(X:K.In h)(G:h.Ns mainGlobals mg)(p:PySem.W.nsIn K mainGlobals "ParleyError" = some (some (.ref P)))(a1:PySem.W.nsIn K mainGlobals "NoValue" = some (some (.ref c1)))(a2:PySem.W.nsIn K mainGlobals "Short" = some (some (.ref c2)))(a3:PySem.W.nsIn K mainGlobals "Broken" = some (some (.ref c3)))(a4:PySem.W.nsIn K mainGlobals "NoTalk" = some (some (.ref c4)))(q:Pf K P [c1,c2,c3,c4]=true)(nd:[P,c1,c2,c3,c4].Nodup)(fi:PySem.W.findIn K (.ref c4) "__init__" = some (some (.ref f)))(l:K.lookup f=some ⟨oc,od,.func (PySem.W.fnOf "__init__" "NoTalk.__init__" (Cw (Bb (top 5) 0)) (A0 (Bb (top 5) 0)) (Al (Bb (top 5) 0)) .none kV dc pm an cd ct),sl⟩)(ii:Gi K c4 f=true)(hf:PySem.W.isFn K (.ref f)=true)(hs:PySem.W.findIn K (.ref c4) "__setattr__" = some (some (.builtin "object.__setattr__")))(cc:PySem.W.codeIn K cd "NoTalk.__init__" = true)(k:PySem.W.keepIn K (.ref f)=true)(fi2:PySem.W.findIn K (.ref c3) "__init__" = some (some (.ref f2)))(l2:K.lookup f2=some ⟨oc2,od2,.func (PySem.W.fnOf "__init__" "Broken.__init__" (Cw (Bb (top 4) 0)) (A0 (Bb (top 4) 0)) (Al (Bb (top 4) 0)) .none kV2 dc2 pm2 an2 cd2 ct2),sl2⟩)(ii2:Gi K c3 f2=true)(hf2:PySem.W.isFn K (.ref f2)=true)(hs2:PySem.W.findIn K (.ref c3) "__setattr__" = some (some (.builtin "object.__setattr__")))(cc2:PySem.W.codeIn K cd2 "Broken.__init__" = true)(k2:PySem.W.keepIn K (.ref f2)=true)(n1:Ka K c1=true)(n2:Ka K c2=true):∃(P:Addr) (ca:Str->Addr),XM K mg P ca/\(XF1 K (ca "NoTalk") P "NoTalk.__init__" (Bb (top 5) 0)/\XF2 K (ca "Broken") P "Broken.__init__" (Bb (top 4) 0))/\∀n∈(["NoValue", "Short"]:List Str),XN0 K (ca n):=by
 have x:=aP X G p a1 a2 a3 a4 q nd;refine ⟨P,_,x,⟨Zo (C:=c4) (st:=(Bb (top 5) 0)) ⟨x.cl "NoTalk" (by decide),x.kp "NoTalk" (by decide),x.gt "NoTalk" (by decide),x.gc "NoTalk" (by decide),x.na "NoTalk" (by decide),x.nd "NoTalk" (by decide)⟩ ii hf hs l cc k (λ_ _ _ _ _ _ us hl=>by match us,hl with | [_,_],_=>rfl),Zp (C:=c3) (st:=(Bb (top 4) 0)) ⟨x.cl "Broken" (by decide),x.kp "Broken" (by decide),x.gt "Broken" (by decide),x.gc "Broken" (by decide),x.na "Broken" (by decide),x.nd "Broken" (by decide)⟩ ii2 hf2 hs2 l2 cc2 k2 (λ_ _ _ _ _ _ us hl=>by match us,hl with | [_,_,_],_=>rfl)⟩,?_⟩;intro n hn;simp only [ul9,ui3,or_false] at hn;rcases hn with rfl | rfl
 ·exact Rt n1
 ·exact Rt n2
theorem fin_mk {K:PySem.W.Frag}{h:Heap}{mg:Str->Option Value}{fa:Addr}(X:K.In h)(G:h.Ns mainGlobals mg)(hmg:mg "law" = some (.ref fa))(H:∀x:Fx,∃p:Addr×FuncData,At K x p.1 p.2)(eC:PySem.W.nsIn K mainGlobals "bool" = some none)(eA:PySem.W.nsIn K mainGlobals "dict" = some none)(eF:PySem.W.nsIn K mainGlobals "int" = some none)(d8:PySem.W.nsIn K mainGlobals "isinstance" = some none)(eO:PySem.W.nsIn K mainGlobals "len" = some none)(dX:PySem.W.nsIn K mainGlobals "list" = some none)(eN:PySem.W.nsIn K mainGlobals "min" = some none)(eM:PySem.W.nsIn K mainGlobals "ord" = some none)(dJ:PySem.W.nsIn K mainGlobals "range" = some none)(eK:PySem.W.nsIn K mainGlobals "str" = some none)(eL:PySem.W.nsIn K mainGlobals "sum" = some none)(dM:PySem.W.nsIn K mainGlobals "tuple" = some none){eG:Tok}(d6:PySem.W.nsIn K mainGlobals "FIRST_SIGN" = some (some (.int 32 eG))){eJ:Tok}(d7:PySem.W.nsIn K mainGlobals "LAST_SIGN" = some (some (.int 126 eJ))){dZ:Tok}(d5:PySem.W.nsIn K mainGlobals "PERCENT_SIGN" = some (some (.int 37 dZ))){eX:Tok}(dI:PySem.W.nsIn K mainGlobals "SIGNS" = some (some (.str " !\"#$ &'()*+,-./0123456789:;<=>?@ABCDEFGHIJKLMNOPQRSTUVWXYZ[\\]^_`abcdefghijklmnopqrstuvwxyz{|}~" eX)))(xm:∃(P:Addr) (ca:Str->Addr),XM K mg P ca/\(XF1 K (ca "NoTalk") P "NoTalk.__init__" (Bb (top 5) 0)/\XF2 K (ca "Broken") P "Broken.__init__" (Bb (top 4) 0))/\∀n∈(["NoValue", "Short"]:List Str),XN0 K (ca n)){dS dN:Addr}(eY:PySem.W.nsIn K mainGlobals "Side" = some none)(eI:PySem.W.nsIn K mainGlobals "Lasting" = some none)(eR:PySem.W.nsIn K mainGlobals "Parley" = some none)(eE:PySem.W.nsIn K mainGlobals "Listener" = some none)(eT:PySem.W.nsIn K mainGlobals "Relay" = some none)(eW:PySem.W.nsIn K mainGlobals "Desk" = some none)(dH:PySem.W.nsIn K mainGlobals "Hearer" = some (some (.ref dS)))(d4:PySem.W.nsIn K mainGlobals "Reader" = some (some (.ref dN)))(eP:Oy K dN=true)(eQ:ON K dN=true)(dO:PySem.W.findIn K (.ref dN) "state" = PySem.W.findIn K (.ref dS) "state")(dR:PySem.W.findIn K (.ref dN) "hear" = PySem.W.findIn K (.ref dS) "hear")(d9:PySem.W.findIn K (.ref dN) "unread_of" = PySem.W.findIn K (.ref dS) "unread_of")(eS:byB K dS "__init__" = true):∃(A:Fx->Addr) (fd:Fx->FuncData),Md K mg A fd/\A .law_=fa/\∀(s:Shared) (u:Value),BindsTo s (fd .law_) ⟨[u],[]⟩ [("script",u)]:=by
 obtain ⟨F,hF⟩:=Classical.axiomOfChoice H;have fm:∀x,me x=true->∀C,PySem.W.nsIn K mainGlobals (ow x)=some (some (.ref C))->PySem.W.findIn K (.ref C) (nm x)=some (some (.ref (F x).1))/\PySem.W.isFn K (.ref (F x).1)=true:=λx hx C h=>by
  obtain ⟨C,e1,e2,e3⟩:=(hF x).m hx;have e4:=e1.symm.trans h
  cases e4
  exact ⟨e2,e3⟩
 have eH:=fm .AB rfl _ dH;have dY:=fm .AK rfl _ dH;have eB:=fm .AN rfl _ dH;have dL:=fm .Ax rfl _ dH;have dQ:=fm .AC rfl _ d4;have eD:=fm .AH rfl _ d4;have dU:=fm .AD rfl _ d4;have cm:CM K:=Zt λn hn=>by
  simp only [KJ,ul9,ui3,or_false] at hn;rcases hn with rfl | rfl | rfl | rfl | rfl | rfl | rfl
  ·exact .inr ⟨_,d4,eP⟩
  ·exact .inl eY
  ·exact .inl eI
  ·exact .inl eR
  ·exact .inl eE
  ·exact .inl eT
  ·exact .inl eW
 refine ⟨λx=>(F x).1,λx=>(F x).2,{ fn:=λx=>(hF x).fn,mgs:=λx e=>um9 X G ((hF x).a e),bd:=λx=>(hF x).bd,cm:=cm,L8:=⟨_,d4,um9 X G d4,ZO eQ dQ.1 dQ.2,⟨eD.1,eD.2,Fun.kp (hF .AH).fn⟩,⟨dU.1,dU.2,Fun.kp (hF .AD).fn⟩,⟨dO.trans dY.1,dY.2,Fun.kp (hF .AK).fn⟩,⟨dR.trans eB.1,eB.2,Fun.kp (hF .AN).fn⟩,⟨d9.trans dL.1,dL.2,Fun.kp (hF .Ax).fn⟩⟩,eU:=⟨_,um9 X G dH,Zs eS eH.1 (Fun.kp (hF .AB).fn)⟩,xm:=xm,eC:=ug1 X G eC,eA:=ug1 X G eA,eF:=ug1 X G eF,d8:=ug1 X G d8,eO:=ug1 X G eO,dX:=ug1 X G dX,eN:=ug1 X G eN,eM:=ug1 X G eM,dJ:=ug1 X G dJ,eK:=ug1 X G eK,eL:=ug1 X G eL,dM:=ug1 X G dM,d6:=⟨eG,um9 X G d6⟩,d7:=⟨eJ,um9 X G d7⟩,d5:=⟨dZ,um9 X G d5⟩,dI:=⟨eX,um9 X G dI⟩ },?_,λs u=>?_⟩
 ·have e:=hmg.symm.trans (um9 X G ((hF .law_).a rfl))
  cases e
  rfl
 ·obtain ⟨_,_,_,_,_,_,e⟩:=(hF .law_).eq;show BindsTo s (F .law_).2 _ _;rw [e];exact .of_eq rfl
theorem walk {l:PySem.W.OpenLaw}{q:Program}{loose:List Str}{XP:(Str->Option Value)->Heap->Prop}{YP:World->Heap->Prop}{d:DefRec}{K:Params->PySem.W.Frag}(m:Nat)(hm:Room (2 * m + 2) callerA)(hn:l.most=some 63)(hdf:d.params.defaults=[])
 (hY:∀(w:World) (h:Heap),YP w h->(K w.params).In h) (lt:∀ns:List Int,ns.length<=63->∃S',run m .law_ [.scr ns] []=some (.bl true,S'))
 (F:∀(w:World) (mg:Str->Option Value) (fa:Addr) (h:Heap),(K w.params).In h->h.Ns mainGlobals mg->mg d.name=some (.ref fa)->
   ∃(A:Fx->Addr) (fd:Fx->FuncData),Md (K w.params) mg A fd/\A .law_=fa/\∀(s:Shared) (u:Value),BindsTo s (fd .law_) ⟨[u],[]⟩ [("script",u)]) :
 PySem.W.WalkO q loose XP YP l.row.toRowW d [] (λf vs=>PySem.call f vs):=
 L2.WL (n:=63) (k:=2 * m + 2) (x:="script") (CX:=λ_=>CX0) (sp:=λw=>spF (K w.params) (run m .law_)) hn (by decide) hdf hm hY
  (λw mg fa h KX G hmg=>by obtain ⟨A,fd,M,e,b⟩:=F w mg fa h KX G hmg;subst e;exact ⟨fd .law_,b,λbase _ _=>all_ok M m .law_⟩)
  (λw H a ns hl hO hS=>by obtain ⟨S',e⟩:=lt ns hl;exact Qm hO hS e) λ_ _ _ _ _ z=>z
theorem Vp (k:Nat):Nu (run (k + 1) .Cj):=λd h=>MC h
theorem Kq (k:Nat):GA (run (k + 2) .AY):=Rp (Vp k)
theorem M8 (k:Nat):JC (run (k + 1) .CQ):=OJ
theorem TB (k:Nat):LY (run (k + 2) .Ci):=Mw (M8 k)
theorem Je:∀(n k:Nat),2 * n + 3<=k->Fr (run k .DS) n
 | 0,k,_=>λs hs=>absurd s.depth_pos (by lia)
 | n + 1,k,h=>by
   obtain ⟨j,rfl⟩:∃j,k=j + 4:=Nat.exists_eq_add_of_le' (by lia);have ih:=Je n (j + 2) (by lia);exact UT (KN ih (Kq j)) (Mu ih) (Mt ih) (TB (j + 1)) (Kq (j + 1))
theorem MD (k:Nat):G9 (run (k + 1) .CS):=Ve
theorem SI (k:Nat):LS (run (k + 2) .BE):=Vr (MD k)
theorem Of (k:Nat):JD (run (k + 1) .Bz):=TU
theorem Jd:∀(n k:Nat),n + 3<=k->Ge (run k .A6) n
 | 0,k,_=>λs hs=>absurd s.depth_pos (by lia)
 | n + 1,k,h=>by
   obtain ⟨j,rfl⟩:∃j,k=j + 3:=Nat.exists_eq_add_of_le' (by lia);exact US (Jd n (j + 2) (by lia)) (Of (j + 1)) (SI j)
theorem L7 (k:Nat):BXw (run (k + 1) .Co):=W6
theorem Y5 (k:Nat):UXw (run (k + 2) .Bv):=Y6 (L7 k)
theorem YV (k:Nat):SXw (run (k + 2) .Dw):=YW (M8 k) (L7 k)
theorem MW:∀(n k:Nat),2 * n + 4<=k->Ha (run k .Bp) n
 | 0,k,_=>λs hs=>absurd s.depth_pos (by lia)
 | n + 1,k,h=>by
   obtain ⟨j,rfl⟩:∃j,k=j + 5:=Nat.exists_eq_add_of_le' (by lia);exact O2 rfl rfl rfl rfl rfl (Y5 (j + 1)) (YV (j + 1)) (MD (j + 2)) (L7 (j + 2)) (Of (j + 2)) (MW n (j + 3) (by lia))
theorem Vj (k:Nat):Rv (run (k + 17) .BF):=Vi (MW 6 (k + 16) (by lia))
theorem Kc (k:Nat):HU (run (k + 18) .CY):=Nq (Vj k)
theorem O8 (k:Nat):HV (run (k + 19) .Dx):=Nt (Kc k)
theorem Sn (k:Nat):DQ (run (k + 19) .AN):=Sm (Kc k)
theorem Ms (k:Nat):DQ (run (k + 20) .AH):=R6 (Sn k)
theorem Ll (k:Nat):HQ (run (k + 1) .DC):=Qh
theorem P7 (k:Nat):Og (run (k + 2) .BD):=Si (Ll k)
theorem P9 (k:Nat):Kr (run (k + 3) .AB):=Sq (P7 k)
theorem MA (k:Nat):Gf (run (k + 4) .AC):=U9 (P9 k)
theorem Rr (k:Nat):Kw (run (k + 2) .CL):=TV (Ll k)
theorem OV (k:Nat):IR (run (k + 3) .BQ):=KR (Rr k)
theorem OW (k:Nat):IS (run (k + 16) .BY):=LF (Je 6 (k + 15) (by lia)) (OV (k + 12))
theorem SH (k:Nat):LR (run (k + 1) .BZ):=Vn
theorem Q9 (k:Nat):LX (run (k + 17) .CJ):=Wx (SH (k + 15)) (OW k)
theorem SG (k:Nat):Oi (run (k + 10) .Bu):=XY (Jd 6 (k + 9) (by lia))
theorem Ro (k:Nat):JE (run (k + 18) .CK):=WM (SG (k + 7)) (Q9 k)
theorem WB:VBF (run 98 .BR):=Y7 (Jd 6 97 (by decide)) (Je 6 97 (by decide))
theorem RM (k:Nat):Ku (run (k + 1) .BB):=SO
theorem Td (k:Nat):Kv (run (k + 2) .Bw):=Te (RM k)
theorem Lp (k:Nat):JB (run (k + 2) .Bw):=QN
theorem FT (k:Nat):PTakeOk (run (k + 1) .Bq):=Tj
theorem Ls:∀(n k:Nat),n + 1<=k->PShapeOk (run k .BJ) n
 | 0,k,_=>λd a b S h=>absurd h (by lia)
 | n + 1,k,h=>by
   obtain ⟨j,rfl⟩:∃j,k=j + 2:=Nat.exists_eq_add_of_le' (by lia);exact QQ (FT j) (.inr (Ls n (j + 1) (by lia)))
theorem Oe:∀(n k:Nat),n + 1<=k->PValOk (run k .BK) n
 | 0,k,_=>λs a b S h=>absurd s.depth_pos (by lia)
 | n + 1,k,h=>by
   obtain ⟨j,rfl⟩:∃j,k=j + 2:=Nat.exists_eq_add_of_le' (by lia);exact VX (FT j) (.inr (Oe n (j + 1) (by lia)))
theorem Sk:HR (run 99 .BC):=SZ (FT 97) (Ls 3 98 (by decide)) (Td 96)
theorem law_true (ns:List Int)(h:ns.length<=63):∃S',run 100 .law_ [.scr ns] []=some (.bl true,S'):=by
 obtain ⟨r,S',e,p⟩:=ZN (Ms 79) (MA 95) (O8 80) (Ro 81) OM (OL WB) (Tc (Oe 3 98 (by decide)) (FT 97) (Lp 96)) Sk (XX (Ms 78) (MA 94)) (QI (FT 97) (Lp 96)) (ns:=ns) h;subst p;exact ⟨S',e⟩
end K35
structure PySem.W.Fast:Prop where(tw10112069684951074691 tw10300313591560652309 tw10494865911071025843 tw10500662095898226944 tw10526648650167732039 tw10748679396981509097 tw10791331237672429007 tw10830844883575627702 tw10864709443031859714 tw10883282055848787001 tw10914827682923097717 tw11031117479227691417 tw11164206738192774832 tw11263629966214810390 tw11419941755758955542 tw11529264858478876766 tw11829441701865340382 tw11845522938914087409 tw11997346037591436905 tw12039101927094065362 tw12156216388148544908 tw12167589265184899592 tw12245130593006239944 tw12287364730727259214 tw12288332579670252104 tw12377012249586927034 tw12868697487610853760 tw12870991276233472765 tw13108106682147844750 tw13310809901061846894 tw13367406611910793835 tw1339330922789093139 tw13460361075701343122 tw13519572025568538155 tw1361530585154875767 tw13915282451577393739 tw14015338361258116955 tw1408080755877897547 tw14131384334581386952 tw14231967427492980175 tw14422925567632338093 tw14503488810020172177 tw1463176683251370545 tw14720393140639991943 tw14720401171995818197 tw14914076085016186543 tw14964668065870213864 tw15038597207115786255 tw15151803086607516508 tw15242502621524463232 tw15358599792095038194 tw1537009966587123204 tw15510820240416354367 tw15566173688782192364 tw15651512003886166405 tw15671013857030543871 tw15858566148024657623 tw15928958169127594159 tw16046871081473333357 tw16086698141171711172 tw16256660540701293675 tw16292565564251339937 tw16649916534306792964 tw16707626686449547982 tw16717692066213225971 tw16788113858616450775 tw16805937366047171526 tw17088750848856650393 tw17139549654434095105 tw17164315656998622986 tw17187761161694644279 tw17240781878510713229 tw17659411180017934336 tw177383075198363713 tw17741952803482810447 tw17803867802653991121 tw17828066248396091889 tw1783993779289644171 tw18068149615596376278 tw1814538367052422359 tw18265367435230712134 tw18385849769466684349 tw18404233254783614810 tw2010659985782054214 tw2073109421675640945 tw2080744047329877431 tw2109941936526195998 tw2323297414862792514 tw2482186455194996831 tw2536613886860276223 tw2822652100144686457 tw3082908730844949186 tw3144020699130386966 tw3218481547951540407 tw3244516366162502650 tw3298769937863089283 tw3487881187293387762 tw371089946903630889 tw3843221772407231684 tw4228529562820008440 tw444974233661831554 tw4452419949965918685 tw4455196002753151482 tw4613850711109580083 tw4629013676053337835 tw4792557221836759906 tw4983217585515221455 tw5046915645803918649 tw5267595783759535189 tw5314703219984139874 tw534788565202712246 tw5416967782218194612 tw5475445277098061195 tw5812938745573834366 tw5944340823648770325 tw6263450584010321139 tw6273441043379010762 tw6307953279850331762 tw6462474339073020102 tw6584230633814690433 tw6652443755682080231 tw6755174268919785258 tw6762989591097786373 tw6771436000875972136 tw6849519110843806269 tw7276175504434010095 tw730210439446400840 tw7434663825575522260 tw7510761671696506827 tw7532089716008545643 tw7612049514492838052 tw7840187182785096078 tw7857310501159618159 tw7921779358187506151 tw7940395298515173032 tw813931116361706219 tw819511678045604327 tw82051183689376316 tw838954391859078027 tw8426282527271320024 tw8513450209949202896 tw8652390899576665582 tw8761971694229789912 tw8881140827589629200 tw8888865528877702111 tw9229909621647683482 tw9501892552152722332 tw967170393133740002 tw9703621229331737938 tw9836775608123846173 tw9938675526919978339 tw10939819002593666011 tw9256410102077712460 tw166328193979825945 tw4676920240823874735 tw10398289057287766196 tw8470854921738524762 tw12111211291950140343 tw3864613540735960053 tw414672625802738304 tw11178470454561057902 tw5739715793615181553 tw1277058568092627318 tw8806126873730899191 tw10110817959677348110 tw337982647210024761 tw10510819853776602330 tw4919776351178670374 tw8946973710902142666 tw8401419037267198979 tw8185123148410192253 tw7250505575709821811 tw14654112356292162057 tw349249281215629191 tw5745219504202172993 tw11040800126152953563 tw13134852364767777772 tw6396411505652644758 tw3395767352876414546 tw7194427884559607339 tw15588746123120401838 tw14804403729169422001 tw10970055905811202213 tw386185064183199925 tw14879750265246637249 tw15871658318252765553 tw18222544303793265073 tw12099301020331290722 tw15166361502929208514 tw9386625289013022815 tw5038582708658369372 tw14888184393869396343 tw16018145650896544162 tw350512385551826310 tw14848542868249444658 tw14483838689922265108 tw3968969768139293821 tw11872052913566500052 tw16456455357532228210 tw16311523091120297081 tw11349023502351723710 tw8163453613849796374 tw1195834668943494215 tw17325460682580352209 tw6549318855352139247 tw14537548230173524303 tw543409446286712637 tw13544677686272403511 tw607253352559893778 tw8741482622085138626 tw18272198212709781664 tw13203272246649886153 tw17507800139085233887 tw455174380891711399 tw9405702221790597975 tw10260320550319065451 tw2769946166344870485 tw16219553890671791986 tw17906522841435834989 tw6405514076862037986 tw17238247913073826041 tw16927091313746131829 tw3491679213161765996 tw12457826064357179913 tw2160877955494040023 tw13974699434355807296 tw10487808057013233446 tw12875943774030226989 tw1168830171690813846 tw4218973924811748357 tw14368222063200269512 tw16069668407275456834 tw11025501014599970566 tw4152668946489803868 tw13743179265382474366 tw16218267635296879942 tw2590776765920509315 tw2252595922786481697 tw16918207099513089268 tw17028692929759369877 tw4828724046800412309 tw8799570208255476686 tw11452855404724363045 tw11989021314327827423 tw16264104809459308154 tw11094583582822365887 tw11233435549926419546 tw11921131086654720805 tw6923120166575980560 tw76490937777153665 tw7830847562101591976 tw13461503243785688032 tw6455753053804733321 tw14908181845289494708 tw4506651869350282542 tw9240794752173472589 tw14240575970984037599 tw4510574031251659027 tw10246964521935367849 tw2377738677416903193 tw18030233688068359442 tw5719409035176725171 tw12711444275427792010 tw13447334811022111463 tw779685815750006153 tw9895982465099935686 tw724865074377462817 tw7088884071705943594 tw4351792497692626519 tw15107653689483940562 tw9187375568697064050 tw17710194098481651120 tw10719796519903307996 tw10525387093718497349 tw13964094088968203679 tw2857232474235531050 tw14312916631420768176:True)
open PySem PySem.W PyProof.Rows
set_option maxRecDepth 100000 in
set_option maxHeartbeats 0 in
theorem PySem.Challenge.cw_wireparley_k35_long_talks_holds : PySem.Challenge.rw_wireparley_k35_long_talks.Holds := by
 w_on;o_law;k_head;(case hw=>w_witness2)
 k_fill
 refine K35.walk (l:=PySem.Challenge.rw_wireparley_k35_long_talks) 100 ⟨rfl,by decide,by decide⟩ rfl rfl (λw h Y=>PySem.W.kIn_of Y) K35.law_true ?F
 case F=>
  intro w mg fa h KX G hmg;refine' K35.fin_mk KX G hmg ?H ?eC ?eA ?eF ?d8 ?eO ?dX ?eN ?eM ?dJ ?eK ?eL ?dM ?d6 ?d7 ?d5 ?dI ?xm ?eY ?eI ?eR ?eE ?eT ?eW ?dH ?d4 ?eP ?eQ ?dO ?dR ?d9 ?eS
  (case H=>intro x;cases x <;> first | (refine' K35.at_mk rfl ?a ?l ?c ?k;(case a=>k_is);(case l=>k_is);(case c=>k_is);(case k=>k_is)) | (refine' K35.W0 rfl ?h ?a ?l ?c ?k ?t;(case h=>k_is);(case a=>k_is);(case l=>k_is);(case c=>k_is);(case k=>k_is);(case t=>k_is)))
  (case eY=>k_is)
  (case eI=>k_is)
  (case eR=>k_is)
  (case eE=>k_is)
  (case eT=>k_is)
  (case eW=>k_is)
  (case dH=>k_is)
  (case d4=>k_is)
  (case eP=>kernel_rfl)
  (case eQ=>kernel_rfl)
  (case dO=>kernel_rfl)
  (case dR=>kernel_rfl)
  (case d9=>kernel_rfl)
  (case eS=>kernel_rfl)
  (case eC=>k_is)
  (case eA=>k_is)
  (case eF=>k_is)
  (case d8=>k_is)
  (case eO=>k_is)
  (case dX=>k_is)
  (case eN=>k_is)
  (case eM=>k_is)
  (case dJ=>k_is)
  (case eK=>k_is)
  (case eL=>k_is)
  (case dM=>k_is)
  (case d6=>k_is)
  (case d7=>k_is)
  (case d5=>k_is)
  (case dI=>k_is)
  (case xm=>refine' K35.xm_all KX G ?x_p ?x_a1 ?x_a2 ?x_a3 ?x_a4 ?x_q ?x_nd ?x_fi ?x_l ?x_ii ?x_hf ?x_hs ?x_cc ?x_k ?y_fi ?y_l ?y_ii ?y_hf ?y_hs ?y_cc ?y_k ?x_n1 ?x_n2;(case x_p=>k_is);(case x_a1=>k_is);(case x_a2=>k_is);(case x_a3=>k_is);(case x_a4=>k_is);(case x_q=>kernel_rfl);(case x_nd=>decide);(case x_fi=>k_is);(case x_l=>k_is);(case x_ii=>kernel_rfl);(case x_hf=>k_is);(case x_hs=>k_is);(case x_cc=>k_is);(case x_k=>k_is);(case y_fi=>k_is);(case y_l=>k_is);(case y_ii=>kernel_rfl);(case y_hf=>k_is);(case y_hs=>k_is);(case y_cc=>k_is);(case y_k=>k_is);(case x_n1=>kernel_rfl);(case x_n2=>kernel_rfl))
